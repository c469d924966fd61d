import PyProof.Rows.All
import Wide.All
import OpenK.AllK
import Wide.FinOn
import Lean
import PyProof.EqAt
import PyProof.EqKinds
import PyProof.TupleCall
import PyProof.NeKinds
import PyProof.TupleKey
import PyProof.DictFindH
import PyProof.NsDelKeeps
import PyProof.ExcBaseAll.ValueError
import KE.KIsAll
import PyProof.ExcArgsOwn
import PyProof.ExcAttrAll.ValueError
import KE.KSortTup
import KE.KDictList
import PyProof.Rows.SortWalk
import KE.KEqDict
import KE.KLam
import KE.KRevIter
import PyProof.InstStoreFacts
import PyProof.ExcClass3
import PyProof.Rows.SumAny
import KE.KFind
import PySem.Challenge.RW_twigmap_k42_takes
open PySem renaming wpAny_bind→aa,wpAny_pure→ad,wpAny_mono→ae,wpAny_holding→af,wpAny_Call_Name_kw→ag,Value→ah,Addr→ai,Shared→aj,Program→ak,FuncData→al,mainGlobals→am,sizeLine→ao,starEach→aq,World→ar,Around→aw,bootBuiltins→ax,compareOp→ay,model→az,wpAny→aA,Stmt→aB,Heap→aC,Scope→aD,backTo→aE,eval→aF,Obj→aG
universe u
set_option compiler.extract_closed false
theorem aH{p:Prop}[Decidable p](h:¬p):decide p=false:=decide_eq_false h
theorem aI{p:Prop}[Decidable p](h:p):decide p=true:=decide_eq_true h
theorem aJ{c:Prop}{h:Decidable c}(n:¬c){α:Sort u}{t e:α}:(ite c t e)=e:=if_neg n
theorem aK{c:Prop}{h:Decidable c}(n:c){α:Sort u}{t e:α}:(ite c t e)=t:=if_pos n
set_option Elab.async false
set_option linter.all false
set_option maxRecDepth 100000
set_option maxHeartbeats 8000000
open List renaming getD_eq_getElem?_getD->zV,getElem?_eq_getElem->zQ,length_map->zX,mem_cons_of_mem->zO,mem_cons_self->zS,length_cons->zR,mem_of_getElem?->zL,getElem?_eq_some_iff->zB,length_append->zN,mem_singleton->zK,mem_cons->zU,size_toArray->zJ,take_of_length_le->yV,mem_map->zP,getElem?_map->zG,map_append->zF,mem_append->zD,mem_append_right->yP,take_add_one->yR,nodup_cons->yW,append_nil->yS,all_eq_true->yQ,mem_append_left->yF,sublist_append_right->xV,map_cons->yT,sublist_append_left->xP,mem_filter->yN,Sublist->yU,length_drop->yE,drop_eq_getElem_cons->wZ,getElem?_append_right->wP,nodup_append->xR,pairwise_append->xD,mem_flatMap->xT,length_take->xU,flatMap_cons->xO,filter_append->xG,take_append_drop->xA,eq_nil_of_length_eq_zero->vT,append_assoc->xH,length_singleton->wQ,getElem_mem->xI,filter_cons->xJ,pairwise_cons->xB,range->yJ,lookup_cons->xE,toArray->xZ,getElem?_of_mem->wF,getElem?_append_left->vN,Pairwise->xL,length_filter_le->vV,flatMap_append->vW,filter_eq_self->vX,mem_range->wX,length_set->wI,replicate->wJ,find?_cons->wA,eq_nil_or_concat->uX,cons_lt_cons_iff->uY,concat_eq_append->uZ,cons_append->vL,length_pos_iff->uU,filter_sublist->uV,getElem?_set_self->tY,filter_eq_nil_iff->tZ,lookup->wD,length->wM,mem_iff_getElem?->uB,mem_of_mem_drop->uC,getElem?_set_ne->uD,dropLast_concat_getLast->sH,any_cons->vQ,not_lt_nil->vF,filterMap_cons->uG,perm_ext_iff_of_nodup->sI,mem_filterMap->uI,all_map->vR,nodup_nil->vG,filter_cons_of_neg->sL,all_cons->vI,drop_of_length_le->sP,nil_append->uM,map_nil->vK,getElem?_eq_none->sQ,length_erase_le->sU,map_take->uP,map_drop->uQ,getElem?_take->tG,getElem?_drop->tH,pairwise_map->tI,getElem?_inj->tJ,eraseIdx_eq_take_drop_succ->qS,map_map->uA,eq_nil_iff_forall_not_mem->qT,take_length->sF,not_mem_nil->sG,nil_lt_cons->tL,any_eq_true->tM,of_mem_zip->tP,length_nil->tQ,forIn_cons->tR,exists_cons_of_ne_nil->rC,pairwise_iff_getElem->rJ,getLastD_eq_getLast?->rL,getLast_eq_getElem->rR,pairwise_flatMap->rT
open PySem.W renaming Frag->zZ,findIn->yY,nsIn->zC,kitOne->yO,mg_none_of->xX,keepIn->yG,mg_of->yH,mroIn->xY,fnOf->yD,kia_one->xK,emptyDict->wS,typeIn->wV,codeIn->wW,instObj->wG,plainGet->vZ,hasDictIn->vP,isFn->wL,plainOver->uW,makesIn->vB,hideAll->vC,callWith_K->uF,methodCall_KW->sM,lookIn->uL,plainGet_of->sR,looks_mroIn->sS,callWith_K0->sT,of_hideAll->sY,Looks->uO,methodObj->sZ,takerIn->rY,OpenLaw->rZ,KdlSrc->tN,cellsFrom_some->rD,looks_typeIn->rP,hideAll_none->rQ,hideAll_get->rS
open Bool renaming false_ne_true->zW,and_eq_true->zM,false_eq_true->xN,eq_iff_iff->wU,false_and->wC,and_false->vH,true_and->vJ,or_eq_false_iff->sW,not_true->uR,and_true->tT,and_eq_false_iff->rV
open Nat renaming le_refl->zY,le_of_ble_eq_true->yX,le_trans->zI,lt_of_lt_of_le->yI,zero_le->zE,ne_of_lt->yK,lt_or_ge->yL,lt_of_le_of_lt->wR,lt_succ_self->wT,le_of_lt->xM,le_of_eq->wY,succ->yB,lt_irrefl->wK,succ_le_succ->vD,le_add_right->vE,sub_lt_sub_left->uH,le_of_not_lt->uK,min_eq_left->uN,sub_le->vA,le_succ_of_le->sC,min_le_right->tO,le_succ->uS
open PySem.Heap renaming get?_push_of_some->zA,get?_push_size->yM,lt_size->zH,get?_update_self->wE,SameBut->yA,get?_update_other->vO,get?_none_of_le->sV,size_push->tS
open Option renaming map_eq_some_iff->yC,some->yZ,map_some->wH,isSome_iff_exists->tV,none->vS,bind_eq_some_iff->rH
open PySem.F renaming plainAttrs_list->xW,type_list_append->wN,slot_list_append->wO,slot_dict_keyiterator_next->rX,slot_tuple_hash->tW,slot_dict_pop->tX,plainAttrs_dict->sJ,slot_dict_get->sO,slot_dict_getitem->qU,type_list_remove->qV,type_list_extend->qW,slot_list_remove->qX,slot_list_extend->qY,plain_list_iadd->qZ,args_dict_pop_2->rA,args_dict_get_3->rB,slot_dict_iter->rE,entry_dict_pop->rF,entry_dict_get->rG,type_dict_pop->rO
open Array renaming getElem?_eq_getElem->xF,getElem?_eq_some_iff->vM,getElem?_toList->vU,length_toList->uE,forIn_toList->tF,toList_inj->sE,eraseIdxIfInBounds->rN,toList->tU,mem_toList_iff->rW
open PySem.Str renaming ofString->xQ
open Int renaming emod_lt_of_pos->vY,emod_nonneg->wB,toNat_natCast->uJ,fdiv_eq_ediv_of_nonneg->rM
local macro_rules|`(tactic|exists $e,*)=>`(tactic|refine ⟨$e,*, ?_⟩)
def Z{α:Sort u}{a:α}:a=a:=rfl
local macro_rules|`(∅)=>`(by lia)
local macro_rules|`(nofun)=>`(by lia (splits:=8))
local macro_rules|`(tactic|let $d:letDecl)=>let n:=d.raw[0];let l(s:Lean.Syntax)k:Lean.Syntax:=.node .none `Lean.Parser.Tactic.rcasesPatLo #[.node .none `Lean.Parser.Tactic.rcasesPatMed #[Lean.mkNullNode #[.node .none k s.getArgs]],Lean.mkNullNode];if n.getKind== ``Lean.Parser.Term.letPatDecl then let m:Lean.TSyntax `Lean.Parser.Tactic.rcasesPatMed:=⟨(n[0].rewriteBottomUp λs=>match s.getKind with|`ident=>l (Lean.mkNullNode #[s]) `Lean.Parser.Tactic.rcasesPat.one|`Lean.Parser.Term.hole=>l s `Lean.Parser.Tactic.rcasesPat.ignore|`Lean.Parser.Term.anonymousCtor=>l s `Lean.Parser.Tactic.rcasesPat.tuple|_=>s)[0]⟩;`(tactic|obtain $m:rcasesPatMed:=$(⟨n[4]⟩)) else `(tactic|have $d:letDecl)
abbrev ja:=PySem.Value->PySem.Shared->Prop
abbrev jb:=PySem.Str->Option PySem.Value
abbrev jc:=Option PySem.Value
abbrev jd:=List PySem.Value
abbrev zEa:List PySem.Str:=["self","number"]
abbrev zEb:List PySem.Str:=["_law_well_here","_law_many"]
abbrev zEc:List PySem.Str:=["_law_found","_law_due"]
abbrev zEd:List PySem.Str:=["shelf","root","key"]
abbrev zEe:List PySem.Str:=["shelf","root"]
abbrev zEf:List PySem.Str:=["shelf","stem","heir","steps"]
abbrev zEg:List PySem.Str:=["self","numbers"]
abbrev zEh:List PySem.Str:=["_law_well_here","_law_room"]
abbrev zEi:List PySem.Str:=["_law_table","_law_model","_law_spot"]
abbrev zEj:List PySem.Str:=["shelf","stem","number"]
abbrev zEk:List PySem.Str:=["self","key"]
abbrev zEl:List PySem.Str:=["shelf","steps"]
abbrev zEm:List PySem.Str:=["self","stem","branches"]
abbrev zEn:List PySem.Str:=["self","number","numbers"]
abbrev zEo:List PySem.Str:=["_law_well_here","_law_known"]
abbrev zEp:List PySem.Str:=["_law_well_here"]
abbrev zEq:List PySem.Str:=["self"]
abbrev zEr:List PySem.Str:=["_law_table","_law_model"]
abbrev zEs:List PySem.Str:=["_law_well_here","_law_shelf","_law_rows"]
abbrev zEt:List PySem.Str:=["_law_well_here","_law_bound"]
abbrev zEu:List PySem.Str:=["thing"]
abbrev zEv:List PySem.Str:=["step"]
abbrev zEw:List PySem.Str:=["shelf","steps","place"]
abbrev zEx:List PySem.Str:=["_law_script","_law_k"]
abbrev zEy:List PySem.Str:=["shelf","one","other"]
abbrev zEz:List PySem.Str:=["self","shelf","root"]
abbrev zE0:List PySem.Str:=["shelf","stem","left","lender"]
abbrev zE1:List PySem.Str:=["_law_spot"]
abbrev zE2:List PySem.Str:=["_law_table","_law_spot"]
abbrev zE3:List PySem.Str:=["rows"]
abbrev zE4:List PySem.Str:=["one","other"]
abbrev zE5:List PySem.Str:=["self","things","label"]
abbrev zE6:List PySem.Str:=["shelf","root","key","value"]
abbrev zE7:List PySem.Str:=["_law_well_here","_law_most"]
abbrev zE8:List PySem.Str:=["self","number","rows"]
abbrev zE9:List PySem.Str:=["_law_model"]
abbrev zFa:List PySem.Str:=["self","things","tag"]
abbrev zFb:List PySem.Str:=["self","road","label"]
abbrev zFc:List PySem.Str:=["self","key","value"]
abbrev zFd:List PySem.Str:=["thing","room"]
abbrev zFe:List PySem.Str:=["label","following"]
abbrev zFf:List PySem.Str:=["self","rows"]
abbrev zFg:List PySem.Str:=["shelf","found","key"]
abbrev zFh:List PySem.Str:=["self","labels"]
abbrev zFi:List PySem.Str:=["self","number","twig"]
abbrev zFj:List PySem.Str:=["shelf","stem"]
abbrev zFk:List PySem.Str:=["found"]
abbrev zFl:List PySem.Str:=["key"]
abbrev zFm:List PySem.Str:=["found","at"]
abbrev zFn:List PySem.Str:=["twig"]
abbrev zFo:List PySem.Str:=["number"]
abbrev zFp:List PySem.Str:=["labels"]
abbrev zFq:List PySem.Str:=["keys","key"]
abbrev zFr:List PySem.Str:=["_law_script"]
abbrev jj:=List Nat
abbrev jn:=List PySem.Str
abbrev jo:=List (ai×aG)
abbrev jp:=Option Nat
abbrev jq:=List (Nat×Nat)
abbrev js:=Array ah
abbrev jt:=List PySem.Env
abbrev ju:=Option ai
abbrev jv:=Array Nat
abbrev jw:=List PySem.Expr
abbrev jy:=List ai
abbrev jz:=Option Int
abbrev jA:=List Int
abbrev jB:=List aB
abbrev jC:=List (PySem.Str×ai)
abbrev jE:=List (PySem.Str×ah)
abbrev jG:=Option PySem.Expr
namespace L2
open PySem PySem.Spec PyProof.Rows
abbrev Za:=Sum Int Str
abbrev jx:=List Za
def O3:Za->ah->Bool
 | .inl k,v=>Value.isInt k v
 | .inr x,v=>Value.isStrOf x v
def CV(w:ar):Za->Int
 | .inl k=>hashInt k
 | .inr x=>hashStr w x
theorem Pf:∀{k:Za}{v:ah},O3 k v=true->(∃ i t,k=Sum.inl i/\v=Value.int i t)\/(∃ x t,k=Sum.inr x/\v=Value.str x t)
 | .inl i,v,h=>by
  let⟨t,e⟩:=Value.isInt_shape (k:=i) (v:=v) h;exact .inl ⟨i,t,Z,e⟩
 | .inr x,v,h=>by
  let⟨t,e⟩:=Value.isStrOf_shape (x:=x) (v:=v) h;exact .inr ⟨x,t,Z,e⟩
theorem ZJj(i:Int)(t:Tok):O3 (.inl i) (.int i t)=true:=by simp[O3,Value.isInt]
theorem ZJF(x:Str)(t:Tok):O3 (.inr x) (.str x t)=true:=by simp[O3,Value.isStrOf]
theorem ZOa(a b:Int):decide ((Sum.inl a:Za)=Sum.inl b)=(a==b):=by
 by_cases e:a=b
 ·subst e;simp
 ·let h:¬ (Sum.inl a:Za)=Sum.inl b:=λq=>e (Sum.inl.inj q);rw[aH h];exact(beq_eq_false_iff_ne.mpr e).symm
theorem BF(a b:Str):decide ((Sum.inr a:Za)=Sum.inr b)=decide (a=b):=by
 by_cases e:a=b
 ·subst e;simp
 ·let h:¬ (Sum.inr a:Za)=Sum.inr b:=λq=>e (Sum.inr.inj q);rw[aH h,aH e]
theorem ZO0(a:Int)(b:Str):decide ((Sum.inl a:Za)=Sum.inr b)=false:=aH (λq=>nomatch q)
theorem BW(a:Str)(b:Int):decide ((Sum.inr a:Za)=Sum.inl b)=false:=aH (λq=>nomatch q)
def VH(c:ak)(w:ar):PySem.KeyKind c w Za where
 is:=O3
 hash:=CV w
 inj:=λv a b g f=>by
  rcases Pf g with ⟨i,t,rfl,rfl⟩ | ⟨x,t,rfl,rfl⟩
  ·rcases Pf f with ⟨j,u,rfl,e⟩ | ⟨y,u,rfl,e⟩
   ·injection e with e1 _;rw[e1]
   ·exact nomatch e
  ·rcases Pf f with ⟨j,u,rfl,e⟩ | ⟨y,u,rfl,e⟩
   ·exact nomatch e
   ·injection e with e1 _;rw[e1]
 byValue:=λk v h=>by
  rcases Pf h with ⟨i,t,rfl,rfl⟩ | ⟨x,t,rfl,rfl⟩ <;> rfl
 pyHash:=λd h=>by
  rcases Pf d with ⟨i,t,rfl,rfl⟩ | ⟨x,t,rfl,rfl⟩
  ·exact wpAny_pyHash_int h
  ·exact wpAny_pyHash_str h
 eqBool:=λl d h=>by
  rcases Pf l with ⟨i,t,rfl,rfl⟩ | ⟨x,t,rfl,rfl⟩
  ·rcases Pf d with ⟨j,u,rfl,rfl⟩ | ⟨y,u,rfl,rfl⟩
   ·rw[ZOa] at h;exact wpAny_eqBool_int h
   ·rw[ZO0] at h;exact SeqAt.EqAt.int_str i t y u _ _ _ _ h
  ·rcases Pf d with ⟨j,u,rfl,rfl⟩ | ⟨y,u,rfl,rfl⟩
   ·rw[BW] at h;exact SeqAt.EqAt.str_int x t j u _ _ _ _ h
   ·rw[BF] at h;exact wpAny_eqBool_str h
 «strs» :=λk x t v h=>by
  rcases Pf h with ⟨i,u,rfl,e⟩ | ⟨y,u,rfl,e⟩
  ·exact nomatch e
  ·injection e with e1 _;subst e1;cases v <;> rfl
theorem ZGY(a:ak)(w:ar)(i:Int)(t:Tok):(VH a w).is (.inl i) (.int i t)=true:=ZJj i t
theorem ZFx(a:ak)(w:ar)(x:Str)(t:Tok):(VH a w).is (.inr x) (.str x t)=true:=ZJF x t
inductive V where
 | non | bl (b:Bool) | int (i:Int) | str (x:Str) | byt (b:Array UInt8) | flt (b:UInt64) | ref (a:ai) | ty (n:String)
 deriving DecidableEq
abbrev je:=List V
abbrev jf:=Option V
def ZN:V->ah->Prop
 | .non,u=>u=Value.none
 | .bl b,u=>u=Value.bool b
 | .int i,u=>∃ t,u=Value.int i t
 | .str x,u=>∃ t,u=Value.str x t
 | .byt b,u=>∃ t,u=Value.bytes b t
 | .flt b,u=>∃ t,u=Value.float b t
 | .ref a,u=>u=Value.ref a
 | .ty n,u=>u=Value.type n
abbrev ZQ:je->jd->Prop:=Paired ZN
theorem ZQ.length{b:je}{a:jd}(r:ZQ b a):b.length=a.length:=Paired.length r
theorem ZQ.get:∀{b:je}{a:jd}{i:Nat}{x:V},ZQ b a->b[i]? = some x->∃ u,a[i]? = some u/\ZN x u
 | _,_,_,_,.nil,e=>by simp at e
 | _,_,0,_,.cons r _,e=>by simp at e;subst e;exact⟨_,Z,r⟩
 | _,_,i+1,x,.cons _ t,e=>by
  let⟨u,c,d⟩:=ZQ.get (i:=i) (x:=x) t (by simpa using e)
  exact⟨u,by simpa using c,d⟩
theorem ZQ.set{x:V}{u:ah}(r:ZN x u):∀{b:je}{a:jd}(i:Nat),ZQ b a->ZQ (b.set i x) (a.set i u)
 | _,_,_,.nil=>.nil
 | _,_,0,.cons _ t=>.cons r t
 | _,_,i+1,.cons q t=>.cons q (ZQ.set r i t)
theorem ZQ.append:∀{c d:je}{a b:jd},ZQ c a->ZQ d b->ZQ (c++d) (a++b):=by intro _ _ _ _ h g;induction h with
 | nil=>exact g
 | cons r _ e=>exact .cons r e
theorem ZQ.take:∀{b:je}{a:jd}(n:Nat),ZQ b a->ZQ (b.take n) (a.take n)
 | _,_,0,_=>.nil
 | _,_,_+1,.nil=>.nil
 | _,_,n+1,.cons r t=>.cons r (ZQ.take n t)
theorem ZQ.drop:∀{b:je}{a:jd}(n:Nat),ZQ b a->ZQ (b.drop n) (a.drop n)
 | _,_,0,r=>r
 | _,_,_+1,.nil=>.nil
 | _,_,n+1,.cons _ t=>ZQ.drop n t
def Yy:jf->jc->Prop
 | some v,some u=>ZN v u
 | none,none=>True
 | _,_=>False
def KV{a:Type}:List (a×V)->List (a×ah)->Prop:=Paired fun(p:a×V)(q:a×ah)=>p.1=q.1/\ZN p.2 q.2
def kV:Za->V
 | .inl i=>.int i
 | .inr x=>.str x
inductive HO where
 | lst (xs:je)
 | tup (xs:je)
 | dK (kvs:List (Za×V)) | dT (kvs:List (jx×V))
 | set (S:Int->Bool) (n:Nat)
 | ins (C dx:ai) (fs:List (Str×V))
 | own (x:ai)
 | xd (fs:List (Str×V))
 | met (f x:ai)
 | rng (lo hi:Int)
 | frz (o:aG) (u:HO)
 | tbl (ps:js)
 | ext (φ:aC->Prop)
abbrev Hp:=ai->Option HO
def upd(H:Hp)(a:ai)(o:HO):Hp:=λb=>if b=a then some o else H b
theorem ZZ{H:Hp}{a:ai}{o:HO}:upd H a o a=some o:=by unfold upd;rw[aK rfl]
theorem ZS{H:Hp}{a b:ai}{o:HO}(h:b≠a):upd H a o b=H b:=by unfold upd;rw[aJ h]
theorem Np{H:Hp}{a:ai}{o u:HO}:upd (upd H a o) a u=upd H a u:=by
 funext b;unfold upd;split <;> rfl
theorem ZW{H:Hp}{a b:ai}{o u:HO}(h:H a=some o)(c:H b=some u)(d:o≠u:=by intro z;cases z):a≠b:=by
 intro e;subst e;rw[h] at c;exact d (yZ.inj c)
theorem Zg{H:Hp}{a b:ai}{o:HO}(h:H a=some o)(c:H b=none):a≠b:=by
 intro e;subst e;rw[h] at c;cases c
section
variable(P:ak)(w:ar)
def Zf(H:Hp)(h:aC)(a:ai):HO->Prop
 | .lst c=>c.length<=ao/\∃(b:jd)(n:Nat),ZQ c b/\h.get? a=some { cls:=.type "list",data:=.seq b.toArray n }
 | .tup c=>c.length<=ao/\∃ b:jd,ZQ c b/\IsTup h a b.toArray
 | .dK kvs=>kvs.length<=ao/\(a==sysModules)=false/\∃ l,KV kvs l/\h.DictOf (VH P w) a l
 | .dT kvs=>kvs.length<=ao/\(a==sysModules)=false/\∃ c:List (jx×ai×ah),
   Paired (fun(p:jx×V)(q:jx×ai×ah)=>p.1=q.1/\H q.2.1=some (.tup (p.1.map kV))/\ZN p.2 q.2.2) kvs c /\
   ∃ o i m,h.get? a=some o/\o.ExactDict/\o.data=.dict i m/\i.toList=c.map (entryOfKey (tupleKind (VH P w)))/\(c.map (·.1)).Nodup
 | .set S n=>h.SetOf (intKind P w) a S n
 | .ins C g e=>H g=some (.own a)/\e.length<=1000/\g≠a/\h.get? a=some (wG C g) /\
   ∃ d,h.Ns1 g d/\(∀ f,Yy (e.lookup f) (d f))/\PySem.Within d (e.map (·.1))
 | .own _=>∃ o,h.get? a=some o
 | .xd e=>∃ d,h.Ns1 a d/\∀ f,Yy (e.lookup f) (d f)
 | .rng lo r=>∃ t u v,h.get? a=some { cls:=.type "range",data:=.fields #[.int lo t,.int r u,.int 1 v] }
 | .frz o u=>h.get? a=some o/\Zf H h a u
 | .tbl ps=>h.get? a=some { cls:=.none,data:=.fields ps }
 | .met f x=>h.get? a=some (sZ (.ref f) (.ref x))
 | .ext φ=>φ h/\(∃ o,h.get? a=some o)/\∀ j k:aC,φ j->(∀ o,j.get? a=some o->k.get? a=some o)->φ k
def Y9(H:Hp)(h:aC):Prop:=∀ a o,H a=some o->Zf P w H h a o
end
section
variable{P:ak}{w:ar}{H H':Hp}{h h':aC}{a:ai}{o:HO}
theorem Zf.lt(x:Zf P w H h a o):a<h.objs.size:=by
 cases o with
 | lst d=>let⟨_,_,_,_,e⟩:=x;exact zH e
 | tup d=>let⟨_,_,_,p⟩:=x;exact p.lt
 | dK b=>let⟨_,_,_,_,o,_,_,e,_⟩:=x;exact zH e
 | dT b=>let⟨_,_,_,_,o,_,_,e,_⟩:=x;exact zH e
 | set S n=>let⟨o,_,_,_,e,_⟩:=x;exact zH e
 | ins C g c=>let⟨_,_,_,e,_⟩:=x;exact zH e
 | own y=>let⟨_,e⟩:=x;exact zH e
 | xd c=>let⟨_,⟨_,_,_,e,_⟩,_⟩:=x;exact zH e
 | rng j i=>let⟨_,_,_,e⟩:=x;exact zH e
 | frz k u=>let⟨e,_⟩:=x;exact zH e
 | tbl l=>exact zH (show h.get? a=some _ from x)
 | met f y=>exact zH (show h.get? a=some _ from x)
 | ext m=>let⟨_,⟨_,e⟩,_⟩:=x;exact zH e
theorem Paired.mapP{e g:Type}{F G:e->g->Prop}:∀{c:List e}{d:List g},Paired F c d->(∀ a b,F a b->G a b)->Paired G c d:=by intro _ _ h f;induction h with
 | nil=>exact .nil
 | cons r _ i=>exact .cons (f _ _ r) i
theorem Zf.stay(x:Zf P w H h a o)(k:∀ b u,(b=a\/H b=some (.own a))->h.get? b=some u->h'.get? b=some u)(I:∀ b,H b=some (.own a)->H' b=some (.own a))(J:∀ b m,H b=some (.tup m)->H' b=some (.tup m)):Zf P w H' h' a o:=by
 induction o with
 | lst m=>let⟨z,l,n,r,e⟩:=x;exact⟨z,l,n,r,k _ _ (.inl rfl) e⟩
 | tup m=>let⟨z,l,r,g,e,c⟩:=x;exact⟨z,l,r,g,k _ _ (.inl rfl) e,c⟩
 | dK s=>let⟨z,y,M,r,g,j,i,e,c⟩:=x;exact⟨z,y,M,r,g,j,i,k _ _ (.inl rfl) e,c⟩
 | dT s=>
  let⟨z,y,m,r,g,j,i,e,c⟩:=x;exact⟨z,y,m,Paired.mapP r λp q z=>⟨z.1,J _ _ z.2.1,z.2.2⟩,g,j,i,k _ _ (.inl rfl) e,c⟩
 | set S n=>let⟨g,j,i,t,e,c⟩:=x;exact⟨g,j,i,t,k _ _ (.inl rfl) e,c⟩
 | ins C N G=>
  let⟨d,z,L,e,A,⟨B,j,i,F,c⟩,r⟩:=x;exact⟨I _ d,z,L,k _ _ (.inl rfl) e,A,⟨B,j,i,k _ _ (.inr d) F,c⟩,r⟩
 | own y=>let⟨g,e⟩:=x;exact⟨g,k _ _ (.inl rfl) e⟩
 | xd G=>let⟨A,⟨B,j,i,e,c⟩,r⟩:=x;exact⟨A,⟨B,j,i,k _ _ (.inl rfl) e,c⟩,r⟩
 | rng Q O=>let⟨t,u,v,e⟩:=x;exact⟨t,u,v,k _ _ (.inl rfl) e⟩
 | frz g u K=>let⟨e,q⟩:=x;exact⟨k _ _ (.inl rfl) e,K q⟩
 | tbl D=>
  let e:h.get? a=some { cls:=.none,data:=.fields D }:=x;show h'.get? a=some { cls:=.none,data:=.fields D };exact k a _ (.inl rfl) e
 | met f y=>
  let e:h.get? a=some (sZ (.ref f) (.ref y)):=x;show h'.get? a=some (sZ (.ref f) (.ref y));exact k a _ (.inl rfl) e
 | ext R=>let⟨p,⟨o,e⟩,E⟩:=x;exact⟨E _ _ p λo q=>k _ _ (.inl rfl) q,⟨o,k _ _ (.inl rfl) e⟩,E⟩
theorem Y9.lt(x:Y9 P w H h)(e:H a=some o):a<h.objs.size:=(x a o e).lt
theorem Y9.fresh(x:Y9 P w H h)(e:h.objs.size<=a):H a=none:=by
 cases q:H a with
 | none=>rfl
 | some u=>exact absurd (yI (x.lt q) e) (wK _)
theorem Y9.kept(x:Y9 P w H h)(k:∀ b u,h.get? b=some u->h'.get? b=some u):Y9 P w H h':=λa o e=>
 (x a o e).stay (λb u _ q=>k b u q) (λ_ q=>q) λ_ _ q=>q
theorem Y9.laid(x:Y9 P w H h)(k:∀ b u,h.get? b=some u->h'.get? b=some u)(i:h.objs.size<=a)(d:Zf P w (upd H a o) h' a o):Y9 P w (upd H a o) h':=λb u e=>by
 let g:=x.fresh i;by_cases f:b=a
 ·subst f;rw[ZZ] at e;cases e;exact d
 ·rw[ZS f] at e;exact(x b u e).stay (λc v _ q=>k c v q) (λc q=>by rw[ZS (Zg q g)];exact q) λc j q=>by rw[ZS (Zg q g)];exact q
end
def Rd(H:Hp)(a:ai)(u:HO):Prop:=H a=some u\/∃ o,H a=some (.frz o u)
theorem Rd.of{H:Hp}{a:ai}{u:HO}(h:H a=some u):Rd H a u:=.inl h
theorem Rd.ok{P:ak}{w:ar}{H:Hp}{h:aC}{a:ai}{u:HO}(r:Rd H a u)(x:Y9 P w H h):Zf P w H h a u:=by
 rcases r with r | ⟨o,r⟩
 ·exact x a u r
 ·let⟨_,q⟩:=x a _ r;exact q
def Ol:Option HO->Prop
 | some (.lst _)=>True
 | some (.dK _)=>True
 | some (.dT _)=>True
 | some (.set _ _)=>True
 | some (.ins _ _ _)=>True
 | some (.ext _)=>True
 | _=>False
section
variable{P:ak}{w:ar}{H:Hp}{h h':aC}{x e:ai}{o':HO}
theorem Y9.write(t:Y9 P w H h)(j:Ol (H x))(o:e=x\/H e=some (.own x))(k:∀ b u,b≠e->h.get? b=some u->h'.get? b=some u)(m:∃ u,h'.get? e=some u)(n:Zf P w (upd H x o') h' x o'):Y9 P w (upd H x o') h':=λb u q=>by
 let d:∀ c y,H c=some (.own y)->c≠x:=λc y r z=>by subst z;rw[r] at j;exact j
 let f:∀ c l,H c=some (.tup l)->c≠x:=λc l r z=>by subst z;rw[r] at j;exact j
 by_cases g:b=x
 ·subst g;rw[ZZ] at q;cases q;exact n
 ·rw[ZS g] at q;by_cases a:b=e
  ·let p:H b=some (.own x):=by
    rcases o with z | z
    ·exact absurd (a.trans z) g
    ·rw[a];exact z
   rw[q] at p;cases p;let⟨v,s⟩:=m;exact⟨v,by rw[a];exact s⟩
  ·refine(t b u q).stay (λc v i r=>k c v ?_ r) (λc r=>by rw[ZS (d c b r)];exact r) λc l r=>by rw[ZS (f c l r)];exact r
   rcases i with rfl | i
   ·exact a
   ·rintro rfl;rcases o with z | z
    ·exact d c b i z
    ·rw[i] at z;cases z;exact g Z
end
structure Un(fs ex:jy)(H H':Hp)(h h':aC):Prop where
 keep:∀ b o,h.get? b=some o->H b=none->b∉fs->b∉ex->h'.get? b=some o
 slot:∀ b o,h.get? b=some o->H b=none->b∈fs->b∉ex->∃ sl,h'.get? b=some { o with slots:=sl }
 free:∀ b o,h.get? b=some o->H b=none->b∉ex->H' b=none
 there:∀ b o,h.get? b=some o->b∉ex->∃ o',h'.get? b=some o'
 tups:∀ b xs,H b=some (.tup xs)->H' b=some (.tup xs)
 frzs:∀ b o u,H b=some (.frz o u)->H' b=some (.frz o u)
 tbls:∀ b ps,H b=some (.tbl ps)->∃ more,H' b=some (.tbl (ps++more))
section
variable{fs fs' ex ex':jy}{H H1 H2:Hp}{h h1 h2 h':aC}{a x e:ai}{o:HO}
theorem Un.any(u:Un fs ex H H1 h h1){b:ai}{c:aG}(q:h.get? b=some c)(n:H b=none)(f:b∉ex):∃ g,h1.get? b=some { c with slots:=g }:=by
 by_cases d:b∈fs
 ·exact u.slot b c q n d f
 ·exact⟨c.slots,u.keep b c q n d f⟩
theorem Un.kept(k:∀ b u,h.get? b=some u->h'.get? b=some u):Un fs ex H H h h':=
 ⟨λb c q _ _ _=>k b c q,λb c q _ _ _=>⟨c.slots,k b c q⟩,λ_ _ _ n _=>n,λb c q _=>⟨c,k b c q⟩,λ_ _ q=>q,λ_ _ _ q=>q,λ_ d q=>⟨#[],by rw[q];simp⟩⟩
theorem Un.refl:Un fs ex H H h h:=Un.kept λ_ _ q=>q
theorem Un.laid(k:∀ b u,h.get? b=some u->h'.get? b=some u)(d:h.objs.size<=a)(c:H a=none):Un fs ex H (upd H a o) h h' where
 keep:=λb u q _ _ _=>k b u q
 slot:=λb u q _ _ _=>⟨u.slots,k b u q⟩
 free:=λb u q n _=>by rw[ZS (yK (yI (zH q) d))];exact n
 there:=λb u q _=>⟨u,k b u q⟩
 tups:=λb f q=>by rw[ZS (Zg q c)];exact q
 frzs:=λb u f q=>by rw[ZS (Zg q c)];exact q
 tbls:=λb g q=>⟨#[],by rw[ZS (Zg q c),q];simp⟩
theorem Un.write(d:Ol (H x))(l:e=x\/H e=some (.own x))(k:∀ b u,b≠e->h.get? b=some u->h'.get? b=some u)(f:∃ u,h'.get? e=some u):Un fs ex H (upd H x o) h h':=by
 let j:∀ b,H b=none->b≠x:=λb n z=>by subst z;rw[n] at d;exact d
 let i:∀ b,H b=none->b≠e:=λb n z=>by
  subst z;rcases l with r | r
  ·exact j b n r
  ·rw[n] at r;cases r
 let g:∀ b u,H b=some u->¬ Ol (some u)->b≠x:=λb u q m z=>by subst z;rw[q] at d;exact m d
 refine⟨λb u q n _ _=>k b u (i b n) q,λb u q n _ _=>⟨u.slots,k b u (i b n) q⟩,λb u q n _=>by rw[ZS (j b n)];exact n,λb u q _=>?_,
  λb p q=>by rw[ZS (g b _ q λz=>z)];exact q,λb u p q=>by rw[ZS (g b _ q λz=>z)];exact q,λb s q=>⟨#[],by rw[ZS (g b _ q λz=>z),q];simp⟩⟩
 by_cases c:b=e
 ·subst c;exact f
 ·exact⟨u,k b u c q⟩
end
def Lc(h:aC)(H:Hp):List Addr:=(yJ h.objs.size).filter λa=>(H a).isSome
def P3(h:aC)(H:Hp):Heap:=vC h (Lc h H)
theorem ZJW(h:aC)(H:Hp):(P3 h H).objs.size=h.objs.size:=PySem.W.hideAll_size _ _
theorem ZKu{h:aC}{H:Hp}{b:ai}{o:aG}(e:h.get? b=some o)(n:H b=none):(P3 h H).get? b=some o:=
 rS _ e λa=>by
  let q:(H b).isSome=true:=(yN.mp a).2;rw[n] at q;simp at q
theorem ZMd{h:aC}{H:Hp}{b:ai}{o:aG}(e:(P3 h H).get? b=some o):h.get? b=some o/\H b=none:=by
 let a:h.get? b=some o:=sY (Lc h H) e;exists a
 cases q:H b with
 | none=>rfl
 | some x=>
  let c:b∈Lc h H:=yN.mpr ⟨wX.mpr (zH a),by simp[q]⟩
  let z:(P3 h H).get? b=none:=rQ (Lc h H) c;rw[z] at e;cases e
def ZNH(g h:aC)(L:ai):jo:=(yJ h.objs.size).filterMap λa=>if a=L\/(g.get? a).isSome=true then none else (h.get? a).map λo=>(a,o)
def rest(g h:aC)(L d:ai):jo:=(ZNH g h L).filter λp=>decide (p.1≠d)
structure Mod(K:zZ)(mg:jb)(jQ:aC):Prop where
 kin:K.In jQ
 glob:jQ.Ns am mg
 blt:∃ mb,jQ.Ns builtinsNs mb/\∀ x:Str,x ≠ "__name__"->mb x=ax x
 nolimit:jQ.NoLimit
structure Cx where
 prog:ak
 w:ar
 K:zZ
 mg:jb
 base:aC
 A:aw
 N:jn
 s₀:aj
 H₀:Hp
 env:Env
 outer:jt
 stack:jt
 ex:jy
 fn:Str->Bool
 calm:Bool
 pn:jo
 xe:ja
def frs(l:jt):List Addr:=l.filterMap (·.frame)
abbrev Cx.fs(X:Cx):List Addr:=frs X.outer
def LX(a:aD)(x:Str):Prop:=a.names.lookup x=some .local\/a.names.lookup x=some .cell\/a.names.lookup x=some .free
def Ow(a:aD)(x:Str):Prop:=a.names.lookup x=some .local\/a.names.lookup x=some .cell
def ZRR(a:Env)(h:aC)(m:jb)(x:Str)(u:ah):Prop:=
 (a.kindOf x=some .local/\m x=some u)\/((a.kindOf x=some .cell\/a.kindOf x=some .free)/\∃ c,a.cells.lookup x=some c/\h.IsCell c (some u))
structure Cx.Ok(X:Cx):Prop where
 mod:Mod X.K X.mg X.base
 kind:X.env.scope.kind=.function
 glob:X.env.globals=am
 blt:X.env.builtins=builtinsNs
 above:X.s₀.heap.objs.size<=X.env.locals
 inj:∀ x y c,X.env.cells.lookup x=some c->X.env.cells.lookup y=some c->x=y
 has:∀ x,(X.env.kindOf x=some .cell\/X.env.kindOf x=some .free)->∃ c,X.env.cells.lookup x=some c
 cab:∀ x c,X.fn x=true->X.env.cells.lookup x=some c->X.s₀.heap.objs.size<=c
 hd:X.calm=true->X.A.handled=none
 frames:X.A.frames=some X.stack
 stk:X.stack=X.outer\/(X.stack=X.env::X.outer/\X.env.frame=some X.env.locals)
 exf:∀ b∈X.ex,b≠X.env.locals/\∀ x c,X.env.cells.lookup x=some c->c≠b
 bs:∀ b o,X.base.get? b=some o->X.s₀.heap.get? b=some o/\X.H₀ b=none
 bsz:X.base.objs.size<=X.s₀.heap.objs.size
 noex:∀ b o,X.base.get? b=some o->b∉X.ex
 exfs:∀ b∈X.ex,b∉X.fs
 funs:X.s₀.heap.FunFrames X.base X.outer
 frf:∀ b∈X.fs,X.H₀ b=none
structure ZF(X:Cx)(jP:jo)(σ:List (jf))(H:Hp)(s:aj):Prop where
 ok:X.Ok
 os:s.os=X.s₀.os
 bare:AllBare s.gens
 base:Un X.fs X.ex X.H₀ H X.s₀.heap s.heap
 loc:∃ m,s.heap.Ns X.env.locals m/\∀(i:Nat)(x:Str)(v:V),X.N[i]? = some x->σ[i]? = some (some v)->LX X.env.scope x->∃ u,ZN v u/\ZRR X.env s.heap m x u
 cell:∀ x c,X.env.cells.lookup x=some c->∃ v,s.heap.IsCell c v
 free:H X.env.locals=none
 freeC:∀ x c,X.env.cells.lookup x=some c->H c=none
 pin:∀ p∈X.pn++jP,s.heap.get? p.1=some p.2/\H p.1=none/\p.1≠X.env.locals/\p.1∉X.fs/\∀ v,p.2.data≠.cell v
 hok:Y9 X.prog X.w H s.heap
 len:σ.length=X.N.length
section
variable{X:Cx}{jP:jo}{σ:List (jf)}{H H':Hp}{s:aj}{h':aC}
theorem Cx.Ok.nofr(c:X.Ok){b:ai}{o:aG}(e:X.base.get? b=some o):b∉X.fs:=λa=>by
 have:=(c.funs.mem a).1;rw[e] at this;cases this
theorem ZF.bs(I:ZF X jP σ H s):∀ b o,X.base.get? b=some o->s.heap.get? b=some o/\H b=none:=λb o e=>
 ⟨I.base.keep b o (I.ok.bs b o e).1 (I.ok.bs b o e).2 (I.ok.nofr e) (I.ok.noex b o e),I.base.free b o (I.ok.bs b o e).1 (I.ok.bs b o e).2 (I.ok.noex b o e)⟩
theorem ZF.bk(I:ZF X jP σ H s):∀ b o,X.base.get? b=some o->s.heap.get? b=some o:=λb o e=>(I.bs b o e).1
theorem ZF.mod(I:ZF X jP σ H s):Mod X.K X.mg X.base:=I.ok.mod
theorem ZF.kIn(I:ZF X jP σ H s):X.K.In s.heap:=I.ok.mod.kin.keeps I.bk
theorem ZF.lt(I:ZF X jP σ H s):X.env.locals<s.heap.objs.size:=let ⟨_,hn,_⟩:=I.loc;hn.lt
theorem ZF.sz(I:ZF X jP σ H s):X.s₀.heap.objs.size<=s.heap.objs.size:=zI I.ok.above (xM I.lt)
theorem ZF.nofs(I:ZF X jP σ H s){a:ai}(h:s.heap.objs.size<=a):a∉X.fs:=λb=>by
 let⟨_,o,c,_⟩:=I.ok.funs.mem b;exact absurd (yI (zH c) (zI I.sz h)) (wK _)
theorem ZF.cne(I:ZF X jP σ H s):∀ x c,X.env.cells.lookup x=some c->c≠X.env.locals:=λx c e z=>by
 let⟨v,o,f,d⟩:=I.cell x c e;let⟨m,⟨i,h,g,b,a,_⟩,_⟩:=I.loc;rw[z,b] at f;cases f;rw[a] at d;cases d
theorem ZF.funs(I:ZF X jP σ H s):s.heap.FunFrames X.base X.outer:=by
 let a:∀(l:jt),(∀ b∈frs l,b∈X.fs)->X.s₀.heap.FunFrames X.base l->s.heap.FunFrames X.base l:=by
  intro l
  induction l with
  | nil=>intro _ _;trivial
  | cons h r q=>
   intro g k;let⟨j,⟨L,o,f,m,n,i⟩,p⟩:=k;let c:L∈X.fs:=g L (by unfold frs;rw[uG,f];exact zS)
   let⟨t,e⟩:=I.base.slot L o n (I.ok.frf L c) c λz=>I.ok.exfs L z c;exact⟨j,⟨L,_,f,m,e,i⟩,q (λb d=>g b (by unfold frs;rw[uG,f];exact zO _ d)) p⟩
 exact a X.outer (λ_ d=>d) I.ok.funs
theorem ZF.stack(I:ZF X jP σ H s):s.heap.FunFrames X.base X.stack:=by
 rcases I.ok.stk with e | ⟨e,a⟩
 ·rw[e];exact I.funs
 ·rw[e];let⟨m,b,_⟩:=I.loc;refine .cons (by rw[I.ok.kind];decide) a b ?_ I.funs
  exact sV (zI I.ok.bsz I.ok.above)
theorem ZF.stkSub(I:ZF X jP σ H s):∀ b∈frs X.stack,b∈X.env.locals::X.fs:=λb a=>by
 rcases I.ok.stk with e | ⟨e,c⟩
 ·rw[e] at a;exact zO _ a
 ·rw[e] at a;unfold frs at a;rw[uG,c] at a;exact a
theorem ZF.stkFree(I:ZF X jP σ H s):∀ b∈frs X.stack,H b=none:=λb a=>by
 rcases zU.mp (I.stkSub b a) with e | a
 ·rw[e];exact I.free
 ·let⟨_,o,c,_⟩:=I.ok.funs.mem a;exact I.base.free b o c (I.ok.frf b a) λz=>I.ok.exfs b z a
theorem ZF.step{g':Array GenState}{t':Nat}{d':Drawn}{ch:jy}(I:ZF X jP σ H s)(h:∀ b∈ch,(b∈X.ex\/X.s₀.heap.objs.size<=b)/\b≠X.env.locals/\(∀ x c,X.env.cells.lookup x=some c->c≠b)/\∀ p∈X.pn++jP,p.1≠b)(j:∀ b o,b≠X.env.locals->b∉X.fs->b∉ch->s.heap.get? b=some o->H b=none->h'.get? b=some o)(B:∀ b o,b≠X.env.locals->b∈X.fs->b∉ch->s.heap.get? b=some o->H b=none->∃ S,h'.get? b=some { o with slots:=S })(f:∀ b o,b∉ch->s.heap.get? b=some o->H b=none->H' b=none)(E:∀ b o,b∉ch->s.heap.get? b=some o->∃ M,h'.get? b=some M)(O:∀ b C,H b=some (.tup C)->H' b=some (.tup C))(J:∀ b o u,H b=some (.frz o u)->H' b=some (.frz o u))(N:∀ b P,H b=some (.tbl P)->∃ K,H' b=some (.tbl (P++K)))(ns:∀ m,s.heap.Ns X.env.locals m->h'.Ns X.env.locals m)(R:Y9 X.prog X.w H' h')(hg:AllBare g'):
  ZF X jP σ H' { s with heap:=h',gens:=g',drawn:=d',toks:=t' }:=by
 let L:∀ b o,X.s₀.heap.get? b=some o->b≠X.env.locals:=λb o e=>yK (yI (zH e) I.ok.above);let A:∀ b o,X.s₀.heap.get? b=some o->b∉X.ex->b∉ch:=λb o e a D=>by
  rcases(h b D).1 with z | z
  ·exact a z
  ·exact absurd (yI (zH e) z) (wK _)
 let g:∀ x c,X.env.cells.lookup x=some c->∀ v,s.heap.IsCell c v->h'.IsCell c v:=λx c e v ⟨o,F,Q⟩=>by
  let t:c∉ch:=λz=>(h c z).2.2.1 x c e Z;by_cases U:c∈X.fs
  ·let⟨S,q⟩:=B c o (I.cne x c e) U t F (I.freeC x c e);exact⟨_,q,Q⟩
  ·exact⟨o,j c o (I.cne x c e) U t F (I.freeC x c e),Q⟩
 refine⟨I.ok,I.os,hg,⟨λb o e n D a=>?_,λb o e n D a=>?_,λb o e n a=>?_,λb o e a=>?_,λb C e=>O b C (I.base.tups b C e),λb o C e=>J b o C (I.base.frzs b o C e),λb P e=>?_⟩,?_,λx c e=>?_,?_,λx c e=>?_,λp V=>?_,R,I.len⟩
 ·exact j b o (L b o e) D (A b o e a) (I.base.keep b o e n D a) (I.base.free b o e n a)
 ·let⟨S,y⟩:=I.base.slot b o e n D a;let⟨T,G⟩:=B b _ (L b o e) D (A b o e a) y (I.base.free b o e n a);exact⟨T,G⟩
 ·let⟨M,y⟩:=I.base.there b o e a;exact f b M (A b o e a) y (I.base.free b o e n a)
 ·let⟨M,y⟩:=I.base.there b o e a;exact E b M (A b o e a) y
 ·let⟨m1,y⟩:=I.base.tbls b P e;let⟨m2,G⟩:=N b _ y;exact⟨m1++m2,by rw[G,Array.append_assoc]⟩
 ·let⟨m,hn,hl⟩:=I.loc;exists m,ns m hn;intro i x v y G e3;let⟨u,r,l⟩:=hl i x v y G e3;exists u,r;rcases l with l | ⟨k,c,e,z⟩
  ·exact .inl l
  ·exact .inr ⟨k,c,e,g x c e _ z⟩
 ·let⟨v,z⟩:=I.cell x c e;exact⟨v,g x c e v z⟩
 ·let⟨m,⟨o,_,_,F,_⟩,_⟩:=I.loc;exact f _ o (λz=>(h _ z).2.1 Z) F I.free
 ·let⟨v,o,F,Q⟩:=I.cell x c e;exact f c o (λz=>(h c z).2.2.1 x c e Z) F (I.freeC x c e)
 ·let⟨e,n,W,Y,d⟩:=I.pin p V;let t:p.1∉ch:=λz=>(h p.1 z).2.2.2 p V Z;exact⟨j p.1 p.2 W Y t e n,f p.1 p.2 t e n,W,Y,d⟩
theorem ZF.un{t':Nat}(I:ZF X jP σ H s)(u:Un X.fs [] H H' s.heap h')(g:Y9 X.prog X.w H' h'):ZF X jP σ H' { s with heap:=h',toks:=t' }:=by
 let⟨m,⟨o,p,l,h,r⟩,_⟩:=id I.loc;let⟨v,i⟩:=u.any h I.free (by simp)
 exact I.step (g':=s.gens) (d':=s.drawn) (ch:=[]) (λ_ z=>nomatch z) (λb o _ f _ e n=>u.keep b o e n f (by simp)) (λb o _ f _ e n=>u.slot b o e n f (by simp)) (λb o _ e n=>u.free b o e n (by simp)) (λb o _ e=>u.there b o e (by simp)) u.tups u.frzs u.tbls (λq j=>by
  let⟨t,d,c,a,k⟩:=j;rw[h] at a;cases a;exact⟨_,d,c,i,k⟩) g I.bare
theorem ZF.call{g':Array GenState}{t':Nat}{d':Drawn}{ch:jy}(I:ZF X jP σ H s)(u:Un (frs X.stack) ch H H' s.heap h')(j:Y9 X.prog X.w H' h')(q:AllBare g')(d:∀ b∈ch,(b∈X.ex\/X.s₀.heap.objs.size<=b)/\b≠X.env.locals/\(∀ x c,X.env.cells.lookup x=some c->c≠b)/\∀ p∈X.pn++jP,p.1≠b):
  ZF X jP σ H' { s with heap:=h',gens:=g',drawn:=d',toks:=t' }:=by
 let⟨m,⟨o,A,y,k,r⟩,_⟩:=id I.loc;let⟨D,i⟩:=u.any k I.free λz=>(d _ z).2.1 Z;exact I.step (ch:=ch) d (λb o i l a e n=>u.keep b o e n (λz=>(zU.mp (I.stkSub b z)).elim i l) a) (λb o _ _ a e n=>u.any e n a) (λb o a e n=>u.free b o e n a) (λb o a e=>u.there b o e a) u.tups u.frzs u.tbls (λB t=>by
  let⟨C,h,g,f,v⟩:=t;rw[k] at f;cases f;exact⟨_,h,g,i,v⟩) j q
theorem ZF.turned{t':Nat}{it:ai}(I:ZF X jP σ H s)(k:∀ b o,b≠it->s.heap.get? b=some o->h'.get? b=some o)(y:H it=none)(f:it≠X.env.locals)(i:it∈X.ex\/X.s₀.heap.objs.size<=it)(j:∀ x c,X.env.cells.lookup x=some c->c≠it)(l:∀ p∈X.pn++jP,p.1≠it):ZF X jP σ H { s with heap:=h',toks:=t' }:=by
 let d:∀ b u,H b=some u->b≠it:=λb u e z=>by rw[z,y] at e;cases e
 refine I.step (g':=s.gens) (d':=s.drawn) (ch:=[it]) (λb t=>?_) (λb o _ _ a e _=>k b o (λz=>a (by simp[z])) e) (λb o _ _ a e _=>⟨o.slots,k b o (λz=>a (by simp[z])) e⟩) (λ_ _ _ _ n=>n)
  (λb o a e=>⟨o,k b o (λz=>a (by simp[z])) e⟩) (λ_ _ e=>e) (λ_ _ _ e=>e) (λb B e=>⟨#[],by rw[e];simp⟩) (λm w=>?_) (λb u e=>?_) I.bare
 ·let e:b=it:=by simpa using t
  subst e;exact⟨i,f,j,l⟩
 ·let⟨o,h,g,A,r⟩:=w;exact⟨o,h,g,k _ o (Ne.symm f) A,r⟩
 ·refine(I.hok b u e).stay (λc v a q=>k c v ?_ q) (λ_ q=>q) λ_ _ q=>q;rcases a with z | z
  ·rw[z];exact d b u e
  ·exact d c _ z
theorem ZF.tok(I:ZF X jP σ H s)(t:Nat):ZF X jP σ H { s with toks:=t }:=I.un (h':=s.heap) (t':=t) Un.refl I.hok
theorem ZF.kept{t':Nat}(I:ZF X jP σ H s)(k:∀ b u,s.heap.get? b=some u->h'.get? b=some u):ZF X jP σ H { s with heap:=h',toks:=t' }:=I.un (Un.kept k) (I.hok.kept k)
theorem ZF.laid{a:ai}{o:HO}{t':Nat}(I:ZF X jP σ H s)(k:∀ b u,s.heap.get? b=some u->h'.get? b=some u)(c:s.heap.objs.size<=a)(d:Zf X.prog X.w (upd H a o) h' a o):
  ZF X jP σ (upd H a o) { s with heap:=h',toks:=t' }:=I.un (Un.laid k c (I.hok.fresh c)) (I.hok.laid k c d)
theorem ZF.write{x e:ai}{o:HO}{g:Nat}(I:ZF X jP σ H s)(f:Ol (H x))(d:e=x\/H e=some (.own x))(k:∀ b u,b≠e->s.heap.get? b=some u->h'.get? b=some u)(a:∃ u,h'.get? e=some u)(c:Zf X.prog X.w (upd H x o) h' x o):ZF X jP σ (upd H x o) { s with heap:=h',toks:=g }:=I.un (Un.write f d k a) (I.hok.write f d k a c)
theorem ZF.pins_of{a:jo}(I:ZF X jP σ H s)(h:∀ p∈a,s.heap.get? p.1=some p.2/\H p.1=none/\p.1≠X.env.locals/\p.1∉X.fs/\∀ v,p.2.data≠.cell v):ZF X a σ H s:=
 ⟨I.ok,I.os,I.bare,I.base,I.loc,I.cell,I.free,I.freeC,λp b=>(zD.mp b).elim (λz=>I.pin p (yF _ z)) (h p),I.hok,I.len⟩
theorem Jm{N:jn}(e:N.Nodup){i j:Nat}{x:Str}(a:N[i]? = some x)(b:N[j]? = some x):i=j:=by
 let⟨f,c⟩:=zB.mp a;let⟨g,d⟩:=zB.mp b;exact(List.getElem_inj e).mp (c.trans d.symm)
theorem Hw{M:Model}{A:aw}{E:ja}{i:Nat}{x:Str}{v:V}{u:ah}{Q:Unit->aj->Prop}(I:ZF X jP σ H s)(hN:X.N.Nodup)(T:X.N[i]? = some x)(B:Ow X.env.scope x)(r:ZN v u)(h:∀ s',ZF X jP (σ.set i (some v)) H s'->(∃ a,yA a s.heap s'.heap/\(a=X.env.locals\/X.env.cells.lookup x=some a))->Q () s')(hf:X.fn x=true\/X.env.scope.names.lookup x=some .local:=by first | exact .inl rfl | exact .inr rfl | assumption):aA M A (storeName X.env x u) Q E s:=by
 let⟨m,hn,hl⟩:=id I.loc;let S:(X.env.scope.kind==.class || (X.env.scope.kind==.module&&X.env.locals != X.env.globals))=false:=by rw[I.ok.kind];rfl
 let F:i<σ.length:=by rw[I.len];exact(zB.mp T).1
 let J:=I.cne;let l:∀{a:ai}{h':aC},(∃ o,s.heap.get? a=some o/\H a=none)->yA a s.heap h'->Y9 X.prog X.w H h':=fun{a h'} ha f b ob e=>by
  let⟨_,_,C⟩:=ha;refine(I.hok b ob e).stay (λc w' t q=>(f.2 c ?_).trans q) (λ_ q=>q) λ_ _ q=>q;rintro rfl;rcases t with rfl | t
  ·rw[C] at e;cases e
  ·rw[C] at t;cases t
 rcases B with G | G
 ·refine wpAny_storeName_local G hn (λh' a0 f=>?_) S;let⟨oL,_,_,a1,_⟩:=id hn;refine h _ ⟨I.ok,I.os,I.bare,⟨λb o e n K B=>?_,λb o e n K B=>?_,I.base.free,λb o e B=>?_,I.base.tups,I.base.frzs,I.base.tbls⟩,⟨_,a0,λj y v' g D e3=>?_⟩,λy c e=>?_,I.free,I.freeC,λp hp=>?_,l ⟨oL,a1,I.free⟩ f,by simpa using I.len⟩ ⟨_,f,.inl Z⟩
  ·exact(f.2 b (yK (yI (zH e) I.ok.above))).trans (I.base.keep b o e n K B)
  ·let⟨sl,g⟩:=I.base.slot b o e n K B;exact⟨sl,(f.2 b (yK (yI (zH e) I.ok.above))).trans g⟩
  ·let⟨o',g⟩:=I.base.there b o e B;exact⟨o',(f.2 b (yK (yI (zH e) I.ok.above))).trans g⟩
  ·by_cases O:j=i
   ·subst O;rw[T] at g;cases g;rw[tY F] at D;cases D;exact⟨u,r,.inl ⟨G,by simp⟩⟩
   ·rw[uD (Ne.symm O)] at D;let⟨u',r',q⟩:=hl j y v' g D e3;exists u',r';rcases q with ⟨k,e⟩ | ⟨k,c,e,z⟩
    ·refine .inl ⟨k,?_⟩;have:y≠x:=λe=>O (Jm hN g (e ▸ T));simp[this,e]
    ·exact .inr ⟨k,c,e,z.sameBut f (J y c e)⟩
  ·let⟨w',z⟩:=I.cell y c e;exact⟨w',z.sameBut f (J y c e)⟩
  ·let⟨e,n,ne,nf,d⟩:=I.pin p hp;exact⟨(f.2 p.1 ne).trans e,n,ne,nf,d⟩
 ·let L:X.fn x=true:=by
   rcases hf with z | z
   ·exact z
   ·rw[z] at G;cases G
  let⟨c,t⟩:=I.ok.has x (.inl G);let⟨w',z⟩:=I.cell x c t;refine wpAny_storeName_cell I.ok.kind G t z (λh' P f=>?_);let⟨oc,U,W⟩:=id z;refine h { s with heap:=h' } ⟨I.ok,I.os,I.bare,⟨λb o e n K B=>?_,λb o e n K B=>?_,I.base.free,λb o e B=>?_,I.base.tups,I.base.frzs,I.base.tbls⟩,⟨m,hn.sameBut f (Ne.symm (J x c t)),λj y v' g D e3=>?_⟩,λy Y e=>?_,I.free,I.freeC,λp hp=>?_,l ⟨oc,U,I.freeC x c t⟩ f,by simpa using I.len⟩ ⟨c,f,.inr t⟩
  ·exact(f.2 b (yK (yI (zH e) (I.ok.cab x c L t)))).trans (I.base.keep b o e n K B)
  ·let⟨sl,g⟩:=I.base.slot b o e n K B;exact⟨sl,(f.2 b (yK (yI (zH e) (I.ok.cab x c L t)))).trans g⟩
  ·let⟨o',g⟩:=I.base.there b o e B;exact⟨o',(f.2 b (yK (yI (zH e) (I.ok.cab x c L t)))).trans g⟩
  ·by_cases O:j=i
   ·subst O;rw[T] at g;cases g;rw[tY F] at D;cases D;exact⟨u,r,.inr ⟨.inl G,c,t,P⟩⟩
   ·rw[uD (Ne.symm O)] at D;let⟨u',r',q⟩:=hl j y v' g D e3;exists u',r';rcases q with q | ⟨k,Y,e,z'⟩
    ·exact .inl q
    ·refine .inr ⟨k,Y,e,z'.sameBut f ?_⟩;rintro rfl;exact O (Jm hN g (I.ok.inj _ _ _ e t ▸ T))
  ·by_cases R:Y=c
   ·subst R;exact⟨_,P⟩
   ·let⟨w2,z2⟩:=I.cell y Y e;exact⟨w2,z2.sameBut f R⟩
  ·let⟨e,n,ne,nf,d⟩:=I.pin p hp;refine⟨(f.2 p.1 ?_).trans e,n,ne,nf,d⟩;intro q;rw[q,U] at e;let q':oc=p.2:=yZ.inj e;exact d w' (by rw[<-q'];exact W)
theorem LS{M:Model}{A:aw}{E:ja}{i:Nat}{x:Str}{v:V}{u:ah}{Q:Unit->aj->Prop}(I:ZF X jP σ H s)(c:X.N.Nodup)(e:X.N[i]? = some x)(f:Ow X.env.scope x)(r:ZN v u)(h:∀ a,ZF X jP (σ.set i (some v)) H a->Q () a)(d:X.fn x=true\/X.env.scope.names.lookup x=some .local:=by first | exact .inl rfl | exact .inr rfl | assumption):aA M A (storeName X.env x u) Q E s:=
 Hw I c e f r (λa b _=>h a b) d
theorem ZF.call'{s':aj}{ch:jy}(I:ZF X jP σ H s)(i:s'.os=s.os)(u:Un (frs X.stack) ch H H' s.heap s'.heap)(d:Y9 X.prog X.w H' s'.heap)(h:AllBare s'.gens)(a:∀ b∈ch,(b∈X.ex\/X.s₀.heap.objs.size<=b)/\b≠X.env.locals/\(∀ x c,X.env.cells.lookup x=some c->c≠b)/\∀ p∈X.pn++jP,p.1≠b):ZF X jP σ H' s':=by
 let⟨h',g,f,k,j⟩:=s';let e:j=s.os:=i;subst e;exact I.call (g':=g) (t':=k) (d':=f) u d h a
end
abbrev XK:=ah->ju->Hp->Prop
abbrev St:=List (jf)
abbrev VK:=V->Hp->Prop
abbrev TE:=St->Hp->VK->Prop
abbrev jH:=List (TE×TE)
abbrev TT:=St->Hp->(Bool->Hp->Prop)->Prop
abbrev TA:=St->Hp->(je->Hp->Prop)->Prop
structure YH where
 nx:St->Hp->Prop
 rt:VK
 bk:St->Hp->Prop:=λ_ _=>False
 ct:St->Hp->Prop:=λ_ _=>False
abbrev TS:=YH->St->Hp->Prop
def EP(X:Cx)(a:jo)(d:St)(Q:VK)(u:ah)(c:aj):Prop:=∃ v b,ZF X a d b c/\ZN v u/\Q v b
def TP(X:Cx)(a:jo)(e:St)(Q:Bool->Hp->Prop)(b:Bool)(d:aj):Prop:=∃ c,ZF X a e c d/\Q b c
def AP(X:Cx)(a:jo)(f:St)(Q:je->Hp->Prop)(e:jd)(d:aj):Prop:=∃ c b,ZF X a f b d/\ZQ c e/\Q c b
def SP(X:Cx)(b:jo)(D:YH)(f:Flow)(d:aj):Prop:=
 match f with
 | .next=>∃ a c,ZF X b a c d/\D.nx a c
 | .brk=>∃ a c,ZF X b a c d/\D.bk a c
 | .cont=>∃ a c,ZF X b a c d/\D.ct a c
 | .ret u=>∃ v a c,ZF X b a c d/\ZN v u/\D.rt v c
def PE(X:Cx)(e:Expr)(t:TE):Prop:=
 ∀(a:jo)(s:aj)(b:St)(H:Hp)(Q:VK),ZF X a b H s->t b H Q->aA (az X.prog X.w) X.A (aF e X.env) (EP X a b Q) X.xe s
def PT(X:Cx)(e:Expr)(t:TT):Prop:=
 ∀(a:jo)(s:aj)(b:St)(H:Hp)(Q:Bool->Hp->Prop),ZF X a b H s->t b H Q->aA (az X.prog X.w) X.A (isTrue e X.env (aF e X.env)) (TP X a b Q) X.xe s
def PW(X:Cx)(e:Expr)(t:TT):Prop:=
 ∀(b:Sem ah)(a:jo)(s:aj)(c:St)(H:Hp)(Q:Bool->Hp->Prop),ZF X a c H s->t c H Q->aA (az X.prog X.w) X.A (isTrue e X.env b) (TP X a c Q) X.xe s
theorem PW.pt{X:Cx}{e:Expr}{t:TT}(h:PW X e t):PT X e t:=h _
def PA(X:Cx)(d:jw)(t:TA):Prop:=
 ∀(b:Pos)(a:jo)(s:aj)(c:St)(H:Hp)(Q:je->Hp->Prop),ZF X a c H s->t c H Q->aA (az X.prog X.w) X.A (spliced (aE b (aq d X.env))) (AP X a c Q) X.xe s
def PS(X:Cx)(c:aB)(t:TS):Prop:=
 ∀(a:jo)(s:aj)(b:St)(H:Hp)(D:YH),ZF X a b H s->t D b H->aA (az X.prog X.w) X.A (exec c X.env) (SP X a D) X.xe s
def XV(X:Cx)(c:jB)(t:TS):Prop:=
 ∀(a:jo)(s:aj)(b:St)(H:Hp)(D:YH),ZF X a b H s->t D b H->aA (az X.prog X.w) X.A (execs c X.env) (SP X a D) X.xe s
theorem YA{c:Type}{t:Sem c}{Q b:c->aj->Prop}{M:Model}{A:aw}{E:ja}{s:aj}(h:aA M A t Q E s)(d:∀ a s,Q a s->b a s):aA M A t b E s:=ae h d λ_ _ x=>x
theorem YF{d g i:Type}{t:Sem d}{a b c:d->aj->g->i->Prop}{e:d->aj->Prop}{M:Model}{A:aw}{E:ja}{s:aj}(h:aA M A t (λv s=>∃ x H,a v s x H/\b v s x H/\c v s x H) E s)(f:∀ v s x H,a v s x H->b v s x H->c v s x H->e v s):aA M A t e E s:=YA h (by rintro v s ⟨x,H,p,q,r⟩;exact f v s x H p q r)
variable{X:Cx}
section
inductive Uk(i:Nat)(a:L2.St)(H:Hp)(Q:VK):Prop
 |mk(v:_)(_:a[i]? = some (some v))(_:Q v H)
def tC(v:V):TE:=λ_ H Q=>Q v H
theorem C1{i:Nat}{x:Str}{k:Pos}(o:X.N[i]? = some x)(w:LX X.env.scope x)(j:(x==("__debug__" : Str))=false:=by decide)(g:(x==("__classdict__" : Str))=false:=by decide):PE X (.Name x k) (Uk i):=by
 intro f s y H Q I h;let⟨v,e,h⟩:=h;let⟨m,t,p⟩:=I.loc;let⟨u,r,l⟩:=p i x v o e w;let b:EP X f y Q u s:=⟨v,H,I,r,h⟩;rcases l with ⟨d,q⟩ | ⟨d,c,n,a⟩
 ·exact wpAny_Name (wpAny_loadName_local I.ok.kind d t q b) j
 ·rcases d with d | d
  ·exact wpAny_Name (wpAny_loadName_cell I.ok.kind d n a b) j
  ·exact wpAny_Name (wpAny_loadName_free I.ok.kind d n a b g) j
theorem ZK{i j a}:PE X (.Constant (.int i) j a) (tC (.int i)):=λ_ _ _ H _ I h=>wpAny_Constant_int ⟨.int i,H,I.tok _,⟨_,Z⟩,h⟩
theorem Pv{b j a}:PE X (.Constant (.bool b) j a) (tC (.bl b)):=λ_ _ _ H _ I h=>Constant_bool ⟨.bl b,H,I,Z,h⟩
theorem Pl{j a}:PE X (.Constant .none j a) (tC .non):=λ_ _ _ H _ I h=>Constant_none ⟨.non,H,I,Z,h⟩
theorem Ue{x j a}:PE X (.Constant (.str x) j a) (tC (.str x)):=λ_ _ _ H _ I h=>Calls.Constant_str ⟨.str x,H,I.tok _,⟨_,Z⟩,h⟩
def Gl(X:Cx)(x:Str):Prop:=X.env.kindOf x=some .globalImplicit
theorem NP{E:ja}{a:jo}{s:aj}{f:St}{H:Hp}{x:Str}{u:ah}{b:Pos}{Q:ja}(I:ZF X a f H s)(d:Gl X x)(e:X.mg x=some u)(h:Q u s)(c:(x==("__debug__" : Str))=false:=by decide):aA (az X.prog X.w) X.A (aF (.Name x b) X.env) Q E s:=
 Calls.Name_function_global I.ok.kind d (Calls.loadGlobal_global (by rw[I.ok.glob];exact I.mod.glob.keeps I.bk) e h) c
theorem Nu{E:ja}{a:jo}{s:aj}{k:St}{H:Hp}{x:Str}{u:ah}{b:Pos}{Q:ja}(I:ZF X a k H s)(f:Gl X x)(g:X.mg x=none)(j:ax x=some u)(h:Q u s)(i:x ≠ "__name__" :=by decide)(e:(x==("__debug__" : Str))=false:=by decide):aA (az X.prog X.w) X.A (aF (.Name x b) X.env) Q E s:=by
 let⟨l,c,d⟩:=I.mod.blt;exact Calls.Name_function_global I.ok.kind f (Calls.loadGlobal_builtin (by rw[I.ok.glob];exact I.mod.glob.keeps I.bk) g (by rw[I.ok.blt];exact c.keeps I.bk) ((d x i).trans j) h) e
theorem WL{x:Str}{v:V}{u:ah}{pos:Pos}(b:Gl X x)(c:X.mg x=some u)(r:ZN v u)(a:(x==("__debug__" : Str))=false:=by decide):PE X (.Name x pos) (tC v):=
 λ_ _ _ H _ I h=>NP I b c ⟨v,H,I,r,h⟩ a
theorem UN{x:Str}{v:V}{u:ah}{a:Pos}(c:Gl X x)(d:X.mg x=none)(f:ax x=some u)(r:ZN v u)(e:x ≠ "__name__" :=by decide)(b:(x==("__debug__" : Str))=false:=by decide):PE X (.Name x a) (tC v):=
 λ_ _ _ H _ I h=>Nu I c d f ⟨v,H,I,r,h⟩ e b
variable{a b:Expr}{ta tb:TE}{pos:Pos}
def PC(X:Cx)(g:CmpOp)(a b:Expr)(t:TE):Prop:=
 ∀(c:jo)(s:aj)(f:St)(H:Hp)(Q:VK),ZF X c f H s->t f H Q ->
  aA (az X.prog X.w) X.A (aF a X.env) (λv d=>aA (az X.prog X.w) X.A (aF b X.env) (λu e=>aA (az X.prog X.w) X.A (ay g v u) (EP X c f Q) X.xe e) X.xe d) X.xe s
theorem Fl(b:Expr){c:CmpOp}(h:c≠.In)(f:c≠.NotIn):behindInMarks c b=false:=by
 let d:(c==CmpOp.In)=false:=by cases c <;> first | rfl | exact absurd rfl h
 let e:(c==CmpOp.NotIn)=false:=by cases c <;> first | rfl | exact absurd rfl f
 cases b <;> simp[behindInMarks,d,e]
def ZRF(ta:TE):TE:=λd H Q=>ta d H λx c=>Q (.bl (decide (x=.non))) c
def ZQO(ta:TE):TE:=λd H Q=>ta d H λx c=>Q (.bl (!decide (x=.non))) c
theorem ZN.none_iff{x:V}{v:ah}(r:ZN x v):(v==Value.none)=decide (x=.non):=by
 cases x with
 | non=>cases r;rfl
 | bl _=>cases r;rfl
 | int _=>let⟨t,rfl⟩:=r;rfl
 | str _=>let⟨t,rfl⟩:=r;rfl
 | byt _=>let⟨t,rfl⟩:=r;rfl
 | flt _=>let⟨t,rfl⟩:=r;rfl
 | ref _=>cases r;rfl
 | ty _=>cases r;rfl
theorem MD{j d}(g:PE X a ta):PC X .Is a (.Constant .none j d) (ZRF ta):=by
 intro c s l H Q I h;refine YF (g c s l H _ I h) λv m x e f k i=>?_;exact Constant_none (is_none_gen ⟨.bl _,e,f,by rw[k.none_iff];rfl,i⟩)
theorem M6{j d}(g:PE X a ta):PC X .IsNot a (.Constant .none j d) (ZQO ta):=by
 intro c s l H Q I h;refine YF (g c s l H _ I h) λv m x e f k i=>?_;exact Constant_none (isnot_none_gen ⟨.bl _,e,f,by rw[k.none_iff];rfl,i⟩)
def tB(t:TE):TT:=λe H Q=>t e H λx d=>∃ c,x=.bl c/\Q c d
theorem BR{d:CmpOp}{t:TE}(h:PC X d a b t)(e:behindInMarks d b=false:=by first | exact Fl _ (by decide) (by decide) | rfl):PE X (.Compare a [d] [b] pos) t:=λc s g H Q I f=>wpAny_Compare1 (h c s g H Q I f) e
theorem Pa{g:CmpOp}{t:TE}(h:PC X g a b t)(f:behindInMarks g b=false:=by first | exact Fl _ (by decide) (by decide) | rfl):PT X (.Compare a [g] [b] pos) (tB t):=by
 intro e s o H Q I l;refine wpAny_isTrue_Compare1 (YA (h e s o H _ I l) λv p f=>YA f λu r k=>YF k λc w x i j n m=>?_) f;let⟨d,rfl,q⟩:=m;cases n;exact wpAny_truthy_bool ⟨i,j,q⟩
theorem Y5{e:Expr}{t:TE}(h:PE X e t)(j:∀ c,isTrue e X.env c=(do let v<-c;standAt e.pos;holding [v] (truthy v)):=by intro _;rfl):PT X e (tB t):=by
 intro f s n H Q I k;refine isTrue_plain (YF (h f s n H _ I k) λv o x g i m l=>?_) (j _);let⟨d,rfl,q⟩:=l;cases m;exact wpAny_truthy_bool ⟨g,i,q⟩
variable{tA tB':TT}{rest:jw}
def ZRP(t u:TT):TT:=λe H Q=>t e H λc d=>if c=true then u e d Q else Q false d
def tOr(t u:TT):TT:=λe H Q=>t e H λc d=>if c=true then Q true d else u e d Q
def ZRE(t:TT):TT:=λe H Q=>t e H λc d=>Q (!c) d
theorem Fd(f:PT X a tA):PW X (.BoolOp .And [a] pos) tA:=by
 intro j d s g H Q I h;refine isTrue_and (YA (f d s g H Q I h) λc i e=>?_)
 cases c with
 | true=>exact isTrue_and_nil e
 | false=>exact e
theorem Nb(f:PT X a tA):PW X (.BoolOp .Or [a] pos) tA:=by
 intro j d s g H Q I h;refine isTrue_or (YA (f d s g H Q I h) λc i e=>?_)
 cases c with
 | false=>exact isTrue_or_nil e
 | true=>exact e
theorem GO(j:PT X a tA)(k:PW X (.BoolOp .And (b::rest) pos) tB'):PW X (.BoolOp .And (a::b::rest) pos) (ZRP tA tB'):=by
 intro m d s i H Q I h;refine isTrue_and (YA (j d s i H _ I h) ?_);rintro c l ⟨e,f,g⟩
 cases c with
 | true=>exact k m d l i e Q f g
 | false=>exact⟨e,f,g⟩
theorem Px(j:PT X a tA)(k:PW X (.BoolOp .Or (b::rest) pos) tB'):PW X (.BoolOp .Or (a::b::rest) pos) (tOr tA tB'):=by
 intro m d s i H Q I h;refine isTrue_or (YA (j d s i H _ I h) ?_);rintro c l ⟨e,f,g⟩
 cases c with
 | true=>exact⟨e,f,g⟩
 | false=>exact k m d l i e Q f g
theorem Vl(f:PT X a tA):PT X (.UnaryOp .Not a pos) (ZRE tA):=by
 intro d s g H Q I h;exact isTrue_not (f d s g H (λc e=>Q (!c) e) I h)
inductive Op(tb:TE)(e:L2.St)(Q:VK)(x:V)(d:Hp):Prop
 |mk(c:_)(_:x=.bl c)(_:if c=true then tb e d Q else Q (.bl false) d)
def ZP4(ta tb:TE):TE:=λc H Q=>ta c H λx d=>Op tb c Q x d
inductive Ot(Q:VK)(x:V)(d:Hp):Prop
 |mk(c:_)(_:x=.bl c)(_:Q (.bl (!c)) d)
def ZQH(ta:TE):TE:=λd H Q=>ta d H λx c=>Ot Q x c
theorem P7{e}{t:TE}(h:PE X a t):PE X (.BoolOp e [a] pos) t:=λc s f H Q I d=>BoolOp_one (h c s f H Q I d)
theorem Q7(j:PE X a ta)(k:PE X (.BoolOp .And (b::rest) pos) tb):PE X (.BoolOp .And (a::b::rest) pos) (ZP4 ta tb):=by
 intro d s i H Q I h;refine BoolOp_and (YF (j d s i H _ I h) λv m x f g l e=>?_);let⟨c,rfl,e⟩:=e;cases l;refine wpAny_truthy_bool ?_
 cases c with
 | true=>exact k d m i f Q g e
 | false=>exact⟨.bl false,f,g,Z,e⟩
theorem ZPS(i:PE X a ta):PE X (.UnaryOp .Not a pos) (ZQH ta):=by
 intro d s k H Q I h;refine UnaryOp_ (YF (i d s k H _ I h) λv l x f g j e=>?_);let⟨c,rfl,e⟩:=e;cases j;exact not_of (wpAny_truthy_bool ⟨.bl (!c),f,g,Z,e⟩)
def tIf(t:TT)(ta tb:TE):TE:=λd H Q=>t d H λc e=>if c=true then ta d e Q else tb d e Q
theorem MO{c:Expr}(n:PT X c tA)(l:PE X a ta)(m:PE X b tb):PE X (.IfExp c a b pos) (tIf tA ta tb):=by
 intro e s f H Q I h;refine wpAny_IfExp (YA (n e s f H _ I h) ?_);rintro d k ⟨g,i,j⟩
 cases d with
 | true=>exact l e k f g Q i j
 | false=>exact m e k f g Q i j
end
def ZG(K:zZ)(H:Hp)(a:ai)(c:je):Prop:=
 Rd H a (.lst c) \/
  ∃(o:aG)(b:js)(n:Nat),K.lookup a=some o/\o.cls=.type "list" /\ o.dict=none/\o.data=.seq b n/\b.size<=ao/\ZQ c b.toList
def Zs(K:zZ)(H:Hp)(a:ai)(c:je):Prop:=
 Rd H a (.tup c) \/
  ∃(o:aG)(b:js)(n:Nat),K.lookup a=some o/\o.cls=.type "tuple" /\ o.data=.seq b n/\b.size<=ao/\ZQ c b.toList
def ZRG:ah->jf
 | .none=>some .non
 | .bool b=>some (.bl b)
 | .int i _=>some (.int i)
 | .str x _=>some (.str x)
 | .bytes b _=>some (.byt b)
 | .float b _=>some (.flt b)
 | .ref a=>some (.ref a)
 | .type n=>some (.ty n)
 | _=>none
theorem ZN.abs{x:V}{u:ah}(r:ZN x u):ZRG u=some x:=by
 cases x with
 | non=>cases r;rfl
 | bl _=>cases r;rfl
 | int _=>let⟨t,rfl⟩:=r;rfl
 | str _=>let⟨t,rfl⟩:=r;rfl
 | byt _=>let⟨t,rfl⟩:=r;rfl
 | flt _=>let⟨t,rfl⟩:=r;rfl
 | ref _=>cases r;rfl
 | ty _=>cases r;rfl
theorem ZN.inj{x y:V}{u:ah}(r:ZN x u)(q:ZN y u):x=y:=yZ.inj (r.abs.symm.trans q.abs)
theorem ZQ.inj:∀{c a:je}{b:jd},ZQ c b->ZQ a b->c=a:=by intro _ a _ h g;induction h generalizing a with
 | nil=>cases g;rfl
 | cons r _ d=>cases g with
  | cons e f=>rw[r.inj e,d f]
section
variable{jP:jo}{σ:St}{H:Hp}{s:aj}{a:ai}{xs ys:je}
theorem ZG.of{K:zZ}(h:H a=some (.lst xs)):ZG K H a xs:=.inl (.inl h)
theorem Zs.of{K:zZ}(h:H a=some (.tup xs)):Zs K H a xs:=.inl (.inl h)
theorem ZF.list(I:ZF X jP σ H s)(h:ZG X.K H a xs):∃ b:jd,ZQ xs b/\PlainL s.heap a b.toArray/\xs.length<=sizeLine:=by
 rcases h with h | ⟨o,b,n,f,c,d,g,i,r⟩
 ·let⟨z,b,n,r,e⟩:=h.ok I.hok;exact⟨b,r,⟨_,n,e,Z,Z,Z⟩,z⟩
 ·exists b.toList,r,⟨o,n,I.kIn a o f,c,d,by simpa using g⟩
  let e:=r.length;simp only[uE] at e
  lia
theorem ZF.tuple(I:ZF X jP σ H s)(h:Zs X.K H a xs):∃ b:jd,ZQ xs b/\IsTup s.heap a b.toArray/\xs.length<=sizeLine:=by
 rcases h with h | ⟨o,b,n,d,c,f,g,r⟩
 ·let⟨z,b,r,p⟩:=h.ok I.hok;exact⟨b,r,p,z⟩
 ·exists b.toList,r,⟨o,I.kIn a o d,c,n,by simpa using f⟩
  let e:=r.length;simp only[uE] at e
  lia
theorem ZF.list_inj(I:ZF X jP σ H s)(h:ZG X.K H a xs)(i:ZG X.K H a ys):xs=ys:=by
 let⟨c,r,⟨o,n,e,_,_,d⟩,_⟩:=I.list h;let⟨b,j,⟨l,k,g,_,_,f⟩,_⟩:=I.list i;rw[e] at g;cases g;rw[d] at f;injection f with d1 _;have:c=b:=by simpa using congrArg tU d1
 subst this;exact r.inj j
theorem ZF.tuple_inj(I:ZF X jP σ H s)(h:Zs X.K H a xs)(i:Zs X.K H a ys):xs=ys:=by
 let⟨c,r,⟨o,e,_,n,d⟩,_⟩:=I.tuple h;let⟨b,j,⟨l,g,_,k,f⟩,_⟩:=I.tuple i;rw[e] at g;cases g;rw[d] at f;injection f with d1 _;have:c=b:=by simpa using congrArg tU d1
 subst this;exact r.inj j
end
abbrev Cx.wish(X:Cx)(E:ja):Cx:={ X with xe:=E }
abbrev Cx.nox(X:Cx):Cx:=X.wish λ_ _=>False
theorem Cx.Ok.wish{X:Cx}(a:X.Ok)(E:ja):(X.wish E).Ok:=
 ⟨a.mod,a.kind,a.glob,a.blt,a.above,a.inj,a.has,a.cab,a.hd,a.frames,a.stk,a.exf,a.bs,a.bsz,a.noex,a.exfs,a.funs,a.frf⟩
theorem Cx.Ok.unwish{X:Cx}{E:ja}(a:(X.wish E).Ok):X.Ok:=
 ⟨a.mod,a.kind,a.glob,a.blt,a.above,a.inj,a.has,a.cab,a.hd,a.frames,a.stk,a.exf,a.bs,a.bsz,a.noex,a.exfs,a.funs,a.frf⟩
section
variable{jP:jo}{σ:St}{H:Hp}{s:aj}{E:ja}
theorem ZF.wish(I:ZF X jP σ H s)(E:ja):ZF (X.wish E) jP σ H s:=⟨I.ok.wish E,I.os,I.bare,I.base,I.loc,I.cell,I.free,I.freeC,I.pin,I.hok,I.len⟩
theorem ZF.unwish(I:ZF (X.wish E) jP σ H s):ZF X jP σ H s:=⟨I.ok.unwish,I.os,I.bare,I.base,I.loc,I.cell,I.free,I.freeC,I.pin,I.hok,I.len⟩
theorem SP.unwish{D:YH}{f:Flow}{c:aj}(h:SP (X.wish E) jP D f c):SP X jP D f c:=by
 cases f with
 | next=>let⟨a,b,I,q⟩:=h;exact⟨a,b,I.unwish,q⟩
 | brk=>let⟨a,b,I,q⟩:=h;exact⟨a,b,I.unwish,q⟩
 | cont=>let⟨a,b,I,q⟩:=h;exact⟨a,b,I.unwish,q⟩
 | ret u=>let⟨v,a,b,I,r,q⟩:=h;exact⟨v,a,b,I.unwish,r,q⟩
theorem XV.nox{a:jB}{t:TS}(h:XV X.nox a t):XV X a t:=λjP s σ H D I b=>
 ae (h jP s σ H D (I.wish _) b) (λ_ _ q=>q.unwish) λ_ _ z=>False.elim z
end
section
variable{st:aB}{rest:jB}{t u:TS}{e:Expr}{te:TE}{pos:Pos}
def An:TS:=λD a H=>D.nx a H
def Bd(t u:TS):TS:=λD a H=>t { D with nx:=u D } a H
theorem Z5:XV X [] An:=λ_ _ a H _ I h=>wpAny_execs_nil ⟨a,H,I,h⟩
theorem ZL(g:PS X st t)(i:XV X rest u):XV X (st::rest) (Bd t u):=by
 intro a s k H D I h;refine wpAny_execs_cons (YA (g a s k H { D with nx:=u D } I h) λf j q=>?_)
 cases f with
 | next=>
  let⟨b,c,d,q⟩:=q;exact i a j b c D d q
 | ret v=>exact q
 | brk=>exact q
 | cont=>exact q
theorem ZR(b:PS X st t):XV X [st] t:=by
 intro a s c H D I h;refine wpAny_execs_cons (YA (b a s c H D I h) λf d q=>?_)
 cases f with
 | next=>exact wpAny_execs_nil q
 | ret v=>exact q
 | brk=>exact q
 | cont=>exact q
theorem ZF.quiet{a:jo}{b:St}{H:Hp}{s:aj}(I:ZF X a b H s):interactive X.env=false:=by simp[interactive,I.ok.kind]
def ZP6(te:TE):TS:=λD a H=>te a H λ_ b=>D.nx a b
theorem Ye(f:PE X e te)(g:swapsWith e none pos.line X.env=pure false:=by rfl):PS X (.Expr e pos) (ZP6 te):=by
 intro a s b H D I h;exact wpAny_Expr_any (YF (f a s b H _ I h) λv k x c d j i=>⟨b,c,d,i⟩) I.quiet g
def Bk(te:TE):TS:=λD a H=>te a H D.rt
theorem Zh(f:PE X e te):PS X (.Return (some e) pos) (Bk te):=by
 intro a s b H D I h;exact wpAny_Return_some (YF (f a s b H _ I h) λv j x c d i g=>⟨x,b,c,d,i,g⟩)
def ZQt:TS:=λD _ H=>D.rt .non H
theorem ZN1:PS X (.Return none pos) ZQt:=λ_ _ a H _ I h=>wpAny_Return_none ⟨.non,a,H,I,Z,h⟩
def ZRJ(c:TT)(t u:TS):TS:=λD a H=>c a H λb d=>if b=true then t D a d else u D a d
theorem Z1{c:Expr}{a b:jB}{m:TT}(p:PT X c m)(n:XV X a t)(o:XV X b u):PS X (.If c a b pos) (ZRJ m t u):=by
 intro f s g H D I h;refine wpAny_If (YA (p f s g H _ I h) ?_);rintro d l ⟨i,j,k⟩
 cases d with
 | true=>exact n f l g i D j k
 | false=>exact o f l g i D j k
def ZOn:TS:=λ_ _ _=>False
theorem Wq{a:jB}:XV X a ZOn:=λ_ _ _ _ _ _ h=>h.elim
end
abbrev TG:=V->St->Hp->(St->Hp->Prop)->Prop
def PG(X:Cx)(a:Expr)(t:TG):Prop:=
 ∀(b:jo)(s:aj)(e:St)(H:Hp)(v:V)(u:ah)(Q:St->Hp->Prop),ZF X b e H s->ZN v u->t v e H Q ->
  aA (az X.prog X.w) X.A (assign a X.env u) (λ_ f=>∃ c d,ZF X b c d f/\Q c d) X.xe s
abbrev IK:=V->V->V->Hp->(Hp->Prop)->Prop
def HK(X:Cx)(t:IK):Prop:=
 ∀(a:jo)(s:aj)(e:St)(H:Hp)(o i v:V)(d c u:ah)(Q:Hp->Prop),ZF X a e H s->ZN o d->ZN i c->ZN v u->t o i v H Q ->
  aA (az X.prog X.w) X.A (setItem d c u) (λ_ f=>∃ b,ZF X a e b f/\Q b) X.xe s
abbrev Jp:=V->V->Hp->VK->Prop
def A2(X:Cx)(c:Operator)(t:Jp):Prop:=
 ∀(a:jo)(s:aj)(b:St)(H:Hp)(x y:V)(v u:ah)(Q:VK),ZF X a b H s->ZN x v->ZN y u->t x y H Q ->
  aA (az X.prog X.w) X.A (inplaceOp c v u) (EP X a b Q) X.xe s
section
variable{pos:Pos}
def OR(i:Nat):TG:=λv a H Q=>Q (a.set i (some v)) H
theorem JB{i:Nat}{x:Str}(c:X.N.Nodup)(e:X.N[i]? = some x)(f:Ow X.env.scope x)(d:X.fn x=true\/X.env.scope.names.lookup x=some .local:=by first | exact .inl rfl | exact .inr rfl | assumption):PG X (.Name x pos) (OR i):=by
 intro a s j H v u Q I r h;exact wpAny_assign_Name (LS I c e f r (λg b=>⟨_,H,b,h⟩) d)
theorem Vo(i:Nat){x:Str}(a:X.N.Nodup)(c:X.N[i]? = some x:=by rfl)(d:Ow X.env.scope x:=by exact Or.inl Z)(b:X.fn x=true\/X.env.scope.names.lookup x=some .local:=by first | exact .inl rfl | exact .inr rfl | assumption):PG X (.Name x pos) (OR i):=JB a c d b
def ZRW(f e:TE)(t:IK):TG:=λv a H Q=>f a H λo b=>e a b λi c=>t o i v c λd=>Q a d
theorem IN{o i:Expr}{f e:TE}{t:IK}(w:PE X o f)(q:PE X i e)(z:HK X t)(p:∀ v,assign (.Subscript o i pos) X.env v=(do
   let b<-holding [v] (aF o X.env)
   let c<-holding [v,b] (aF i X.env)
   standAt pos
   holding [v,b,c] (setItem b c v)
   release [v,b,c] []):=by intro _;rfl):PG X (.Subscript o i pos) (ZRW f e t):=by
 intro a s d H v u Q I r h;rw[p];refine aa (af (YF (w a s d H _ I h) λb F x g l D A=>?_));refine aa (af (YF (q a F d g _ l A) λc G y j m E B=>?_));refine aa (wpAny_standAt (aa (af (YA (z a G d j x y v b c u _ m D E r B) ?_))));rintro _ J ⟨k,n,C⟩;exact wpAny_release ⟨d,k,n,C⟩
def Kz(c:TE)(g:TG):TS:=λD a H=>c a H λx b=>g x a b D.nx
theorem Iv{b e:Expr}{c:TE}{g:TG}(k:PE X e c)(l:PG X b g)(m:swapsWithSole [b] e pos.line X.env=pure false:=by rfl)(n:swappedStores [b] e X.env=pure none:=by rfl)(j:(assignEach [b] X.env).map (·.2)=[assign b X.env]:=by rfl):PS X (.Assign [b] e pos) (Kz c g):=by
 intro a s d H D I h;refine wpAny_Assign_stores (YF (k a s d H _ I h) λv r x f i p o=>?_) m n;rw[j];exact YA (l a r d f x v _ i p o) λ_ t q=>q
theorem Nn{i:Nat}{x:Str}{e:Expr}{c:TE}{a:Pos}(j:X.N.Nodup)(m:X.N[i]? = some x)(o:Ow X.env.scope x)(k:PE X e c)(n:swapsWith e (some (.Name x a)) pos.line X.env=pure false:=by rfl)(l:X.fn x=true\/X.env.scope.names.lookup x=some .local:=by first | exact .inl rfl | exact .inr rfl | assumption):
  PS X (.Assign [.Name x a] e pos) (Kz c (OR i)):=by
 intro b s r H D I h;refine wpAny_Assign_Name (YF (k b s r H _ I h) λv t y d f q p=>?_) n;exact LS f j m o q (λu g=>⟨_,d,g,p⟩) l
theorem Zj(i:Nat){x:Str}{e:Expr}{b:TE}{a:Pos}(c:X.N.Nodup)(d:PE X e b)(g:X.N[i]? = some x:=by rfl)(j:Ow X.env.scope x:=by exact Or.inl Z)(h:swapsWith e (some (.Name x a)) pos.line X.env=pure false:=by rfl)(f:X.fn x=true\/X.env.scope.names.lookup x=some .local:=by first | exact .inl rfl | exact .inr rfl | assumption):
  PS X (.Assign [.Name x a] e pos) (Kz b (OR i)):=Nn c g j d h f
inductive Km(i:Nat)(d:TE)(e:Jp)(D:YH)(a:L2.St)(H:Hp):Prop
 |mk(x:_)(_:a[i]? = some (some x))(_:d a H λy b=>e x y b λz c=>D.nx (a.set i (some z)) c)
theorem ZPi{i:Nat}{x:Str}{e:Expr}{B:TE}{o:Operator}{C:Jp}{f:Pos}(O:X.N.Nodup)(t:X.N[i]? = some x)(n:Ow X.env.scope x)(Q:PE X e B)(V:A2 X o C)(R:X.fn x=true\/X.env.scope.names.lookup x=some .local:=by first | exact .inl rfl | exact .inr rfl | assumption):
  PS X (.AugAssign (.Name x f) o e pos) (Km i B C):=by
 intro a s E H D I h;let⟨v,M,h⟩:=h;let⟨m,U,S⟩:=I.loc;let p:LX X.env.scope x:=by rcases n with k | k;exact .inl k;exact .inr (.inl k)
 let⟨u,r,l⟩:=S i x v t M p;refine wpAny_AugAssign_Name ?_;let q:aA (az X.prog X.w) X.A (aF e X.env) (λw g=>aA (az X.prog X.w) X.A (inplaceOp o u w) (λr j=>aA (az X.prog X.w) X.A (storeName X.env x r) (λ_=>SP X a D .next) X.xe j) X.xe g) X.xe s:=by
  refine YF (Q a s E H _ I h) λw s1 y F J r1 W=>?_;refine YF (V a s1 E F v y u w _ J r r1 W) λz s2 zv G K r2 Y=>?_;exact LS K O t n r2 (λs3 L=>⟨_,G,L,Y⟩) R
 rcases l with ⟨b,T⟩ | ⟨b,c,P,d⟩
 ·exact wpAny_loadName_local I.ok.kind b U T q
 ·rcases b with b | b
  ·exact wpAny_loadName_cell I.ok.kind b P d q
  ·rcases n with k | k
   ·have:X.env.scope.names.lookup x=some .free:=b;rw[k] at this;cases this
   ·have:X.env.scope.names.lookup x=some .free:=b;rw[k] at this;cases this
inductive Ou(c:TT)(h:TS)(D:YH)(a:L2.St)(H:Hp):Prop
 |mk(W:Nat->St->Hp->Prop)(_:∃ m,W m a H)(_:∀ m a H,W m a H->c a H λb f=>if b=true then ∃ N:St->Hp->Prop,(∀ d e,N d e->∃ g,g<m/\W g d e)/\h { D with nx:=N,ct:=N,bk:=D.nx } a f else D.nx a f)
theorem Om{c:Expr}{g:jB}{F:TT}{E:TS}(C:PassesOwn (az X.prog X.w) X.A X.env X.xe)(K:PT X c F)(J:XV X g E):PS X (.While c g [] pos) (Ou F E):=by
 intro a s S H D I h;let⟨W,⟨L,Q⟩,j⟩:=h;refine wpAny_While (codeAny_whileLoop (λn M=>∃ k u,ZF X a k u M/\W n k u) ?_ L ⟨S,H,I,Q⟩);rintro n O ⟨e,x,G,R⟩;refine wpAny_passesOwn C (YA (K a O e x _ G (j n e x R)) ?_);rintro b P ⟨y,z,l⟩
 cases b with
 | true=>
  let⟨N,B,l⟩:=l;rw[aK rfl];refine wpAny_passesOwn C (YA (J a P e y _ z l) λf T m=>?_)
  cases f with
  | next=>
   let⟨d,i,o,r⟩:=m;let⟨q,p,t⟩:=B d i r;exact⟨q,p,d,i,o,t⟩
  | cont=>
   let⟨d,i,o,r⟩:=m;let⟨q,p,t⟩:=B d i r;exact⟨q,p,d,i,o,t⟩
  | brk=>exact m
  | ret v=>exact m
 | false=>
  rw[aJ zW];exact wpAny_execs_nil ⟨e,y,z,l⟩
end
structure It where
 go:Nat->Hp->Prop
 yld:Nat->Hp->V->Hp->Prop
 stop:Nat->Hp->Prop
def VQ(X:Cx)(a:jo)(H:Hp)(b:ai):Prop:=
 H b=none/\b≠X.env.locals/\b∉X.fs/\(b∈X.ex\/X.s₀.heap.objs.size<=b)/\(∀ x c,X.env.cells.lookup x=some c->c≠b)/\∀ p∈X.pn++a,p.1≠b
theorem ZF.fpOk{X:Cx}{a:jo}{i:St}{H f:Hp}{s:aj}{b:ai}(I:ZF X a i H s)(d:s.heap.objs.size<=b)(g:f b=none):VQ X a f b:=by
 refine⟨g,Nat.ne_of_gt (yI I.lt d),I.nofs d,.inr (zI I.sz d),λx c e z=>?_,λp h z=>?_⟩
 ·let⟨v,q⟩:=I.cell x c e;exact absurd (yI q.lt (by rw[z];exact d)) (wK _)
 ·exact absurd (yI (zH (I.pin p h).1) (by rw[z];exact d)) (wK _)
structure Ut(P:ak)(w:ar)(K:zZ)(tg:Expr)(J:It)(fp:jy)(it:ai)(tn:Nat->aC->Prop):Prop where
 mem:it∈fp
 obj:∀ i h,tn i h->∀ b∈fp,∃ o,h.get? b=some o/\∀ v,o.data≠.cell v
 keep:∀ i h h',tn i h->(∀ b∈fp,∀ o,h.get? b=some o->h'.get? b=some o)->tn i h'
 item:∀(X:Cx),X.prog=P->X.w=w->X.K=K->X.calm=true->∀(i:Nat)(jP:jo)(s:aj)(σ:St)(H:Hp)(E:ja),ZF X jP σ H s->(∀ b∈fp,VQ X jP H b)->tn i s.heap->J.go i H ->
  aA (az P w) X.A (pyNext (.ref it)) (λr s1=>∃ u,r=some u /\
   aA (az P w) X.A (letOwnedTupleGo tg (.ref it) u) (λ_ s2=>∃ x H',ZF X jP σ H' s2/\ZN x u/\J.yld i H x H'/\tn (i+1) s2.heap/\∀ b∈fp,H' b=none) E s1) E s
 done:∀(X:Cx),X.prog=P->X.w=w->X.K=K->X.calm=true->∀(i:Nat)(jP:jo)(s:aj)(σ:St)(H:Hp)(E:ja),ZF X jP σ H s->(∀ b∈fp,VQ X jP H b)->tn i s.heap->J.stop i H ->
  aA (az P w) X.A (pyNext (.ref it)) (λr s1=>r=none/\ZF X jP σ H s1) E s
 self:∀(A:aw)(i:Nat)(s:aj)(Q:ja)(E:ja),tn i s.heap->Q (.ref it) s->aA (az P w) A (pyIter (.ref it)) Q E s
abbrev TI:=St->Hp->(It->Hp->Prop)->Prop
def GN(X:Cx)(a:jo)(j:St)(i:Expr)(R:It->Hp->Prop)(d:ah)(g:aj):Prop:=
 ∃(f:ai)(e:jy)(h:Nat->aC->Prop)(J:It)(c:Hp),d=.ref f/\ZF X a j c g/\Ut X.prog X.w X.K i J e f h/\h 0 g.heap/\(∀ b∈e,VQ X a c b)/\R J c
def PI(X:Cx)(e b:Expr)(f:TI):Prop:=
 ∀(a:jo)(s:aj)(c:St)(H:Hp)(R:It->Hp->Prop),ZF X a c H s->f c H R ->
  aA (az X.prog X.w) X.A (aF b X.env) (λv d=>aA (az X.prog X.w) X.A (pyIter v) (GN X a c e R) X.xe d) X.xe s
theorem Ld{M:Model}{A:aw}{E:ja}{s:aj}{c:Expr}{b:ai}{u:ah}{o:aG}{n:String}{d:js}{Q:Unit->aj->Prop}(i:s.heap.get? b=some o)(e:o.cls=.type n)(f:o.data=.fields d)(g:["enumerate","zip","dict_itemiterator","dict_reverseitemiterator","odict_iterator","itertools.zip_longest","itertools.pairwise"].contains n=false)(a:Q () s):aA M A (letOwnedTupleGo c (.ref b) u) Q E s:=by
 unfold letOwnedTupleGo;cases c <;> first
  | exact ad a
  | (cases u <;> first
    | exact ad a
    | (refine aa (wpAny_load i ?_);rw[e,f];show aA M A (if (["enumerate","zip","dict_itemiterator","dict_reverseitemiterator","odict_iterator","itertools.zip_longest","itertools.pairwise"].contains n&&d[0]? == some (rawInt _))=true then _ else _) Q E s;rw[aJ (by intro h;rw[g,wC] at h;cases h)];exact ad a))
def Pj(K:zZ)(a:ai):It:=
 ⟨λi H=>∃ b x,ZG K H a b/\b[i]? = some x,λi H x c=>c=H/\∀ b,ZG K H a b->b[i]? = some x,λi H=>∃ b,ZG K H a b/\b.length<=i⟩
def GD(K:zZ)(a:ai):It:=
 ⟨λi H=>∃ b x,Zs K H a b/\b[i]? = some x,λi H x c=>c=H/\∀ b,Zs K H a b->b[i]? = some x,λi H=>∃ b,Zs K H a b/\b.length<=i⟩
def O9(b:Int)(n:Nat):It:=⟨λi _=>i<n,λi H x a=>a=H/\x=.int (b+i),λi _=>n<=i⟩
theorem ZJe{P:ak}{w:ar}{K:zZ}{tg:Expr}(a l:ai):Ut P w K tg (Pj K a) [l] l (λi h=>h.IsListIter l a i) where
 mem:=by simp
 obj:=λi h f b j=>by
  let e:b=l:=by simpa using j
  subst e;let⟨o,e,c,d⟩:=f;exact⟨o,e,λv z=>by rw[d] at z;cases z⟩
 keep:=λi h n f k=>f.at λo e=>k l (by simp) o e
 item:=by
  intro X F J D O i g s Q H E I q f G;subst F J D;let⟨xs,x,r,L⟩:=G;let⟨M,N,p,Y⟩:=I.list r;let⟨u,U,ru⟩:=N.get L;let⟨t,y,T,A,B,C⟩:=q l (by simp)
  refine wpAny_pyNext_list_item f p.isList (x:=u) (by simpa using U) λn m sb=>?_
  let R:ZF X g Q H { s with heap:=n }:=I.turned (t':=s.toks) (λb o j e=>(sb.2 b j).trans e) t y A B C;let⟨o,e,c,d⟩:=id m;exact⟨u,Z,Ld (s:={ s with heap:=n }) e c d (by decide) ⟨x,H,R,ru,⟨Z,λys V=>by rw[I.list_inj V r];exact L⟩,m,λb j=>(q b j).1⟩⟩
 done:=by
  intro X F J D O i g s Q H E I q f G;subst F J D;let⟨xs,r,L⟩:=G;let⟨M,N,p,Y⟩:=I.list r;let⟨t,y,T,A,B,C⟩:=q l (by simp)
  let hl:=N.length;exact wpAny_pyNext_list_end (I.ok.hd O) f p.isList (by simp;lia) λn S=>⟨Z,I.turned (t':=s.toks) (λb o j e=>S b o j e) t y A B C⟩
 self:=λ_ _ _ _ _ f h=>wpAny_pyIter_listiter f h
theorem ZHa{P:ak}{w:ar}{K:zZ}{tg:Expr}(a l:ai):Ut P w K tg (GD K a) [l] l (λi h=>h.IsTupleIter l a i) where
 mem:=by simp
 obj:=λi h f b j=>by
  let e:b=l:=by simpa using j
  subst e;let⟨o,e,c,d⟩:=f;exact⟨o,e,λv z=>by rw[d] at z;cases z⟩
 keep:=λi h q f k=>f.at λo e=>k l (by simp) o e
 item:=by
  intro X G L F O i g s Q H E I r f J;subst G L F;let⟨xs,x,t,M⟩:=J;let⟨m,N,p,Y⟩:=I.tuple t;let⟨u,U,ru⟩:=N.get M;let⟨y,A,T,B,C,D⟩:=r l (by simp)
  refine wpAny_pyNext_tuple_item f (show s.heap.IsTuple a m.toArray from p) (x:=u) (by simpa using U) λq n sb=>?_
  let R:ZF X g Q H { s with heap:=q }:=I.turned (t':=s.toks) (λb o j e=>(sb.2 b j).trans e) y A B C D;let⟨o,e,c,d⟩:=id n;exact⟨u,Z,Ld (s:={ s with heap:=q }) e c d (by decide) ⟨x,H,R,ru,⟨Z,λys V=>by rw[I.tuple_inj V t];exact M⟩,n,λb j=>(r b j).1⟩⟩
 done:=by
  intro X G L F O i g s Q H E I r f J;subst G L F;let⟨xs,t,M⟩:=J;let⟨m,N,p,Y⟩:=I.tuple t;let⟨y,A,T,B,C,D⟩:=r l (by simp)
  let hl:=N.length;exact wpAny_pyNext_tuple_end (I.ok.hd O) f (show s.heap.IsTuple a m.toArray from p) (by simp;lia) λq S=>⟨Z,I.turned (t':=s.toks) (λb o j e=>S b o j e) y A B C D⟩
 self:=λ_ _ _ _ _ f h=>wpAny_pyIter_tupleiter f h
theorem ZHZ{P:ak}{w:ar}{K:zZ}{Q:Expr}(c:ai)(m:Int)(n:Nat):Ut P w K Q (O9 m n) [c] c (λi h=>IsRangeIter h c (m+(i:Nat) * 1) ((n:Int)-(i:Nat)) 1) where
 mem:=by simp
 obj:=λi h a b f=>by
  let e:b=c:=by simpa using f
  subst e;exact⟨_,a,λv z=>by
   let R:Data.fields _=Data.cell v:=z;cases R⟩
 keep:=λi h j a k=>k c (by simp) _ a
 item:=by
  intro X A D y B i d s G H E I l a C;subst A D y;let⟨p,q,M,r,u,x⟩:=l c (by simp)
  let W:=Walks.range (prog:=X.prog) (w:=X.w) (I.ok.hd B) c m 1 n;refine W.item i s _ _ C a λv j F N g O=>?_;let⟨t,rfl⟩:=N;let J:ZF X d G H { s with heap:=j,toks:=F }:=I.turned (λb o f e=>O b o (by simpa using f) e) p q r u x
  refine⟨_,Z,Ld (s:={ s with heap:=j,toks:=F }) (n:= "range_iterator") g Z Z (by decide) ⟨.int (m+i),H,J,⟨t,?_⟩,⟨Z,Z⟩,g,λb f=>(l b f).1⟩⟩
  rw[Int.mul_one]
 done:=by
  intro X A D y B i d s G H E I l a C;subst A D y;let⟨p,q,M,r,u,x⟩:=l c (by simp)
  exact wpAny_pyNext_range_end (I.ok.hd B) a (by have:n<=i:=C;lia) λj L=>⟨Z,I.turned (t':=s.toks) (λb o f e=>L b o f e) p q r u x⟩
 self:=λ_ _ _ _ _ a h=>wpAny_pyIter_rangeiter a h
section
variable{tg:Expr}
inductive NG(K:zZ)(R:It->Hp->Prop)(x:V)(b:Hp):Prop
 |mk(a:_)(_:x=.ref a)(_:∃ c,ZG K b a c)(_:R (Pj K a) b)
def Bz(K:zZ)(b:TE):TI:=λc H R=>b c H λx a=>NG K R x a
inductive MK(K:zZ)(R:It->Hp->Prop)(x:V)(b:Hp):Prop
 |mk(a:_)(_:x=.ref a)(_:∃ c,Zs K b a c)(_:R (GD K a) b)
def ZRV(K:zZ)(b:TE):TI:=λc H R=>b c H λx a=>MK K R x a
theorem WD{l:Expr}{g:TE}(k:PE X l g):PI X tg l (Bz X.K g):=by
 intro c s u H R I h;refine YF (k c s u H _ I h) λv f x i d t r=>?_;let⟨a,e,⟨z,m⟩,q⟩:=r;subst e;cases t;let⟨n,y,p,w⟩:=d.list m;refine wpAny_pyIter_list p.isList ?_;refine⟨f.heap.objs.size,[f.heap.objs.size],_,_,i,Z,d.kept (t':=f.toks) λb o e=>zA _ e,ZJe a _,⟨_,yM _ Z,Z,Z⟩,λb j=>?_,q⟩;let e:b=f.heap.objs.size:=by simpa using j
 subst e;exact d.fpOk (zY _) (d.hok.fresh (zY _))
theorem JS{l:Expr}{i:TE}(m:PE X l i):PI X tg l (ZRV X.K i):=by
 intro c s u H R I h;refine YF (m c s u H _ I h) λv d x j f t r=>?_;let⟨a,e,⟨z,n⟩,q⟩:=r;subst e;cases t;let⟨g,y,p,w⟩:=f.tuple n;refine wpAny_pyIter_tuple (show d.heap.IsTuple a g.toArray from p) ?_;refine⟨d.heap.objs.size,[d.heap.objs.size],_,_,j,Z,f.kept (t':=d.toks) λb o e=>zA _ e,ZHa a _,⟨_,yM _ Z,Z,Z⟩,λb k=>?_,q⟩;let e:b=d.heap.objs.size:=by simpa using k
 subst e;exact f.fpOk (zY _) (f.hok.fresh (zY _))
theorem HI{d:jo}{h:St}{H:Hp}{s:aj}{R:It->Hp->Prop}{E:ja}{a c:Int}{t u v:Tok}{g:Nat}(I:ZF X d h H s)(k : -(2 ^ 62)<=a)(l:a<2 ^ 62)(m : -(2 ^ 62)<=c)(n:c<2 ^ 62)(q:R (O9 a (c-a).toNat) H):aA (az X.prog X.w) X.A (pyIter (.ref s.heap.objs.size)) (GN X d h tg R) E { s with heap:=s.heap.push { cls:=.type "range",data:=.fields #[.int a t,.int c u,.int 1 v] },toks:=g }:=by
 refine wpAny_pyIter_range (IsRange.new ..) (small_one k l m n) ?_;let f:ZF X d h H { s with heap:=s.heap.push { cls:=.type "range",data:=.fields #[.int a t,.int c u,.int 1 v] },toks:=g }:=I.kept λb o e=>zA _ e;refine⟨(s.heap.push { cls:=.type "range",data:=.fields #[.int a t,.int c u,.int 1 v] }).objs.size,[(s.heap.push { cls:=.type "range",data:=.fields #[.int a t,.int c u,.int 1 v] }).objs.size],_,_,H,Z,
  f.kept (t':=g) λb o e=>zA _ e,ZHZ _ a (c-a).toNat,?_,λb p=>?_,q⟩
 ·let i:a+((0:Nat):Int) * 1=a:=by simp
  let j:(((c-a).toNat:Nat):Int)-((0:Nat):Int)=Builtin.Range.rangeSize a c 1:=by rw[rangeSize_one];split <;> lia
  show IsRangeIter _ _ (a+((0:Nat):Int) * 1) ((((c-a).toNat:Nat):Int)-((0:Nat):Int)) 1;rw[i,j];exact yM _ Z
 ·let e:b=(s.heap.push { cls:=.type "range",data:=.fields #[.int a t,.int c u,.int 1 v] }).objs.size:=by simpa using p
  subst e;exact f.fpOk (zY _) (f.hok.fresh (zY _))
inductive O7(R:It->Hp->Prop)(b:je)(a:Hp):Prop
 |mk(j:Int)(_:b=[.int j])(_ : -(2 ^ 62)<=j)(_:j<2 ^ 62)(_:R (O9 0 j.toNat) a)
def Cm(b:TA):TI:=λd H R=>b d H λc a=>O7 R c a
inductive Oj(R:It->Hp->Prop)(b:je)(a:Hp):Prop
 |mk(i j:Int)(_:b=[.int i,.int j])(_ : -(2 ^ 62)<=i/\i<2 ^ 62 /\ -(2 ^ 62)<=j/\j<2 ^ 62)(_:R (O9 i (j-i).toNat) a)
def ZP0(b:TA):TI:=λd H R=>b d H λc a=>Oj R c a
theorem Me{a:Expr}{f:TA}{p c:Pos}(k:Gl X "range")(l:X.mg "range" = none)(i:PA X [a] f)(m:aq [a] X.env=[(false,aF a X.env)]:=by rfl):PI X tg (.Call (.Name "range" p) [a] [] c) (Cm f):=by
 intro b s v H R I h;refine Call_ (Nu I k l boot_range (PyProof.Rows.callWith_type1 (YF (i c b s v H _ I h) λy x z w g o d=>?_) m rfl));let⟨j,e,d,n,q⟩:=d;subst e
 cases o with
 | cons r u=>
  cases u;let⟨t,rfl⟩:=r;exact call_range_1 (HI g ∅ ∅ d n (by simpa using q))
theorem JK{a b:Expr}{l:TA}{p f:Pos}(o:Gl X "range")(u:X.mg "range" = none)(n:PA X [a,b] l)(v:aq [a,b] X.env=[(false,aF a X.env),(false,aF b X.env)]:=by rfl)(c:aq [b] X.env=[(false,aF b X.env)]:=by rfl):
  PI X tg (.Call (.Name "range" p) [a,b] [] f) (ZP0 l):=by
 intro d s B H R I h;refine Call_ (Nu I o u boot_range (PyProof.Rows.callWith_type1 (YF (n f d s B H _ I h) λF D G C m A g=>?_) (by rw[v,c]) (by rw[c];rfl)))
 let⟨i,j,e,⟨g,w,x,y⟩,q⟩:=g;subst e
 cases A with
 | cons r k=>
  cases k with
  | cons z k=>
   cases k;let⟨t,rfl⟩:=r;let⟨E,rfl⟩:=z;exact call_range_2 (HI m g w x y q)
def ZRX(k:TI)(g:TG)(j:TS):TS:=λD a H=>k a H λJ f=>∃ W:Nat->Nat->St->Hp->Prop,(∃ m,W 0 m a f)/\∀ i m a H,W i m a H ->
 (J.stop i H/\D.nx a H)\/(J.go i H/\∃ N:St->Hp->Prop,(∀ c b,N c b->∃ e,e<m/\W (i+1) e c b)/\∀ x b,J.yld i H x b->g x a b λd h=>j { D with nx:=N,ct:=N,bk:=D.nx } d h)
def Mi(a:jy)(h:aC):jo:=a.filterMap λb=>(h.get? b).map λo=>(b,o)
theorem Lf{a:jy}{h:aC}{b:ai}{o:aG}(c:b∈a)(e:h.get? b=some o):(b,o)∈Mi a h:=uI.mpr ⟨b,c,by rw[e];rfl⟩
theorem ZJc{a:jy}{h:aC}{p:ai×aG}(f:p∈Mi a h):p.1∈a/\h.get? p.1=some p.2:=by
 let⟨b,d,e⟩:=uI.mp f
 cases q:h.get? b with
 | none=>rw[q] at e;cases e
 | some o=>
  rw[q] at e;let c:(b,o)=p:=yZ.inj e;subst c;exact⟨d,q⟩
theorem ZF.pinned{a:jo}{h:St}{H:Hp}{s:aj}{c:jy}(I:ZF X a h H s)(l:∀ b∈c,VQ X a H b)(m:∀ b∈c,∃ o,s.heap.get? b=some o/\∀ v,o.data≠.cell v):ZF X (a++Mi c s.heap) h H s:=
 I.pins_of λp n=>(zD.mp n).elim (λz=>I.pin p (yP _ z)) λz=>by
  let⟨g,e⟩:=ZJc z;let⟨i,j,k,_⟩:=l p.1 g;let⟨o,f,d⟩:=m p.1 g;rw[e] at f;cases f;exact⟨e,i,j,k,d⟩
theorem ZF.unpinned{a d:jo}{b:St}{H:Hp}{s:aj}(I:ZF X (a++d) b H s):ZF X a b H s:=I.pins_of λp c=>I.pin p (yP _ (yF _ c))
theorem Vk{q:Expr}{C:jB}{wi:TI}{g:TG}{tb:TS}{Y:Pos}(L:PassesOwn (az X.prog X.w) X.A X.env X.xe)(hc:X.calm=true)(hi:PI X tg q wi)(hg:PG X tg g)(p:XV X C tb)(hs:∀ x,foldedSetIterable q X.env x=pure x:=by intro _;rfl):PS X (.For tg q C [] Y) (ZRX wi g tb):=by
 intro a s σ H D I h;refine wpAny_For (YA (hi a s σ H _ I h) λv s1 h1=>YA h1 λa2 s2 h2=>?_) hs;let⟨it,G,tn,J,H2,e,I2,T,a0,f2,W,⟨m0,w0⟩,Q⟩:=h2;subst e;let t:∀{B:Hp},(∀ b∈G,B b=none)->∀ b∈G,VQ X a B b:=λhn b p=>⟨hn b p,(f2 b p).2⟩;refine codeAny_forLoop_any (λn s'=>∃ i y B,ZF X a y B s'/\tn i s'.heap/\(∀ b∈G,B b=none)/\W i n y B) ?_ m0 ⟨0,σ,H2,I2,a0,λb p=>(f2 b p).1,w0⟩;rintro n s3 ⟨i,z,R,I3,O,K,w3⟩;rcases Q i n z R w3 with ⟨P,qn⟩ | ⟨go,N,hN,step⟩
 ·refine wpAny_passesOwn L (YA (T.done X rfl rfl rfl hc i a s3 z R X.xe I3 (t K) O P) ?_);rintro r s4 ⟨V,I4⟩;subst V;exact wpAny_execs_nil ⟨z,R,I4,qn⟩
 ·refine wpAny_passesOwn L (YA (T.item X rfl rfl rfl hc i a s3 z R X.xe I3 (t K) O go) ?_);rintro r s4 ⟨u,V,h4⟩;subst V;refine wpAny_passesOwn L (YA h4 ?_);rintro _ s5 ⟨x,H5,I5,r5,y5,F,U⟩;let S:=I5.pinned (t U) (T.obj _ _ F);refine wpAny_passesOwn L (YA (hg _ s5 z H5 x u _ S r5 (step x H5 y5)) ?_);rintro _ s6 ⟨a1,H6,I6,q6⟩;refine wpAny_passesOwn L (YA (p _ s6 a1 H6 _ I6 q6) λf s7 E=>?_);let l:∀{c:St}{j:Hp},ZF X (a++Mi G s5.heap) c j s7->N c j->∃ m,m<n/\∃ i y B,ZF X a y B s7/\tn i s7.heap/\(∀ b∈G,B b=none)/\W i m y B:=fun{c j} k M=>by
   let⟨m',hm,w7⟩:=hN c j M;refine⟨m',hm,i+1,c,j,k.unpinned,T.keep _ _ _ F λb p o e=>(k.pin (b,o) (yP _ (yP _ (Lf p e)))).1,λb p=>?_,w7⟩;let⟨o,e,d⟩:=T.obj _ _ F b p;exact(k.pin (b,o) (yP _ (yP _ (Lf p e)))).2.1
  cases f with
  | next=>let⟨c,j,k,M⟩:=E;exact l k M
  | cont=>let⟨c,j,k,M⟩:=E;exact l k M
  | brk=>let⟨c,j,k,E⟩:=E;exact⟨c,j,k.unpinned,E⟩
  | ret v=>let⟨x7,c,j,k,r7,E⟩:=E;exact⟨x7,c,j,k.unpinned,r7,E⟩
end
theorem Qm{K:zZ}{a:ai}{xs:je}{g:TG}{n:TS}{D:YH}{b:St}{H:Hp}(c:Nat->St->Hp->Prop)(o:c 0 b H)(t:∀ i b H,i<=xs.length->c i b H->ZG K H a xs)(u:∀ i x b H,xs[i]? = some x->c i b H->g x b H λh k=>n { D with nx:=c (i+1),ct:=c (i+1),bk:=D.nx } h k)(r:∀ b H,c xs.length b H->D.nx b H):
  ∃ W:Nat->Nat->St->Hp->Prop,(∃ m,W 0 m b H)/\∀ i m b H,W i m b H ->
   ((Pj K a).stop i H/\D.nx b H)\/((Pj K a).go i H/\∃ N:St->Hp->Prop,(∀ f d,N f d->∃ l,l<m/\W (i+1) l f d)/\∀ x d,(Pj K a).yld i H x d->g x b d λh k=>n { D with nx:=N,ct:=N,bk:=D.nx } h k):=by
 exists λi m b H=>m=xs.length-i/\i<=xs.length/\c i b H,⟨xs.length,by simp,zE _,o⟩
 rintro i m b H ⟨rfl,s,p⟩;let q:=t i b H s p;by_cases j:i<xs.length
 ·refine .inr ⟨⟨xs,xs[i],q,by simp[j]⟩,c (i+1),λf d v=>⟨xs.length-(i+1),by exact uH ‹_› (wT _),Z,j,v⟩,λx d y=>?_⟩
  let⟨e,y⟩:=y;subst e;exact u i x b _ (y xs q) p
 ·let e:i=xs.length:=∅
  subst e;exact .inl ⟨⟨xs,q,zY _⟩,r b H p⟩
theorem MX{lo:Int}{n:Nat}{g:TG}{l:TS}{D:YH}{a:St}{H:Hp}(c:Nat->St->Hp->Prop)(o:c 0 a H)(r:∀ i a H,i<n->c i a H->g (.int (lo+i)) a H λh j=>l { D with nx:=c (i+1),ct:=c (i+1),bk:=D.nx } h j)(q:∀ a H,c n a H->D.nx a H):
  ∃ W:Nat->Nat->St->Hp->Prop,(∃ m,W 0 m a H)/\∀ i m a H,W i m a H ->
   ((O9 lo n).stop i H/\D.nx a H)\/((O9 lo n).go i H/\∃ N:St->Hp->Prop,(∀ f b,N f b->∃ k,k<m/\W (i+1) k f b)/\∀ x b,(O9 lo n).yld i H x b->g x a b λh j=>l { D with nx:=N,ct:=N,bk:=D.nx } h j):=by
 exists λi m a H=>m=n-i/\i<=n/\c i a H,⟨n,by simp,zE _,o⟩
 rintro i m a H ⟨rfl,t,p⟩;by_cases d:i<n
 ·refine .inr ⟨d,c (i+1),λf b s=>⟨n-(i+1),by exact uH ‹_› (wT _),Z,d,s⟩,λx b y=>?_⟩
  let⟨e,y⟩:=y;subst e y;exact r i a _ d p
 ·let e:i=n:=∅
  subst e;exact .inl ⟨zY _,q a H p⟩
abbrev R2:=V->V->Hp->VK->Prop
def Y7(X:Cx)(f:ah->ah->Sem ah)(r:R2):Prop:=
 ∀(a:jo)(s:aj)(b:St)(H:Hp)(x y:V)(v u:ah)(Q:VK),ZF X a b H s->ZN x v->ZN y u->r x y H Q ->
  aA (az X.prog X.w) X.A (f v u) (EP X a b Q) X.xe s
def HF(X:Cx)(f:ah->Sem ah)(r:V->Hp->VK->Prop):Prop:=
 ∀(a:jo)(s:aj)(b:St)(H:Hp)(x:V)(v:ah)(Q:VK),ZF X a b H s->ZN x v->r x H Q ->
  aA (az X.prog X.w) X.A (f v) (EP X a b Q) X.xe s
def UR(X:Cx)(f:ah)(r:je->Hp->VK->Prop):Prop:=
 ∀(a:jo)(s:aj)(d:St)(H:Hp)(c:je)(b:jd)(Q:VK),ZF X a d H s->ZQ c b->r c H Q ->
  aA (az X.prog X.w) X.A (call f b) (EP X a d Q) X.xe s
def NV(r:R2)(d e:TE):TE:=λa H Q=>d a H λx b=>e a b λy c=>r x y c Q
def tUn(r:V->Hp->VK->Prop)(b:TE):TE:=λc H Q=>b c H λx a=>r x a Q
inductive rI(C:Int->Int->Prop)(g:Int->Int->V)(x y:V)(H:Hp)(Q:VK):Prop
 |mk(i j:_)(_:x=.int i)(_:y=.int j)(_:C i j)(_:Q (g i j) H)
inductive OZ(g:Int->Int->V)(x y:V)(H:Hp)(Q:VK):Prop
 |mk(i j:_)(_:x=.int i)(_:y=.int j)(_:Q (g i j) H)
inductive rU(g:Int->V)(x:V)(H:Hp)(Q:VK):Prop
 |mk(i:_)(_:x=.int i)(_:Q (g i) H)
section
variable{a b c:Expr}{ta tb tc:TE}{pos:Pos}
theorem JG(o:PE X a ta)(p:PE X b tb){d:jo}{s:aj}{g:St}{H:Hp}{R:V->V->Hp->Prop}(I:ZF X d g H s)(h:ta g H λx l=>tb g l λy e=>R x y e){Q:ja}{f:ah->ah->Sem ah}(q:∀ v u k x y e,ZF X d g e k->ZN x v->ZN y u->R x y e->aA (az X.prog X.w) X.A (f v u) Q X.xe k):
  aA (az X.prog X.w) X.A (aF a X.env) (λv i=>aA (az X.prog X.w) X.A (aF b X.env) (λu j=>aA (az X.prog X.w) X.A (f v u) Q X.xe j) X.xe i) X.xe s:=by
 refine YF (o d s g H _ I h) λv C x l m z r=>?_;refine YF (p d C g l _ m r) λu k y e n B t=>?_;exact q v u k x y e n z B t
theorem Zx{e:Operator}{r:R2}(k:Y7 X (binaryOp e) r)(i:PE X a ta)(j:PE X b tb):PE X (.BinOp a e b pos) (NV r ta tb):=by
 intro d s o H Q I h;exact wpAny_BinOp (JG i j I h λv u n x y f g l m q=>k d n o f x y v u Q g l m q)
theorem Qq{e:UnaryOp}{r:V->Hp->VK->Prop}(k:HF X (unaryOp e) r)(j:PE X a ta):PE X (.UnaryOp e a pos) (tUn r ta):=by
 intro d s f H Q I h;exact UnaryOp_ (YF (j d s f H _ I h) λv n x g i m l=>k d n f g x v Q i m l)
theorem MC{f:ah->ah->Sem ah}{C:Int->Int->Prop}{g:Int->Int->Int}(d:∀ (i j:Int) (t u:Tok) (s:aj) (Q:ja) (E:ja),C i j->Q (.int (g i j) s.toks) { s with toks:=s.toks+1 }->aA (az X.prog X.w) X.A (f (.int i t) (.int j u)) Q E s):
  Y7 X f (rI C λi j=>.int (g i j)):=by
 intro e s o H x y v u Q I l m h;let⟨i,j,rfl,rfl,k,q⟩:=h;let⟨t,rfl⟩:=l;let⟨n,rfl⟩:=m;exact d i j t n s _ _ k ⟨.int (g i j),H,I.tok _,⟨_,Z⟩,q⟩
theorem FD{f:ah->ah->Sem ah}{g:Int->Int->Int}(d:∀ (i j:Int) (t u:Tok) (s:aj) (Q:ja) (E:ja),Q (.int (g i j) s.toks) { s with toks:=s.toks+1 }->aA (az X.prog X.w) X.A (f (.int i t) (.int j u)) Q E s):
  Y7 X f (OZ λi j=>.int (g i j)):=by
 intro e s n H x y v u Q I k l h;let⟨i,j,rfl,rfl,q⟩:=h;let⟨t,rfl⟩:=k;let⟨m,rfl⟩:=l;exact d i j t m s _ _ ⟨.int (g i j),H,I.tok _,⟨_,Z⟩,q⟩
theorem Lj{f:ah->ah->Sem ah}{g:Int->Int->Bool}(d:∀ (i j:Int) (t u:Tok) (s:aj) (Q:ja) (E:ja),Q (.bool (g i j)) s->aA (az X.prog X.w) X.A (f (.int i t) (.int j u)) Q E s):
  Y7 X f (OZ λi j=>.bl (g i j)):=by
 intro e s n H x y v u Q I k l h;let⟨i,j,rfl,rfl,q⟩:=h;let⟨t,rfl⟩:=k;let⟨m,rfl⟩:=l;exact d i j t m s _ _ ⟨.bl (g i j),H,I,Z,q⟩
def AU(i j:Int):Prop:=0<j/\j<1073741824
def As(i j:Int):Prop:=0<=j/\j<=1000000/\i.natAbs<2 ^ 64
def P0(i j:Int):Prop:=(-(2 ^ 64)<i/\i<2 ^ 64)\/(-(2 ^ 64)<j/\j<2 ^ 64)
theorem P0.ok{i j:Int}(h:P0 i j):IntMulOk i j:=by
 rcases h with ⟨d,e⟩ | ⟨d,e⟩
 ·exact .of_left (intBits_le_64 d e)
 ·exact .of_right (intBits_le_64 d e)
theorem VA:Y7 X (binaryOp .Add) (OZ λi j=>.int (i+j)):=FD λ_ _ _ _ _ _ _ q=>add_int q
theorem VE:Y7 X (binaryOp .Sub) (OZ λi j=>.int (i-j)):=FD λ_ _ _ _ _ _ _ q=>sub_int q
theorem NH:Y7 X (binaryOp .Mult) (rI P0 λi j=>.int (i * j)):=MC λ_ _ _ _ _ _ _ d q=>mul_int q d.ok
theorem LD:Y7 X (binaryOp .FloorDiv) (rI AU λi j=>.int (i / j)):=MC λi j _ _ _ _ _ d q=>by
 let e:(0:Int)<j:=d.1;let f:j<1073741824:=d.2;exact floordiv_int ∅ (by rw[rM i ∅];exact q) (.inl (PyProof.noPylong_small ∅))
theorem P4:Y7 X (binaryOp .Mod) (rI (λ_ j=>0<j) λi j=>.int (i % j)):=MC λi j _ _ _ _ _ d q=>by
 exact mod_int' ∅ (by rw[Int.fmod_eq_emod_of_nonneg i ∅];exact q)
theorem ME:Y7 X (binaryOp .Pow) (rI As λi j=>.int (i ^ j.toNat)):=MC λ_ _ _ _ _ _ _ d q=>pow_int_small d.1 d.2.1 d.2.2 q
theorem unI{f:ah->Sem ah}{g:Int->Int}(d:∀ (i:Int) (t:Tok) (s:aj) (Q:ja) (E:ja),Q (.int (g i) s.toks) { s with toks:=s.toks+1 }->aA (az X.prog X.w) X.A (f (.int i t)) Q E s):
  HF X f (rU λi=>.int (g i)):=by
 intro e s k H x v Q I j h;let⟨i,rfl,q⟩:=h;let⟨t,rfl⟩:=j;exact d i t s _ _ ⟨.int (g i),H,I.tok _,⟨_,Z⟩,q⟩
theorem Qk:HF X (unaryOp .USub) (rU λi=>.int (-i)):=unI λ_ _ _ _ _ q=>neg_int q
end
def HZ:V->V->Bool
 | .non,.non=>true | .non,.int _=>true | .int _,.non=>true | .non,.bl _=>true | .bl _,.non=>true | .non,.str _=>true | .str _,.non=>true
 | .int _,.int _=>true | .bl _,.bl _=>true | .str _,.str _=>true | .byt _,.byt _=>true
 | .int _,.str _=>true | .str _,.int _=>true | .bl _,.str _=>true | .str _,.bl _=>true
 | _,_=>false
def rEq:R2:=λx y H Q=>HZ x y=true/\Q (.bl (decide (x=y))) H
def AL:R2:=λx y H Q=>HZ x y=true/\Q (.bl (!decide (x=y))) H
theorem EQ{i j:Int}:decide (V.int i=V.int j)=(i==j):=by
 rw[wU];simp
theorem Dr{i j:Bool}:decide (V.bl i=V.bl j)=(i==j):=by
 rw[wU];simp
theorem FF{i j:Str}:decide (V.str i=V.str j)=(i==j):=by
 rw[wU];simp
theorem EU{i j:Array UInt8}:decide (V.byt i=V.byt j)=(i.toList==j.toList):=by
 rw[wU];cases i;cases j;simp
section
variable{a b c:Expr}{ta tb tc:TE}{pos:Pos}
theorem XE{d:jo}{g:St}{H:Hp}{s:aj}{Q:VK}{k f:Bool}(I:ZF X d g H s)(q:Q (.bl k) H)(e:k=f):EP X d g Q (.bool f) s:=by
 subst e;exact⟨.bl k,H,I,Z,q⟩
theorem Vp:Y7 X (ay .Eq) rEq:=by
 intro k s l H x y v u Q I g d h;let⟨f,q⟩:=h
 cases x with
 | non=>
  cases g
  cases y with
  | non=>cases d;exact PySem.EqNone.eq_none_none (XE I q (by simp))
  | bl j=>cases d;exact PySem.EqNone.eq_none_bool (XE I q (by simp))
  | int j=>let⟨e,rfl⟩:=d;exact PySem.EqNone.eq_none_int (XE I q (by simp))
  | str j=>let⟨e,rfl⟩:=d;exact PySem.EqNone.eq_none_str (XE I q (by simp))
  | _=>exact absurd (show false=true from f) zW
 | bl i=>
  cases g
  cases y with
  | non=>cases d;exact PySem.EqNone.eq_bool_none (XE I q (by simp))
  | bl j=>cases d;exact eq_bool (XE I q Dr)
  | str j=>let⟨e,rfl⟩:=d;exact PySem.EqMixed.eq_bool_str (XE I q (by simp))
  | _=>exact absurd (show false=true from f) zW
 | int i=>
  let⟨t,rfl⟩:=g
  cases y with
  | non=>cases d;exact PySem.EqNone.eq_int_none (XE I q (by simp))
  | int j=>let⟨e,rfl⟩:=d;exact eq_int (XE I q EQ)
  | str j=>let⟨e,rfl⟩:=d;exact PySem.EqMixed.eq_int_str (XE I q (by simp))
  | _=>exact absurd (show false=true from f) zW
 | str i=>
  let⟨t,rfl⟩:=g
  cases y with
  | non=>cases d;exact PySem.EqNone.eq_str_none (XE I q (by simp))
  | bl j=>cases d;exact PySem.EqMixed.eq_str_bool (XE I q (by simp))
  | int j=>let⟨e,rfl⟩:=d;exact PySem.EqMixed.eq_str_int (XE I q (by simp))
  | str j=>let⟨e,rfl⟩:=d;exact eq_str (XE I q FF)
  | _=>exact absurd (show false=true from f) zW
 | byt i=>
  let⟨t,rfl⟩:=g
  cases y with
  | byt j=>let⟨e,rfl⟩:=d;exact PySem.W.eq_bytes (XE I q EU)
  | _=>exact absurd (show false=true from f) zW
 | _=>cases y <;> exact absurd (show false=true from f) zW
theorem Nd:Y7 X (ay .NotEq) AL:=by
 intro k s l H x y v u Q I g d h;let⟨f,q⟩:=h
 cases x with
 | non=>
  cases g
  cases y with
  | non=>cases d;exact PySem.EqNone.ne_none_none (XE I q (by simp))
  | bl j=>cases d;exact PySem.EqNone.ne_none_bool (XE I q (by simp))
  | int j=>let⟨e,rfl⟩:=d;exact PySem.EqNone.ne_none_int (XE I q (by simp))
  | str j=>let⟨e,rfl⟩:=d;exact PySem.EqNone.ne_none_str (XE I q (by simp))
  | _=>exact absurd (show false=true from f) zW
 | bl i=>
  cases g
  cases y with
  | non=>cases d;exact PySem.EqNone.ne_bool_none (XE I q (by simp))
  | bl j=>cases d;exact ne_bool (XE I q (congrArg not Dr))
  | str j=>let⟨e,rfl⟩:=d;exact PySem.EqMixed.ne_bool_str (XE I q (by simp))
  | _=>exact absurd (show false=true from f) zW
 | int i=>
  let⟨t,rfl⟩:=g
  cases y with
  | non=>cases d;exact PySem.EqNone.ne_int_none (XE I q (by simp))
  | int j=>let⟨e,rfl⟩:=d;exact ne_int (XE I q (congrArg not EQ))
  | str j=>let⟨e,rfl⟩:=d;exact PySem.EqMixed.ne_int_str (XE I q (by simp))
  | _=>exact absurd (show false=true from f) zW
 | str i=>
  let⟨t,rfl⟩:=g
  cases y with
  | non=>cases d;exact PySem.EqNone.ne_str_none (XE I q (by simp))
  | bl j=>cases d;exact PySem.EqMixed.ne_str_bool (XE I q (by simp))
  | int j=>let⟨e,rfl⟩:=d;exact PySem.EqMixed.ne_str_int (XE I q (by simp))
  | str j=>let⟨e,rfl⟩:=d;exact ne_str (XE I q (congrArg not FF))
  | _=>exact absurd (show false=true from f) zW
 | byt i=>
  let⟨t,rfl⟩:=g
  cases y with
  | byt j=>let⟨e,rfl⟩:=d;exact PySem.W.ne_bytes (XE I q (congrArg not EU))
  | _=>exact absurd (show false=true from f) zW
 | _=>cases y <;> exact absurd (show false=true from f) zW
theorem O2:Y7 X (ay .Lt) (OZ λi j=>.bl (decide (i<j))):=Lj λ_ _ _ _ _ _ _ q=>lt_int q
theorem Nt:Y7 X (ay .LtE) (OZ λi j=>.bl (decide (i<=j))):=Lj λ_ _ _ _ _ _ _ q=>le_int q
theorem Uo:Y7 X (ay .Gt) (OZ λi j=>.bl (decide (j<i))):=Lj λ_ _ _ _ _ _ _ q=>gt_int q
theorem ZP8:Y7 X (ay .GtE) (OZ λi j=>.bl (decide (j<=i))):=Lj λ_ _ _ _ _ _ _ q=>ge_int q
theorem YG(b:Expr){d:CmpOp}(h:d≠.In:=by decide)(g:d≠.NotIn:=by decide):behindInMarks d b=false:=by
 let e:(d==CmpOp.In)=false:=by cases d <;> first | rfl | exact absurd rfl h
 let f:(d==CmpOp.NotIn)=false:=by cases d <;> first | rfl | exact absurd rfl g
 cases b <;> simp[behindInMarks,e,f]
theorem Vs{e:CmpOp}{r:R2}(l:Y7 X (ay e) r)(i:PE X a ta)(j:PE X b tb)(k:behindInMarks e b=false):PE X (.Compare a [e] [b] pos) (NV r ta tb):=by
 intro d s p H Q I h;exact wpAny_Compare1 (JG i j I h λv u o x y f g m n q=>l d o p f x y v u Q g m n q) k
inductive Oy(Q:Bool->Hp->Prop)(x:V)(d:Hp):Prop
 |mk(k:_)(_:x=.bl k)(_:Q k d)
def Ge(t:TE):TT:=λe H Q=>t e H λx d=>Oy Q x d
theorem YX{f:CmpOp}{r:R2}(w:Y7 X (ay f) r)(p:PE X a ta)(q:PE X b tb)(t:behindInMarks f b=false):PT X (.Compare a [f] [b] pos) (Ge (NV r ta tb)):=by
 intro d s g H Q I h;refine wpAny_isTrue_Compare1 (YF (p d s g H _ I h) λv G x i m D A=>YF (q d G g i _ m A) λu J y j n E B=>
  YA (w d J g j x y v u _ n D E B) λc K ⟨z,l,o,F,k,e,C⟩=>?_) t
 subst e;cases F;exact wpAny_truthy_bool ⟨l,o,C⟩
inductive Pz(f:R2)(tc:TE)(h:L2.St)(Q:VK)(y z:V)(d:Hp):Prop
 |mk(k:_)(_:z=.bl k)(_:if k=true then tc h d λg e=>f y g e Q else Q (.bl false) d)
def Ca(r h:R2)(ta tb tc:TE):TE:=λd H Q=>ta d H λx e=>tb d e λy f=>r x y f λz g=>Pz h tc d Q y z g
theorem ZK2{l g:CmpOp}{r p:R2}(K:Y7 X (ay l) r)(j:Y7 X (ay g) p)(E:PE X a ta)(F:PE X b tb)(G:PE X c tc)(J:lastMarks [l,g] [b,c]=false:=by with_unfolding_all rfl):PE X (.Compare a [l,g] [b,c] pos) (Ca r p ta tb tc):=by
 intro f s i H Q I h;refine Compare_chain (YF (E f s i H _ I h) λv S x t B O L=>chain_link (YF (F f S i t _ B L) λu T y w C q M=>
  YA (K f T i w x y v u _ C O q M) λd U ⟨z,m,n,P,k,e,o⟩=>?_)) J
 subst e;cases P;refine wpAny_truthy_bool ?_
 cases k with
 | false=>exact ite_ff ⟨.bl false,m,n,Z,o⟩
 | true=>exact ite_tt (chain_last (YF (G f U i m _ n o) λW V Y A D R N=>j f V i A y Y u W Q D q R N))
theorem HM{l g:CmpOp}{r p:R2}(O:Y7 X (ay l) r)(j:Y7 X (ay g) p)(K:PE X a ta)(L:PE X b tb)(M:PE X c tc)(N:lastMarks [l,g] [b,c]=false:=by with_unfolding_all rfl):PT X (.Compare a [l,g] [b,c] pos) (Ge (Ca r p ta tb tc)):=by
 intro f s i H Q I h;refine isTrue_chain (YF (K f s i H _ I h) λv s1 x t C V R=>test_link (YF (L f s1 i t _ C R) λu s2 y w D q S=>
  YA (O f s2 i w x y v u _ D V q S) λd s3 ⟨z,m,n,W,k,e,o⟩=>?_)) N
 subst e;cases W;refine wpAny_truthy_bool ?_
 cases k with
 | false=>
  let⟨k',G,P⟩:=o;cases G;exact ite_ff ⟨m,n,P⟩
 | true=>
  refine ite_tt (test_last (YF (M f s3 i m _ n o) λw' s4 z' A E Y T=>YA (j f s4 i A y z' u w' _ E q Y T) λd' s5 ⟨z2,B,F,r5,k2,J,U⟩=>?_));subst J;cases r5;exact wpAny_truthy_bool ⟨B,F,U⟩
theorem Og:(ao:Nat)<2 ^ 63:=by rw[sizeLine_eq];decide
inductive Vu(x y:V)(H:Hp)(Q:VK):Prop
 |mk(i j:_)(_:x=.str i)(_:y=.str j)(_:i.length+j.length<=ao)(_:Q (.str (i++j)) H)
theorem Ar:Y7 X (binaryOp .Add) (Vu):=by
 intro d s m H x y v u Q I f g h;let⟨i,j,rfl,rfl,e,q⟩:=h;let⟨t,rfl⟩:=f;let⟨k,rfl⟩:=g;exact add_str (λk l=>⟨.str (i++j),H,I.tok _,⟨_,Z⟩,q⟩) e
theorem Qf{x:V}{d:jd}(r:ZQ [x] d):∃ u,d=[u]/\ZN x u:=by
 cases r with
 | cons e f=>cases f;exact⟨_,Z,e⟩
theorem Mx{x y:V}{d:jd}(r:ZQ [x,y] d):∃ u e,d=[u,e]/\ZN x u/\ZN y e:=by
 cases r with
 | cons f g=>
  cases g with
  | cons h i=>cases i;exact⟨_,_,Z,f,h⟩
inductive Qh(d:je)(H:Hp)(Q:VK):Prop
 |mk(i:_)(_:d=[.int i])(_:Q (.int (if i<0 then -i else i)) H)
theorem KY:UR X (.builtin "abs") (Qh):=by
 intro d s j H g f Q I r h;let⟨i,rfl,q⟩:=h;let⟨u,rfl,t,rfl⟩:=Qf r;exact call_abs_int λu e=>⟨.int (if i<0 then -i else i),H,I.tok _,⟨_,Z⟩,q⟩
inductive UX(d:je)(H:Hp)(Q:VK):Prop
 |mk(i j:_)(_:d=[.int i,.int j])(_:Q (.int (if j > i then j else i)) H)
theorem IU(f:X.calm=true):UR X (.builtin "max") (UX):=by
 intro e s v H p n Q I r h;let⟨i,j,rfl,q⟩:=h;let⟨u,o,rfl,⟨t,rfl⟩,⟨l,rfl⟩⟩:=Mx r;refine max_two_ints (I.ok.hd f) λg m k=>⟨_,H,I.kept k,?_,q⟩;by_cases d:j > i
 ·rw[aK d,aK d];exact⟨_,Z⟩
 ·rw[aJ d,aJ d];exact⟨_,Z⟩
inductive Uh(d:je)(H:Hp)(Q:VK):Prop
 |mk(i j:_)(_:d=[.int i,.int j])(_:Q (.int (if j<i then j else i)) H)
theorem FR(f:X.calm=true):UR X (.builtin "min") (Uh):=by
 intro e s v H p n Q I r h;let⟨i,j,rfl,q⟩:=h;let⟨u,o,rfl,⟨t,rfl⟩,⟨l,rfl⟩⟩:=Mx r;refine min_two_ints (I.ok.hd f) λg m k=>⟨_,H,I.kept k,?_,q⟩;by_cases d:j<i
 ·rw[aK d,aK d];exact⟨_,Z⟩
 ·rw[aJ d,aJ d];exact⟨_,Z⟩
theorem KZ:UR X (.type "int") (λd H Q=>(∃ i,d=[.int i]/\Q (.int i) H)\/∃ k,d=[.bl k]/\Q (.int (if k then 1 else 0)) H):=by
 intro e s j H d g Q I r h;rcases h with ⟨i,rfl,q⟩ | ⟨k,rfl,q⟩
 ·let⟨u,rfl,t,rfl⟩:=Qf r;exact call_int_int ⟨.int i,H,I,⟨_,Z⟩,q⟩
 ·let⟨u,rfl,f⟩:=Qf r;cases f;exact call_int_bool ⟨.int (if k then 1 else 0),H,I.tok _,⟨_,Z⟩,q⟩
end
structure Ul(h:aC)(x dx C:ai)(mA:jb):Prop where
 obj:h.get? x=some (wG C dx)
 ns:h.Ns1 dx mA
 ne:dx≠x
theorem ZJ8{h:aC}{d:ai}{g:jb}(n:h.Ns1 d g):∃ i,h.get? d=some i/\∀ b,uL b i=some (g b):=by
 let⟨o,f,s,p,k,l,_,m⟩:=n;exists o,p;intro b;let e:=m b;unfold nsFind findBy at e;rw[<-Array.find?_toList] at e;unfold uL;rw[k];dsimp only;split
 ·rename_i y q
  rw[q] at e;exact congrArg some e
 ·rename_i q
  rw[q] at e;let a:f.toList.any (·.refKey)=false:=by
   rw[List.any_eq_false];intro y r;let⟨z,t,c⟩:=l y (rW.mp r);simp[DictEntry.refKey,c]
  let j:¬ f.toList.any (·.refKey)=true:=by rw[a];exact zW
  rw[aJ j];exact congrArg some e
theorem Ul.look{h:aC}{x c C:ai}{d:jb}(I:Ul h x c C d):∃ b,PySem.W.InstAt h x (wG C c) C (some b)/\∀ a,uL a b=some (d a):=
 let ⟨b,ho,hl⟩:=ZJ8 I.ns
 ⟨b,⟨I.obj,rfl,rfl,ho⟩,hl⟩
section
variable{prog:ak}{w:ar}{A:aw}{E:ja}{s:aj}{K:zZ}{x dx C f:ai}{mA:jb}{name:Str}{v:ah}
theorem Av{a:Bool}{Q:ja}(X:K.In s.heap)(I:Ul s.heap x dx C mA)(d:vZ K C name=true)(e:vP K C=true)(c:yY K (.ref C) name=some none)(i:mA name=some v)(b:PySem.W.handedIn v=true)(h:Q v { s with toks:=s.toks+1 }):
  aA (az prog w) A (getAttr (.ref x) name a) Q E s:=by
 let⟨j,J,g⟩:=I.look;exact PySem.W.get_value X J (sR d).1 (PySem.W.findObj_own e c Z (by rw[g,i])) b h
theorem Al{i:Sem Bool}{Q:ah×jd->aj->Prop}(X:K.In s.heap)(I:Ul s.heap x dx C mA)(a:vZ K C name=true)(b:yY K (.ref C) name=some (some (.ref f)))(d:wL K (.ref f)=true)(e:mA name=none)(h:Q (.ref f,[.ref x]) s):
  aA (az prog w) A (getMethod (.ref x) name i) Q E s:=by
 let⟨g,J,c⟩:=I.look;exact PySem.W.method_fn X J (sR a).1 (sR a).2 b (beq_iff_eq.mp d) (by show (uL name g).map (·.isSome)=some false;rw[c,e];rfl) h
theorem ZND{l:jn}{Q:Unit->aj->Prop}(X:K.In s.heap)(I:Ul s.heap x dx C mA)(t:yY K (.ref C) "__setattr__" = some (some (.builtin "object.__setattr__")))(q:uW K C=true)(z:rY K C name=some none)(p:vP K C=true)(B:PySem.Within mA l)(u:l.length<=ao)(h:∀ e,Ul e x dx C (λy=>if y=name then some v else mA y)->yA dx s.heap e->Q () { s with heap:=e,toks:=s.toks+2 }):
  aA (az prog w) A (setAttr (.ref x) name v) Q E s:=by
 let⟨L,J,G⟩:=I.look;refine PySem.W.set_plain X J t (PySem.W.osa_open (s:={ s with toks:=s.toks+1 }) (r:=none) X J q z λb=>?_);let⟨F,o,i⟩:=PySem.W.any_some p;let D:s.heap.get? x=some ⟨.ref C,some dx,.plain,#[]⟩:=I.obj;refine aa (ad (aa (aa (wpAny_loadPart D (aa (uO.here (s:={ s with toks:=s.toks+1 }) (PySem.W.looks_clsIn X o) ?_))))));rw[i];refine ad (a:=some dx) (aa (ad (aa ?_)));refine wpAny_nsSet1 (s:={ s with toks:=s.toks+1 }) I.ns λe c d=>?_;let⟨H,n,m,k,j,g⟩:=c.count (PySem.Within.cons name v B);refine aa (wpAny_lookBehind k (by rw[j];exact pastItsLine_dict (zI g (by rw[zR];lia))) ?_)
 exact ad (h _ ⟨(d.2 _ (Ne.symm I.ne)).trans I.obj,c,I.ne⟩ d)
theorem BY{R:Result->aj->Prop}{c:jd}{b:jE}(X:K.In s.heap)(j:vB K C=true)(i:yY K (.ref C) "__init__" = some (some (.ref f)))(e:wV K (.ref f)=some (.type "function"))(h:codeAny (az prog w) (A.under (.builtin "type.__call__" ⟨.ref C::c,b⟩)) (.call (.ref f) ⟨.ref (s.heap.objs.size+1)::c,b⟩) (PySem.W.InitBack (s.heap.objs.size+1) R)
   { s with heap:=(s.heap.push wS).push (wG C s.heap.objs.size) }):
  codeAny (az prog w) A (.call (.ref C) ⟨c,b⟩) R s:=by
 let⟨k,g,d,t,l⟩:=s;exact PySem.W.make_core (PySem.W.makes_of X j) (PySem.W.looks_findIn X i) (λa=>PySem.W.bind_fn X a e) (.inl rfl) h
end
def Yn(f:Str)(v:V):List (Str×V)->List (Str×V)
 | []=>[(f,v)]
 | (g,x)::r=>if g=f then (g,v)::r else (g,x)::Yn f v r
theorem Eh(f g:Str)(v:V):∀ c:List (Str×V),(Yn f v c).lookup g=if g=f then some v else c.lookup g
 | []=>by
  show wD g [(f,v)]=_;by_cases h:g=f
  ·let a:(g==f)=true:=beq_iff_eq.mpr h;simp only[wD,a,aK h]
  ·let a:(g==f)=false:=beq_eq_false_iff_ne.mpr h;simp only[wD,a,aJ h]
 | (k,x)::r=>by
  let d:=Eh f g v r;rw[show Yn f v ((k,x)::r)=(if k=f then (k,v)::r else (k,x)::Yn f v r) from rfl]
  by_cases b:k=f
  ·rw[aK b];by_cases h:g=k
   ·let a:(g==k)=true:=beq_iff_eq.mpr h;simp only[wD,a,aK (h.trans b)]
   ·let a:(g==k)=false:=beq_eq_false_iff_ne.mpr h;simp only[wD,a,aJ (λe:g=f=>h (e.trans b.symm))]
  ·rw[aJ b];by_cases h:g=k
   ·let a:(g==k)=true:=beq_iff_eq.mpr h;simp only[wD,a,aJ (λe:g=f=>b (h.symm.trans e))]
   ·let a:(g==k)=false:=beq_eq_false_iff_ne.mpr h;simp only[wD,a];exact d
theorem IE(f:Str)(v:V):∀ a:List (Str×V),f∈(Yn f v a).map (·.1)/\∀ g,g∈a.map (·.1)->g∈(Yn f v a).map (·.1)
 | []=>⟨by simp[Yn],λg h=>by simp at h⟩
 | (k,x)::r=>by
  let⟨c,d⟩:=IE f v r;rw[show Yn f v ((k,x)::r)=(if k=f then (k,v)::r else (k,x)::Yn f v r) from rfl]
  by_cases b:k=f
  ·rw[aK b];subst b;exact⟨by simp,λg h=>by simpa using h⟩
  ·rw[aJ b];refine⟨?_,λg h=>?_⟩
   ·rw[yT];exact zO _ c
   ·rw[yT] at h⊢;rcases zU.mp h with e | e
    ·exact zU.mpr (.inl e)
    ·exact zO _ (d g e)
theorem FI(f:Str)(v:V):∀ a:List (Str×V),(Yn f v a).length<=a.length+1
 | []=>by simp[Yn]
 | (k,x)::r=>by
  let c:=FI f v r;rw[show Yn f v ((k,x)::r)=(if k=f then (k,v)::r else (k,x)::Yn f v r) from rfl]
  by_cases b:k=f
  ·rw[aK b,zR,zR];lia
  ·rw[aJ b,zR,zR];lia
theorem Yy.some_of{v:V}{o:jc}(r:Yy (some v) o):∃ u,o=some u/\ZN v u:=by
 cases o with
 | none=>exact(show False from r).elim
 | some u=>exact⟨u,Z,r⟩
theorem Yy.none_of{o:jc}(r:Yy none o):o=none:=by
 cases o with
 | none=>rfl
 | some u=>exact(show False from r).elim
theorem ZIL{v:V}{u:ah}(r:ZN v u):PySem.W.handedIn u=true:=by
 cases v with
 | non=>cases(show u=Value.none from r);rfl
 | bl b=>cases(show u=Value.bool b from r);rfl
 | int i=>let⟨t,e⟩:=(show ∃ t,u=Value.int i t from r);cases e;rfl
 | str x=>let⟨t,e⟩:=(show ∃ t,u=Value.str x t from r);cases e;rfl
 | byt b=>let⟨t,e⟩:=(show ∃ t,u=Value.bytes b t from r);cases e;rfl
 | flt b=>let⟨t,e⟩:=(show ∃ t,u=Value.float b t from r);cases e;rfl
 | ref a=>cases(show u=Value.ref a from r);rfl
 | ty n=>cases(show u=Value.type n from r);rfl
section
variable{P:ak}{w:ar}{H H':Hp}{h h':aC}{a C dx:ai}{fs fs':List (Str×V)}
theorem LC(c:Y9 P w H h)(e:H a=some (.ins C dx fs)):∃ b,Ul h a dx C b/\(∀ f,Yy (fs.lookup f) (b f))/\PySem.Within b (fs.map (·.1))/\fs.length<=1000/\H dx=some (.own a):=by
 let⟨d,z,g,i,b,n,r,q⟩:=(show Zf P w H h a (.ins C dx fs) from c a _ e);exact⟨b,⟨i,n,g⟩,r,q,z,d⟩
end
structure Vx(K:zZ)(C:ai):Prop where
 pg:vZ K C Str.empty=true
 hd:vP K C=true
 po:uW K C=true
 sa:yY K (.ref C) "__setattr__" = some (some (.builtin "object.__setattr__"))
theorem Vx.get{K:zZ}{C:ai}(c:Vx K C)(f:Str):vZ K C f=true:=c.pg
def Z9(K:zZ)(C:ai)(f:Str):Prop:=yY K (.ref C) f=some none
theorem Z9.taker{K:zZ}{C:ai}{f:Str}(n:Z9 K C f):rY K C f=some none:=by
 unfold rY;rw[show yY K (.ref C) f=some none from n];rfl
structure Qa(K:zZ)(C:ai)(m:Str)(f:ai):Prop where
 at_:yY K (.ref C) m=some (some (.ref f))
 fn:wL K (.ref f)=true
 kp:yG K (.ref f)=true
section
variable{jP:jo}{σ:St}{H:Hp}{s:aj}{a C dx:ai}{fs:List (Str×V)}{f:Str}{v:V}{A:aw}{E:ja}
theorem CW{b:Bool}{Q:ja}(I:ZF X jP σ H s)(e:H a=some (.ins C dx fs))(c:Vx X.K C)(n:Z9 X.K C f)(l:fs.lookup f=some v)(h:∀ u g,ZF X jP σ H g->ZN v u->Q u g):aA (az X.prog X.w) A (getAttr (.ref a) f b) Q E s:=by
 let⟨j,O,r,_,_,_⟩:=LC I.hok e;let⟨u,i,d⟩:=Yy.some_of (v:=v) (o:=j f) (by rw[<-l];exact r f)
 exact Av I.kIn O (c.get f) c.hd n i (ZIL d) (h u _ (I.tok _) d)
theorem IO{m:Str}{g:ai}{i:Sem Bool}{Q:ah×jd->aj->Prop}(I:ZF X jP σ H s)(e:H a=some (.ins C dx fs))(c:Vx X.K C)(k:Qa X.K C m g)(l:fs.lookup m=none)(h:Q (.ref g,[.ref a]) s):aA (az X.prog X.w) A (getMethod (.ref a) m i) Q E s:=by
 let⟨d,O,r,_,_,_⟩:=LC I.hok e;let b:d m=none:=Yy.none_of (by rw[<-l];exact r m)
 exact Al I.kIn O (c.get m) k.at_ k.fn b h
theorem Gg{y:V}{u:ah}{Q:Unit->aj->Prop}(I:ZF X jP σ H s)(e:H a=some (.ins C dx fs))(c:Vx X.K C)(n:Z9 X.K C f)(J:fs.length<1000)(F:ZN y u)(h:∀ k,ZF X jP σ (upd H a (.ins C dx (Yn f y fs))) k->Q () k):aA (az X.prog X.w) A (setAttr (.ref a) f u) Q E s:=by
 let⟨j,O,r,l,_,i⟩:=LC I.hok e;let D:(fs.map (·.1)).length<=sizeLine:=by rw[zX,sizeLine_eq];lia
 refine ZND I.kIn O c.sa c.po n.taker c.hd l D λm d G=>h _ ?_;let t:∃ o,m.get? dx=some o:=let ⟨o,_,_,e',_⟩:=d.ns;⟨o,e'⟩;refine I.write (x:=a) (e:=dx) (by rw[e];exact True.intro) (.inr i) (λb q p z=>(G.2 b p).trans z) t ?_
 refine⟨by rw[ZS O.ne];exact i,?_,O.ne,d.obj,_,d.ns,λg=>?_,λg B=>?_⟩
 ·have:=FI f y fs;lia
 ·show Yy ((Yn f y fs).lookup g) (if g=f then some u else j g)
  rw[Eh];by_cases q:g=f
  ·rw[aK q,aK q];exact F
  ·rw[aJ q,aJ q];exact r g
 ·by_cases q:g=f
  ·rw[q];exact(IE f y fs).1
  ·refine(IE f y fs).2 g (l g λz=>B ?_);show (if g=f then some u else j g)=none
   rw[aJ q];exact z
theorem ZF.made(I:ZF X jP σ H s):ZF X jP σ (upd (upd H s.heap.objs.size (.own (s.heap.objs.size+1))) (s.heap.objs.size+1) (.ins C s.heap.objs.size []))
  { s with heap:=(s.heap.push wS).push (wG C s.heap.objs.size) }:=by
 let c:(s.heap.push wS).get? s.heap.objs.size=some wS:=yM s.heap Z;let h:((s.heap.push wS).push (wG C s.heap.objs.size)).get? (s.heap.objs.size+1)=some (wG C s.heap.objs.size):=by
  have:=yM (s.heap.push wS) (o:=wG C s.heap.objs.size) Z
  rwa [tS] at this
 let i:(s.heap.push wS).Ns s.heap.objs.size (λ_=>none):=⟨wS,#[],_,c,Z,(λe j=>absurd j (by simp)),λ_=>rfl⟩
 let g:=I.laid (a:=s.heap.objs.size) (o:=.own (s.heap.objs.size+1)) (h':=s.heap.push wS) (t':=s.toks) (λb u q=>zA _ q) (zY _) ⟨_,c⟩;refine g.laid (a:=s.heap.objs.size+1) (o:=.ins C s.heap.objs.size []) (t':=s.toks) (λb u q=>zA _ q) (wY (tS _ _)) ?_;let d:s.heap.objs.size≠s.heap.objs.size+1:=yK (wT _);refine⟨by rw[ZS d,ZZ],zE _,d,h,λ_=>none,(Heap.Ns1.of_empty i).at λo q=>zA _ q,λ_=>True.intro,λy k=>absurd Z k⟩
theorem ZMv{c:ak}{w:ar}{b:Env}{e:Expr}{f:Str}{g:Pos}{s:aj}{Q:ja}(i:attributeBase e f b (aF e b)=aF e b)(h:aA (az c w) A (aF e b) (λo d=>aA (az c w) A (getAttr o f true) Q E d) E s):aA (az c w) A (aF (.Attribute e f g) b) Q E s:=
 Attribute_any_ h (by rw[arm_eval_Attribute,i])
end
inductive Mb(K:zZ)(f:Str)(Q:VK)(x:V)(b:Hp):Prop
 |mk(a C d c v:_)(_:x=.ref a)(_:b a=some (.ins C d c))(_:Vx K C)(_:Z9 K C f)(_:c.lookup f=some v)(_:Q v b)
def ZRB(K:zZ)(b:TE)(f:Str):TE:=λc H Q=>b c H λx a=>Mb K f Q x a
inductive MY(K:zZ)(f:Str)(D:YH)(e:L2.St)(y x:V)(c:Hp):Prop
 |mk(a C d b:_)(_:x=.ref a)(_:c a=some (.ins C d b))(_:Vx K C)(_:Z9 K C f)(_:b.length<1000)(_:D.nx e (upd c a (.ins C d (Yn f y b))))
def ZRH(K:zZ)(d e:TE)(f:Str):TS:=λD a H=>e a H λy b=>d a b λx c=>MY K f D a y x c
def KH(X:Cx)(c:Operator)(rd:V->V->Hp->VK->Prop):Prop:=
 ∀(a:jo)(s:aj)(b:St)(H:Hp)(x y:V)(u v:ah)(Q:VK),ZF X a b H s->ZN x u->ZN y v->rd x y H Q->aA (az X.prog X.w) X.A (inplaceOp c u v) (EP X a b Q) X.xe s
inductive Q4(K:zZ)(k:TE)(rd:V->V->Hp->VK->Prop)(f:Str)(D:YH)(h:L2.St)(x:V)(d:Hp):Prop
 |mk(a C j g v:_)(_:x=.ref a)(_:d a=some (.ins C j g))(_:Vx K C)(_:Z9 K C f)(_:g.lookup f=some v)(_:k h d λy i=>rd v y i λz e=>∃ c b,e a=some (.ins C c b)/\b.length<1000/\D.nx h (upd e a (.ins C c (Yn f z b))))
def ZNF(K:zZ)(c d:TE)(rd:V->V->Hp->VK->Prop)(f:Str):TS:=λD a H=>c a H λx b=>Q4 K d rd f D a x b
section
variable{o e value:Expr}{f:Str}{pos pos' tpos:Pos}{ta tv:TE}
theorem XT(p:PE X e ta)(m:attributeBase e f X.env (aF e X.env)=aF e X.env):PE X (.Attribute e f pos) (ZRB X.K ta f):=by
 intro b s w H Q I h;refine ZMv m (YA (p b s w H _ I h) ?_);rintro u A ⟨x,d,g,t,a,C,y,z,v,k,j,c,n,l,q⟩;subst k;obtain rfl:u=Value.ref a:=t;exact CW g j c n l λD B i r=>⟨v,d,i,r,q⟩
theorem Uz(r:PE X o ta)(v:PE X value tv)(t:swapsWith value (some (.Attribute o f pos')) pos.line X.env=pure false):PS X (.Assign [.Attribute o f pos'] value pos) (ZRH X.K ta tv f):=by
 intro b s d H D I h;refine plainObj_wpAny_Assign_Attribute (YF (v b s d H _ I h) λu E y g i B q=>YA (r b E d g _ i q) λw L ⟨x,F,j,A,a,C,G,J,p,m,c,n,l,z⟩=>?_) t;subst p;obtain rfl:w=Value.ref a:=A;exact Gg j m c n l B λM k=>⟨d,_,k,z⟩
theorem Lh{j:Operator}{rd:V->V->Hp->VK->Prop}(J:PE X o ta)(L:PE X value tv)(i:KH X j rd):PS X (.AugAssign (.Attribute o f tpos) j value pos) (ZNF X.K ta tv rd f):=by
 intro b s d H D I h;refine wpAny_AugAssign_AttributeAny (YA (J b s d H _ I h) ?_);rintro N s1 ⟨x,k,p,R,a,C,dx,fs,v,F,E,c,n,l,q⟩;subst F;obtain rfl:N=Value.ref a:=R;refine CW p E c n l λu U r Q=>YF (L b U d k _ r q) λY W y m t S O=>YA (i b W d m v y u Y _ t Q S O) ?_;rintro w4 s4 ⟨z,H3,w,T,B,G,g,M,P⟩;exact Gg w g c n M T λs5 A=>⟨d,_,A,P⟩
inductive Iz(x y:V)(H:Hp)(Q:VK):Prop
 |mk(i j:_)(_:x=.int i)(_:y=.int j)(_:Q (.int (i+j)) H)
inductive Jq(x y:V)(H:Hp)(Q:VK):Prop
 |mk(i j:_)(_:x=.int i)(_:y=.int j)(_:Q (.int (i-j)) H)
theorem CI:KH X .Add Iz:=by
 rintro a s g H x y u v Q I c d ⟨i,j,rfl,rfl,q⟩;let⟨t,rfl⟩:=(show ∃ t,u=Value.int i t from c);let⟨b,rfl⟩:=(show ∃ b,v=Value.int j b from d);exact PyProof.Rows.iadd_int ⟨.int (i+j),H,I.tok _,⟨_,Z⟩,q⟩
theorem KU:KH X .Sub Jq:=by
 rintro a s g H x y u v Q I c d ⟨i,j,rfl,rfl,q⟩;let⟨t,rfl⟩:=(show ∃ t,u=Value.int i t from c);let⟨b,rfl⟩:=(show ∃ b,v=Value.int j b from d);exact PyProof.Rows.isub_int ⟨.int (i-j),H,I.tok _,⟨_,Z⟩,q⟩
end
section
variable{jP:jo}{σ:St}{H:Hp}{s:aj}{A:aw}{E Q:ja}{c:ah}{b:Bool}
inductive XF(K:zZ)(H:Hp):V->ah->Prop where
 | non:XF K H .non (.type "NoneType")
 | bl (x:Bool):XF K H (.bl x) (.type "bool")
 | int (i:Int):XF K H (.int i) (.type "int")
 | str (x:Str):XF K H (.str x) (.type "str")
 | flt (x:UInt64):XF K H (.flt x) (.type "float")
 | lst {a:ai} {xs:je} (e:H a=some (.lst xs)):XF K H (.ref a) (.type "list")
 | frz {a:ai} {o:aG} {xs:je} (e:H a=some (.frz o (.lst xs))):XF K H (.ref a) (.type "list")
 | tup {a:ai} {xs:je} (e:H a=some (.tup xs)):XF K H (.ref a) (.type "tuple")
 | dK {a:ai} {kvs:List (Za×V)} (e:H a=some (.dK kvs)):XF K H (.ref a) (.type "dict")
 | dT {a:ai} {kvs:List (jx×V)} (e:H a=some (.dT kvs)):XF K H (.ref a) (.type "dict")
 | ins {a C dx:ai} {fs:List (Str×V)} (e:H a=some (.ins C dx fs)) (cl:Vx K C) (ha:yY K (.ref C) "__class__" = some (some (.builtin "object.__class__")))
   (hn:PySem.W.specialIn K (.builtin "object.__class__") "__get__" = some (some (.builtin "getset_descriptor.__get__"))) (htk:PySem.W.takesIn K (.builtin "object.__class__")=some true)
   (hm:xY K C (.type "object")=some true):XF K H (.ref a) (.ref C)
theorem ZIE{x:V}{u t:ah}(I:ZF X jP σ H s)(f:ZN x u)(N:XF X.K H x t)(e:yO X.K t c=some b)(h:∀ M,Q (.bool b) { s with toks:=M }):
  aA (az X.prog X.w) A (call (.builtin "isinstance") [u,c]) Q E s:=by
 cases N with
 | non=>cases(show u=Value.none from f);exact xK PySem.W.kitx_none I.kIn True.intro e (λz=>nomatch z) h
 | bl y=>cases(show u=Value.bool y from f);exact xK PySem.W.kitx_bool I.kIn True.intro e (λz=>nomatch z) h
 | int i=>let⟨t,q⟩:=(show ∃ t,u=Value.int i t from f);cases q;exact xK PySem.W.kitx_int I.kIn True.intro e (λz=>nomatch z) h
 | str y=>let⟨t,q⟩:=(show ∃ t,u=Value.str y t from f);cases q;exact xK PySem.W.kitx_str I.kIn True.intro e (λz=>nomatch z) h
 | flt y=>let⟨t,q⟩:=(show ∃ t,u=Value.float y t from f);cases q;exact xK PySem.W.kitx_float I.kIn True.intro e (λz=>nomatch z) h
 | @lst a k d=>
  cases(show u=Value.ref a from f);let⟨_,_,n,_,g⟩:=(show Zf X.prog X.w H s.heap a (.lst k) from I.hok a _ d);exact xK PySem.W.kitx_list I.kIn ⟨_,g,Z⟩ e (λz=>nomatch z) h
 | @frz a L k d=>
  cases(show u=Value.ref a from f);let⟨_,_,_,n,_,g⟩:=(show Zf X.prog X.w H s.heap a (.frz L (.lst k)) from I.hok a _ d);exact xK PySem.W.kitx_list I.kIn ⟨_,g,Z⟩ e (λz=>nomatch z) h
 | @tup a k d=>
  cases(show u=Value.ref a from f);let⟨_,_,_,p⟩:=(show Zf X.prog X.w H s.heap a (.tup k) from I.hok a _ d);let⟨o,g,l,_⟩:=p;exact xK PySem.W.kitx_tuple I.kIn ⟨o,g,l⟩ e (λz=>nomatch z) h
 | @dK a j d=>
  cases(show u=Value.ref a from f);let⟨_,_,U,_,p⟩:=(show Zf X.prog X.w H s.heap a (.dK j) from I.hok a _ d);let⟨o,B,v,g,l,_⟩:=p;exact xK PySem.W.kitx_dict I.kIn ⟨o,g,l.1⟩ e (λz=>nomatch z) h
 | @dT a j d=>
  cases(show u=Value.ref a from f);let⟨_,_,k,_,o,B,v,g,l,_⟩:=(show Zf X.prog X.w H s.heap a (.dT j) from I.hok a _ d);exact xK PySem.W.kitx_dict I.kIn ⟨o,g,l.1⟩ e (λz=>nomatch z) h
 | @ins a C P R d r D G m F=>
  cases(show u=Value.ref a from f);let⟨S,O,_⟩:=LC I.hok d;let⟨T,J,_⟩:=O.look;exact xK (PySem.W.kitx_own (r.get _) r.hd D G m F) I.kIn J e (λz=>nomatch z) h
end
structure ZU(k:Nat)(A:aw):Prop where
 hd:A.handled=none
 dp:A.depth+3 * k+5<recursionLimit
 un:A.units+16 * k+200<cLine
theorem ZU.mono{j k:Nat}{A:aw}(r:ZU k A)(h:j<=k):ZU j A:=⟨r.hd,by have:=r.dp;lia,by have:=r.un;lia⟩
theorem ZU.to{j:Nat}{A:aw}(r:ZU j A)(k:Nat)(h:k<=j:=by decide):ZU k A:=r.mono h
theorem ZU.deeper{k:Nat}{A:aw}(r:ZU (k+1) A)(a:Env):ZU k (A.deeper a):=
 ⟨r.hd,by have:=r.dp;show A.depth+1+3 * k+5<_;lia,by have:=r.un;show A.units+3+16 * k+200<_;lia⟩
theorem ZU.in1{k:Nat}{A:aw}(r:ZU (k+1) A):ZU k A.in1:=
 ⟨r.hd,by have:=r.dp;show A.depth+3 * k+5<_;lia,by have:=r.un;show A.units+1+16 * k+200<_;lia⟩
theorem ZH5{A:aw}{C:ai}{b:jd}{a:jE}:(A.under (.builtin "type.__call__" ⟨.ref C::b,a⟩)).depth=A.depth+1:=by
 first | rfl | simp[Around.under,Code.weight,Code.isCreation,Code.isGuard,Code.isCaller,Code.frames,Code.isFrame,guardIds]
theorem ZHu{A:aw}{C:ai}{b:jd}{a:jE}:(A.under (.builtin "type.__call__" ⟨.ref C::b,a⟩)).units=A.units+1:=by
 first | rfl | simp[Around.under,Code.cUnits,Code.frames,Code.isFrame]
theorem ZU.make{k:Nat}{A:aw}(r:ZU (k+1) A)(C:ai)(b:jd)(a:jE):ZU k (A.under (.builtin "type.__call__" ⟨.ref C::b,a⟩)):=
 ⟨r.hd,by have:=r.dp;rw[ZH5];lia,by have:=r.un;rw[ZHu];lia⟩
theorem ZU.depth{k:Nat}{A:aw}(r:ZU k A):A.depth<recursionLimit:=by have:=r.dp;lia
theorem ZU.units{k:Nat}{A:aw}(r:ZU k A):A.units+64<cLine:=by have:=r.un;lia
theorem ZU.units0{k:Nat}{A:aw}(r:ZU k A):A.units<cLine:=by have:=r.un;lia
def Qr:TA:=λ_ H Q=>Q [] H
def VN(d:TE)(e:TA):TA:=λa H Q=>d a H λx b=>e a b λf c=>Q (x::f) c
section
variable{e:Expr}{es:jw}{te:TE}{t:TA}{pos:Pos}
theorem Zn:PA X [] Qr:=λ_ _ _ _ H Q I h=>Calls.spliced_nil ⟨[],H,I,.nil,h⟩
theorem Ze(i:PE X e te)(j:PA X es t)(k:aq (e::es) X.env=(false,aF e X.env)::aq es X.env:=by rfl):PA X (e::es) (VN te t):=by
 intro pos a s b H Q I h;rw[k];show aA _ _ (spliced ((false,aF e X.env)::aE pos (aq es X.env))) _ _ s;refine Calls.spliced_cons (YF (i a s b H _ I h) λu p x c f n l=>?_);exact YF (j pos a p b c _ f l) λv r q d g o m=>⟨x::q,d,g,.cons n o,m⟩
def ZRN(t:TA):TE:=λc H Q=>t c H λb a=>b.length<=ao/\∀ p,a p=none->Q (.ref p) (upd a p (.tup b))
def Aa(t:TA):TE:=λc H Q=>t c H λb a=>b.length<=ao/\∀ p,a p=none->Q (.ref p) (upd a p (.lst b))
theorem VC{k}(h:PA X es t):PE X (.Tuple es k pos) (ZRN t):=by
 intro a s m H Q I i;refine wpAny_Tuple_spliced (YA (h pos a s m H _ I i) λj c ⟨l,d,f,r,z,q⟩=>⟨by rw[<-r.length];exact z,?_⟩)
 let g:d c.heap.objs.size=none:=f.hok.fresh (zY _);refine⟨.ref c.heap.objs.size,upd d c.heap.objs.size (.tup l),f.laid (t':=c.toks) (λb u e=>zA _ e) (zY _) ?_,Z,q _ g⟩;exact⟨z,j,r,⟨_,yM _ Z,Z,_,Z⟩⟩
theorem Yr(h:PA X es t):PE X (.List es pos) (Aa t):=by
 intro a s l H Q I i;refine wpAny_List_spliced (YA (h pos a s l H _ I i) λj c ⟨k,d,f,r,z,q⟩=>⟨by rw[<-r.length];exact z,?_⟩)
 let g:d c.heap.objs.size=none:=f.hok.fresh (zY _);refine⟨.ref c.heap.objs.size,upd d c.heap.objs.size (.lst k),f.laid (t':=c.toks) (λb u e=>zA _ e) (zY _) ?_,Z,q _ g⟩;exact⟨z,j,0,r,yM _ Z⟩
end
abbrev Sp:=je->Hp->VK->XK->Prop
abbrev Vb:=jt->Hp->aj->XK->ja
structure UP(P:ak)(w:ar)(K:zZ)(mg:jb)(jQ:aC)(A:aw)(outer:jt)(s:aj)(H:Hp):Prop where
 frames:A.frames=some outer
 mod:Mod K mg jQ
 bs:∀ b o,jQ.get? b=some o->s.heap.get? b=some o/\H b=none
 bsz:jQ.objs.size<=s.heap.objs.size
 funs:s.heap.FunFrames jQ outer
 frf:∀ b∈frs outer,H b=none
 hok:Y9 P w H s.heap
 bare:AllBare s.gens
def CE(a:jt)(P:ak)(w:ar)(H:Hp)(s:aj)(Q:VK)(u:ah)(b:aj):Prop:=
 ∃ v c,b.os=s.os/\AllBare b.gens/\Un (frs a) [] H c s.heap b.heap/\Y9 P w c b.heap/\ZN v u/\Q v c
def CR(c:Vb)(a:jt)(P:ak)(w:ar)(H:Hp)(s:aj)(Q:VK)(E:XK)(r:Result)(b:aj):Prop:=
 match r with
 | .ok (.ret u)=>CE a P w H s Q u b
 | .ok _=>False
 | .error e=>c a H s E e b
structure ZI(P:ak)(w:ar)(K:zZ)(mg:jb)(jQ:aC)(CX:Vb)(k:Nat)(f:ai)(fd:al)(ps:jn)(sp:Sp):Prop where
 len:∀ vs H Q E,sp vs H Q E->vs.length=ps.length
 run:∀(A:aw)(outer:jt)(s:aj)(H:Hp)(args:Args)(us:jd)(vs:je)(Q:VK)(E:XK),ZU k A->UP P w K mg jQ A outer s H->BindsTo s fd args (ps.zip us)->ZQ vs us->sp vs H Q E ->
  codeAny (az P w) A (.call (.ref f) args) (CR CX outer P w H s Q E) s
theorem ZI.mono{P:ak}{w:ar}{K:zZ}{e:jb}{a:aC}{c:Vb}{j k:Nat}{f:ai}{d:al}{g:jn}{i:Sp}(F:ZI P w K e a c j f d g i)(h:j<=k):
  ZI P w K e a c k f d g i:=⟨F.len,λA b s H args m n Q E l=>F.run A b s H args m n Q E (l.mono h)⟩
theorem ZI.imp{P:ak}{w:ar}{K:zZ}{i:jb}{a:aC}{e:Vb}{k:Nat}{f:ai}{g:al}{j:jn}{l d:Sp}(F:ZI P w K i a e k f g j l)(h:∀ c H Q E,d c H Q E->l c H Q E):ZI P w K i a e k f g j d:=
 ⟨λc H Q E q=>F.len c H Q E (h _ _ _ _ q),λA b s H args t c Q E o n m r p=>F.run A b s H args t c Q E o n m r (h _ _ _ _ p)⟩
theorem UP.make{P:ak}{w:ar}{K:zZ}{c:jb}{b:aC}{A:aw}{a:jt}{s:aj}{H:Hp}(e:UP P w K c b A a s H)(C:ai)(f:jd)(d:jE):
  UP P w K c b (A.under (.builtin "type.__call__" ⟨.ref C::f,d⟩)) a s H:=⟨by first | exact e.frames | (simpa [Around.under,Code.envs,Code.isFrame,pushEnvs] using e.frames),e.mod,e.bs,e.bsz,e.funs,e.frf,e.hok,e.bare⟩
section
variable{jP:jo}{σ:St}{H:Hp}{s s':aj}
theorem ZF.env0(I:ZF X jP σ H s):UP X.prog X.w X.K X.mg X.base X.A X.stack s H:=
 ⟨I.ok.frames,I.ok.mod,I.bs,zI I.ok.bsz I.sz,I.stack,I.stkFree,I.hok,I.bare⟩
theorem ZF.after{Q:VK}{u:ah}(I:ZF X jP σ H s)(h:CE X.stack X.prog X.w H s Q u s'):EP X jP σ Q u s':=by
 let⟨v,f,j,a,k,c,r,q⟩:=h;let⟨i,g,d,t,e⟩:=s';obtain rfl:e=s.os:=j;exact⟨v,f,I.call (h':=i) (g':=g) (d':=d) (t':=t) (ch:=[]) k c a (λb z=>absurd z (by simp)),r,q⟩
end
def Ja(c:Sp)(a:je)(E:XK)(t:TA):TE:=λe H Q=>t e H λd b=>c (d++a) b Q E
inductive Os(C:ai)(m:Str)(g:Sp)(b:je)(E:XK)(t:TA)(i:L2.St)(Q:VK)(x:V)(c:Hp):Prop
 |mk(a f d:_)(_:x=.ref a)(_:c a=some (.ins C f d))(_:d.lookup m=none)(_:t i c λh e=>g (x::(h++b)) e Q E)
def M7(C:ai)(m:Str)(d:Sp)(a:je)(E:XK)(e:TE)(t:TA):TE:=λb H Q=>e b H λx c=>Os C m d a E t b Q x c
def MF(C:ai)(e:Sp)(c:je)(E:XK)(t:TA):TE:=λg H Q=>t g H λf b=>∀ x a,b x=none->b a=none->a≠x ->
 e (.ref x::(f++c)) (upd (upd b a (.own x)) x (.ins C a [])) (λv d=>v=.non/\Q (.ref x) d) E
def Zt(K:zZ)(d:al)(c:jn)(b:jd):Prop:=
 ∀(s:aj)(a:jd),K.In s.heap->(a++b).length=c.length->BindsTo s d ⟨a,[]⟩ (c.zip (a++b))
theorem Zt.all{K:zZ}{c:al}{b:jn}(h:∀ a:jd,a.length=b.length->bindArgs c ⟨a,[]⟩=pure (b.zip a)):Zt K c b []:=λs a _ d=>by
 rw[yS] at d⊢;exact .of_eq (h a d)
def Qj(c:Vb)(X:Cx)(E:XK):Prop:=∀(a:jo)(d:St)(H:Hp)(s:aj)(e:ah)(b:aj),ZF X a d H s->c X.stack H s E e b->X.xe e b
section
variable{CX:Vb}{k:Nat}{f C:ai}{fd:al}{ps:jn}{sp:Sp}{ji:je}{ds:jd}{E:XK}{x m:Str}{p pos jh:Pos}{e o:Expr}{es:jw}{ta:TE}{t:TA}
theorem Jg{a:jo}{c:St}{H:Hp}{s:aj}{Q:VK}{us:jd}{vs:je}(F:ZI X.prog X.w X.K X.mg X.base CX k f fd ps sp)(n:ZU k X.A)(i:Zt X.K fd ps ds)(j:ZQ ji ds)(q:Qj CX X E)(I:ZF X a c H s)(r:ZQ vs us)(h:sp (vs++ji) H Q E):aA (az X.prog X.w) X.A (call (.ref f) us) (EP X a c Q) X.xe s:=by
 let d:ZQ (vs++ji) (us++ds):=r.append j;let l:(us++ds).length=ps.length:=by rw[<-d.length];exact F.len _ _ _ _ h
 refine wpAny_call (codeAny_mono (F.run X.A X.stack s H ⟨us,[]⟩ (us++ds) (vs++ji) Q E n I.env0 (i s us I.kIn l) d h) λr v b=>?_)
 cases r with
 | error e=>exact q a c H s e v I b
 | ok g=>
  cases g with
  | ret u=>exact I.after b
  | next=>exact False.elim b
  | brk=>exact False.elim b
  | cont=>exact False.elim b
theorem Dk(F:ZI X.prog X.w X.K X.mg X.base CX k f fd ps sp)(y:ZU k X.A)(n:Gl X x)(v:X.mg x=some (.ref f))(u:yG X.K (.ref f)=true)(i:Zt X.K fd ps ds)(j:ZQ ji ds)(z:Qj CX X E)(g:PA X (e::es) t)(b:(x==("__debug__" : Str))=false:=by decide)(l:aq (e::es) X.env=(false,aF e X.env)::aq es X.env:=by rfl)(c:(aE pos (aq es X.env)).any (·.1)=false:=by rfl):
  PE X (.Call (.Name x p) (e::es) [] pos) (Ja sp ji E t):=by
 intro a s B H Q I h;refine ag (NP I n v ?_ b);refine uF (h₀:=X.base) I.ok.mod.kin u (YF (g pos a s B H _ I h) λJ G L D d r q=>⟨d.kIn,?_⟩) l c;exact Jg F y i j z d r q
theorem ZNh{v:Sem Bool}(M:PE X o ta)(c:Vx X.K C)(n:Qa X.K C m f)(F:ZI X.prog X.w X.K X.mg X.base CX k f fd ps sp)(N:ZU k X.A)(J:Zt X.K fd ps ds)(L:ZQ ji ds)(P:Qj CX X E)(G:PA X (e::es) t)(g:aq (e::es) X.env=(false,aF e X.env)::aq es X.env:=by rfl)(d:(aE pos (aq es X.env)).any (·.1)=false:=by rfl)(O:aF (.Call (.Attribute o m jh) (e::es) [] pos) X.env=(do
   let ov<-aF o X.env
   standAt jh.atName
   let (f,first)<-holding [ov] (getMethod ov m v)
   callWith pos f first (aE pos (aq (e::es) X.env)) (backToKw pos (keywordEach [] X.env))):=by rfl):
  PE X (.Call (.Attribute o m jh) (e::es) [] pos) (M7 C m sp ji E ta t):=by
 intro b s y H Q I h;refine sM (pl:=v) (YA (M b s y H _ I h) λu T ⟨x,z,i,S,a,dx,fs,D,B,l,q⟩=>?_) O;subst D;obtain rfl:u=Value.ref a:=S;refine IO i B c n l ?_;refine uF (first:=[.ref a]) (h₀:=X.base) I.ok.mod.kin n.kp (YF (G pos b T y z _ i q) λU s2 V Y j r R=>⟨j.kIn,?_⟩) g d
 exact Jg (us:=.ref a::U) (vs:=.ref a::V) F N J L P j (.cons rfl r) R
theorem ZLV{i:Sem Bool}(y:PE X o ta)(c:Vx X.K C)(g:Qa X.K C m f)(F:ZI X.prog X.w X.K X.mg X.base CX k f fd ps sp)(z:ZU k X.A)(r:Zt X.K fd ps ds)(v:ZQ ji ds)(D:Qj CX X E)(B:aF (.Call (.Attribute o m jh) [] [] pos) X.env=(do
   let ov<-aF o X.env
   standAt jh.atName
   let (f,first)<-holding [ov] (getMethod ov m i)
   callWith pos f first (aE pos (aq [] X.env)) (backToKw pos (keywordEach [] X.env))):=by rfl):
  PE X (.Call (.Attribute o m jh) [] [] pos) (M7 C m sp ji E ta Qr):=by
 intro b s J H Q I h;refine sM (pl:=i) (YA (y b s J H _ I h) λu O ⟨x,L,d,G,a,M,N,n,j,l,q⟩=>?_) B;subst n;obtain rfl:u=Value.ref a:=G;refine IO d j c g l ?_;exact sT (first:=[.ref a]) d.kIn g.kp (Jg (us:=[.ref a]) (vs:=[.ref a]) F z r v D d (.cons rfl .nil) q)
structure Mk(K:zZ)(C f:ai):Prop where
 makes:vB K C=true
 init:yY K (.ref C) "__init__" = some (some (.ref f))
 fn:wL K (.ref f)=true
 kp:yG K (.ref C)=true
theorem Gr{b:jo}{i:St}{H:Hp}{s:aj}{Q:VK}{us:jd}{g:je}(M:Mk X.K C f)(F:ZI X.prog X.w X.K X.mg X.base CX k f fd ps sp)(L:ZU (k+1) X.A)(D:Zt X.K fd ps ds)(G:ZQ ji ds)(N:Qj CX X E)(I:ZF X b i H s)(r:ZQ g us)(h:∀ x d,H x=none->H d=none->d≠x->sp (.ref x::(g++ji)) (upd (upd H d (.own x)) x (.ins C d [])) (λv q=>v=.non/\Q (.ref x) q) E):
  aA (az X.prog X.w) X.A (call (.ref C) us) (EP X b i Q) X.xe s:=by
 let j:=h (s.heap.objs.size+1) s.heap.objs.size (I.hok.fresh (uS _)) (I.hok.fresh (zY _)) (yK (wT _));let c:=ZF.made (C:=C) I;let l:ZQ (V.ref (s.heap.objs.size+1)::(g++ji)) (Value.ref (s.heap.objs.size+1)::(us++ds)):=.cons Z (r.append G);let J:(Value.ref (s.heap.objs.size+1)::us++ds).length=ps.length:=by
  let e:=l.length;rw[F.len _ _ _ _ j] at e;exact e.symm
 refine wpAny_call (BY (f:=f) I.kIn M.makes M.init (beq_iff_eq.mp M.fn) (codeAny_mono (F.run _ X.stack _ _ ⟨Value.ref (s.heap.objs.size+1)::us,[]⟩ (Value.ref (s.heap.objs.size+1)::(us++ds)) _ _ E (L.make C us [])
  (c.env0.make C us []) (D _ (Value.ref (s.heap.objs.size+1)::us) c.kIn J) l j) λr R a=>?_))
 cases r with
 | error e=>exact N b i _ _ e R c a
 | ok B=>
  cases B with
  | ret u=>
   let⟨v,n,y,P,z,O⟩:=c.after a;subst z;exact⟨P,⟨V.ref (s.heap.objs.size+1),n,y,Z,O⟩⟩
  | next=>exact False.elim a
  | brk=>exact False.elim a
  | cont=>exact False.elim a
theorem CD(M:Mk X.K C f)(F:ZI X.prog X.w X.K X.mg X.base CX k f fd ps sp)(v:ZU (k+1) X.A)(n:Gl X x)(u:X.mg x=some (.ref C))(i:Zt X.K fd ps ds)(j:ZQ ji ds)(y:Qj CX X E)(g:PA X (e::es) t)(b:(x==("__debug__" : Str))=false:=by decide)(l:aq (e::es) X.env=(false,aF e X.env)::aq es X.env:=by rfl)(c:(aE pos (aq es X.env)).any (·.1)=false:=by rfl):
  PE X (.Call (.Name x p) (e::es) [] pos) (MF C sp ji E t):=by
 intro a s z H Q I h;refine ag (NP I n u ?_ b);refine uF (h₀:=X.base) I.ok.mod.kin M.kp (YF (g pos a s z H _ I h) λG D J B d r q=>⟨d.kIn,?_⟩) l c;exact Gr M F v i j y d r q
theorem AN(M:Mk X.K C f)(F:ZI X.prog X.w X.K X.mg X.base CX k f fd ps sp)(j:ZU (k+1) X.A)(g:Gl X x)(i:X.mg x=some (.ref C))(c:Zt X.K fd ps ds)(d:ZQ ji ds)(l:Qj CX X E)(a:(x==("__debug__" : Str))=false:=by decide):PE X (.Call (.Name x p) [] [] pos) (MF C sp ji E Qr):=by
 intro b s n H Q I h;refine ag (NP I g i ?_ a);exact sT I.kIn M.kp (Gr (us:=[]) M F j c d l I .nil h)
end
def PK(X:Cx)(b:List Keyword)(t:TA):Prop:=
 ∀(c:Pos)(a:jo)(s:aj)(d:St)(H:Hp)(Q:je->Hp->Prop),ZF X a d H s->t d H Q->aA (az X.prog X.w) X.A (evalAll ((backToKw c (keywordEach b X.env)).map (·.2))) (AP X a d Q) X.xe s
section
variable{CX:Vb}{k:Nat}{f C:ai}{fd:al}{ps ks:jn}{sp:Sp}{E:XK}{x m:Str}{p pos jh kpos:Pos}{e o:Expr}{es:jw}{kws:List Keyword}{te ta:TE}{t tk:TA}{nm:Option Str}
theorem ZOV:PK X [] Qr:=λ_ _ _ _ H Q I h=>wpAny_evalAll_nil ⟨[],H,I,.nil,h⟩
theorem ZN5(j:PE X e te)(l:PK X kws t):PK X (⟨nm,e,kpos⟩::kws) (VN te t):=by
 intro pos a s b H Q I h;show aA _ _ (evalAll ((do let v<-aF e X.env;standAt pos;pure v)::(backToKw pos (keywordEach kws X.env)).map (·.2))) _ _ s
 refine wpAny_evalAll_cons (aa (YF (j a s b H _ I h) λu y x c g r n=>aa (wpAny_standAt (ad ?_))));exact YF (l pos a y b c _ g n) λB A z d i w q=>⟨x::z,d,i,.cons r w,q⟩
variable{g:jd->jd->jd}{gV:je->je->je}
end
structure ZC(N P:jn)(sc:aD):Prop where
 kind:sc.kind=.function
 co:sc.isCoroutine=false
 gen:sc.isGenerator=false
 nd:N.Nodup
 pre:N.take P.length=P
 par:∀ x∈P,sc.names.lookup x=some .local\/sc.names.lookup x=some .cell
 nofree:∀ y∈sc.names,y.2≠.free
theorem Zp{N P:jn}{a:aD}(b:a.kind=.function:=by rfl)(c:a.isCoroutine=false:=by rfl)(d:a.isGenerator=false:=by rfl)(e:N.Nodup:=by decide +kernel)(f:N.take P.length=P:=by rfl)(g:∀ x∈P,a.names.lookup x=some .local\/a.names.lookup x=some .cell:=by decide +kernel)(h:∀ y∈a.names,y.2≠.free:=by decide +kernel):ZC N P a:=⟨b,c,d,e,f,g,h⟩
theorem DQ{kindOf:Str->Option NameKind}{x:Str}:∀{a:jE}{m:jb},(∀ v,(x,v)∉a)->bindL kindOf a m x=m x
 | [],_,_=>rfl
 | (n,v)::r,m,h=>by
  unfold bindL;rw[DQ λw b=>h w (zO _ b)];split
  ·have:x≠n:=by rintro rfl;exact h v zS
   simp[this]
  ·rfl
theorem Ey{kindOf:Str->Option NameKind}{x:Str}:∀{a:jE}{m:jb},(∀ v,(x,v)∉a)->bindC kindOf a m x=m x
 | [],_,_=>rfl
 | (n,v)::r,m,h=>by
  unfold bindC;rw[Ey λw b=>h w (zO _ b)];split
  ·rfl
  ·have:x≠n:=by rintro rfl;exact h v zS
   simp[this]
theorem E8{kindOf:Str->Option NameKind}{x:Str}{v:ah}:∀{P:jn}{a:jd}{i:Nat}{m:jb},P.Nodup->P[i]? = some x->a[i]? = some v->kindOf x=some .local ->
  bindL kindOf (P.zip a) m x=some v
 | [],_,_,_,_,h,_,_=>by simp at h
 | _::_,[],_,_,_,_,h,_=>by simp at h
 | p::P,w::a,0,m,nd,h1,h2,hk=>by
  simp at h1 h2;subst h1;subst h2;show bindL kindOf ((p,w)::P.zip a) m p=_;unfold bindL;rw[DQ λv b=>(yW.mp nd).1 (tP b).1,aK hk];simp
 | p::P,w::a,i+1,m,nd,h1,h2,hk=>by
  show bindL kindOf ((p,w)::P.zip a) m x=_;unfold bindL;exact E8 (i:=i) (yW.mp nd).2 (by simpa using h1) (by simpa using h2) hk
theorem Dg{kindOf:Str->Option NameKind}{x:Str}{v:ah}:∀{P:jn}{a:jd}{i:Nat}{m:jb},P.Nodup->P[i]? = some x->a[i]? = some v->kindOf x≠some .local ->
  bindC kindOf (P.zip a) m x=some v
 | [],_,_,_,_,h,_,_=>by simp at h
 | _::_,[],_,_,_,_,h,_=>by simp at h
 | p::P,w::a,0,m,nd,h1,h2,hk=>by
  simp at h1 h2;subst h1;subst h2;show bindC kindOf ((p,w)::P.zip a) m p=_;unfold bindC;rw[Ey λv b=>(yW.mp nd).1 (tP b).1,aJ hk];simp
 | p::P,w::a,i+1,m,nd,h1,h2,hk=>by
  show bindC kindOf ((p,w)::P.zip a) m x=_;unfold bindC;exact Dg (i:=i) (yW.mp nd).2 (by simpa using h1) (by simpa using h2) hk
def Qp(N:jn)(a:je):St:=a.map some++wJ (N.length-a.length) none
def Xy(CX:Vb)(P:ak)(w:ar)(K:zZ)(mg:jb)(jQ:aC)(N:jn)(qual:Str)(scope:aD)(f:ai)(cd:ah)(A:aw)(outer:jt)(s:aj)(H:Hp)(E:XK):Cx where
 prog:=P
 w:=w
 K:=K
 mg:=mg
 base:=jQ
 A:=A.deeper (envOfC qual scope s.heap.objs.size f cd)
 N:=N
 s₀:=s
 H₀:=H
 env:=envOfC qual scope s.heap.objs.size f cd
 outer:=outer
 stack:=envOfC qual scope s.heap.objs.size f cd::outer
 ex:=[]
 calm:=true
 fn:=λ_=>true
 pn:=[]
 xe:=λe s'=>aA (az P w) (A.deeper (envOfC qual scope s.heap.objs.size f cd)) (leaving (envOfC qual scope s.heap.objs.size f cd) e) (λ_ s''=>CX outer H s E e s'') (λe' s''=>CX outer H s E e' s'') s'
theorem Du{a:aD}{n:Nat}{x:Str}(h:a.names.lookup x=some .cell):∃ c,(cellsFrom n a.names []).lookup x=some c:=by
 let q:=rD a.names n [] (.inl h);exact tV.mp q
theorem ZIz{Q:Vb}{P:ak}{w:ar}{K:zZ}{M:jb}{m:aC}{N C:jn}{j:Str}{d:aD}{f:ai}{I:ah}{A:aw}{g:jt}{s U:aj}{H:Hp}{E:XK}{O:jd}{D:je}(S:ZC N C d)(Y:A.handled=none)(o:UP P w K M m A g s H)(hl:D.length=C.length)(r:ZQ D O)(x:InCallC s s.heap.objs.size (bindL (envOfC j d s.heap.objs.size f I).kindOf (C.zip O) λ_=>none) (cellsFrom (s.heap.objs.size+1) d.names []) (bindC (envOfC j d s.heap.objs.size f I).kindOf (C.zip O) λ_=>none) U):
  ZF (Xy Q P w K M m N j d f I A g s H E) [] (Qp N D) H U:=by
 let a0:C.length<=N.length:=by have:=congrArg wM S.pre;rw[xU] at this;lia
 let⟨J,tk,rfl,R⟩:=x.done;let B:∀ b:ai,b∉(Xy Q P w K M m N j d f I A g s H E).ex:=λb z=>absurd (show b∈([]:jy) from z) (by simp)
 refine⟨⟨o.mod,S.kind,Z,Z,zY _,λy z c J l=>?_,λy t=>?_,λy c _ h=>?_,λ_=>Y,Around.frames_deeper o.frames,.inr ⟨Z,Z⟩,λb z=>absurd z (B b),o.bs,o.bsz,λb _ _=>B b,λb z=>absurd z (B b),o.funs,o.frf⟩,
  Z,o.bare,Un.kept R,⟨_,x.toInCall.ns,λi y v J l h3=>?_⟩,λy c h=>⟨_,x.cell y c h⟩,o.hok.fresh (zY _),λy c h=>?_,λp F=>absurd (show p∈([]:jo) from F) (by simp),o.hok.kept R,?_⟩
 ·exact name_of_addr x.apart (PySem.mem_of_lookup J) (PySem.mem_of_lookup l)
 ·let t:d.names.lookup y=some .cell\/d.names.lookup y=some .free:=t;rcases t with t | t
  ·exact Du t
  ·exact absurd Z (S.nofree _ (PySem.mem_of_lookup t))
 ·exact xM (x.above y c (PySem.mem_of_lookup h))
 ·let L:i<D.length:=by
   unfold Qp at l;by_cases L:i<D.length
   ·exact L
   ·rw[wP (by simpa using L)] at l
    rw[List.getElem?_replicate] at l;split at l <;> cases l
  let X:D[i]? = some v:=by
   unfold Qp at l;rw[vN (by simpa using L),zG] at l
   cases e:D[i]? with
   | none=>rw[e] at l;cases l
   | some a=>rw[e] at l;cases l;rfl
  let⟨u,T,rv⟩:=r.get X;let F:C[i]? = some y:=by
   rw[<-S.pre,List.getElem?_take_of_lt ∅];exact J
  let G:C.Nodup:=by rw[<-S.pre];exact S.nd.sublist (List.take_sublist _ _)
  exists u,rv;rcases S.par y (zL F) with k | k
  ·exact .inl ⟨k,E8 G F T k⟩
  ·let⟨c,e⟩:=Du (n:=s.heap.objs.size+1) k;refine .inr ⟨.inl k,c,e,?_⟩;let q:=x.cell y c e;rw[Dg G F T (by show d.names.lookup y≠_;rw[k];decide)] at q
   exact q
 ·exact o.hok.fresh (xM (x.above y c (PySem.mem_of_lookup h)))
 ·unfold Qp;show _=N.length;rw[zN,zX,List.length_replicate]
  lia
theorem Jh{R:Vb}{P:ak}{w:ar}{K:zZ}{T:jb}{h:aC}{k:Nat}{f:ai}{z d:Str}{i:Arguments}{j:jB}{a:aD}{dV kV F pm g ct oc:ah}{an od:ju}{a1:Array (jc)}{N U:jn}{sp:Sp}(lk:K.lookup f=some ⟨oc,od,.func (yD z d i j a dV kV F pm an g ct),a1⟩)(X:wW K g d=true)(S:ZC N U a)(O:∀ l H Q E,sp l H Q E->l.length=U.length)(B:∀ (A:aw) (c:jt) (s:aj) (H:Hp) (l:je) (Q:VK) (E:XK),ZU k (A.deeper (envOfC d a s.heap.objs.size f g))->sp l H Q E ->
   ∃ t,XV (Xy R P w K T h N d a f g A c s H E) j t/\t { nx:=λ_ p=>Q .non p,rt:=Q } (Qp N l) H):
  ZI P w K T h R (k+1) f (yD z d i j a dV kV F pm an g ct) U sp:=by
 exists O;intro A c s H args us l Q E Y G hb r M;let hl:=O _ _ _ _ M;let KX:K.In s.heap:=G.mod.kin.keeps λb o e=>(G.bs b o e).1;let a0:s.heap.NoLimit:=G.mod.nolimit.keeps λb o e=>(G.bs b o e).1;let C:∀ y∈U.zip us,a.names.lookup y.1=some .local\/(a.names.lookup y.1=some .cell/\((cellsFrom (s.heap.objs.size+1) a.names []).lookup y.1).isSome=true):=λ⟨n,v⟩ hy=>by
  rcases S.par n (tP hy).1 with q | q
  ·exact .inl q
  ·exact .inr ⟨q,rD _ _ _ (.inl q)⟩
 refine codeAny_call_function Y.depth (KX _ _ lk) Z S.co S.gen Z (PySem.W.codeRec_of KX X) (hb _ _ _ _ ?_);refine wpAny_newFunctionEnv_cells S.kind C λa2 he s1 x=>?_;subst he;refine⟨a0.keeps x.toInCall.keep,codeAny_func ?_⟩;let⟨t,ht,hq⟩:=B A c s H l Q E (Y.deeper _) M;let I:ZF (Xy R P w K T h N d a f g A c s H E) [] (Qp N l) H s1:=ZIz S Y.hd G hl r x;refine ae (ht [] s1 (Qp N l) H _ I hq) (λfl s' D=>?_) λe s' D=>D;let L:∀{m:St}{p:Hp}{v:V}{u:ah},ZF (Xy R P w K T h N d a f g A c s H E) [] m p s'->ZN v u->Q v p->CE c P w H s Q u s':=
  fun{m p v u} J rv q=>⟨v,p,J.os,J.bare,J.base,J.hok,rv,q⟩
 cases fl with
 | ret u=>
  let⟨v,m,p,J,rv,q⟩:=D;exact L J rv q
 | next=>
  let⟨m,p,J,q⟩:=D;exact L (v:=V.non) (u:=Value.none) J Z q
 | brk=>
  let⟨_,_,_,q⟩:=D;exact False.elim q
 | cont=>
  let⟨_,_,_,q⟩:=D;exact False.elim q
section
variable{x:Str}{p pos:Pos}{e:Expr}{es:jw}{t:TA}{id T:String}{r:je->Hp->VK->Prop}
def Ea(r:je->Hp->VK->Prop)(t:TA):TE:=λc H Q=>t c H λb a=>r b a Q
theorem YC(j:UR X (.builtin id) r)(l:Gl X x)(m:X.mg x=none)(o:ax x=some (.builtin id))(i:PA X (e::es) t)(n:x ≠ "__name__" :=by decide)(b:(x==("__debug__" : Str))=false:=by decide)(k:aq (e::es) X.env=(false,aF e X.env)::aq es X.env:=by rfl)(c:(aE pos (aq es X.env)).any (·.1)=false:=by rfl):PE X (.Call (.Name x p) (e::es) [] pos) (Ea r t):=by
 intro a s d H Q I h;refine ag (Nu I l m o ?_ n b);exact PyProof.Rows.callWith_builtin1 (YF (i pos a s d H _ I h) λw v y f g u q=>j a v d f y w Q g u q) k c
theorem Ug(j:UR X (.type T) r)(l:Gl X x)(m:X.mg x=none)(o:ax x=some (.type T))(i:PA X (e::es) t)(n:x ≠ "__name__" :=by decide)(b:(x==("__debug__" : Str))=false:=by decide)(k:aq (e::es) X.env=(false,aF e X.env)::aq es X.env:=by rfl)(c:(aE pos (aq es X.env)).any (·.1)=false:=by rfl):PE X (.Call (.Name x p) (e::es) [] pos) (Ea r t):=by
 intro a s d H Q I h;refine ag (Nu I l m o ?_ n b);exact PyProof.Rows.callWith_type1 (YF (i pos a s d H _ I h) λw v y f g u q=>j a v d f y w Q g u q) k c
end
end L2
variable{X:L2.Cx}{prog P:ak}{w:ar}{A:aw}{E:ja}{s:aj}{K:zZ}{mg:jb}{f:ai}{fd:al}{jQ:aC}
namespace HT
open PySem PyProof.Rows
theorem rcLt_int(A:aw)(s:aj)(a:Int)(t:Tok)(c:Int)(u:Tok)(b:ak)(w:ar)(E Q:ja)(h:Q (.bool (decide (a<c))) s):
  aA (az b w) A (richCompare .Lt (.int a t) (.int c u)) Q E s:=
 (PyProof.Rows.lt_int h:aA (az b w) A (ay .Lt (.int a t) (.int c u)) Q E s)
section
open PySem.SeqAt
open PySem.AutoSeq1 (wpAny_loadPart')
open PySem.MeetsSeq PySem.MeetsSeq2 PySem.MeetsSeq3
end
def sIx(n d:Nat):jz->Nat
 | none=>d
 | some v=>if v<0 then (v+(n:Int)).toNat else min v.toNat n
theorem sIx_none(n d:Nat):sIx n d none=d:=rfl
theorem sIx_nat(n d k:Nat):sIx n d (some (k:Int))=min k n:=by
 show (if (k:Int)<0 then ((k:Int)+(n:Int)).toNat else min (k:Int).toNat n)=min k n
 rw[aJ ∅,uJ]
end HT
namespace L2
open PySem PySem.Spec PyProof.Rows
abbrev TO:=St->Hp->(jz->Hp->Prop)->Prop
def PO(X:Cx)(e:jG)(t:TO):Prop:=
 ∀(a:jo)(s:aj)(b:St)(H:Hp)(Q:jz->Hp->Prop),ZF X a b H s->t b H Q ->
  aA (az X.prog X.w) X.A (evalPart e X.env) (λu d=>∃ o c,ZF X a b c d/\IsPart u o/\Q o c) X.xe s
def ZMk:TO:=λ_ H Q=>Q none H
inductive Ov(Q:jz->Hp->Prop)(x:V)(a:Hp):Prop
 |mk(i:_)(_:x=.int i)(_:Q (some i) a)
def ZQo(t:TE):TO:=λb H Q=>t b H λx a=>Ov Q x a
theorem Cw{a:jA}:∀{b:jd},ZQ (a.map V.int) b->IntsAre b a:=by
 induction a with
 | nil=>intro b r;rw[vK] at r;cases r;exact .nil
 | cons n a c=>
  intro b r;rw[yT] at r
  cases r with
  | cons d f=>
   let⟨t,e⟩:=d;subst e;exact .cons n t (c f)
section
variable{e:Expr}{te:TE}{lo hi:jG}{tl th:TO}{pos p2:Pos}
theorem Ma:PO X none ZMk:=by
 intro a s b H Q I h;rw[evalPart_none];exact ad ⟨none,H,I,.none,h⟩
theorem Pi(h:PE X e te):PO X (some e) (ZQo te):=by
 intro a s j H Q I d;rw[evalPart_some];refine YF (h a s j H _ I d) λu k x b c g f=>?_;let⟨i,rfl,q⟩:=f;let⟨t,rfl⟩:=g;exact⟨some i,b,c,.int i t,q⟩
def E4(X:Cx)(r:V->jz->jz->Hp->VK->Prop):Prop:=
 ∀(a:jo)(s:aj)(f:St)(H:Hp)(x:V)(v c d:ah)(lo hi:jz)(b:ai)(Q:VK),ZF X a f H s->ZN x v->s.heap.IsSliceOf b c d .none->IsPart c lo->IsPart d hi->r x lo hi H Q ->
  ∃ T id,typeLookup (.type T) "__getitem__" = pure (some (.builtin id))/\s.TypeIs v T/\aA (az X.prog X.w) X.A (getItem v (.ref b)) (EP X a f Q) X.xe s
def tSl(r:V->jz->jz->Hp->VK->Prop)(te:TE)(tl th:TO):TE:=λa H Q=>te a H λx b=>tl a b λl c=>th a c λu d=>r x l u d Q
theorem O0{r:V->jz->jz->Hp->VK->Prop}(C:E4 X r)(y:PE X e te)(B:PO X lo tl)(E:PO X hi th):PE X (.Subscript e (.Slice lo hi none p2) pos) (tSl r te tl th):=by
 intro a s d H Q I h;refine Subscript_ (YF (y a s d H _ I h) λv N x j m M J=>?_);refine wpAny_Slice (YF (B a N d j _ m J) λf O l k n F K=>YF (E a O d k _ n K) λg c u i o G L=>?_);rw[evalPart_none];refine ad ?_;let p:ZF X a d i { c with heap:=c.heap.push { cls:=.type "slice",data:=.fields #[f,g,.none] } }:=o.kept (t':=c.toks) λb P q=>zA _ q;let⟨T,id,t,D,z⟩:=C a { c with heap:=c.heap.push { cls:=.type "slice",data:=.fields #[f,g,.none] } } d i x v f g l u c.heap.objs.size Q p M (Heap.IsSliceOf.new ..) F G L;show aA (az X.prog X.w) X.A (subscriptTail e (.Slice lo hi none p2) v (.ref c.heap.objs.size)) (EP X a d Q) X.xe { c with heap:=c.heap.push { cls:=.type "slice",data:=.fields #[f,g,.none] } };exact tail_any (ops:=[.ref c.heap.objs.size,v]) D t z (by with_unfolding_all rfl)
def QM(a:je)(lo hi:jz):je:=(a.drop (HT.sIx a.length 0 lo)).take (HT.sIx a.length a.length hi-HT.sIx a.length 0 lo)
theorem ZFm(a:je)(lo hi:jz):(QM a lo hi).length<=a.length:=by
 unfold QM;rw[xU,yE];exact zI (tO _ _) (vA _ _)
end
def PJ(n:Nat)(i:Int):jp:=if 0<=i then (if i<n then some i.toNat else none) else if -(n:Int)<=i then some (i+n).toNat else none
def WN{b:Type}(a:List b)(i:Int):Option b:=(PJ a.length i).bind λj=>a[j]?
theorem Fj{n:Nat}{i:Int}{j:Nat}(h:PJ n i=some j):seqIndex? i n=some j/\j<n /\ -(n:Int)<=i/\i<n:=by
 unfold PJ at h;by_cases b:0<=i
 ·rw[aK b] at h;by_cases a:i<n
  ·rw[aK a] at h;let e:i.toNat=j:=yZ.inj h;exact⟨by rw[seqIndex_of b a,e],∅,∅,a⟩
  ·rw[aJ a] at h;cases h
 ·rw[aJ b] at h;by_cases a : -(n:Int)<=i
  ·rw[aK a] at h;let e:(i+n).toNat=j:=yZ.inj h;exact⟨by rw[seqIndex_neg ∅ a,e],∅,a,∅⟩
  ·rw[aJ a] at h;cases h
theorem JI{b:Type}{a:List b}{i:Int}{v:b}(h:WN a i=some v):∃ j,seqIndex? i a.length=some j/\a[j]? = some v/\j<a.length /\ -(a.length:Int)<=i/\i<a.length:=by
 unfold WN at h
 cases e:PJ a.length i with
 | none=>rw[e] at h;cases h
 | some j=>
  rw[e] at h;let⟨c,d,f,g⟩:=Fj e;exact⟨j,c,h,d,f,g⟩
theorem XH{b:Type}{a:List b}{j:Nat}{v:b}(h:a[j]? = some v):WN a (j:Int)=some v:=by
 let c:j<a.length:=(zB.mp h).1;let e:PJ a.length (j:Int)=some j:=by
  unfold PJ;rw[aK ∅,aK ∅];simp
 unfold WN;rw[e];exact h
theorem FX{b:Type}(a:List b)(v:b):WN (a++[v]) (-1)=some v:=by
 let c:(a++[v]).length=a.length+1:=by simp
 let e:PJ (a++[v]).length (-1)=some a.length:=by
  unfold PJ;rw[c,aJ (by decide),aK ∅]
  congr 1
  lia
 unfold WN;rw[e];show (a++[v])[a.length]? = some v;simp
def Kt(b:Expr):Prop:=∀ o i,subscripted b false o i=operate [o,i] (getItem o i)
def Q9(X:Cx)(r:R2):Prop:=
 ∀(c a:Expr)(b:jo)(s:aj)(d:St)(H:Hp)(x y:V)(v u:ah)(Q:VK),ZF X b d H s->ZN x v->ZN y u->r x y H Q ->
  subscripted a false v u=operate [v,u] (getItem v u)->aA (az X.prog X.w) X.A (subscriptTail c a v u) (EP X b d Q) X.xe s
def MtR(X:Cx)(id:String)(r:V->je->Hp->VK->Prop):Prop:=
 ∀(a:jo)(s:aj)(d:St)(H:Hp)(x:V)(c:je)(v:ah)(b:jd)(Q:VK),ZF X a d H s->ZN x v->ZQ c b->r x c H Q ->
  aA (az X.prog X.w) X.A (call (.builtin id) (v::b)) (EP X a d Q) X.xe s
section
variable{a b:Expr}{ta tb:TE}{pos:Pos}
theorem Q9.or{r g:R2}(h:Q9 X r)(l:Q9 X g):Q9 X (λx y H Q=>r x y H Q\/g x y H Q):=by
 intro d c e s k H x y v u Q I i j q f;rcases q with q | q
 ·exact h d c e s k H x y v u Q I i j q f
 ·exact l d c e s k H x y v u Q I i j q f
theorem UU{r:R2}(i:Q9 X r)(f:PE X a ta)(g:PE X b tb)(j:Kt b):PE X (.Subscript a b pos) (NV r ta tb):=by
 intro c s n H Q I h;exact Subscript_ (JG f g I h λv u m x y d e k l q=>i a b c m n d x y v u Q e k l q (j _ _))
inductive N4(K:zZ)(x y:V)(H:Hp)(Q:VK):Prop
 |mk(p c i v:_)(_:x=.ref p)(_:y=.int i)(_:ZG K H p c)(_:WN c i=some v)(_:Q v H)
inductive Po(K:zZ)(x y:V)(H:Hp)(Q:VK):Prop
 |mk(p c i v:_)(_:x=.ref p)(_:y=.int i)(_:Zs K H p c)(_:WN c i=some v)(_:Q v H)
inductive MH(x y:V)(H:Hp)(Q:VK):Prop
 |mk(z i c:_)(_:x=.str z)(_:y=.int i)(_:z.length<=ao)(_:WN z.cps.toList i=some c)(_:Q (.str ⟨#[c]⟩) H)
theorem Zw:Q9 X (N4 X.K):=by
 intro n m c s C H x y v u Q I M N h B;let⟨p,T,i,z,rfl,rfl,L,G,q⟩:=h;cases M;let⟨t,rfl⟩:=N;let⟨g,r,k,S⟩:=I.list L;let⟨j,e,D,P,E,F⟩:=JI G;let⟨w,o,l⟩:=r.get D;let J:=r.length;let R:=Og;let d:EP X c C Q w s:=⟨z,H,I,l,q⟩;by_cases A:0<=i
 ·let f:i.toNat=j:=by
   rw[seqIndex_of A F] at e;exact yZ.inj e
  exact item_listR k.isList A ∅ (by rw[f];simpa using o) d B
 ·let f:(i+(g.toArray.size:Int)).toNat=j:=by
   rw[seqIndex_neg ∅ E] at e
   rw[zJ,<-J];exact yZ.inj e
  exact subscriptTail_builtinR (x:=w) k.isList.typeIs slot_list_getitem.lookup
   (wpAny_getItem_list_neg (Q:=λr O=>r=w/\EP X c C Q r O) k.isList ∅ (by rw[zJ] <;> lia) ∅ (by rw[f];simpa using o) ⟨rfl,d⟩) B
theorem Q1:Q9 X (Po X.K):=by
 intro g f c s l H x y v u Q I F G h D;let⟨p,R,i,z,rfl,rfl,C,A,q⟩:=h;cases F;let⟨t,rfl⟩:=G;let⟨E,r,k,P⟩:=I.tuple C;let⟨j,n,o,L,M,N⟩:=JI A;let⟨w,m,e⟩:=r.get o;let B:=r.length;let O:=Og;let d:EP X c l Q w s:=⟨z,H,I,e,q⟩;exact subscriptTail_builtinR (x:=w) k.typeIs slot_tuple_getitem.lookup
  (getItem_tuple (j:=j) (Q:=λr J=>r=w/\EP X c l Q r J) k ∅ ∅ (by rw[zJ,<-B];exact n) (by simpa using m) ⟨rfl,d⟩) D
theorem Ft:Q9 X MH:=by
 intro e d g s G H x y v u Q I A B h w;let⟨z,i,c,rfl,rfl,E,p,q⟩:=h;let⟨t,rfl⟩:=A;let⟨F,rfl⟩:=B;let⟨j,f,m,C,n,o⟩:=JI p;let r:z.cps.toList.length=z.length:=by simp[Str.length]
 rw[r] at f n o;let D:=Og;exact tail_any (typeIs_str s z t) slot_str_getitem.lookup (getItem_str (c:=c) (by
  let k:decide (i < -(2 ^ 63:Int))=false:=aH ∅
  let l:decide (i ≥ 2 ^ 63)=false:=aH ∅
  rw[k,l,Bool.or_false]) (by rw[f];simpa using m) ⟨.str ⟨#[c]⟩,H,I.tok _,⟨_,Z⟩,q⟩) w
def Ia(K:zZ):R2:=λx y H Q=>N4 K x y H Q\/Po K x y H Q\/MH x y H Q
theorem ZPF:Q9 X (Ia X.K):=Zw.or (Q1.or Ft)
theorem Xe{X:Cx}{a b:Expr}{ta tb:TE}{pos:Pos}(K:zZ)(c:PE X a ta)(d:PE X b tb)(f:Kt b:=by exact λ_ _=>rfl)(e:Q9 X (Po K):=by exact Q1):PE X (.Subscript a b pos) (NV (Po K) ta tb):=UU e c d f
theorem Z8{X:Cx}{a b:Expr}{ta tb:TE}{pos:Pos}(K:zZ)(c:PE X a ta)(d:PE X b tb)(f:Kt b:=by exact λ_ _=>rfl)(e:Q9 X (Ia K):=by exact ZPF):PE X (.Subscript a b pos) (NV (Ia K) ta tb):=UU e c d f
theorem B2(c:jd)(n j:Nat)(u:ah):Obj.mapSeq (·.setIfInBounds j u) { cls:=.type "list",data:=.seq c.toArray n }={ cls:=.type "list",data:=.seq (c.set j u).toArray n }:=by
 simp[Obj.mapSeq]
theorem ZF.lst{d:jo}{g:St}{H:Hp}{s:aj}{p:ai}{f:je}(I:ZF X d g H s)(h:H p=some (.lst f)):
  ∃(c:jd)(n:Nat),ZQ f c/\s.heap.get? p=some { cls:=.type "list",data:=.seq c.toArray n }/\f.length<=sizeLine:=by
 let⟨z,c,n,r,e⟩:=I.hok p _ h;exact⟨c,n,r,e,z⟩
theorem ZF.lstUpd{d:jo}{l:St}{H:Hp}{s:aj}{p:ai}{w j:je}{g c:jd}{n i:Nat}{f:aG->aG}(I:ZF X d l H s)(h:H p=some (.lst w))(o:s.heap.get? p=some { cls:=.type "list",data:=.seq g.toArray n })(k:f { cls:=.type "list",data:=.seq g.toArray n }={ cls:=.type "list",data:=.seq c.toArray i })(r:ZQ j c)(v:j.length<=ao)(t:Nat):
  ZF X d l (upd H p (.lst j)) { s with heap:=s.heap.update p f,toks:=t }:=by
 let e:(s.heap.update p f).get? p=some { cls:=.type "list",data:=.seq c.toArray i }:=by
  rw[wE f o (by rw[k] <;> rfl),k]
 refine I.write (x:=p) (e:=p) (by rw[h];trivial) (.inl rfl) (λb u m q=>(vO _ _ (Ne.symm m)).trans q) ⟨_,e⟩ ?_
 exact⟨v,c,i,r,e⟩
inductive MT(o i v:V)(H:Hp)(Q:Hp->Prop):Prop
 |mk(p c k j:_)(_:o=.ref p)(_:i=.int k)(_:H p=some (.lst c))(_:PJ c.length k=some j)(_:Q (upd H p (.lst (c.set j v))))
theorem JZ:HK X MT:=by
 intro d s G H o i v M L u Q I D C E h;let⟨p,F,k,j,rfl,rfl,z,A,q⟩:=h;cases D;let⟨t,rfl⟩:=C;let⟨c,n,r,l,B⟩:=I.lst z;let⟨e,J,x,y⟩:=Fj A;let g:=r.length;let K:=Og;let m:ZF X d G (upd H p (.lst (F.set j v))) { s with heap:=s.heap.update p (Obj.mapSeq (·.setIfInBounds j u)) }:=
  I.lstUpd z l (B2 c n j u) (r.set E j) (by rw[wI];exact B) s.toks
 by_cases w:0<=k
 ·let f:k.toNat=j:=by
   rw[seqIndex_of w y] at e;exact yZ.inj e
  exact PySem.W.ki_setAt l w ∅ (by rw[zJ,<-g];exact y) (by rw[f];exact⟨_,m,q⟩)
 ·let f:(k+(c.toArray.size:Int)).toNat=j:=by
   rw[seqIndex_neg ∅ x] at e
   rw[zJ,<-g];exact yZ.inj e
  exact PySem.W.ki_setBack l ∅ (by rw[zJ,<-g];exact x) ∅ (by rw[f];exact⟨_,m,q⟩)
theorem ZFe(d c:jz)(n:Nat):(sliceBounds d c none n).1=((HT.sIx n 0 d:Nat):Int)/\(sliceBounds d c none n).2.1=((HT.sIx n n c:Nat):Int)/\(sliceBounds d c none n).2.2=1:=by
 refine⟨?_,?_,Z⟩
 ·cases d with
  | none=>simp[sliceBounds,HT.sIx]
  | some i=>
   simp only[sliceBounds,HT.sIx,Option.getD_none,show (1:Int) > 0 by decide,if_true]
   by_cases h:i<0
   ·simp only[h,if_true] <;> lia
   ·simp only[h,if_false] <;> lia
 ·cases c with
  | none=>simp[sliceBounds,HT.sIx]
  | some i=>
   simp only[sliceBounds,HT.sIx,Option.getD_none,show (1:Int) > 0 by decide,if_true]
   by_cases h:i<0
   ·simp only[h,if_true] <;> lia
   ·simp only[h,if_false] <;> lia
theorem AX(c:jd)(d e:jz):slicePick c.toArray d e none=((c.drop (HT.sIx c.length 0 d)).take (HT.sIx c.length c.length e-HT.sIx c.length 0 d)).toArray:=by
 let⟨f,g,h⟩:=ZFe d e c.toArray.size;unfold slicePick;rw[f,g,h];simp only[sliceRange_one,pick_run,zJ] <;> rfl
inductive KS(K:zZ)(x:V)(e d:jz)(H:Hp)(Q:VK):Prop
 |mk(a c:_)(_:x=.ref a)(_:ZG K H a c)(_:∀ p,H p=none->Q (.ref p) (upd H p (.lst (QM c e d))))
theorem O8:E4 X (KS X.K):=by
 intro i s A H x v y z e f w Q I t j n p h;let⟨a,c,rfl,k,q⟩:=h;cases t;let⟨m,r,g,l⟩:=I.list k;let d:=r.length;exists "list",_,slot_list_getitem.lookup,g.isList.typeIs;refine wpAny_getItem_list_slice g.isList j n p .none (by simp) ?_ (by rw[zJ] <;> lia)
 rw[AX,<-d];refine⟨.ref s.heap.objs.size,_,I.laid (t':=s.toks) (o:=.lst (QM c e f)) (λb u q=>zA _ q) (zY _) ?_,Z,q _ (I.hok.fresh (zY _))⟩;exact⟨zI (ZFm c e f) l,_,0,(r.drop (HT.sIx c.length 0 e)).take (HT.sIx c.length c.length f-HT.sIx c.length 0 e),yM _ Z⟩
def OG:V->Bool
 | .non=>true
 | .bl _=>true
 | .int _=>true
 | .str _=>true
 | _=>false
def Q3:V->V->Bool
 | .non,.non=>true
 | .bl a,.bl b=>a==b
 | .bl a,.int b=>(if a then 1 else 0)==b
 | .int a,.bl b=>a==(if b then 1 else 0)
 | .int a,.int b=>a==b
 | .str a,.str b=>a==b
 | _,_=>false
theorem ZOd{A:aw}{s:aj}{y x:V}{u v:ah}(f:ZN y u)(c:ZN x v)(g:OG y=true)(e:OG x=true):SeqAt.EqAt A s u v (Q3 y x):=by
 cases y with
 | non=>
  cases f
  cases x with
  | non=>cases c;exact SeqAt.EqAt.same _
  | bl b=>cases c;exact SeqAt.EqAt.none_bool b
  | int b=>let⟨t,rfl⟩:=c;exact SeqAt.EqAt.none_int b t
  | str b=>let⟨t,rfl⟩:=c;exact SeqAt.EqAt.none_str b t
  | _=>exact absurd (show false=true from e) zW
 | bl a=>
  cases f
  cases x with
  | non=>cases c;exact SeqAt.EqAt.bool_none a
  | bl b=>cases c;exact SeqAt.EqAt.bool_bool a b
  | int b=>let⟨t,rfl⟩:=c;exact SeqAt.EqAt.bool_int a b t
  | str b=>let⟨t,rfl⟩:=c;exact SeqAt.EqAt.bool_str a b t
  | _=>exact absurd (show false=true from e) zW
 | int a=>
  let⟨d,rfl⟩:=f
  cases x with
  | non=>cases c;exact SeqAt.EqAt.int_none a d
  | bl b=>cases c;exact SeqAt.EqAt.int_bool a d b
  | int b=>let⟨t,rfl⟩:=c;exact SeqAt.EqAt.int_int a d b t
  | str b=>let⟨t,rfl⟩:=c;exact SeqAt.EqAt.int_str a d b t
  | _=>exact absurd (show false=true from e) zW
 | str a=>
  let⟨d,rfl⟩:=f
  cases x with
  | non=>cases c;exact SeqAt.EqAt.str_none a d
  | bl b=>cases c;exact SeqAt.EqAt.str_bool a d b
  | int b=>let⟨t,rfl⟩:=c;exact SeqAt.EqAt.str_int a d b t
  | str b=>let⟨t,rfl⟩:=c;exact SeqAt.EqAt.str_str a d b t
  | _=>exact absurd (show false=true from e) zW
 | _=>exact absurd (show false=true from g) zW
def P8(x:V)(u:ah):Bool:=match u with
 | .none=>Q3 .non x
 | .bool b=>Q3 (.bl b) x
 | .int i _=>Q3 (.int i) x
 | .str z _=>Q3 (.str z) x
 | _=>false
theorem FJ{x y:V}{u:ah}(r:ZN y u)(f:OG y=true):P8 x u=Q3 y x:=by
 cases y with
 | non=>cases r;rfl
 | bl b=>cases r;rfl
 | int i=>let⟨t,rfl⟩:=r;rfl
 | str z=>let⟨t,rfl⟩:=r;rfl
 | _=>exact absurd (show false=true from f) zW
theorem JO{x:V}:∀{c:je}{d:jd},ZQ c d->c.all OG=true->d.any (P8 x)=c.any λy=>Q3 y x
 | _,_,.nil,_=>rfl
 | y::c,u::d,.cons r t,f=>by
  rw[vI,zM] at f;rw[vQ,vQ,FJ r f.1,JO t f.2]
theorem J4{A:aw}{s:aj}{x:V}{v:ah}(h:ZN x v)(g:OG x=true):∀{e:je}{d:jd},ZQ e d->e.all OG=true->∀ u∈d,SeqAt.EqAt A s u v (P8 x u)
 | _,_,.nil,_=>λu c=>by cases c
 | y::e,u::d,.cons r t,f=>λi c=>by
  rw[vI,zM] at f;rcases zU.mp c with rfl | c
  ·rw[FJ r f.1];exact ZOd r h f.1 g
  ·exact J4 h g t f.2 i c
def NX(x:V)(c:je):Bool:=c.any λy=>Q3 y x
inductive K5(K:zZ)(d:Bool)(x y:V)(H:Hp)(Q:VK):Prop
 |mk(p c:_)(_:y=.ref p)(_:ZG K H p c\/Zs K H p c)(_:OG x=true)(_:c.all OG=true)(_:Q (.bl (if d then !NX x c else NX x c)) H)
theorem CA:Y7 X (ay .NotIn) (K5 X.K true):=by
 intro j s o H x y v u Q I k m h;let⟨p,n,rfl,d,i,e,q⟩:=h;cases m;rcases d with d | d
 ·let⟨c,r,g,l⟩:=I.list d;refine SeqAt.notIn_listAt (P8 x) g.isList (λw f=>J4 k i r e w (by simpa using f)) ⟨.bl _,H,I,Z,?_⟩
  rw[show c.toArray.any (P8 x)=c.any (P8 x) by simp,JO r e]
  exact q
 ·let⟨c,r,g,l⟩:=I.tuple d;refine SeqAt.notIn_tupleAt (P8 x) g (λw f=>J4 k i r e w (by simpa using f)) ⟨.bl _,H,I,Z,?_⟩
  rw[show c.toArray.any (P8 x)=c.any (P8 x) by simp,JO r e]
  exact q
inductive Wy(d:zZ)(e:je)(H:Hp)(Q:VK):Prop
 |mk(p c:_)(_:e=[.ref p])(_:ZG d H p c\/Zs d H p c)(_:Q (.int c.length) H)
theorem Xm:UR X (.builtin "len") (Wy X.K):=by
 intro i s t H o n Q I r h;let⟨p,j,rfl,d,q⟩:=h;let⟨u,rfl,l⟩:=Qf r;cases l;let m:=Og;rcases d with d | d
 ·let⟨e,g,f,k⟩:=I.list d;let c:=g.length;exact Calls.call_len_list f.isList (by simp only[zJ] <;> lia) ⟨.int j.length,H,I.tok _,⟨s.toks+1,by rw[zJ,c]⟩,q⟩
 ·let⟨e,g,f,k⟩:=I.tuple d;let c:=g.length;exact len_tuple f (by simp only[zJ] <;> lia) ⟨.int j.length,H,I.tok _,⟨s.toks+1,by rw[zJ,c]⟩,q⟩
inductive VB(c:je)(H:Hp)(Q:VK):Prop
 |mk(z:_)(_:c=[.str z])(_:z.length<=ao)(_:Q (.int z.length) H)
theorem ZFZ:UR X (.builtin "len") (VB):=by
 intro c s i H g f Q I r h;let⟨z,rfl,e,q⟩:=h;let⟨u,rfl,t,rfl⟩:=Qf r;let d:=Og;exact len_str ∅ ⟨.int z.length,H,I.tok _,⟨_,Z⟩,q⟩
inductive Wz(d:zZ)(e:je)(H:Hp)(Q:VK):Prop
 |mk(p c:_)(_:e=[.ref p])(_:ZG d H p c\/Zs d H p c)(_:∀ l,H l=none->Q (.ref l) (upd H l (.lst c)))
theorem Ng:UR X (.type "list") (Wz X.K):=by
 intro t s D H F E Q I r h;let⟨p,A,rfl,k,q⟩:=h;let⟨u,rfl,C⟩:=Qf r;cases C;let i:∀(c:jd),ZQ A c->A.length<=ao->∀(d:aC)(f:Nat),(∀ b B,s.heap.get? b=some B->d.get? b=some B) ->
   d.get? s.heap.objs.size=some { cls:=.type "list",dict:=none,data:=.seq c.toArray f,slots:=#[] }->EP X t D Q (.ref s.heap.objs.size) { s with heap:=d }:=λc g l d f m e=>
  ⟨.ref s.heap.objs.size,_,I.laid (t':=s.toks) m (zY _) (show Zf X.prog X.w _ d _ (.lst A) from ⟨l,c,f,g,e⟩),rfl,q _ (I.hok.fresh (zY _))⟩
 rcases k with k | k
 ·let⟨c,g,z,l⟩:=I.list k;let j:=g.length;let⟨o,y,v,n,x⟩:=z.isList;exact call_list_seq p (.inl rfl) y v x (λd f m e=>i c g l d f m e) (by simp only[zJ] <;> lia)
 ·let⟨c,g,z,l⟩:=I.tuple k;let j:=g.length;let⟨o,y,v,n,x⟩:=z;exact call_list_seq p (.inr rfl) y v x (λd f m e=>i c g l d f m e) (by simp only[zJ] <;> lia)
inductive WX(d:zZ)(e:je)(H:Hp)(Q:VK):Prop
 |mk(p c:_)(_:e=[.ref p])(_:(ZG d H p c/\∀ l,H l=none->Q (.ref l) (upd H l (.tup c)))\/(Zs d H p c/\Q (.ref p) H))
theorem N5:UR X (.type "tuple") (WX X.K):=by
 intro c s t H A z Q I r h;let⟨p,n,rfl,h⟩:=h;let⟨u,rfl,y⟩:=Qf r;cases y;rcases h with ⟨g,q⟩ | ⟨g,q⟩
 ·let⟨d,j,i,m⟩:=I.list g;let l:=j.length;refine call_tuple_list i.isList (λf x=>?_) (by simp only[zJ] <;> lia)
  let k:ZF X c t H { s with heap:=f }:=I.kept (t':=s.toks) x;let v:ZF X c t (upd H f.objs.size (.tup n)) { s with heap:=f.push { cls:=.type "tuple",data:=.seq d.toArray } }:=
   k.laid (t':=s.toks) (λb o e=>zA _ e) (zY _) (show Zf X.prog X.w _ _ _ (.tup n) from ⟨m,d,j,IsTup.new _ _⟩)
  exact⟨.ref f.objs.size,_,v,Z,q _ (k.hok.fresh (zY _))⟩
 ·let⟨d,j,i,m⟩:=I.tuple g;exact call_tuple_same i ⟨.ref p,H,I,Z,q⟩
def D1(K:zZ)(T:String)(x:V)(H:Hp):Prop:=match x with
 | .str _=>T = "str"
 | .int _=>T = "int"
 | .ref p=>(T = "list" /\ ∃ d,ZG K H p d)\/(T = "tuple" /\ ∃ o,K.lookup p=some o/\o.cls=.type "tuple" /\ o.dict=none) \/
   (T = "dict" /\ ((∃ c,H p=some (.dK c))\/∃ c,H p=some (.dT c)))\/(T = "set" /\ ∃ S n,H p=some (.set S n))
 | _=>False
theorem ZO4{g:jo}{A:St}{H:Hp}{s:aj}{T:String}{x:V}{v:ah}(I:ZF X g A H s)(r:ZN x v)(h:D1 X.K T x H):
  s.TypeIs v T/\∀ a,v=.ref a->∃ m,s.heap.get? a=some m/\m.dict=none:=by
 cases x with
 | str z=>
  let⟨t,rfl⟩:=r;cases(show T = "str" from h);exact⟨typeIs_str s z t,λ_ e=>nomatch e⟩
 | int i=>
  let⟨t,rfl⟩:=r;cases(show T = "int" from h);exact⟨typeIs_int s i t,λ_ e=>nomatch e⟩
 | ref p=>
  cases r;rcases h with ⟨rfl,B,w⟩ | ⟨rfl,o,d,u,k⟩ | ⟨rfl,d⟩ | ⟨rfl,S,n,d⟩
  ·let⟨y,_,q,_⟩:=I.list w;exists q.isList.typeIs;intro a e;cases e;let⟨o,n,e,c,k,_⟩:=q;exact⟨o,e,k⟩
  ·exists ⟨o,I.kIn p o d,u⟩;intro a e;cases e;exact⟨o,I.kIn _ o d,k⟩
  ·let z:∃ o,s.heap.get? p=some o/\o.ExactDict:=by
    rcases d with ⟨l,d⟩ | ⟨l,d⟩
    ·let⟨_,_,_,_,o,_,_,e,f,_⟩:=I.hok p _ d;exact⟨o,e,f⟩
    ·let⟨_,_,_,_,o,_,_,e,f,_⟩:=I.hok p _ d;exact⟨o,e,f⟩
   let⟨o,e,f⟩:=z;exists ⟨o,e,f.1⟩;intro a j;cases j;exact⟨o,e,f.2.1⟩
  ·let⟨o,_,_,_,e,f,_⟩:=I.hok p _ d;exists ⟨o,e,f.1⟩;intro a j;cases j;exact⟨o,e,f.2.1⟩
 | _=>exact False.elim h
def tBM(K:zZ)(T:String)(r:V->je->Hp->VK->Prop)(f:TE)(t:TA):TE:=λd H Q=>f d H λx c=>D1 K T x c/\t d c λg e=>r x g e Q
variable{o e:Expr}{es:jw}{to:TE}{t:TA}{name:Str}{jh jg:Pos}{T id:String}{r:V->je->Hp->VK->Prop}
theorem QS(E:PlainAttrs T)(j:Slot T name id)(k:typeOf (.builtin id)=pure (.type "method_descriptor"))(B:MtR X id r)(C:PE X o to)(A:PA X (e::es) t)(f:attributeBase o name X.env (aF o X.env)=aF o X.env:=by rfl)(i:((aE jg (aq (e::es) X.env)).all (λx=>!x.1)&&(backToKw jg (keywordEach [] X.env)).all (λx=>x.1.isSome)
   && decide ((e::es).length+([]:List Keyword).length+(if ([]:List Keyword).isEmpty then 0 else 1)<30))=true:=by rfl)(g:(jh.endLine==jg.line)=true:=by rfl)(D:aq (e::es) X.env=(false,aF e X.env)::aq es X.env:=by rfl)(d:(aE jg (aq es X.env)).any (·.1)=false:=by rfl):
  PE X (.Call (.Attribute o name jh) (e::es) [] jg) (tBM X.K T r to t):=by
 intro c s l H Q I h;refine wpAny_Call_method_late f i g Z (YA (C c s l H _ I h) ?_);rintro v L ⟨x,q,m,p,N,F⟩;let⟨y,z⟩:=ZO4 m p N;exists T,id,E,j,k,y,z;let n:=A jg c L l q _ m F;rw[D] at n⊢;refine Calls.callWith_builtin (by show (false || (aE jg (aq es X.env)).any (·.1))=false;rw[d] <;> rfl) (Calls.evalArgs_plain ?_)
 exact YF n λO M P u w J G=>B c M l u x P v O Q w p J G
end
def La(X:Cx)(id:String)(r:V->je->Hp->VK->Prop):Prop:=
 ∀(a:jo)(s:aj)(d:St)(H:Hp)(x:V)(c:je)(v:ah)(b:jd)(Q:VK),ZF X a d H s->ZN x v->ZQ c b->r x c H Q ->
  aA (az X.prog X.w) X.A (call (.builtin id) (v::b)) (EP X a d Q) X.xe s
theorem ZQ.one:∀{x:V}{a:jd},ZQ [x] a->∃ u,a=[u]/\ZN x u:=λh=>by cases h with | cons r n=>cases n;exact⟨_,Z,r⟩
theorem ZQ.two:∀{x y:V}{a:jd},ZQ [x,y] a->∃ u v,a=[u,v]/\ZN x u/\ZN y v
 | _,_,_,.cons r (.cons q .nil)=>⟨_,_,Z,r,q⟩
section
variable{jP:jo}{σ:St}{H:Hp}{l b:ai}{xs ys zs:je}
theorem ZF.lset{a its':jd}{n:Nat}{f:js->js}{k:Nat}(I:ZF X jP σ H s)(c:H l=some (.lst xs))(e:s.heap.get? l=some { cls:=.type "list",data:=.seq a.toArray n })(g:f a.toArray=its'.toArray)(i:ZQ ys its')(j:ys.length<=ao):
  ZF X jP σ (upd H l (.lst ys)) { s with heap:=s.heap.update l (Obj.mapSeq f),toks:=k }:=by
 let q:=PySem.IsL.update e f;rw[g] at q;refine I.write (x:=l) (e:=l) (by rw[c];exact trivial) (.inl rfl) (λm u d h=>(vO s.heap (Obj.mapSeq f) (Ne.symm d)).trans h) ⟨_,q⟩ ?_
 exact⟨j,its',_,i,q⟩
theorem ZF.lnew{a:jd}{t':Nat}(I:ZF X jP σ H s)(c:ZQ ys a)(d:ys.length<=ao):
  ZF X jP σ (upd H s.heap.objs.size (.lst ys)) { s with heap:=s.heap.push { cls:=.type "list",data:=.seq a.toArray },toks:=t' }:=
 I.laid (λ_ _ q=>zA _ q) (zY _) ⟨d,a,0,c,yM _ rfl⟩
theorem ZF.fresh(I:ZF X jP σ H s):H s.heap.objs.size=none:=I.hok.fresh (zY _)
theorem ZF.lstM(I:ZF X jP σ H s)(c:H l=some (.lst xs)):xs.length<=ao/\∃(a:jd)(n:Nat),ZQ xs a/\xs.length=a.length/\s.heap.get? l=some { cls:=.type "list",data:=.seq a.toArray n }:=by
 let⟨z,a,n,r,e⟩:=I.hok l _ c;exact⟨z,a,n,r,r.length,e⟩
theorem ZLR{n:Nat}(h:n<=ao):Builtin.List.listTooLong n=false:=by
 unfold Builtin.List.listTooLong;exact aH ∅
end
inductive OE(x:V)(b:je)(H:Hp)(Q:VK):Prop
 |mk(l a y:_)(_:x=.ref l)(_:b=[y])(_:H l=some (.lst a))(_:a.length<ao)(_:Q .non (upd H l (.lst (a++[y]))))
theorem PY:La X "list.append" OE:=by
 intro c s p H x m v k Q I g f h;let⟨l,o,y,rfl,rfl,b,j,q⟩:=h;cases g;let⟨u,rfl,d⟩:=f.one;let⟨z,a,n,r,i,e⟩:=I.lstM b;refine call_meets F.slot_list_append ⟨_,e,Z⟩ F.entry_list_append (F.args_list_append_2 _ _) (PySem.list_append l a.toArray n u (by rw[zJ];lia)) ⟨e,?_⟩
 refine⟨.non,_,I.lset (its':=a++[u]) b e (by simp) (r.append (.cons d .nil)) ?_,Z,q⟩
 rw[zN,wQ]
 lia
inductive P5(x:V)(d:je)(H:Hp)(Q:VK):Prop
 |mk(l b a c:_)(_:x=.ref l)(_:d=[.ref b])(_:H l=some (.lst a))(_:H b=some (.lst c))(_:a.length+c.length<=ao)(_:Q .non (upd H l (.lst (a++c))))
theorem Hg:La X "list.extend" P5:=by
 intro i s K H x D v C Q I y w h;let⟨l,b,E,J,rfl,rfl,g,k,B,q⟩:=h;cases y;let⟨u,rfl,t⟩:=w.one;cases t;let⟨z,c,n,r,A,e⟩:=I.lstM g;let⟨G,a,o,p,m,j⟩:=I.lstM k;let f:c.toArray.size+a.toArray.size<=sizeLine:=by rw[zJ,zJ];lia
 let d:¬ (!c.toArray.isEmpty&&Builtin.List.listTooLong (c.toArray.size+a.toArray.size))=true:=by
  rw[ZLR f,vH];exact zW
 refine call_meets F.slot_list_extend ⟨_,e,Z⟩ F.entry_list_extend (F.args_list_extend_2 _ _)
  (AutoSeq1.list_extend_list_list_0 l c.toArray n b a.toArray o d (by rw[zJ];lia) ∅) ⟨e,j,?_⟩
 refine⟨.non,_,I.lset (its':=c++a) g e (by simp) (r.append p) ?_,Z,q⟩
 rw[zN]
 lia
inductive II(x y:V)(H:Hp)(Q:VK):Prop
 |mk(l b a c:_)(_:x=.ref l)(_:y=.ref b)(_:H l=some (.lst a))(_:H b=some (.lst c))(_:a.length+c.length<=ao)(_:∀ p,H p=none->Q (.ref p) (upd H p (.lst (a++c))))
theorem JQ:Y7 X (binaryOp .Add) II:=by
 intro d s E H x y v u Q I o p h;let⟨l,b,B,D,rfl,rfl,j,i,w,q⟩:=h;cases o;cases p;let⟨z,c,n,r,t,e⟩:=I.lstM j;let⟨C,a,A,m,k,f⟩:=I.lstM i;refine PySem.P.add_list e f ?_ (by rw[zJ,zJ];lia)
 let g:c.toArray++a.toArray=(c++a).toArray:=by simp
 rw[g];exact⟨.ref _,_,I.lnew (t':=s.toks) (r.append m) (by rw[zN];lia),Z,q _ I.fresh⟩
end L2
namespace Att
open PySem PySem.W PySem.Calls PyProof.Rows
theorem BX{P:Params}{h:aC}:∀(c:jA)(d:jd),WellAll P h d (c.map WData.int)->IntsAre d c:=by
 intro c
 induction c with
 | nil=>
  intro d w;rw[vK] at w;cases w;exact .nil
 | cons n c e=>
  intro d w;rw[yT] at w
  cases w with
  | cons a b=>
   cases a;exact .cons _ _ (e _ b)
theorem ZIR{l:OpenLaw}{n:Nat}(v:l.most=some n){P:Params}{h:aC}{args:List WData}{e:jd}(c:l.row.toRowW.claim.pre args=true)(m:WellAll P h e args):
  ∃ a p b,e=[Value.ref a]/\args=[WData.list (b.map WData.int)]/\h.get? a=some { cls:=.type "list",data:=.seq p.toArray }/\IntsAre p b/\b.length<=n:=by
 let k:WShape.hasAll [] args [.list .int]=true:=(pre_splitW c).1;let o:l.pre.holds [] { args:=args }=true:=(pre_splitW c).2;let⟨d,r,rfl,s,t⟩:=hasAllW_cons k;obtain rfl:=hasAllW_nil t;let⟨A,rfl,u⟩:=hasW_list s;let⟨b,rfl⟩:=items_int u;let g:b.length<=n:=by
  unfold OpenLaw.pre at o;let i:(WTm.not (.lt (.lit (.int (n:Int))) (.len (.arg 0)))).holds [] { args:=[.list (b.map .int)] }=true:=by
   let i:=(holds_andW o).1;rw[v] at i;exact i
  let j:=condW_of i (w_not (w_lt w_lit (w_len_list (w_arg rfl))));rw[zX] at j;refine uK λq=>?_;let x:(n:Int)<((b.length:Nat):Int):=∅
  first
   | (rw[aI x] at j;exact absurd j (by decide))
   | (simp at j;lia)
 cases m with
 | cons y z=>
  cases z
  cases y with
  | list w f=>exact⟨_,_,b,Z,Z,w,BX b _ f,g⟩
theorem Ax(l:OpenLaw)(args:List WData):l.row.toRowW.claim.post args (.bool true) args=true:=
 postW_of (r:=l.row.toRowW) (X:=(true==true))
  (show WShape.has [] (.bool true) .bool=true by first | rfl | decide | simp[WShape.has,WShape.arms,WShape.armsAll])
  (show (WTm.eq .res (.lit (.bool true))).value [] { args:=args,res:=some (.bool true),after:=args }=some (.bool (true==true)) from w_eq_bool (w_res rfl) w_lit) rfl
theorem attach_call{l:OpenLaw}{n:Nat}{q:ak}{c:jn}{E:(jb)->aC->Prop}{F:ar->aC->Prop}{d:DefRec}(S:l.most=some n)(z:d.params.defaults=[])(j:∀ (w:ar) (e b:aj) (u C:jb) (k:ai) (o:aG) (D t g:ah) (a:ai) (i:jd) (v:jA),
   Ground q c [] E w e u C b.heap->F w b.heap ->
   b.heap.get? k=some o->o.data=.func (docDef d.name d.params d.body d.scope D t g)->b.heap.CodeRec t d.name->u d.name=some (.ref k) ->
   b.heap.get? a=some { cls:=.type "list",data:=.seq i.toArray }->IntsAre i v->v.length<=n->b.gens=#[] ->
   codeAny (az l.prog w) callerA (.call (.ref k) ⟨[.ref a],[]⟩) (λr x=>r=.ok (.ret (.bool true))/\OldK b.heap x.heap/\x.os=b.os/\AllBare x.gens) b):
  WalkO q c E F l.row.toRowW d [] (λf i=>PySem.call f i):=by
 intro w e b u C G Y k o D t g K kV T O y H A P args J W s I V B Q;obtain rfl:K=.none:=Dflts.none H z;obtain rfl:kV=.none:=Dflts.noKw H;let⟨a,i,v,rfl,rfl,p,h,m⟩:=ZIR S s B;refine enter_call (codeAny_mono (j w e b u C k o D t g a i v G Y T (fd_plain O) y A p h m P) λr x U=>?_);let⟨rfl,L,M,N⟩:=U;exact⟨.inl ⟨.bool true,.bool true,[],Z,λ_=>rfl,.bool true,Ax l _,λ_=>⟨xL.nil,λ_ R=>(nomatch R)⟩⟩,L,M,N⟩
section
variable{K:Frag}
def ZQy(h:aC)(L d:ai):jo:=(yJ h.objs.size).filterMap λa=>if a=L\/a=d then none else (h.get? a).map λo=>(a,o)
end
end Att
namespace L2
open PySem PySem.Spec PyProof.Rows
theorem ZIM:∀{b:jd}{a:jA},IntsAre b a->ZQ (a.map V.int) b:=by intro _ _ h;induction h with
 | nil=>exact .nil
 | cons n t _ c=>exact .cons ⟨t,Z⟩ c
def Kq(H:Hp):Prop:=∀ b,H b=none\/∃ o a,H b=some (.frz o (.lst a))
theorem BD{P:ak}{w:ar}{K:zZ}{M mb:jb}{CX:Vb}{k:Nat}{S a:ai}{fd:al}{x:Str}{sp:Sp}{c:aj}{y:jd}{N:jA}(KX:K.In c.heap)(G:c.heap.Ns am M)(g:c.heap.Ns builtinsNs mb)(U:∀ x:Str,x ≠ "__name__"->mb x=ax x)(E:c.heap.NoLimit)(hg:c.gens=#[])(Q:c.heap.get? a=some { cls:=.type "list",data:=.seq y.toArray })(hi:IntsAre y N)(hl:N.length<=ao)(hr:ZU k callerA)(F:∀ i:aC,K.In i->i.Ns am M->ZI P w K M i CX k S fd [x] sp)(t:∀ (s:aj) (u:ah),BindsTo s fd ⟨[u],[]⟩ [(x,u)])(Y:∀ H:Hp,Kq H->ZG K H a (N.map V.int)->sp [.ref a] H (λv _=>v=.bl true) λ_ _ _=>False)(T:∀ H e j,CX [] H c (λ_ _ _=>False) e j->False):
  codeAny (az P w) callerA (.call (.ref S) ⟨[.ref a],[]⟩) (λr j=>r=.ok (.ret (.bool true))/\OldK c.heap j.heap/\j.os=c.os/\AllBare j.gens) c:=by
 let rv:=ZIM hi;let L:=hi.length;let p:∀ H:Hp,Kq H->ZG K H a (N.map V.int)->Y9 P w H c.heap->(∀ b,H b≠none->b=a)->(H a≠none->K.lookup a=none) ->
   codeAny (az P w) callerA (.call (.ref S) ⟨[.ref a],[]⟩) (λr j=>r=.ok (.ret (.bool true))/\OldK c.heap j.heap/\j.os=c.os/\AllBare j.gens) c:=by
  intro H hO hS I hA hK;let f:∀{b:ai}{o:aG},c.heap.get? b=some o->H b=none->(P3 c.heap H).get? b=some o:=λe n=>ZKu e n;let a0:∀{b:ai}{o:aG}{C:Array DictEntry}{B:Nat},c.heap.get? b=some o->o.data=.dict C B->H b=none:=fun{b o C B} e d=>by
   cases q:H b with
   | none=>rfl
   | some u=>
    let R:b=a:=hA b (by rw[q];simp)
    subst R;rw[Q] at e;cases e;let d':Data.seq y.toArray _=Data.dict C B:=d;cases d'
  let l:∀{b:ai}{m:jb},c.heap.Ns b m->(P3 c.heap H).Ns b m:=fun{b m} ⟨o,C,B,e,d,r⟩=>⟨o,C,B,f e (a0 e d),d,r⟩;let D:K.In (P3 c.heap H):=λb o e=>f (KX b o e) (by
   cases q:H b with
   | none=>rfl
   | some u=>
    let R:b=a:=hA b (by rw[q];simp)
    subst R;rw[hK (by rw[q];simp)] at e;cases e)
  let hM:Mod K M (P3 c.heap H):=⟨D,l G,⟨mb,l g,U⟩,let ⟨mc,h1,h2⟩:=E;⟨mc,l h1,h2⟩⟩;let e0:UP P w K M (P3 c.heap H) callerA [] c H:=⟨Z,hM,λb o e=>ZMd e,wY (ZJW _ _),trivial,λb g=>absurd (show b∈([]:jy) from g) (by simp),I,.of_eq hg⟩
  refine codeAny_mono ((F _ D (l G)).run callerA [] c H ⟨[.ref a],[]⟩ [.ref a] [.ref a] _ _ hr e0 (t c (.ref a)) (.cons rfl .nil) (Y H hO hS)) λr j h=>?_
  cases r with
  | error e=>exact(T H e j h).elim
  | ok fl=>
   cases fl with
   | next=>exact False.elim h
   | brk=>exact False.elim h
   | cont=>exact False.elim h
   | ret u=>
    let⟨v,H',os,A,un,J,r',q⟩:=h;let q':v=.bl true:=q;subst q';obtain rfl:u=Value.bool true:=r';refine⟨Z,OldK.of_keep λb o e=>?_,os,A⟩
    cases q:H b with
    | none=>exact un.keep b o e q (by intro z;exact absurd (show b∈([]:jy) from z) (by simp)) (by simp)
    | some u=>
     rcases hO b with z | ⟨ob,xs,z⟩
     ·rw[q] at z;cases z
     ·let z2:=un.frzs b ob _ z;let⟨e1,_⟩:=I b _ z;let⟨e2,_⟩:=J b _ z2;rw[e] at e1;cases e1;exact e2
 cases X:K.lookup a with
 | some o=>
  let e:=KX a o X;rw[Q] at e;cases e;refine p (λ_=>none) (λ_=>.inl Z) (.inr ⟨_,y.toArray,_,X,rfl,rfl,rfl,by rw[zJ,L];exact hl,by simpa using rv⟩) (λb u z=>by let O:(none:Option HO)=some u:=z;cases O) (λb z=>absurd Z z) λz=>absurd Z z
 | none=>
  refine p (λb=>if b=a then some (.frz { cls:=.type "list",data:=.seq y.toArray } (.lst (N.map V.int))) else none) (λb=>?_) (.inl (.inr ⟨{ cls:=.type "list",data:=.seq y.toArray },aK rfl⟩)) (λb u z=>?_) (λb z=>?_) λ_=>X
  ·by_cases g:b=a
   ·exact .inr ⟨_,_,aK g⟩
   ·exact .inl (aJ g)
  ·by_cases g:b=a
   ·let O:=(aK g).symm.trans z;cases O;subst g;exact⟨Q,by rw[zX];exact hl,y,_,rv,Q⟩
   ·let O:=(aJ g).symm.trans z;cases O
  ·by_cases g:b=a
   ·exact g
   ·exact absurd (aJ g) z
abbrev KOf{K:zZ}{h:aC}(_:K.In h):zZ:=K
theorem Mp{l:rZ}{n k:Nat}{q:ak}{loose:jn}{XP:(jb)->aC->Prop}{YP:ar->aC->Prop}{d:DefRec}{K:Params->zZ}{CX:ar->Vb}{sp:ar->Sp}{x:Str}(hn:l.most=some n)(hn2:n<=ao)(hdf:d.params.defaults=[])(hr:ZU k callerA)(hY:∀ (w:ar) (h:aC),YP w h->(K w.params).In h)(F:∀ (w:ar) (m:jb) (t:ai) (h:aC),(K w.params).In h->h.Ns am m->m d.name=some (.ref t) ->
   ∃ z:al,(∀ (s:aj) (u:ah),BindsTo s z ⟨[u],[]⟩ [(x,u)]) /\
    ∀ c:aC,(K w.params).In c->c.Ns am m->ZI l.prog w (K w.params) m c (CX w) k t z [x] (sp w))(hsp:∀ (w:ar) (H:Hp) (a:ai) (y:jA),y.length<=n->Kq H->ZG (K w.params) H a (y.map V.int)->sp w [.ref a] H (λv _=>v=.bl true) λ_ _ _=>False)(hCX:∀ (w:ar) (H:Hp) (s:aj) (e:ah) (B:aj),CX w [] H s (λ_ _ _=>False) e B->False):
  PySem.W.WalkO q loose XP YP l.row.toRowW d [] (λf E=>PySem.call f E):=by
 refine Att.attach_call hn hdf λw D r m U t o X Q I a E y G Y S R O A p j i P=>?_;let C:=hY w _ Y;let⟨z,N,J⟩:=F w m t _ C G.T.g A;exact BD C G.T.g G.T.b G.T.builtins G.T.nolimit P p j (zI i hn2) hr J N (λH L M=>hsp w H a y i L M) λH e B=>hCX w H r e B
def Xv(s:aB)(j:Nat):Stmt:=match s with
 | .ClassDef _ _ _ a _ _ _ _ _ _ _=>a.getD j (.Pass ⟨0,0,0,0⟩)
 | _=>.Pass ⟨0,0,0,0⟩
def QA(s:aB):Arguments:=match s with
 | .FunctionDef _ a _ _ _ _ _ _ _ _=>a
 | _=>{ posonlyargs:=[],args:=[],vararg:=none,kwonlyargs:=[],kw_defaults:=[],kwarg:=none,defaults:=[] }
def Xg(s:aB):List Stmt:=match s with
 | .FunctionDef _ _ b _ _ _ _ _ _ _=>b
 | _=>[]
def ZY(s:aB):Scope:=match s with
 | .FunctionDef _ _ _ _ _ _ a _ _ _=>a
 | _=>{ kind:=.function,names:=[],isGenerator:=false,isCoroutine:=false }
abbrev ZM:Vb:=λ_ _ _ _ _ _=>False
abbrev E0:XK:=λ_ _ _=>False
theorem Z3{X:Cx}:Qj ZM X E0:=λ_ _ _ _ _ _ _ h=>h.elim
structure Zi(K:zZ)(x qual:Str)(st:aB)(f:ai)(fd:al):Prop where
 ex:∃(oc:ah)(od:ju)(kV doc pm:ah)(an:ju)(cdv ct:ah)(osl:Array (jc)),
  fd=yD x qual (QA st) (Xg st) (ZY st) .none kV doc pm an cdv ct/\K.lookup f=some ⟨oc,od,.func fd,osl⟩/\wW K cdv qual=true
 kp:yG K (.ref f)=true
theorem Zi.ok{x b:Str}{g:aB}{f:ai}{o:al}{N m:jn}{k:Nat}{n:Sp}(F:Zi K x b g f o)(S:ZC N m (ZY g))(l:∀ e H Q E,n e H Q E->e.length=m.length)(d:∀ (c:ah) (A:aw) (a:jt) (s:aj) (H:Hp) (e:je) (Q:VK) (E:XK),ZU k (A.deeper (envOfC b (ZY g) s.heap.objs.size f c))->n e H Q E ->
   let X:=(Xy ZM P w K mg jQ N b (ZY g) f c A a s H E).nox;∃ t,XV X (Xg g) t/\t { nx:=λ_ p=>Q .non p,rt:=Q } (Qp N e) H):ZI P w K mg jQ ZM (k+1) f o m n:=by
 let⟨B,C,kV,r,D,z,c,ct,y,rfl,v,i⟩:=F.ex;refine Jh v i S l λA a s H e Q E u j=>?_;let⟨t,h,q⟩:=d c A a s H e Q E u j;exact⟨t,h.nox,q⟩
theorem Zi.ko{x a:Str}{g:aB}{f:ai}{m:al}{N j:jn}{k:Nat}{l:Sp}(F:Zi K x a g f m)(S:ZC N j (ZY g))(b:∀ (e:ah) (A:aw) (c:jt) (s:aj) (H:Hp) (d:je) (Q:VK) (E:XK),ZU k (A.deeper (envOfC a (ZY g) s.heap.objs.size f e))->l d H Q E ->
   let X:=(Xy ZM P w K mg jQ N a (ZY g) f e A c s H E).nox;∃ t,XV X (Xg g) t/\t { nx:=λ_ n=>Q .non n,rt:=Q } (Qp N d) H)(i:∀ d H Q E,l d H Q E->d.length=j.length:=by intro d _ _ _ h;cases h;(try subst d);rfl):ZI P w K mg jQ ZM (k+1) f m j l:=F.ok S i b
theorem Zi.binds{x a:Str}{d:aB}{f:ai}{k:al}{i:jn}(F:Zi K x a d f k)(h:∀ (kV c g:ah) (e:ju) (b ct:ah) (j:jd),j.length=i.length->bindArgs (yD x a (QA d) (Xg d) (ZY d) .none kV c g e b ct) ⟨j,[]⟩=pure (i.zip j)):Zt K k i []:=by
 let⟨o,p,kV,c,g,e,b,ct,m,rfl,n,l⟩:=F.ex;exact .all (h kV c g e b ct)
theorem O4{x a:Str}{st:aB}{f:ai}{i:ah}{j g:ju}{e:Array (jc)}{kV d h b ct:ah}(l:K.lookup f=some ⟨i,j,.func (yD x a (QA st) (Xg st) (ZY st) .none kV d h g b ct),e⟩)(c:wW K b a=true)(k:yG K (.ref f)=true):Zi K x a st f (yD x a (QA st) (Xg st) (ZY st) .none kV d h g b ct):=⟨⟨i,j,kV,d,h,g,b,ct,e,Z,l,c⟩,k⟩
theorem Lp{A:aw}{k:Nat}(a:ZU k A):A.units+1<cLine:=wR (Nat.add_le_add_left (by decide:1<=64) _) a.units
theorem XX{n:Nat}(h:n<=1000):n<sizeLine:=wR h (by decide)
theorem pv(i:Nat){x:Str}{b:Pos}(c:X.N[i]? = some x:=by rfl)(e:LX X.env.scope x:=by first | exact Or.inl rfl | exact Or.inr (Or.inl rfl) | exact Or.inr (Or.inr rfl))(d:(x==("__debug__" : Str))=false:=by decide)(a:(x==("__classdict__" : Str))=false:=by decide):PE X (.Name x b) (Uk i):=C1 c e d a
theorem Zm{A B:Prop}(h:B):if false=true then A else B:=by
 rw[aJ zW];exact h
theorem Z7{A B:Prop}(h:A):if true=true then A else B:=by
 rw[aK rfl];exact h
theorem Vg{c A B:Prop}[Decidable c](a:c->A)(b:¬ c->B):if c then A else B:=by
 by_cases h:c
 ·rw[aK h];exact a h
 ·rw[aJ h];exact b h
theorem B9{c A B:Prop}[Decidable c](a:c)(h:B):if (!decide c)=true then A else B:=by
 rw[aI a];exact Zm h
def ZE(H a:Hp):Prop:=∀ b o,H b=some o->a b=some o
theorem ZE.refl(H:Hp):ZE H H:=λ_ _ h=>h
theorem ZE.trans{H d e:Hp}(a:ZE H d)(b:ZE d e):ZE H e:=λc o h=>b c o (a c o h)
theorem ZE.free{H a:Hp}(e:ZE H a){l:ai}(h:a l=vS):H l=vS:=by
 cases q:H l with
 | none=>rfl
 | some o=>
  rw[e l o q] at h;cases h
theorem ZE.seq{K:zZ}{H b:Hp}{a:ai}{c:je}(e:ZE H b)(h:ZG K H a c):ZG K b a c:=by
 rcases h with (h | ⟨o,h⟩) | h
 ·exact .inl (.inl (e _ _ h))
 ·exact .inl (.inr ⟨o,e _ _ h⟩)
 ·exact .inr h
section
variable{R:Result->aj->Prop}
theorem ZGV{elt target iter:Expr}{ifs:jw}{scope:aD}{pos:Pos}{it acc:ah}{env:Env}(I:Nat->aj->Prop)(turn:∀ n s,I n s->aA (az prog w) A (pyNext it) (λr d=>match r with
   | none=>R (.ok .next) d
   | some v=>aA (az prog w) A (letOwnedTupleGo target it v) (λ_ j=>aA (az prog w) A (assign target env v) (λ_ k=>
     aA (az prog w) A (forIn ifs true λc r=>if r=true then do let y<-isTrue c env (aF c env);pure (ForInStep.yield y) else pure (ForInStep.yield r)) (λy f=>
      if y=true then aA (az prog w) A (aF elt env) (λx l=>
       aA (az prog w) A (call (.builtin "list.append") [acc,x]) (λ_ o=>∃ m,m<n/\I m o) (notedBy (az prog w) A env λe b=>R (.error e) b) l) (notedBy (az prog w) A env λe b=>R (.error e) b) f
      else ∃ m,m<n/\I m f) (notedBy (az prog w) A env λe b=>R (.error e) b) k) (notedBy (az prog w) A env λe b=>R (.error e) b) j) (notedBy (az prog w) A env λe b=>R (.error e) b) d) (notedBy (az prog w) A env λe b=>R (.error e) b) s)(n:Nat)(h:I n s):
  codeAny (az prog w) A (.compLoop (.ListComp elt [⟨target,iter,ifs,0⟩] scope pos) 0 it acc env) R s:=by
 refine codeAny_loop Z I (λn s z=>?_) n h;show aA _ A ((compTurn (.ListComp elt [⟨target,iter,ifs,0⟩] scope pos) 0 it acc env).onRaise (λx=>do noteFrame x env;theTreesLotGoes x)) _ _ s
 refine wpAny_noted ?_;rw[compTurn_list];refine aa (wpAny_standAt (aa (ae (turn n s z) (λr d g=>?_) λ_ _ a=>a)))
 cases r with
 | none=>exact ad g
 | some v=>
  refine aa (ae g (λ_ j p=>?_) λ_ _ a=>a);refine aa (ae p (λ_ k q=>aa (ae q (λy f i=>?_) λ_ _ a=>a)) λ_ _ a=>a)
  cases y with
  | false=>exact ad ⟨Z,i⟩
  | true=>
   exact aa (aa (ae i (λx l t=>aa (ae t (λ_ o u=>ad (ad ⟨Z,u⟩)) λ_ _ a=>a)) λ_ _ a=>a))
end
def Wu(b:Env)(l:List (Str×NameKind)):jC->jC:=λa=>l.foldl (λa p=>if p.2==.free then (p.1,(b.cells.lookup p.1).getD 0)::a else a) a
def MV(a:Env)(l:List (Str×NameKind)):Prop:=∀ p∈l,p.2=.free->∃ c,a.cells.lookup p.1=some c
theorem Gm{b:Env}{d:aD}(h:MV b d.names):closureFor d b=pure (Wu b d.names []):=by
 let i:∀(l:List (Str×NameKind))(f:jC),MV b l->(forIn l f λx r=>if (x.2==.free)=true then do let a<-cellOf b x.1;pure (ForInStep.yield ((x.1,a)::r)) else pure (ForInStep.yield r):Sem (jC))=pure (Wu b l f):=by
  intro l
  induction l with
  | nil=>intro f _;rfl
  | cons p r n=>
   intro f j;let e:Wu b (p::r) f=Wu b r (if p.2==.free then (p.1,(b.cells.lookup p.1).getD 0)::f else f):=rfl
   rw[tR,e]
   cases o:(p.2==NameKind.free) with
   | true=>
    let⟨c,m⟩:=j p zS (eq_of_beq o);let g:cellOf b p.1=pure c:=by unfold cellOf;rw[m]
    simp only[if_true,g,pure_bind];rw[n _ λq k=>j q (zO _ k),m];rfl
   | false=>
    simp only[xN,if_false,pure_bind];exact n _ λq k=>j q (zO _ k)
 have:=i d.names [] h;simpa [closureFor] using this
theorem Fk{a:Env}:∀{l:List (Str×NameKind)}{b:jC}{x:Str}{c:ai},MV a l->(Wu a l b).lookup x=some c->b.lookup x=some c\/a.cells.lookup x=some c
 | [],_,_,_,_,h=>.inl h
 | p::r,b,x,c,hf,h=>by
  let i:(Wu a r (if p.2==.free then (p.1,(a.cells.lookup p.1).getD 0)::b else b)).lookup x=some c:=h
  rcases Fk (λq j=>hf q (zO _ j)) i with q | q
  ·cases f:(p.2==NameKind.free) with
   | true=>
    rw[f,aK rfl,xE] at q
    cases e:x==p.1 with
    | true=>
     rw[e] at q;let⟨d,g⟩:=hf p zS (eq_of_beq f);refine .inr ?_;rw[eq_of_beq e,g];rw[g] at q;exact q
    | false=>
     rw[e] at q;exact .inl q
   | false=>
    rw[f,aJ zW] at q;exact .inl q
  ·exact .inr q
theorem Gd{a:Env}{x:Str}:∀{l:List (Str×NameKind)}{b:jC},(b.lookup x).isSome=true->((Wu a l b).lookup x).isSome=true
 | [],_,h=>h
 | p::r,b,h=>by
  show ((Wu a r (if p.2==.free then (p.1,(a.cells.lookup p.1).getD 0)::b else b)).lookup x).isSome=true
  refine Gd ?_
  cases c:(p.2==NameKind.free) with
  | true=>
   rw[aK rfl,xE]
   cases e:x==p.1 with
   | true=>rfl
   | false=>exact h
  | false=>rw[aJ zW];exact h
theorem CC{a:Env}{x:Str}:∀{l:List (Str×NameKind)}{b:jC},(x,NameKind.free)∈l->((Wu a l b).lookup x).isSome=true
 | [],_,h=>by cases h
 | p::r,b,h=>by
  show ((Wu a r (if p.2==.free then (p.1,(a.cells.lookup p.1).getD 0)::b else b)).lookup x).isSome=true
  rcases zU.mp h with e | h
  ·subst e;refine Gd ?_;show (wD x ((x,(a.cells.lookup x).getD 0)::b)).isSome=true;rw[xE,beq_self_eq_true];rfl
  ·exact CC h
def XD(a:Env)(b:jC):Prop:=∀ x c,b.lookup x=some c->a.cells.lookup x=some c
theorem XD.get{a:Env}{b:jC}{x:Str}{c:ai}(h:XD a b)(e:b.lookup x=some c):a.cells.lookup x=some c:=h x c e
theorem GP{a:Env}{l:List (Str×NameKind)}(h:MV a l):XD a (Wu a l []):=λx c e=>by
 rcases Fk h e with q | q
 ·cases q
 ·exact q
theorem Hi{env:Env}:∀{names:List (Str×NameKind)}{x:Str},names.lookup x=some .free ->
  (names.map fun(n,k)=>if (k==NameKind.free&&env.scope.kind==.function&&env.kindOf n==some .cell) then (n,NameKind.cell) else (n,k)).lookup x=some .cell \/
  (names.map fun(n,k)=>if (k==NameKind.free&&env.scope.kind==.function&&env.kindOf n==some .cell) then (n,NameKind.cell) else (n,k)).lookup x=some .free
 | [],_,h=>by simp at h
 | (n,k)::r,x,h=>by
  rw[xE] at h;simp only[yT]
  cases a:x==n with
  | true=>
   rw[a] at h;cases h;split
   ·exact .inl (by rw[xE,a])
   ·exact .inr (by rw[xE,a])
  | false=>
   rw[a] at h;let b:=Hi (env:=env) h;split
   ·rw[xE,a];exact b
   ·rw[xE,a];exact b
theorem Hz{env:Env}:∀{names:List (Str×NameKind)}{x:Str},(∀ y∈names,y.2≠.cell) ->
  ((names.map fun(n,k)=>if (k==NameKind.free&&env.scope.kind==.function&&env.kindOf n==some .cell) then (n,NameKind.cell) else (n,k)).lookup x=some .cell \/
  (names.map fun(n,k)=>if (k==NameKind.free&&env.scope.kind==.function&&env.kindOf n==some .cell) then (n,NameKind.cell) else (n,k)).lookup x=some .free)->(x,NameKind.free)∈names
 | [],_,_,h=>by simp at h
 | (n,k)::r,x,hc,h=>by
  let e:∀ y∈r,y.2≠.cell:=λy f=>hc y (zO _ f);simp only[yT] at h
  cases b:x==n with
  | true=>
   let c:=eq_of_beq b;subst c;by_cases a:k=.free
   ·subst a;exact zS
   ·let d:(k==NameKind.free)=false:=by simpa using a
    simp only[d,wC,xN,if_false,xE,beq_self_eq_true] at h;rcases h with h | h
    ·exact absurd (yZ.inj h) (hc _ zS)
    ·exact absurd (yZ.inj h) a
  | false=>
   refine zO _ (Hz (env:=env) e ?_);split at h
   ·simpa only [xE,b] using h
   ·simpa only [xE,b] using h
def YR(X:Cx)(a:aD):jj->jn->Prop
 | [],[]=>True
 | i::is,y::ys=>X.N[i]? = some y/\(X.env.kindOf y=some .cell\/X.env.kindOf y=some .free)/\a.names.lookup y=some .free/\YR X a is ys
 | _,_=>False
theorem YR.len{X:Cx}{a:aD}:∀{b:jj}{c:jn},YR X a b c->b.length=c.length
 | [],[],_=>rfl
 | _::_,_::_,h=>congrArg (· + 1) h.2.2.2.len
theorem YR.get{X:Cx}{a:aD}:∀{b:jj}{c:jn}{j:Nat}{y:Str},YR X a b c->c[j]? = some y ->
  ∃ i,b[j]? = some i/\X.N[i]? = some y/\(X.env.kindOf y=some .cell\/X.env.kindOf y=some .free)/\a.names.lookup y=some .free
 | [],[],_,_,_,h=>by simp at h
 | i::_,z::_,0,y,f,h=>by
  simp at h;subst h;exact⟨i,Z,f.1,f.2.1,f.2.2.1⟩
 | _::b,_::c,j+1,y,f,h=>by
  let⟨i,e,r⟩:=YR.get (j:=j) f.2.2.2 (by simpa using h)
  exact⟨i,by simpa using e,r⟩
def Wt(X:Cx)(N:jn)(a:aD)(b:jC)(C:ai)(s:aj)(H:Hp)(c:jy)(E:ja):Cx where
 prog:=X.prog
 w:=X.w
 K:=X.K
 mg:=X.mg
 base:=X.base
 A:=X.A
 N:=N
 s₀:=s
 H₀:=H
 env:=compEnvC a b C X.env
 outer:=X.stack
 stack:=X.stack
 ex:=c
 fn:=λ_=>false
 calm:=X.calm
 pn:=[]
 xe:=E
def Qw(b:St)(a:jj)(x:V):St:=some x::a.map λi=>(b[i]?).join
def Oz(X:Cx)(b:jw)(e:TT):Prop:=
 ∀(a:jo)(s:aj)(d:St)(H:Hp)(Q:Bool->Hp->Prop),ZF X a d H s->e d H Q ->
  aA (az X.prog X.w) X.A (forIn b true λc r=>if r=true then do let ok<-isTrue c X.env (aF c X.env);pure (ForInStep.yield ok) else pure (ForInStep.yield r)) (TP X a d Q) X.xe s
def Li:TT:=λ_ H Q=>Q true H
theorem U0{X:Cx}:Oz X [] Li:=λ_ _ _ H _ I h=>wpAny_tests_nil ⟨H,I,h⟩
theorem Od{X:Cx}{c:Expr}{t:TT}(h:PT X c t):Oz X [c] t:=λa s d H Q I b=>wpAny_tests_one (h a s d H Q I b)
def WH(J:It)(j:St)(h:jj)(l:TT)(k:TE)(e:Hp)(Q:VK):Prop:=
 ∀ D,e D=none->∃ W:Nat->Nat->Hp->Prop,(∃ m,W 0 m (upd e D (.lst [])))/\∀ i m H,W i m H ->
  (J.stop i H/\Q (.ref D) H)\/(J.go i H/\∀ x d,J.yld i H x d->l (Qw j h x) d λc f=>
   if c=true then k (Qw j h x) f λy g=>∃ b a,g D=some (.lst b)/\b.length<ao/\a<m/\W (i+1) a (upd g D (.lst (b++[y])))
   else ∃ a,a<m/\W (i+1) a f)
def HN(f:TI)(c:jj)(e:TT)(d:TE):TE:=λa H Q=>f a H λJ b=>WH J a c e d b Q
section
variable{jP:jo}{σ:St}{H:Hp}
theorem At{b:jj}{j:Nat}{v:V}(h:(b.map λi=>(σ[i]?).join)[j]? = some (some v)):∃ i,b[j]? = some i/\σ[i]? = some (some v):=by
 rw[zG] at h
 cases e:b[j]? with
 | none=>rw[e] at h;cases h
 | some i=>
  rw[e] at h;let a:(σ[i]?).join=some v:=yZ.inj h;exists i,Z
  cases q:σ[i]? with
  | none=>rw[q] at a;cases a
  | some o=>
   rw[q] at a
   cases o with
   | none=>cases a
   | some z=>cases a;rfl
def Ml(a:Env)(l:List (Str×NameKind)):Bool:=l.all λp=>!(p.2==.free) || a.kindOf p.1==some .cell || a.kindOf p.1==some .free
theorem Ew{X:Cx}{l:List (Str×NameKind)}(a:X.Ok)(h:Ml X.env l=true):MV X.env l:=λp c b=>by
 let q:=yQ.mp h p c;rw[b] at q;let d:(X.env.kindOf p.1==some .cell || X.env.kindOf p.1==some .free)=true:=by simpa using q
 rcases Bool.or_eq_true_iff.mp d with q | q
 ·exact a.has p.1 (.inl (eq_of_beq q))
 ·exact a.has p.1 (.inr (eq_of_beq q))
def Na(a:aD)(x:Str):Bool:=a.kind==.function&&a.names.lookup x==some .local&&a.names.all (λp=>!(p.2==.cell))&&a.names.all (λp=>!(p.2==.local) || a.names.lookup p.1==some .local)
structure Py(scope:aD)(x:Str):Prop where
 kind:scope.kind=.function
 own:scope.names.lookup x=some .local
 cell:∀ y∈scope.names,y.2≠.cell
 names:∀ y∈scope.names,y.2=.local->scope.names.lookup y.1=some .local
theorem LP{a:aD}{x:Str}(h:Na a x=true):Py a x:=by
 unfold Na at h;rw[zM,zM,zM] at h;let⟨⟨⟨c,d⟩,e⟩,f⟩:=h;refine⟨eq_of_beq c,eq_of_beq d,λy b z=>?_,λy b z=>?_⟩
 ·have:=yQ.mp e y b;rw[z] at this;cases this
 ·have:=yQ.mp f y b;rw[z] at this;let q:(a.names.lookup y.1==some NameKind.local)=true:=by simpa using this
  exact eq_of_beq q
theorem Gi{a:aD}{b:Env}(d:∀ y∈a.names,y.2≠.cell)(y:Str)(h:(relabel a b).names.lookup y=some .cell\/(relabel a b).names.lookup y=some .free):∃ c,(Wu b a.names []).lookup y=some c:=
 tV.mp (CC (Hz d h))
def EI(i:Nat)(t:TE):TS:=λD σ H=>t σ H λv a=>D.nx (σ.set i (some v)) a
end
def LH(b:jn)(c:St)(a:jj):St:=b.map (λ_=>(none:jf))++a.map λi=>(c[i]?).join
def JU(J:It)(k:Nat)(g:TG)(p:St)(n:jj)(s:TT)(r:TE)(h:Hp)(Q:VK):Prop:=
 ∀ D,h D=none->∃ W:Nat->Nat->Hp->Prop,(∃ m,W 0 m (upd h D (.lst [])))/\∀ i m H,W i m H ->
  (J.stop i H/\Q (.ref D) H)\/(J.go i H/\∀ x f,J.yld i H x f->∀ o:St,o.length=k->g x (o++n.map λi=>(p[i]?).join) f λa q=>(∃ d:St,d.length=k/\a=d++n.map λi=>(p[i]?).join)/\s a q λc j=>
   if c=true then r a j λy l=>∃ e b,l D=some (.lst e)/\e.length<ao/\b<m/\W (i+1) b (upd l D (.lst (e++[y])))
   else ∃ b,b<m/\W (i+1) b j)
def Fb(k:Nat)(g:TG)(f:TI)(c:jj)(e:TT)(d:TE):TE:=λa H Q=>f a H λJ b=>JU J k g a c e d b Q
section
variable{jP:jo}{σ:St}{H:Hp}
theorem ZJp{t K:jn}{J:jj}{a:aD}{L:jC}{fp:jy}{E:ja}{g:aC}{D C n tk:Nat}{m:jb}(I:ZF X jP σ H s)(N:∀ b∈fp,VQ X jP H b/\b<s.heap.objs.size)(f:XD X.env L)(B:a.kind=.function)(w:∀ y,((relabel a X.env).names.lookup y=some .cell\/(relabel a X.env).names.lookup y=some .free)->∃ c,L.lookup y=some c)(fo:YR X a J K)(M:s.heap.objs.size<=D)(R:s.heap.objs.size<=C)(S:D≠C)(T:g.Ns C m)(k:∀ b o,s.heap.get? b=some o->g.get? b=some o)(hd:g.get? D=some { cls:=.type "list",data:=.seq ([]:jd).toArray n }):
  ZF (Wt X (t++K) a L C s H fp E) [] (LH t σ J) (upd H D (.lst [])) { s with heap:=g,toks:=tk }:=by
 let d:∀ y c,L.lookup y=some c->c<s.heap.objs.size:=λy c e=>by
  let⟨v,q⟩:=I.cell y c (f.get e);exact q.lt
 refine⟨⟨I.ok.mod,B,I.ok.glob,I.ok.blt,R,λy z c h1 h2=>I.ok.inj y z c (f.get h1) (f.get h2),w,λy c h _=>absurd h (by simp[Wt]),I.ok.hd,I.ok.frames,.inl Z,λb G=>⟨?_,λy c e=>?_⟩,I.bs,zI I.ok.bsz I.sz,λb o e G=>?_,λb G z=>?_,I.stack,I.stkFree⟩,
  Z,I.bare,Un.laid k M (I.hok.fresh M),⟨m,T,λj y v e1 e2 F=>?_⟩,λy c e=>?_,?_,λy c e=>?_,λp hp=>absurd (show p∈([]:jo) from hp) (by simp),I.hok.laid k M ?_,?_⟩
 ·exact yK (yI (N b G).2 R)
 ·exact(N b G).1.2.2.2.2.1 y c (f.get e)
 ·let⟨_,_,_,z,_⟩:=(N b G).1;rcases z with z | z
  ·exact I.ok.noex b o e z
  ·exact absurd (yI (zH (I.ok.bs b o e).1) z) (wK _)
 ·let⟨_,z1,z2,_⟩:=(N b G).1;rcases zU.mp (I.stkSub b z) with q | q
  ·exact z1 q
  ·exact z2 q
 ·by_cases O:j<t.length
  ·exfalso
   let F:(t.map (λ_=>(none:jf))++J.map λi=>(σ[i]?).join)[j]? = some (some v):=e2;rw[vN (by rw[zX];exact O),zG,zQ O] at F
   cases F
  ·let Y:(t++K)[j]? = some y:=e1;let P:K[j-t.length]? = some y:=by rw[wP (uK O)] at Y;exact Y
   let F:(t.map (λ_=>(none:jf))++J.map λi=>(σ[i]?).join)[j]? = some (some v):=e2;let Q:(J.map λi=>(σ[i]?).join)[j-t.length]? = some (some v):=by
    rw[wP (by rw[zX];exact uK O),zX] at F
    exact F
   let⟨i,q1,q2⟩:=At Q;let⟨i',p1,p2,x,W⟩:=fo.get P;rw[q1] at p1;cases p1;let p4:(relabel a X.env).names.lookup y=some .cell\/(relabel a X.env).names.lookup y=some .free:=Hi W;let⟨c,p5⟩:=w y p4;let⟨m0,a0,hl⟩:=I.loc;let⟨u,r,l⟩:=hl i y v p2 q2 (.inr x);refine⟨u,r,.inr ⟨p4,c,p5,?_⟩⟩;rcases l with ⟨l1,_⟩ | ⟨_,c',l2,l3⟩
   ·rcases x with x | x
    ·rw[l1] at x;cases x
    ·rw[l1] at x;cases x
   ·rw[f.get p5] at l2;cases l2;let⟨o,U,A⟩:=l3;exact⟨o,k _ _ U,A⟩
 ·let⟨v,o,U,A⟩:=I.cell y c (f.get e);exact⟨v,o,k _ _ U,A⟩
 ·show upd H D (.lst []) C=none;rw[ZS (Ne.symm S)];exact I.hok.fresh R
 ·show upd H D (.lst []) c=none;rw[ZS (yK (yI (d y c e) M))];exact I.freeC y c (f.get e)
 ·exact⟨zE _,[],n,.nil,hd⟩
 ·show (LH t σ J).length=(t++K).length;unfold LH;rw[zN,zX,zX,fo.len,zN]
def EK(k:Nat)(c:jj)(σ a:St):Prop:=∃ b:St,b.length=k/\a=b++c.map λi=>(σ[i]?).join
inductive Jw(Y:Cx)(k:Nat)(f:jj)(σ:St)(g:Nat->aC->Prop)(e:jy)(W:Nat->Nat->Hp->Prop)(n:Nat)(d:aj):Prop
 |mk(i:Nat)(a:St)(c:Hp):ZF Y [] a c d->EK k f σ a->g i d.heap->(∀ b∈e,c b=none)->W i n c->Jw Y k f σ g e W n d
theorem Fg{elt iter tg:Expr}{xs:jn}{g:TG}{ifs:jw}{scope:aD}{cl:jC}{pos:Pos}{ix:jj}{ys:jn}{tt:TT}{te:TE}{it:ai}{fp:jy}{tn:Nat->aC->Prop}{J:It}{Q:VK}{E:ja}{RR:ah->ai->Result->aj->Prop}(hc:X.calm=true)(hg:∀ C s H fp E,PG (Wt X (xs++ys) scope cl C s H fp E) tg g)(ht:∀ C s H fp E,Oz (Wt X (xs++ys) scope cl C s H fp E) ifs tt)(he:∀ C s H fp E,PE (Wt X (xs++ys) scope cl C s H fp E) elt te)(sub:XD X.env cl)(hkind:scope.kind=.function)(hcell:∀ y∈scope.names,y.2≠.cell)(hhas:∀ y,((relabel scope X.env).names.lookup y=some .cell\/(relabel scope X.env).names.lookup y=some .free)->∃ c,cl.lookup y=some c)(fo:YR X scope ix ys)(I:ZF X jP σ H s)(T:Ut X.prog X.w X.K tg J fp it tn)(st:tn 0 s.heap)(hf:∀ b∈fp,VQ X jP H b)(q:JU J xs.length g σ ix tt te H Q)(hRR:∀ D C s' H' m,s.heap.objs.size<=C->ZF X jP σ H' s'->VQ X jP H' C->s'.heap.Ns C m->Q (.ref D) H'->RR (.ref D) C (.ok .next) s'):
  aA (az X.prog X.w) X.A (newList []) (λacc s₃=>aA (az X.prog X.w) X.A (newFunctionEnv scope X.env.globals cl [] X.env.qual none .none (some X.env)) (λcenv s₄=>
   codeAny (az X.prog X.w) X.A (.compStart (.ListComp elt [⟨tg,iter,ifs,0⟩] scope pos) 0 (.ref it) acc { cenv with scope:=relabel scope X.env }) (RR acc cenv.locals) s₄) E s₃) E s:=by
 refine wpAny_newObj_type (wpAny_newFunctionEnv hcell (by intro y hy;simp at hy) (λh₁ hns₁ hsb₁=>?_) hkind)
 dsimp only at hns₁ hsb₁⊢;generalize hH2:s.heap.push { cls:=.type "list",dict:=none,data:=.seq ([]:jd).toArray }=H2 at hns₁ hsb₁⊢;let hC:H2.objs.size=s.heap.objs.size+1:=by rw[<-hH2,tS]
 let hDC:s.heap.objs.size≠H2.objs.size:=by rw[hC];exact yK (wT _)
 let hCle:s.heap.objs.size<=H2.objs.size:=by rw[hC];exact uS _
 let below:∀ b,b<s.heap.objs.size->b≠H2.objs.size/\b≠s.heap.objs.size:=λb hb=>⟨by rw[hC];exact yK (Nat.lt_succ_of_lt hb),yK hb⟩
 let old:∀ b o,s.heap.get? b=some o->h₁.get? b=some o:=λb o e=>hsb₁.extBut b o (below b (zH e)).1 (zA _ (hH2 ▸ zA _ e));let hacc:∃ n,h₁.get? s.heap.objs.size=some { cls:=.type "list",data:=.seq ([]:jd).toArray n }:=⟨_,hsb₁.extBut _ _ hDC (zA _ (hH2 ▸ yM _ rfl))⟩;let⟨nD,hacc⟩:=hacc;let hf':∀ b∈fp,VQ X jP H b/\b<s.heap.objs.size:=λb hb=>⟨hf b hb,by let⟨o,e,_⟩:=T.obj 0 _ st b hb;exact zH e⟩
 let hDn:H s.heap.objs.size=none:=I.hok.fresh (zY _);let⟨W,⟨m0,w0⟩,turn⟩:=q _ hDn;generalize hE:notedBy (az X.prog X.w) X.A (compEnvC scope cl H2.objs.size X.env) (λe s'=>RR (.ref s.heap.objs.size) H2.objs.size (.error e) s')=EE;let I0:ZF (Wt X (xs++ys) scope cl H2.objs.size s H fp EE) [] (LH xs σ ix) (upd H s.heap.objs.size (.lst [])) { s with heap:=h₁,toks:=s.toks+([]:jE).length }:=
  ZJp I hf' sub hkind hhas fo (zY _) hCle hDC hns₁ old hacc
 let st1:tn 0 h₁:=T.keep _ _ _ st λb _ o e=>old b o e;let fr1:∀ b∈fp,upd H s.heap.objs.size (.lst []) b=none:=λb hb=>by rw[ZS (below b (hf' b hb).2).2];exact(hf b hb).1
 let stat:∀{H':Hp},(∀ b∈fp,H' b=none)->∀ b∈fp,VQ (Wt X (xs++ys) scope cl H2.objs.size s H fp EE) [] H' b:=λhn b hb=>
  ⟨hn b hb,(I0.ok.exf b hb).1,I0.ok.exfs b hb,.inl hb,(I0.ok.exf b hb).2,λp hp=>absurd (show p∈([]:jo) from hp) (by simp)⟩
 let loop:∀ s₃:aj,s₃={ s with heap:=h₁,toks:=s.toks+([]:jE).length } ->
   codeAny (az X.prog X.w) X.A (.compLoop (.ListComp elt [⟨tg,iter,ifs,0⟩] scope pos) 0 (.ref it) (.ref s.heap.objs.size) (compEnvC scope cl H2.objs.size X.env)) (RR (.ref s.heap.objs.size) H2.objs.size) s₃:=by
  rintro s₃ rfl;refine ZGV (Jw (Wt X (xs++ys) scope cl H2.objs.size s H fp EE) xs.length ix σ tn fp W) ?_ m0 ⟨0,_,_,I0,⟨_,zX _,Z⟩,st1,fr1,w0⟩;rintro n s3 ⟨i,σ3,H3,I3,⟨o3,ho3,hσ3⟩,st3,fr3,w3⟩;rw[hE];rcases turn i n H3 w3 with ⟨stop,qn⟩ | ⟨go,step⟩
  ·refine YA (T.done (Wt X (xs++ys) scope cl H2.objs.size s H fp EE) Z Z Z hc i [] s3 σ3 H3 EE I3 (stat fr3) st3 stop) ?_;rintro r s4 ⟨hr,I4⟩;subst hr;let⟨m4,hn4,_⟩:=I4.loc;let Ix:ZF X jP σ H3 s4:=I.call' (s':=s4) (ch:=fp) I4.os I4.base I4.hok I4.bare λb hb=>by
    let⟨_,z1,_,z3,z4,z5⟩:=hf b hb;exact⟨z3,z1,z4,z5⟩
   exact hRR _ _ s4 H3 m4 hCle Ix (I.fpOk hCle I4.free) hn4 qn
  ·refine YA (T.item (Wt X (xs++ys) scope cl H2.objs.size s H fp EE) Z Z Z hc i [] s3 σ3 H3 EE I3 (stat fr3) st3 go) ?_;rintro r s4 ⟨u,hr,h4⟩;subst hr;refine YA h4 ?_;rintro _ s5 ⟨xv,H5,I5,r5,y5,st5,fr5⟩;let I5':=I5.pinned (stat fr5) (T.obj _ _ st5);let again:∀{σ7:St}{H7:Hp}{s7:aj}{m':Nat},ZF (Wt X (xs++ys) scope cl H2.objs.size s H fp EE) ([]++Mi fp s5.heap) σ7 H7 s7->EK xs.length ix σ σ7->m'<n->W (i+1) m' H7 ->
     ∃ m,m<n/\Jw (Wt X (xs++ys) scope cl H2.objs.size s H fp EE) xs.length ix σ tn fp W m s7:=fun{σ7 H7 s7 m'} I7 e7 hm w7=>by
    refine⟨m',hm,.mk (i+1) σ7 H7 I7.unpinned e7 (T.keep _ _ _ st5 λb hb o e=>(I7.pin (b,o) (yP _ (yP _ (Lf hb e)))).1) (λb hb=>?_) w7⟩;let⟨o,e,d⟩:=T.obj _ _ st5 b hb;exact(I7.pin (b,o) (yP _ (yP _ (Lf hb e)))).2.1
   let stp:=step xv _ y5 o3 ho3;rw[<-hσ3] at stp;refine YA (hg _ _ _ _ _ _ s5 σ3 H5 xv u _ I5' r5 stp) ?_;rintro _ s6 ⟨σ6,H6,I6,e6,q6⟩;refine YA (ht _ _ _ _ _ _ s6 _ _ _ I6 q6) ?_;rintro ok s7 ⟨H7,I7,q7⟩
   cases ok with
   | false=>
    rw[aJ zW] at q7⊢;let⟨m',hm,w7⟩:=q7;exact again I7 e6 hm w7
   | true=>
    rw[aK rfl] at q7⊢;refine YA (he _ _ _ _ _ _ s7 _ _ _ I7 q7) ?_;rintro y s8 ⟨yv,H8,I8,r8,ys8,m',e8,z8,hm,w8⟩;refine YA (PY _ s8 _ H8 (.ref s.heap.objs.size) [yv] (.ref s.heap.objs.size) [y] (λ_ H9=>W (i+1) m' H9) I8 Z (.cons r8 .nil) ⟨_,ys8,yv,Z,Z,e8,z8,w8⟩) ?_;rintro _ s9 ⟨_,H9,I9,_,w9⟩;exact again I9 e6 hm w9
 exact codeAny_compStart_list (loop _ Z) (T.self _ 0 _ _ _ st1 (loop _ rfl))
theorem Bj{f c t:Expr}(j:jn)(x:Str){g:TG}{i:jw}{a:aD}{p:Pos}{G:TI}{z:TT}{y:TE}(u:jj)(k:jn)(hc:X.calm=true)(hg:∀ C s H d E,PG (Wt X (j++k) a (Wu X.env a.names []) C s H d E) t g)(hi:PI X t c G)(ht:∀ C s H d E,Oz (Wt X (j++k) a (Wu X.env a.names []) C s H d E) i z)(he:∀ C s H d E,PE (Wt X (j++k) a (Wu X.env a.names []) C s H d E) f y)(W:YR X a u k)(hk:Ml X.env a.names=true:=by rfl)(n:Na a x=true:=by rfl)(hs:∀ x,foldedSetIterable c X.env x=pure x:=by intro _;rfl):
  PE X (.ListComp f [⟨t,c,i,0⟩] a p) (Fb j.length g G u z y):=by
 intro jP s σ H Q I h;let B:=LP n;let F:=Ew I.ok hk;rw[eval_ListComp];refine wpAny_comprehension_free (use:=none) Z hs (Gm F) B.kind B.names (YA (hi jP s σ H _ I h) λv s1 Y=>YA Y λa0 s2 h2=>?_);let⟨it,d,tn,J,H2,e,L,T,r,P,q2⟩:=h2;subst e;refine Fg (RR:=λl C=>compPost (az X.prog X.w) X.A X.xe none (EP X jP σ Q) l C) hc hg ht he (GP F) B.kind B.cell (Gi B.cell) W L T r P q2 ?_;intro D C s' K m hC M V hn q;refine⟨m,hn,λh' sb=>⟨.ref D,K,?_,Z,q⟩⟩;let⟨N,O,_,R,S,U⟩:=V;exact M.turned (t':=s'.toks) (λb o n e=>(sb.2 b n).trans e) N O R S U
theorem ZF0{f d u:Expr}(G:jn)(x:Str){g:TG}{y:Str}{p:Pos}{j:jw}{c:aD}{l k:Pos}{wi:TI}{tt:TT}{te:TE}{i:Nat}(ix:jj)(K:jn)(hN:X.N.Nodup)(O:X.N[i]? = some y)(Y:X.env.scope.names.lookup y=some .local)(hc:X.calm=true)(hg:∀ C s H n E,PG (Wt X (G++K) c (Wu X.env c.names []) C s H n E) u g)(hi:PI X u d wi)(ht:∀ C s H n E,Oz (Wt X (G++K) c (Wu X.env c.names []) C s H n E) j tt)(he:∀ C s H n E,PE (Wt X (G++K) c (Wu X.env c.names []) C s H n E) f te)(fo:YR X c ix K)(P:swapsWith (.ListComp f [⟨u,d,j,0⟩] c l) (some (.Name y p)) k.line X.env=pure true:=by rfl)(hk:Ml X.env c.names=true:=by rfl)(M:Na c x=true:=by rfl)(hs:∀ x,foldedSetIterable d X.env x=pure x:=by intro _;rfl):
  PS X (.Assign [.Name y p] (.ListComp f [⟨u,d,j,0⟩] c l) k) (EI i (Fb G.length g wi ix tt te)):=by
 intro jP s σ H D I h;let B:=LP M;let F:=Ew I.ok hk;rw[exec_Assign_Name_used _ _ _ _ P];refine aa (wpAny_standAt (aa ?_));show aA _ X.A (do let _<-comprehension (.ListComp f [⟨u,d,j,0⟩] c l) c X.env _ (newList []) false (aF d X.env) (some (assign (.Name y p) X.env))) _ _ s
 refine aa (ae (wpAny_comprehension_free (use:=some (assign (.Name y p) X.env)) (Q:=λ_ t=>SP X jP D .next t) rfl hs (Gm F) B.kind B.names
  (YA (hi jP s σ H _ I h) λv s1 h1=>YA h1 λa0 s2 h2=>?_)) (λ_ t hq=>ad (ad hq)) λ_ _ e=>e)
 let⟨it,n,tn,J,H2,e,I2,T,S,f2,q2⟩:=h2;subst e;refine Fg (RR:=λL C=>compPost (az X.prog X.w) X.A X.xe (some (assign (.Name y p) X.env)) (λ_ t=>SP X jP D .next t) L C) hc hg ht he (GP F) B.kind B.cell (Gi B.cell) fo I2 T S f2 q2 ?_;intro U C t H' m hC Ix fC hn q;let⟨f0,V,_,f3,W,f5⟩:=fC;show aA _ X.A (assign (.Name y p) X.env (.ref U)) _ _ _;refine wpAny_assign_Name (Hw Ix hN O (.inl Y) (v:=.ref U) Z (λs3 I3 ⟨a,sb,r⟩=>?_) (.inr Y));let ne:C≠a:=by
  rcases r with r | r
  ·rw[r];exact V
  ·exact λz=>W y a r z.symm
 refine⟨m,hn.sameBut sb ne,λh' R=>⟨_,H',?_,q⟩⟩;exact I3.turned (t':=s3.toks) (λb o M e=>(R.2 b M).trans e) f0 V f3 W f5
theorem WH.toT{J:It}{a:jj}{c:TT}{b:TE}{Q:VK}(h:WH J σ a c b H Q):JU J 1 (OR 0) σ a c b H Q:=λD f=>by
 let⟨W,e,j⟩:=h D f;refine⟨W,e,λi m H k=>(j i m H k).imp id λq=>⟨q.1,λx d y l g=>?_⟩⟩;let⟨_,rfl⟩:=List.length_eq_one_iff.mp g;exact⟨⟨[some x],Z,Z⟩,q.2 x d y⟩
inductive Mg(c:TI)(σ:L2.St)(H:Hp)(K:It->Hp->Prop):Prop
 |mk(b:It->Hp->Prop)(_:c σ H b)(_:∀ J a,b J a->K J a)
theorem PI.more{i g:Expr}{j:TI}(h:PI X i g j):PI X i g (Mg j):=λjP s σ H R I ⟨l,n,f⟩=>
 ae (h jP s σ H l I n) (λ_ _ z=>ae z (by rintro _ _ ⟨o,m,p,J,k,a,b,c,d,e,r⟩;exact⟨o,m,p,J,k,a,b,c,d,e,f _ _ r⟩) λ_ _ z=>z) λ_ _ z=>z
theorem Vn{c b:Expr}{x:Str}{o:Pos}{d:jw}{a:aD}{l:Pos}{r:TI}{q:TT}{p:TE}(k:jj)(e:jn)(u:X.calm=true)(w:PI X (.Name x o) b r)(B:∀ C s H f E,Oz (Wt X (x::e) a (Wu X.env a.names []) C s H f E) d q)(v:∀ C s H f E,PE (Wt X (x::e) a (Wu X.env a.names []) C s H f E) c p)(t:YR X a k e)(y:Ml X.env a.names=true:=by rfl)(m:Na a x=true:=by rfl)(j:(x::e).Nodup:=by decide +kernel)(A:∀ x,foldedSetIterable b X.env x=pure x:=by intro _;rfl):
  PE X (.ListComp c [⟨.Name x o,b,d,0⟩] a l) (HN r k q p):=by
 intro jP s σ H Q I h;let n:(relabel a X.env).names.lookup x=some .local:=lookup_relabel_local (LP m).own;exact Bj [x] x (g:=OR 0) k e u (λ_ _ _ _ _=>JB (i:=0) j Z (Or.inl n) (Or.inr n)) (PI.more w) B v t y m A jP s σ H Q I ⟨_,h,λ_ _ z=>WH.toT z⟩
theorem LF{d b:Expr}{x y:Str}{p t:Pos}{e:jw}{a:aD}{f c:Pos}{w:TI}{v:TT}{u:TE}{i:Nat}(o:jj)(j:jn)(B:X.N.Nodup)(l:X.N[i]? = some y)(O:X.env.scope.names.lookup y=some .local)(F:X.calm=true)(J:PI X (.Name x p) b w)(M:∀ C s H k E,Oz (Wt X (x::j) a (Wu X.env a.names []) C s H k E) e v)(G:∀ C s H k E,PE (Wt X (x::j) a (Wu X.env a.names []) C s H k E) d u)(A:YR X a o j)(n:swapsWith (.ListComp d [⟨.Name x p,b,e,0⟩] a f) (some (.Name y t)) c.line X.env=pure true:=by rfl)(K:Ml X.env a.names=true:=by rfl)(q:Na a x=true:=by rfl)(m:(x::j).Nodup:=by decide +kernel)(L:∀ x,foldedSetIterable b X.env x=pure x:=by intro _;rfl):
  PS X (.Assign [.Name y t] (.ListComp d [⟨.Name x p,b,e,0⟩] a f) c) (EI i (HN w o v u)):=by
 intro jP s σ H D I h;let r:(relabel a X.env).names.lookup x=some .local:=lookup_relabel_local (LP q).own;exact ZF0 [x] x (g:=OR 0) o j B l O F (λ_ _ _ _ _=>JB (i:=0) m Z (Or.inl r) (Or.inr r)) (PI.more J) M G A n K q L jP s σ H D I ⟨_,h,λ_ _ z=>WH.toT z⟩
end
end L2
local macro_rules|`(tactic|lia)=>`(tactic|first|assumption|exact wR ‹_› ‹_›|exact yI ‹_› ‹_›|exact zI ‹_› ‹_›|exact zI ‹_› (yX rfl)|exact yI ‹_› (yX rfl)|exact wR ‹_› (yX rfl)|exact zI (zI ‹_› ‹_›) (yX rfl)|exact zI (wY ‹_›) (zI ‹_› (yX rfl))|exact zI (wY (Eq.symm ‹_›)) (zI ‹_› (yX rfl))|exact xM ‹_›|exact Nat.pos_of_ne_zero ‹_›|exact sC ‹_›|exact vD ‹_›|exact yX rfl|exact zY _|exact vE _ _|exact Nat.le_add_left _ _|exact vA _ _|exact Int.natCast_nonneg _|exact Nat.lt_of_not_le ‹_›|exact uK ‹_›|exact Int.lt_of_not_ge ‹_›|exact Int.not_lt.mp ‹_›|exact uH ‹_› (wT _)|exact Nat.lt_of_lt_of_eq ‹_› (Eq.symm ‹_›)|exact Nat.lt_of_lt_of_eq ‹_› ‹_›|exact Eq.symm (Nat.succ_pred_eq_of_ne_zero ‹_›)|exact Nat.add_sub_of_le ‹_›|exact Nat.add_lt_of_lt_sub' ‹_›|exact Int.ofNat_lt.mpr ‹_›|exact wR (vE _ _) ‹_›|exact zI (tO _ _) (vA _ _)|exact zI (tO _ _) (zI (vA _ _) ‹_›)|exact zI (vA _ _) ‹_›|exact Nat.le_sub_of_add_le' ‹_›|exact Nat.le_sub_of_add_le ‹_›|exact Int.le_trans ‹_› ‹_›|exact wR (wY ‹_›) ‹_›|lia (splits:=8))
namespace L2
open PySem PySem.Spec PyProof.Rows
inductive Iu(K:zZ)(a:je)(H:Hp)(Q:VK):Prop
 |mk(x n t b:_)(_:a=[x,.ty n])(_:XF K H x t)(_:yO K t (.type n)=some b)(_:Q (.bl b) H)
theorem UF:UR X (.builtin "isinstance") (Iu X.K):=by
 intro a s l H k j Q I r h;let⟨x,n,t,b,rfl,g,e,q⟩:=h;let⟨u,i,rfl,d,c⟩:=Mx r;cases(show i=Value.type n from c);exact ZIE I d g e λf=>⟨.bl b,H,I.tok f,Z,q⟩
theorem Ct{K:zZ}:yO K (.type "bool") (.type "bool")=some true:=by kernel_rfl
theorem IJ{K:zZ}:yO K (.type "int") (.type "bool")=some false:=by kernel_rfl
theorem AM{K:zZ}:yO K (.type "str") (.type "bool")=some false:=by kernel_rfl
theorem ZPh{K:zZ}:yO K (.type "tuple") (.type "bool")=some false:=by kernel_rfl
theorem N2{K:zZ}:yO K (.type "int") (.type "int")=some true:=by kernel_rfl
theorem Lq{K:zZ}:yO K (.type "str") (.type "int")=some false:=by kernel_rfl
theorem M9{K:zZ}:yO K (.type "tuple") (.type "int")=some false:=by kernel_rfl
theorem kit_is'{K:zZ}:yO K (.type "int") (.type "str")=some false:=by kernel_rfl
theorem MB{K:zZ}:yO K (.type "str") (.type "str")=some true:=by kernel_rfl
theorem LY{K:zZ}:yO K (.type "tuple") (.type "str")=some false:=by kernel_rfl
theorem ES{K:zZ}:yO K (.type "int") (.type "tuple")=some false:=by kernel_rfl
theorem Db{K:zZ}:yO K (.type "str") (.type "tuple")=some false:=by kernel_rfl
theorem IV{K:zZ}:yO K (.type "tuple") (.type "tuple")=some true:=by kernel_rfl
theorem Vq:ax "isinstance" = some (.builtin "isinstance"):=by decide +kernel
theorem Mn:ax "all" = some (.builtin "all"):=by decide +kernel
theorem KI:ax "max" = some (.builtin "max"):=by decide +kernel
theorem Ev:ax "min" = some (.builtin "min"):=by decide +kernel
theorem KB:ax "abs" = some (.builtin "abs"):=by decide +kernel
theorem Xa:ax "len" = some (.builtin "len"):=by decide +kernel
theorem Kj:ax "bool" = some (.type "bool"):=by decide +kernel
theorem ON:ax "int" = some (.type "int"):=by decide +kernel
theorem N9:ax "str" = some (.type "str"):=by decide +kernel
theorem OJ:ax "tuple" = some (.type "tuple"):=by decide +kernel
theorem OL:ax "list" = some (.type "list"):=by decide +kernel
inductive Uf(x y:V)(H:Hp)(Q:VK):Prop
 |mk(i j:_)(_:x=.str i)(_:y=.str j)(_:Q (.bl (!decide (j.cps.toList<i.cps.toList))) H)
theorem Gz:Y7 X (ay .LtE) (Uf):=by
 intro a s e H x y v u Q I b c h;let⟨i,j,rfl,rfl,q⟩:=h;let⟨t,rfl⟩:=b;let⟨d,rfl⟩:=c;exact PySem.P.le_str (XE I q (by simp))
inductive Uy(a:zZ)(x y:V)(H:Hp)(Q:VK):Prop
 |mk(p b c:_)(_:x=.ref p)(_:y=.ref b)(_:ZG a H p c)(_:ZG a H b [])(_:Q (.bl c.isEmpty) H)
theorem Md(f:X.A.units<cLine):Y7 X (ay .Eq) (Uy X.K):=by
 intro l s G H x y v u Q I B C h;let⟨p,b,D,rfl,rfl,c,o,q⟩:=h;cases B;cases C;let⟨d,w,i,E⟩:=I.list c;let⟨a,z,k,F⟩:=I.list o;let g:=w.length;let t:=z.length;let n:a=[]:=vT (by rw[<-t];rfl)
 subst n
 cases D with
 | nil=>
  let m:d=[]:=vT (by rw[<-g];rfl)
  subst m;exact PySem.SeqAt.eq_listAt (e:=λ_=>true) i.isList k.isList Z f (λj c _=>absurd c (by simp)) (XE I q (by simp))
 | cons x r=>exact PySem.SeqAt.eq_list_lengthsAt i.isList k.isList (by simp;intro e;subst e;simp at g) f (XE I q Z)
def AC(i j:Int):Prop:=0<j/\j.natAbs.log2<9000
theorem Am:Y7 X (binaryOp .FloorDiv) (rI AC λi j=>.int (i / j)):=MC λi j _ _ _ _ _ a q=>by
 let b:(0:Int)<j:=a.1;exact floordiv_int ∅ (by rw[rM i ∅];exact q) (.inl (PyProof.noPylong_of_log2 a.2))
inductive Pw(x:V)(b:je)(H:Hp)(Q:VK):Prop
 |mk(l:ai)(a:je)(i:Nat)(y:V)(_:x=.ref l)(_:b=[.int (i:Int),y])(_:H l=some (.lst a))(_:i<=a.length)(_:a.length<ao)(_:Q .non (upd H l (.lst (a.take i++y::a.drop i))))
theorem ZFN{l:ai}{a:jd}{n:Nat}{x:Int}{t:Tok}{u:ah}{A:aw}{b:ak}{w:ar}{E:ja}{s:aj}{Q:ja}(e:s.heap.get? l=some { cls:=.type "list",data:=.seq a.toArray n })(c:Builtin.List.listFitsIndex x=true)(d:a.length<=ao)(j:0<=x)(k:x.toNat<=a.length)(h:∀ g:js->js,g a.toArray=(a.take x.toNat++u::a.drop x.toNat).toArray->Q .none { s with heap:=s.heap.update l (Obj.mapSeq g) }):aA (az b w) A (call (.builtin "list.insert") [.ref l,.int x t,u]) Q E s:=by
 refine call_meets F.slot_list_insert ⟨_,e,Z⟩ F.entry_list_insert (F.args_list_insert_3 _ _ _) (PySem.AutoSeq1.list_insert_list_int_val_1 l a.toArray n x t u (by rw[c];exact zW) (by rw[zJ];exact d)) ⟨e,h _ ?_⟩
 let f:¬ (x<0):=∅
 let i:min x.toNat a.length=x.toNat:=∅
 simp only[zJ,f,if_false,i];apply sE.mp;simp;exact yV (by rw[yE];exact zY _)
theorem AR:La X "list.insert" Pw:=by
 intro k s K H x G v F Q I B A h;let⟨l,J,i,y,rfl,rfl,d,u,D,q⟩:=h;cases B;let⟨E,C,rfl,⟨t,rfl⟩,w⟩:=A.two;let⟨z,b,n,r,j,e⟩:=I.lstM d;let p:=Og;let c:(i:Int).toNat=i:=uJ i;let a:Builtin.List.listFitsIndex (i:Int)=true:=by
  unfold Builtin.List.listFitsIndex;let m:(-(2 ^ 63:Int)<=(i:Int)):=nofun
  let o:((i:Int)<2 ^ 63):=nofun
  exact Bool.and_eq_true_iff.mpr ⟨aI m,aI o⟩
 refine ZFN e a (by rw[<-j];exact z) nofun (by rw[c,<-j];exact u) λg f=>?_
 rw[c] at f;refine⟨.non,_,I.lset (its':=b.take i++C::b.drop i) d e f ((r.take i).append (.cons w (r.drop i))) ?_,Z,q⟩;rw[zN,zR,xU,yE]
 lia (splits:=8)
inductive Pk(b:zZ)(c:je)(H:Hp)(Q:VK):Prop
 |mk(p:ai)(a:List Bool)(_:c=[.ref p])(_:ZG b H p (a.map V.bl))(_:Q (.bl (a.all id)) H)
theorem Lm(C:X.calm=true):UR X (.builtin "all") (Pk X.K):=by
 intro w s Y H W V Q I r h;let⟨p,a,rfl,G,q⟩:=h;let⟨u,rfl,L⟩:=Qf r;cases L;let⟨c,y,k,T⟩:=I.list G;let t:=y.length;let g:p<s.heap.objs.size:=by let⟨_,e,_⟩:=k.isList;exact zH e
 let j:p≠s.heap.objs.size:=yK g;let D:=I.ok.hd C;let N:∀(i:Nat)(v:ah),c.toArray[i]? = some v->v=.bool (a.getD i true):=λi v J=>by
  let d:c[i]? = some v:=by simpa using J
  let S:i<c.length:=(zB.mp d).1;let n:i<a.length:=by rw[zX] at t;lia
  let⟨u,l,f⟩:=y.get (i:=i) (x:=.bl a[i]) (by rw[zG,zQ n];rfl)
  rw[d] at l;cases l;rw[show v=Value.bool a[i] from f,zV,zQ n];rfl
 refine call_all_walk (wpAny_pyIter_list k.isList ?_);refine⟨_,_,_,_,_,_,(λi=>a.getD i true),Z,Walks.list (A:=X.A.in1) D s.heap.objs.size p j c.toArray,⟨⟨_,yM _ Z,Z,Z⟩,k.isList.push _⟩,λi v U P O z B=>?_,λR M E=>?_⟩
 ·rw[N i v z];exact wpAny_truthy_bool B
 ·let e:(yJ c.toArray.size).all (λi=>a.getD i true)=a.all id:=by
   rw[zJ,<-t,zX];let f:a.all id=((yJ a.length).map λi=>a.getD i true).all id:=by rw[range_getD]
   rw[f,vR];rfl
  rw[e];refine⟨.bl (a.all id),H,I.kept (t':=M) λb o m=>E b o ?_ (zA _ m),Z,q⟩;intro F;exact absurd (zH m) (by rw[zK.mp F];exact wK _)
section
variable{R:Result->aj->Prop}
end
def Dm(x:Str):It:=⟨λi _=>i<x.cps.size,λi H v a=>a=H/\∃ c,x.cps[i]? = some c/\v=.str ⟨#[c]⟩,λi _=>i=x.cps.size⟩
theorem Fh{P:ak}{w:ar}{K:zZ}{tg:Expr}(ty:String)(hty:["enumerate","zip","dict_itemiterator","dict_reverseitemiterator","odict_iterator","itertools.zip_longest","itertools.pairwise"].contains ty=false)(x:Str)(t:Tok)(it:ai)(W:∀ A:aw,A.handled=none->Walks P w A it [it] [it] x.cps.size (SignAt x) (λi h=>h.IsStrIter it ty x t i))(self:∀ (A:aw) (i:Nat) (s:aj) (Q:ja) (E:ja),s.heap.IsStrIter it ty x t i->Q (.ref it) s->aA (az P w) A (pyIter (.ref it)) Q E s):
  Ut P w K tg (Dm x) [it] it (λi h=>h.IsStrIter it ty x t i) where
 mem:=by simp
 obj:=λi h st b hb=>by
  let e:b=it:=by simpa using hb
  subst e;let⟨o,e,c,d⟩:=st;exact⟨o,e,λv z=>by rw[d] at z;cases z⟩
 keep:=λi h h' ⟨o,e,r⟩ k=>⟨o,k it (by simp) o e,r⟩
 item:=by
  intro X hP hw hK hc i jP s σ H E I hf st hg;subst hP hw hK;let⟨f0,f1,f2,f3,f4,f5⟩:=hf it (by simp)
  refine(W X.A (I.ok.hd hc)).item i s _ _ hg st λv h' tk hv st' kk=>?_;let⟨c,u,hx,rfl⟩:=hv;let I1:ZF X jP σ H { s with heap:=h',toks:=tk }:=I.turned (λb o hb e=>kk b o (by simpa using hb) e) f0 f1 f3 f4 f5
  let⟨o,e,cl,d⟩:=id st';exact⟨_,Z,Ld (s:={ s with heap:=h',toks:=tk }) e cl d hty ⟨.str ⟨#[c]⟩,H,I1,⟨u,Z⟩,⟨Z,c,hx,Z⟩,st',λb hb=>(hf b hb).1⟩⟩
 done:=by
  intro X hP hw hK hc i jP s σ H E I hf st hg;subst hP hw hK;let⟨f0,f1,f2,f3,f4,f5⟩:=hf it (by simp)
  let hi:i=x.cps.size:=hg;subst hi;exact(W X.A (I.ok.hd hc)).done s _ _ st λh' tk kk=>⟨Z,I.turned (λb o hb e=>kk b o (by simpa using hb) e) f0 f1 f3 f4 f5⟩
 self:=self
section
variable{tg:Expr}
inductive N6(R:It->Hp->Prop)(v:V)(a:Hp):Prop
 |mk(x:_)(_:v=.str x)(_:R (Dm x) a)
def ZRQ(b:TE):TI:=λc H R=>b c H λv a=>N6 R v a
theorem ZOu{l:Expr}{n:TE}(r:PE X l n):PI X tg l (ZRQ n):=by
 intro a s w H R I h;refine YA (r a s w H _ I h) ?_;rintro v c ⟨z,f,d,u,x,e,q⟩;subst e;let⟨t,rfl⟩:=u;let k:∀ b∈[c.heap.objs.size],VQ X a f b:=λb p=>by
  rw[zK.mp p];exact d.fpOk (zY _) (d.hok.fresh (zY _))
 cases m:x.cps.all (· < 128)
 ·exact wpAny_pyIter_wide m ⟨c.heap.objs.size,[c.heap.objs.size],_,_,f,Z,d.kept (t':=c.toks) λb o e=>zA _ e,
   Fh "str_iterator" (by decide) x t _ (λA g=>Walks.strWide g _ x t) (λA i s Q E j h=>wpAny_pyIter_striter_wide j h),⟨_,yM _ Z,Z,Z⟩,k,q⟩
 ·exact wpAny_pyIter_ascii m ⟨c.heap.objs.size,[c.heap.objs.size],_,_,f,Z,d.kept (t':=c.toks) λb o e=>zA _ e,
   Fh "str_ascii_iterator" (by decide) x t _ (λA g=>Walks.strAscii g _ x t) (λA i s Q E j h=>wpAny_pyIter_striter_ascii j h),⟨_,yM _ Z,Z,Z⟩,k,q⟩
end
section
variable{σ:St}{H:Hp}{ix:jj}{te:TE}{Q:VK}
theorem Ud{J:It}{n:Nat}(d:Nat->V->Prop)(c:ai->Nat->je->Hp->Prop)(z:n<ao)(k:∀ D i a H,i<n->c D i a H->J.go i H)(t:∀ D i a H x g,i<n->c D i a H->J.yld i H x g->g=H/\d i x)(f:∀ D a H,c D n a H->J.stop n H)(q:∀ D,H D=none->c D 0 [] (upd H D (.lst [])))(step:∀ D i a H x,H D=some (.lst a)->a.length<=i->i<n->d i x->c D i a H->∀ R:VK,(∀ y h,h D=some (.lst a)->c D (i+1) (a++[y]) (upd h D (.lst (a++[y])))->R y h)->te (Qw σ ix x) H R)(j:∀ D a H,H D=some (.lst a)->c D n a H->Q (.ref D) H):WH J σ ix Li te H Q:=by
 intro D r;exists λi m H=>m=n-i/\i<=n/\∃ a,H D=some (.lst a)/\a.length<=i/\c D i a H,⟨n,rfl,zE _,[],ZZ,zY _,q D r⟩;rintro i m H ⟨rfl,w,a,e,s,p⟩;by_cases b:i<n
 ·refine .inr ⟨k D i a H b p,λx g y=>?_⟩;let⟨rfl,u⟩:=t D i a H x g b p y;unfold Li;dsimp only;rw[aK rfl];refine step D i a _ x e s b u p _ λy h o v=>?_;exact⟨a,n-(i+1),o,∅,∅,Z,b,a++[y],ZZ,by rw[zN,wQ];lia,v⟩
 ·let l:i=n:=∅
  subst l;exact .inl ⟨f D a H p,j D a H e p⟩
theorem Af{J:It}{n:Nat}{s:TT}(c:Nat->V->Prop)(d:V->Bool)(f:ai->Nat->je->Hp->Prop)(C:n<ao)(l:∀ D i a H,i<n->f D i a H->J.go i H)(z:∀ D i a H x j,i<n->f D i a H->J.yld i H x j->j=H/\c i x)(g:∀ D a H,f D n a H->J.stop n H)(u:∀ D,H D=none->f D 0 [] (upd H D (.lst [])))(h:∀ D i a H x,i<n->c i x->f D i a H->∀ R:Bool->Hp->Prop,R (d x) H->s (Qw σ ix x) H R)(q:∀ D i a H x,H D=some (.lst a)->i<n->c i x->d x=true->f D i a H->f D (i+1) (a++[x]) (upd H D (.lst (a++[x]))))(A:∀ D i a H x,H D=some (.lst a)->i<n->c i x->d x=false->f D i a H->f D (i+1) a H)(k:∀ D a H,H D=some (.lst a)->f D n a H->Q (.ref D) H):WH J σ ix s (Uk 0) H Q:=by
 intro D v;exists λi m H=>m=n-i/\i<=n/\∃ a,H D=some (.lst a)/\a.length<=i/\f D i a H,⟨n,rfl,zE _,[],ZZ,zY _,u D v⟩;rintro i m H ⟨rfl,B,a,e,w,p⟩;by_cases b:i<n
 ·refine .inr ⟨l D i a H b p,λx j y=>?_⟩;let⟨rfl,o⟩:=z D i a H x j b p y;refine h D i a _ x b o p _ ?_
  cases r:d x with
  | true=>
   rw[aK rfl];exact⟨x,Z,a,n-(i+1),e,∅,∅,Z,b,a++[x],ZZ,by rw[zN,wQ];lia,q D i a _ x e b o r p⟩
  | false=>
   rw[aJ zW];exact⟨n-(i+1),∅,Z,b,a,e,sC w,A D i a _ x e b o r p⟩
 ·let t:i=n:=∅
  subst t;exact .inl ⟨g D a H p,k D a H e p⟩
end
end L2
namespace Tw
open PySem
inductive KT where
 | int (i:Int)
 | str (x:Str)
 | tup (l:List KT)
abbrev jl:=List KT
abbrev jF:=Option KT
mutual
def KT.depth:KT->Nat
 | .int _=>0
 | .str _=>0
 | .tup l=>1+jL l
def jL:jl->Nat
 | []=>0
 | t::r=>max t.depth (jL r)
end
mutual
def KT.size:KT->Nat
 | .int _=>1
 | .str _=>1
 | .tup l=>1+sizeL l
def sizeL:jl->Nat
 | []=>0
 | t::r=>t.size+sizeL r
end
def Ql(c:Nat):Bool:=decide (32<=c)&&decide (c<=126)
def Pg(x:Str):Bool:=decide (x.length<=40)&&x.cps.toList.all Ql
mutual
def KT.fits:KT->Nat->Bool
 | .int i,_=>decide (i.natAbs<10 ^ 60)
 | .str x,_=>Pg x
 | .tup l,r=>decide (0<r)&&(decide (l.length<=4)&&fitsL l (r-1))
def fitsL:jl->Nat->Bool
 | [],_=>true
 | t::l,r=>t.fits r&&fitsL l r
end
theorem Ls(r:Nat):∀ l:jl,fitsL l r=l.all λt=>t.fits r
 | []=>by simp[fitsL]
 | t::l=>by rw[fitsL,vI,Ls r l]
mutual
theorem UL:∀(t:KT)(r:Nat),t.fits r=true->t.depth<=r
 | .int _,r,_=>by rw[KT.depth];exact zE _
 | .str _,r,_=>by rw[KT.depth];exact zE _
 | .tup l,r,h=>by
  rw[KT.fits,zM,zM] at h;let⟨h1,_,h3⟩:=h;let h1':0<r:=of_decide_eq_true h1;have:=fitsL_depth l (r-1) h3;rw[KT.depth]
  lia
theorem fitsL_depth:∀(l:jl)(r:Nat),fitsL l r=true->jL l<=r
 | [],r,_=>by rw[jL];exact zE _
 | t::l,r,h=>by
  rw[fitsL,zM] at h;let a:=UL t r h.1;let b:=fitsL_depth l r h.2;rw[jL]
  lia
end
def KT.things:KT->jl
 | .tup l=>l
 | _=>[]
def below(l:jl):jl:=l.flatMap KT.things
end Tw
namespace Tw
open PySem PySem.Spec L2
structure ZA(P:ak)(w:ar)(K:zZ)(mg:jb)(jQ:aC)(k:Nat)(x:Str)(ps:jn)(sp:Sp):Prop where
 ex:∃ f fd,ZI P w K mg jQ ZM k f fd ps sp/\Zt K fd ps []/\yG K (.ref f)=true/\mg x=some (.ref f)
theorem Zc{X:Cx}{k:Nat}{x:Str}{q:jn}{h:Sp}{e:Expr}{a:jw}{t:TA}{p c:Pos}(D:ZA X.prog X.w X.K X.mg X.base k x q h)(n:ZU k X.A)(i:PA X (e::a) t)(l:Gl X x:=by rfl)(d:(x==("__debug__" : Str))=false:=by decide)(j:aq (e::a) X.env=(false,aF e X.env)::aq a X.env:=by rfl)(g:(aE c (aq a X.env)).any (·.1)=false:=by rfl):
  PE X (.Call (.Name x p) (e::a) [] c) (Ja h [] E0 t):=by
 let⟨f,r,F,b,o,m⟩:=D.ex;exact Dk F n l m o b .nil Z3 i d j g
mutual
def ZD(H:Hp):KT->V->Prop
 | .int i,v=>v=.int i
 | .str x,v=>v=.str x
 | .tup l,v=>∃ a vs,v=.ref a/\H a=some (.tup vs)/\jI H l vs
def jI(H:Hp):jl->je->Prop
 | [],vs=>vs=[]
 | t::l,vs=>∃ v r,vs=v::r/\ZD H t v/\jI H l r
end
def Z6(H c:Hp):Prop:=∀ b a,H b=some (.tup a)->c b=some (.tup a)
mutual
theorem ZD.mono{H H':Hp}(m:Z6 H H'):∀(t:KT)(v:V),ZD H t v->ZD H' t v
 | .int _,_,h=>by rw[ZD] at h⊢;exact h
 | .str _,_,h=>by rw[ZD] at h⊢;exact h
 | .tup l,_,h=>by
  rw[ZD] at h⊢;let⟨a,vs,e,h1,h2⟩:=h;exact⟨a,vs,e,m a vs h1,jI.mono m l vs h2⟩
theorem jI.mono{H H':Hp}(m:Z6 H H'):∀(l:jl)(vs:je),jI H l vs->jI H' l vs
 | [],_,h=>by rw[jI] at h⊢;exact h
 | t::l,_,h=>by
  rw[jI] at h⊢;let⟨v,r,e,h1,h2⟩:=h;exact⟨v,r,e,ZD.mono m t v h1,jI.mono m l r h2⟩
end
def jI.nil{H:Hp}:jI H [] []:=by rw[jI]
def jI.cons{H:Hp}{t:KT}{l:jl}{v:V}{r:je}(h:ZD H t v)(a:jI H l r):jI H (t::l) (v::r):=by
 rw[jI];exact⟨v,r,Z,h,a⟩
theorem ZD.tup{H:Hp}{a:ai}{b:je}{l:jl}(e:H a=some (.tup b))(h:jI H l b):ZD H (.tup l) (.ref a):=by
 rw[ZD];exact⟨a,b,Z,e,h⟩
theorem ZD.int{H:Hp}(i:Int):ZD H (.int i) (.int i):=by rw[ZD]
theorem ZD.str{H:Hp}(x:Str):ZD H (.str x) (.str x):=by rw[ZD]
def jI.append{H:Hp}:∀{l m:jl}{a b:je},jI H l a->jI H m b->jI H (l++m) (a++b)
 | [],m,a,b,h,g=>by rw[jI] at h;subst h;exact g
 | t::l,m,a,b,h,g=>by
  rw[jI] at h;let⟨v,r,rfl,c,d⟩:=h;exact .cons c (d.append g)
def jI.length{H:Hp}:∀{l:jl}{a:je},jI H l a->l.length=a.length
 | [],a,h=>by rw[jI] at h;subst h;rfl
 | t::l,a,h=>by
  rw[jI] at h;let⟨v,r,rfl,_,b⟩:=h;rw[zR,zR,b.length]
def jI.get{H:Hp}:∀{l:jl}{a:je}{i:Nat}{v:V},jI H l a->a[i]? = some v->∃ t,l[i]? = some t/\ZD H t v
 | [],a,i,v,h,e=>by rw[jI] at h;subst h;simp at e
 | t::l,a,0,v,h,e=>by
  rw[jI] at h;let⟨j,r,rfl,d,_⟩:=h;simp at e;subst e;exact⟨t,Z,d⟩
 | t::l,a,i+1,v,h,e=>by
  rw[jI] at h;let⟨j,r,rfl,_,f⟩:=h;let⟨g,b,c⟩:=f.get (i:=i) (by simpa using e)
  exact⟨g,by simpa using b,c⟩
def jI.take{H:Hp}:∀{l:jl}{a:je}(n:Nat),jI H l a->jI H (l.take n) (a.take n)
 | l,a,0,_=>by simp only[List.take_zero];exact .nil
 | [],a,n+1,h=>by rw[jI] at h;subst h;exact .nil
 | t::l,a,n+1,h=>by
  rw[jI] at h;let⟨d,r,rfl,b,c⟩:=h;exact .cons b (c.take n)
def jI.drop{H:Hp}:∀{l:jl}{a:je}(n:Nat),jI H l a->jI H (l.drop n) (a.drop n)
 | l,a,0,h=>h
 | [],a,n+1,h=>by rw[jI] at h;subst h;exact .nil
 | t::l,a,n+1,h=>by
  rw[jI] at h;let⟨d,r,rfl,c,b⟩:=h;exact b.drop n
def KT.ty:KT->ah
 | .int _=>.type "int"
 | .str _=>.type "str"
 | .tup _=>.type "tuple"
theorem ZD.ty{H:Hp}{K:zZ}{t:KT}{v:V}(h:ZD H t v):XF K H v t.ty:=by
 cases t with
 | int i=>rw[ZD] at h;subst h;exact .int i
 | str x=>rw[ZD] at h;subst h;exact .str x
 | tup l=>rw[ZD] at h;let⟨a,b,rfl,e,_⟩:=h;exact .tup e
def ZH(p:ai)(H a:Hp):Prop:=∀ b o,H b=some o->b≠p->a b=some o
theorem ZH.refl(p:ai)(H:Hp):ZH p H H:=λ_ _ h _=>h
theorem ZH.trans{p:ai}{H d e:Hp}(a:ZH p H d)(b:ZH p d e):ZH p H e:=λc o h n=>b c o (a c o h n) n
theorem ZH.upd{p:ai}{H b:Hp}{o:HO}(a:ZH p H b):ZH p H (L2.upd b p o):=λc u h n=>by rw[ZS n];exact a c u h n
theorem ZH.of{p:ai}{H b:Hp}(a:ZE H b):ZH p H b:=λc o h _=>a c o h
theorem ZH.tups{p:ai}{H c:Hp}{d:je}(a:ZH p H c)(h:H p=some (.lst d)):Z6 H c:=λb f e=>a b _ e (ZW e h)
theorem ZE.tups{H c:Hp}(a:ZE H c):Z6 H c:=λb d e=>a b _ e
theorem ZD.sm{H a:Hp}{t:KT}{v:V}(h:ZD H t v)(s:ZE H a):ZD a t v:=h.mono (ZE.tups s) _ _
def jI.sm{H a:Hp}{t:jl}{v:je}(h:jI H t v)(s:ZE H a):jI a t v:=h.mono (ZE.tups s) _ _
theorem Zv{H:Hp}{p:ai}(h:H p=none)(o:HO):ZE H (L2.upd H p o):=λb u q=>by rw[ZS (Zg q h)];exact q
structure ZO(H:Hp)(p:ai):Prop where
 ex:∃ a b c d:Int,H p=some (.lst [.int a,.int b,.int c,.int d])/\0<=a/\a<2147483647/\0<=c/\0<=d
theorem ZO.stay{H f:Hp}{p q:ai}(w:ZO H p)(s:ZH q H f)(n:p≠q):ZO f p:=by
 let⟨a,b,c,d,e,r⟩:=w.ex;exact⟨a,b,c,d,s p _ e n,r⟩
theorem ZO.same{H f:Hp}{p:ai}(w:ZO H p)(s:ZE H f):ZO f p:=by
 let⟨a,b,c,d,e,r⟩:=w.ex;exact⟨a,b,c,d,s p _ e,r⟩
theorem ZO.some{H:Hp}{p:ai}(w:ZO H p):∃ f,H p=yZ (.lst f):=by
 let⟨a,b,c,d,e,r⟩:=w.ex;exact⟨_,e⟩
theorem ZH.tupsW{p:ai}{H b:Hp}(a:ZH p H b)(w:ZO H p):Z6 H b:=by
 let⟨c,e⟩:=w.some;exact a.tups e
def Es(m:Int):Prop:=0<m/\m.natAbs.log2<9000
inductive Wf(K:zZ)(d:je)(H:Hp)(Q:VK)(_:XK):Prop
 |mk(a:ai)(c:jA)(k:Int)(_:d=[.ref a,.int k])(_:ZG K H a (c.map V.int))(_:c.length<=63)(_:0<=k)(_:k<=1000)(_:∀(p:ai)(b:Hp),H p=none->ZE H b->ZO b p->Q (.ref p) b)
inductive Zy(b:je)(H:Hp)(Q:VK)(_:XK):Prop
 |mk(p:ai)(m:Int)(_:b=[.ref p,.int m])(_:ZO H p)(_:Es m)(_:∀(r:Int)(a:Hp),0<=r->r<m->ZO a p->ZH p H a->Q (.int r) a)
inductive WV(b:je)(H:Hp)(Q:VK)(_:XK):Prop
 |mk(p:ai)(_:b=[.ref p])(_:ZO H p)(_:∀(x:Str)(a:Hp),Pg x=true->ZO a p->ZH p H a->Q (.str x) a)
inductive XW(n:Nat)(b:je)(H:Hp)(Q:VK)(_:XK):Prop
 |mk(p:ai)(r:Nat)(_:b=[.ref p,.int (r:Int)])(_:ZO H p)(_:r<n)(_:∀(v:V)(t:KT)(a:Hp),ZD a t v->t.fits r=true->ZO a p->ZH p H a->Q v a)
inductive QC(a:je)(H:Hp)(Q:VK)(_:XK):Prop
 |mk(i:Int)(_:a=[.int i])(_:Q (.bl (decide (i.natAbs<10 ^ 60))) H)
inductive VU(a:je)(H:Hp)(Q:VK)(_:XK):Prop
 |mk(c:Nat)(_:a=[.str ⟨#[c]⟩])(_:Q (.bl (Ql c)) H)
inductive QH(b:je)(H:Hp)(Q:VK)(_:XK):Prop
 |mk(v:V)(t:KT)(q:Nat)(_:b=[v])(_:ZD H t v)(_:t.fits q=true)(_:∀ a,ZE H a->Q (.bl (t.fits 3)) a)
inductive U6(K:zZ)(d:je)(H:Hp)(Q:VK)(_:XK):Prop
 |mk(a:ai)(b:jA)(_:d=[.ref a])(_:ZG K H a (b.map V.int))(_:b.length<=63)(_:∀ c,Q (.bl true) c)
theorem nn{n:Nat}(h:n<=1000):n<=sizeLine:=xM (XX h)
theorem YS{n:Nat}(h:Nat.ble n 1000=true:=by rfl):n<=sizeLine:=nn (yX h)
theorem MW{x y:V}{i:Int}(a:0<=i)(b:i<2):∃ v,WN [x,y] i=some v/\(v=x\/v=y):=by
 rcases(show i=0\/i=1 by lia) with e | e
 ·subst e;exact⟨x,Z,.inl Z⟩
 ·subst e;exact⟨y,Z,.inr Z⟩
theorem NA{b:Type}{xs:List b}{i:Int}(c:0<=i)(d:i<(xs.length:Int)):∃ v,WN xs i=some v/\v∈xs:=by
 let a:i.toNat<xs.length:=∅
 let e:i=((i.toNat:Nat):Int):=∅
 rw[e];exact⟨xs[i.toNat],XH (zQ a),xI a⟩
theorem Wv{m:Int}(a:0<m)(b:m.natAbs<2 ^ 250):Es m:=by
 exists a;have:m.natAbs.log2<250:=(Nat.log2_lt ∅).mpr b
 lia
theorem N7{i j:Int}(h:V.int i=V.int j):i=j:=by injection h
theorem ZKa(c:Nat):((!decide ([c]<[32])) && !decide ([126]<[c]))=Ql c:=by
 unfold Ql;let a:([c]<[32]) ↔ c<32:=by simp[uY]
 let b:([126]<[c]) ↔ 126<c:=by simp[uY]
 rw[wU];simp only[zM,Bool.not_eq_true',decide_eq_false_iff_not,decide_eq_true_eq,a,b]
 lia
theorem BQ(i:Int):decide ((if i<0 then -i else i)<10 ^ (60:Int).toNat)=decide (i.natAbs<10 ^ 60):=by
 let e:((10:Int) ^ (60:Int).toNat)=((10 ^ 60:Nat):Int):=by decide +kernel
 rw[e];generalize (10 ^ 60:Nat)=N;apply decide_eq_decide.mpr;split <;> lia
end Tw
namespace Tw
open PySem
mutual
def KT.eqb:KT->KT->Bool
 | .int i,.int j=>i==j
 | .str x,.str y=>x==y
 | .tup l,.tup m=>jK l m
 | _,_=>false
def jK:jl->jl->Bool
 | [],[]=>true
 | a::l,b::m=>a.eqb b&&jK l m
 | _,_=>false
end
mutual
def KT.plt:KT->KT->Bool
 | .int i,.int j=>decide (i<j)
 | .str x,.str y=>decide (x.cps.toList<y.cps.toList)
 | .tup l,.tup m=>pltL l m
 | _,_=>false
def pltL:jl->jl->Bool
 | [],[]=>false
 | [],_::_=>true
 | _::_,[]=>false
 | a::l,b::m=>if a.eqb b=true then pltL l m else a.plt b
end
mutual
def KT.cmp:KT->KT->Bool
 | .int _,.int _=>true
 | .str _,.str _=>true
 | .tup l,.tup m=>cmpL l m
 | _,_=>false
def cmpL:jl->jl->Bool
 | [],_=>true
 | _::_,[]=>true
 | a::l,b::m=>if a.eqb b=true then cmpL l m else a.cmp b
end
def KT.kind:KT->Nat
 | .int _=>0
 | .str _=>1
 | .tup _=>2
mutual
def KT.lt:KT->KT->Bool
 | .int i,.int j=>decide (i<j)
 | .int _,.str _=>true
 | .int _,.tup _=>true
 | .str _,.int _=>false
 | .str x,.str y=>decide (x.cps.toList<y.cps.toList)
 | .str _,.tup _=>true
 | .tup _,.int _=>false
 | .tup _,.str _=>false
 | .tup l,.tup m=>ltL l m
def ltL:jl->jl->Bool
 | [],[]=>false
 | [],_::_=>true
 | _::_,[]=>false
 | a::l,b::m=>if a.eqb b=true then ltL l m else a.lt b
end
mutual
def KT.st:KT->KT
 | .int i=>.tup [.int 0,.int i]
 | .str x=>.tup [.int 1,.str x]
 | .tup l=>.tup [.int 2,.tup (stL l)]
def stL:jl->jl
 | []=>[]
 | t::l=>t.st::stL l
end
theorem Eg:∀ l:jl,stL l=l.map KT.st
 | []=>by rw[stL];rfl
 | t::l=>by rw[stL,Eg l];rfl
mutual
theorem US:∀(a b:KT),a.eqb b=true->a=b
 | .int i,.int j,h=>by rw[KT.eqb] at h;rw[eq_of_beq h]
 | .str x,.str y,h=>by rw[KT.eqb] at h;rw[eq_of_beq h]
 | .tup l,.tup m,h=>by rw[KT.eqb] at h;rw[eqbL_eq l m h]
 | .int _,.str _,h=>by simp[KT.eqb] at h
 | .int _,.tup _,h=>by simp[KT.eqb] at h
 | .str _,.int _,h=>by simp[KT.eqb] at h
 | .str _,.tup _,h=>by simp[KT.eqb] at h
 | .tup _,.int _,h=>by simp[KT.eqb] at h
 | .tup _,.str _,h=>by simp[KT.eqb] at h
theorem eqbL_eq:∀(l m:jl),jK l m=true->l=m
 | [],[],_=>rfl
 | a::l,b::m,h=>by
  rw[jK,zM] at h;rw[US a b h.1,eqbL_eq l m h.2]
 | [],_::_,h=>by simp[jK] at h
 | _::_,[],h=>by simp[jK] at h
end
mutual
theorem QF:∀ a:KT,a.eqb a=true
 | .int i=>by rw[KT.eqb];exact beq_self_eq_true i
 | .str x=>by rw[KT.eqb];exact beq_self_eq_true x
 | .tup l=>by rw[KT.eqb];exact eqbL_self l
theorem eqbL_self:∀ l:jl,jK l l=true
 | []=>by rw[jK]
 | a::l=>by rw[jK,QF a,eqbL_self l];rfl
end
theorem XL{a b:KT}:a.eqb b=true ↔ a=b:=⟨US a b,λe=>by rw[e];exact QF b⟩
mutual
theorem Hj:∀ a b:KT,a.st.eqb b.st=a.eqb b
 | .int i,.int j=>by simp[KT.st,KT.eqb,jK]
 | .str x,.str y=>by simp[KT.st,KT.eqb,jK]
 | .tup l,.tup m=>by simp[KT.st,KT.eqb,jK,eqbL_st l m]
 | .int _,.str _=>by simp[KT.st,KT.eqb,jK]
 | .int _,.tup _=>by simp[KT.st,KT.eqb,jK]
 | .str _,.int _=>by simp[KT.st,KT.eqb,jK]
 | .str _,.tup _=>by simp[KT.st,KT.eqb,jK]
 | .tup _,.int _=>by simp[KT.st,KT.eqb,jK]
 | .tup _,.str _=>by simp[KT.st,KT.eqb,jK]
theorem eqbL_st:∀ l m:jl,jK (stL l) (stL m)=jK l m
 | [],[]=>by simp[stL,jK]
 | a::l,b::m=>by simp[stL,jK,Hj a b,eqbL_st l m]
 | [],_::_=>by simp[stL,jK]
 | _::_,[]=>by simp[stL,jK]
end
theorem GG:∀ l:jl,ltL l l=false
 | []=>by rw[ltL]
 | a::l=>by rw[ltL,QF a,aK rfl,GG l]
theorem Dt{l m:jl}(h:jK l m=true):ltL l m=false:=by
 rw[eqbL_eq l m h];exact GG m
mutual
theorem FZ:∀ a b:KT,a.st.cmp b.st=true
 | .int i,.int j=>by simp[KT.st,KT.eqb,KT.cmp,cmpL]
 | .str x,.str y=>by simp[KT.st,KT.eqb,KT.cmp,cmpL]
 | .tup l,.tup m=>by simp[KT.st,KT.eqb,KT.cmp,cmpL,cmpL_st l m]
 | .int _,.str _=>by simp[KT.st,KT.eqb,KT.cmp,cmpL]
 | .int _,.tup _=>by simp[KT.st,KT.eqb,KT.cmp,cmpL]
 | .str _,.int _=>by simp[KT.st,KT.eqb,KT.cmp,cmpL]
 | .str _,.tup _=>by simp[KT.st,KT.eqb,KT.cmp,cmpL]
 | .tup _,.int _=>by simp[KT.st,KT.eqb,KT.cmp,cmpL]
 | .tup _,.str _=>by simp[KT.st,KT.eqb,KT.cmp,cmpL]
theorem cmpL_st:∀ l m:jl,cmpL (stL l) (stL m)=true
 | [],_=>by simp[stL,cmpL]
 | _::_,[]=>by simp[stL,cmpL]
 | a::l,b::m=>by
  rw[stL,stL,cmpL,cmpL_st l m,FZ a b];split <;> rfl
end
mutual
theorem GE:∀ a b:KT,a.st.plt b.st=a.lt b
 | .int i,.int j=>by
  simp only[KT.st,KT.eqb,KT.plt,pltL,KT.lt,beq_self_eq_true,if_true];by_cases h:i=j
  ·subst h;simp
  ·simp[h]
 | .str x,.str y=>by
  simp only[KT.st,KT.eqb,KT.plt,pltL,KT.lt,beq_self_eq_true,if_true];by_cases h:x=y
  ·subst h;simp
  ·simp[h]
 | .tup l,.tup m=>by
  simp only[KT.st,KT.eqb,KT.plt,pltL,KT.lt,beq_self_eq_true,if_true,eqbL_st,pltL_st l m]
  cases h:jK l m with
  | true=>rw[aK rfl,Dt h]
  | false=>rw[aJ zW]
 | .int _,.str _=>by simp[KT.st,KT.eqb,KT.plt,pltL,KT.lt]
 | .int _,.tup _=>by simp[KT.st,KT.eqb,KT.plt,pltL,KT.lt]
 | .str _,.int _=>by simp[KT.st,KT.eqb,KT.plt,pltL,KT.lt]
 | .str _,.tup _=>by simp[KT.st,KT.eqb,KT.plt,pltL,KT.lt]
 | .tup _,.int _=>by simp[KT.st,KT.eqb,KT.plt,pltL,KT.lt]
 | .tup _,.str _=>by simp[KT.st,KT.eqb,KT.plt,pltL,KT.lt]
theorem pltL_st:∀ l m:jl,pltL (stL l) (stL m)=ltL l m
 | [],[]=>by simp[stL,pltL,ltL]
 | [],_::_=>by simp[stL,pltL,ltL]
 | _::_,[]=>by simp[stL,pltL,ltL]
 | a::l,b::m=>by rw[stL,stL,pltL,ltL,Hj a b,pltL_st l m,GE a b]
end
mutual
theorem D7:∀ t:KT,t.st.depth<=2 * t.depth+1
 | .int i=>by simp[KT.st,KT.depth,jL]
 | .str x=>by simp[KT.st,KT.depth,jL]
 | .tup l=>by
  have:=depthL_st l;simp only[KT.st,KT.depth,jL]
  lia
theorem depthL_st:∀ l:jl,jL (stL l)<=2 * jL l+1
 | []=>by simp[stL,jL]
 | t::l=>by
  let a:=D7 t;let b:=depthL_st l;rw[stL,jL,jL]
  lia
end
theorem ZNS{x:Str}(h:Pg x=true):x.cps.size<=40/\x.cps.toList.all Ql=true:=by
 unfold Pg at h;rw[zM] at h;exact⟨of_decide_eq_true h.1,h.2⟩
theorem EH:∀(l m:jj),l<m->¬ m<l
 | [],[],h,_=>absurd h (vF _)
 | [],_::_,_,h=>absurd h (vF _)
 | _::_,[],h,_=>absurd h (vF _)
 | a::l,b::m,h,c=>by
  rw[uY] at h c;rcases h with h | ⟨rfl,h⟩
  ·rcases c with c | ⟨rfl,c⟩
   ·lia
   ·lia
  ·rcases c with c | ⟨_,c⟩
   ·lia
   ·exact EH l m h c
theorem EV:∀(l m:jj),¬ l<m->¬ m<l->l=m
 | [],[],_,_=>rfl
 | [],_::_,h,_=>absurd (tL _ _) h
 | _::_,[],_,h=>absurd (tL _ _) h
 | a::l,b::m,h,h'=>by
  rw[uY] at h h';let e:a=b:=by
   rcases Nat.lt_trichotomy a b with c | c | c
   ·exact absurd (.inl c) h
   ·exact c
   ·exact absurd (.inl c) h'
  subst e;rw[EV l m (λz=>h (.inr ⟨rfl,z⟩)) λz=>h' (.inr ⟨rfl,z⟩)]
theorem GW:∀(l m k:jj),l<m->m<k->l<k
 | _,_,[],_,h=>absurd h (vF _)
 | [],_,_::_,_,_=>tL _ _
 | _::_,[],_,h,_=>absurd h (vF _)
 | a::l,b::m,c::k,h,d=>by
  rw[uY] at h d⊢;rcases h with h | ⟨rfl,h⟩
  ·rcases d with d | ⟨rfl,d⟩
   ·exact .inl (Nat.lt_trans h d)
   ·exact .inl h
  ·rcases d with d | ⟨rfl,d⟩
   ·exact .inl d
   ·exact .inr ⟨Z,GW l m k h d⟩
theorem eqb_comm'(a b:KT):a.eqb b=b.eqb a:=by
 rw[wU,XL,XL];exact eq_comm
mutual
theorem Pm:∀(a b:KT),a.lt b=true->b.lt a=false
 | .int i,.int j,h=>by rw[KT.lt] at h⊢;have:=of_decide_eq_true h;exact aH ∅
 | .int _,.str _,_=>by rw[KT.lt]
 | .int _,.tup _,_=>by rw[KT.lt]
 | .str _,.int _,h=>by rw[KT.lt] at h;cases h
 | .str x,.str y,h=>by rw[KT.lt] at h⊢;exact aH (EH _ _ (of_decide_eq_true h))
 | .str _,.tup _,_=>by rw[KT.lt]
 | .tup _,.int _,h=>by rw[KT.lt] at h;cases h
 | .tup _,.str _,h=>by rw[KT.lt] at h;cases h
 | .tup l,.tup m,h=>by rw[KT.lt] at h⊢;exact ltL_asym l m h
theorem ltL_asym:∀(l m:jl),ltL l m=true->ltL m l=false
 | [],[],h=>by rw[ltL] at h;cases h
 | [],_::_,_=>by rw[ltL]
 | _::_,[],h=>by rw[ltL] at h;cases h
 | a::l,b::m,h=>by
  rw[ltL] at h⊢;rw[eqb_comm' b a]
  cases e:a.eqb b with
  | true=>rw[e,aK rfl] at h;rw[aK rfl];exact ltL_asym l m h
  | false=>rw[e,aJ zW] at h;rw[aJ zW];exact Pm a b h
end
mutual
theorem Ly:∀(a b:KT),a.lt b=false->b.lt a=false->a=b
 | .int i,.int j,h,h'=>by rw[KT.lt] at h h';have:=of_decide_eq_false h;have:=of_decide_eq_false h';rw[show i=j by lia]
 | .int _,.str _,h,_=>by rw[KT.lt] at h;cases h
 | .int _,.tup _,h,_=>by rw[KT.lt] at h;cases h
 | .str _,.int _,_,h=>by rw[KT.lt] at h;cases h
 | .str x,.str y,h,h'=>by
  rw[KT.lt] at h h';let e:=EV _ _ (of_decide_eq_false h) (of_decide_eq_false h');let⟨⟨x⟩⟩:=x;let⟨⟨y⟩⟩:=y;dsimp only at e;rw[e]
 | .str _,.tup _,h,_=>by rw[KT.lt] at h;cases h
 | .tup _,.int _,_,h=>by rw[KT.lt] at h;cases h
 | .tup _,.str _,_,h=>by rw[KT.lt] at h;cases h
 | .tup l,.tup m,h,h'=>by rw[KT.lt] at h h';rw[ltL_total l m h h']
theorem ltL_total:∀(l m:jl),ltL l m=false->ltL m l=false->l=m
 | [],[],_,_=>rfl
 | [],_::_,h,_=>by rw[ltL] at h;cases h
 | _::_,[],_,h=>by rw[ltL] at h;cases h
 | a::l,b::m,h,h'=>by
  rw[ltL] at h h';rw[eqb_comm' b a] at h'
  cases e:a.eqb b with
  | true=>rw[e,aK rfl] at h h';rw[XL.mp e,ltL_total l m h h']
  | false=>
   rw[e,aJ zW] at h h';have:=Ly a b h h';rw[this,QF] at e;cases e
end
theorem V9(a:KT):a.lt a=false:=by
 cases h:a.lt a with
 | false=>rfl
 | true=>have:=Pm a a h;rw[h] at this;cases this
mutual
theorem lt_trans':∀(a b c:KT),a.lt b=true->b.lt c=true->a.lt c=true
 | .int i,.int j,.int k,h,h'=>by rw[KT.lt] at h h'⊢;have:=of_decide_eq_true h;have:=of_decide_eq_true h';exact aI ∅
 | .int _,_,.str _,_,_=>by rw[KT.lt]
 | .int _,_,.tup _,_,_=>by rw[KT.lt]
 | .str _,_,.tup _,_,_=>by rw[KT.lt]
 | .int _,.str _,.int _,_,h=>by rw[KT.lt] at h;cases h
 | .int _,.tup _,.int _,_,h=>by rw[KT.lt] at h;cases h
 | .str _,.int _,_,h,_=>by rw[KT.lt] at h;cases h
 | .str x,.str y,.str z,h,h'=>by rw[KT.lt] at h h'⊢;exact aI (GW _ _ _ (of_decide_eq_true h) (of_decide_eq_true h'))
 | .str _,.str _,.int _,_,h=>by rw[KT.lt] at h;cases h
 | .str _,.tup _,.str _,_,h=>by rw[KT.lt] at h;cases h
 | .str _,.tup _,.int _,_,h=>by rw[KT.lt] at h;cases h
 | .tup _,.int _,_,h,_=>by rw[KT.lt] at h;cases h
 | .tup _,.str _,_,h,_=>by rw[KT.lt] at h;cases h
 | .tup l,.tup m,.tup k,h,h'=>by rw[KT.lt] at h h'⊢;exact ltL_trans l m k h h'
 | .tup _,.tup _,.int _,_,h=>by rw[KT.lt] at h;cases h
 | .tup _,.tup _,.str _,_,h=>by rw[KT.lt] at h;cases h
theorem ltL_trans:∀(l m k:jl),ltL l m=true->ltL m k=true->ltL l k=true
 | _,[],[],_,h=>by rw[ltL] at h;cases h
 | _,_::_,[],_,h=>by rw[ltL] at h;cases h
 | [],_,_::_,_,_=>by rw[ltL]
 | _::_,[],_::_,h,_=>by rw[ltL] at h;cases h
 | a::l,b::m,c::k,h,h'=>by
  rw[ltL] at h h'⊢
  cases e:a.eqb b with
  | true=>
   rw[e,aK rfl] at h;let ab:=XL.mp e;subst ab
   cases e2:a.eqb c with
   | true=>rw[e2,aK rfl] at h';rw[aK rfl];exact ltL_trans l m k h h'
   | false=>rw[e2,aJ zW] at h';rw[aJ zW];exact h'
  | false=>
   rw[e,aJ zW] at h
   cases e2:b.eqb c with
   | true=>
    let bc:=XL.mp e2;subst bc;rw[e,aJ zW];exact h
   | false=>
    rw[e2,aJ zW] at h';let ac:=lt_trans' a b c h h'
    cases e3:a.eqb c with
    | true=>
     have:=XL.mp e3;subst this;rw[V9] at ac;cases ac
    | false=>rw[aJ zW];exact ac
end
theorem le_trans'{a b c:KT}(f:b.lt a=false)(d:c.lt b=false):c.lt a=false:=by
 cases h:c.lt a with
 | false=>rfl
 | true=>
  cases e:a.lt b with
  | true=>rw[lt_trans' c a b h e] at d;cases d
  | false=>rw[Ly a b e f,d] at h;cases h
theorem LO{a b c:KT}(e:b.lt a=false)(d:b.lt c=true):a.lt c=true:=by
 cases h:a.lt c with
 | true=>rfl
 | false=>rw[le_trans' h e] at d;cases d
end Tw
namespace Tw
open PySem PySem.Spec L2 PyProof.Rows
mutual
def ZJ(h:aC):KT->ah->Prop
 | .int i,v=>∃ t,v=.int i t
 | .str x,v=>∃ t,v=.str x t
 | .tup l,v=>∃(a:ai)(its:jd),v=.ref a/\IsTup h a its.toArray/\jJ h l its
def jJ(h:aC):jl->jd->Prop
 | [],vs=>vs=[]
 | t::l,vs=>∃ v r,vs=v::r/\ZJ h t v/\jJ h l r
end
section
variable{jP:jo}{σ:L2.St}{H:Hp}
mutual
theorem VX(I:ZF X jP σ H s):∀(t:KT)(x:V)(v:ah),ZD H t x->ZN x v->ZJ s.heap t v
 | .int i,x,v,h,r=>by
  rw[ZD] at h;subst h;rw[ZJ];exact r
 | .str y,x,v,h,r=>by
  rw[ZD] at h;subst h;rw[ZJ];exact r
 | .tup l,x,v,h,r=>by
  rw[ZD] at h;let⟨a,vs,rfl,e,hk⟩:=h;let⟨its,rv,pl,_⟩:=I.tuple (Zs.of e);rw[ZJ];exact⟨a,its,r,pl,kvals_of I l vs its hk rv⟩
theorem kvals_of(I:ZF X jP σ H s):∀(l:jl)(vs:je)(us:jd),jI H l vs->ZQ vs us->jJ s.heap l us
 | [],vs,us,h,r=>by
  rw[jI] at h;subst h;rw[jJ];cases r;rfl
 | t::l,vs,us,h,r=>by
  rw[jI] at h;let⟨v,q,rfl,h1,h2⟩:=h
  cases r with
  | cons r1 r2=>
   rw[jJ];exact⟨_,_,Z,VX I t v _ h1 r1,kvals_of I l q _ h2 r2⟩
end
end
theorem ZJM{h:aC}{a:ai}{c b:jd}(x:IsTup h a c.toArray)(y:IsTup h a b.toArray):c=b:=by
 let⟨o,e,_,n,d⟩:=x;let⟨j,g,_,i,f⟩:=y;rw[e] at g;cases g;rw[d] at f;injection f with d1 _;simpa using congrArg tU d1
mutual
theorem ZJ.inj{h:aC}:∀(a b:KT)(v:ah),ZJ h a v->ZJ h b v->a.eqb b=true
 | .int i,b,v,x,y=>by
  rw[ZJ] at x;let⟨t,rfl⟩:=x
  cases b with
  | int j=>rw[ZJ] at y;let⟨u,e⟩:=y;injection e with e _;rw[KT.eqb,e];exact beq_self_eq_true j
  | str z=>rw[ZJ] at y;let⟨u,e⟩:=y;cases e
  | tup m=>rw[ZJ] at y;let⟨_,_,e,_⟩:=y;cases e
 | .str w,b,v,x,y=>by
  rw[ZJ] at x;let⟨t,rfl⟩:=x
  cases b with
  | int j=>rw[ZJ] at y;let⟨u,e⟩:=y;cases e
  | str z=>rw[ZJ] at y;let⟨u,e⟩:=y;injection e with e _;rw[KT.eqb,e];exact beq_self_eq_true z
  | tup m=>rw[ZJ] at y;let⟨_,_,e,_⟩:=y;cases e
 | .tup l,b,v,x,y=>by
  rw[ZJ] at x;let⟨p,its,rfl,px,kx⟩:=x
  cases b with
  | int j=>rw[ZJ] at y;let⟨u,e⟩:=y;cases e
  | str z=>rw[ZJ] at y;let⟨u,e⟩:=y;cases e
  | tup m=>
   rw[ZJ] at y;let⟨q,its',e,py,ky⟩:=y;cases e;cases ZJM px py;rw[KT.eqb];exact jJ.inj l m its kx ky
theorem jJ.inj{h:aC}:∀(l m:jl)(us:jd),jJ h l us->jJ h m us->jK l m=true
 | [],m,us,x,y=>by
  rw[jJ] at x;subst x
  cases m with
  | nil=>rw[jK]
  | cons b m=>rw[jJ] at y;let⟨_,_,e,_⟩:=y;cases e
 | a::l,m,us,x,y=>by
  rw[jJ] at x;let⟨v,r,rfl,x1,x2⟩:=x
  cases m with
  | nil=>rw[jJ] at y;cases y
  | cons b m=>
   rw[jJ] at y;let⟨v',r',e,y1,y2⟩:=y;injection e with e1 e2;subst e1 e2;rw[jK,ZJ.inj a b v x1 y1,jJ.inj l m r x2 y2];rfl
end
def jJ.length{h:aC}:∀{l:jl}{b:jd},jJ h l b->l.length=b.length
 | [],b,x=>by rw[jJ] at x;subst x;rfl
 | a::l,b,x=>by
  rw[jJ] at x;let⟨v,r,rfl,_,c⟩:=x;rw[zR,zR,c.length]
def jJ.get{h:aC}:∀{l:jl}{b:jd}{j:Nat}{u:ah},jJ h l b->b[j]? = some u->∃ t,l[j]? = some t/\ZJ h t u
 | [],b,j,u,x,e=>by rw[jJ] at x;subst x;simp at e
 | a::l,b,0,u,x,e=>by
  rw[jJ] at x;let⟨v,r,rfl,f,_⟩:=x;simp at e;subst e;exact⟨a,Z,f⟩
 | a::l,b,j+1,u,x,e=>by
  rw[jJ] at x;let⟨v,r,rfl,_,g⟩:=x;let⟨t,c,d⟩:=g.get (j:=j) (by simpa using e)
  exact⟨t,by simpa using c,d⟩
theorem Pu:∀{l:jl}{t:KT},t∈l->t.depth<=jL l
 | [],_,h=>by cases h
 | u::l,t,h=>by
  rw[jL];rcases zU.mp h with e | h
  ·subst e;lia
  ·have:=Pu h;lia
theorem Pe:∀(l m:jl),((yJ (min l.length m.length)).all (λj=>(l.getD j (.int 0)).eqb (m.getD j (.int 0)))&&l.length==m.length)=jK l m
 | [],[]=>by simp[jK]
 | [],_::_=>by simp[jK]
 | _::_,[]=>by simp[jK]
 | a::l,b::m=>by
  let c:=Pe l m;let e:min (a::l).length (b::m).length=min l.length m.length+1:=by simp only[zR];lia
  rw[e,List.range_succ_eq_map,vI,vR,jK,<-c,Bool.and_assoc];simp[Function.comp_def]
theorem Pn{s:aj}:∀(n:Nat)(a b:KT)(A:aw)(v u:ah),a.depth<=n->ZJ s.heap a v->ZJ s.heap b u->A.units+a.depth<cLine->SeqAt.EqAt A s v u (a.eqb b)
 | n,.int i,b,A,v,u,_,x,y,o=>by
  rw[ZJ] at x;let⟨t,rfl⟩:=x;let d:A.units<cLine:=∅
  cases b with
  | int j=>rw[ZJ] at y;let⟨g,rfl⟩:=y;rw[KT.eqb];exact SeqAt.EqAt.int_int i t j g
  | str z=>rw[ZJ] at y;let⟨g,rfl⟩:=y;rw[show (KT.int i).eqb (.str z)=false by simp[KT.eqb]];exact SeqAt.EqAt.int_str i t z g
  | tup m=>rw[ZJ] at y;let⟨p,f,rfl,k,_⟩:=y;rw[show (KT.int i).eqb (.tup m)=false by simp[KT.eqb]];exact SeqAt.EqAt.int_tuple i t k d
 | n,.str w,b,A,v,u,_,x,y,o=>by
  rw[ZJ] at x;let⟨t,rfl⟩:=x;let d:A.units<cLine:=∅
  cases b with
  | int j=>rw[ZJ] at y;let⟨g,rfl⟩:=y;rw[show (KT.str w).eqb (.int j)=false by simp[KT.eqb]];exact SeqAt.EqAt.str_int w t j g
  | str z=>rw[ZJ] at y;let⟨g,rfl⟩:=y;rw[KT.eqb];exact SeqAt.EqAt.str_str w t z g
  | tup m=>rw[ZJ] at y;let⟨p,f,rfl,k,_⟩:=y;rw[show (KT.str w).eqb (.tup m)=false by simp[KT.eqb]];exact SeqAt.EqAt.str_tuple w t k d
 | 0,.tup l,b,A,v,u,C,x,y,o=>by
  rw[KT.depth] at C
  lia
 | n+1,.tup l,b,A,v,u,C,x,y,o=>by
  let U:=x;rw[ZJ] at x;let⟨p,f,rfl,D,G⟩:=x;rw[KT.depth] at C o;let d:A.units<cLine:=∅
  cases b with
  | int j=>rw[ZJ] at y;let⟨g,rfl⟩:=y;rw[show (KT.tup l).eqb (.int j)=false by simp[KT.eqb]];exact SeqAt.EqAt.tuple_int j g D d
  | str z=>rw[ZJ] at y;let⟨g,rfl⟩:=y;rw[show (KT.tup l).eqb (.str z)=false by simp[KT.eqb]];exact SeqAt.EqAt.tuple_str z g D d
  | tup m=>
   let V:=y;rw[ZJ] at y;let⟨q,c,rfl,k,H⟩:=y;by_cases h:p=q
   ·subst h;rw[ZJ.inj _ _ _ U V];exact SeqAt.EqAt.same _
   ·let S:=G.length;let T:=H.length;let I:=SeqAt.RcAt.tuples (A:=A) (s:=s) (e:=λj=>(l.getD j (.int 0)).eqb (m.getD j (.int 0))) D k d (λj O P=>by
     let r:j<f.length:=by simpa using O
     let B:j<c.length:=by simpa using P
     let⟨E,F,Q⟩:=G.get (j:=j) (u:=f[j]) (by simp[r])
     let⟨J,K,R⟩:=H.get (j:=j) (u:=c[j]) (by simp[B])
     let W:=Pu (zL F);let M:l.getD j (.int 0)=E:=by rw[zV,F];rfl
     let N:m.getD j (.int 0)=J:=by rw[zV,K];rfl
     have:=Pn n E J A.in1 f[j] c[j] ∅ Q R (by show A.units+1+E.depth<cLine;lia)
     show SeqAt.EqAt A.in1 s _ _ ((l.getD j (.int 0)).eqb (m.getD j (.int 0)));rw[M,N];simpa using this)
    let L:((yJ (min f.toArray.size c.toArray.size)).all (λj=>(l.getD j (.int 0)).eqb (m.getD j (.int 0)))&&f.toArray.size==c.toArray.size)=(KT.tup l).eqb (.tup m):=by
     rw[zJ,zJ,<-S,<-T,KT.eqb];exact Pe l m
    rw[L] at I;exact .of_refs h I
theorem AA{s:aj}(a b:KT)(A:aw)(v u:ah)(x:ZJ s.heap a v)(y:ZJ s.heap b u)(M:A.units+a.depth<cLine):SeqAt.RcNeAt A s v u (!a.eqb b):=by
 let f:A.units<cLine:=∅
 cases a with
 | int i=>
  rw[ZJ] at x;let⟨t,rfl⟩:=x
  cases b with
  | int j=>rw[ZJ] at y;let⟨g,rfl⟩:=y;rw[KT.eqb];exact SeqAt.RcNeAt.int_int i t j g
  | str z=>rw[ZJ] at y;let⟨g,rfl⟩:=y;rw[show (KT.int i).eqb (.str z)=false by simp[KT.eqb]];exact SeqAt.RcNeAt.int_str i t z g
  | tup m=>rw[ZJ] at y;let⟨p,d,rfl,h,_⟩:=y;rw[show (KT.int i).eqb (.tup m)=false by simp[KT.eqb]];exact SeqAt.RcNeAt.int_tuple i t h f
 | str w=>
  rw[ZJ] at x;let⟨t,rfl⟩:=x
  cases b with
  | int j=>rw[ZJ] at y;let⟨g,rfl⟩:=y;rw[show (KT.str w).eqb (.int j)=false by simp[KT.eqb]];exact SeqAt.RcNeAt.str_int w t j g
  | str z=>rw[ZJ] at y;let⟨g,rfl⟩:=y;rw[KT.eqb];exact SeqAt.RcNeAt.str_str w t z g
  | tup m=>rw[ZJ] at y;let⟨p,d,rfl,h,_⟩:=y;rw[show (KT.str w).eqb (.tup m)=false by simp[KT.eqb]];exact SeqAt.RcNeAt.str_tuple w t h f
 | tup l=>
  rw[ZJ] at x;let⟨p,d,rfl,r,C⟩:=x;rw[KT.depth] at M
  cases b with
  | int j=>rw[ZJ] at y;let⟨g,rfl⟩:=y;rw[show (KT.tup l).eqb (.int j)=false by simp[KT.eqb]];exact SeqAt.RcNeAt.tuple_int j g r f
  | str z=>rw[ZJ] at y;let⟨g,rfl⟩:=y;rw[show (KT.tup l).eqb (.str z)=false by simp[KT.eqb]];exact SeqAt.RcNeAt.tuple_str z g r f
  | tup m=>
   rw[ZJ] at y;let⟨q,c,rfl,h,D⟩:=y;let P:=C.length;let Q:=D.length;let E:=SeqAt.RcNeAt.tuples (A:=A) (s:=s) (e:=λj=>(l.getD j (.int 0)).eqb (m.getD j (.int 0))) r h f (λj K L=>by
    let n:j<d.length:=by simpa using K
    let o:j<c.length:=by simpa using L
    let⟨k,B,N⟩:=C.get (j:=j) (u:=d[j]) (by simp[n])
    let⟨F,G,O⟩:=D.get (j:=j) (u:=c[j]) (by simp[o])
    let R:=Pu (zL B);let I:l.getD j (.int 0)=k:=by rw[zV,B];rfl
    let J:m.getD j (.int 0)=F:=by rw[zV,G];rfl
    have:=Pn k.depth k F A.in1 d[j] c[j] (zY _) N O (by show A.units+1+k.depth<cLine;lia)
    show SeqAt.EqAt A.in1 s _ _ ((l.getD j (.int 0)).eqb (m.getD j (.int 0)));rw[I,J];simpa using this)
   let H:((yJ (min d.toArray.size c.toArray.size)).all (λj=>(l.getD j (.int 0)).eqb (m.getD j (.int 0)))&&d.toArray.size==c.toArray.size)=(KT.tup l).eqb (.tup m):=by
    rw[zJ,zJ,<-P,<-Q,KT.eqb];exact Pe l m
   rw[H] at E;exact E
def QZ(o:Bool)(a b:KT):Bool:=bif o then !b.plt a else a.plt b
def Pd(o:Bool)(l m:jl):Bool:=bif o then !pltL m l else pltL l m
theorem ZLZ{o:Bool}{a c:KT}{l m:jl}:Pd o (a::l) (c::m)=if a.eqb c=true then Pd o l m else QZ o a c:=by
 unfold Pd QZ;rw[pltL,pltL,eqb_comm' c a];cases o <;> cases a.eqb c <;> rfl
theorem AJ{o:Bool}{l m:jl}{i j:Nat}(h:l=[]\/m=[])(e:l.length+j=m.length+i):Pd o l m=bif o then decide (i<=j) else decide (i<j):=by
 rcases h with rfl | rfl
 ·cases m <;> cases o <;> simp[Pd,pltL] at e⊢ <;> lia
 ·cases l <;> cases o <;> simp[Pd,pltL] at e⊢ <;> lia
def Le(o:Bool)(A:aw)(s:aj)(v u:ah)(b:Bool):Prop:=
 ∀(a:ak)(w:ar)(E:ja)(Q:ja),Q (.bool b) s->aA (az a w) A (richCompare (bif o then .LtE else .Lt) v u) Q E s
section
open PySem.SeqAt
open PySem.AutoSeq1 (wpAny_loadPart')
open PySem.MeetsSeq PySem.MeetsSeq2 PySem.MeetsSeq3
inductive Fc(c:aC)(d:jl)(n m:Nat)(G:jl->jl->Prop)(rest:List (ah×ah)):Prop
 |mk(e f:jd)(a b:jl):rest=e.zip f->jJ c a e->jJ c b f->(∀ x∈a,x∈d)->cmpL a b=true->a.length+m=b.length+n->G a b->Fc c d n m G rest
theorem Ae(o:Bool)(l b:ai)(f e:js)(n n2:Nat)(dd K:ju)(sl O:Array (jc))(D J:jl):
  Meets ((bif o then Builtin.«tuple.__le__» else Builtin.«tuple.__lt__») ⟨[.ref l,.ref b],[]⟩)
   (λA R s=>s.heap.get? l=some { cls:=.type "tuple",dict:=dd,data:=.seq f n,slots:=sl }/\s.heap.get? b=some { cls:=.type "tuple",dict:=K,data:=.seq e n2,slots:=O } /\
    jJ s.heap D f.toList/\jJ s.heap J e.toList/\cmpL D J=true /\
    (∀ x y v u,x∈D->ZJ s.heap x v->ZJ s.heap y u->EqAt A.in1 s v u (x.eqb y))/\(∀ x y v u,x∈D->ZJ s.heap x v->ZJ s.heap y u->x.cmp y=true->Le o A.in1 s v u (QZ o x y)) /\
    R (.ok (.ret (.bool (Pd o D J)))) s):=by
 let P:=@ZLZ o;let Q:=@AJ o;generalize Pd o=F at P Q⊢;cases o
 all_goals
  dsimp only[cond_true,cond_false];refine .of_wp λC w A R s h=>?_;let⟨L,g,d,Y,X⟩:=s;let⟨hl,hb,S,T,hc,hE,hL,h⟩:=h;let f2:=AutoSeq1.sub_tuple_tuple;let z1:f.size=D.length:=by rw[S.length];simp
  let z2:e.size=J.length:=by rw[T.length];simp
  wp_walk using wpAny_loadPart' hl,wpAny_loadPart' hb,wpAny_forIn_list _ (λrest b N=>b.1=none/\N=⟨L,g,d,Y,X⟩/\Fc L D f.size e.size (λa b=>R (.ok (.ret (.bool (F a b)))) ⟨L,g,d,Y,X⟩) rest) _
  case turn=>
   rintro⟨y,x⟩ rest b N ⟨E,rfl,vs,ws,q,r,p,i,j,t,k,m,B⟩
   cases q with
   | nil=>rw[jJ] at i;subst i;rw[List.zip_nil_left] at p;cases p
   | cons a q=>
    cases r with
    | nil=>rw[jJ] at j;subst j;rw[List.zip_nil_right] at p;cases p
    | cons c r=>
     rw[jJ] at i j;let⟨v,vr,rfl,V,H⟩:=i;let⟨u,ur,rfl,W,I⟩:=j;rw[List.zip_cons_cons] at p;injection p with hyx hrest;injection hyx with hy M;subst hy M;rw[P] at B;rw[cmpL] at k;simp only[zR] at m;let he:=hE a c y x (t a zS) V W;refine aa (he C w _ _ ?_)
     cases U:a.eqb c with
     | true=>
      rw[U,aK rfl] at B k
      wp_walk
      exact⟨Z,Z,_,_,_,_,hrest,H,I,λz p=>t z (zO _ p),k,∅,B⟩
     | false=>
      rw[U,aJ zW] at B k;let G:=hL a c y x (t a zS) V W k C w;dsimp only[cond_true,cond_false] at G
      wp_walk using G
      exact⟨_,Z,by simpa using B⟩
  case fin=>
   rintro⟨b1,b2⟩ N ⟨E,rfl,vs,ws,q,r,p,i,j,t,k,m,B⟩;simp only at E;subst E;rw[Q (by
    cases q with
    | nil=>exact .inl Z
    | cons a q=>
     cases r with
     | nil=>exact .inr Z
     | cons c r=>
      rw[jJ] at i j;let⟨v,vr,rfl,_,_⟩:=i;let⟨u,ur,rfl,_,_⟩:=j;rw[List.zip_cons_cons] at p;cases p) m] at B
   wp_walk
   exact⟨_,Z,by simpa [Builtin.Tuple.tupleCompareSizes] using B⟩
  case h=>
   exact⟨Z,Z,f.toList,e.toList,D,J,Z,S,T,λ_ M=>M,hc,∅,h⟩
end
theorem GH(o:Bool){s:aj}:∀(n:Nat)(a b:KT)(A:aw)(v u:ah),a.depth<=n->ZJ s.heap a v->ZJ s.heap b u->a.cmp b=true->A.units+a.depth<cLine->Le o A s v u (QZ o a b)
 | n,.int i,b,A,v,u,_,x,y,d,H=>by
  rw[ZJ] at x;let⟨t,rfl⟩:=x
  cases b with
  | int j=>
   rw[ZJ] at y;let⟨D,rfl⟩:=y;unfold QZ;rw[KT.plt,KT.plt];intro c w E Q h;cases o
   ·exact HT.rcLt_int A s i t j D c w E Q h
   ·exact(le_int (by rw[show decide (i<=j) = !decide (j<i) by by_cases z:j<i <;> simp[z] <;> lia];exact h):aA (az c w) A (ay .LtE (.int i t) (.int j D)) Q E s)
  | str z=>simp[KT.cmp] at d
  | tup m=>simp[KT.cmp] at d
 | n,.str w,b,A,v,u,_,x,y,d,H=>by
  rw[ZJ] at x;let⟨t,rfl⟩:=x
  cases b with
  | int j=>simp[KT.cmp] at d
  | str z=>
   rw[ZJ] at y;let⟨D,rfl⟩:=y;unfold QZ;rw[KT.plt,KT.plt];intro c w' E Q h;cases o
   ·exact(lt_str h:aA (az c w') A (ay .Lt (.str w t) (.str z D)) Q E s)
   ·exact(PySem.P.le_str h:aA (az c w') A (ay .LtE (.str w t) (.str z D)) Q E s)
  | tup m=>simp[KT.cmp] at d
 | 0,.tup l,b,A,v,u,K,x,y,d,H=>by
  rw[KT.depth] at K
  lia
 | n+1,.tup l,b,A,v,u,K,x,y,d,H=>by
  rw[ZJ] at x;let⟨p,M,rfl,px,kx⟩:=x;rw[KT.depth] at K H;let B:A.units<cLine:=∅
  cases b with
  | int j=>simp[KT.cmp] at d
  | str z=>simp[KT.cmp] at d
  | tup m=>
   rw[ZJ] at y;let⟨q,C,rfl,py,ky⟩:=y;rw[KT.cmp] at d;let e:QZ o (.tup l) (.tup m)=Pd o l m:=by
    unfold QZ Pd;rw[KT.plt,KT.plt]
   rw[e];intro c w E Q h;let⟨⟨cls,dd,data,sl⟩,G,k,R,Y⟩:=id px;let⟨⟨V,J,I,U⟩,f,g,S,r⟩:=id py;simp only at k Y g r;subst k Y g r;let W:∀ x y v u,x∈l->ZJ s.heap x v->ZJ s.heap y u->SeqAt.EqAt A.in1 s v u (x.eqb y):=λx y v u L N O=>by
    let d1:=Pu L;exact Pn x.depth x y A.in1 v u (zY _) N O (by show A.units+1+x.depth<cLine;lia)
   let X:∀ x y v u,x∈l->ZJ s.heap x v->ZJ s.heap y u->x.cmp y=true->Le o A.in1 s v u (QZ o x y):=λx y v u L N O k3=>by
    let d1:=Pu L;exact GH o n x y A.in1 v u ∅ N O k3 (by show A.units+1+x.depth<cLine;lia)
   let T:=Ae o p q M.toArray C.toArray R S dd J sl U l m;cases o
   ·exact richCompare_meets_room (op:=.Lt) ⟨_,G,Z⟩ ⟨_,f,Z⟩ PySem.F.slot_tuple_lt PySem.F.entry_tuple_lt (PySem.F.args_tuple_lt_2 _ _) T ⟨G,f,kx,ky,d,W,X,(λx=>nomatch x),h⟩ B
   ·exact richCompare_meets_room (op:=.LtE) ⟨_,G,Z⟩ ⟨_,f,Z⟩ PySem.F.slot_tuple_le PySem.F.entry_tuple_le (PySem.F.args_tuple_le_2 _ _) T ⟨G,f,kx,ky,d,W,X,(λx=>nomatch x),h⟩ B
theorem Ho{s:aj}(n:Nat)(a b:KT)(A:aw)(v u:ah):a.depth<=n->ZJ s.heap a v->ZJ s.heap b u->a.cmp b=true->A.units+a.depth<cLine->Le false A s v u (a.plt b):=GH false n a b A v u
theorem ZU.key{k:Nat}{A:aw}(r:ZU k A){n:Nat}(h:n<=200):A.units+n<cLine:=by have:=r.un;lia
inductive Kp(x y:V)(H:Hp)(Q:VK):Prop
 |mk(a b:_)(_:ZD H a x)(_:ZD H b y)(_:a.depth<=200)(_:Q (.bl (!a.eqb b)) H)
inductive K3(x y:V)(H:Hp)(Q:VK):Prop
 |mk(a b:_)(_:ZD H a x)(_:ZD H b y)(_:a.cmp b=true)(_:a.depth<=200)(_:Q (.bl (a.plt b)) H)
theorem ZO1{k:Nat}(g:ZU k X.A):Y7 X (ay .NotEq) Kp:=by
 intro c s l H x y v u Q I i j h;let⟨a,b,d,e,f,q⟩:=h;exact AA a b X.A v u (VX I a x v d i) (VX I b y u e j) (ZU.key g f) X.prog X.w X.xe _ ⟨.bl _,H,I,Z,q⟩
theorem ZOq{k:Nat}(i:ZU k X.A):Y7 X (ay .Lt) K3:=by
 intro c s m H x y v u Q I j l h;let⟨a,b,d,e,f,g,q⟩:=h;exact Ho a.depth a b X.A v u (zY _) (VX I a x v d j) (VX I b y u e l) f (ZU.key i g) X.prog X.w X.xe _ ⟨.bl _,H,I,Z,q⟩
mutual
def We(w:ar):KT->Int
 | .int i=>hashInt i
 | .str x=>CV w (.inr x)
 | .tup l=>reduceHash (Builtin.Tuple.tupleHashOf (hashL w l))
def hashL(w:ar):jl->jA
 | []=>[]
 | t::l=>We w t::hashL w l
end
theorem FO(w:ar):∀(l m:jl),hashL w (l++m)=hashL w l++hashL w m
 | [],m=>by rw[hashL];rfl
 | t::l,m=>by rw[vL,hashL,hashL,FO w l m];rfl
theorem Mq:∀(n:Nat)(t:KT){A:aw}{E:ja}{s:aj}{v:ah}{Q:Int->aj->Prop},t.depth<=n->ZJ s.heap t v->A.units+t.depth<cLine->(∀ d,s.toks<=d->Q (We w t) { s with toks:=d })->aA (az prog w) A (pyHash v) Q E s
 | n,.int i,A,E,s,v,Q,_,x,B,q=>by
  rw[ZJ] at x;let⟨t,rfl⟩:=x;rw[We] at q;exact wpAny_pyHash_int (q _ (uS _))
 | n,.str i,A,E,s,v,Q,_,x,B,q=>by
  rw[ZJ] at x;let⟨t,rfl⟩:=x;rw[We] at q;exact wpAny_pyHash_str (q _ (uS _))
 | 0,.tup l,A,E,s,v,Q,D,x,B,q=>by rw[KT.depth] at D;lia
 | n+1,.tup l,A,E,s,v,Q,D,x,B,q=>by
  rw[KT.depth] at D B;rw[ZJ] at x;let⟨a,N,rfl,I,R⟩:=x;let z:=I.typeIs;let⟨o,M,S,nn,K⟩:=I;unfold pyHash
  first | unfold pyHashByItsType | skip
  first | refine aa (wpAny_cRoomFor_or (.inr ∅) ?_) | skip
  refine aa (wpAny_specialOf z tW.lookup ?_);show aA _ _ (if (some (Value.builtin "tuple.__hash__")==some Value.none)=true then _ else _) Q E s
  rw[aJ (by rw[beq_builtin_none];exact zW)]
  refine aa (wpAny_specialOf z tW.lookup ?_);show aA _ _ (callSpecialIfBoundUnlessNone? (.ref a) "__hash__" _ >>= _) Q E s;refine aa (wpAny_callSpecialIfBoundUnlessNone?_slot z tW (wpAny_call_entry tW z PySem.F.entry_tuple_hash ?_ (PySem.F.args_tuple_hash_1 _)));show aA _ _ (Builtin.Tuple.tupleItemsOf (.ref a) >>= _) _ _ s;refine aa (wpAny_tupleItemsOf M K (aa ?_));rw[<-tF];refine wpAny_forIn_list _ (λrest (b:Array Int) H=>∃ h c d,l=h++c/\jJ s.heap c rest/\b.toList=hashL w h/\H={ s with toks:=d }/\s.toks<=d) _ ?_ ?_ _ _ ⟨[],l,s.toks,Z,R,by rw[hashL],Z,zY _⟩
  ·rintro x rest b H ⟨h,c,d,k,f,C,rfl,p⟩
   cases c with
   | nil=>rw[jJ] at f;cases f
   | cons t c=>
    rw[jJ] at f;let⟨U,T,e,O,P⟩:=f;injection e with e1 e2;subst e1 e2;let L:t.depth<=jL l:=by rw[k];exact Pu (by simp)
    refine aa (Mq n t (s:={ s with toks:=d }) ∅ O (by show A.units+1+_<_;lia) λy J=>?_)
    let m:∃ j r u,l=j++r/\jJ s.heap r rest/\(b.push (We w t)).toList=hashL w j/\({ s with toks:=y }:aj)={ s with toks:=u }/\s.toks<=u:=
     ⟨h++[t],c,y,by rw[k];simp,P,by rw[Array.toList_push,C,FO,hashL,hashL],rfl,zI p J⟩
    first | exact ad m | exact aa (ad (ad m))
  ·rintro b H ⟨h,c,d,k,f,C,rfl,p⟩
   cases c with
   | cons t c=>rw[jJ] at f;let⟨_,_,e,_⟩:=f;cases e
   | nil=>
    rw[yS] at k;subst k;show aA _ _ (retInt (Builtin.Tuple.tupleHashOf b.toList)) _ _ _;rw[C];refine wpAny_ret_mkInt ?_;show aA _ _ (if (decide (-(2:Int) ^ 63<=Builtin.Tuple.tupleHashOf (hashL w l))&&decide (Builtin.Tuple.tupleHashOf (hashL w l)<2 ^ 63))=true then _ else _) Q E _
    let g:=q (d+1) ∅
    rw[We] at g;unfold reduceHash at g;split
    ·rename_i G
     rw[aK G] at g;exact ad g
    ·rename_i G
     rw[aJ G] at g;exact aa (wpAny_rule (ad g))
theorem KW:∀(n:Nat)(t:KT){A:aw}{E:ja}{s:aj}{v:ah}{Q:Bool->aj->Prop},t.depth<=n->ZJ s.heap t v->Q true s->aA (az prog w) A (eqIsQuiet n v) Q E s
 | n,.int i,A,E,s,v,Q,_,x,q=>by
  rw[ZJ] at x;let⟨t,rfl⟩:=x;rw[eqIsQuiet_byValue n rfl];exact ad q
 | n,.str i,A,E,s,v,Q,_,x,q=>by
  rw[ZJ] at x;let⟨t,rfl⟩:=x;rw[eqIsQuiet_byValue n rfl];exact ad q
 | 0,.tup l,A,E,s,v,Q,f,x,q=>by rw[KT.depth] at f;lia
 | n+1,.tup l,A,E,s,v,Q,f,x,q=>by
  rw[KT.depth] at f;rw[ZJ] at x;let⟨a,h,rfl,m,B⟩:=x;let k:=m.typeIs;let⟨o,u,C,nn,p⟩:=m;unfold eqIsQuiet;refine aa (wpAny_specialOf k PySem.F.slot_tuple_eq.lookup ?_);show aA _ _ (isInstance (.ref a) (.type "tuple") >>= _) _ _ s;refine aa (wpAny_isInstance k isSubtype_tuple_tuple ?_);simp only[uR,xN,if_false];refine aa (wpAny_seqItems u p (aa ?_));show aA _ _ (forIn h.toArray _ _) _ _ s;rw[<-tF];refine wpAny_forIn_list _ (λrest r j=>r.1=none/\j=s/\∃ b,jJ s.heap b rest/\jL b<=n) _ ?_ ?_ _ _ ⟨Z,Z,l,B,∅⟩
  ·rintro x rest r j ⟨g,rfl,b,c,d⟩
   cases b with
   | nil=>rw[jJ] at c;cases c
   | cons t b=>
    rw[jJ] at c;let⟨I,D,e,y,z⟩:=c;injection e with e1 e2;subst e1 e2;rw[jL] at d;refine aa (KW n t ∅ y ?_)
    simp only[uR,xN,if_false];exact ad ⟨Z,Z,b,z,∅⟩
  ·rintro⟨G,H⟩ j ⟨g,rfl,_⟩;dsimp only at g;subst g;exact ad q
structure Nr(w:ar)(h:aC)(ks:jl)(es:Array DictEntry):Prop where
 len:es.size=ks.length
 ent:∀(i:Nat)(e:DictEntry),es[i]? = some e->∃ t,ks[i]? = some t/\e.hash=We w t/\ZJ h t e.key/\t.depth<=3
 nd:ks.Nodup
theorem Nr.uniq{h:aC}{b:jl}{d:Array DictEntry}(x:Nr w h b d){i j:Nat}{t:KT}(c:b[i]? = some t)(e:b[j]? = some t):i=j:=by
 let⟨a,f⟩:=zB.mp c;exact(tJ a x.nd).mp (c.trans e.symm)
theorem Nr.get{h:aC}{f:jl}{b:Array DictEntry}(x:Nr w h f b){j:Nat}{t:KT}(d:f[j]? = some t):∃ e,b[j]? = some e/\e.hash=We w t/\ZJ h t e.key/\t.depth<=3:=by
 let⟨a,_⟩:=zB.mp d;let l:j<b.size:=by have:=x.len;lia
 let e:b[j]? = some b[j]:=xF l;let⟨m,c,g,i,k⟩:=x.ent j _ e;rw[d] at c;cases c;exact⟨_,e,g,i,k⟩
theorem JE{v:ah}{a:jd}{Q:Bool->aj->Prop}(i:∃ t,ZJ s.heap t v/\t.depth<=8)(f:∀ u∈a,∃ t,ZJ s.heap t u/\t.depth<=8)(h:Q false s):aA (az prog w) A (tableMayTell v a) Q E s:=by
 unfold tableMayTell;refine wpAny_ite_split (λ_=>ad h) (λ_=>?_);let⟨t,j,e⟩:=i;refine aa (KW 8 t e j ?_);simp only[uR,xN,if_false];refine aa ?_;refine wpAny_forIn_list _ (λrest r c=>c=s/\r=(none,())/\∀ u∈rest,u∈a) _ ?_ ?_ _ _ ⟨Z,Z,λ_ z=>z⟩
 ·rintro u rest r c ⟨rfl,rfl,d⟩;let⟨k,QZ,b⟩:=f u (d u (zS ..));refine aa (KW 8 k b QZ ?_);simp only[uR,xN,if_false];exact ad ⟨Z,Z,λu g=>d u (zO _ g)⟩
 ·rintro r c ⟨rfl,rfl,_⟩;exact ad h
theorem ZNV{d:ai}{o:aG}{c:Array DictEntry}{ep:Nat}{X:jl}{t:KT}{v:ah}{Q:jp->aj->Prop}(M:ZJ s.heap t v)(dt:t.depth<=3)(hu:A.units+3<cLine)(U:s.heap.get? d=some o)(T:o.data=.dict c ep)(x:Nr w s.heap X c)(a2:t∉X->Q none s)(F:∀ j,X[j]? = some t->Q (some j) s):aA (az prog w) A (dictFind d v (We w t)) Q E s:=by
 let N:∀ j,X[j]? = some t->j∈placesWithHash c.size (λi=>c[i]?.map (·.hash)) (We w t):=λj k=>by
  let⟨e,n,B,_⟩:=x.get k;let⟨lt,_⟩:=vM.mp n;unfold placesWithHash;rw[yN,wX];exact⟨lt,by show (Option.map _ c[j]? == _)=true;rw[n,wH,B];simp⟩
 let G:∀ i,i∈placesWithHash c.size (λi=>c[i]?.map (·.hash)) (We w t)->∃ e u,c[i]? = some e/\e.hash=We w t/\X[i]? = some u/\ZJ s.heap u e.key/\u.depth<=3:=λi K=>by
  unfold placesWithHash at K;rw[yN,wX] at K;let n:c[i]? = some c[i]:=xF K.1;let⟨u,B,_,C,D⟩:=x.ent i _ n;have:(Option.map (·.hash) c[i]? == some (We w t))=true:=K.2;rw[n,wH] at this;exact⟨_,u,n,by simpa using this,B,C,D⟩
 let a5:(placesWithHash c.size (λi=>c[i]?.map (·.hash)) (We w t)).Nodup:=by
  unfold placesWithHash;exact List.nodup_range.filter _
 let p:∀(u:KT)(e:DictEntry),ZJ s.heap u e.key->u.depth<=3->SeqAt.EqAt A s e.key v (u.eqb t):=λu e k1 d1=>Pn u.depth u t A e.key v (zY _) k1 M ∅
 let m:∀ u∈(placesWithHash c.size (λi=>c[i]?.map (·.hash)) (We w t)).filterMap (λi=>c[i]?.map (·.key)),∃ t,ZJ s.heap t u/\t.depth<=8:=λu hu=>by
  let⟨i,K,e⟩:=uI.mp hu;let⟨en,z,n,_,_,C,D⟩:=G i K;rw[n,wH] at e;cases e;exact⟨z,C,∅⟩
 unfold dictFind
 try with_reducible refine af ?_
 refine aa (wpAny_dictEntries U T ?_);generalize hP:placesWithHash c.size (λi=>c[i]?.map (·.hash)) (We w t)=pl at N G a5 m;let O:aA (az prog w) A (dictWalkPlain d v (We w t) c pl) Q E s:=by
  unfold dictWalkPlain;refine aa ?_;refine wpAny_forIn_list _ (λrest b s'=>s'=s/\b=(none,())/\(∀ i∈rest,i∈pl)/\∀ i∈pl,i∈rest\/X[i]? ≠ some t) _ ?_ ?_ _ _ ⟨Z,Z,λ_ z=>z,λ_ z=>.inl z⟩
  ·rintro i rest b s' ⟨rfl,rfl,h1,H⟩;let⟨e,u,n,B,J,C,D⟩:=G i (h1 i (zS ..));rw[n];dsimp only;rw[B,aK (by simp)]
   refine aa (wpAny_dictEpoch U T (aa (p u e C D prog w _ _ (aa (wpAny_dictEpoch U T ?_)))));rw[aJ (by simp)]
   cases I:u.eqb t with
   | true=>
    have:u=t:=US u t I;subst this;rw[aK rfl];exact aa (wpAny_rule (ad (ad (F i J))))
   | false=>
    rw[aJ zW];refine aa (wpAny_rule (ad ⟨rfl,rfl,λj k=>h1 j (zO _ k),λj k=>?_⟩));rcases H j k with z | z
    ·rcases zU.mp z with z | z
     ·subst z;refine .inr λz=>?_;rw[J] at z;cases z;rw[QF] at I;cases I
     ·exact .inl z
    ·exact .inr z
  ·rintro b s' ⟨rfl,rfl,_,H⟩;refine ad (a2 λz=>?_);let⟨j,k⟩:=uB.mp z;rcases H j (N j k) with q | q
   ·cases q
   ·exact q k
 let L:∀(f:Nat->Option (jp)×jp->Sem (ForInStep (Option (jp)×jp)))(g:Option (jp)×jp->Sem (jp)),(∀ r,g (some r,none)=pure r)->(∀ h,g (none,h)=pure h) ->
   (∀ i u e (R:ForInStep (Option (jp)×jp)->aj->Prop),c[i]? = some e->e.hash=We w t->ZJ s.heap u e.key->u.depth<=3->u=t->R (.done (some (some i),none)) s->R (.yield (none,some i)) s->aA (az prog w) A (f i (none,none)) R E s) ->
   (∀ i u e a1 (R:ForInStep (Option (jp)×jp)->aj->Prop),c[i]? = some e->e.hash=We w t->ZJ s.heap u e.key->u.depth<=3->u≠t->R (.yield (none,a1)) s->aA (az prog w) A (f i (none,a1)) R E s) ->
   aA (az prog w) A (forIn pl (none,none) f >>= g) Q E s:=λf g g1 g2 f1 f2=>by
  refine aa ?_;refine wpAny_forIn_list _ (λrest b s'=>s'=s/\rest.Nodup/\(∀ i∈rest,i∈pl)/\((b=(none,none)/\∀ i∈pl,i∈rest\/X[i]? ≠ some t)\/∃ j,b=(none,some j)/\X[j]? = some t/\j∉rest)) _ ?_ ?_ _ _ ⟨Z,a5,λ_ z=>z,.inl ⟨Z,λ_ z=>.inl z⟩⟩
  ·rintro i rest b s' ⟨rfl,nd,h1,H⟩;let⟨e,u,n,B,J,C,D⟩:=G i (h1 i (zS ..));let V:=yW.mp nd;let a0:∀ j∈rest,j∈pl:=λj k=>h1 j (zO _ k);by_cases I:u=t
   ·let S:=J;rw[I] at S;rcases H with ⟨rfl,H⟩ | ⟨j,rfl,k,hn⟩
    ·refine f1 i u e _ n B C D I ?_ ?_
     ·show aA _ _ (g (some (some i),none)) _ _ _;rw[g1];exact ad (F i S)
     ·exact⟨Z,V.2,a0,.inr ⟨i,Z,S,V.1⟩⟩
    ·have:i=j:=x.uniq S k;exact absurd (this ▸ zS ..) hn
   ·rcases H with ⟨rfl,H⟩ | ⟨j,rfl,k,hn⟩
    ·refine f2 i u e none _ n B C D I ⟨Z,V.2,a0,.inl ⟨Z,λj k=>?_⟩⟩;rcases H j k with z | z
     ·rcases zU.mp z with z | z
      ·subst z;exact .inr λz=>I (by rw[J] at z;exact yZ.inj z)
      ·exact .inl z
     ·exact .inr z
    ·exact f2 i u e (some j) _ n B C D I ⟨Z,V.2,a0,.inr ⟨j,Z,k,λz=>hn (zO _ z)⟩⟩
  ·rintro b s' ⟨rfl,_,_,H⟩;rcases H with ⟨rfl,H⟩ | ⟨j,rfl,k,hn⟩
   ·rw[g2];refine ad (a2 λz=>?_);let⟨j,k⟩:=uB.mp z;rcases H j (N j k) with q | q
    ·cases q
    ·exact q k
   ·rw[g2];exact ad (F j k)
 let vs:(∃ a,v=.ref a)\/(∃ i P,v=.int i P)\/∃ y P,v=.str y P/\t=.str y:=by
  cases t with
  | int i=>rw[ZJ] at M;let⟨P,e⟩:=M;exact .inr (.inl ⟨i,P,e⟩)
  | str y=>rw[ZJ] at M;let⟨P,e⟩:=M;exact .inr (.inr ⟨y,P,e,rfl⟩)
  | tup l=>rw[ZJ] at M;let⟨a,_,e,_⟩:=M;exact .inl ⟨a,e⟩
 rcases vs with ⟨a,rfl⟩ | ⟨i,P,rfl⟩ | ⟨y,P,rfl,ht⟩
 case' inl=>
  dsimp only;rw[aJ (by simp[carriedByValue])]
  let a3:¬ (c.any λe=>e.key==Value.ref a&&e.hash != We w t)=true:=by
   rw[<-Array.any_toList,tM];rintro⟨e,a6,hc⟩;let⟨j,k⟩:=uB.mp a6;rw[vU] at k;let⟨u,_,B,J,_⟩:=x.ent j e k;rw[zM] at hc;rw[eq_of_beq hc.1] at J;have:u=t:=US _ _ (ZJ.inj _ _ _ J M);rw[B,this] at hc;simp at hc
  rw[aJ a3];refine wpAny_ite_split (λ_=>aa (ad ?_)) (λ_=>aa (JE ⟨t,M,∅⟩ m ?_))
 case' inr.inl=>
  dsimp only;refine wpAny_ite_split (λ_=>O) (λ_=>?_);refine wpAny_ite_split (λ_=>aa (ad ?_)) (λ_=>aa (JE ⟨t,M,∅⟩ m ?_))
 case' inr.inr=>
  let Y:aA (az prog w) A (foundByValue d (.str y P) c y) Q E s:=by
   unfold foundByValue
   cases hf:c.findIdx? (λe=>e.key.isStr y) with
   | none=>
    refine ad (a2 λz=>?_);let⟨j,k⟩:=uB.mp z;let⟨e,n,B,J,_⟩:=x.get k;have:=Array.findIdx?_eq_none_iff.mp hf e (Array.mem_of_getElem? n);rw[ht,ZJ] at J;let⟨W,ek⟩:=J;rw[ek] at this;simp[Value.isStr] at this
   | some i=>
    let⟨a7,K,_⟩:=Array.findIdx?_eq_some_iff_getElem.mp hf;let n:c[i]? = some c[i]:=xF a7;let⟨u,B,J,C,D⟩:=x.ent i _ n;let a4:u=t:=by
     let hs:∃ W,c[i].key=.str y W:=by
      cases q:c[i].key with
      | str z tz=>rw[q] at K;simp[Value.isStr] at K;exact⟨tz,by rw[K]⟩
      | _=>rw[q] at K;simp[Value.isStr] at K
     let⟨W,ek⟩:=hs;let hk:ZJ s.heap (.str y) c[i].key:=by rw[ZJ];exact⟨W,ek⟩
     rw[ht];exact US _ _ (ZJ.inj _ _ _ C hk)
    dsimp only;rw[n];dsimp only;refine aa (wpAny_dictEpoch U T (aa (p u _ C D prog w _ _ (aa (wpAny_dictEpoch U T ?_)))));rw[aJ (by simp),a4,QF,aK rfl]
    exact aa (wpAny_rule (ad (F i (by rw[B,a4]))))
  dsimp only;refine wpAny_ite_split (λ_=>Y) (λ_=>?_);refine wpAny_ite_split (λ_=>O) (λ_=>?_);refine wpAny_ite_split (λ_=>aa (ad ?_)) (λ_=>aa (JE ⟨t,M,∅⟩ m ?_))
 all_goals
  rw[aJ (by simp)]
  refine L _ _ (λr=>rfl) (λh=>rfl) (λi u e R n B C D I r1 r2=>?_) (λi u e a1 R n B C D I r1=>?_)
  ·rw[n];dsimp only;rw[B,aK (by simp)]
   refine aa (wpAny_dictEpoch U T (aa (p u e C D prog w _ _ (aa (wpAny_dictEpoch U T ?_)))));rw[aJ (by simp),I,QF,aK rfl]
   simp only[Option.isSome_none,xN,if_false];refine aa (wpAny_rule (wpAny_ite_split (λ_=>ad r1) (λ_=>ad r2)))
  ·rw[n];dsimp only;rw[B,aK (by simp)]
   refine aa (wpAny_dictEpoch U T (aa (p u e C D prog w _ _ (aa (wpAny_dictEpoch U T ?_)))));let hf:u.eqb t=false:=by
    cases q:u.eqb t with
    | false=>rfl
    | true=>exact absurd (US _ _ q) I
   rw[aJ (by simp),hf,aJ zW]
   refine aa (wpAny_rule ?_);rw[aJ (by simp)]
   exact ad r1
end Tw
namespace L2
open PySem PySem.Spec PyProof.Rows
theorem Zf.there{P:ak}{w:ar}{H:Hp}{h:aC}{a:ai}:∀{o:HO},Zf P w H h a o->∃ b,h.get? a=some b:=by
 intro o x
 induction o with
 | lst l=>let⟨z,j,n,r,e⟩:=x;exact⟨_,e⟩
 | tup l=>let⟨z,j,r,b,e,c⟩:=x;exact⟨_,e⟩
 | dK k=>let⟨z,y,G,r,b,i,g,e,c⟩:=x;exact⟨_,e⟩
 | dT k=>let⟨z,y,l,r,b,i,g,e,c⟩:=x;exact⟨_,e⟩
 | set S n=>let⟨b,i,g,t,e,c⟩:=x;exact⟨_,e⟩
 | ins C p m=>let⟨d,z,D,e,_⟩:=x;exact⟨_,e⟩
 | own y=>exact x
 | xd m=>let⟨B,⟨E,i,g,e,c⟩,r⟩:=x;exact⟨_,e⟩
 | rng A q=>let⟨t,u,v,e⟩:=x;exact⟨_,e⟩
 | frz b u s=>exact⟨_,x.1⟩
 | tbl F=>exact⟨_,x⟩
 | met f y=>exact⟨_,x⟩
 | ext I=>exact x.2.1
theorem Y9.there{P:ak}{w:ar}{H:Hp}{h:aC}{a:ai}(x:Y9 P w H h)(n:H a≠none):∃ b,h.get? a=some b:=by
 cases e:H a with
 | none=>exact absurd e n
 | some o=>exact Zf.there (x a o e)
theorem Y9.keptT{P:ak}{w:ar}{H:Hp}{h d:aC}(x:Y9 P w H h)(k:∀ b u,h.get? b=some u->H b≠none->d.get? b=some u):Y9 P w H d:=λa o e=>
 (x a o e).stay (λb u c q=>k b u q (by
  rcases c with rfl | c
  ·rw[e];exact λz=>nomatch z
  ·rw[c];exact λz=>nomatch z)) (λ_ q=>q) λ_ _ q=>q
section
variable{jP:jo}{σ:St}{H H':Hp}{s':aj}{E:XK}
theorem ZF.noloc(I:ZF X jP σ H s):X.s₀.heap.get? X.env.locals=none:=sV I.ok.above
theorem Jc(I:ZF X jP σ H s):∀ b∈frs X.stack,∀ o,s.heap.get? b=some o->∀ a,o.data≠.fields a:=λb c o q a z=>by
 let⟨_,f,e,d⟩:=I.stack.mem c;rw[q] at e;cases e;exact d a z
end
end L2
namespace L2
open PySem PySem.Spec PySem.W PyProof.Rows
def WW(x C:ai)(h:aC):Prop:=∃ o,h.get? x=some o/\o.cls=.ref C
theorem WW.ty{x C:ai}{h:aC}(I:WW x C h)(M:Model):Looks M h (typeOf (.ref x)) (.ref C):=by
 let⟨o,e,c⟩:=I;rw[<-c];exact Looks.andThen (Looks.ld e) Looks.now
structure Va(K:Frag)(C:ai):Prop where
 ga:findIn K (.ref C) "__getattribute__" = some (some (.builtin "BaseException.__getattribute__"))
 hk:findIn K (.ref C) "__getattr__" = some none
 mB:mroIn K C (.type "BaseException")=some true
 mO:mroIn K C (.type "object")=some true
 ca:findIn K (.ref C) "__class__" = some (some (.builtin "object.__class__"))
 hn:specialIn K (.builtin "object.__class__") "__get__" = some (some (.builtin "getset_descriptor.__get__"))
 tk:takesIn K (.builtin "object.__class__")=some true
section
variable{K:Frag}{x C:ai}
theorem BI{f:ah}{Q:Unit->aj->Prop}(X:K.In s.heap)(I:WW x C s.heap)(a:mroIn K C (.type "BaseException")=some true)(b:Q () s):
  aA (az prog w) A (checkBuiltinCall "BaseException.__getattribute__" ⟨[.ref x,f],[]⟩) Q E s:=by
 let⟨h,g,d,t,k⟩:=s;let c:builtinKind "BaseException.__getattribute__" = some .slot:=by decide +kernel
 let e:splitId "BaseException.__getattribute__" = some ("BaseException","__getattribute__"):=by decide +kernel
 let i:=I.ty (az prog w);let j:=looks_mroIn (M:=az prog w) X a;simp only[checkBuiltinCall,c,e];refine aa ?_;unfold isInstance
 repeat lk
 exact b
theorem Bm{b:Str}{i:Tok}{r:Builtin.ObjectAttr.Found}{Q:Fin->aj->Prop}(X:K.In s.heap)(I:WW x C s.heap)(e:Looks (az prog w) s.heap (Builtin.ObjectAttr.find (.ref x) (.ref C) b) r)(h:match r with
   | .value v=>Q (.done (.ret v)) s
   | .bind g a=>aA (az prog w) A (call g [a,.ref x,.ref C]) (λv c=>Q (.done (.ret v)) c) E s
   | .missing=>False):aA (az prog w) A (Builtin.«object.__getattribute__» ⟨[.ref x,.str b i],[]⟩) Q E s:=by
 let⟨j,g,d,t,k⟩:=s;let f:=I.ty (az prog w);unfold Builtin.«object.__getattribute__»;refine aa (ad ?_);refine aa (ad ?_);refine aa (f.at ?_);refine aa (e.at ?_)
 cases r with
 | value v=>exact ad h
 | bind g a=>
  show aA _ _ (holding [a] (call g [a,.ref x,.ref C]) >>= ret) _ _ _;exact aa (af (ae h (λv c z=>ad z) λ_ _ z=>z))
 | missing=>exact h.elim
theorem ZKY{c:Str}{r:Builtin.ObjectAttr.Found}{b f:Bool}{k:Tok}{Q:ja}(X:K.In s.heap)(I:WW x C s.heap)(e:Va K C)(l:Looks (az prog w) s.heap (Builtin.ObjectAttr.find (.ref x) (.ref C) c) r)(h:match r with
   | .value v=>handedIn v=true/\Q v s
   | .bind g a=>aA (az prog w) A.in1 (call g [a,.ref x,.ref C]) (λv j=>handedIn v=true/\Q v j) (λ_ _=>False) s
   | .missing=>False):aA (az prog w) A (getAttrBy (.ref x) (.str c k) f b) Q E s:=by
 let i:=F.excAttr_ValueError;let m:=I.ty (az prog w);let n:=looks_findIn (M:=az prog w) X e.ga;let o:=looks_findIn (M:=az prog w) X e.hk;let p:(Value.builtin "BaseException.__getattribute__" == Value.builtin "object.__getattribute__")=false:=by decide +kernel
 let⟨q,g,d,t,u⟩:=s;unfold getAttrBy;refine af (aa (m.at (aa (n.at ?_))));show aA _ _ (if (true&&(Value.builtin "BaseException.__getattribute__" == Value.builtin "object.__getattribute__"))=true then _ else getAttrByItsOwn (.ref x) (.str c k) (.ref C) (.builtin "BaseException.__getattribute__") f b) _ _ _
 rw[p,aJ (by decide)]
 unfold getAttrByItsOwn hookBefore;refine aa (o.at ?_);refine aa (wpAny_attempt (af ?_));unfold callGetattribute;rw[aJ (by cases b <;> decide)]
 unfold boundAndCalled;rw[i.ga.bind (.ref x)];refine aa (ad ?_);refine wpAny_call (codeAny_call_builtin i.ga.plain F.entry_bexc_ga (BI X I e.mB (Bm X I l ?_)))
 cases r with
 | value v=>exact handed_on h.1 h.2
 | bind g a=>exact ae h (λv j z=>handed_on z.1 z.2) λ_ _ z=>z.elim
 | missing=>exact h.elim
theorem ZNj{R:Result->aj->Prop}{b:ah}(X:K.In s.heap)(I:WW x C s.heap)(e:Va K C)(h:R (.ok (.ret (.ref C))) s):
  codeAny (az prog w) A (.call (.builtin "getset_descriptor.__get__") ⟨[.builtin "object.__class__",.ref x,b],[]⟩) R s:=by
 let⟨f,d,c,j,a⟩:=s;let g:=I.ty (az prog w);let i:=looks_mroIn (M:=az prog w) X e.mO;refine codeAny_call_builtin KF.slot_gs.plain KF.entry_gs ?_;refine KF.slot_gs.check _ _ _ _ _ _ _ _ KF.type_class (KF.args_gs _ _ _) ?_;unfold Builtin.«getset_descriptor.__get__»;unfold Builtin.Getset_descriptor.descrGet;rw[dga_obj];refine aa (ad ?_);unfold Builtin.Getset_descriptor.descrGetter;unfold Builtin.Getset_descriptor.descrCheckInstance;unfold Builtin.Getset_descriptor.descrNameAndClass;unfold isInstance;simp only[KF.owner_class]
 repeat lk
 exists Code.quiet_builtin _ (by decide +kernel)
 refine codeAny_builtin KF.entry_class ?_;unfold Builtin.«object.__class__»;unfold shownTypeOf
 repeat lk
 exact h
theorem ZKd(X:K.In s.heap)(e:Va K C)(M:Model):Looks M s.heap (Builtin.ObjectAttr.find (.ref x) (.ref C) "__class__") (.bind (.builtin "getset_descriptor.__get__") (.builtin "object.__class__")):=by
 let a:=looks_findIn (M:=M) X e.ca;let b:=looks_specialIn (M:=M) X e.hn;let c:=looks_takesIn (M:=M) X e.tk;refine Looks.andThen a (Looks.andThen b ?_);exact Looks.andThen (show Looks M s.heap (Builtin.ObjectAttr.dataDescriptor? (some (.builtin "object.__class__")) (some (.builtin "getset_descriptor.__get__"))) (some (_,_)) from Looks.andThen c Looks.now) (Looks.tag Looks.now)
end
theorem Va.cls{K:Frag}{C:ai}(e:Va K C):∃ g d c k,K.lookup C=some ⟨g,d,.cls c,k⟩:=by
 let⟨c,h,_⟩:=rH.mp e.mB;unfold clsIn at h;split at h
 ·rename_i f i a b j
  exact⟨f,i,a,b,j⟩
 ·cases h
theorem Bg{K:Frag}{x C:ai}(e:Va K C):KitX K (.ref x) (.ref C) (WW x C) where
 ty:=λM _ _ I=>I.ty M
 it:=λ_ _ X _=>by
  let⟨i,d,g,m,b⟩:=e.cls;intro p t r v k q;unfold isType loadHead;let z:=k _ _ (X _ _ b);exact aa (wpAny_loadPart z (ad q))
 ne:=λh f u l n m X a=>by
  let⟨i,d,g,o,b⟩:=e.cls
  cases q:(Value.ref C==Value.ref f) with
  | false=>rfl
  | true=>
   let j:C=f:=Value.ref.inj (eq_of_beq q);rw[<-j,X _ _ b] at a;cases a
 ca:=fun{c w A E Q s} X I k=>by
  unfold getAttr? getAttrBy?;refine aa (wpAny_mkText (aa (wpAny_attempt ?_)));refine ZKY (s:={ s with toks:=s.toks+1 }) X I e (ZKd (s:={ s with toks:=s.toks+1 }) X e _) ?_;exact wpAny_call (ZNj (s:={ s with toks:=s.toks+1 }) X I e ⟨Z,ad k⟩)
end L2
namespace L2
open PySem PySem.Spec PyProof.Rows
def Cx.held(X:Cx)(a:ai)(E:ja):Cx:={ X with A:=X.A.mark (some (.ref a)),calm:=false,xe:=E }
section
variable{jP:jo}{σ:St}{H H':Hp}{s':aj}{ea:ai}
theorem ZF.held(I:ZF X jP σ H s)(ea:ai)(E:ja):ZF (X.held ea E) jP σ H s:=
 ⟨⟨I.ok.mod,I.ok.kind,I.ok.glob,I.ok.blt,I.ok.above,I.ok.inj,I.ok.has,I.ok.cab,λz=>absurd z zW,I.ok.frames,I.ok.stk,I.ok.exf,I.ok.bs,I.ok.bsz,I.ok.noex,I.ok.exfs,I.ok.funs,I.ok.frf⟩,
  I.os,I.bare,I.base,I.loc,I.cell,I.free,I.freeC,I.pin,I.hok,I.len⟩
theorem ZF.unheld(a:X.Ok)(I:ZF (X.held ea E) jP σ H s):ZF X jP σ H s:=⟨a,I.os,I.bare,I.base,I.loc,I.cell,I.free,I.freeC,I.pin,I.hok,I.len⟩
theorem ZF.track{a:ai}{o:HO}(I:ZF X jP σ H s)(l:X.s₀.heap.get? a=none)(t:a≠X.env.locals)(m:∀ x c,X.env.cells.lookup x=some c->c≠a)(y:∀ p∈X.pn++jP,p.1≠a)(v:H a=none)(h:Zf X.prog X.w (upd H a o) s.heap a o):ZF X jP σ (upd H a o) s:=by
 let g:∀{b:ai}{u:HO},H b=some u->b≠a:=fun{b u} e z=>by rw[z,v] at e;cases e
 refine⟨I.ok,I.os,I.bare,⟨I.base.keep,I.base.slot,λb i q n A=>?_,I.base.there,λb k q=>?_,λb i u q=>?_,λb B q=>?_⟩,I.loc,I.cell,?_,λx c e=>?_,λp d=>?_,λb u e=>?_,I.len⟩
 ·rw[ZS (λz=>by rw[z,l] at q;cases q)]
  exact I.base.free b i q n A
 ·let e:=I.base.tups b k q;rw[ZS (g e)];exact e
 ·let e:=I.base.frzs b i u q;rw[ZS (g e)];exact e
 ·let⟨f,e⟩:=I.base.tbls b B q;exact⟨f,by rw[ZS (g e)];exact e⟩
 ·rw[ZS (Ne.symm t)];exact I.free
 ·rw[ZS (m x c e)];exact I.freeC x c e
 ·let⟨e,n,r⟩:=I.pin p d;exact⟨e,by rw[ZS (y p d)];exact n,r⟩
 ·by_cases j:b=a
  ·subst j;rw[ZZ] at e;cases e;exact h
  ·rw[ZS j] at e;exact(I.hok b u e).stay (λ_ _ _ q=>q) (λc q=>by rw[ZS (g q)];exact q) λc k q=>by rw[ZS (g q)];exact q
theorem ZF.goes{i:Nat}{n:Str}{M:Model}{A:aw}{Q:Unit->aj->Prop}{D:Pos}(I:ZF X jP σ H s)(O:X.N.Nodup)(F:X.N[i]? = some n)(f:X.env.scope.names.lookup n=some .local)(h:∀ s',ZF X jP (σ.set i none) H s'->Q () s'):aA M A (do bindName X.env n .none;unbindBehindTheSuite X.env n D) Q E s:=by
 let⟨m,G,P⟩:=id I.loc;let r:(X.env.scope.kind==.class || (X.env.scope.kind==.module&&X.env.locals != X.env.globals))=false:=by rw[I.ok.kind];rfl
 let t:i<σ.length:=by rw[I.len];exact(zB.mp F).1
 refine wpAny_nameGoes_keeps f G r λh' v C a=>h _ ?_;let⟨oL,_,_,R,_⟩:=id G;let g:∀ b o,X.s₀.heap.get? b=some o->b≠X.env.locals:=λb o e=>yK (yI (zH e) I.ok.above);refine⟨I.ok,I.os,I.bare,⟨λb o e n x f=>?_,λb o e n x f=>?_,I.base.free,λb o e f=>?_,I.base.tups,I.base.frzs,I.base.tbls⟩,⟨_,C,λj y v' l u L=>?_⟩,λy c e=>?_,I.free,I.freeC,λp S=>?_,λb V e=>?_,by simpa using I.len⟩
 ·exact(a.2 b (g b o e)).trans (I.base.keep b o e n x f)
 ·let⟨Y,l⟩:=I.base.slot b o e n x f;exact⟨Y,(a.2 b (g b o e)).trans l⟩
 ·let⟨U,l⟩:=I.base.there b o e f;exact⟨U,(a.2 b (g b o e)).trans l⟩
 ·by_cases B:j=i
  ·subst B;rw[tY t] at u;cases u
  ·rw[uD (Ne.symm B)] at u;let⟨u',W,q⟩:=P j y v' l u L;exists u',W;rcases q with ⟨k,e⟩ | ⟨k,c,e,z⟩
   ·refine .inl ⟨k,?_⟩;have:y≠n:=λe=>B (Jm O l (e ▸ F));simp[this,e]
   ·exact .inr ⟨k,c,e,z.sameBut a (I.cne y c e)⟩
 ·let⟨K,z⟩:=I.cell y c e;exact⟨K,z.sameBut a (I.cne y c e)⟩
 ·let⟨e,n,J,T,d⟩:=I.pin p S;exact⟨(a.2 p.1 J).trans e,n,J,T,d⟩
 ·refine(I.hok b V e).stay (λc K w q=>(a.2 c ?_).trans q) (λ_ q=>q) λ_ _ q=>q;rintro rfl;rcases w with rfl | w
  ·rw[I.free] at e;cases e
  ·rw[I.free] at w;cases w
end
section
variable{x C CB:ai}
theorem ZGI{b:Bool}{Q:Bool->aj->Prop}(X:K.In s.heap)(I:WW x C s.heap)(o:wV K (.ref CB)=some (.type "type"))(c:xY K CB (.type "BaseException")=some true)(l:xY K C (.ref CB)=some b)(h:Q b s):aA (az prog w) A (excMatches (.ref x) (.ref CB)) Q E s:=by
 let⟨m,g,d,t,H⟩:=s;let v:=I.ty (az prog w);let y:=sS (M:=az prog w) X c;let z:=sS (M:=az prog w) X l;let e:=rP (M:=az prog w) X o;let f:=tc_notTuple;let B:uO (az prog w) m (isType (.ref CB)) true:=by
  let⟨j,a,_⟩:=rH.mp c;unfold PySem.W.clsIn at a;split at a
  ·rename_i F G i p n
   intro r D u J k q;unfold isType loadHead;exact aa (wpAny_loadPart (k _ _ (X _ _ n)) (ad q))
  ·cases a
 unfold excMatches isInstance isExcClass;refine aa (aa (e.at ?_));rw[f];refine ad ?_;rw[aJ zW];refine aa (ad ?_);simp only[tR,List.forIn_nil]
 cases b with
 | true=>
  repeat (first | lk | wp_step)
  all_goals first | exact h | trace_state
 | false=>
  repeat (first | lk | wp_step)
  all_goals first | exact h | trace_state
end
end L2
namespace Tw
open PySem
inductive TG where
 | int (i:Int)
 | str (x:Str)
 | tup (l:List TG)
 | odd (n:String)
mutual
def TG.fits:TG->Nat->Bool
 | .int i,_=>decide (i.natAbs<10 ^ 60)
 | .str x,_=>Pg x
 | .tup l,r=>decide (0<r)&&(decide (l.length<=4)&&gfitsL l (r-1))
 | .odd _,_=>false
def gfitsL:List TG->Nat->Bool
 | [],_=>true
 | t::l,r=>t.fits r&&gfitsL l r
end
theorem HH(r:Nat):∀ l:List TG,gfitsL l r=l.all λt=>t.fits r
 | []=>by simp[gfitsL]
 | t::l=>by rw[gfitsL,vI,HH r l]
mutual
def KT.emb:KT->TG
 | .int i=>.int i
 | .str x=>.str x
 | .tup l=>.tup (embL l)
def embL:jl->List TG
 | []=>[]
 | t::l=>t.emb::embL l
end
theorem Mt:∀ l:jl,embL l=l.map KT.emb
 | []=>by rw[embL];rfl
 | t::l=>by rw[embL,Mt l];rfl
mutual
theorem JL:∀(t:KT)(r:Nat),t.emb.fits r=t.fits r
 | .int i,r=>by rw[KT.emb,TG.fits,KT.fits]
 | .str x,r=>by rw[KT.emb,TG.fits,KT.fits]
 | .tup l,r=>by rw[KT.emb,TG.fits,KT.fits,embL_fits l (r-1),Mt,zX]
theorem embL_fits:∀(l:jl)(r:Nat),gfitsL (embL l) r=fitsL l r
 | [],r=>by rw[embL,gfitsL,fitsL]
 | t::l,r=>by rw[embL,gfitsL,fitsL,JL t r,embL_fits l r]
end
mutual
def TG.neat:TG->Prop
 | .int _=>True
 | .str x=>x.length<=1000
 | .tup l=>l.length<=5/\neatL l
 | .odd _=>True
def neatL:List TG->Prop
 | []=>True
 | t::l=>t.neat/\neatL l
end
theorem E3:∀{l:List TG}{t:TG},neatL l->t∈l->t.neat
 | [],_,_,h=>by cases h
 | u::l,t,h,hm=>by
  rw[neatL] at h;rcases zU.mp hm with e | e
  ·subst e;exact h.1
  ·exact E3 h.2 e
mutual
theorem IX:∀(t:KT)(r:Nat),t.fits r=true->t.emb.neat
 | .int i,r,h=>by rw[KT.emb,TG.neat];trivial
 | .str x,r,h=>by
  rw[KT.fits] at h;rw[KT.emb,TG.neat];have:=(ZNS h).1;exact zI this (by decide)
 | .tup l,r,h=>by
  rw[KT.fits,zM,zM] at h;rw[KT.emb,TG.neat,Mt,zX,<-Mt];have:=of_decide_eq_true h.2.1;exact⟨∅,embL_neat l (r-1) h.2.2⟩
theorem embL_neat:∀(l:jl)(r:Nat),fitsL l r=true->neatL (embL l)
 | [],r,h=>by rw[embL,neatL];trivial
 | t::l,r,h=>by
  rw[fitsL,zM] at h;rw[embL,neatL];exact⟨IX t r h.1,embL_neat l r h.2⟩
end
end Tw
namespace L2
open PySem PySem.Spec PyProof.Rows
theorem ZF.big{a:jo}{b:St}{H:Hp}{s:aj}(I:ZF X a b H s):sysModules<s.heap.objs.size:=by
 let h:am<s.heap.objs.size:=(I.mod.glob.keeps I.bk).lt;exact Nat.lt_trans (by decide) h
theorem Ds{P:ak}{w:ar}{H:Hp}(h:aC)(a:sysModules<h.objs.size):Zf P w H (h.push { cls:=.type "dict",data:=.dict #[] }) h.objs.size (.dK []):=
 ⟨zE _,beq_eq_false_iff_ne.mpr (Ne.symm (yK a)),[],.nil,Heap.DictOf.new h⟩
def AW:TE:=λ_ H Q=>∀ p,H p=none->Q (.ref p) (upd H p (.dK []))
theorem ZLo{b:Pos}:PE X (.Dict [] [] b) AW:=λc s d H Q I h=>
 wpAny_Dict_empty ⟨.ref s.heap.objs.size,_,I.laid (a:=s.heap.objs.size) (o:=.dK []) (t':=s.toks) (λ_ _ q=>zA _ q) (zY _) (Ds s.heap I.big),rfl,h _ (I.hok.fresh (zY _))⟩
def Nf(x:Str)(n:Int):Str:=⟨(wJ n.toNat x.cps).foldl (· ++ ·) #[]⟩
theorem FP(a:jv):∀(k:Nat)(b:jv),((wJ k a).foldl (· ++ ·) b).size=b.size+k * a.size
 | 0,b=>by simp
 | k+1,b=>by
  rw[List.replicate_succ,List.foldl_cons,FP a k,Array.size_append,Nat.succ_mul]
  lia
inductive V6(x y:V)(H:Hp)(Q:VK):Prop
 |mk(i n:_)(_:x=.str i)(_:y=.int n)(_:i.length=1)(_:2<=n)(_:n<=1000)(_:Q (.str (Nf i n)) H)
theorem ZH0:Y7 X (binaryOp .Mult) (V6):=by
 intro b s o H x y v u Q I f g h;let⟨i,n,rfl,rfl,a,k,l,q⟩:=h;let⟨t,rfl⟩:=f;let⟨m,rfl⟩:=g;let c:¬ n<1:=∅
 let d:¬ ((n==1 || i.length==0)=true):=by rw[a];simp;lia
 let j:(Nf i n).length<=sizeLine:=by
  show ((wJ n.toNat i.cps).foldl (· ++ ·) #[]).size<=ao;let e:i.cps.size=1:=a;rw[FP,e];exact xM (XX (by simp;lia))
 refine PySem.P.mul_str ?_ (λ_ _=>?_) (λ_ _=>?_) ?_
 ·rw[aH ∅,aH ∅];rfl
 ·rw[a];have:(1:Int)<=(2 ^ 63-1) / n:=(Int.le_ediv_iff_mul_le ∅).mpr ∅
  lia
 ·rw[a];unfold Builtin.Str.tooLong ao;exact aH ∅
 ·rw[aJ c,aJ d];exact⟨j,⟨.str (Nf i n),H,I.tok _,⟨_,Z⟩,q⟩⟩
def cV:V->ah
 | .ty n=>.type n
 | .ref a=>.ref a
 | _=>.none
def Hu:V->Bool
 | .ty _=>true
 | .ref _=>true
 | _=>false
theorem ZOe{c:V}{u:ah}(r:ZN c u)(h:Hu c=true):u=cV c:=by
 cases c with
 | ty n=>exact r
 | ref a=>exact r
 | _=>cases h
section
variable{κ:Type}[DecidableEq κ]
def Ym(a:List (κ×V))(k:κ):jf:=(a.find? λb=>decide (b.1=k)).map (·.2)
def XU(a:List (κ×V))(k:κ)(v:V):List (κ×V):=
 if (a.any λb=>decide (b.1=k))=true then a.map (λb=>if b.1=k then (b.1,v) else b) else a++[(k,v)]
def Wg(a:List (κ×V))(k:κ):List (κ×V):=a.filter λb=>decide (b.1≠k)
theorem QL{p:κ×V}{r:List (κ×V)}{k:κ}(e:p.1=k):Ym (p::r) k=some p.2:=by simp[Ym,wA,e]
theorem QR{p:κ×V}{r:List (κ×V)}{k:κ}(e:¬ p.1=k):Ym (p::r) k=Ym r k:=by simp[Ym,wA,e]
theorem Ni(k:κ):∀ a:List (κ×V),(a.any λb=>decide (b.1=k))=(Ym a k).isSome
 | []=>rfl
 | p::r=>by
  rw[vQ];by_cases e:p.1=k
  ·simp only[QL e,aI e,Bool.true_or,Option.isSome_some]
  ·rw[QR e,aH e,Bool.false_or];exact Ni k r
theorem CZ(k j:κ)(y:V):∀ a:List (κ×V),Ym (a.map λb=>if b.1=k then (b.1,y) else b) j=(Ym a j).map λx=>if j=k then y else x
 | []=>rfl
 | p::r=>by
  let c:=CZ k j y r;rw[yT];by_cases h:p.1=k
  ·rw[aK h];by_cases e:p.1=j
   ·rw[QL (p:=(p.1,y)) e,QL e,wH,aK (e.symm.trans h)]
   ·rw[QR (p:=(p.1,y)) e,QR e,c]
  ·rw[aJ h];by_cases e:p.1=j
   ·rw[QL (p:=p) e,QL e,wH,aJ (λz=>h (e.trans z))]
   ·rw[QR (p:=p) e,QR e,c]
theorem He(k j:κ)(y:V):∀ a:List (κ×V),Ym a k=none->Ym (a++[(k,y)]) j=if j=k then some y else Ym a j
 | [],_=>by
  by_cases e:k=j
  ·rw[aK e.symm];exact QL (p:=(k,y)) e
  ·rw[aJ (λz=>e z.symm)];exact QR (p:=(k,y)) e
 | p::r,hn=>by
  rw[vL];let b:¬ p.1=k:=λz=>by rw[QL z] at hn;cases hn
  rw[QR b] at hn;let c:=He k j y r hn;by_cases e:p.1=j
  ·rw[QL e,QL e,aJ (λz=>b (e.trans z))]
  ·rw[QR e,QR e,c]
theorem GF(b:List (κ×V))(k j:κ)(y:V):Ym (XU b k y) j=if j=k then some y else Ym b j:=by
 unfold XU;by_cases a:(b.any λd=>decide (d.1=k))=true
 ·rw[aK a,CZ];rw[Ni] at a;by_cases e:j=k
  ·let⟨x,c⟩:=tV.mp a;rw[aK e,e,c,wH,aK rfl]
  ·rw[aJ e]
   cases Ym b j with
   | none=>rfl
   | some x=>rw[wH,aJ e]
 ·rw[aJ a];refine He k j y b ?_;rw[Ni] at a
  cases q:Ym b k with
  | none=>rfl
  | some x=>rw[q] at a;exact(a Z).elim
theorem K2(a:List (κ×V))(k:κ)(v:V):(XU a k v).length<=a.length+1:=by
 unfold XU;split
 ·rw[zX];lia
 ·rw[zN,zR,tQ];lia
theorem Eb{a:List (κ×V)}{k:κ}(v:V)(h:Ym a k=none):XU a k v=a++[(k,v)]:=by
 unfold XU;rw[Ni,h];exact aJ (by decide)
theorem Yy.isSome_eq{o:jf}{u:jc}(r:Yy o u):o.isSome=u.isSome:=by
 cases o with
 | none=>cases u with
  | none=>rfl
  | some _=>exact(show False from r).elim
 | some _=>cases u with
  | none=>exact(show False from r).elim
  | some _=>rfl
theorem Yy.getD{o:jf}{u:jc}{d:V}{a:ah}(r:Yy o u)(rd:ZN d a):ZN (o.getD d) (u.getD a):=by
 cases o with
 | none=>cases u with
  | none=>exact rd
  | some _=>exact(show False from r).elim
 | some _=>cases u with
  | none=>exact(show False from r).elim
  | some _=>exact r
theorem KV.val{a:List (κ×V)}{g:List (κ×ah)}(r:KV a g)(k:κ):Yy (Ym a k) (valueAt g k):=by
 unfold KV at r
 induction r with
 | nil=>exact True.intro
 | @cons p q l d h t j=>
  let⟨f,i⟩:=h;by_cases e:p.1=k
  ·let c:q.1=k:=f.symm.trans e;let b:valueAt (q::d) k=some q.2:=by simp[valueAt,wA,c]
   rw[QL e,b];exact i
  ·let c:¬ q.1=k:=λz=>e (f.trans z);let b:valueAt (q::d) k=valueAt d k:=by simp[valueAt,wA,c]
   rw[QR e,b];exact j
theorem KV.any{a:List (κ×V)}{c:List (κ×ah)}(r:KV a c)(k:κ):(a.any λb=>decide (b.1=k))=c.any λb=>decide (b.1=k):=by
 unfold KV at r
 induction r with
 | nil=>rfl
 | cons h t d=>rw[vQ,vQ,d,h.1]
theorem KV.repl{b:List (κ×V)}{d:List (κ×ah)}(r:KV b d)(k:κ){y:V}{u:ah}(i:ZN y u):
  KV (b.map λa=>if a.1=k then (a.1,y) else a) (d.map λa=>if a.1=k then (a.1,u) else a):=by
 unfold KV at r⊢
 induction r with
 | nil=>exact .nil
 | @cons p q j l h t g=>
  rw[yT,yT];refine .cons ?_ g;let⟨c,f⟩:=h;by_cases e:p.1=k
  ·rw[aK e,aK (c.symm.trans e)];exact⟨c,i⟩
  ·rw[aJ e,aJ (λz=>e (c.trans z))];exact⟨c,f⟩
theorem KV.put{a:List (κ×V)}{b:List (κ×ah)}(r:KV a b)(k:κ){y:V}{u:ah}(c:ZN y u):KV (XU a k y) (stored b k u):=by
 unfold XU stored;rw[r.any k];by_cases e:(b.any λd=>decide (d.1=k))=true
 ·rw[aK e,aK e];exact r.repl k c
 ·rw[aJ e,aJ e];exact Paired.snoc r ⟨Z,c⟩
theorem KV.drop{c:List (κ×V)}{g:List (κ×ah)}(r:KV c g)(k:κ):KV (Wg c k) (without g k):=by
 unfold KV at r⊢;unfold Wg without
 induction r with
 | nil=>exact .nil
 | @cons p q l m h t f=>
  let⟨d,j⟩:=h;rw[xJ,xJ];by_cases e:p.1=k
  ·let a:¬ decide (p.1≠k)=true:=by simp[e]
   let b:¬ decide (q.1≠k)=true:=by simp[d.symm.trans e]
   rw[aJ a,aJ b];exact f
  ·let i:¬ q.1=k:=λz=>e (d.trans z);let a:decide (p.1≠k)=true:=by simp[e]
   let b:decide (q.1≠k)=true:=by simp[i]
   rw[aK a,aK b];exact .cons ⟨d,j⟩ f
theorem KV.length{a:List (κ×V)}{b:List (κ×ah)}(r:KV a b):a.length=b.length:=Paired.length r
theorem AQ(a:List (κ×V))(k:κ):(Wg a k).length<=a.length:=vV _ _
end
theorem Oo{P:ak}{w:ar}{k:Za}{u:ah}(r:ZN (kV k) u):(VH P w).is k u=true:=by
 cases k with
 | inl i=>let⟨t,e⟩:=(show ∃ t,u=Value.int i t from r);subst e;exact ZGY P w i t
 | inr x=>let⟨t,e⟩:=(show ∃ t,u=Value.str x t from r);subst e;exact ZFx P w x t
theorem Hy{P:ak}{w:ar}:∀{a:jx}{b:jd},ZQ (a.map kV) b->ItemsAre (VH P w) a b
 | [],_,r=>by rw[vK] at r;cases r;exact .nil
 | k::a,_,r=>by
  rw[yT] at r
  cases r with
  | cons h t=>exact .cons (Oo h) (Hy t)
abbrev KT(H:Hp):List (jx×V)->List (jx×ai×ah)->Prop:=Paired λp q=>p.1=q.1/\H q.2.1=some (.tup (p.1.map kV))/\ZN p.2 q.2.2
theorem KT.val{H:Hp}{a:List (jx×V)}{g:List (jx×ai×ah)}(r:KT H a g)(k:jx):Yy (Ym a k) ((atKey g k).map (·.2)):=by
 induction r with
 | nil=>exact True.intro
 | @cons p q l d h t j=>
  let⟨f,_,i⟩:=h;by_cases e:p.1=k
  ·let c:q.1=k:=f.symm.trans e;let b:atKey (q::d) k=some q.2:=by simp[atKey,wA,c]
   rw[QL e,b];exact i
  ·let c:¬ q.1=k:=λz=>e (f.trans z);let b:atKey (q::d) k=atKey d k:=by simp[atKey,wA,c]
   rw[QR e,b];exact j
theorem KT.repl{H:Hp}{a:List (jx×V)}{f:List (jx×ai×ah)}(r:KT H a f)(k:jx){y:V}{u:ah}(j:ZN y u):
  KT H (a.map λc=>if c.1=k then (c.1,y) else c) (f.map (putAt k u)):=by
 induction r with
 | nil=>exact .nil
 | @cons p q l m h t i=>
  rw[yT,yT];refine .cons ?_ i;let⟨b,d,g⟩:=h;unfold putAt;by_cases e:p.1=k
  ·rw[aK e,aK (b.symm.trans e)];exact⟨b,d,j⟩
  ·rw[aJ e,aJ (λz=>e (b.trans z))];exact⟨b,d,g⟩
theorem KT.put{H:Hp}{a:List (jx×V)}{c:List (jx×ai×ah)}(r:KT H a c)(k:jx){b:ai}{y:V}{u:ah}(f:H b=some (.tup (k.map kV)))(d:ZN y u):
  KT H (XU a k y) (storedH c k b u):=by
 let e:(a.any λg=>decide (g.1=k))=(atKey c k).isSome:=by
  rw[Ni,(r.val k).isSome_eq,Option.isSome_map]
 unfold XU storedH;rw[e];by_cases q:(atKey c k).isSome=true
 ·rw[aK q,aK q];exact r.repl k d
 ·rw[aJ q,aJ q];exact Paired.snoc r ⟨Z,f,d⟩
theorem KT.keeps{H c:Hp}{a:List (jx×V)}{d:List (jx×ai×ah)}(r:KT H a d)(f:∀ b e,H b=some (.tup e)->c b=some (.tup e)):KT c a d:=
 Paired.mapP r λ_ _ z=>⟨z.1,f _ _ z.2.1,z.2.2⟩
section
variable{H:Hp}{h:aC}{a:ai}
theorem Fn{u:HO}(b:Y9 P w H h)(e:Rd H a u):Zf P w H h a u:=e.ok b
theorem Nl{b:List (Za×V)}(d:Y9 P w H h)(e:Rd H a (.dK b)):b.length<=ao/\(a==sysModules)=false/\∃ c,KV b c/\h.DictOf (VH P w) a c:=
 show Zf P w H h a (.dK b) from Fn d e
theorem Jl{b:List (Za×V)}(d:Y9 P w H h)(e:H a=some (.dK b)):b.length<=ao/\(a==sysModules)=false/\∃ c,KV b c/\h.DictOf (VH P w) a c:=Nl d (.inl e)
theorem MM{c:jx}(i:Y9 P w H h)(e:H a=some (.tup (c.map kV))):(tupleKind (VH P w)).is h c a:=by
 let⟨_,b,r,o,d,f,n,g⟩:=(show Zf P w H h a (.tup (c.map kV)) from i a _ e);exact⟨o,b.toArray,n,d,f,g,by simpa using Hy r⟩
theorem Ny{b:List (jx×V)}(i:Y9 P w H h)(e:Rd H a (.dT b)):b.length<=ao/\(a==sysModules)=false /\
  ∃ d,KT H b d/\h.DictOfH (tupleKind (VH P w)) a d:=by
 let⟨z,y,d,r,o,k,j,n,s,u,v,A⟩:=(show Zf P w H h a (.dT b) from Fn i e);refine⟨z,y,d,r,o,k,j,n,s,u,v,λx c=>?_,A⟩;let f:∀{l:List (jx×V)}{m:List (jx×ai×ah)},KT H l m->∀ x∈m,(tupleKind (VH P w)).is h x.1 x.2.1:=by
  intro l m q
  induction q with
  | nil=>intro x c;exact nomatch c
  | @cons p q C D g t B=>
   intro x c;rcases zU.mp c with e | c
   ·subst e;exact MM i (by rw[<-g.1];exact g.2.1)
   ·exact B x c
 exact f r x c
theorem ZQl{b:List (jx×V)}(d:Y9 P w H h)(e:H a=some (.dT b)):b.length<=ao/\(a==sysModules)=false /\
  ∃ c,KT H b c/\h.DictOfH (tupleKind (VH P w)) a c:=Ny d (.inl e)
end
def WE(H:Hp)(a:ai)(y:V)(r:jf):Prop:=
 (∃ c k,Rd H a (.dK c)/\y=kV k/\r=Ym c k)\/∃ c k b,Rd H a (.dT c)/\y=.ref b/\H b=some (.tup (k.map kV))/\r=Ym c k
def Qg(H:Hp)(a:ai)(y v:V)(d:Hp):Prop:=
 (∃ c k,H a=some (.dK c)/\y=kV k/\c.length<ao/\d=upd H a (.dK (XU c k v))) \/
 ∃ c k b,H a=some (.dT c)/\y=.ref b/\H b=some (.tup (k.map kV))/\c.length<ao/\d=upd H a (.dT (XU c k v))
theorem WE.k{H:Hp}{a:ai}{b:List (Za×V)}{k:Za}(e:H a=some (.dK b)):WE H a (kV k) (Ym b k):=.inl ⟨b,k,.inl e,Z,Z⟩
theorem Qg.k{H:Hp}{a:ai}{b:List (Za×V)}{k:Za}{v:V}(e:H a=some (.dK b))(c:b.length<ao):Qg H a (kV k) v (upd H a (.dK (XU b k v))):=.inl ⟨b,k,e,Z,c,Z⟩
section
variable{jP:jo}{σ:St}{H:Hp}{a:ai}{y v:V}{u r:ah}{o:jf}
theorem ZKO{Q:ja}(F:A.units+1<cLine)(I:ZF X jP σ H s)(g:WE H a y (some v))(t:ZN y u)(h:∀ f x,ZF X jP σ H x->ZN v f->Q f x):
  aA (az X.prog X.w) A (getItem (.ref a) u) Q E s:=by
 rcases g with ⟨q,k,e,j,l⟩ | ⟨q,k,b,e,j,B,l⟩
 ·subst j;let⟨z,C,G,c,i⟩:=Nl I.hok e;let⟨f,n,d⟩:=Yy.some_of (v:=v) (o:=valueAt G k) (by rw[l];exact c.val k)
  exact wpAny_getItem_of (Oo t) i.mapOf n (h f _ (I.tok _) d)
 ·subst j;cases(show u=Value.ref b from t);let⟨z,C,J,c,i⟩:=Ny I.hok e;let⟨f,n,d⟩:=Yy.some_of (v:=v) (o:=(atKey J k).map (·.2)) (by rw[l];exact c.val k)
  let⟨p,D,m⟩:=yC.mp n;refine wpAny_getItem_heap (tupleKind_room_in1 F) (MM I.hok B) i D ?_;rw[m];exact h f _ (I.tok _) d
theorem Ao{Q:ja}(t:A.units+1<cLine)(I:ZF X jP σ H s)(g:WE H a y o)(m:ZN y u)(h:∀ n,ZF X jP σ H n->Q (.bool (!o.isSome)) n):
  aA (az X.prog X.w) A (ay .NotIn u (.ref a)) Q E s:=by
 rcases g with ⟨j,k,e,f,l⟩ | ⟨j,k,b,e,f,p,l⟩
 ·subst f;let⟨z,i,x,c,d⟩:=Nl I.hok e;refine wpAny_notIn_of (Oo m) i d.mapOf ?_;rw[<-(c.val k).isSome_eq,<-l];exact h _ (I.tok _)
 ·subst f;cases(show u=Value.ref b from m);let⟨z,i,B,c,d⟩:=Ny I.hok e;refine wpAny_notIn_heap (tupleKind_room_in1 t) (MM I.hok p) i d ?_;let q:=(c.val k).isSome_eq;rw[Option.isSome_map] at q;rw[<-q,<-l];exact h _ (I.tok _)
theorem NU{c:aC}{k:Nat}{f:HO}(I:ZF X jP σ H s)(j:Ol (H a))(i:yA a s.heap c)(h:∃ q,c.get? a=some q)(d:Zf X.prog X.w (upd H a f) c a f):
  ZF X jP σ (upd H a f) { s with heap:=c,toks:=k }:=
 I.write (x:=a) (e:=a) j (.inl rfl) (λb q g z=>(i.2 b g).trans z) h d
theorem Jt{P:ak}{w:ar}{f:Hp}{e:aC}{b:List (Za×V)}{d:List (Za×ah)}(z:b.length<=ao)(h:(a==sysModules)=false)(c:KV b d)(g:e.DictOf (VH P w) a d):
  Zf P w f e a (.dK b):=⟨z,h,d,c,g⟩
theorem Co{D:Hp}{Q:Unit->aj->Prop}(V:A.units+1<cLine)(I:ZF X jP σ H s)(g:Qg H a y v D)(L:ZN y u)(K:ZN v r)(h:∀ M,ZF X jP σ D M->Q () M):
  aA (az X.prog X.w) A (setItem (.ref a) u r) Q E s:=by
 rcases g with ⟨d,k,e,p,l,n⟩ | ⟨d,k,b,e,p,F,l,n⟩
 ·subst p n;let⟨z,t,W,f,m⟩:=Jl I.hok e;let C:W.length<=sizeLine:=by rw[<-f.length];exact z
  let x:(XU d k v).length<=sizeLine:=by have:=K2 d k v;lia
  refine wpAny_setItem_pairs (hsz:=C) (Oo L) m λJ i B=>h _ ?_;let U:∃ q,J.get? a=some q:=let ⟨q,_,_,j,_⟩:=i;⟨q,j⟩;exact NU I (by rw[e];exact True.intro) B U (Jt x t (f.put k K) i)
 ·subst p n;cases(show u=Value.ref b from L);let⟨z,t,Y,f,m⟩:=ZQl I.hok e;let C:Y.length<=sizeLine:=by rw[<-Paired.length f];exact z
  let x:(XU d k v).length<=sizeLine:=by have:=K2 d k v;lia
  refine wpAny_setItem_heap (hsz:=C) (tupleKind_room_in1 V) (MM I.hok F) m λJ i B=>h _ ?_;let⟨q,O,N,j,P,R,S,_,T⟩:=i;refine NU I (by rw[e];exact True.intro) B ⟨q,j⟩ ⟨x,t,_,(f.put k F K).keeps λc ys G=>?_,q,O,N,j,P,R,S,T⟩
  rw[ZS (ZW G e (λz=>nomatch z))];exact G
end
section
variable{jP:jo}{σ:St}{H:Hp}{a:ai}{kvs:List (Za×V)}{k:Za}{u:ah}
theorem ZQd{v:V}{b:jd}{Q:ja}(I:ZF X jP σ H s)(e:H a=some (.dK kvs))(j:ZN (kV k) u)(l:Ym kvs k=some v)(n:b=[]\/∃ x,b=[x])(h:∀ f p,ZF X jP σ (upd H a (.dK (Wg kvs k))) p->ZN v f->Q f p):aA (az X.prog X.w) A (call (.builtin "dict.pop") (.ref a::u::b)) Q E s:=by
 let⟨z,C,r,c,m⟩:=Jl I.hok e;let⟨f,K,g⟩:=Yy.some_of (v:=v) (o:=valueAt r k) (by rw[<-l];exact c.val k)
 let G:(keyPart u).isSome=true:=by
  cases k with
  | inl i=>let⟨t,q⟩:=(show ∃ t,u=Value.int i t from j);subst q;rfl
  | inr x=>let⟨t,q⟩:=(show ∃ t,u=Value.str x t from j);subst q;rfl
 let B:argsOk "dict.pop" ⟨.ref a::u::b,[]⟩:=by
  rcases n with q | ⟨x,q⟩
  ·subst q;exact rA _ _
  ·subst q;exact PySem.F.args_dict_pop_3 _ _ _
 refine call_meetsIn tX m.typeIs rF B (meets_dict_pop_there (VH X.prog X.w) a (Oo j) b n G)
  ⟨r,f,m,by rw[<-c.length];exact z,K,λy d J=>h f _ ?_ g⟩
 let D:∃ q,y.get? a=some q:=let ⟨q,_,_,hq,_⟩:=d;⟨q,hq⟩;exact NU I (by rw[e];exact True.intro) J D (Jt (zI (AQ kvs k) z) C (c.drop k) d)
end
def My(i:Expr):Prop:=∀ b a,subscripted i false b a=operate [b,a] (getItem b a)
theorem Hl{a:ak}{w:ar}{A:aw}{E:ja}{s:aj}{j:Env}{c b:Expr}{n:Pos}{T id:String}{Q:ja}(q:typeLookup (.type T) "__getitem__" = pure (some (.builtin id)))(t:My b)(h:aA (az a w) A (aF c j) (λo f=>aA (az a w) A (aF b j) (λi d=>d.TypeIs o T/\aA (az a w) A (getItem o i) Q E d) E f) E s):
  aA (az a w) A (aF (.Subscript c b n) j) Q E s:=by
 refine Subscript_ (ae h (λo f l=>ae l (λi d e=>?_) λ_ _ x=>x) λ_ _ x=>x);let⟨p,e⟩:=e;unfold subscriptTail;refine aa ?_;rw[getitemInPython_of_ne p.not_modules];refine aa (wpAny_specialOf p q ?_);let k:aA (az a w) A (subscripted b false o i) (λr g=>aA (az a w) A (letTemporaryGo c o r >>= λ_=>pure r) Q E g) E d:=by
  rw[t o i];exact wpAny_operating (ae e (λr g m=>aa (wpAny_letTemporaryGo (ad m))) λ_ _ x=>x)
 first
  | exact ad (aa k)
  | exact aa (ad (aa k))
  | exact aa k
theorem Cf{X:Cx}{c:jo}{h:St}{H:Hp}{s:aj}{a:ai}{y:V}{o:jf}(I:ZF X c h H s)(g:WE H a y o):s.TypeIs (.ref a) "dict" :=by
 rcases g with ⟨f,k,e,_,_⟩ | ⟨f,k,b,e,_,_,_⟩
 ·let⟨_,_,i,_,d⟩:=Nl I.hok e;exact d.typeIs
 ·let⟨_,_,j,_,d⟩:=Ny I.hok e;exact d.typeIs
inductive NK(Q:VK)(x y:V)(b:Hp):Prop
 |mk(a v:_)(_:x=.ref a)(_:WE b a y (some v))(_:Q v b)
def ZQY(d e:TE):TE:=λa H Q=>d a H λx b=>e a b λy c=>NK Q x y c
inductive PH(Q:VK)(y x:V)(b:Hp):Prop
 |mk(a o:_)(_:x=.ref a)(_:WE b a y o)(_:Q (.bl (!o.isSome)) b)
def ZNT(e d:TE):TE:=λa H Q=>e a H λy b=>d a b λx c=>PH Q y x c
inductive Oc(D:YH)(d:L2.St)(v x y:V)(c:Hp):Prop
 |mk(a b:_)(_:x=.ref a)(_:Qg c a y v b)(_:D.nx d b)
def Ac(e g f:TE):TS:=λD a H=>f a H λv b=>e a b λx c=>g a c λy d=>Oc D a v x y d
section
variable{o i e value:Expr}{pos pos' tpos:Pos}{td ty tv:TE}
theorem HJ(t:X.A.units+1<cLine)(q:PE X o td)(p:PE X i ty)(r:My i:=by exact λ_ _=>rfl):PE X (.Subscript o i pos) (ZQY td ty):=by
 intro b s f H Q I h;refine Hl qU.lookup r (YF (q b s f H _ I h) λu D x j l B w=>YA (p b D f j _ l w) ?_);rintro E G ⟨y,k,d,C,a,v,n,g,z⟩;subst n;obtain rfl:u=Value.ref a:=B;exact⟨Cf d g,ZKO t d g C λK J m c=>⟨v,k,m,c,z⟩⟩
theorem ZIU(q:X.A.units+1<cLine)(n:PE X i ty)(p:PE X o td):PC X .NotIn i o (ZNT ty td):=by
 intro b s c H Q I h;refine YF (n b s c H _ I h) λC B y d j z t=>YA (p b B c d _ j t) ?_;rintro u D ⟨x,f,k,w,a,r,m,g,v⟩;subst m;obtain rfl:u=Value.ref a:=w;exact Ao q k g z λE l=>⟨.bl (!r.isSome),f,l,Z,v⟩
theorem Dc(z:X.A.units+1<cLine)(t:PE X o td)(q:PE X i ty)(B:PE X value tv)(w:swapsWith value (some (.Subscript o i pos')) pos.line X.env=pure false):
  PS X (.Assign [.Subscript o i pos'] value pos) (Ac td ty tv):=by
 intro b s c H D I h;refine wpAny_Assign_Subscript (YF (B b s c H _ I h) λr L v d k G C=>YF (t b L c d _ k C) λu M x f l J E=>YA (q b M c f _ l E) λO P ⟨y,N,m,K,a,j,p,g,F⟩=>?_) w;subst p;obtain rfl:u=Value.ref a:=J;exact Co z m g K G λQ n=>⟨c,j,n,F⟩
end
section
variable{pos:Pos}
end
def Jj:jH->St->Hp->(List (V×V)->Hp->Prop)->Prop
 | [],_,H,Q=>Q [] H
 | (e,f)::r,σ,H,Q=>e σ H λx a=>f σ a λy b=>Jj r σ b λd c=>Q ((x,y)::d) c
abbrev VV:List (V×V)->List (ah×ah)->Prop:=Paired λp q=>ZN p.1 q.1/\ZN p.2 q.2
def LM(X:Cx)(d:Pos)(c:List (jG))(a:jw)(e:jH):Prop:=
 ∀(b:jo)(s:aj)(f:St)(H:Hp)(Q:List (V×V)->Hp->Prop),ZF X b f H s->Jj e f H Q ->
  aA (az X.prog X.w) X.A (evalPairs (pairTrees c a X.env d)) (λj i=>∃ h g,ZF X b f g i/\VV h j/\Q h g) X.xe s
theorem ZNn{X:Cx}{a:Pos}:LM X a [] [] []:=λb s c H Q I h=>pairTrees_nil_walk ⟨[],H,I,.nil,h⟩
theorem ZLm{X:Cx}{b:Pos}{k v:Expr}{f:List (jG)}{j:jw}{g i:TE}{c:jH}(r:PE X k g)(w:PE X v i)(t:LM X b f j c):
  LM X b (some k::f) (v::j) ((g,i)::c):=λa s e H Q I h=>
 pairTrees_cons_walk (YF (r a s e H _ I h) λu F x l o D A=>YF (w a F e l _ o A) λK G y m p E B=>
  YF (t a G e m _ p B) λL J z n q d C=>⟨(x,y)::z,n,q,.cons ⟨D,E⟩ d,C⟩)
def Nx(c a:List (Za×V)):List (Za×V):=a.foldl (λb d=>XU b d.1 d.2) c
theorem KV.merge:∀{b:List (Za×V)}{d:List (Za×ah)}{a:List (Za×V)}{c:List (Za×ah)},KV b d->KV a c->KV (Nx a b) (merged c d):=by
 intro b d a c r;unfold KV at r
 induction r generalizing a c with
 | nil=>intro q;exact q
 | @cons p q i j h t f=>
  intro g;let e:KV (XU a p.1 p.2) (stored c q.1 q.2):=by
   have:=g.put p.1 h.2;rw[<-h.1];exact this
  exact f e
theorem FQ:∀(b a:List (Za×V)),(Nx a b).length<=a.length+b.length
 | [],a=>by show a.length<=a.length+0;lia
 | p::r,a=>by
  let c:=FQ r (XU a p.1 p.2);let d:=K2 a p.1 p.2;show (Nx (XU a p.1 p.2) r).length<=_;rw[zR];lia
theorem Er{P:ak}{w:ar}:∀{d:List (Za×V)}{g:List (ah×ah)},VV (d.map λf=>(kV f.1,f.2)) g->∃ e,Carries (VH P w) g e/\KV d e
 | [],_,r=>by rw[vK] at r;cases r;exact⟨[],True.intro,.nil⟩
 | p::d,_,r=>by
  rw[yT] at r
  cases r with
  | @cons a b j l h t=>
   let⟨e,c,q⟩:=Er (P:=P) (w:=w) t;let⟨k,i⟩:=b;exact⟨(p.1,i)::e,⟨Oo h.1,Z,c⟩,.cons ⟨Z,h.2⟩ q⟩
def AO(b:jH):TE:=λf H Q=>∀ p,H p=none->Jj b f (upd H p (.dK [])) λe c=>c p=some (.dK [])/\∃ a:List (Za×V),e=a.map (λd=>(kV d.1,d.2))/\a.length<=15/\Q (.ref p) (upd c p (.dK (Nx [] a)))
theorem ZMw{X:Cx}{k:Pos}{b:List (jG)}{d:jw}{l:jH}(h:LM X k b d l)(g:b.all (·.isSome)=true)(C:b.length=d.length)(x:b≠[])(m:b.length<=15):PE X (.Dict b d k) (AO l):=by
 intro j s N H Q I q;let D:=I.hok.fresh (zY s.heap.objs.size);let r:=I.laid (a:=s.heap.objs.size) (o:=.dK []) (h':=s.heap.push { cls:=.type "dict",data:=.dict #[] }) (t':=s.toks) (λ_ _ q=>zA _ q) (zY _) (Ds s.heap I.big);refine wpAny_Dict_walk (knd:=VH X.prog X.w) g C x m (YA (h j _ N _ _ r (q _ D)) ?_);rintro U T ⟨S,O,p,n,e,i,u,R,G⟩;subst u;let⟨L,c,K⟩:=Er (P:=X.prog) (w:=X.w) n;let⟨z,A,M,J,t⟩:=Jl p.hok e;cases J;refine⟨L,c,t,λv f E=>⟨.ref s.heap.objs.size,_,?_,Z,G⟩⟩;let F:(Nx [] i).length<=sizeLine:=by
  let y:=FQ i [];rw[tQ] at y;rw[sizeLine_eq];lia
 let B:∃ q,v.get? s.heap.objs.size=some q:=let ⟨q,_,_,hq,_⟩:=f;⟨q,hq⟩;exact NU p (by rw[e];exact True.intro) E B (Jt F A (K.merge .nil) f)
structure M1(X:Cx)(o:Expr)(m:Str)(jh:Pos)(e:Expr)(jg:Pos):Prop where
 base:attributeBase o m X.env (aF o X.env)=aF o X.env
 few:((aE jg (aq [e] X.env)).all (λx=>!x.1)&&(backToKw jg (keywordEach [] X.env)).all (λx=>x.1.isSome)
  && decide (([e]:jw).length+([]:List Keyword).length+(if ([]:List Keyword).isEmpty then 0 else 1)<30))=true
 line:(jh.endLine==jg.line)=true
 trees:aE jg (aq [e] X.env)=[(false,aF e X.env)]
structure M2(X:Cx)(o:Expr)(m:Str)(jh:Pos)(e f:Expr)(jg:Pos):Prop where
 base:attributeBase o m X.env (aF o X.env)=aF o X.env
 few:((aE jg (aq [e,f] X.env)).all (λx=>!x.1)&&(backToKw jg (keywordEach [] X.env)).all (λx=>x.1.isSome)
  && decide (([e,f]:jw).length+([]:List Keyword).length+(if ([]:List Keyword).isEmpty then 0 else 1)<30))=true
 line:(jh.endLine==jg.line)=true
 trees:aE jg (aq [e,f] X.env)=[(false,aF e X.env),(false,aF f X.env)]
def JW(H:Hp)(a:ai):Prop:=(∃ b,Rd H a (.dK b))\/∃ b,Rd H a (.dT b)
theorem GL{X:Cx}{g:jo}{l:St}{H:Hp}{s:aj}{a:ai}(I:ZF X g l H s)(d:JW H a):
  s.TypeIs (.ref a) "dict" /\ (∀ b,Value.ref a=.ref b->∃ c,s.heap.get? b=some c/\c.dict=none)/\(a==sysModules)=false:=by
 rcases d with ⟨k,e⟩ | ⟨k,e⟩
 ·let⟨_,j,m,_,f⟩:=Nl I.hok e;refine⟨f.typeIs,λb q=>?_,j⟩;cases q;let⟨c,_,_,h,i,_⟩:=f;exact⟨c,h,i.2.1⟩
 ·let⟨_,j,n,_,f⟩:=Ny I.hok e;refine⟨f.typeIs,λb q=>?_,j⟩;cases q;let⟨c,_,_,h,i,_⟩:=f;exact⟨c,h,i.2.1⟩
section
variable{jP:jo}{σ:St}{H:Hp}{a:ai}{y d:V}{u r:ah}{o:jf}
theorem ZO5{Q:ja}(v:A.units+1<cLine)(I:ZF X jP σ H s)(g:WE H a y o)(n:ZN y u)(rd:ZN d r)(h:∀ q p,ZF X jP σ H p->ZN (o.getD d) q->Q q p):
  aA (az X.prog X.w) A (call (.builtin "dict.get") [.ref a,u,r]) Q E s:=by
 rcases g with ⟨m,k,e,i,l⟩ | ⟨m,k,b,e,i,t,l⟩
 ·subst i;let⟨z,j,B,c,f⟩:=Nl I.hok e;refine call_meetsIn sO f.typeIs rG (rB _ _ _) (meets_dict_get_default (VH X.prog X.w) a (Oo n) j r) ⟨_,f.mapOf,h _ _ (I.tok _) ?_⟩;rw[l];exact(c.val k).getD rd
 ·subst i;cases(show u=Value.ref b from n);let⟨z,j,x,c,f⟩:=Ny I.hok e;refine call_meetsIn sO f.typeIs rG (rB _ _ _) (meetsH_dict_get_default (tupleKind (VH X.prog X.w)) a b j r) ⟨tupleKind_room_in1 v,k,x,MM I.hok t,f,h _ _ (I.tok _) ?_⟩;rw[l];exact(c.val k).getD rd
end
inductive OF(g f:TE)(d:L2.St)(Q:VK)(x:V)(b:Hp):Prop
 |mk(a:_)(_:x=.ref a)(_:JW b a)(_:g d b λy e=>f d e λz c=>∃ o,WE c a y o/\Q (o.getD z) c)
def ZOw(c e d:TE):TE:=λa H Q=>c a H λx b=>OF e d a Q x b
inductive Pr(e:TE)(f:L2.St)(Q:VK)(x:V)(c:Hp):Prop
 |mk(a:_)(_:x=.ref a)(_:JW c a)(_:e f c λy d=>∃ b k v,d a=some (.dK b)/\y=kV k/\Ym b k=some v/\Q v (upd d a (.dK (Wg b k))))
def ZPc(c d:TE):TE:=λa H Q=>c a H λx b=>Pr d a Q x b
section
variable{o e f:Expr}{jh jg:Pos}{td ty tx:TE}
theorem BJ(C:X.A.units+1<cLine)(B:PE X o td)(v:PE X e ty)(w:PE X f tx)(m:M2 X o "get" jh e f jg):PE X (.Call (.Attribute o "get" jh) [e,f] [] jg) (ZOw td ty tx):=by
 intro b s i H Q I h;refine wpAny_Call_method m.base m.few m.line sJ sO PySem.F.type_dict_get (YA (B b s i H _ I h) ?_);rintro u M ⟨x,k,j,J,a,t,d,D⟩;subst t;obtain rfl:u=Value.ref a:=J;let⟨O,P,_⟩:=GL j d;exists O,P;rw[m.trees];refine Calls.callWith_builtin Z (Calls.evalArgs_plain (Calls.spliced_cons (YF (v b M i k _ j D) λS N y l p K E=>
  Calls.spliced_cons (YA (w b N i l _ p E) λR U ⟨z,n,q,L,T,g,G⟩=>Calls.spliced_nil ?_))))
 exact ZO5 C q g K L λW V r c=>⟨_,n,r,c,G⟩
theorem ZKm(z:PE X o td)(w:PE X e ty)(m:M1 X o "pop" jh e jg):PE X (.Call (.Attribute o "pop" jh) [e] [] jg) (ZPc td ty):=by
 intro b s i H Q I h;refine wpAny_Call_method m.base m.few m.line sJ tX rO (YA (z b s i H _ I h) ?_);rintro u G ⟨x,j,g,D,a,r,d,B⟩;subst r;obtain rfl:u=Value.ref a:=D;let⟨J,K,_⟩:=GL g d;exists J,K;rw[m.trees];refine Calls.callWith_builtin Z (Calls.evalArgs_plain (Calls.spliced_cons (YA (w b G i j _ g B) λM N ⟨y,L,n,E,A,k,v,q,t,l,C⟩=>Calls.spliced_nil ?_)));subst t;exact ZQd n q E l (.inl rfl) λP O p c=>⟨v,_,p,c,C⟩
end
section
variable{jP:jo}{σ:St}{H:Hp}{a:ai}{kvs:List (Za×V)}
end
section
variable{jP:jo}{σ:St}{H:Hp}{a:ai}{y:V}{u:ah}
end
section
variable{κ:Type}[DecidableEq κ]
theorem En{a:List (κ×V)}{k:κ}{v:V}(h:Ym a k=some v):k∈a.map (·.1):=by
 let q:(a.any λc=>decide (c.1=k))=true:=by
  rw[Ni,h]
  all_goals rfl
 let⟨p,b,e⟩:=tM.mp q;exact zP.mpr ⟨p,b,of_decide_eq_true e⟩
theorem ZKE{p:κ×V}{r:List (κ×V)}{k:κ}(e:p.1=k):Wg (p::r) k=Wg r k:=by
 unfold Wg;rw[xJ,aJ (by simp[e])]
theorem ZJs{p:κ×V}{r:List (κ×V)}{k:κ}(e:¬ p.1=k):Wg (p::r) k=p::Wg r k:=by
 unfold Wg;rw[xJ,aK (by simp[e])]
end
end L2
namespace Tw
open PySem PySem.Spec L2 PyProof.Rows
def UY(d:ai)(a:Array DictEntry):HO:=.ext λh=>(d==sysModules)=false/\a.size<=ao/\∃ o b,h.get? d=some o/\o.ExactDict/\o.data=.dict a b
abbrev Nj(w:ar)(x:KT×V×V)(e:DictEntry):Prop:=e.hash=We w x.1/\ZN x.2.1 e.key/\ZN x.2.2 e.val
structure Zu(w:ar)(H:Hp)(d:ai)(xs:List (KT×V×V)):Prop where
 ex:∃ es,H d=some (UY d es)/\Paired (Nj w) xs es.toList
 key:∀ x∈xs,ZD H x.1 x.2.1/\x.1.depth<=3
 nd:(xs.map (·.1)).Nodup
theorem Iw{P:ak}{w:ar}{H:Hp}{h:aC}{d:ai}{e:Array DictEntry}(i:(d==sysModules)=false)(j:e.size<=ao)(f:∃ o c,h.get? d=some o/\o.ExactDict/\o.data=.dict e c):Zf P w H h d (UY d e):=by
 exists ⟨i,j,f⟩,?_
 ·let⟨o,c,g,_⟩:=f;exact⟨o,g⟩
 ·rintro a b ⟨l,m,o,c,g,r⟩ k;exact⟨l,m,o,c,k o g,r⟩
theorem NB{d c:Type}{F:d->c->Prop}:∀{l:List d}{m:List c}{i:Nat}{b:c},Paired F l m->m[i]? = some b->∃ a,l[i]? = some a/\F a b
 | _,_,_,_,.nil,e=>by simp at e
 | _,_,0,_,.cons r _,e=>by simp at e;subst e;exact⟨_,Z,r⟩
 | _,_,i+1,b,.cons _ t,e=>by
  let⟨a,f,g⟩:=NB (i:=i) (b:=b) t (by simpa using e)
  exact⟨a,by simpa using f,g⟩
theorem Jd{c d:Type}{F:c->d->Prop}:∀{l:List c}{m:List d},l.length=m.length->(∀(i:Nat) a b,l[i]? = some a->m[i]? = some b->F a b)->Paired F l m
 | [],[],_,_=>.nil
 | [],_::_,h,_=>by simp at h
 | _::_,[],h,_=>by simp at h
 | a::l,b::m,h,f=>.cons (f 0 a b Z Z) (Jd (by simpa using h) λi x y e g=>f (i+1) x y (by simpa using e) (by simpa using g))
theorem IS{c d:Type}{F:c->d->Prop}{a:c}{b:d}(h:F a b){l:List c}{m:List d}(g:Paired F l m):Paired F (l++[a]) (m++[b]):=by
 induction g with
 | nil=>exact .cons h .nil
 | cons r _ e=>exact .cons r e
def Ws(a:List (KT×V×V))(t:KT):jf:=(a.find? λx=>x.1.eqb t).map (·.2.2)
def Nh(t:KT)(v:V)(x:KT×V×V):KT×V×V:=if x.1.eqb t=true then (x.1,x.2.1,v) else x
def Qs(a:List (KT×V×V))(t:KT)(y v:V):List (KT×V×V):=if (a.any λx=>x.1.eqb t)=true then a.map (Nh t v) else a++[(t,y,v)]
theorem WO{b:List (KT×V×V)}{t:KT}:(b.any λx=>x.1.eqb t)=true ↔ t∈b.map (·.1):=by
 rw[tM,zP];constructor
 ·rintro⟨x,a,e⟩;exact⟨x,a,US _ _ e⟩
 ·rintro⟨x,a,e⟩;exact⟨x,a,by rw[e];exact QF _⟩
theorem JD(t:KT)(v:V)(x:KT×V×V):(Nh t v x).1=x.1/\(Nh t v x).2.1=x.2.1:=by
 unfold Nh;split <;> exact⟨Z,Z⟩
theorem Ji(a:List (KT×V×V))(t:KT)(y v:V):(Qs a t y v).map (·.1)=if (a.any λx=>x.1.eqb t)=true then a.map (·.1) else a.map (·.1)++[t]:=by
 unfold Qs;split
 ·rw[uA];exact List.map_congr_left λx _=>(JD t v x).1
 ·rw[zF];rfl
theorem ZKp(a:List (KT×V×V))(t:KT)(y v:V):(Qs a t y v).length<=a.length+1:=by
 have:=congrArg wM (Ji a t y v);rw[zX] at this;rw[this];split
 ·rw[zX];lia
 ·rw[zN,zX];simp
theorem Kf{a:List (KT×V×V)}(c:(a.map (·.1)).Nodup){j:Nat}{x:KT×V×V}(e:a[j]? = some x):Ws a x.1=some x.2.2:=by
 induction a generalizing j with
 | nil=>simp at e
 | cons z a f=>
  rw[yT,yW] at c
  cases j with
  | zero=>
   simp at e;subst e;simp[Ws,QF]
  | succ j=>
   let d:a[j]? = some x:=by simpa using e
   let b:z.1.eqb x.1=false:=by
    cases q:z.1.eqb x.1 with
    | false=>rfl
    | true=>exact absurd (zP.mpr ⟨x,zL d,(US _ _ q).symm⟩) c.1
   have:=f c.2 d;simpa [Ws,wA,b] using this
theorem GY{a:List (KT×V×V)}{t:KT}(h:t∉a.map (·.1)):Ws a t=none:=by
 unfold Ws;rw[Option.map_eq_none_iff,List.find?_eq_none];intro x b z;exact h (zP.mpr ⟨x,b,US _ _ z⟩)
theorem Zu.same{w:ar}{H a:Hp}{d:ai}{c:List (KT×V×V)}(x:Zu w H d c)(s:ZE H a):Zu w a d c:=by
 let⟨e,f,g⟩:=x.ex;exact⟨⟨e,s _ _ f,g⟩,λz b=>⟨(x.key z b).1.mono (ZE.tups s),(x.key z b).2⟩,x.nd⟩
theorem Zu.but{w:ar}{H H':Hp}{d p:ai}{b:List (KT×V×V)}(x:Zu w H d b)(s:ZH p H H')(t:Z6 H H')(n:d≠p):Zu w H' d b:=by
 let⟨c,e,f⟩:=x.ex;exact⟨⟨c,s _ _ e n,f⟩,λz a=>⟨(x.key z a).1.mono t,(x.key z a).2⟩,x.nd⟩
section
variable{jP:jo}{σ:L2.St}{H:Hp}
theorem Zu.es{d:ai}{a:List (KT×V×V)}{c:Array DictEntry}(I:ZF X jP σ H s)(x:Zu X.w H d a)(r:Paired (Nj X.w) a c.toList):Nr X.w s.heap (a.map (·.1)) c:=by
 refine⟨by have:=Paired.length r;simpa using this.symm,λi e f=>?_,x.nd⟩
 rw[<-vU] at f;let⟨z,b,h,j,k⟩:=NB r f;let g:=x.key z (zL b);exact⟨z.1,by rw[zG,b];rfl,h,VX I _ _ _ g.1 j,g.2⟩
theorem Ju{d:ai}{f:List (KT×V×V)}{b:Array DictEntry}{o:aG}{q:Nat}{t:KT}{y:V}{u:ah}{Q:jp->aj->Prop}(I:ZF X jP σ H s)(x:Zu X.w H d f)(r:Paired (Nj X.w) f b.toList)(B:s.heap.get? d=some o)(v:o.data=.dict b q)(D:ZD H t y)(m:t.depth<=3)(G:ZN y u)(C:A.units+3<cLine)(h:t∉f.map (·.1)->Q none s)(c:∀ j z e,f[j]? = some z->z.1=t->b[j]? = some e->Nj X.w z e->Q (some j) s):aA (az X.prog X.w) A (dictFind d u (We X.w t)) Q E s:=by
 refine ZNV (VX I t y u D G) m C B v (x.es I r) h λj l=>?_;rw[zG] at l;let⟨z,g,n⟩:=yC.mp l;let F:j<b.size:=by
  have:=Paired.length r;let⟨a,_⟩:=zB.mp g;simp at this
  lia
 let i:b[j]? = some b[j]:=xF F;let⟨J,k,p⟩:=NB r (by rw[vU];exact i)
 rw[g] at k;cases k;exact c j z _ g n i p
theorem ZQa{d:ai}{l:List (KT×V×V)}{t:KT}{y v:V}{u r:ah}{Q:Unit->aj->Prop}(hu:A.units+4<cLine)(I:ZF X jP σ H s)(x:Zu X.w H d l)(hl:l.length<1000)(hy:ZD H t y)(dt:t.depth<=3)(ry:ZN y u)(rv:ZN v r)(h:∀ s' H',ZF X jP σ H' s'->ZH d H H'->Zu X.w H' d (Qs l t y v)->Q () s'):aA (az X.prog X.w) A (setItem (.ref d) u r) Q E s:=by
 let⟨p,hH,k⟩:=x.ex;let⟨⟨O,P,o,W,F,hx,B⟩,_⟩:=I.hok d _ hH;let S:p.size=l.length:=by have:=Paired.length k;simpa using this.symm
 let hT:s.TypeIs (.ref d) "dict" :=⟨o,F,hx.1⟩;unfold setItem
 try with_reducible refine af ?_
 refine aa (wpAny_sequenceKey hT (by decide) ?_)
 refine aa (wpAny_callSpecial?_slot (name:=xQ "__setitem__") hT slot_dict_setitem (wpAny_call_entry slot_dict_setitem hT entry_dict_setitem ?_ (args_dict_setitem _ _ _)));show aA _ _ (Builtin.Dict.notOrdered "__setitem__" ⟨[.ref d,u,r],[]⟩ >>= _) _ _ s;refine aa (wpAny_notOrdered_dict hT ?_);show aA _ _ (dictSet d u r >>= _) _ _ s;refine aa ?_;unfold dictSet
 try with_reducible refine af ?_
 refine aa (Mq t.depth t (zY _) (VX I t y u hy ry) (by show A.units+1+_<_;lia) λT a1=>?_)
 unfold dictSetHashed
 try with_reducible refine af ?_
 let I1:ZF X jP σ H { s with toks:=T }:=I.tok T;let mu:Ol (H d):=by rw[hH];exact True.intro
 let f:∀ c,Z6 H (upd H d (UY d c)):=λc b ws e=>by rw[ZS (ZW e hH)];exact e
 let L:∀(c:Array DictEntry)(Y:aC),c.size<=ao->yA d s.heap Y->(∃ o W,Y.get? d=some o/\o.ExactDict/\o.data=.dict c W)->Paired (Nj X.w) (Qs l t y v) c.toList->Q () { s with heap:=Y,toks:=T }:=λc Y G hs N hp=>by
  refine h _ (upd H d (UY d c)) (NU I mu hs (by let⟨o,_,g,_⟩:=N;exact⟨o,g⟩) (Iw O G N)) (λb o e n=>by rw[ZS n];exact e) ⟨⟨c,ZZ,hp⟩,λz G=>?_,?_⟩
  ·unfold Qs at G;split at G
   ·let⟨z',R,rfl⟩:=zP.mp G;rw[(JD t v z').1,(JD t v z').2];exact⟨(x.key z' R).1.mono (f c),(x.key z' R).2⟩
   ·rcases zD.mp G with q | q
    ·exact⟨(x.key z q).1.mono (f c),(x.key z q).2⟩
    ·rw[zK.mp q];exact⟨hy.mono (f c),dt⟩
  ·rw[Ji];split
   ·exact x.nd
   ·rename_i hn
    rw[xR];exact⟨x.nd,by simp,λa ha b m=>by rw[zK.mp m];exact λz=>hn (WO.mpr (z ▸ ha))⟩
 refine aa (Ju (A:=A.in1) I1 x k F B hy dt ry (by show A.units+1+3<_;lia) (λhn=>?_) λj z e e1 U e3 e4=>?_)
 ·let D:¬ (l.any λx=>x.1.eqb t)=true:=λq=>hn (WO.mp q);refine aa (wpAny_rule (wpAny_updateDictKeys (s:={ s with toks:=T }) (hz:=P) F B ?_));refine ad ⟨.none,Z,ad (L (p.push ⟨We X.w t,u,r⟩) _ (by rw[Array.size_push,S];exact xM (XX ∅)) (yA.update ..) ⟨_,W+1,wE _ F (Obj.isFreed_of_dict (Obj.data_mapDictKeys B _)),hx.mapDictKeys _,Obj.data_mapDictKeys B _⟩ ?_)⟩
  unfold Qs;rw[aJ D,Array.toList_push];exact IS ⟨Z,ry,rv⟩ k
 ·let D:(l.any λx=>x.1.eqb t)=true:=WO.mpr (zP.mpr ⟨z,zL e1,U⟩);refine aa (wpAny_rule (aa (wpAny_updateDict (s:={ s with toks:=T }) F B (wpAny_point ?_))));refine ad ⟨.none,Z,ad (L (p.modify j λe=>{ e with val:=r }) _ (by rw[Array.size_modify];exact P) (yA.update ..) ⟨_,W,wE _ F (Obj.isFreed_of_dict (Obj.data_mapDict B _)),hx.mapDict _,Obj.data_mapDict B _⟩ ?_)⟩
  unfold Qs;rw[aK D];let lm:(p.modify j λe=>{ e with val:=r }).toList.length=p.size:=by rw[uE];exact Array.size_modify
  refine Jd (by rw[lm,zX,S]) λi a b ha m=>?_
  rw[zG] at ha;let⟨a',J,rfl⟩:=yC.mp ha;rw[vU,Array.getElem?_modify] at m;let M:p[i]? = some (p[i]'(by let⟨l1,_⟩:=zB.mp J;lia)):=xF _
  let⟨a2,K,r1,r2,r3⟩:=NB k (by rw[vU];exact M)
  rw[J] at K;cases K;rw[M] at m;by_cases C:j=i
  ·subst C;rw[aK rfl,wH] at m;cases m;rw[e1] at J;cases J;unfold Nh;rw[U,QF,aK rfl];rw[U] at r1;exact⟨r1,r2,rv⟩
  ·rw[aJ C] at m;cases m;let a0:a'.1.eqb t=false:=by
    cases q:a'.1.eqb t with
    | false=>rfl
    | true=>
     let q1:(l.map (·.1))[i]? = some t:=by rw[zG,J];exact congrArg some (US _ _ q)
     let q2:(l.map (·.1))[j]? = some t:=by rw[zG,e1];exact congrArg some U
     let⟨l1,_⟩:=zB.mp q2;exact absurd ((tJ l1 x.nd).mp (q2.trans q1.symm)) C
   unfold Nh;rw[a0,aJ zW];exact⟨r1,r2,r3⟩
end
end Tw
namespace Srt
open PySem PySem.W PyProof.Rows
structure Q0(lt:Nat->Nat->Bool):Prop where
 asym:∀ i j,lt i j=true->lt j i=false
 trans:∀ i j k,lt j i=false->lt k j=false->lt k i=false
def gt(p:jv)(i:Nat):Nat:=p.getD i 0
theorem OW(p:jv)(i:Nat):gt p i=(p[i]?).getD 0:=by unfold gt;rw[Array.getD_eq_getD_getElem?]
theorem LB{p:jv}{i j:Nat}(a:j<=p.size)(k:Nat):gt (kas_rev p i j) k=if i<=k/\k<j then gt p (i+j-1-k) else gt p k:=by
 rw[OW,OW,OW];unfold kas_rev;rw[getElem?_mirror_all a];split <;> rfl
theorem ZPa{p:jv}{k l:Nat}(a:k<p.size)(b:l<=k)(x:Nat):gt (bubble p k (k-l)) x=if x=l then gt p k else if l<x/\x<=k then gt p (x-1) else gt p x:=by
 rw[OW,OW,OW,OW,getElem?_bubble a (k-l) ∅]
 let e:k-(k-l)=l:=∅
 rw[e];split
 ·rfl
 ·split <;> rfl
def PB(n:Nat)(p:jv):Prop:=p.Perm (xZ (yJ n))
theorem PB.size{n:Nat}{p:jv}(h:PB n p):p.size=n:=by rw[h.size_eq];simp
theorem PB.lt{n:Nat}{p:jv}(h:PB n p){i:Nat}(a:i<n):gt p i<n:=by
 let b:=h.size;rw[OW,xF ∅]
 have:p[i]'∅∈(xZ (yJ n)):=h.mem_iff.mp (Array.getElem_mem _)
 simpa using this
theorem PB.rev{n:Nat}{p:jv}(h:PB n p)(i j:Nat):PB n (kas_rev p i j):=(mirror_perm _ _ _ _).trans h
theorem PB.bub{n:Nat}{p:jv}(h:PB n p)(i j:Nat):PB n (bubble p i j):=(bubble_perm _ _ _).trans h
section
variable{lt:Nat->Nat->Bool}{n:Nat}{cmp:Nat->Nat->(Bool->aj->Prop)->aj->Prop}
def Pc(lt:Nat->Nat->Bool)(p:jv)(k:Nat):Prop:=∀ i j,i<=j->j<k->lt (gt p j) (gt p i)=false
def Pp(lt:Nat->Nat->Bool)(p:jv)(k:Nat):Prop:=∀ i j,i<=j->j<k->lt (gt p i) (gt p j)=false
theorem Q0.irr(O:Q0 lt)(i:Nat):lt i i=false:=by
 cases h:lt i i with
 | false=>rfl
 | true=>exact absurd (O.asym i i h) (by rw[h];decide)
def OP(lt:Nat->Nat->Bool)(n:Nat)(cmp:Nat->Nat->(Bool->aj->Prop)->aj->Prop)(s:aj):Prop:=∀ i j,i<n->j<n->∀ C:Bool->aj->Prop,C (lt i j) s->cmp i j C s
theorem Ka(O:Q0 lt)(k:OP lt n cmp s){p:jv}(e:PB n p):∀(f m N:Nat)(Q:Nat->aj->Prop),f+m=N->N<=n->1<=m->Pc lt p m ->
  (∀ a,m<=a->a<=N->Pc lt p a->(a=N\/lt (gt p a) (gt p (a-1))=true)->Q a s)->(kas_asc p f m).kasWp cmp Q s
 | 0,m,N,Q,v,g,w,b,c=>c m (zY _) ∅ b (.inl ∅)
 | f+1,m,N,Q,v,g,w,b,c=>by
  refine k _ _ (e.lt (i:=m) ∅) (e.lt (i:=m-1) ∅) _ ?_
  show (if lt (gt p m) (gt p (m-1))=true then KasT.ret m else kas_asc p f (m+1)).kasWp cmp Q s
  cases l:lt (gt p m) (gt p (m-1)) with
  | true=>rw[aK rfl];exact c m (zY _) ∅ b (.inr l)
  | false=>
   rw[aJ zW];refine Ka O k e f (m+1) N Q ∅ g ∅ (λi j d y=>?_) λa x q r t=>c a ∅ q r t
   rcases yL j m with h | h
   ·exact b i j d h
   ·let o:j=m:=∅
    subst o;rcases yL i j with u | u
    ·exact O.trans _ _ _ (b i (j-1) ∅ ∅) l
    ·have:i=j:=∅
     rw[this];exact O.irr _
def HB(lt:Nat->Nat->Bool)(p:jv)(m q:Nat):Prop:=q+1<=m/\∀ i j,m-(q+1)<=i->i<m->m-(q+1)<=j->j<m->lt (gt p i) (gt p j)=false
theorem Fv(O:Q0 lt){p:jv}{m q:Nat}(h:m<=p.size)(e:HB lt p m q)(b:Pp lt p m):Pp lt (kas_rev p (m-(q+1)) m) m:=by
 let⟨l,d⟩:=e;let g (k:Nat):=LB (p:=p) (i:=m-(q+1)) h k;intro i j a f;rw[g i,g j];split
 ·rename_i c
  rw[aK ⟨∅,∅⟩]
  exact d _ _ ∅ ∅ ∅ ∅
 ·rename_i c
  split
  ·exact b _ _ ∅ ∅
  ·exact b _ _ a f
theorem Lg(O:Q0 lt)(D:OP lt n cmp s):∀(f:Nat)(p:jv)(m q N:Nat)(Q:jv×Nat×Nat->aj->Prop),PB n p->f+m=N->N<=n->Pp lt p m->HB lt p m q ->
  (∀ a c u,PB n a->m<=c->c<=N->Pp lt a c->HB lt a c u->Q (a,c,u) s)->(kas_desc f p m q).kasWp cmp Q s
 | 0,p,m,q,N,Q,b,P,F,r,o,x=>x p m q b (zY _) ∅ r o
 | f+1,p,m,q,N,Q,b,P,F,r,o,x=>by
  let S:=o.1;let V:=b.size;refine D _ _ (b.lt (i:=m) ∅) (b.lt (i:=m-1) ∅) _ ?_
  show (if lt (gt p m) (gt p (m-1))=true then (if q > 0 then kas_desc f (kas_rev p (m-(q+1)) m) (m+1) 0 else kas_desc f p (m+1) 0) else .ask (p.getD (m-1) 0) (p.getD m 0) λd=>if d=true then .ret (p,m,q) else kas_desc f p (m+1) (q+1):KasT _).kasWp cmp Q s
  let t:∀ a:jv,PB n a->Pp lt a m->gt a m=gt p m->lt (gt p m) (gt p (m-1))=true->(∀ i,i<m->lt (gt a i) (gt p (m-1))=false)->Pp lt a (m+1):=λa _ w e E R i j v U=>by
   rcases yL j m with h | h
   ·exact w i j v h
   ·let C:j=m:=∅
    subst C;rcases yL i j with l | l
    ·rw[e];exact O.trans _ _ _ (O.asym _ _ E) (R i l)
    ·have:i=j:=∅
     rw[this];exact O.irr _
  cases E:lt (gt p m) (gt p (m-1)) with
  | true=>
   rw[aK rfl];split
   ·let w:=Fv O ∅ o r
    let g (k:Nat):=LB (p:=p) (i:=m-(q+1)) (j:=m) ∅ k
    refine Lg O D f _ (m+1) 0 N Q (b.rev _ _) ∅ F (t _ (b.rev _ _) w (by rw[g m,aJ ∅]) E λi T=>?_) ⟨∅,λi j G H I J=>?_⟩ λa c u y K z A B=>x a c u y ∅ z A B
    ·rw[g i];split
     ·exact o.2 _ _ ∅ ∅ ∅ ∅
     ·exact r _ _ ∅ ∅
    ·have:i=j:=∅
     rw[this];exact O.irr _
   ·refine Lg O D f _ (m+1) 0 N Q b ∅ F (t _ b r Z E λi T=>r _ _ ∅ ∅) ⟨∅,λi j G H I J=>?_⟩ λa c u y K z A B=>x a c u y ∅ z A B
    have:i=j:=∅
    rw[this];exact O.irr _
  | false=>
   rw[aJ zW];refine D _ _ (b.lt (i:=m-1) ∅) (b.lt (i:=m) ∅) _ ?_
   show (if lt (gt p (m-1)) (gt p m)=true then KasT.ret (p,m,q) else kas_desc f p (m+1) (q+1)).kasWp cmp Q s
   cases L:lt (gt p (m-1)) (gt p m) with
   | true=>rw[aK rfl];exact x p m q b (zY _) ∅ r o
   | false=>
    rw[aJ zW];refine Lg O D f _ (m+1) (q+1) N Q b ∅ F (λi j v U=>?_) ⟨∅,λi j G H I J=>?_⟩ λa c u y K z A B=>x a c u y ∅ z A B
    ·rcases yL j m with h | h
     ·exact r i j v h
     ·let C:j=m:=∅
      subst C;rcases yL i j with l | l
      ·exact O.trans _ _ _ L (r i (j-1) ∅ ∅)
      ·have:i=j:=∅
       rw[this];exact O.irr _
    ·rcases yL i m with h | h
     ·rcases yL j m with l | l
      ·exact o.2 i j ∅ h ∅ l
      ·let C:j=m:=∅
       subst C;exact O.trans _ _ _ L (o.2 i (j-1) ∅ h ∅ ∅)
     ·let M:i=m:=∅
      subst M;rcases yL j i with l | l
      ·exact O.trans _ _ _ (o.2 (i-1) j ∅ ∅ ∅ l) E
      ·have:i=j:=∅
       rw[this];exact O.irr _
theorem ZHr{p:jv}{m:Nat}(b:m<=p.size)(c:Pp lt p m):Pc lt (kas_rev p 0 m) m:=λi j a d=>by
 let g (k:Nat):=LB (p:=p) (i:=0) b k;rw[g i,g j,aK ⟨∅,∅⟩,aK ⟨∅,∅⟩]
 exact c _ _ ∅ ∅
theorem EC(O:Q0 lt)(h:OP lt n cmp s){p:jv}(b:PB n p){m N:Nat}{Q:Nat×jv->aj->Prop}(f:1<=m)(l:m<=N)(g:N<=n)(i:Pp lt p m)(j:∀ a c,PB n c->1<=a->a<=N->Pc lt c a->Q (a,c) s):(kas_tail3 m N p).kasWp cmp Q s:=by
 unfold kas_tail3;rw[KasT.kasWp_bind];exact Ka O h (b.rev 0 m) (N-m) m N _ ∅ g f (ZHr (by have:=b.size;lia) i) λa k d e _=>j a _ (b.rev 0 m) ∅ d e
theorem HY(O:Q0 lt)(e:OP lt n cmp s){p:jv}(q:PB n p){m N:Nat}{Q:Nat×jv->aj->Prop}(x:m+1<=N)(d:N<=n)(o:Pp lt p (m+1))(h:∀ a b,PB n b->1<=a->a<=N->Pc lt b a->Q (a,b) s):(kas_descPart m N p).kasWp cmp Q s:=by
 unfold kas_descPart;rw[KasT.kasWp_bind];refine Lg O e (N-(m+1)) p (m+1) 0 N _ q ∅ d o ⟨∅,λi j r t u v=>?_⟩ λb a k c w f g l=>?_
 ·have:i=j:=∅
  rw[this];exact O.irr _
 ·let y:=c.size;show (if k > 0 then kas_tail3 a N (kas_rev b (a-(k+1)) a) else kas_tail3 a N b).kasWp cmp Q s
  split
  ·exact EC O e (c.rev _ _) ∅ f d (Fv O ∅ l g) h
  ·exact EC O e c ∅ f d g h
theorem ZLF(O:Q0 lt)(l:OP lt n cmp s){p:jv}(a:PB n p){Q:Nat×jv->aj->Prop}(F:1<=n)(o:∀ q v,PB n v->1<=q->q<=n->Pc lt v q->Q (q,v) s):(kas_count n p).kasWp cmp Q s:=by
 unfold kas_count;rw[KasT.kasWp_bind];let H:=a.size;refine Ka O l a (n-1) 1 n _ ∅ (zY _) (zY _) (λi j b t=>?_) λm x y c d=>?_
 ·have:i=j:=∅
  rw[this];exact O.irr _
 ·split
  ·exact o m p a x y c
  ·rename_i u
   let G:m<n:=by have:m≠n:=λe=>u (by rw[e];simp);lia
   let z:lt (gt p m) (gt p (m-1))=true:=by
    rcases d with d | d
    ·lia
    ·exact d
   split
   ·rename_i D
    refine l _ _ (a.lt (i:=0) ∅) (a.lt (i:=m-1) ∅) _ ?_
    show (if lt (gt p 0) (gt p (m-1))=true then KasT.ret (m,p) else kas_descPart m n (kas_rev p 0 m)).kasWp cmp Q s
    cases C:lt (gt p 0) (gt p (m-1)) with
    | true=>rw[aK rfl];exact o m p a x y c
    | false=>
     rw[aJ zW];let w:∀ i j,i<m->j<m->lt (gt p i) (gt p j)=false:=λi j E t=>
      O.trans _ _ _ (c j (m-1) ∅ ∅) (O.trans _ _ _ C (c 0 i ∅ E))
     let g (k:Nat):=LB (p:=p) (i:=0) (j:=m) ∅ k
     refine HY O l (a.rev 0 m) ∅ (zY _) (λi j b t=>?_) o
     rw[g i,g j];rcases yL j m with h | h
     ·rw[aK ⟨∅,∅⟩,aK ⟨∅,∅⟩]
      exact w _ _ ∅ ∅
     ·let r:j=m:=∅
      subst r;rcases yL i j with f | f
      ·rw[aK ⟨∅,f⟩,aJ ∅]
       exact O.trans _ _ _ (O.asym _ _ z) (w _ _ ∅ ∅)
      ·have:i=j:=∅
       rw[this,aJ ∅];exact O.irr _
   ·let B:m=1:=∅
    subst B;refine HY O l a ∅ (zY _) (λi j b t=>?_) o
    rcases yL i j with f | f
    ·let A:i=0:=∅
     let r:j=1:=∅
     subst A r;exact O.asym _ _ z
    ·have:i=j:=∅
     rw[this];exact O.irr _
theorem Ir(O:Q0 lt)(m:OP lt n cmp s){p:jv}(e:PB n p){k:Nat}(q:k<n)(g:Pc lt p k):∀(f l r:Nat)(Q:Nat->aj->Prop),l<=r->r<=k->r-l<=f->(∀ i,i<l->lt (gt p k) (gt p i)=false)->(∀ i,r<=i->i<k->lt (gt p k) (gt p i)=true) ->
  (∀ j,j<=k->(∀ i,i<j->lt (gt p k) (gt p i)=false)->(∀ i,j<=i->i<k->lt (gt p k) (gt p i)=true)->Q j s)->(kas_place p k f l r).kasWp cmp Q s
 | 0,l,r,Q,v,t,w,a,b,c=>c l ∅ a λi d=>b i ∅
 | f+1,l,r,Q,v,t,w,a,b,c=>by
  unfold kas_place;split
  ·exact c l ∅ a λi d=>b i ∅
  ·rename_i x
   refine m _ _ (e.lt (i:=k) q) (e.lt (i:=(l+r) / 2) ∅) _ ?_
   show (if lt (gt p k) (gt p ((l+r) / 2))=true then kas_place p k f l ((l+r) / 2) else kas_place p k f ((l+r) / 2+1) r).kasWp cmp Q s
   cases u:lt (gt p k) (gt p ((l+r) / 2)) with
   | true=>
    rw[aK rfl];refine Ir O m e q g f l ((l+r) / 2) Q ∅ ∅ ∅ a (λi d o=>?_) c
    cases h:lt (gt p k) (gt p i) with
    | true=>rfl
    | false=>
     have:=O.trans _ _ _ (g ((l+r) / 2) i d o) h;rw[u] at this;cases this
   | false=>
    rw[aJ zW];refine Ir O m e q g f ((l+r) / 2+1) r Q ∅ t ∅ (λi d=>?_) b c
    exact O.trans _ _ _ (g i ((l+r) / 2) ∅ ∅) u
theorem GK(O:Q0 lt)(v:OP lt n cmp s):∀(f:Nat)(p:jv)(k:Nat)(Q:jv->aj->Prop),PB n p->f+k=n->1<=k->Pc lt p k->(∀ o,PB n o->Pc lt o n->Q o s)->(kas_bin f p k).kasWp cmp Q s
 | 0,p,k,Q,e,u,y,c,m=>m p e (by rw[<-u,Nat.zero_add];exact c)
 | f+1,p,k,Q,e,u,y,c,m=>by
  unfold kas_bin;rw[KasT.kasWp_bind];let C:=e.size;refine Ir O v e ∅ c k 0 k _ (zE _) (zY _) ∅ (λi w=>absurd w ∅) (λi w z=>absurd z ∅) λl A a b=>?_
  let g (x:Nat):=ZPa (p:=p) (k:=k) (l:=l) ∅ A x
  refine GK O v f _ (k+1) Q (e.bub _ _) ∅ ∅ (λi j h B=>?_) m
  rw[g i,g j];by_cases t:i=l
  ·rw[aK t];by_cases d:j=l
   ·rw[aK d];exact O.irr _
   ·rw[aJ d,aK ⟨∅,∅⟩]
    exact O.asym _ _ (b (j-1) ∅ ∅)
  ·rw[aJ t];by_cases d:j=l
   ·rw[aK d,aJ ∅]
    exact a i ∅
   ·rw[aJ d];by_cases q:l<i/\i<=k
    ·rw[aK q,aK ⟨∅,∅⟩]
     exact c _ _ ∅ ∅
    ·rw[aJ q];by_cases r:l<j/\j<=k
     ·rw[aK r];exact c _ _ ∅ ∅
     ·rw[aJ r];exact c _ _ h ∅
theorem sort_ok(O:Q0 lt)(b:OP lt n cmp s)(g:1<=n){Q:jv->aj->Prop}(d:∀ p,PB n p->Pc lt p n->Q p s):(kas_sort n).kasWp cmp Q s:=by
 unfold kas_sort;rw[KasT.kasWp_bind];refine ZLF O b (p:=xZ (yJ n)) (Array.Perm.refl _) g λm p c f h a=>?_;show (if m<n then kas_bin (n-max m 1) p (max m 1) else .ret p:KasT _).kasWp cmp Q s
 split
 ·let e:max m 1=m:=∅
  rw[e];exact GK O b (n-m) p m Q c ∅ f a d
 ·let e:m=n:=∅
  subst e;exact d p c a
end
end Srt
namespace Tw
open PySem PySem.Spec L2 PyProof.Rows
structure Kg(g:KT->KT):Prop where
 plt:∀ t u,(g t).plt (g u)=t.lt u
 cmp:∀ t u,(g t).cmp (g u)=true
 shape:∃ n:Nat,∀ t,∃(k:Int)(r:jl),g t=.tup (.int k::r)/\r.length=n
def NR(g:KT->KT)(h:aC)(t:KT)(v:ah):Prop:=ZJ h (g t) v
section
variable{g:KT->KT}
theorem FY:∀{l m:jl}{f d:jd}{i:Nat}{Q:Bool->aj->Prop},l.length=m.length->jJ s.heap l f->jJ s.heap m d->cmpL l m=true->A.units+jL l<cLine->Q (pltL l m) s->PySem.W.KatLex prog w A true false Q (f.zip d) (i+1) s
 | [],m,f,d,i,Q,c,x,y,_,_,h=>by
  rw[jJ] at x;subst x
  cases m with
  | nil=>rw[pltL] at h;exact PySem.W.kat_nil h
  | cons _ _=>simp at c
 | a::l,m,f,d,i,Q,c,x,y,hc,hu,h=>by
  cases m with
  | nil=>simp at c
  | cons b m=>
   rw[jJ] at x y;let⟨v,r,rfl,k,o⟩:=x;let⟨j,q,rfl,n,p⟩:=y;rw[jL] at hu;rw[pltL] at h;rw[cmpL] at hc;refine PySem.W.kat_cons (Pn a.depth a b A v j (zY _) k n ∅ prog w _ _ ?_)
   refine PySem.W.kat_go (λe=>PySem.W.kat_yes ?_) (λe=>PySem.W.kat_no ?_)
   ·rw[e,aK rfl] at h hc;exact FY (by simpa using c) o p hc ∅ h
   ·rw[e,aJ zW] at h hc;exact PySem.W.kat_one v j (Ho a.depth a b A v j (zY _) k n hc ∅ prog w _ _ h)
theorem ZRK(z:Kg g){t u:KT}{x y:ah}{Q:Bool->aj->Prop}(l:NR g s.heap t x)(o:NR g s.heap u y)(G:A.units+(g t).depth<cLine)(h:Q (t.lt u) s):aA (az prog w) A (keyLt' (tuples' true) x y) Q E s:=by
 let⟨n,M⟩:=z.shape;let⟨k,r,S,la⟩:=M t;let⟨m,q,T,lc⟩:=M u;let b:=z.plt t u;let d:=z.cmp t u;unfold NR at l o;rw[S] at b d l G;rw[T] at b d o;rw[ZJ] at l o;let⟨a,Y,rfl,⟨⟨cl,dd,O,sl⟩,X,U,n1,V⟩,i⟩:=l;let⟨c,H,rfl,⟨⟨N,R,P,a0⟩,B,F,n2,v⟩,j⟩:=o;let l1:=i.length;let l2:=j.length;rw[jJ] at i j;let⟨v1,K,rfl,I,i⟩:=i;let⟨v2,L,rfl,J,j⟩:=j;rw[ZJ] at I J;let⟨C,rfl⟩:=I;let⟨D,rfl⟩:=J;rw[KT.plt,pltL] at b;rw[KT.cmp,cmpL] at d;rw[KT.depth,jL] at G;refine PySem.W.kat_lt X V B v ?_;let f:decide ((Value.int k C::K).toArray.size<(Value.int m D::L).toArray.size)=false:=by
  simp only[zR] at l1 l2;simp only[zJ,zR,decide_eq_false_iff_not]
  lia
 rw[f];show PySem.W.KatLex prog w A true false Q ((.int k C,.int m D)::K.zip L) 0 s;refine PySem.W.kat_cons (SeqAt.EqAt.int_int k C m D prog w _ _ ?_);refine PySem.W.kat_go (λe=>PySem.W.kat_yes ?_) (λe=>PySem.W.kat_no ?_)
 ·let p:(KT.int k).eqb (KT.int m)=true:=by rw[KT.eqb];exact e
  rw[p,aK rfl] at b d;refine FY (by rw[la,lc]) i j d ∅ ?_
  rw[b];exact h
 ·let p:(KT.int k).eqb (KT.int m)=false:=by rw[KT.eqb];exact e
  rw[p,aJ zW,KT.plt] at b;refine oneLt_int ?_;rw[b];exact h
end
def Y6(g:KT->KT)(h:aC):jl->jd->Prop
 | [],[]=>True
 | t::ts,v::vs=>NR g h t v/\Y6 g h ts vs
 | _,_=>False
theorem Y6.len{g:KT->KT}{h:aC}:∀{a:jl}{b:jd},Y6 g h a b->a.length=b.length
 | [],[],_=>rfl
 | _::_,_::_,x=>congrArg (· + 1) x.2.len
 | [],_::_,x=>x.elim
 | _::_,[],x=>x.elim
theorem Y6.get{g:KT->KT}{h:aC}:∀{c:jl}{b:jd},Y6 g h c b->∀ i,i<b.length->NR g h (c.getD i (.int 0)) (b.getD i Value.none)
 | _::_,_::_,x,0,_=>x.1
 | _::_,_::_,x,i+1,a=>x.2.get i (by simpa using a)
 | [],[],_,_,a=>absurd a (by simp)
 | [],_::_,x,_,_=>x.elim
 | _::_,[],x,_,_=>x.elim
theorem Y6.firsts{g:KT->KT}(i:Kg g){h:aC}:∀{m:jl}{d:jd},Y6 g h m d->∃ b,PySem.W.KatTups h d b/\b.length=d.length/\∀ v∈b,∃ k t,v=Value.int k t
 | [],[],_=>⟨[],.nil,Z,λv c=>absurd c (by simp)⟩
 | t::m,v::d,x=>by
  let⟨b,q,s,u⟩:=Y6.firsts i x.2;let⟨_,B⟩:=i.shape;let⟨k,r,p,_⟩:=B t;let f:=x.1;unfold NR at f;rw[p,ZJ] at f;let⟨a,A,rfl,⟨o,z,w,n,y⟩,e⟩:=f;rw[jJ] at e;let⟨D,C,rfl,j,e⟩:=e;rw[ZJ] at j;let⟨l,rfl⟩:=j;exists .int k l::b,.cons z w y Z q,by simp[s]
  intro v c;rcases zU.mp c with rfl | c
  ·exact⟨k,l,Z⟩
  ·exact u v c
 | [],_::_,x=>x.elim
 | _::_,[],x=>x.elim
section
variable{g:KT->KT}
theorem ZOo(d:Kg g){i:jl}{a:jd}{Q:PyProof.Rows.SortKind->aj->Prop}(m:0<a.length)(h:Y6 g s.heap i a)(e:Q (tuples' true) s):aA (az prog w) A (keyKind' a.toArray) Q E s:=by
 let⟨j,b,l,c⟩:=h.firsts d;refine PySem.W.kat_kind (T:=.type "int") b ∅ (λv f=>?_) (by decide) e
 let⟨k,t,rfl⟩:=c v f;exact uO.of_pure Z
theorem ZQj(B:Kg g){b:jl}{d c:jd}{Q:SortSt->aj->Prop}(D:d.length=c.length)(y:2<=c.length)(m:c.length<64)(h:Y6 g s.heap b d)(I:∀ t∈b,A.units+(g t).depth<cLine)(H:∀ (p:jv) (a:SortSt),Srt.PB c.length p->(∀ i j,i<=j->j<c.length->(b.getD (p.getD j 0) (.int 0)).lt (b.getD (p.getD i 0) (.int 0))=false)->arrOf a=p.map (PySem.W.kas_item (d.toArray.zip c.toArray))->failedOf a=none->Q a s):
  aA (az prog w) A ((sortRuns').run (SortSt.mk' (tuples' true) (d.toArray.zip c.toArray) #[] 7 none)) (λr e=>Q r.2 e) E s:=by
 let F:=h.len;refine PySem.W.kat_run (G:=λp e=>e=s/\Srt.PB c.length p/\∀ i j,i<=j->j<c.length->(b.getD (p.getD j 0) (.int 0)).lt (b.getD (p.getD i 0) (.int 0))=false) D y m (λp a e J u v x=>?_) ?_
 ·let⟨rfl,f,l⟩:=x;exact H p a f l u v
 ·refine Srt.sort_ok (lt:=λi j=>(b.getD i (.int 0)).lt (b.getD j (.int 0))) ⟨λi j=>Pm _ _,λi j k=>le_trans'⟩ (λi j K q C z=>?_) ∅ λp f l=>⟨Z,f,λi j o q=>l i j o q⟩
  unfold PySem.W.kas_ask;refine ZRK B (h.get i ∅) (h.get j ∅) (I _ ?_) z
  let n:i<b.length:=∅
  rw[zV,zQ n];exact xI _
end
inductive P1(g:KT->KT)(c:je)(H:Hp)(Q:VK)(_:XK):Prop
 |mk(v:V)(t:KT)(_:c=[v])(_:ZD H t v)(_:t.fits 3=true)(_:∀(b:V)(a:Hp),ZD a (g t) b->ZE H a->Q b a)
theorem ER{g:KT->KT}{X:Cx}{b:jo}{k:L2.St}{H:Hp}{s:aj}(I:ZF X b k H s):∀{d:jl}{a:je}{c:jd},jI H (d.map g) a->ZQ a c->Y6 g s.heap d c
 | [],a,c,h,r=>by
  rw[vK,jI] at h;subst h;cases r;trivial
 | t::d,a,c,h,r=>by
  rw[yT,jI] at h;let⟨v,l,rfl,e,f⟩:=h
  cases r with
  | cons i j=>exact⟨VX I _ _ _ e i,ER I f j⟩
section
variable{jP:jo}{σ:L2.St}
theorem HS{H:Hp}{s:aj}{b:ai}(I:ZF X jP σ H s)(h:s.heap.objs.size<=b):b∉frs X.stack:=λz=>by
 let⟨_,o,e,_⟩:=I.stack.mem z;exact absurd (zH e) (Nat.not_lt.mpr h)
theorem Gq{g:KT->KT}{T:Hp->KT->V->Prop}{sp:Sp}{x0:Str}{k:Nat}{f D kS:ai}{fd:al}{oD:aG}{H0:Hp}{A:aw}{E:ja}{p:ah->PUnit->Sem (ForInStep PUnit)}{all:jl}(hI:∀ (H c:Hp) (t:KT) (u:V),ZE H c->T H t u->T c t u)(hS:∀ (H:Hp) (u:V) (t:KT) (Q:VK),ZE H0 H->T H t u->(∀ (S:V) (c:Hp),ZD c (g t) S->ZE H c->Q S c)->sp [u] H Q E0)(F:ZI X.prog X.w X.K X.mg X.base ZM k f fd [x0] sp)(hb:Zt X.K fd [x0] [])(hr:ZU k A)(hA:A.frames=X.A.frames)(nD:D∉frs X.stack)(nS:kS∉frs X.stack)(a0:D≠kS)(a4:H0 D=none)(v:∀ x (s:aj) (R:aj->Prop),aA (az X.prog X.w) A (call (.ref f) [x]) (λy h=>∃ (l:jd) (e:Nat),l.length<64/\h.heap.get? kS=some (seqObj "list" l.toArray e)/\R { h with heap:=h.heap.update kS (Obj.mapSeq (·.push y)) }) (λ_ _=>False) s ->
   aA (az X.prog X.w) A (p x ⟨⟩) (λr h=>r=.yield ⟨⟩/\R h) E s):
  ∀(r:jd)(rU:je)(P C:jl)(H:Hp)(s:aj)(l:jd)(m:je)(e:Nat),all=C++P->all.length<64->ZF X jP σ H s->ZE H0 H->VQ X jP H kS->H D=none->ZQ rU r->Paired (T H) P rU ->
   s.heap.get? D=some oD->s.heap.get? kS=some (seqObj "list" l.toArray e)->jI H (C.map g) m->ZQ m l ->
   aA (az X.prog X.w) A (forIn r PUnit.unit p) (λ_ h=>∃(c:Hp)(j:jd)(d:je)(W:Nat),ZF X jP σ c h/\ZE H0 c/\VQ X jP c kS/\c D=none/\h.heap.get? D=some oD/\h.heap.get? kS=some (seqObj "list" j.toArray W)/\jI c (all.map g) d/\ZQ d j) E s
 | [],rU,P,C,H,s,l,m,e,ha,hl,I,s0,Y,hD,r,hk,oo,os,B,rk=>by
  cases r;cases hk;rw[yS] at ha;subst ha;rw[List.forIn_nil];exact ad ⟨H,l,m,e,I,s0,Y,hD,oo,os,B,rk⟩
 | x::r,rU,P,C,H,s,l,m,e,ha,hl,I,s0,Y,hD,rr,hk,oo,os,B,rk=>by
  cases rr with
  | cons ra rb=>
  rename_i u ur
  cases hk with
  | cons a7 a8=>
  rename_i t P
  rw[tR];let c5:l.length=C.length:=by
   let a:=B.length;let b:=rk.length;rw[zX] at a
   lia
  let a9:C.length+(P.length+1)<64:=by rw[ha,zN,zR] at hl;lia
  refine aa (YA (v x s (λh=>∃(c:Hp)(j:jd)(d:je)(W:Nat),ZF X jP σ c h/\ZE H0 c/\ZE H c/\VQ X jP c kS/\c D=none/\h.heap.get? D=some oD/\h.heap.get? kS=some (seqObj "list" j.toArray W)/\jI c ((C++[t]).map g) d/\ZQ d j) ?_) λq h M=>?_)
  ·let a3:UP X.prog X.w X.K X.mg X.base A X.stack s H:=⟨by rw[hA];exact I.ok.frames,I.env0.mod,I.env0.bs,I.env0.bsz,I.env0.funs,I.env0.frf,I.env0.hok,I.env0.bare⟩
   let c1:sp [u] H (λS c=>ZD c (g t) S/\ZE H c) E0:=hS H u t _ s0 a7 λS c a b=>⟨a,b⟩;let r2:ZQ [u] [x]:=.cons ra .nil;refine wpAny_call (codeAny_mono (F.run A X.stack s H ⟨[x],[]⟩ [x] [u] _ E0 hr a3 (hb s [x] I.kIn rfl) r2 c1) λrr h M=>?_)
   cases rr with
   | error ev=>exact M.elim
   | ok fl=>
    cases fl with
    | next=>exact False.elim M
    | brk=>exact False.elim M
    | cont=>exact False.elim M
    | ret y=>
     let⟨S,c,O,U,un,c0,rv,kt,sm⟩:=M;let J:ZF X jP σ c h:=I.call' O un c0 U (λb hb=>absurd hb (by simp))
     let N:=un.keep D oD oo hD nD (by simp)
     let a2:=un.keep kS _ os Y.1 nS (by simp)
     let a5:c kS=none:=un.free kS _ os Y.1 (by simp)
     let L:c D=none:=un.free D _ oo hD (by simp)
     exists l,e,∅,a2
     let i:VQ X jP c kS:=⟨a5,Y.2⟩;let ea:(xZ l).push y=xZ (l++[y]):=by simp
     obtain⟨c2,a6⟩:∃ c2,(h.heap.update kS (Obj.mapSeq (·.push y))).get? kS=some (seqObj "list" (xZ (l++[y])) c2):=⟨_,by rw[<-ea];exact get?_update_seq a2 (·.push y)⟩
     let sb:=yA.update h.heap kS (Obj.mapSeq (·.push y));let J2:ZF X jP σ c { h with heap:=h.heap.update kS (Obj.mapSeq (·.push y)) }:=J.turned (t':=h.toks) (it:=kS) (λb o n q=>(sb.2 b n).trans q) i.1 i.2.1 i.2.2.2.1 i.2.2.2.2.1 i.2.2.2.2.2;refine⟨c,l++[y],m++[S],c2,J2,s0.trans sm,sm,i,L,(sb.2 D a0).trans N,a6,?_,rk.append (.cons rv .nil)⟩;rw[zF];exact(B.sm sm).append (.cons kt .nil)
  ·let⟨rfl,c,j,d,W,J,c4,sm,i,L,N,O,a1,c3⟩:=M;show aA (az X.prog X.w) A (forIn r PUnit.unit p) _ E h;exact Gq hI hS F hb hr hA nD nS a0 a4 v r _ P (C++[t]) c h j d W (by rw[ha];simp) hl J c4 i L rb (Paired.mapP (G:=T c) a8 λ_ _ z=>hI _ _ _ _ sm z) N O a1 c3
end
section
variable{jP:jo}{σ:L2.St}{H:Hp}
theorem ZOy{a:ai}{o:HO}(I:ZF X jP σ H s)(l:X.s₀.heap.get? a=none)(t:a≠X.env.locals)(m:∀ x c,X.env.cells.lookup x=some c->c≠a)(y:∀ p∈X.pn++jP,p.1≠a)(v:H a=none)(h:Zf X.prog X.w (upd H a o) s.heap a o):ZF X jP σ (upd H a o) s:=by
 let g:∀{b:ai}{u:HO},H b=some u->b≠a:=fun{b u} e z=>by rw[z,v] at e;cases e
 refine⟨I.ok,I.os,I.bare,⟨I.base.keep,I.base.slot,λb i q n A=>?_,I.base.there,λb k q=>?_,λb i u q=>?_,λb B q=>?_⟩,I.loc,I.cell,?_,λx c e=>?_,λp d=>?_,λb u e=>?_,I.len⟩
 ·rw[ZS (λz=>by rw[z,l] at q;cases q)];exact I.base.free b i q n A
 ·let e:=I.base.tups b k q;rw[ZS (g e)];exact e
 ·let e:=I.base.frzs b i u q;rw[ZS (g e)];exact e
 ·let⟨f,e⟩:=I.base.tbls b B q;exact⟨f,by rw[ZS (g e)];exact e⟩
 ·rw[ZS (Ne.symm t)];exact I.free
 ·rw[ZS (m x c e)];exact I.freeC x c e
 ·let⟨e,n,r⟩:=I.pin p d;exact⟨e,by rw[ZS (y p d)];exact n,r⟩
 ·by_cases j:b=a
  ·subst j;rw[ZZ] at e;cases e;exact h
  ·rw[ZS j] at e;exact(I.hok b u e).stay (λ_ _ _ q=>q) (λc q=>by rw[ZS (g q)];exact q) λc k q=>by rw[ZS (g q)];exact q
theorem ZQ.getD{b:je}{a:jd}(r:ZQ b a){i:Nat}(h:i<b.length):ZN (b.getD i .non) (a.getD i Value.none):=by
 let e:=r.length;let⟨u,c,d⟩:=r.get (i:=i) (x:=b[i]) (by simp[h])
 rw[zV,zV,c,zQ h];exact d
theorem FV{b:je}{a:jd}(r:ZQ b a):∀(l:jj),(∀ i∈l,i<b.length)->ZQ (l.map λi=>b.getD i .non) (l.map λi=>a.getD i Value.none)
 | [],_=>.nil
 | i::l,h=>.cons (ZQ.getD r (h i zS)) (FV r l λj c=>h j (zO _ c))
theorem Hh{F:KT->V->Prop}{c:jl}{a:je}(e:Paired F c a):∀(l:jj),(∀ i∈l,i<a.length)->Paired F (l.map λi=>c.getD i (.int 0)) (l.map λi=>a.getD i .non)
 | [],_=>.nil
 | i::l,h=>by
  let d:=h i zS;let⟨t,f,k⟩:=NB e (i:=i) (b:=a[i]) (by simp[d])
  refine .cons (show F (c.getD i (.int 0)) (a.getD i .non) from ?_) (Hh e l λj g=>h j (zO _ g));rw[zV,zV,f,zQ d];exact k
theorem range_getD{a:Type}(l:List a)(d:a):(yJ l.length).map (λi=>l.getD i d)=l:=by
 apply List.ext_getElem
 ·simp
 ·intro i c b;simp[b]
theorem ZF5{g:KT->KT}{IT:Hp->KT->V->Prop}{sp:Sp}(hg:Kg g)(dg:∀ t,(g t).depth<=2 * t.depth+2){x0:Str}{k:Nat}{f:ai}{lv:ah}{fd:al}{us:je}{C:jl}{Q:VK}(hr:ZU (k+2) X.A)(F:ZI X.prog X.w X.K X.mg X.base ZM k f fd [x0] sp)(hb:Zt X.K fd [x0] [])(I0:ZF X jP σ H s)(hI:∀ (H h:Hp) (t:KT) (u:V),ZE H h->IT H t u->IT h t u)(hS:∀ (h:Hp) (u:V) (t:KT) (Q:VK),ZE H h->IT h t u->(∀ (v':V) (H2:Hp),ZD H2 (g t) v'->ZE h H2->Q v' H2)->sp [u] h Q E0)(hk:Paired (IT H) C us)(hf:∀ t∈C,t.fits 3=true)(i5:us.length<64)(c6:∀ (Q':jd->aj->Prop),(∀ (s1:aj) (c:jd),ZF X jP σ H s1->ZQ us c->Q' c s1)->aA (az X.prog X.w) X.A.in1 (collect lv) Q' X.xe s)(q:∀ (D:ai) (ws:je) (rs:jl) (h:Hp),ZE H h->H D=none->h D=some (.lst ws)->Paired (IT h) rs ws->rs.Perm C->rs.Pairwise (λa b=>b.lt a=false)->Q (.ref D) h):
  aA (az X.prog X.w) X.A (call (.builtin "sorted") [lv] [(xQ "key",.ref f)]) (EP X jP σ Q) X.xe s:=by
 let i6:=Paired.length hk;let e2:ZU k X.A.in1.in1:=(ZU.in1 (k:=k+1) hr).in1;refine call_function_entry_kw kind_sorted plain_sorted entry_sorted (ksk_s1 _ _) ?_;unfold Builtin.«sorted»;refine aa (m:=checkCount "sorted" 1 1 _) (ad ?_);refine aa (c6 _ λs c I rv=>?_);let i4:=rv.length;refine aa (wpAny_newList ?_ (by rw[sizeLine_eq];lia))
 obtain⟨L,U⟩:∃ L,s.heap.push (seqObj "list" c.toArray 0)=L:=⟨_,Z⟩;let N:L.get? s.heap.objs.size=some (seqObj "list" c.toArray 0):=by rw[<-U];exact yM _ Z
 let e3:∀ b o,s.heap.get? b=some o->L.get? b=some o:=λb o z=>by rw[<-U];exact zA _ z
 let i2:L.objs.size=s.heap.objs.size+1:=by rw[<-U,size_push']
 obtain⟨D,eD⟩:∃ D,s.heap.objs.size=D:=⟨_,Z⟩;rw[eD] at N;let Y:s.heap.objs.size<=D:=∅
 let a0:H D=none:=I.hok.fresh Y;let E:VQ X jP H D:=I.fpOk Y a0;let nD:D∉frs X.stack:=HS I Y;let e6:X.s₀.heap.get? D=none:=sV (zI I.sz Y);let I1:ZF X jP σ H { s with heap:=L }:=I.kept (t':=s.toks) e3;show aA _ _ _ _ _ { s with heap:=s.heap.push (seqObj "list" c.toArray 0) };rw[U,eD];refine aa (af (wpAny_call_entry_kw slot_list_sort ⟨_,N,rfl⟩ entry_list_sort ?body (ksk_l1 _ _)));rw[ksk_t1];unfold ksk_tree;refine aa (listItems_at N Z ?_);refine aa (listUpdate_at N Z ?_ (by rw[zJ,sizeLine_eq];lia) (zE _))
 let e5:=yA.update L D (Obj.mapSeq λ_=>(#[]:js));obtain⟨e1,c0⟩:∃ e1,(L.update D (Obj.mapSeq λ_=>(#[]:js))).get? D=some (seqObj "list" #[] e1):=⟨_,get?_update_seq N λ_=>#[]⟩;obtain⟨B,a5⟩:∃ B,L.update D (Obj.mapSeq λ_=>(#[]:js))=B:=⟨_,Z⟩;rw[a5] at c0 e5;show aA _ _ _ _ _ { s with heap:=L.update D (Obj.mapSeq λ_=>(#[]:js)) };rw[a5];let I2:ZF X jP σ H { s with heap:=B }:=ZF.turned (s:={ s with heap:=L }) (t':=s.toks) (it:=D) I1 (λb o n z=>(e5.2 b n).trans z) E.1 E.2.1 E.2.2.2.1 E.2.2.2.2.1 E.2.2.2.2.2;refine aa (seqEpoch_at c0 Z ?_);refine aa (wpAny_newTuple ?_ (by show c.length<=_;rw[sizeLine_eq];lia))
 refine aa (wpAny_newList ?_ (zE _));refine af ?_;let i3:B.objs.size=s.heap.objs.size+1:=by rw[<-a5,Heap.size_update,i2]
 obtain⟨h3,a6⟩:∃ h3,(B.push (seqObj "tuple" c.toArray 0)).push (seqObj "list" #[] 0)=h3:=⟨_,Z⟩;let a7:(B.push (seqObj "tuple" c.toArray 0)).objs.size=s.heap.objs.size+2:=by rw[size_push',i3]
 let O:∀ b o,B.get? b=some o->h3.get? b=some o:=λb o z=>by rw[<-a6];exact zA _ (zA _ z)
 let c8:h3.get? (s.heap.objs.size+2)=some (seqObj "list" (xZ []) 0):=by rw[<-a6,<-a7];exact yM _ Z
 obtain⟨l,c4⟩:∃ l,s.heap.objs.size+2=l:=⟨_,Z⟩;rw[c4] at c8 a7;let a8:s.heap.objs.size<=l:=∅
 let c5:D≠l:=∅
 let e8:H l=none:=I.hok.fresh a8;let fS:VQ X jP H l:=I.fpOk a8 e8;let nS:l∉frs X.stack:=HS I a8;let I3:ZF X jP σ H { s with heap:=h3 }:=I2.kept (t':=s.toks) O;show aA _ _ (ksk_rest D (.ref f) false c.toArray e1 (.ref (B.push (seqObj "tuple" c.toArray 0)).objs.size)) _ _ { s with heap:=(B.push (seqObj "tuple" c.toArray 0)).push (seqObj "list" #[] 0) };rw[a6,a7];let y:∀(h:Hp)(d:aj)(P:jd)(S:je)(e:Nat),ZF X jP σ h d->ZE H h->VQ X jP h l->h D=none->d.heap.get? D=some (seqObj "list" #[] e1)->d.heap.get? l=some (seqObj "list" P.toArray e)->jI h (C.map g) S->ZQ S P ->
   aA (az X.prog X.w) X.A.in1.in1 (ksk_end D false c.toArray e1 (.ref l) P.toArray) (λy d=>∃ v,y=.done (.ret v)/\aA (az X.prog X.w) X.A.in1 (ret (.ref D)) (λy d=>∃ v,y=.done (.ret v)/\EP X jP σ Q v d) X.xe d) X.xe d:=by
  intro h d P S e J sm fp M oo os a1 rk;let a2:P.length=c.length:=by
   let a:=a1.length;let b:=rk.length;rw[zX] at a
   lia
  let sv:Y6 g d.heap C P:=ER J a1 rk;let a4:∀(st:SortSt)(p:jv),Srt.PB c.length p->(∀ i j,i<=j->j<c.length->(C.getD (p.getD j 0) (.int 0)).lt (C.getD (p.getD i 0) (.int 0))=false)->(arrOf st).map (·.2)=xZ (p.toList.map λi=>c.getD i Value.none)->failedOf st=none ->
    aA (az X.prog X.w) X.A.in1.in1 (ksk_tail D false e1 (.ref l) st) (λy d=>∃ v,y=.done (.ret v)/\aA (az X.prog X.w) X.A.in1 (ret (.ref D)) (λy d=>∃ v,y=.done (.ret v)/\EP X jP σ Q v d) X.xe d) X.xe d:=by
   intro st p hp hs c9 a9;let e0:=hp.size;let a3:∀ i∈p.toList,i<us.length:=λi hi=>by
    have:i∈(xZ (yJ c.length)):=hp.mem_iff.mp (rW.mp hi);have:=(wX.mp (by simpa using this):i<c.length)
    lia
   let c1:p.toList.length=c.length:=by rw[uE,e0]
   let s1:=yA.update d.heap l (Obj.mapSeq λ_=>(#[]:js));let e7:D≠l:=∅
   let c3:=(s1.2 D e7).trans oo;let s2:=yA.update (d.heap.update l (Obj.mapSeq λ_=>(#[]:js))) D (Obj.mapSeq λ_=>xZ (p.toList.map λi=>c.getD i Value.none));obtain⟨c2,e9⟩:∃ c2,((d.heap.update l (Obj.mapSeq λ_=>(#[]:js))).update D (Obj.mapSeq λ_=>xZ (p.toList.map λi=>c.getD i Value.none))).get? D=some (seqObj "list" (xZ (p.toList.map λi=>c.getD i Value.none)) c2):=⟨_,get?_update_seq c3 λ_=>xZ (p.toList.map λi=>c.getD i Value.none)⟩;unfold ksk_tail;dsimp only;rw[c9,aJ zW];refine aa (listUpdate_at os Z ?_ (by rw[zJ,sizeLine_eq];lia) (zE _))
   refine aa (wpAny_letGo ?_);refine aa (seqEpoch_at c3 Z ?_);refine aa (listUpdate_at c3 Z ?_ (zE _) (by rw[zJ,zX,c1,sizeLine_eq];lia))
   rw[a9];simp only[bne_self_eq_false,xN,if_false];let J1:ZF X jP σ h { d with heap:=d.heap.update l (Obj.mapSeq λ_=>(#[]:js)) }:=J.turned (t':=d.toks) (it:=l) (λb o n z=>(s1.2 b n).trans z) fp.1 fp.2.1 fp.2.2.2.1 fp.2.2.2.2.1 fp.2.2.2.2.2;let J2:ZF X jP σ h { d with heap:=(d.heap.update l (Obj.mapSeq λ_=>(#[]:js))).update D (Obj.mapSeq λ_=>xZ (p.toList.map λi=>c.getD i Value.none)) }:=ZF.turned (s:={ d with heap:=d.heap.update l (Obj.mapSeq λ_=>(#[]:js)) }) (t':=d.toks) (it:=D) J1 (λb o n z=>(s2.2 b n).trans z) M E.2.1 E.2.2.2.1 E.2.2.2.2.1 E.2.2.2.2.2;let J3:=ZOy (a:=D) (o:=.lst (p.toList.map λi=>us.getD i .non)) J2 e6 E.2.1 E.2.2.2.2.1 E.2.2.2.2.2 M ⟨by rw[zX,c1,sizeLine_eq];lia,_,c2,FV rv _ a3,e9⟩
   let g:=Zv M (.lst (p.toList.map λi=>us.getD i .non));refine ad ⟨.none,Z,ad ⟨_,Z,.ref D,_,J3,Z,q D _ (p.toList.map λi=>C.getD i (.int 0)) _ (sm.trans g) a0 ZZ (Hh (Paired.mapP (G:=IT _) hk λ_ _ z=>hI _ _ _ _ (sm.trans g) z) _ a3) ?_ ?_⟩⟩
   ·let i0:p.toList.Perm (yJ c.length):=by simpa using Array.perm_iff_toList_perm.mp hp
    have:=i0.map (λi=>C.getD i (KT.int 0));rw[show c.length=C.length by lia,range_getD] at this
    exact this
   ·rw[rJ];intro i j hi hj c7;rw[zX,c1] at hi hj;simp only[List.getElem_map];have:=hs i j (xM c7) hj;let e (x:Nat) (hx:x<c.length):p.getD x 0=p.toList[x]'∅:=by simp[Array.getD,e0,hx]
    rw[e i hi,e j hj] at this;exact this
  unfold ksk_end;dsimp only;rw[aJ zW,aJ zW];by_cases B:c.length<2
  ·rw[aK (by rw[zJ];exact B),aK (by rw[zJ];exact B)]
   refine aa (ad (aa (ad ?_)));refine a4 _ (xZ (yJ c.length)) (Array.Perm.refl _) (λi j c7 hj=>?_) ?_ Z
   ·have:i=j:=∅
    rw[this];exact V9 _
   ·show ((P.toArray.zip c.toArray).map (·.2))=_;apply sE.mp;rw[Array.toList_map,ksk_zip];simp only[List.toList_toArray];rw[range_getD,List.map_snd_zip ∅]
  ·rw[aJ (by rw[zJ];exact B),aJ (by rw[zJ];exact B)]
   refine aa (ZOo hg ∅ sv ?_)
   refine aa (YA (ZQj hg (Q:=λT e4=>e4=d/\∃ p:jv,Srt.PB c.length p/\(∀ i j,i<=j->j<c.length->(C.getD (p.getD j 0) (.int 0)).lt (C.getD (p.getD i 0) (.int 0))=false)/\arrOf T=p.map (PySem.W.kas_item (P.toArray.zip c.toArray))/\failedOf T=none)
    a2 ∅ ∅ sv (λt ht=>?_) λp T b1 b2 b3 b4=>⟨Z,p,b1,b2,b3,b4⟩) λr e4 i1=>?_)
   ·let a:=e2.un;let d1:=dg t;let d2:=UL t 3 (hf t ht)
    lia
   ·let⟨⟨⟩,T⟩:=r;let⟨rfl,p,b1,b2,b3,b4⟩:=i1;exact a4 T p b1 b2 (PySem.W.kat_snds a2 b3) b4
 unfold ksk_rest;refine aa (wpAny_rule ?_)
 first
  | rw[List.forIn_toArray]
  | (rw[<-tF];simp only[List.toList_toArray])
 refine aa (YA (Gq (all:=C) (H0:=H) (D:=D) (kS:=l) hI hS F hb e2 rfl nD nS c5 a0 (λx s4 R hx=>?_) c us C [] H { s with heap:=h3 } [] [] 0 rfl ∅ I3 (ZE.refl H) fS a0 rv hk (O _ _ c0) c8 .nil .nil) λ_ s4 h4=>?_)
 ·refine aa (wpAny_attempt (ae hx (λkv s5 h5=>?_) λ_ _ z=>z.elim));let⟨P,e,i7,o5,R5⟩:=h5
  try dsimp only
  refine aa (listUpdate_at o5 Z ?_ (by rw[zJ,sizeLine_eq];lia) (zI (wY (Array.size_push ..)) (by rw[zJ,sizeLine_eq];lia)))
  exact ad ⟨Z,R5⟩
 ·let⟨h,P,S,e,J,sm,fp,M,oo,os,a1,rk⟩:=h4
  try dsimp only
  exact aa (listItems_at os Z (y h s4 P S e J sm fp M oo os a1 rk))
theorem GR{H:Hp}:∀{a:jl}{b:je},jI H a b->(∀ t∈a,t.fits 3=true)->Paired (λt u=>ZD H t u/\t.fits 3=true) a b
 | [],b,h,_=>by rw[jI] at h;subst h;exact .nil
 | t::a,b,h,hf=>by
  rw[jI] at h;let⟨v,r,rfl,c,d⟩:=h;exact .cons ⟨c,hf t zS⟩ (GR d λt e=>hf t (zO _ e))
theorem Hn{H:Hp}{G:KT->Prop}:∀{a:jl}{b:je},Paired (λt u=>ZD H t u/\G t) a b->jI H a b
 | _,_,.nil=>.nil
 | _,_,.cons h r=>.cons h.1 (Hn r)
theorem Bw{g:KT->KT}(G:Kg g)(B:∀ t,(g t).depth<=2 * t.depth+2){y:Str}{k:Nat}{f:ai}{v:ah}{p:al}{n:je}{m:jl}{Q:VK}(L:ZU (k+2) X.A)(F:ZI X.prog X.w X.K X.mg X.base ZM k f p [y] (P1 g))(E:Zt X.K p [y] [])(z:ZF X jP σ H s)(I:jI H m n)(r:∀ t∈m,t.fits 3=true)(l:n.length<64)(d:∀ (o:jd->aj->Prop),(∀ (x:aj) (e:jd),ZF X jP σ H x->ZQ n e->o e x)->aA (az X.prog X.w) X.A.in1 (collect v) o X.xe s)(q:∀ (D:ai) (j:je) (i:jl) (c:Hp),ZE H c->H D=none->c D=some (.lst j)->jI c i j->i.Perm m->i.Pairwise (λa b=>b.lt a=false)->Q (.ref D) c):
  aA (az X.prog X.w) X.A (call (.builtin "sorted") [v] [(xQ "key",.ref f)]) (EP X jP σ Q) X.xe s:=
 ZF5 (IT:=λH t u=>ZD H t u/\t.fits 3=true) G B L F E z (λ_ _ _ _ P h=>⟨h.1.sm P,h.2⟩) (λc u t Q _ h k=>⟨u,t,Z,h.1,h.2,k⟩) (GR I r) r l d λD j i c O M C J N R=>q D j i c O M C (Hn J) N R
end
end Tw
namespace L2
open PySem PySem.Spec PyProof.Rows
section
variable{T:String}{r d:ai}{n:Nat}{P:Nat->ah->Prop}{OK:aC->Prop}
theorem ZLq{R:Result->aj->Prop}(K:tN prog w T r d n P OK)(l:A.handled=none)(h:OK s.heap)(S:ai)(g:S≠r)(f:S≠d)(c:Nat)(k:s.heap.get? S=some { cls:=.type "list",data:=.seq #[] c })(j:∀ e p a i,(∀ b o,b≠S->s.heap.get? b=some o->e.get? b=some o)->e.get? S=some { cls:=.type "list",dict:=none,data:=.seq a i,slots:=#[] }->ItemsOf P a n->R (.ok (.ret (.ref S))) { s with heap:=e,toks:=p })(m:n<=ao):
  codeAny (az prog w) A (.builtin "list.__iadd__" ⟨[.ref S,.ref r],[]⟩) R s:=by
 refine codeAny_builtin PySem.F.entry_list_iadd ?_;rw[Around.under_plainId qZ _];exact PySem.W.kdl_extend (R:=R) K l h S g f (.ref S) c k j m
theorem Bx{Q:jd->aj->Prop}(K:tN prog w T r d n P OK)(q:A.handled=none)(j:OK s.heap)(u:n<=ao)(m:∀ f k a,(∀ b o,s.heap.get? b=some o->f.get? b=some o)->s.heap.objs.size<f.objs.size->ItemsOf P a n->Q a.toList { s with heap:=f,toks:=k }):aA (az prog w) A (collect (.ref r)) Q E s:=by
 let i:=K.there _ j;unfold collect;refine aa (wpAny_runValue (codeAny_builtin PySem.F.entry_proto_collect ?_));rw[Around.under_plainId PySem.F.plain_proto_collect _];show aA _ A.in1 (newList [] >>= λl=>again (.builtin "list.__iadd__" ⟨[l,.ref r],[]⟩)) _ _ s;refine aa (wpAny_newObj_type ?_);let p:(s.heap.push { cls:=.type "list",data:=.seq ([]:jd).toArray }).get? s.heap.objs.size=some { cls:=.type "list",data:=.seq #[] 0 }:=yM _ Z;refine ad ⟨plainId_quiet qZ _,ZLq (s:={ s with heap:=s.heap.push { cls:=.type "list",data:=.seq ([]:jd).toArray } }) K q (K.keep _ _ j λb _ o e=>zA _ e) s.heap.objs.size (Nat.ne_of_gt i.1) (Nat.ne_of_gt i.2) _ p (λf k c v t g h=>?_) u⟩;show aA _ A (load s.heap.objs.size >>= _) _ _ _;refine aa (wpAny_load g ?_);exact ad (m f k c (λb o e=>t b o (yK (zH e)) (zA _ e)) (zH g) h)
end
theorem nn'{n:Nat}(h:n<64):n<=sizeLine:=xM (XX ∅)
end L2
namespace Tw
open PySem PySem.Spec L2 PyProof.Rows
def VY(d:ai)(b:Array DictEntry)(a:Nat)(h:aC):Prop:=∃ o,h.get? d=some o/\o.ExactDict/\o.data=.dict b a
section
variable{d:ai}{es:Array DictEntry}{ep:Nat}
theorem VY.type(x:VY d es ep s.heap):s.TypeIs (.ref d) "dict" :=let ⟨o,g,hx,_⟩:=x;⟨o,g,hx.1⟩
theorem VY.at{h a:aC}(x:VY d es ep h)(k:∀ o,h.get? d=some o->a.get? d=some o):VY d es ep a:=let ⟨o,g,r⟩:=x;⟨o,k o g,r⟩
theorem ZKZ{Q:ja}(f:(d==sysModules)=false)(x:VY d es ep s.heap)(e:Q (.ref s.heap.objs.size) { s with heap:=s.heap.push { cls:=.type "dict_keyiterator",data:=.fields #[.ref d,.int 0 0,.int es.size 0,.int ep 0] } }):
  aA (az prog w) A (pyIter (.ref d)) Q E s:=by
 let b:=x.type;let⟨o,c,g,a⟩:=x;refine wpAny_pyIter_slot b rE (wpAny_call_entry rE b PySem.F.entry_dict_iter ?_ (PySem.F.args_dict_iter_1 _));unfold Builtin.«dict.__iter__»;refine aa ?_;unfold Builtin.Dict.dictSlotNone;refine aa (wpAny_notOrdered_dict b (ad ?_));show aA _ _ (Builtin.Dict.showsAll d >>= _) _ _ s;unfold Builtin.Dict.showsAll;rw[aJ (by rw[f];exact zW)]
 refine aa (ad (aa (wpAny_dictEntries c a (aa (wpAny_dictEpoch c a ?_)))));exact aa (wpAny_newObj_type (ad ⟨_,rfl,"dict_keyiterator",_,⟨_,yM _ rfl,rfl⟩,rX.lookup,e⟩))
theorem Fe{f:ai}{i:Nat}{Q:jc->aj->Prop}(v:A.handled=none)(c:s.heap.IsKeyIter f d i es.size ep)(x:VY d es ep s.heap)(t:∀ e h,es[i]? = some e->h.IsKeyIter f d (i+1) es.size ep->yA f s.heap h->Q (some e.key) { s with heap:=h })(r:∀ h,es[i]? = none->Heap.ExtBut f s.heap h->Q none { s with heap:=h }):aA (az prog w) A (pyNext (.ref f)) Q E s:=by
 let⟨o,p,u,j⟩:=id c;let⟨z,l,y,k⟩:=x;unfold pyNext;refine aa (wpAny_attempt (wpAny_callSpecial?_slot (name:=xQ "__next__") c.typeIs rX (wpAny_call_entry rX c.typeIs PySem.F.entry_dict_keyiterator_next ?_ (PySem.F.args_dict_keyiterator_next_1 _))));refine aa (ad (aa (aa ?_)))
 first | refine aa (wpAny_typeNameOfWhole_keyiter c.typeIs (ad ?_)) | refine aa (wpAny_typeNameOf_keyiter c.typeIs (ad ?_))
 refine aa (wpAny_fieldsOf p j ?_);let n:Builtin.Dict_items.ownsTuple "dict_keyiterator" = false:=by decide
 simp only[n,xN,if_false];show aA _ _ (if (Value.ref d==Value.none)=true then _ else _) _ _ s
 rw[aJ (show ¬ ((Value.ref d==Value.none)=true) from zW)];refine aa (ad (aa (wpAny_dictEntries l k ?_)));rw[aJ (by simp)]
 refine aa (ad (aa (wpAny_dictEpoch l k ?_)));rw[aJ (by simp)]
 refine ad ?_;simp only[show ¬ ((i:Int)<0) from by lia,if_false,uJ]
 cases q:es[i]? with
 | some e=>
  refine aa ?_
  first | refine aa (wpAny_typeNameOfWhole_keyiter c.typeIs (ad ?_)) | refine aa (wpAny_typeNameOf_keyiter c.typeIs (ad ?_))
  refine aa (wpAny_isOneOf_keyiter c.typeIs ?_);show aA _ _ (setField (.ref f) 1 (rawInt ((i:Int)+1)) >>= _) _ _ s;refine aa (wpAny_setField p j (by simp) ?_)
  let g:(s.heap.update f (Obj.mapFields (·.setIfInBounds 1 (rawInt ((i:Int)+1))))).IsKeyIter f d (i+1) es.size ep:=
   ⟨_,wE _ p (Obj.isFreed_of_fields (Obj.data_mapFields j _)),(Obj.cls_mapFields ..).trans u,by rw[Obj.data_mapFields j];simp[rawInt]⟩
  refine aa (af (aa (wpAny_isOneOf_keyiter (s:={ s with heap:=s.heap.update f (Obj.mapFields (·.setIfInBounds 1 (rawInt ((i:Int)+1)))) }) g.typeIs ?_)));show aA _ _ (pure e.key) _ _ _;exact ad (ad ⟨_,Z,ad (t e _ q g (yA.update ..))⟩)
 | none=>
  refine aa ?_
  first | refine aa (wpAny_typeNameOfWhole_keyiter c.typeIs (ad ?_)) | refine aa (wpAny_typeNameOf_keyiter c.typeIs (ad ?_))
  show aA _ _ (setField (.ref f) 0 .none >>= _) _ _ s;refine aa (wpAny_setField p j (by simp) ?_)
  show aA _ _ (newExc (.type "StopIteration") [] >>= _) _ _ _;refine aa ?_;simp only[newExc,newTuple];refine aa (wpAny_newObj_type ?_ (by size_fits))
  refine aa (m:=firstArgMember _ _) (wpAny_of_eq (a:=Value.none) (by first | rfl | (simp only[firstArgMember];rfl)) (wpAny_newObj_type ?_ (by size_fits)))
  simp only[raiseNew];refine aa (wpAny_handled ?_);rw[show A.in1.handled=none from v];refine aa (ad (wpAny_throw ?_));refine aa (wpAny_isInstance (T:= "StopIteration") (b:=true) ⟨_,yM _ Z,Z⟩ isSubtype_stop ?_);exact ad (r _ q (((yA.update ..).extBut.push _).push _))
theorem ZI5(m:A.handled=none)(I:ai)(l:d≠I):Walks prog w A I [I,d] [I] es.size (λi v=>(es[i]?).map (·.key)=some v) (λi h=>h.IsKeyIter I d i es.size ep/\VY d es ep h) where
 sub:=λb f=>by simp at f;simp[f]
 frame:=λ_ _ _ a n=>⟨a.1.at λo e=>n I (by simp) o e,a.2.at λo e=>n d (by simp) o e⟩
 item:=λi s Q E r a j=>by
  refine Fe m a.1 a.2 (λe g c k p=>?_) (λg c=>by rw[xF r] at c;cases c)
  exact j e.key g s.toks (by rw[c];rfl) ⟨k,a.2.at λo z=>(p.2 d l).trans z⟩ λb o f e=>(p.2 b (λh=>f (by simp[h]))).trans e
 done:=λs Q E a j=>by
  refine Fe m a.1 a.2 (λe g c=>by rw[Array.getElem?_eq_none (zY _)] at c;cases c) (λg _ q=>?_)
  exact j g s.toks λb o f e=>q b o (λh=>f (by simp[h])) e
 self:=λ_ _ _ _ a j=>wpAny_pyIter_keyiter a.1 j
theorem Dv(f:(d==sysModules)=false):tN prog w "dict" d d es.size (λi v=>(es[i]?).map (·.key)=some v) (VY d es ep) where
 type:=λ_ x=>x.type
 there:=λ_ x=>by let⟨o,g,_⟩:=x;exact⟨zH g,zH g⟩
 keep:=λ_ _ x c=>x.at λo e=>c d (.inl rfl) o e
 notList:=by decide
 notTuple:=by decide
 hint:=λ_ _ _ _ x a=>PySem.W.kdl_hint_dict x.type a
 iter:=λ_ s b x=>⟨_,_,(λ_ _ a=>ZKZ f x a),ZI5 b _ (by let⟨o,g,_⟩:=x;exact yK (zH g)),⟨⟨_,yM _ Z,Z,Z⟩,x.at λo e=>zA _ e⟩⟩
end
section
variable{jP:jo}{σ:L2.St}{H:Hp}
theorem E9{w:ar}{k:List (KT×V×V)}{d:Array DictEntry}{c:js}(r:Paired (Nj w) k d.toList)(h:ItemsOf (λi v=>(d[i]?).map (·.key)=some v) c d.size):ZQ (k.map (·.2.1)) c.toList:=by
 let p:=Paired.length r;let o:c.toList.length=d.size:=by have:=h.1;simpa using this
 refine Jd (by rw[zX,o,p];simp) λi a b g j=>?_
 rw[zG] at g;let⟨z,n,rfl⟩:=yC.mp g;rw[vU] at j;have:=h.2 i b j;let⟨e,m,rfl⟩:=yC.mp this;let⟨q,f,l⟩:=NB r (by rw[vU];exact m)
 rw[n] at f;cases f;exact l.2.1
theorem ZJC{d:ai}{i:List (KT×V×V)}{Q:jd->aj->Prop}(n:A.handled=none)(I:ZF X jP σ H s)(x:Zu X.w H d i)(l:∀ (h:aj) (c:jd),ZF X jP σ H h->ZQ (i.map (·.2.1)) c->Q c h):aA (az X.prog X.w) A (collect (.ref d)) Q E s:=by
 let⟨u,k,g⟩:=x.ex;let⟨⟨b,f,o,j,p,q,m⟩,_⟩:=I.hok d _ k;refine Bx (Dv (ep:=j) b) n ⟨o,p,q,m⟩ f λv t e r _ a=>?_;exact l _ e.toList (I.kept (t':=t) r) (E9 g a)
end
theorem ZHe:ax "sorted" = some (.builtin "sorted"):=by decide +kernel
def ZQK:TE:=λ_ H Q=>∀(p:ai)(a:Hp),H p=none->ZH p H a->ZE H a->Zu X.w a p []->Q (.ref p) a
theorem E7{c:Pos}:PE X (.Dict [] [] c) (ZQK (X:=X)):=λf s i H Q I h=>by
 let d:=I.hok.fresh (zY s.heap.objs.size);refine wpAny_Dict_empty ⟨.ref s.heap.objs.size,_,I.laid (a:=s.heap.objs.size) (o:=UY s.heap.objs.size #[]) (t':=s.toks) (λ_ _ q=>zA _ q) (zY _) (Iw (beq_eq_false_iff_ne.mpr (Ne.symm (yK I.big))) (zE _) ⟨_,0,yM _ rfl,⟨rfl,rfl,rfl⟩,rfl⟩),Z,?_⟩;exact h _ _ d (λb o e n=>by rw[ZS n];exact e) (Zv d _) ⟨⟨#[],ZZ,.nil⟩,λz g=>by simp at g,.nil⟩
inductive Oe(w:ar)(D:YH)(e:L2.St)(v x y:V)(b:Hp):Prop
 |mk(a:ai)(d:List (KT×V×V))(t:KT)(_:x=.ref a)(_:Zu w b a d)(_:d.length<1000)(_:ZD b t y)(_:t.depth<=3)(_:∀ c,ZH a b c->Zu w c a (Qs d t y v)->D.nx e c)
def BN(w:ar)(e g f:TE):TS:=λD a H=>f a H λv b=>e a b λx c=>g a c λy d=>Oe w D a v x y d
theorem El{o i b:Expr}{e d:Pos}{k m l:TE}(M:X.A.units+4<cLine)(K:PE X o k)(J:PE X i m)(N:PE X b l)(L:swapsWith b (some (.Subscript o i d)) e.line X.env=pure false):
  PS X (.Assign [.Subscript o i d] b e) (BN X.w k m l):=by
 intro c s f H D I h;refine wpAny_Assign_Subscript (YF (N c s f H _ I h) λr W v n q T Q=>YF (K c W f n _ q Q) λu Y x p z U R=>YA (J c Y f p _ z R) λiv s3 ⟨y,H3,B,V,a,xs,t,G,E,P,O,F,S⟩=>?_) L;subst G;obtain rfl:u=Value.ref a:=U;exact ZQa M B E P O F V T λs4 j C sx g=>⟨f,j,C,S j sx g⟩
def C2(g:jl)(e:Hp)(Q:VK):Prop:=∀(D:ai)(f:je)(d:jl)(c:Hp),ZE e c->e D=none->c D=some (.lst f)->jI c d f->d.Perm g->d.Pairwise (λa b=>b.lt a=false)->Q (.ref D) c
inductive Pt(w:ar)(Q:VK)(c:je)(b:Hp):Prop
 |mk(d:ai)(a:List (KT×V×V))(_:c=[.ref d])(_:Zu w b d a)(_:∀ x∈a,x.1.fits 3=true)(_:a.length<64)(_:C2 (a.map (·.1)) b Q)
def ZPJ(w:ar)(t:TA):TE:=λc H Q=>t c H λb a=>Pt w Q b a
theorem CM{g:KT->KT}(hg:Kg g)(U:∀ t,(g t).depth<=2 * t.depth+2){k:Nat}{p a O E:Pos}{e:Expr}{x x0:Str}{t:TA}(S:ZA X.prog X.w X.K X.mg X.base k x [x0] (P1 g))(N:ZU (k+2) X.A)(B:Gl X "sorted")(hm:X.mg "sorted" = none)(C:Gl X x)(ha:PA X [e] t)(y:(x==("__debug__" : Str))=false:=by decide)(he:aE a (aq [e] X.env)=(false,aF e X.env)::aE a (aq [] X.env):=by rfl)(c:(aE a (aq [e] X.env)).any (·.1)=false:=by rfl):
  PE X (.Call (.Name "sorted" p) [e] [⟨some (xQ "key"),.Name x E,O⟩] a) (ZPJ X.w t):=by
 intro i s R H Q I h;let⟨f,fd,F,b,a0,m⟩:=S.ex;refine ag (Nu I B hm ZHe (callWith_kw (YA (ha a i s R H _ I h) λus s1 ⟨vs,J,T,r,d,l,V,o,M,j,q⟩=>?_) he c));let pk:PK X [⟨some (xQ "key"),.Name x E,O⟩] (VN (tC (.ref f)) Qr):=ZN5 (WL (v:=.ref f) (pos:=E) C m Z y) ZOV;refine YA (pk a i s1 R J (λP n=>P=[.ref f]/\n=J) T ⟨Z,Z⟩) ?_;rintro P s2 ⟨zv,n,L,rz,Y,W⟩;subst V Y W;let⟨u,rfl,ru⟩:=Qf r;let⟨u2,rfl,G⟩:=Qf rz;cases ru;cases G;let ka:jI n (l.map (·.1)) (l.map (·.2.1)):=by
  have:=o.key;clear q j M o
  induction l with
  | nil=>exact .nil
  | cons z l ih=>exact .cons (this z (zS ..)).1 (ih λz D=>this z (zO _ D))
 exact Bw hg U N F b L ka (λt ht=>by let⟨z,D,rfl⟩:=zP.mp ht;exact M z D) (by rw[zX];exact j) (λQ' hq=>ZJC N.hd L o hq) q
end Tw
namespace L2
open PySem PySem.Spec PyProof.Rows
section
variable{jP:jo}{σ:St}{H:Hp}
end
end L2
namespace Tw
open PySem PySem.Spec L2 PyProof.Rows
def QO:jf->jc->Prop
 | some v,some r=>ZN v r
 | none,none=>True
 | _,_=>False
mutual
theorem ZJ.keep{h h':aC}(k:∀ b o,h.get? b=some o->h'.get? b=some o):∀(t:KT)(v:ah),ZJ h t v->ZJ h' t v
 | .int i,v,x=>by rw[ZJ] at x⊢;exact x
 | .str i,v,x=>by rw[ZJ] at x⊢;exact x
 | .tup l,v,x=>by
  rw[ZJ] at x⊢;let⟨a,its,e,⟨o,g,r⟩,e2⟩:=x;exact⟨a,its,e,⟨o,k _ _ g,r⟩,jJ.keep k l its e2⟩
theorem jJ.keep{h h':aC}(k:∀ b o,h.get? b=some o->h'.get? b=some o):∀(l:jl)(vs:jd),jJ h l vs->jJ h' l vs
 | [],vs,x=>by rw[jJ] at x⊢;exact x
 | t::l,vs,x=>by
  rw[jJ] at x⊢;let⟨v,r,e,e1,e2⟩:=x;exact⟨v,r,e,ZJ.keep k t v e1,jJ.keep k l r e2⟩
end
section
variable{jP:jo}{σ:L2.St}{H:Hp}
theorem MA{d:ai}{j:List (KT×V×V)}(I:ZF X jP σ H s)(x:Zu X.w H d j):(d==sysModules)=false/\s.TypeIs (.ref d) "dict" /\ ∀ b,Value.ref d=.ref b->∃ f,s.heap.get? b=some f/\f.dict=none:=by
 let⟨l,g,i⟩:=x.ex;let⟨⟨a,h,o,k,c,e,m⟩,_⟩:=I.hok d _ g;exists a,⟨o,c,e.1⟩;intro b q;cases q;exact⟨o,c,e.2.1⟩
theorem Ep{d:ai}{q:List (KT×V×V)}{t:KT}{y:V}{u:ah}{Q:jc->aj->Prop}(O:A.units+4<cLine)(I:ZF X jP σ H s)(x:Zu X.w H d q)(m:ZD H t y)(v:t.depth<=3)(p:ZN y u)(h:∀ f r,ZF X jP σ H f->(∀ b n,s.heap.get? b=some n->f.heap.get? b=some n)->QO (Ws q t) r->Q r f):aA (az X.prog X.w) A (dictGet d u) Q E s:=by
 let⟨N,G,c⟩:=x.ex;let⟨⟨l,K,o,M,k,P,i⟩,_⟩:=I.hok d _ G;unfold dictGet
 try with_reducible refine af ?_
 refine aa (Mq t.depth t (zY _) (VX I t y u m p) ∅ λg L=>?_)
 let a:ZF X jP σ H { s with toks:=g }:=I.tok g;refine aa (Ju (A:=A) a x c k i m v p ∅ (λJ=>?_) λj z e B C D F=>?_)
 ·refine ad (h _ none a (λ_ _ e=>e) ?_);rw[GY J];trivial
 ·refine aa (wpAny_dictEntries (s:={ s with toks:=g }) k i ?_);rw[D];refine ad (h _ (some e.val) a (λ_ _ e=>e) ?_);rw[<-C,Kf x.nd B];exact F.2.2
theorem ZJ1{d:ai}{g:List (KT×V×V)}{t:KT}{y v:V}{u:ah}{Q:ja}(n:A.units+5<cLine)(I:ZF X jP σ H s)(x:Zu X.w H d g)(l:ZD H t y)(j:t.depth<=3)(m:ZN y u)(k:Ws g t=some v)(h:∀ f a,ZF X jP σ H a->ZN v f->Q f a):aA (az X.prog X.w) A (getItem (.ref d) u) Q E s:=by
 let⟨e,b,_⟩:=MA I x;unfold getItem
 try with_reducible refine af ?_
 refine aa (wpAny_sequenceKey b (by decide) ?_)
 refine aa (wpAny_callSpecial?_slot (name:=xQ "__getitem__") b slot_dict_getitem (wpAny_call_entry slot_dict_getitem b entry_dict_getitem ?_ (args_dict_getitem _ _)));show aA _ _ (dictGet d u >>= _) _ _ s;refine aa (Ep (by show A.units+1+4<_;lia) I x l j m λa r i _ c=>?_)
 rw[k] at c
 cases r with
 | none=>exact c.elim
 | some r=>exact ad ⟨r,Z,ad (h r a i c)⟩
theorem ZQf{d:ai}{f:List (KT×V×V)}{t:KT}{y:V}{u:ah}{Q:Bool->aj->Prop}(m:A.units+5<cLine)(I:ZF X jP σ H s)(x:Zu X.w H d f)(k:ZD H t y)(j:t.depth<=3)(l:ZN y u)(h:∀ e,ZF X jP σ H e->Q (Ws f t).isSome e):aA (az X.prog X.w) A (contains (.ref d) u) Q E s:=by
 let⟨a,g,_⟩:=MA I x;unfold contains
 try with_reducible refine af ?_
 refine aa (wpAny_specialOf g slot_dict_contains.lookup ?_);show aA _ _ (if (some (Value.builtin "dict.__contains__")==some Value.none)=true then _ else _) _ E s
 rw[aJ (by rw[beq_builtin_none];exact zW)]
 refine aa (wpAny_callSpecialUnlessNone?_slot (name:=xQ "__contains__") g slot_dict_contains (wpAny_call_entry slot_dict_contains g entry_dict_contains ?_ (args_dict_contains _ _)));show aA _ _ (dictGet d u >>= _) _ _ s;refine aa (Ep (by show A.units+1+4<_;lia) I x k j l λe r i _ c=>?_)
 let b:=h e i
 cases r with
 | some r=>
  cases q:Ws f t with
  | none=>rw[q] at c;exact c.elim
  | some v=>
   rw[q] at b;show aA _ _ (ret (.bool true)) _ _ _;exact ad ⟨_,Z,wpAny_truthy_bool b⟩
 | none=>
  cases q:Ws f t with
  | some v=>rw[q] at c;exact c.elim
  | none=>
   rw[q] at b;show aA _ _ (Builtin.Dict.pendingKey? d u >>= _) _ _ _;exact aa (wpAny_pendingKey_other a (ad ⟨_,rfl,wpAny_truthy_bool b⟩))
theorem ZRC{d:ai}{b:List (KT×V×V)}{t:KT}{y:V}{u:ah}{Q:ja}(f:A.units+5<cLine)(I:ZF X jP σ H s)(x:Zu X.w H d b)(g:ZD H t y)(e:t.depth<=3)(i:ZN y u)(h:∀ a,ZF X jP σ H a->Q (.bool (Ws b t).isSome) a):aA (az X.prog X.w) A (ay .In u (.ref d)) Q E s:=by
 show aA _ _ (do return .bool (← contains (.ref d) u)) Q E s
 exact aa (ZQf f I x g e i λa c=>ad (h a c))
end
section
variable{o i e f:Expr}{pos jh jg:Pos}{td ty tx:TE}
inductive Ox(w:ar)(Q:VK)(x y:V)(b:Hp):Prop
 |mk(a:ai)(c:List (KT×V×V))(t:KT)(v:V)(_:x=.ref a)(_:Zu w b a c)(_:ZD b t y)(_:t.depth<=3)(_:Ws c t=some v)(_:Q v b)
def FW(w:ar)(td ty:TE):TE:=λa H Q=>td a H λx b=>ty a b λy c=>Ox w Q x y c
theorem DY(C:X.A.units+5<cLine)(z:PE X o td)(r:PE X i ty)(B:My i):PE X (.Subscript o i pos) (FW X.w td ty):=by
 intro b s j H Q I h;refine Hl qU.lookup B (YF (z b s j H _ I h) λu M x k m K G=>YA (r b M j k _ m G) ?_);rintro N O ⟨y,l,d,L,a,S,t,v,q,g,E,p,D,J⟩;subst q;obtain rfl:u=Value.ref a:=K;exact⟨(MA d g).2.1,ZJ1 C d g E p L D λR P n c=>⟨v,l,n,c,J⟩⟩
inductive OA(c:ar)(y x:V)(H:Hp)(Q:VK):Prop
 |mk(a:ai)(b:List (KT×V×V))(t:KT)(_:x=.ref a)(_:Zu c H a b)(_:ZD H t y)(_:t.depth<=3)(_:Q (.bl (Ws b t).isSome) H)
theorem Gb(j:X.A.units+5<cLine):Y7 X (ay .In) (OA X.w):=by
 intro b s r H y x v u Q I m l h;let⟨a,p,t,rfl,d,k,g,q⟩:=h;cases l;exact ZRC j I d k g m λn c=>⟨.bl _,H,c,Z,q⟩
inductive NF(w:ar)(c:je)(H:Hp)(Q:VK):Prop
 |mk(a:ai)(b:List (KT×V×V))(_:c=[.ref a])(_:Zu w H a b)(_:b.length<=900)(_:∀ p,H p=none->Q (.ref p) (upd H p (.lst (b.map (·.2.1)))))
theorem ZHo(v:X.calm=true):UR X (.type "list") (NF X.w):=by
 intro m s L H K J Q I r h;let⟨a,E,rfl,n,l,q⟩:=h;let⟨u,rfl,C⟩:=Qf r;cases C;let⟨F,t,k⟩:=n.ex;let⟨⟨d,j,o,p,z,A,x⟩,_⟩:=I.hok a _ t;refine PySem.W.kdl_call (Dv (ep:=p) d) (I.ok.hd v) ⟨o,z,A,x⟩ j λG D g c B y b=>?_;exact⟨.ref s.heap.objs.size,_,I.laid (a:=s.heap.objs.size) (o:=.lst (E.map (·.2.1))) (t':=D) B (zY _) ⟨by rw[zX];exact xM (XX ∅),g.toList,c,E9 k b,by rw[Array.toArray_toList];exact y⟩,Z,q _ (I.hok.fresh (zY _))⟩
end
theorem Paired.ixR{b a:Type}{F:b->a->Prop}{l:List b}{m:List a}{i:Nat}{u:a}(h:Paired F l m)(e:m[i]? = some u):∃ r,l[i]? = some r/\F r u:=NB h e
section
variable{jP:jo}{σ:L2.St}{H:Hp}{s0:aj}
end
end Tw
namespace Tw
open PySem PySem.Spec L2
def QK(N:ai->Prop)(H:Hp)(n:String)(v:V):Prop:=
 (n = "bool" /\ ∃ b,v=.bl b)\/(n = "NoneType" /\ v=.non)\/(n = "list" /\ ∃ a d,v=.ref a/\H a=some (.lst d)/\¬ N a)\/(n = "dict" /\ ∃ a c,v=.ref a/\H a=some (.dK c)/\¬ N a)
mutual
def Zz(N:ai->Prop)(H:Hp):TG->V->Prop
 | .int i,v=>v=.int i
 | .str x,v=>v=.str x
 | .tup l,v=>∃ a vs,v=.ref a/\H a=some (.tup vs)/\jM N H l vs
 | .odd n,v=>QK N H n v
def jM(N:ai->Prop)(H:Hp):List TG->je->Prop
 | [],vs=>vs=[]
 | t::l,vs=>∃ v r,vs=v::r/\Zz N H t v/\jM N H l r
end
structure V4(N:ai->Prop)(H H':Hp):Prop where
 tup:Z6 H H'
 rest:∀ b o,H b=some o->¬ N b->H' b=some o
theorem V4.same{N:ai->Prop}{H a:Hp}(s:ZE H a):V4 N H a:=⟨ZE.tups s,λb o e _=>s b o e⟩
mutual
theorem Zz.mono{N:ai->Prop}{H H':Hp}(m:V4 N H H'):∀(t:TG)(v:V),Zz N H t v->Zz N H' t v
 | .int _,_,h=>by rw[Zz] at h⊢;exact h
 | .str _,_,h=>by rw[Zz] at h⊢;exact h
 | .tup l,_,h=>by
  rw[Zz] at h⊢;let⟨a,vs,e,h1,h2⟩:=h;exact⟨a,vs,e,m.tup a vs h1,jM.mono m l vs h2⟩
 | .odd n,_,h=>by
  rw[Zz] at h⊢;rcases h with h | h | ⟨e,a,xs,e1,e2,e3⟩ | ⟨e,a,xs,e1,e2,e3⟩
  ·exact .inl h
  ·exact .inr (.inl h)
  ·exact .inr (.inr (.inl ⟨e,a,xs,e1,m.rest _ _ e2 e3,e3⟩))
  ·exact .inr (.inr (.inr ⟨e,a,xs,e1,m.rest _ _ e2 e3,e3⟩))
theorem jM.mono{N:ai->Prop}{H H':Hp}(m:V4 N H H'):∀(l:List TG)(vs:je),jM N H l vs->jM N H' l vs
 | [],_,h=>by rw[jM] at h⊢;exact h
 | t::l,_,h=>by
  rw[jM] at h⊢;let⟨v,r,e,h1,h2⟩:=h;exact⟨v,r,e,Zz.mono m t v h1,jM.mono m l r h2⟩
end
mutual
theorem Zz.less{N N':ai->Prop}{H:Hp}(m:∀ b,N' b->N b):∀(t:TG)(v:V),Zz N H t v->Zz N' H t v
 | .int _,_,h=>by rw[Zz] at h⊢;exact h
 | .str _,_,h=>by rw[Zz] at h⊢;exact h
 | .tup l,_,h=>by
  rw[Zz] at h⊢;let⟨a,vs,e,h1,h2⟩:=h;exact⟨a,vs,e,h1,jM.less m l vs h2⟩
 | .odd n,_,h=>by
  rw[Zz] at h⊢;rcases h with h | h | ⟨e,a,xs,e1,e2,e3⟩ | ⟨e,a,xs,e1,e2,e3⟩
  ·exact .inl h
  ·exact .inr (.inl h)
  ·exact .inr (.inr (.inl ⟨e,a,xs,e1,e2,λz=>e3 (m a z)⟩))
  ·exact .inr (.inr (.inr ⟨e,a,xs,e1,e2,λz=>e3 (m a z)⟩))
theorem jM.less{N N':ai->Prop}{H:Hp}(m:∀ b,N' b->N b):∀(l:List TG)(vs:je),jM N H l vs->jM N' H l vs
 | [],_,h=>by rw[jM] at h⊢;exact h
 | t::l,_,h=>by
  rw[jM] at h⊢;let⟨v,r,e,h1,h2⟩:=h;exact⟨v,r,e,Zz.less m t v h1,jM.less m l r h2⟩
end
def jM.length{N:ai->Prop}{H:Hp}:∀{l:List TG}{a:je},jM N H l a->l.length=a.length
 | [],a,h=>by rw[jM] at h;subst h;rfl
 | t::l,a,h=>by
  rw[jM] at h;let⟨v,r,rfl,_,b⟩:=h;rw[zR,zR,b.length]
def jM.get{N:ai->Prop}{H:Hp}:∀{l:List TG}{a:je}{i:Nat}{v:V},jM N H l a->a[i]? = some v->∃ t,l[i]? = some t/\Zz N H t v
 | [],a,i,v,h,e=>by rw[jM] at h;subst h;simp at e
 | t::l,a,0,v,h,e=>by
  rw[jM] at h;let⟨j,r,rfl,d,_⟩:=h;simp at e;subst e;exact⟨t,Z,d⟩
 | t::l,a,i+1,v,h,e=>by
  rw[jM] at h;let⟨j,r,rfl,_,f⟩:=h;let⟨g,b,c⟩:=f.get (i:=i) (by simpa using e)
  exact⟨g,by simpa using b,c⟩
mutual
theorem IQ{N:ai->Prop}{H:Hp}:∀(t:KT)(v:V),ZD H t v->Zz N H t.emb v
 | .int i,v,h=>by rw[ZD] at h;rw[KT.emb,Zz];exact h
 | .str x,v,h=>by rw[ZD] at h;rw[KT.emb,Zz];exact h
 | .tup l,v,h=>by
  rw[ZD] at h;let⟨a,vs,e,h1,h2⟩:=h;rw[KT.emb,Zz];exact⟨a,vs,e,h1,ths_keys l vs h2⟩
theorem ths_keys{N:ai->Prop}{H:Hp}:∀(l:jl)(vs:je),jI H l vs->jM N H (embL l) vs
 | [],vs,h=>by rw[jI] at h;rw[embL,jM];exact h
 | t::l,vs,h=>by
  rw[jI] at h;let⟨v,r,e,h1,h2⟩:=h;rw[embL,jM];exact⟨v,r,e,IQ t v h1,ths_keys l r h2⟩
end
theorem QK.ty{K:zZ}{N:ai->Prop}{H:Hp}{n:String}{v:V}(h:QK N H n v):XF K H v (.type n):=by
 rcases h with ⟨rfl,b,rfl⟩ | ⟨rfl,rfl⟩ | ⟨rfl,a,c,rfl,e,_⟩ | ⟨rfl,a,c,rfl,e,_⟩
 ·exact .bl b
 ·exact .non
 ·exact .lst e
 ·exact .dK e
theorem Aj{K:zZ}{N:ai->Prop}{H:Hp}{n:String}{v:V}(h:QK N H n v):
  ∃ b,yO K (.type n) (.type "bool")=some b/\(b=false->yO K (.type n) (.type "int")=some false/\yO K (.type n) (.type "str")=some false/\yO K (.type n) (.type "tuple")=some false):=by
 rcases h with ⟨rfl,_⟩ | ⟨rfl,_⟩ | ⟨rfl,_⟩ | ⟨rfl,_⟩
 ·exact⟨true,Ct,λz=>absurd z (by decide)⟩
 ·exact⟨false,by kernel_rfl,λ_=>⟨by kernel_rfl,by kernel_rfl,by kernel_rfl⟩⟩
 ·exact⟨false,by kernel_rfl,λ_=>⟨by kernel_rfl,by kernel_rfl,by kernel_rfl⟩⟩
 ·exact⟨false,by kernel_rfl,λ_=>⟨by kernel_rfl,by kernel_rfl,by kernel_rfl⟩⟩
end Tw
namespace L2
open PySem PySem.Spec PyProof.Rows
abbrev ZRL(a:ai)(o:aG):HO:=.ext λh=>h.get? a=some o
section
variable{H H2:Hp}{h h':aC}{cs fs ex:jy}
end
inductive O5(o:aG)(q:Str):Prop
 |mk(a t:_)(_:o.data=.fields a)(_:a[1]? = some (.str q t))
def Ai(H:Hp)(q:Str)(e:js):Prop:=TriplesOk e.toList/\∀ b d,PySem.codeAmong b e.toList=some d->∃ a c,d=.ref a/\H a=some (ZRL a c)/\O5 c q
inductive Yg(H:Hp)(P:ai)(q:Str):Prop
 |mk(a:_)(_:H P=some (.tbl a))(_:Ai H q a)
section
variable{cs:jy}{HL Hc H' H3:Hp}
end
theorem De{P:ak}{w:ar}{K:zZ}{h:jb}{d:aC}{g:Vb}{N:jn}{c:Str}{a:aD}{f:ai}{e:ah}{A:aw}{b:jt}{s:aj}{H:Hp}{E:XK}:
  PassesOwn (az (Xy g P w K h d N c a f e A b s H E).prog (Xy g P w K h d N c a f e A b s H E).w) (Xy g P w K h d N c a f e A b s H E).A (Xy g P w K h d N c a f e A b s H E).env (Xy g P w K h d N c a f e A b s H E).xe:=by
 show PassesOwn (az P w) (A.deeper (envOfC c a s.heap.objs.size f e)) (envOfC c a s.heap.objs.size f e) _
 passes_own
def OT:Expr->Bool
 | .Starred _ _=>false
 | _=>true
theorem UV{e:Expr}{b:jw}{a:Env}(h:OT e=true):aq (e::b) a=(false,aF e a)::aq b a:=by
 cases e <;> first | rfl | cases h
theorem ZRb{X:Cx}{e:Expr}{a:jw}{b:TE}{t:TA}(c:PE X e b)(d:PA X a t)(h:OT e=true:=by rfl):PA X (e::a) (VN b t):=Ze c d (UV h)
theorem ZT{X:Cx}{e:Expr}{a:TE}(b:PE X e a)(h:OT e=true:=by rfl):PA X [e] (VN a Qr):=Ze b Zn (UV h)
theorem Zq{X:Cx}{e d:Expr}{b a:TE}(f:PE X e b)(g:PE X d a)(h:OT e=true:=by rfl)(c:OT d=true:=by rfl):PA X [e,d] (VN b (VN a Qr)):=Ze f (ZT g c) (UV h)
theorem Vm{X:Cx}{a b c:Expr}{d e f:TE}(g:PE X a d)(i:PE X b e)(j:PE X c f)(h:[a,b,c].all OT=true:=by rfl):PA X [a,b,c] (VN d (VN e (VN f Qr))):=
 (Ze g (Ze i (Ze j Zn (UV (yQ.mp h c (by simp)))) (UV (yQ.mp h b (by simp)))) (UV (yQ.mp h a (by simp))))
theorem QI{X:Cx}{a b c d:Expr}{e f g i:TE}(j:PE X a e)(k:PE X b f)(l:PE X c g)(m:PE X d i)(h:[a,b,c,d].all OT=true:=by rfl):PA X [a,b,c,d] (VN e (VN f (VN g (VN i Qr)))):=
 (Ze j (Ze k (Ze l (Ze m Zn (UV (yQ.mp h d (by simp)))) (UV (yQ.mp h c (by simp)))) (UV (yQ.mp h b (by simp)))) (UV (yQ.mp h a (by simp))))
theorem pa6{X:Cx}{a b c d e f:Expr}{g i j k l m:TE}(n:PE X a g)(o:PE X b i)(p:PE X c j)(q:PE X d k)(r:PE X e l)(s:PE X f m)(h:[a,b,c,d,e,f].all OT=true:=by rfl):PA X [a,b,c,d,e,f] (VN g (VN i (VN j (VN k (VN l (VN m Qr)))))):=
 (Ze n (Ze o (Ze p (Ze q (Ze r (Ze s Zn (UV (yQ.mp h f (by simp)))) (UV (yQ.mp h e (by simp)))) (UV (yQ.mp h d (by simp)))) (UV (yQ.mp h c (by simp)))) (UV (yQ.mp h b (by simp)))) (UV (yQ.mp h a (by simp))))
def VO(g:js->Prop)(x C:ai)(b:ju)(h:aC):Prop:=∃ o a,h.get? x=some o/\o.cls=.ref C/\o.data=.fields a/\o.dict=b/\g a
def Ll:js->Prop:=λa=>a[1]? = some .none/\a[2]? = some .none
def NZ:js->Prop:=λ_=>True
def XO(g:js->Prop)(x C:ai)(a:ju):HO:=.ext (VO g x C a)
theorem VO.is{g:js->Prop}{x C:ai}{c:ju}{h:aC}(e:VO g x C c h):WW x C h:=let ⟨o,_,a,b,_⟩:=e;⟨o,a,b⟩
theorem CG{P:ak}{w:ar}{H:Hp}{h:aC}{g:js->Prop}{x C:ai}{j:ju}(e:VO g x C j h):Zf P w H h x (XO g x C j):=by
 let⟨o,s,a,b,c,d⟩:=id e;exact⟨e,⟨o,a⟩,λq r ⟨i,f,l,m,n,p⟩ k=>⟨i,f,k i l,m,n,p⟩⟩
abbrev IC:jd:=[.type "ValueError",.type "Exception",.type "BaseException",.type "object"]
def CL:ah->Bool
 | .type t=>t == "type"
 | _=>false
theorem ZM6{v:ah}(h:CL v=true):v=.type "type" :=by
 cases v with
 | type t=>exact congrArg Value.type (eq_of_beq h)
 | _=>cases h
def Gu:Data->Option ClassData
 | .cls c=>some c
 | _=>none
theorem ZLB{d:Data}{c:ClassData}(h:Gu d=some c):d=.cls c:=by
 cases d with
 | cls c=>cases h;rfl
 | _=>cases h
def GV:jc->Bool
 | some (.builtin m)=>m == "ValueError.__new__"
 | _=>false
theorem ZPA{v:jc}(h:GV v=true):v=some (.builtin "ValueError.__new__"):=by
 cases v with
 | none=>cases h
 | some v=>
  cases v with
  | builtin m=>exact congrArg (some <| Value.builtin ·) (eq_of_beq h)
  | _=>cases h
def Ec(C:ai):jd->Bool
 | .ref D::_=>D==C
 | _=>false
theorem ZOP{C:ai}{l:jd}(h:Ec C l=true):l=.ref C::l.tail:=by
 cases l with
 | nil=>cases h
 | cons v r=>
  cases v with
  | ref D=>exact congrArg (Value.ref ·::r) (eq_of_beq h)
  | _=>cases h
theorem NO{b:Type}{n:Nat}{l:List b}(h:l.length=n+1):∃ a m,l=a::m:=by
 cases l with
 | nil=>cases h
 | cons a m=>exact⟨a,m,Z⟩
theorem ZPX{l:List (jc)}(h:l.length=6):∃ a b c d e f,l=[a,b,c,d,e,f]:=by
 let⟨a,l,rfl⟩:=NO h;let⟨b,l,rfl⟩:=NO (yB.inj h);let⟨c,l,rfl⟩:=NO (yB.inj (yB.inj h));let⟨d,l,rfl⟩:=NO (yB.inj (yB.inj (yB.inj h)));let⟨e,l,rfl⟩:=NO (yB.inj (yB.inj (yB.inj (yB.inj h))));let⟨f,l,rfl⟩:=NO (yB.inj (yB.inj (yB.inj (yB.inj (yB.inj h)))))
 cases l with
 | nil=>exact⟨a,b,c,d,e,f,Z⟩
 | cons _ _=>cases h
theorem Hm{b:Type}{p:b->Bool}{o:Option b}(h:o.any p=true):∃ a,o=some a/\p a=true:=by
 cases o with
 | none=>cases h
 | some a=>exact⟨a,Z,h⟩
def EA(K:zZ)(C:ai)(f:ClassData->Bool):Bool:=(K.lookup C).any λo=>CL o.cls&&(o.slots.toList.length==6&&(GV (o.slots.toList.getD 4 none)&&(Gu o.data).any λc=>Ec C c.mro&&(PySem.W.tailIn K IC c.mro.tail&&(!c.hasDel&&f c))))
inductive OH(K:zZ)(C:ai)(f:ClassData->Bool):Prop
 |mk(h e i j g k b d a l m n o p q:_)(c:jd):K.lookup C=some (excClassObj h j C i e c g k b d a l m n o p q "ValueError.__new__")->PySem.W.tailIn K IC c=true->f ⟨h,e,.ref C::c,i,j,g,k,b,d,a,false⟩=true->OH K C f
theorem BS{K:zZ}{C:ai}{f:ClassData->Bool}(h:EA K C f=true):OH K C f:=by
 let⟨⟨H,l,I,⟨J⟩⟩,e,h⟩:=Hm h;rw[zM,zM,zM] at h;let⟨n,o,p,q⟩:=h;let⟨⟨B,k,g,D,E,t,F,i,j,b,c⟩,m,h⟩:=Hm q;rw[zM,zM,zM] at h;let⟨a,d,r,s⟩:=h;cases ZM6 n;cases ZLB m;let⟨u,w,x,y,z,A,rfl⟩:=ZPX (eq_of_beq o);cases ZPA (v:=z) p;let a:=ZOP a;dsimp only at a d;generalize g.tail=G at a d;subst a
 cases c with
 | true=>cases r
 | false=>exact⟨B,k,D,E,t,F,i,j,b,l,u,w,x,y,A,G,e,d,s⟩
def Kv(K:zZ)(C:ai):Bool:=EA K C λc=>PySem.W.nsOkIn K c.ns&&zC K c.ns "__init__" == some none
theorem ZNK{K:zZ}{a:aC}{g:jb}{x:Str}{C:ai}(b:K.In a)(l:g x=some (.ref C))(q:Kv K C=true):OwnCls x C IC "ValueError.__new__" g a:=by
 exists l;let⟨u,j,h,v,m,w,d,i,c,k,o,p,r,s,t,y,e,n,f⟩:=BS q;rw[zM] at f;exact⟨y,h,u,v,j,m,w,d,i,c,k,o,p,r,s,t,a.nsMap h,b _ _ e,.of_isNs (PySem.W.isNs_of_in b f.1),PySem.W.nsMap_none_of_in b f.1 (eq_of_beq f.2),PySem.W.tail_of_in b n⟩
section
variable{g:js->Prop}{jP:jo}{σ:St}{H:Hp}{a C fI:ai}{f:Str}{v:V}
end
section
variable{C fI:ai}{f:Str}
end
def JN(H:Hp)(a C:ai):Prop:=∃ b,H a=some (.ext b)/\∀ h,b h->WW a C h
theorem ZQQ{g:js->Prop}{H:Hp}{a C:ai}{b:ju}(e:H a=some (XO g a C b)):JN H a C:=⟨_,e,λ_ h=>h.is⟩
inductive Ob(K:zZ)(d:je)(H:Hp)(Q:VK):Prop
 |mk(a C c b:_)(_:d=[.ref a,c])(_:JN H a C)(_:Va K C)(_:Hu c=true)(_:yO K (.ref C) (cV c)=some b)(_:Q (.bl b) H)
section
theorem ZQT:UR X (.builtin "isinstance") (Ob X.K):=by
 intro f s t H p n Q I r h;let⟨d,C,c,b,rfl,⟨v,e,k⟩,g,i,j,q⟩:=h;let⟨u,o,rfl,l,a⟩:=Mx r;cases(show u=Value.ref d from l);rw[ZOe a i];exact xK (Bg g) I.kIn (k _ (I.hok d _ e).1) j (λz=>nomatch z) λm=>⟨.bl b,H,I.tok m,Z,q⟩
variable{C fI:ai}{f:Str}{e o value:Expr}{es:jw}{ta tv:TE}{t:TA}{pos pos' p:Pos}{x:Str}
theorem ZF.newx{g:jo}{j:St}{H:Hp}{s:aj}{h':aC}{ea:ai}(I:ZF X g j H s)(d:∀ b o,s.heap.get? b=some o->h'.get? b=some o)(n:s.heap.get? ea=none)(m:VO Ll ea C none h'):ZF X g j (upd H ea (XO Ll ea C none)) { s with heap:=h' }:=by
 let l:H ea=none:=by
  cases z:H ea with
  | none=>rfl
  | some o=>
   let⟨A,q⟩:=I.hok.there (a:=ea) (by rw[z];exact λy=>nomatch y)
   rw[n] at q;cases q
 let i:∀{b:ai}{o:HO},H b=some o->b≠ea:=fun{b o} q z=>by rw[z,l] at q;cases q
 refine I.call' (s':={ s with heap:=h' }) (ch:=[]) Z ⟨λb o q _ _ _=>d b o q,λb o q _ _ _=>⟨o.slots,d b o q⟩,λb o q z _=>?_,λb o q _=>⟨o,d b o q⟩,λb w q=>?_,λb o u q=>?_,λb B q=>⟨#[],?_⟩⟩ (λb v q=>?_) I.bare (λb k=>absurd k (by simp))
 ·rw[ZS (λy=>by rw[y,n] at q;cases q)];exact z
 ·rw[ZS (i q)];exact q
 ·rw[ZS (i q)];exact q
 ·rw[ZS (i q),q];simp
 ·by_cases z:b=ea
  ·rw[z,ZZ] at q;cases q;rw[z];exact CG m
  ·rw[ZS z] at q;exact(I.hok b v q).stay (λc u _ r=>d c u r) (λc h=>by rw[ZS (i h)];exact h) (λc w h=>by rw[ZS (i h)];exact h)
end
theorem ZI9(f:js->js)(o:aG):(Obj.mapFields f o).dict=o.dict:=by
 let⟨c,d,a,b⟩:=o;cases a <;> rfl
def MQ(B:aC)(cls:ah)(b:js):Prop:=b[2]? = some .none\/∀ C o a,cls=.ref C->B.get? C=some o->o.data=.cls a->a.name ≠ "NoStem"
def ZQM(h B:aC)(e:ai)(cls:ah)(g:ju)(f:ah):Prop:=
 ∃ a b T c d,(h.get? e=some a/\a.cls=cls/\a.dict=g/\a.data=.fields b/\b[1]? = some (.ref T))/\B.get? T=none/\T≠e/\h.get? T=some c/\c.data=.fields d/\d[3]? = some f/\MQ B cls b
def UK(B:aC)(l:jt)(e:ai)(cls:ah)(b:ju)(a:ah)(h:aC):Prop:=B.StaysIn h/\B.get? e=none/\h.FunFrames B l/\ZQM h B e cls b a
theorem UK.at{B h:aC}{l:jt}{e C:ai}{f:ju}{g:ah}(x:UK B l e (.ref C) f g h):VO NZ e C f h:=by
 let⟨_,_,_,i,j,T,k,m,⟨a,b,c,d,_⟩,_⟩:=x;exact⟨i,j,a,b,d,c,trivial⟩
section
variable{M:Model}{B:aC}{env:Env}{outer l:jt}{L e:ai}{cls:ah}{od:ju}{Q:Unit->aj->Prop}
theorem Hf{oe:aG}{vs:js}{first:ah}{nx:Bool}(fr:A.frames=some (env::outer))(ff:s.heap.FunFrames B (env::outer))(eL:env.frame=some L)(ge:s.heap.get? e=some oe)(sb:B.StaysIn s.heap)(eB:B.get? e=none)(dd:oe.data=.fields vs)(two:1<vs.size)(cx:MQ B oe.cls vs)(h:∀ h',UK B (env::outer) e oe.cls oe.dict (rawInt L) h'->s.heap.UpToSlots h'->Q () { s with heap:=h' }):
  aA M A (frameOf env >>= λa=>entryPlaceOf L nx >>= λpl=>EntryCells.newEntry first a .none (rawInt L) .none pl >>= λb=>setField (.ref e) 1 b) Q E s:=by
 let en:e∉(env::outer).filterMap (·.frame):=λz=>by
  let⟨_,o,g1,g2⟩:=ff.mem z;rw[ge] at g1;cases g1;exact g2 vs dd
 refine aa (wpAny_frameOf_fun fr ff eL λh1 k1=>aa (wpAny_entryPlaceOf λpl kp=>?_));unfold EntryCells.newEntry newFields;refine aa (wpAny_newObj_type ?_ (kp.sizeOk5 _ _ _ _ _));let t3:([first,Value.ref L,.none,rawInt L,.none]++(if pl.isEmpty then wJ 6 Value.none else pl)).toArray[3]? = some (rawInt L):=by
  first | (simp;done) | (rcases kp with rfl | ⟨_,_,_,_,_,_,_,rfl⟩ <;> simp)
 generalize ([first,Value.ref L,.none,rawInt L,.none]++(if pl.isEmpty then wJ 6 Value.none else pl)).toArray=ts at t3⊢;let g1:h1.get? e=some oe:=(k1.2.1 e en).trans ge;let sb1:B.StaysIn h1:=λb o q=>(k1.2.1 b λz=>by rw[(ff.mem z).1] at q;cases q).trans (sb b o q)
 let eT:h1.objs.size≠e:=λz=>wK _ (by have:=zH g1;rw[<-z] at this;exact this)
 let g2:=zA (h:=h1) ({ cls:=.type "traceback",dict:=none,data:=.fields ts }:aG) g1;let d3:=Obj.data_mapFields dd (·.setIfInBounds 1 (Value.ref h1.objs.size));let g3:=wE (Obj.mapFields (·.setIfInBounds 1 (Value.ref h1.objs.size))) g2 (Obj.isFreed_of_fields d3);let gT:=(vO (h1.push ({ cls:=.type "traceback",dict:=none,data:=.fields ts }:aG)) (Obj.mapFields (·.setIfInBounds 1 (Value.ref h1.objs.size))) eT.symm).trans (yM h1 Z);let stay:∀ b o,b≠e->h1.get? b=some o->((h1.push ({ cls:=.type "traceback",dict:=none,data:=.fields ts }:aG)).update e (Obj.mapFields (·.setIfInBounds 1 (Value.ref h1.objs.size)))).get? b=some o:=λb o n q=>
  (vO _ _ n.symm).trans (zA _ q)
 let notE:∀ b o,s.heap.get? b=some o->(∀ ws,o.data≠.fields ws)->b≠e:=λb o q nf z=>by
  rw[z,ge] at q;cases q;exact nf vs dd
 refine wpAny_setField g2 dd two (h _ ⟨λb o q=>stay b o (λz=>by rw[z,eB] at q;cases q) (sb1 b o q),eB,ff.of_keeps λb o q nf=>?_,_,_,h1.objs.size,_,_,⟨g3,Obj.cls_mapFields _ _,ZI9 _ _,d3,by simp[two]⟩,sb1.fresh,eT,gT,Z,t3,cx.imp (λz=>by rw[Array.getElem?_setIfInBounds_ne (by decide)];exact z) id⟩ λb o q nf=>?_)
 ·let⟨sl,z⟩:=k1.2.2 b o q;exact⟨_,stay b _ (notE b o q nf) z,Z⟩
 ·let⟨sl,z⟩:=k1.2.2 b o q;exact⟨sl,stay b _ (notE b o q nf) z⟩
theorem M5{G:ah}(x:UK B l e cls od G s.heap)(h:∀ j,UK B l e cls od .none j->s.heap.UpToSlots j->Q () { s with heap:=j }):aA M A (setFlight (.ref e) none) Q E s:=by
 let⟨I,D,F,H,K,T,O,u,⟨r,w,y,p,v⟩,k,m,i,g,J,C⟩:=x;let t:3<u.size:=(vM.mp J).1;let a:∀ b,b≠T->(s.heap.update T (Obj.mapFields (·.setIfInBounds 3 ((none:ju).elim Value.none λf=>rawInt f)))).get? b=s.heap.get? b:=λb n=>vO _ _ n.symm;let c:∀ b o,s.heap.get? b=some o->(∀ N,o.data≠.fields N)->b≠T:=λb o q d z=>by
  rw[z,i] at q;cases q;exact d u g
 unfold setFlight;refine aa (wpAny_field r p v ?_);rw[aK (show (Value.ref T != Value.none)=true by simp)]
 refine wpAny_setField i g t (h _ ⟨λb o q=>(a b λz=>by rw[z,k] at q;cases q).trans (I b o q),D,F.of_keeps λb o q d=>⟨o,(a b (c b o q d)).trans q,Z⟩,?_⟩ λb o q d=>⟨o.slots,(a b (c b o q d)).trans q⟩)
 exact⟨H,K,T,_,_,⟨(a e m.symm).trans r,w,y,p,v⟩,k,m,wE _ i (Obj.isFreed_of_fields (Obj.data_mapFields g _)),Obj.data_mapFields g _,by simp[t],C⟩
theorem B5{a:aG}{c:js}(n:A.frames=some (env::outer))(m:s.heap.FunFrames B (env::outer))(f:env.frame=some L)(g:s.heap.get? e=some a)(o:B.StaysIn s.heap)(k:B.get? e=none)(d:a.data=.fields c)(i:c[1]? = some .none)(j:MQ B a.cls c)(h:∀ b,UK B (env::outer) e a.cls a.dict (rawInt L) b->s.heap.UpToSlots b->Q () { s with heap:=b }):aA M A (noteFrame (.ref e) env) Q E s:=by
 unfold noteFrame;simp only[f];refine aa (wpAny_field g d i ?_);rw[aJ (by decide)]
 exact Hf n m f g o k d (vM.mp i).1 j h
theorem Fa(H:A.frames=some (env::outer))(k:env.frame=some L)(x:UK B (env::outer) e cls od .none s.heap)(h:∀ f,UK B (env::outer) e cls od (rawInt L) f->s.heap.UpToSlots f->Q () { s with heap:=f }):
  aA M A (noteFrame (.ref e) env) Q E s:=by
 let⟨J,D,G,P,R,T,O,r,⟨m,w,y,j,t⟩,u,v,i,g,p,C⟩:=x;subst w y;let I:3<r.size:=(vM.mp p).1;let a:∀ b,b≠T->(s.heap.update T (Obj.mapFields (·.setIfInBounds 3 Value.none))).get? b=s.heap.get? b:=λb n=>vO _ _ n.symm;let c:∀ b o,s.heap.get? b=some o->(∀ N,o.data≠.fields N)->b≠T:=λb o q d z=>by
  rw[z,i] at q;cases q;exact d r g
 unfold noteFrame;simp only[k];refine aa (wpAny_field m j t ?_);rw[aK (show (Value.ref T != Value.none)=true by simp)]
 refine aa (wpAny_field i g p ?_);rw[aJ (show ¬ ((Value.none==rawInt L)=true) by simp[rawInt])]
 refine aa (wpAny_setField i g I ?_);refine Hf (s:={ s with heap:=_ }) H (G.of_keeps λb o q d=>⟨o,(a b (c b o q d)).trans q,Z⟩) k ((a e v.symm).trans m) (λb o q=>(a b λz=>by rw[z,u] at q;cases q).trans (J b o q)) D j (vM.mp t).1 C λf F K=>h f F λb o q d=>?_
 exact K b o ((a b (c b o q d)).trans q) d
theorem UK.less{f:ah}{h:aC}(x:UK B (env::outer) e cls od f h):UK B outer e cls od f h:=by
 let⟨a,b,⟨_,_,c⟩,d⟩:=x;exact⟨a,b,c,d⟩
theorem ZH3(f:A.frames=some (env::outer))(b:env.frame=some L)(x:UK B (env::outer) e cls od .none s.heap)(h:∀ a,UK B outer e cls od .none a->s.heap.UpToSlots a->Q () { s with heap:=a }):aA M A (leaving env (.ref e)) Q E s:=by
 unfold leaving;exact aa (Fa f b x λg c j=>M5 (s:={ s with heap:=g }) c λi d k=>h i d.less (j.trans k))
theorem ZHm{a:aG}{c:js}(n:A.frames=some (env::outer))(m:s.heap.FunFrames B (env::outer))(i:env.frame=some L)(o:s.heap.get? e=some a)(r:B.StaysIn s.heap)(g:B.get? e=none)(f:a.data=.fields c)(v:c[1]? = some .none)(d:MQ B a.cls c)(h:∀ b,UK B outer e a.cls a.dict .none b->s.heap.UpToSlots b->Q () { s with heap:=b }):aA M A (leaving env (.ref e)) Q E s:=by
 unfold leaving;exact aa (B5 n m i o r g f v d λp j t=>M5 (s:={ s with heap:=p }) j λq k u=>h q k.less (t.trans u))
end
theorem ZH2{a:ak}{w:ar}{A:aw}{E:ja}{s:aj}{c:Env}{K:zZ}{C:ai}{x:Sem ah}{Q:Flow->aj->Prop}(F:A.handled=none)(H:xY K C (.type "BaseException")=some true)(G:wV K (.ref C)=some (.type "type"))(h:aA (az a w) A x (λv b=>∃ e q,v=.ref e/\K.In b.heap/\VO Ll e C q b.heap/\E (.ref e) b) E s):aA (az a w) A (raiseStmt c (some x) none) Q E s:=by
 unfold raiseStmt;refine aa (ae h (λv b B=>?_) λ_ _ z=>z);let⟨e,q,rfl,k,⟨⟨L,i,I,j⟩,r,o,l,m,n,J,P⟩,D⟩:=B;dsimp only at l m n;subst l m n;let⟨p,g,d,O,N⟩:=b;let t:uO (az a w) p (typeOf (.ref e)) (.ref C):=WW.ty ⟨_,o,Z⟩ _;let u:=sS (M:=az a w) k H;let y:=rP (M:=az a w) k G;let f:p.get? e=some ⟨.ref C,i,.fields r,j⟩:=o;unfold excFromValue isExcClass isInstance isType raisedInstance setFlight
 repeat (first | with_reducible refine wpAny_loadPart_at f ?_ | with_reducible refine u.at ?_ | with_reducible refine t.at ?_ | with_reducible refine y.at ?_ | wp_step)
 rw[show r[1]? = some Value.none from J]
 repeat wp_step
 all_goals first | exact wpAny_raiseNew_none F D | trace_state
structure Uj(P:ak)(w:ar)(outer:jt)(H:Hp)(s:aj)(ea:ai)(cls:ah)(od:ju)(H':Hp)(s':aj):Prop where
 ex:∃ B:aC,UK B outer ea cls od .none s'.heap/\(∀ b o,s'.heap.get? b=some o->H' b≠none->B.get? b=some o)/\(∀ b o,s.heap.get? b=some o->H b=none->b∉frs outer->B.get? b=some o)/\(∀ b o,s.heap.get? b=some o->b∉frs outer->∃ o',B.get? b=some o')
 os:s'.os=s.os
 bare:AllBare s'.gens
 un:Un (frs outer) [] H H' s.heap s'.heap
 hok:Y9 P w H' s'.heap
 new:s.heap.get? ea=none
 free:H' ea=none
def Yd(P:ak)(w:ar):Vb:=λa H s E e f=>∃ c cls d b,e=.ref c/\Uj P w a H s c cls d b f/\E cls d b
structure QU(X:Cx)(E:XK):Prop where
 stack:X.stack=X.env::X.outer
 frame:X.env.frame=some X.env.locals
 ex:X.ex=[]
 calm:X.calm=true
 xe:∀ e s',aA (az X.prog X.w) X.A (leaving X.env e) (λ_ s''=>Yd X.prog X.w X.outer X.H₀ X.s₀ E e s'') (λe' s''=>Yd X.prog X.w X.outer X.H₀ X.s₀ E e' s'') s'->X.xe e s'
theorem NJ{P:ak}{w:ar}{K:zZ}{g:jb}{c:aC}{N:jn}{d:Str}{b:aD}{f:ai}{e:ah}{A:aw}{a:jt}{s:aj}{H:Hp}{E:XK}:
  QU (Xy (Yd P w) P w K g c N d b f e A a s H E) E:=⟨Z,Z,Z,Z,λ_ _ h=>h⟩
section
variable{jP:jo}{σ:St}{H H':Hp}{s':aj}{E:XK}
theorem QU.frs(F:QU X E):frs X.stack=X.env.locals::X.fs:=by
 rw[F.stack];show List.filterMap _ (X.env::X.outer)=_;rw[uG,F.frame];rfl
theorem QU.off(F:QU X E)(I:ZF X jP σ H s){b:ai}{o:aG}(q:X.s₀.heap.get? b=some o)(n:b∉L2.frs X.outer):b∉L2.frs X.stack:=λz=>by
 rw[F.frs] at z;rcases zU.mp z with z | z
 ·rw[z,I.noloc] at q;cases q
 ·exact n z
theorem QU.on(F:QU X E){b:ai}(n:b∈L2.frs X.outer):b∈L2.frs X.stack:=by
 rw[F.frs];exact zO _ n
theorem ZOW{B h:aC}{g:ai}(F:QU X E)(J:ZF X jP σ H s)(r:B.StaysIn h)(d:∀ b o,b≠g->s.heap.get? b=some o->b∉L2.frs X.stack->B.get? b=some o)(p:s.heap.UpToSlots h)(i:X.s₀.heap.get? g=none):
  Un (L2.frs X.outer) [] X.H₀ H X.s₀.heap h:=by
 let c:=J.base;rw[F.ex] at c;let l:∀{b:ai}{o:aG},X.s₀.heap.get? b=some o->b≠g:=λq z=>by rw[z,i] at q;cases q
 let m:∀{b:ai}{o:aG},b∈L2.frs X.stack->s.heap.get? b=some o->∀ v,o.data≠.fields v:=λa q=>Jc J _ a _ q;refine⟨λb o q n a _=>r b o (d b o (l q) (c.keep b o q n a (by simp)) (F.off J q a)),λb o q n a _=>?_,c.free,λb o q _=>?_,c.tups,c.frzs,c.tbls⟩
 ·let⟨u,e⟩:=c.slot b o q n a (by simp)
  let⟨k,t⟩:=p b _ e (m (F.on a) e);exact⟨k,t⟩
 ·let⟨f,j⟩:=c.there b o q (by simp)
  by_cases a:b∈L2.frs X.stack
  ·let⟨u,e⟩:=p b f j (m a j);exact⟨_,e⟩
  ·exact⟨f,r b f (d b f (l q) j a)⟩
theorem ZF.untrack{a:ai}{g:aC->Prop}(I:ZF X jP σ (upd H a (.ext g)) s)(l:H a=none):ZF X jP σ H s:=by
 let v:∀{b:ai}{u:HO},H b=some u->b≠a:=fun{b u} e z=>by rw[z,l] at e;cases e
 let h:∀{b:ai},upd H a (.ext g) b=none->H b=none:=fun{b} e=>by
  by_cases z:b=a
  ·rw[z];exact l
  ·rw[ZS z] at e;exact e
 let d:∀{b:ai}{u:HO},upd H a (.ext g) b=some u->(∀ y,u≠.ext y)->H b=some u:=fun{b u} e k=>by
  by_cases z:b=a
  ·rw[z,ZZ] at e;exact absurd (yZ.inj e).symm (k g)
  ·rw[ZS z] at e;exact e
 refine⟨I.ok,I.os,I.bare,⟨I.base.keep,I.base.slot,λb j q n t=>h (I.base.free b j q n t),I.base.there,λb m q=>d (I.base.tups b m q) (λ_ z=>nomatch z),λb j u q=>d (I.base.frzs b j u q) (λ_ z=>nomatch z),λb w q=>?_⟩,I.loc,I.cell,h I.free,λx c e=>h (I.freeC x c e),λp i=>?_,λb u e=>?_,I.len⟩
 ·let⟨f,e⟩:=I.base.tbls b w q;exact⟨f,d e (λ_ z=>nomatch z)⟩
 ·let⟨e,n,r⟩:=I.pin p i;exact⟨e,h n,r⟩
 ·let o:upd H a (.ext g) b=some u:=by rw[ZS (v e)];exact e
  exact(I.hok b u o).stay (λ_ _ _ q=>q) (λc q=>d q (λ_ z=>nomatch z)) λc m q=>d q (λ_ z=>nomatch z)
theorem ZKo{c C:ai}{m:ju}{g:js->Prop}(F:QU X E)(J:ZF X jP σ H s)(e:X.s₀.heap.get? c=none)(u:H c=none)(Q:VO g c C m s.heap)(K:∀ f,g f->f[1]? = some .none)(L:∀ f B,g f->(∀ b o,B.get? b=some o->s.heap.get? b=some o)->MQ B (.ref C) f)(N:E (.ref C) m H):X.xe (.ref c) s:=by
 let⟨U,f,I,r,w,x,t⟩:=Q;let T:=K f t;let G:X.A.frames=some (X.env::X.outer):=by rw[J.ok.frames,F.stack]
 let D:s.heap.FunFrames (vC s.heap (c::L2.frs X.stack)) (X.env::X.outer):=by
  have:=PySem.W.funFrames_hide (as:=c::L2.frs X.stack) J.stack (λl P a O=>zO _ (uI.mpr ⟨l,P,O⟩));rw[F.stack] at this⊢;exact this
 let d:∀ b o,b≠c->s.heap.get? b=some o->b∉L2.frs X.stack->(vC s.heap (c::L2.frs X.stack)).get? b=some o:=λb o n q h=>rS _ q (λz=>by
  rcases zU.mp z with z | z
  ·exact n z
  ·exact h z)
 let inT:∀ b o,s.heap.get? b=some o->H b≠none->(vC s.heap (c::L2.frs X.stack)).get? b=some o:=λb o q n=>d b o (λz=>n (by rw[z];exact u)) q λz=>n (J.stkFree b z)
 let y:(vC s.heap (c::L2.frs X.stack)).get? c=none:=rQ _ (by simp)
 refine F.xe _ _ (ZHm G D F.frame I (λb o q=>sY _ q) y w T (by rw[r];exact L f _ t λb o q=>sY _ q) λM j S=>?_)
 rw[r,x] at j;refine⟨c,_,m,H,Z,⟨⟨_,j,λb o q n=>?_,λb o q n h=>?_,λb o q h=>?_⟩,J.os,J.bare,ZOW F J j.1 d S e,J.hok.keptT λb o q n=>j.1 b o (inT b o q n),e,u⟩,N⟩
 ·let⟨i,k⟩:=J.hok.there n;let R:=j.1 b i (inT b i k n);let v:M.get? b=some o:=q;rw[R] at v;rw[<-yZ.inj v];exact inT b i k n
 ·let p:=J.base;rw[F.ex] at p;exact d b o (λz=>by rw[z,e] at q;cases q) (p.keep b o q n h (by simp)) (F.off J q h)
 ·let⟨i,k⟩:=J.base.there b o q (by rw[F.ex];simp)
  exact⟨i,d b i (λz=>by rw[z,e] at q;cases q) k (F.off J q h)⟩
theorem ZMj{a C:ai}{c:ju}(F:QU X E)(J:ZF X jP σ H s)(b:X.s₀.heap.get? a=none)(e:H a=none)(f:VO Ll a C c s.heap)(d:E (.ref C) c H):X.xe (.ref a) s:=ZKo F J b e f (λ_ z=>z.1) (λ_ _ z _=>.inl z.2) d
theorem ZKc{i:ai}{cls:ah}{r:ju}{B j:aC}(F:QU X E)(I:ZF X jP σ H s)(W:Uj X.prog X.w X.stack H s i cls r H' s')(inT:∀ b o,s'.heap.get? b=some o->H' b≠none->B.get? b=some o)(v:∀ b o,s.heap.get? b=some o->H b=none->b∉L2.frs X.stack->B.get? b=some o)(m:∀ b o,s.heap.get? b=some o->b∉L2.frs X.stack->∃ c,B.get? b=some c)(f:UK B X.outer i cls r .none j)(O:s'.heap.UpToSlots j)(q:E cls r H'):Yd X.prog X.w X.outer X.H₀ X.s₀ E (.ref i) { s' with heap:=j }:=by
 let d:=I.base;rw[F.ex] at d;let L:∀{b:ai}{o:aG},b∈L2.frs X.stack->s.heap.get? b=some o->∀ y,o.data≠.fields y:=λa q=>Jc I _ a _ q;let p:∀ b o,X.s₀.heap.get? b=some o->X.H₀ b=none->b∉L2.frs X.outer->B.get? b=some o:=λb o q n a=>v b o (d.keep b o q n a (by simp)) (d.free b o q n (by simp)) (F.off I q a)
 let g:∀ b o,s.heap.get? b=some o->b∈L2.frs X.stack->∃ t,j.get? b=some { o with slots:=t }:=λb o q a=>by
  let⟨t,h⟩:=W.un.slot b o q (I.stkFree b a) a (by simp)
  let⟨g,l⟩:=O b _ h (λy z=>L a q y z);exact⟨g,l⟩
 let u:Un (L2.frs X.outer) [] X.H₀ H' X.s₀.heap j:=by
  refine⟨λb o q n a _=>f.1 b o (p b o q n a),λb o q n a _=>?_,λb o q n _=>?_,λb o q _=>?_,λb D q=>W.un.tups b D (d.tups b D q),λb o u q=>W.un.frzs b o u (d.frzs b o u q),λb M q=>?_⟩
  ·let⟨t,h⟩:=d.slot b o q n a (by simp)
   let⟨x,G⟩:=g b _ h (F.on a);exact⟨x,G⟩
  ·let⟨c,e⟩:=d.there b o q (by simp)
   exact W.un.free b c e (d.free b o q n (by simp)) (by simp)
  ·let⟨c,e⟩:=d.there b o q (by simp)
   by_cases a:b∈L2.frs X.stack
   ·let⟨t,h⟩:=g b c e a;exact⟨_,h⟩
   ·let⟨A,l⟩:=m b c e a;exact⟨A,f.1 b A l⟩
  ·let⟨J,h⟩:=d.tbls b M q;let⟨K,l⟩:=W.un.tbls b _ h;exact⟨J++K,by rw[l,Array.append_assoc]⟩
 refine⟨i,cls,r,H',Z,⟨⟨B,f,λb o k n=>?_,p,λb o k a=>?_⟩,W.os.trans I.os,W.bare,u,W.hok.keptT λb o k n=>f.1 b o (inT b o k n),?_,W.free⟩,q⟩
 ·let⟨c,e⟩:=W.hok.there n;let N:=f.1 b c (inT b c e n);let C:j.get? b=some o:=k;rw[N] at C;rw[<-yZ.inj C];exact inT b c e n
 ·let⟨c,e⟩:=d.there b o k (by simp)
  exact m b c e (F.off I k a)
 ·cases z:X.s₀.heap.get? i with
  | none=>rfl
  | some o=>
   let⟨c,e⟩:=d.there i o z (by simp)
   rw[W.new] at e;cases e
theorem JC{d:XK}(F:QU X E)(i:∀ cls o H,d cls o H->E cls o H):Qj (Yd X.prog X.w) X d:=by
 intro jP σ H s e s' I h;let⟨k,cls,m,H',rfl,W,q⟩:=h;let⟨B,f,inT,c,b⟩:=W.ex;let g:X.A.frames=some (X.env::X.outer):=by rw[I.ok.frames,F.stack]
 exact F.xe _ _ (ZH3 g F.frame (by rw[<-F.stack];exact f) λl a j=>ZKc F I W inT c b a j (i _ _ _ q))
end
def Gw(K:zZ)(e:ai)(i:Nat)(g:TS)(D:YH)(h:St):XK:=λcls f d=>∃ C,cls=.ref C/\xY K C (.ref e)=some true/\∀ c,d c=none ->
 g { nx:=λa b=>D.nx (a.set i none) b,rt:=D.rt,bk:=λa b=>D.bk (a.set i none) b,ct:=λa b=>D.ct (a.set i none) b } (h.set i (some (.ref c))) (upd d c (XO NZ c C f))
theorem D8{X:Cx}{d:jo}{p:St}{H i:Hp}{s g:aj}{t:ai}{u:ju}{B f:aC}{cls:ah}(I:ZF X d p H s)(W:Uj X.prog X.w X.stack H s t cls u i g)(inT:∀ b o,g.heap.get? b=some o->i b≠none->B.get? b=some o)(k:∀ b o,s.heap.get? b=some o->H b=none->b∉frs X.stack->B.get? b=some o)(j:∀ b o,s.heap.get? b=some o->b∉frs X.stack->∃ h,B.get? b=some h)(m:B.StaysIn f)(v:g.heap.UpToSlots f):
  ZF X d p i { g with heap:=f }:=by
 let c:∀ b o,s.heap.get? b=some o->b∈frs X.stack->∃ l,f.get? b=some { o with slots:=l }:=λb o q a=>by
  let⟨l,e⟩:=W.un.slot b o q (I.stkFree b a) a (by simp)
  let⟨c,r⟩:=v b _ e (λx z=>Jc I b a o q x z);exact⟨c,r⟩
 refine I.call' (s':={ g with heap:=f }) W.os ⟨λb o q n a _=>m b o (k b o q n a),λb o q n a _=>c b o q a,W.un.free,λb o q _=>?_,W.un.tups,W.un.frzs,W.un.tbls⟩ (W.hok.keptT λb o q n=>m b o (inT b o q n)) W.bare (λb a=>absurd a (by simp))
 by_cases a:b∈frs X.stack
 ·let⟨l,e⟩:=c b o q a;exact⟨_,e⟩
 ·let⟨h,e⟩:=j b o q a;exact⟨h,m b h e⟩
theorem Zi.okD{x b:Str}{g:aB}{f:ai}{n:al}{N l:jn}{k:Nat}{m:Sp}(F:Zi K x b g f n)(S:ZC N l (ZY g))(j:∀ e H Q E,m e H Q E->e.length=l.length)(d:∀ (c:ah) (A:aw) (a:jt) (s:aj) (H:Hp) (e:je) (Q:VK) (E:XK),ZU k (A.deeper (envOfC b (ZY g) s.heap.objs.size f c))->m e H Q E ->
   let X:=(Xy (Yd P w) P w K mg jQ N b (ZY g) f c A a s H E);∃ t,XV X (Xg g) t/\t { nx:=λ_ o=>Q .non o,rt:=Q } (Qp N e) H):ZI P w K mg jQ (Yd P w) (k+1) f n l m:=by
 let⟨y,z,kV,p,B,v,c,ct,u,rfl,r,h⟩:=F.ex;exact Jh r h S j λA a s H e Q E q i=>d c A a s H e Q E q i
theorem Zi.kD{x a:Str}{g:aB}{f:ai}{m:al}{N j:jn}{k:Nat}{l:Sp}(F:Zi K x a g f m)(S:ZC N j (ZY g))(b:∀ (e:ah) (A:aw) (c:jt) (s:aj) (H:Hp) (d:je) (Q:VK) (E:XK),ZU k (A.deeper (envOfC a (ZY g) s.heap.objs.size f e))->l d H Q E ->
   let X:=(Xy (Yd P w) P w K mg jQ N a (ZY g) f e A c s H E);∃ t,XV X (Xg g) t/\t { nx:=λ_ n=>Q .non n,rt:=Q } (Qp N d) H)(i:∀ d H Q E,l d H Q E->d.length=j.length:=by intro d _ _ _ h;cases h;(try subst d);rfl):ZI P w K mg jQ (Yd P w) (k+1) f m j l:=F.okD S i b
inductive Qb(a:zZ)(x y:V)(H:Hp)(Q:VK):Prop
 |mk(p b c:_)(_:x=.ref p)(_:y=.ref b)(_:ZG a H p c)(_:ZG a H b [])(_:Q (.bl (!c.isEmpty)) H)
theorem Jb(f:X.A.units<cLine):Y7 X (ay .NotEq) (Qb X.K):=by
 intro l s J H x y v u Q I C D h;let⟨p,b,E,rfl,rfl,c,o,q⟩:=h;cases C;cases D;let⟨d,z,i,F⟩:=I.list c;let⟨a,B,k,G⟩:=I.list o;let g:=z.length;let t:=B.length;let n:a=[]:=vT (by rw[<-t];rfl)
 subst n
 cases E with
 | nil=>
  let m:d=[]:=vT (by rw[<-g];rfl)
  subst m;exact PySem.SeqAt.RcNeAt.lists (e:=λ_=>true) i.isList k.isList Z f (λj c _=>absurd c (by simp)) X.prog X.w X.xe _ (XE I q (by simp))
 | cons x r=>exact PySem.SeqAt.RcNeAt.lists_lengths i.isList k.isList (by simp;intro e;subst e;simp at g) f X.prog X.w X.xe _ (XE I q Z)
end L2
namespace Tw
open PySem PySem.Spec L2
variable{jN jO CS CT CH CK CP CB:ai}
def top(i:Nat):Stmt:=PySem.Challenge.pw_twigmap_k42_takes.main.body.getD i (.Pass ⟨0,0,0,0⟩)
abbrev Kh:Stmt:=top 13
abbrev M8:Stmt:=top 14
abbrev LK:Stmt:=top 15
abbrev Io:Stmt:=top 16
abbrev J8:Stmt:=top 17
abbrev Lu:Stmt:=top 18
abbrev KC:Stmt:=top 19
abbrev Mo:Stmt:=top 20
abbrev J7:Stmt:=top 30
abbrev Jo:Stmt:=top 31
abbrev IH:Stmt:=top 32
abbrev J9:Stmt:=top 33
abbrev Ke:Stmt:=top 34
abbrev JX:Stmt:=top 35
abbrev KJ:Stmt:=top 37
abbrev JP:Stmt:=top 38
abbrev Jx:Stmt:=top 40
abbrev Lz:Stmt:=top 41
abbrev KM:Stmt:=top 42
abbrev Kb:Stmt:=top 43
abbrev Je:Stmt:=top 44
abbrev LI:Stmt:=top 45
abbrev KR:Stmt:=top 47
abbrev KO:Stmt:=top 48
abbrev Id:Stmt:=top 49
abbrev IR:Stmt:=top 52
abbrev Kn:Stmt:=top 55
abbrev Nw:Stmt:=top 62
abbrev Nv:Stmt:=top 63
abbrev KL:Stmt:=top 64
abbrev JV:Stmt:=top 65
abbrev IB:Stmt:=top 66
abbrev Ks:Stmt:=top 67
abbrev Kw:Stmt:=top 68
abbrev Ki:Stmt:=top 69
abbrev PZ:Stmt:=top 70
abbrev NY:Stmt:=top 71
abbrev JT:Stmt:=top 72
abbrev Iq:Stmt:=top 77
abbrev KD:Stmt:=top 79
abbrev JM:Stmt:=top 80
abbrev Jz:Stmt:=top 81
abbrev KP:Stmt:=top 82
abbrev LN:Stmt:=top 83
abbrev Ln:Stmt:=top 84
abbrev Kc:Stmt:=top 85
abbrev K8:Stmt:=top 86
abbrev Nq:Stmt:=top 87
abbrev LJ:Stmt:=top 88
abbrev Ky:Stmt:=top 89
abbrev KQ:Stmt:=top 90
abbrev IY:Stmt:=top 91
abbrev Ip:Stmt:=top 92
abbrev Ih:Stmt:=top 93
abbrev No:Stmt:=top 94
abbrev NW:Stmt:=top 95
abbrev Vr:Stmt:=top 96
structure YL(mg:jb):Prop where
 isi:mg "isinstance" = none
 bool:mg "bool" = none
 int:mg "int" = none
 str:mg "str" = none
 tuple:mg "tuple" = none
 list:mg "list" = none
 len:mg "len" = none
 all:mg "all" = none
 abs:mg "abs" = none
 max:mg "max" = none
 min:mg "min" = none
 range:mg "range" = none
 sorted:mg "sorted" = none
 ValueError:mg "ValueError" = none
 sum:mg "sum" = none
 signs:∃ t,mg "MOST_SIGNS" = some (.int 40 t)
 things:∃ t,mg "MOST_THINGS" = some (.int 4 t)
 deep:∃ t,mg "MOST_DEEP" = some (.int 3 t)
 rows:∃ t,mg "MOST_ROWS" = some (.int 4 t)
 few:∃ t,mg "FEWEST_BRANCHES" = some (.int 2 t)
 most:∃ t,mg "MOST_BRANCHES" = some (.int 4 t)
 height:∃ t,mg "HEIGHT" = some (.int 0 t)
 least:∃ t,mg "LEAST" = some (.int 1 t)
 greatest:∃ t,mg "GREATEST" = some (.int 2 t)
 many:∃ t,mg "MANY" = some (.int 3 t)
 kept:∃ t,mg "KEPT" = some (.int 3 t)
theorem PN:ZC ["_law_well_here","_law_many","_law_found","_law_first","_law_second"] zEb (ZY JM):=Zp
theorem ZM8(F:Zi K "_law_pull" "_law_pull" JM f fd):ZI P w K mg jQ ZM 1 f fd zEb Zy:=by
 refine F.ok PN (λz H Q E h=>?_) (λy A q s H z Q E G h=>?_)
 ·let⟨p,m,rfl,_⟩:=h;rfl
 let⟨p,m,rfl,W,⟨g,l⟩,k⟩:=h;let⟨a,b,c,d,n,i,j,r,D⟩:=W.ex;let o:=PN.nd;intro B;refine⟨_,ZL (Z1 (YX Vp (UU Zw (pv 0) ZK (λ_ _=>rfl)) ZK (YG _)) (ZR (Zh ZK)) Z5)
  (ZL (Iv (Zx VE (UU Zw (pv 0) ZK (λ_ _=>rfl)) ZK) (IN (pv 0) ZK JZ))
  (ZL (Z1 (YX Uo (UU Zw (pv 0) ZK (λ_ _=>rfl)) ZK (YG _))
   (ZL (Zj 2 o (Zx P4 (UU Zw (pv 0) ZK (λ_ _=>rfl)) (pv 1)))
   (ZL (Iv (Zx Am (UU Zw (pv 0) ZK (λ_ _=>rfl)) (pv 1)) (IN (pv 0) ZK JZ))
   (ZR (Zh (pv 2))))) Z5)
  (ZL (Iv (Zx VA (UU Zw (pv 0) ZK (λ_ _=>rfl)) ZK) (IN (pv 0) ZK JZ))
  (ZL (Zj 3 o (Zx P4 (Zx NH (Zx VA (UU Zw (pv 0) ZK (λ_ _=>rfl)) ZK) (Zx VA ZK (Zx NH ZK (UU Zw (pv 0) ZK (λ_ _=>rfl))))) ZK))
  (ZL (Zj 4 o (Zx P4 (Zx NH (Zx VA (Zx LD (pv 3) ZK) ZK) (Zx VA (Zx P4 (pv 3) ZK) ZK)) ZK))
  (ZR (Zh (Zx P4 (Zx LD (pv 4) ZK) (pv 1))))))))),?_⟩
 exists _,Z,p,_,_,_,Z,Z,ZG.of n,Z,Z,_,Z;refine Vg (λ_=>?_) (λu=>?_)
 ·exact k 0 H (Int.le_refl 0) g W (ZH.refl p H)
 let C:d≠0:=λe=>u (aI (by rw[e]))
 exists _,Z,p,_,_,_,Z,Z,ZG.of n,Z,_,_,Z,Z,_,Z,p,_,_,_,Z,Z,n,Z;exists _,Z,p,_,_,_,Z,Z,ZG.of ZZ,Z,_,_,Z,Z,_,Z;refine Vg (λv=>?_) (λv=>?_)
 ·exists _,Z,p,_,_,_,Z,Z,ZG.of ZZ,Z,_,Z,_,_,Z,Z,g;exists _,Z,p,_,_,_,Z,Z,ZG.of ZZ,Z,_,Z,_,_,Z,Z,⟨g,l⟩,_,Z,p,_,_,_,Z,Z,ZZ,Z;exists _,Z;refine k (c % m) _ (wB _ ∅) (vY _ g) ⟨a,b,c / m,d-1,ZZ,i,j,Int.ediv_nonneg r ∅,∅⟩ (ZH.refl p H).upd.upd
 ·exists _,Z,p,_,_,_,Z,Z,ZG.of ZZ,Z,_,_,Z,Z,_,Z,p,_,_,_,Z,Z,ZZ,Z;exists _,Z,p,_,_,_,Z,Z,ZG.of ZZ,Z,_,_,Z,Z,_,Z,p,_,_,_,Z,Z,ZG.of ZZ,Z,_,_,Z,Z,.inl ⟨by decide,by decide⟩,_,_,Z,Z,_,_,Z,Z,.inl ⟨∅,∅⟩,_,_,Z,Z,(by show (0:Int)<2147483629;decide)
  generalize t:(a+1) * (48271+7919 * (b+1)) % 2147483629=x;let I:0<=x:=by rw[<-t];exact wB _ (by decide)
  let J:x<2147483629:=by rw[<-t];exact vY _ (by decide)
  exists _,Z,_,_,Z,Z,⟨by decide,by decide⟩,_,_,Z,Z,_,Z,_,_,Z,Z,(by show (0:Int)<1009;decide),_,_,Z,Z,_,_,Z,Z,.inl ⟨∅,∅⟩,_,_,Z,Z,(by show (0:Int)<1000000007;decide)
  exists _,Z,_,_,Z,Z,⟨by decide,by decide⟩,_,Z,_,_,Z,Z,g
  exact k _ _ (wB _ ∅) (vY _ g) ⟨a,b+1,c,d-1,ZZ,i,j,r,∅⟩ (ZH.refl p H).upd.upd
theorem U7:ZC ["_law_well_here","_law_bound","_law_found","_law_j"] zEt (ZY Jz):=Zp
theorem BA(F:Zi K "_law_great" "_law_great" Jz f fd)(T:YL mg)(v:ZA P w K mg jQ 1 "_law_pull" zEb Zy):ZI P w K mg jQ ZM 2 f fd zEt Zy:=by
 refine F.ok U7 (λG H Q E h=>?_) (λB A q s H G Q E x h=>?_)
 ·let⟨p,m,rfl,_⟩:=h;rfl
 let⟨p,m,rfl,W,g,k⟩:=h;let⟨a,b,c,d,C,_⟩:=W.ex;let o:=U7.nd;intro J;refine⟨_,ZL (Z1 (YX Uo (UU Zw (pv 0) ZK (λ_ _=>rfl)) ZK (YG _)) (ZR (Zh (Zc v x (Ze (pv 0) (Ze (pv 1) Zn))))) Z5)
  (ZL (Zj 2 o ZK)
  (ZL (Vk PassesOwn.never rfl (Me rfl T.range (Ze ZK Zn)) (Vo 3 o)
   (ZR (Zj 2 o (Zx VA (Zx NH (pv 2) ZK) (Zc v x (Ze (pv 0) (Ze ZK Zn)))))))
  (ZR (Zh (Zx P4 (pv 2) (pv 1)))))),?_⟩
 exists _,Z,p,_,_,_,Z,Z,ZG.of C,Z,_,_,Z,Z,_,Z;refine Vg (λ_=>?_) (λ_=>?_)
 ·exact⟨_,Z,_,Z,p,m,Z,W,g,k⟩
 refine⟨8,Z,by decide,by decide,MX (n:=8) (λi u e=>∃(z:Int)(j:jf),u=[some (.ref p),some (.int m),some (.int z),j]/\ZO e p/\ZH p H e) ⟨0,none,Z,W,ZH.refl p H⟩ ?_ ?_⟩
 ·rintro i u e L ⟨z,j,rfl,l,t⟩;exists _,Z,_,_,Z,Z,.inr ⟨by decide,by decide⟩,_,Z,p,62500000,Z,l,Wv (by decide) (by decide)
  intro r I _ _ y D;exact⟨_,_,Z,Z,_,_,Z,y,t.trans D⟩
 ·rintro u e ⟨z,j,rfl,l,t⟩;exists _,Z,_,Z,_,_,Z,Z,g.1;exact k _ _ (wB _ (by have:=g.1;lia)) (vY _ g.1) l t
def Yl:Str:= " \"\\~!#$&'()*+,-./0123456789:;<=>?@ABCDEFGHIJKLMNOPQRSTUVWXYZ[]^_`abcdefghijklmnopqrstuvwxyz{|}"
theorem Cj:Yl.cps.toList.length=94:=by decide +kernel
theorem FK:Yl.length=94:=by decide +kernel
theorem ZKv:Yl.cps.toList.all Ql=true:=by decide +kernel
theorem Hk{i:Int}(a:0<=i)(b:i<94):∃ c,WN Yl.cps.toList i=some c/\Ql c=true:=by
 let⟨c,e,m⟩:=NA (xs:=Yl.cps.toList) a (by rw[Cj];exact b)
 exact⟨c,e,yQ.mp ZKv c m⟩
def WY(x:Str)(i:Nat):Prop:=x.cps.size<=i/\x.cps.toList.all Ql=true
theorem WY.ok{x:Str}{i:Nat}(h:WY x i)(a:i<=40):Pg x=true:=by
 unfold Pg;rw[zM];exact⟨aI (zI h.1 a),h.2⟩
theorem WY.more{x:Str}{i c:Nat}(h:WY x i)(a:Ql c=true):WY (x++(⟨#[c]⟩:Str)) (i+1):=by
 let e:(x++(⟨#[c]⟩:Str)).cps=x.cps++#[c]:=rfl;exists ?_
 ·rw[e,Array.size_append];exact vD h.1
 ·rw[e,Array.toList_append,List.all_append,h.2];simp[a]
abbrev ZQr:jn:=["_law_well_here","_law_signs","_law_text_here","_law_few","_law_j","_law_sign"]
theorem PD:ZC ZQr zEp (ZY KP):=Zp
theorem ZMu(F:Zi K "_law_text" "_law_text" KP f fd)(T:YL mg)(B:ZA P w K mg jQ 1 "_law_pull" zEb Zy):ZI P w K mg jQ ZM 2 f fd zEp WV:=by
 refine F.ok PD (λvs H Q E h=>?_) (λa2 A a1 s H vs Q E I h=>?_)
 ·let⟨p,rfl,_⟩:=h;rfl
 let⟨p,rfl,W,k⟩:=h;let o:=PD.nd;intro Xc;refine⟨_,ZL (Zj 1 o Ue) (ZL (Zj 2 o Ue)
  (ZL (Zj 3 o (Zc B I (Ze (pv 0) (Ze ZK Zn))))
  (ZL (Vk PassesOwn.never rfl (Me rfl T.range (Ze (Zc B I (Ze (pv 0) (Ze (UU Zw (Yr (Ze ZK (Ze ZK Zn))) (Zc B I (Ze (pv 0) (Ze ZK Zn))) (λ_ _=>rfl)) Zn))) Zn)) (Vo 4 o)
   (ZL (Zj 5 o Ue)
   (ZL (Z1 (Px (YX Uo (pv 3) ZK (YG _)) (Nb (YX Vp (Zc B I (Ze (pv 0) (Ze ZK Zn))) ZK (YG _)))).pt
    (ZR (Zj 5 o (UU Ft (pv 1) (Zc B I (Ze (pv 0) (Ze (UU Zw (Yr (Ze ZK (Ze ZK Zn))) (Zx LD (pv 3) ZK) (λ_ _=>rfl)) Zn))) (λ_ _=>rfl)))) Z5)
   (ZR (Zj 2 o (Zx Ar (pv 2) (pv 5)))))))
  (ZR (Zh (pv 2)))))),?_⟩
 exists _,Z,p,3,Z,W,Wv (by decide) (by decide)
 intro J H1 a3 a4 W1 s1;exists _,Z,(by show 2<=ao;decide)
 intro l X;let O:ZO (upd H1 l (.lst [.int 4,.int 41])) p:=W1.same (Zv X _);exists _,Z,p,2,Z,O,Wv (by decide) (by decide)
 intro r H2 r0 r1 W2 s2;let a0:l≠p:=by
  let⟨xs,e⟩:=W1.some;exact(Zg e X).symm
 let a:H2 l=some (.lst [.int 4,.int 41]):=s2 l _ ZZ a0;let⟨v,hv,Y⟩:=MW (x:=V.int 4) (y:=V.int 41) r0 r1;let hb:∃ z:Int,v=.int z/\0<z/\z<=41:=by
  rcases Y with e | e
  ·exact⟨4,e,by decide,by decide⟩
  ·exact⟨41,e,by decide,by decide⟩
 let⟨z,rfl,z0,z1⟩:=hb;exists l,_,_,_,Z,Z,ZG.of a,hv,p,z,Z,W2,Wv z0 ∅
 intro n H3 n0 n1 W3 s3;let sA:ZH p H H3:=(s1.trans (ZH.of (Zv X _))).trans (s2.trans s3);refine⟨n,Z,∅,∅,MX (n:=n.toNat) (λi σ t=>∃(x:Str)(j g:jf),σ=[some (.ref p),some (.str Yl),some (.str x),some (.int J),j,g]/\WY x i/\ZO t p/\ZH p H t)
  ⟨"",none,none,Z,⟨by decide,by decide⟩,W3,sA⟩ ?_ ?_⟩
 ·rintro i σ t hi ⟨x,j,g,rfl,N,C,q⟩;let m:∀(c:Nat)(b:Hp),Ql c=true->ZO b p->ZH p H b->∃(y:Str)(j g:jf),[some (V.ref p),some (.str Yl),some (.str (x++(⟨#[c]⟩:Str))),some (.int J),some (.int (0+(i:Int))),some (.str ⟨#[c]⟩)]=[some (.ref p),some (.str Yl),some (.str y),some (.int J),j,g]/\WY y (i+1)/\ZO b p/\ZH p H b:=
   λc b G D L=>⟨_,_,_,Z,N.more G,D,L⟩
  let d:∀ c:Nat,x.length+(⟨#[c]⟩:Str).length<=sizeLine:=λc=>by
   let h1:x.length<=i:=N.1;let h2:(⟨#[c]⟩:Str).length=1:=rfl;rw[h2];exact nn ∅
  let M:∀ b,ZO b p->ZH p H b->∃(v:Int),0<v/\v<=94/\WN [V.int 94,V.int 5] (J / 2)=some (.int v):=λb _ _=>by
   let⟨v,e,h⟩:=MW (x:=V.int 94) (y:=V.int 5) (i:=J / 2) ∅ ∅
   rcases h with rfl | rfl
   ·exact⟨94,by decide,by decide,e⟩
   ·exact⟨5,by decide,by decide,e⟩
  exists _,Z,_,_,Z,Z,_,Z;refine Vg (λ_=>?_) (λ_=>?_)
  ·refine Z7 ?_;exists _,Z,_,Z,(by show 2<=ao;decide)
   intro l2 a;let⟨v,v0,v1,U⟩:=M t C q;exists _,Z,_,_,Z,Z,⟨by decide,by decide⟩,l2,_,_,_,Z,Z,ZG.of ZZ,U,p,v,Z,C.same (Zv a _),Wv v0 ∅
   intro u b u0 u1 D L;let⟨c,S,G⟩:=Hk u0 ∅
   exists Yl,_,c,Z,Z,(by rw[FK];exact nn (by decide)),S
   exact⟨_,Z,_,Z,_,_,Z,Z,d c,m c b G D ((q.trans (ZH.of (Zv a _))).trans L)⟩
  ·refine⟨_,Z,p,8,Z,C,Wv (by decide) (by decide),λy H6 _ _ R s6=>⟨Z,_,Z,?_⟩⟩
   refine Vg (λ_=>?_) (λ_=>?_)
   ·exists _,Z,_,Z,(by show 2<=ao;decide)
    intro l2 a;let⟨v,v0,v1,U⟩:=M H6 R (q.trans s6);exists _,Z,_,_,Z,Z,⟨by decide,by decide⟩,l2,_,_,_,Z,Z,ZG.of ZZ,U,p,v,Z,R.same (Zv a _),Wv v0 ∅
    intro u b u0 u1 D L;let⟨c,S,G⟩:=Hk u0 ∅
    exists Yl,_,c,Z,Z,(by rw[FK];exact nn (by decide)),S
    exact⟨_,Z,_,Z,_,_,Z,Z,d c,m c b G D (((q.trans s6).trans (ZH.of (Zv a _))).trans L)⟩
   ·exact⟨_,Z,_,Z,_,_,Z,Z,d 97,m 97 H6 (by decide) R (q.trans s6)⟩
 ·rintro σ t ⟨x,j,g,rfl,N,C,q⟩;exact⟨_,Z,k x t (N.ok ∅) C q⟩
theorem OI:ZC ["_law_well_here","_law_room","_law_way"] zEh (ZY LN):=Zp
theorem AE{k:Nat}:ZI P w K mg jQ ZM k f fd zEh (XW 0):=by
 let c:∀ a H Q E,¬ XW 0 a H Q E:=λa H Q E h=>by
  let⟨p,r,_,_,d,_⟩:=h
  lia
 exact⟨λa H Q E h=>absurd h (c a H Q E),λA b s H args e a Q E _ _ _ _ h=>absurd h (c a H Q E)⟩
theorem ZOh{n:Nat}(F:Zi K "_law_key" "_law_key" LN f fd)(T:YL mg)(DP:ZA P w K mg jQ 1 "_law_pull" zEb Zy)(DG:ZA P w K mg jQ 2 "_law_great" zEt Zy)(DT:ZA P w K mg jQ 2 "_law_text" zEp WV)(DK:ZA P w K mg jQ (n+2) "_law_key" zEh (XW n)):ZI P w K mg jQ ZM (n+3) f fd zEh (XW (n+1)):=by
 refine F.ok OI (λvs H Q E h=>?_) (λa1 A a0 s H vs Q E hr h=>?_)
 ·let⟨p,r,rfl,_⟩:=h;rfl
 let⟨p,r,rfl,W,hn,k⟩:=h;let nd:=OI.nd;let q:=hr.mono (show 1<=n+2 by lia)
 let L:=hr.mono (show 2<=n+2 by lia)
 intro Xc;refine⟨_,ZL (Zj 2 nd (Zc DP q (Ze (pv 0) (Ze ZK Zn))))
  (ZL (Z1 (YX O2 (pv 2) ZK (YG _)) (ZR (Zh (Zx VE (Zc DP q (Ze (pv 0) (Ze ZK Zn))) ZK))) Z5)
  (ZL (Z1 (YX Vp (pv 2) ZK (YG _)) (ZR (Zh (Zx VA (Zx VE (Zc DG L (Ze (pv 0) (Ze (Zx VE (Zx NH ZK (Zx ME ZK ZK)) ZK) Zn))) (Zx ME ZK ZK)) ZK))) Z5)
  (ZL (Z1 (Px (YX O2 (pv 2) ZK (YG _)) (Nb (YX Vp (pv 1) ZK (YG _)))).pt (ZR (Zh (Zc DT L (Ze (pv 0) Zn)))) Z5)
  (ZR (Zh (Ug N5 rfl T.tuple OJ (Ze (Vn [0,1] zEh rfl (Me rfl T.range (Ze (Zc DP q (Ze (pv 0) (Ze ZK Zn))) Zn)) (λ_ _ _ _ _=>U0)
   (λ_ _ _ _ _=>Zc DK hr (Ze (pv 1) (Ze (Zx VE (pv 2) ZK) Zn))) ⟨rfl,.inl rfl,rfl,rfl,.inl rfl,rfl,trivial⟩) Zn))))))),?_⟩
 exists _,Z,p,8,Z,W,Wv (by decide) (by decide)
 intro y H1 y0 y1 S Y;exists _,Z,_,_,Z,Z,_,Z;refine Vg (λ_=>?_) (λc1=>?_)
 ·refine⟨_,Z,p,41,Z,S,Wv (by decide) (by decide),λu j u0 u1 d C=>⟨_,_,Z,Z,?_⟩⟩
  refine k (.int (u-20)) (.int (u-20)) j (ZD.int _) ?_ d (Y.trans C);rw[KT.fits];let e:(10:Nat) ^ 60 > 1000:=by decide
  exact aI ∅
 exists _,Z,Z,_,Z;refine Vg (λ_=>?_) (λc2=>?_)
 ·exists _,Z,_,_,Z,Z,⟨by decide,by decide,by decide⟩,_,_,Z,Z,.inl ⟨by decide,by decide⟩,_,_,Z,Z,p,_,Z,S,Wv (by decide +kernel) (by decide +kernel)
  intro u j u0 u1 d C;exists _,_,Z,Z,⟨by decide,by decide,by decide⟩,_,_,Z,Z,_,_,Z,Z
  refine k _ (.int _) j (ZD.int _) ?_ d (Y.trans C);let e:((10:Int) ^ (60:Int).toNat)=((10 ^ 60:Nat):Int):=by decide +kernel
  rw[e] at u1;rw[KT.fits,e];generalize (10 ^ 60:Nat)=N at *;exact aI ∅
 let O:WV ([.ref p]++[]) H1 Q E0:=⟨p,Z,S,λx j hx d C=>k (.str x) (.str x) j (ZD.str x) (by rw[KT.fits];exact hx) d (Y.trans C)⟩
 exists _,Z,_,_,Z,Z,_,Z;refine Vg (λ_=>?_) (λ_=>?_)
 ·exact Z7 ⟨_,Z,O⟩
 exists _,Z,Z,_,Z;refine Vg (λ_=>?_) (λc3=>?_)
 ·exact⟨_,Z,O⟩
 let r0:r≠0:=λe=>c3 (aI (by rw[e];rfl))
 refine⟨_,Z,p,5,Z,S,Wv (by decide) (by decide),λu j u0 u1 d C=>⟨u,Z,∅,∅,?_⟩⟩
 let sB:ZH p H j:=Y.trans C;refine Ud (n:=u.toNat) (λi x=>x=.int (0+(i:Int))) (λD i a c=>ZO c p/\ZH p H c/\D≠p/\H D=none/\∃ G,jI c G a/\G.length=i/\fitsL G (r-1)=true) (XX ∅)
  (λD i a c hi _=>hi) (λD i a c x m hi _ hy=>hy) (λD a c _=>zY _) (λD J=>?_) (λD i a c x eD hl hi hx hP R hR=>?_) (λD a c eD hP=>?_)
 ·let B:D≠p:=by
   let⟨xs,e⟩:=d.some;exact(Zg e J).symm
  let M:H D=none:=by
   cases e:H D with
   | none=>rfl
   | some o=>rw[sB D o e B] at J;cases J
  exact⟨d.same (Zv J _),sB.trans (ZH.of (Zv J _)),B,M,[],.nil,Z,by rw[fitsL]⟩
 ·let⟨U,s3,B,M,G,hk,g,X⟩:=hP;let er:(r:Int)-1=((r-1:Nat):Int):=∅
  exists _,Z,_,Z,_,_,Z,Z,p,r-1,congrArg (λz=>[V.ref p,V.int z]) er,U,by lia
  intro v t m hv ht W4 s4;let I:=s4 D _ eD B;let sD:ZH D m (upd m D (.lst (a++[v]))):=(ZH.refl D m).upd;let tD:Z6 m (upd m D (.lst (a++[v]))):=sD.tups I;refine hR v m I ⟨W4.stay sD B.symm,λb o e n=>?_,B,M,G++[t],((jI.mono (s4.tupsW U) _ _ hk).append (.cons hv .nil)).mono tD _ _,by simp[g],?_⟩
  ·rw[ZS (Zg e M)];exact(s3.trans s4) b o e n
  ·rw[Ls] at X⊢;rw[List.all_append,X];simp[ht]
 ·let⟨U,s3,B,M,G,hk,g,X⟩:=hP;refine⟨D,a,Z,.inl ⟨ZG.of eD,λl hl=>?_⟩⟩;let sl:=Zv hl (.tup a);refine k (.ref l) (.tup G) _ (.tup ZZ (hk.sm sl)) ?_ (U.same sl) (s3.trans (ZH.of sl));rw[KT.fits,X,tT,zM];exact⟨aI ∅,aI ∅⟩
abbrev Cu:jn:=["_law_script","_law_k","_law_left","_law_cell","_law_digits"]
theorem PF:ZC Cu zEx (ZY KD):=Zp
theorem Cv(F:Zi K "_law_well" "_law_well" KD f fd)(T:YL mg):ZI P w K mg jQ ZM 1 f fd zEx (Wf K):=by
 refine F.ok PF (λvs H Q E h=>?_) (λX A L s H vs Q E hr h=>?_)
 ·let⟨a,g,k,rfl,_⟩:=h;rfl
 let⟨a,g,k,rfl,u,hn,k0,k1,q⟩:=h;let J:=PF.nd;intro Xc;refine⟨_,ZL (Zj 2 J (UU Zw (Yr (Ze ZK (Ze ZK Zn))) (Ug KZ rfl T.int ON (Ze (Vs Vp (pv 1) ZK (YG _)) Zn)) (λ_ _=>rfl)))
  (ZL (Zj 3 J (UU Zw (Zx JQ (Ug Ng rfl T.list OL (Ze (pv 0) Zn)) (Yr (Ze ZK Zn))) (Zx P4 (pv 1) (YC (IU rfl) rfl T.max KI (Ze ZK (Ze (YC Xm rfl T.len Xa (Ze (pv 0) Zn)) Zn)))) (λ_ _=>rfl)))
  (ZL (Zj 4 J (Zx NH (YC KY rfl T.abs KB (Ze (pv 3) Zn)) (Ug KZ rfl T.int ON (Ze (Q7 (Vs ZP8 (YC KY rfl T.abs KB (Ze (pv 3) Zn)) (Zx ME ZK ZK) (YG _)) (P7 (Vs O2 (pv 1) (YC Xm rfl T.len Xa (Ze (pv 0) Zn)) (YG _)))) Zn))))
  (ZR (Zh (Yr (Ze (Zx P4 (pv 3) ZK) (Ze (Zx NH ZK (pv 1)) (Ze (pv 4) (Ze (pv 2) Zn))))))))),?_⟩
 exists (by show 2<=ao;decide)
 intro l1 v;let O:=Zv v (.lst [V.int 240,V.int 2400]);refine⟨_,Z,Z,.inr ⟨_,Z,?_⟩⟩;obtain⟨lv,t,D⟩:∃ z:Int,WN [V.int 240,V.int 2400] (if decide (V.int k=V.int 0)=true then 1 else 0)=some (.int z)/\0<=z:=by
  split
  ·exact⟨2400,Z,by decide⟩
  ·exact⟨240,Z,by decide⟩
 exists l1,_,_,_,Z,Z,ZG.of ZZ,t;exists _,Z,a,_,Z,.inl (O.seq u);intro S y;let g2:=O.trans (Zv y (.lst (g.map V.int)));exists (by show 1<=ao;decide)
 intro U n;let g3:=g2.trans (Zv n (.lst [V.int 0]));let I:S≠U:=Zg ZZ n;exists S,U,_,_,Z,Z,(by rw[ZS I];exact ZZ),ZZ,(by rw[zX];exact nn (by show g.length+1<=1000;lia))
 intro l4 B;let p:=g3.trans (Zv B (.lst (g.map V.int++[V.int 0])));exists _,Z,_,Z,a,_,Z,.inl (p.seq u),_,_,Z;let C:(g.map V.int).length=g.length:=zX _;generalize R:(if (((g.map V.int).length:Nat):Int) > 1 then (((g.map V.int).length:Nat):Int) else 1)=M
 let M1:1<=M/\M<=(g.length:Int)+1:=by
  rw[C] at R;rw[<-R];split <;> lia
 exists _,_,Z,Z,by lia
 let i0:0<=k % M:=wB _ ∅
 let i1:k % M<M:=vY _ ∅
 let⟨Y,r,G⟩:=NA (xs:=g.map V.int++[V.int 0]) i0 (by rw[zN,zX,wQ];lia)
 obtain⟨c,rfl⟩:∃ z:Int,Y=.int z:=by
  rcases zD.mp G with m | m
  ·let⟨z,_,e⟩:=zP.mp m;exact⟨z,e.symm⟩
  ·exact⟨0,zK.mp m⟩
 exists l4,_,_,_,Z,Z,ZG.of ZZ,r;let l:∀ b:Bool,0<=(if c<0 then -c else c) * (if b=true then 1 else 0):=λb=>by
  cases b
  ·simp
  ·simp;split <;> lia
 let N:∀(x:Int)(b:Bool),P0 x (if b=true then 1 else 0):=λx b=>.inr (by cases b <;> exact⟨by decide,by decide⟩)
 let j:∀(z:Int)(o:Hp),0<=z->ZE H o->∀ i,o i=none->Q (.ref i) (upd o i (.lst [.int (c % 2147483647),.int (1000 * k),.int z,.int lv])):=λz o z0 W i d=>
  q i _ (W.free d) (W.trans (Zv d _)) ⟨_,_,_,_,ZZ,wB _ (by decide),vY _ (by decide),z0,D⟩
 exists _,Z,_,Z,_,Z,_,Z,_,_,Z,Z,⟨by decide,by decide,by decide⟩,_,_,Z,Z,_,Z
 refine Vg (λ_=>?_) (λ_=>?_)
 ·refine⟨_,Z,_,Z,a,_,Z,.inl (p.seq u),_,_,Z,Z,.inr ⟨_,Z,_,_,Z,Z,N _ _,?_⟩⟩;exists _,Z,_,_,Z,Z,(by show (0:Int)<2147483647;decide),_,Z,_,_,Z,Z,.inl ⟨by decide,by decide⟩,_,Z,_,Z,(by show 4<=ao;decide)
  intro i d;exact j _ _ (l _) p i d
 ·refine .inr ⟨_,Z,_,_,Z,Z,N _ false,?_⟩;exists _,Z,_,_,Z,Z,(by show (0:Int)<2147483647;decide),_,Z,_,_,Z,Z,.inl ⟨by decide,by decide⟩,_,Z,_,Z,(by show 4<=ao;decide)
  intro i d;exact j _ _ (l false) p i d
theorem BT:ZC zFo zFo (ZY Io):=Zp
theorem ZPM(F:Zi K "has_few_figures" "has_few_figures" Io f fd)(T:YL mg):ZI P w K mg jQ ZM 1 f fd zFo QC:=by
 refine F.ok BT (λc H Q E h=>?_) (λb A a s H c Q E g h=>?_)
 ·let⟨i,rfl,_⟩:=h;rfl
 let⟨i,rfl,q⟩:=h;intro d;exists _,ZR (Zh (Vs O2 (YC KY rfl T.abs KB (Ze (pv 0) Zn)) (Zx ME ZK ZK) (YG _)));exists _,Z,_,Z,_,_,Z,Z,⟨by decide,by decide,by decide⟩,_,_,Z,Z
 let e:=BQ i;rw[<-e] at q;exact q
theorem AH:ZC ["sign"] ["sign"] (ZY J8):=Zp
theorem ZMp(F:Zi K "is_sign" "is_sign" J8 f fd):ZI P w K mg jQ ZM 1 f fd ["sign"] VU:=by
 refine F.ok AH (λk H Q E h=>?_) (λi A d s H k Q E m h=>?_)
 ·let⟨c,rfl,_⟩:=h;rfl
 let⟨c,rfl,q⟩:=h;intro l;exists _,ZR (Zh (ZK2 Gz Gz Ue (pv 0) Ue));let g:(xQ " ").cps.toList=[32]:=by decide +kernel
 let j:(xQ "~").cps.toList=[126]:=by decide +kernel
 let e:=ZKa c;exists _,Z,_,_,Z,Z,_,Z;refine Vg (λb=>?_) (λb=>?_)
 ·exists _,_,Z,Z;let a:(!decide ([c]<[32]))=true:=by rw[<-g];exact b
  rw[a,vJ] at e;rw[<-e,<-j] at q;exact q
 ·let a:(!decide ([c]<[32]))=false:=by rw[<-g];exact Bool.eq_false_iff.mpr b
  rw[a,wC] at e;rw[<-e] at q;exact q
structure ZX(K:zZ)(mg:jb)(x:Str)(st:aB)(ps:jn):Prop where
 ex:∃ f fd,Zi K x x st f fd/\Zt K fd ps []/\mg x=some (.ref f)
theorem ZX.of{P:ak}{w:ar}{K:zZ}{d:jb}{a:aC}{x:Str}{i:aB}{e:jn}{k:Nat}{g:Sp}(L:ZX K d x i e)(h:∀ f c,Zi K x x i f c->ZI P w K d a ZM k f c e g):ZA P w K d a k x e g:=by
 let⟨f,c,F,b,m⟩:=L.ex;exact⟨f,c,h f c F,b,F.kp,m⟩
theorem Mv{K:zZ}{h:aC}{p:jb}{x:Str}{e:aB}{n:jn}{f:ai}{t g:ju}{u:Array (jc)}{s kV q m o ct:ah}(X:K.In h)(G:h.Ns am p)(a:zC K am x=some (some (.ref f)))(l:K.lookup f=some ⟨s,t,.func (yD x x (QA e) (Xg e) (ZY e) .none kV q m g o ct),u⟩)(c:wW K o x=true)(k:yG K (.ref f)=true)(r:∀ (kV j m:ah) (g:ju) (i ct:ah) (b:jd),b.length=n.length->bindArgs (yD x x (QA e) (Xg e) (ZY e) .none kV j m g i ct) ⟨b,[]⟩=pure (n.zip b):=by first | exact(λ_ _ _ _ _ _ b d=>match b,d with | [_],_=>rfl) | exact(λ_ _ _ _ _ _ b d=>match b,d with | [_,_],_=>rfl) | exact(λ_ _ _ _ _ _ b d=>match b,d with | [_,_,_],_=>rfl) | exact(λ_ _ _ _ _ _ b d=>match b,d with | [_,_,_,_],_=>rfl) | exact(λ_ _ _ _ _ _ b d=>match b,d with | [_,_,_,_,_],_=>rfl)):ZX K p x e n:=
 ⟨f,_,O4 (st:=e) l c k,(O4 (st:=e) l c k).binds r,yH X G a⟩
theorem CQ(T:YL mg)(L:ZX K mg "_law_key" LN zEh)(b:ZA P w K mg jQ 1 "_law_pull" zEb Zy)(a:ZA P w K mg jQ 2 "_law_great" zEt Zy)(c:ZA P w K mg jQ 2 "_law_text" zEp WV):∀ n:Nat,ZA P w K mg jQ (n+2) "_law_key" zEh (XW n)
 | 0=>L.of λ_ _ _=>AE
 | n+1=>L.of λ_ _ F=>ZOh F T b a c (CQ T L b a c n)
inductive WP(n:Nat)(b:je)(H:Hp)(Q:VK)(_:XK):Prop
 |mk(v:V)(t:TG)(N:ai->Prop)(r:Nat)(_:b=[v,.int (r:Int)])(_:Zz N H t v)(_:t.neat)(_:r<n)(_:∀ a,ZE H a->Q (.bl (t.fits r)) a)
inductive Xr(b:je)(H:Hp)(Q:VK)(_:XK):Prop
 |mk(v:V)(t:TG)(N:ai->Prop)(_:b=[v])(_:Zz N H t v)(_:t.neat)(_:∀ a,ZE H a->Q (.bl (t.fits 3)) a)
theorem C0{d:Sp}{k:Nat}{e:jn}(c:∀ a H Q E,¬ d a H Q E):ZI P w K mg jQ ZM k f fd e d:=
 ⟨λa H Q E h=>absurd h (c a H Q E),λA b s H args g a Q E _ _ _ _ h=>absurd h (c a H Q E)⟩
theorem ZOM:ZC zFd zFd (ZY LK):=Zp
theorem ZNL{n:Nat}(F:Zi K "fits" "fits" LK f fd)(T:YL mg)(DW:ZA P w K mg jQ 1 "has_few_figures" zFo QC)(DS:ZA P w K mg jQ 1 "is_sign" ["sign"] VU)(DF:ZA P w K mg jQ (n+1) "fits" zFd (WP n)):ZI P w K mg jQ ZM (n+2) f fd zFd (WP (n+1)):=by
 refine F.ok ZOM (λp H Q E h=>?_) (λa3 A a2 s H p Q E hr h=>?_)
 ·let⟨v,t,N,r,rfl,_⟩:=h;rfl
 let⟨v,t,N,r,rfl,B,X,hn,k⟩:=h;let U:=hr.mono (show 1<=n+1 by lia)
 let⟨t1,m1⟩:=T.signs;let⟨t2,m2⟩:=T.things;intro Xc;refine⟨_,ZL (Z1 (Y5 (YC UF rfl T.isi Vq (Ze (pv 0) (Ze (UN (v:=.ty "bool") rfl T.bool Kj rfl) Zn)))) (ZR (Zh Pv)) Z5)
  (ZL (Z1 (Y5 (YC UF rfl T.isi Vq (Ze (pv 0) (Ze (UN (v:=.ty "int") rfl T.int ON rfl) Zn)))) (ZR (Zh (Zc DW U (Ze (pv 0) Zn)))) Z5)
  (ZL (Z1 (Y5 (YC UF rfl T.isi Vq (Ze (pv 0) (Ze (UN (v:=.ty "str") rfl T.str N9 rfl) Zn))))
   (ZR (Zh (Q7 (Vs Nt (YC ZFZ rfl T.len Xa (Ze (pv 0) Zn)) (WL (v:=.int 40) rfl m1 ⟨_,rfl⟩) (YG _))
    (P7 (YC (Lm rfl) rfl T.all Mn (Ze (Vn [] [] rfl (ZOu (pv 0)) (λ_ _ _ _ _=>U0) (λ_ _ _ _ _=>Zc DS U (Ze (pv 0) Zn)) trivial) Zn)))))) Z5)
  (ZL (Z1 (Y5 (YC UF rfl T.isi Vq (Ze (pv 0) (Ze (UN (v:=.ty "tuple") rfl T.tuple OJ rfl) Zn))))
   (ZR (Zh (Q7 (Vs Uo (pv 1) ZK (YG _)) (Q7 (Vs Nt (YC Xm rfl T.len Xa (Ze (pv 0) Zn)) (WL (v:=.int 4) rfl m2 ⟨_,rfl⟩) (YG _))
    (P7 (YC (Lm rfl) rfl T.all Mn (Ze (Vn [1] ["room"] rfl (JS (pv 0)) (λ_ _ _ _ _=>U0) (λ_ _ _ _ _=>Zc DF hr (Ze (pv 0) (Ze (Zx VE (pv 1) ZK) Zn))) ⟨rfl,.inl rfl,rfl,trivial⟩) Zn))))))) Z5)
  (ZR (Zh Pv))))),?_⟩
 cases t with
 | int i=>
  let ev:v=.int i:=by rw[Zz] at B;exact B
  subst ev;refine⟨_,Z,_,_,_,_,Z,.int i,IJ,_,Z,Zm ?_⟩;refine⟨_,Z,_,_,_,_,Z,.int i,N2,_,Z,Z7 ?_⟩;let d:=k H (ZE.refl H);rw[TG.fits] at d;exact⟨_,Z,i,Z,d⟩
 | str x=>
  let ev:v=.str x:=by rw[Zz] at B;exact B
  subst ev;let S:x.length<=1000:=by rw[TG.neat] at X;exact X
  refine⟨_,Z,_,_,_,_,Z,.str x,AM,_,Z,Zm ?_⟩;refine⟨_,Z,_,_,_,_,Z,.str x,Lq,_,Z,Zm ?_⟩;refine⟨_,Z,_,_,_,_,Z,.str x,MB,_,Z,Z7 ?_⟩;exists _,Z,x,Z,nn S,_,_,Z,Z,_,Z;refine Vg (λc=>?_) (λc=>?_)
  ·let u:x.length<=40:=by have:=of_decide_eq_true c;lia
   exists _,Z,x,Z;let a6:x.cps.size<=40:=u;refine Ud (n:=x.cps.size) (λi z=>∃ c,x.cps[i]? = some c/\z=.str ⟨#[c]⟩) (λD i m g=>ZE H g/\H D=none/\m=((x.cps.toList.take i).map Ql).map V.bl) (XX ∅)
    (λD i m g J _=>J) (λD i m g z H4 J _ Y=>Y) (λD m g _=>rfl) (λD O=>⟨Zv O _,O,Z⟩) (λD i m g z I hl J hz j R hR=>?_) (λD m g I j=>?_)
   ·let⟨c,hc,rfl⟩:=hz;let⟨G,L,rfl⟩:=j;exists _,Z,c,Z;refine hR _ g I ⟨λb o e=>by rw[ZS (Zg e L)];exact G b o e,L,?_⟩
    let a0:x.cps.toList[i]? = some c:=by simpa using hc
    rw[yR,a0];simp
   ·let⟨G,L,rfl⟩:=j;exists D,_,Z,ZG.of I;let d:=k g G;let M:(x.cps.toList.take x.cps.size)=x.cps.toList:=yV (by simp)
    let C:(x.cps.toList.map Ql).all id=(TG.str x).fits r:=by
     rw[TG.fits,vR];unfold Pg;rw[aI u,vJ];rfl
    rw[M,C];exact d
  ·let u:¬ x.length<=40:=λz=>c (aI ∅)
   let d:=k H (ZE.refl H);rw[TG.fits] at d;unfold Pg at d;rw[aH u,wC] at d;exact d
 | tup l=>
  rw[Zz] at B;let⟨a,p,rfl,C,W⟩:=B;let hl:=W.length;rw[TG.neat] at X;let⟨a5,a1⟩:=X;let q:XF K H (.ref a) (.type "tuple"):=.tup C;refine⟨_,Z,_,_,_,_,Z,q,ZPh,_,Z,Zm ?_⟩;refine⟨_,Z,_,_,_,_,Z,q,M9,_,Z,Zm ?_⟩;refine⟨_,Z,_,_,_,_,Z,q,LY,_,Z,Zm ?_⟩;refine⟨_,Z,_,_,_,_,Z,q,IV,_,Z,Z7 ?_⟩;exists _,Z,_,_,Z,Z,_,Z;refine Vg (λc1=>?_) (λc1=>?_)
  ·let r0:0<r:=by
    have:=of_decide_eq_true c1
    lia
   exists _,Z,a,p,Z,.inr (Zs.of C),_,_,Z,Z,_,Z;refine Vg (λc2=>?_) (λc2=>?_)
   ·let l4:l.length<=4:=by
     have:=of_decide_eq_true c2
     lia
    exists _,Z,a,Z,⟨p,Zs.of C⟩;refine Ud (n:=p.length) (λi z=>p[i]? = some z) (λD i m g=>ZE H g/\H D=none/\m=((l.take i).map λt=>t.fits (r-1)).map V.bl) (XX ∅)
     (λD i m g J j=>⟨p,p[i],Zs.of (j.1 _ _ C),by simp[J]⟩) (λD i m g z H4 J j Y=>⟨Y.1,Y.2 p (Zs.of (j.1 _ _ C))⟩) (λD m g j=>⟨p,Zs.of (j.1 _ _ C),zY _⟩)
     (λD O=>⟨Zv O _,O,Z⟩) (λD i m g z I a4 J hz j R hR=>?_) (λD m g I j=>?_)
    ·let⟨G,L,rfl⟩:=j;let⟨t,M,kt⟩:=W.get hz;let er:(r:Int)-1=((r-1:Nat):Int):=∅
     exists _,Z,_,Z,_,_,Z,Z,z,t,N,r-1,congrArg (λy=>[z,V.int y]) er,kt.mono (V4.same G) _ _,E3 a1 (zL M),by lia
     intro H4 s4;refine hR _ H4 (s4 D _ I) ⟨λb o e=>by rw[ZS (Zg e L)];exact s4 b o (G b o e),L,?_⟩
     rw[yR,M];simp
    ·let⟨G,L,rfl⟩:=j;exists D,_,Z,ZG.of I;let d:=k g G;rw[TG.fits,aI r0,vJ,aI l4,vJ,HH] at d;let M:l.take p.length=l:=yV ∅
     rw[M,vR];exact d
   ·let l4:¬ l.length<=4:=λz=>c2 (aI ∅)
    let d:=k H (ZE.refl H);rw[TG.fits,aH l4,wC,vH] at d;exact d
  ·let r0:¬ 0<r:=λz=>c1 (aI ∅)
   let d:=k H (ZE.refl H);rw[TG.fits,aH r0,wC] at d;exact d
 | odd n'=>
  rw[Zz] at B;let q:XF K H v (.type n'):=B.ty;let⟨b,kb,kr⟩:=Aj (K:=K) B;let d:=k H (ZE.refl H);rw[TG.fits] at d
  cases b with
  | true=>exact⟨_,Z,_,_,_,_,Z,q,kb,_,Z,Z7 d⟩
  | false=>
   let⟨k1,k2,k3⟩:=kr Z;refine⟨_,Z,_,_,_,_,Z,q,kb,_,Z,Zm ?_⟩;refine⟨_,Z,_,_,_,_,Z,q,k1,_,Z,Zm ?_⟩;refine⟨_,Z,_,_,_,_,Z,q,k2,_,Z,Zm ?_⟩;refine⟨_,Z,_,_,_,_,Z,q,k3,_,Z,Zm ?_⟩;exact d
theorem GX(T:YL mg)(L:ZX K mg "fits" LK zFd)(b:ZA P w K mg jQ 1 "has_few_figures" zFo QC)(a:ZA P w K mg jQ 1 "is_sign" ["sign"] VU):∀ n:Nat,ZA P w K mg jQ (n+1) "fits" zFd (WP n)
 | 0=>L.of λ_ _ _=>C0 λd H Q E h=>by let⟨v,t,N,r,_,_,_,c,_⟩:=h;lia
 | n+1=>L.of λ_ _ F=>ZNL F T b a (GX T L b a n)
theorem ZNG:ZC zEu zEu (ZY Kh):=Zp
theorem ZKx(F:Zi K "is_key" "is_key" Kh f fd)(T:YL mg)(b:ZA P w K mg jQ 5 "fits" zFd (WP 4)):ZI P w K mg jQ ZM 6 f fd zEu Xr:=by
 refine F.ok ZNG (λj H Q E h=>?_) (λc A a s H j Q E e h=>?_)
 ·let⟨v,t,N,rfl,_⟩:=h;rfl
 let⟨v,t,N,rfl,g,d,k⟩:=h;let⟨m,i⟩:=T.deep;intro l;exists _,ZR (Zh (Zc b e (Ze (pv 0) (Ze (WL (v:=.int 3) rfl i ⟨_,rfl⟩) Zn))));exact⟨_,Z,v,t,N,3,Z,g,d,by decide,k⟩
inductive Ua(n:Nat)(c:je)(H:Hp)(Q:VK)(_:XK):Prop
 |mk(v:V)(t:KT)(q:Nat)(_:c=[v])(_:ZD H t v)(_:t.fits q=true)(_:t.depth<n)(_:∀(b:V)(a:Hp),ZD a t.st b->ZE H a->Q b a)
inductive Yw(d:je)(H:Hp)(Q:VK)(_:XK):Prop
 |mk(v u:V)(a b:KT)(_:d=[v,u])(_:ZD H a v)(_:ZD H b u)(_:a.fits 3=true)(_:b.fits 3=true)(_:∀ c,ZE H c->Q (.bl (a.lt b)) c)
theorem ZHb:ZC zFl zFl (ZY Mo):=Zp
theorem ZNe{k:Nat}:ZI P w K mg jQ ZM k f fd zFl (Ua 0):=by
 let c:∀ a H Q E,¬ Ua 0 a H Q E:=λa H Q E h=>by
  let⟨v,t,q,_,_,_,d,_⟩:=h
  lia
 exact⟨λa H Q E h=>absurd h (c a H Q E),λA b s H args e a Q E _ _ _ _ h=>absurd h (c a H Q E)⟩
theorem ZFj{n:Nat}(F:Zi K "standing" "standing" Mo f fd)(T:YL mg)(DS:ZA P w K mg jQ (n+1) "standing" zFl (Ua n)):ZI P w K mg jQ ZM (n+2) f fd zFl (Ua (n+1)):=by
 refine F.ok ZHb (λg H Q E h=>?_) (λa2 A a1 s H g Q E hr h=>?_)
 ·let⟨v,t,q,rfl,_⟩:=h;rfl
 let⟨v,t,q,rfl,d,hq,hn,k⟩:=h;intro Xc;refine⟨_,ZL (Z1 (Y5 (YC UF rfl T.isi Vq (Ze (pv 0) (Ze (UN (v:=.ty "int") rfl T.int ON rfl) Zn)))) (ZR (Zh (VC (Ze ZK (Ze (pv 0) Zn))))) Z5)
  (ZL (Z1 (Y5 (YC UF rfl T.isi Vq (Ze (pv 0) (Ze (UN (v:=.ty "str") rfl T.str N9 rfl) Zn)))) (ZR (Zh (VC (Ze ZK (Ze (pv 0) Zn))))) Z5)
  (ZR (Zh (VC (Ze ZK (Ze (Ug N5 rfl T.tuple OJ (Ze (Vn [] [] rfl (JS (pv 0)) (λ_ _ _ _ _=>U0) (λ_ _ _ _ _=>Zc DS hr (Ze (pv 0) Zn)) trivial) Zn)) Zn)))))),?_⟩
 cases t with
 | int i=>
  let N:v=.int i:=by rw[ZD] at d;exact d
  subst N;refine⟨_,Z,_,_,_,_,Z,d.ty,N2,_,Z,Z7 ?_⟩;exists _,Z,(by show 2<=ao;decide)
  intro p U;refine k _ _ ?_ (Zv U _);rw[KT.st];exact .tup ZZ (.cons (.int 0) (.cons (.int i) .nil))
 | str x=>
  let N:v=.str x:=by rw[ZD] at d;exact d
  subst N;refine⟨_,Z,_,_,_,_,Z,d.ty,Lq,_,Z,Zm ?_⟩;refine⟨_,Z,_,_,_,_,Z,d.ty,MB,_,Z,Z7 ?_⟩;exists _,Z,(by show 2<=ao;decide)
  intro p U;refine k _ _ ?_ (Zv U _);rw[KT.st];exact .tup ZZ (.cons (.int 1) (.cons (.str x) .nil))
 | tup l=>
  let C:=d;rw[ZD] at C;let⟨a,g,rfl,I,G⟩:=C;let hl:=G.length;rw[KT.fits,zM,zM] at hq;let⟨a6,X,B⟩:=hq;let a5:l.length<=4:=of_decide_eq_true X;rw[KT.depth] at hn;refine⟨_,Z,_,_,_,_,Z,d.ty,M9,_,Z,Zm ?_⟩;refine⟨_,Z,_,_,_,_,Z,d.ty,LY,_,Z,Zm ?_⟩;exists _,Z,a,Z,⟨g,Zs.of I⟩;refine Ud (n:=g.length) (λi z=>g[i]? = some z) (λD i m r=>ZE H r/\H D=none/\jI r ((l.take i).map KT.st) m) (XX ∅)
   (λD i m r S j=>⟨g,g[i],Zs.of (j.1 _ _ I),by simp[S]⟩) (λD i m r z u S j hy=>⟨hy.1,hy.2 g (Zs.of (j.1 _ _ I))⟩) (λD m r j=>⟨g,Zs.of (j.1 _ _ I),zY _⟩)
   (λD hD=>⟨Zv hD _,hD,.nil⟩) (λD i m r z M a4 S hz j R hR=>?_) (λD m r M j=>?_)
  ·let⟨L,nD,c⟩:=j;let⟨t,J,kt⟩:=G.get hz;let mt:=zL J;let Y:t.fits (q-1)=true:=by
    rw[Ls] at B;exact yQ.mp B t mt
   let a3:=Pu mt;exists _,Z,z,t,q-1,Z,kt.sm L,Y,by lia
   intro v' u k4 s4;let y:=s4 D _ M;let tD:Z6 u (upd u D (.lst (m++[v']))):=(ZH.refl D u).upd.tups y;refine hR v' u y ⟨λb o e=>by rw[ZS (Zg e nD)];exact s4 b o (L b o e),nD,?_⟩
   rw[yR,J,zF];exact((c.sm s4).append (.cons k4 .nil)).mono tD _ _
  ·let⟨L,nD,c⟩:=j;let J:l.take g.length=l:=yV ∅
   rw[J] at c;let a0:=c.length;rw[zX] at a0;refine⟨D,m,Z,.inl ⟨ZG.of M,λp1 V=>?_⟩⟩;let g1:=Zv V (.tup m);exists (by show 2<=ao;decide)
   intro p2 W;let O:=Zv W (.tup [.int 2,.ref p1]);refine k _ _ ?_ ((L.trans g1).trans O);rw[KT.st,Eg];exact .tup ZZ (.cons (.int 2) (.cons (.tup (O _ _ ZZ) (c.sm (g1.trans O))) .nil))
theorem ED(T:YL mg)(L:ZX K mg "standing" Mo zFl):∀ n:Nat,ZA P w K mg jQ (n+1) "standing" zFl (Ua n)
 | 0=>L.of λ_ _ _=>ZNe
 | n+1=>L.of λ_ _ F=>ZFj F T (ED T L n)
theorem Au:ZC zE4 zE4 (ZY Lu):=Zp
theorem ZK9(F:Zi K "ahead" "ahead" Lu f fd)(e:ZA P w K mg jQ 6 "standing" zFl (Ua 5)):ZI P w K mg jQ ZM 7 f fd zE4 Yw:=by
 refine F.ok Au (λt H Q E h=>?_) (λn A d s H t Q E c h=>?_)
 ·let⟨v,u,a,b,rfl,_⟩:=h;rfl
 let⟨v,u,a,b,rfl,o,p,g,i,k⟩:=h;intro y;exists _,ZR (Zh (Vs (ZOq c) (Zc e c (Ze (pv 0) Zn)) (Zc e c (Ze (pv 1) Zn)) (YG _)));let z:=UL a 3 g;let B:=UL b 3 i;let C:=D7 a;exists _,Z,v,a,3,Z,o,g,by lia
 intro D x q j;exists _,Z,u,b,3,Z,p.sm j,i,by lia
 intro G m r l;exists a.st,b.st,q.sm l,r,FZ a b,by lia
 rw[GE];exact k m (j.trans l)
mutual
def KT.wide:KT->Nat->Bool
 | .int _,_=>true
 | .str _,_=>true
 | .tup l,r=>decide (0<r)&&(decide (l.length<=400)&&wideL l (r-1))
def wideL:jl->Nat->Bool
 | [],_=>true
 | t::l,r=>t.wide r&&wideL l r
end
theorem IF:∀(l:jl)(r:Nat),wideL l r=l.all (·.wide r)
 | [],r=>by rw[wideL];rfl
 | t::l,r=>by rw[wideL,IF l r];rfl
mutual
theorem LE:∀(t:KT)(r:Nat),t.fits r=true->t.wide r=true
 | .int _,_,_=>by rw[KT.wide]
 | .str _,_,_=>by rw[KT.wide]
 | .tup l,r,h=>by
  rw[KT.fits,zM,zM] at h;rw[KT.wide,zM,zM];have:=of_decide_eq_true h.2.1;exact⟨h.1,aI ∅,wideL_of l (r-1) h.2.2⟩
theorem wideL_of:∀(l:jl)(r:Nat),fitsL l r=true->wideL l r=true
 | [],_,_=>by rw[wideL]
 | t::l,r,h=>by
  rw[fitsL,zM] at h;rw[wideL,zM];exact⟨LE t r h.1,wideL_of l r h.2⟩
end
theorem M0{d:Sp}{k:Nat}{e:jn}(c:∀ a H Q E,¬ d a H Q E):ZI P w K mg jQ ZM k f fd e d:=
 ⟨λa H Q E h=>absurd h (c a H Q E),λA b s H args g a Q E _ _ _ _ h=>absurd h (c a H Q E)⟩
theorem ZM2:ZC zEc zEc (ZY LJ):=Zp
mutual
def KT.rk:KT->KT
 | .int i=>.tup [.int 0,.int i,.str "",.tup []]
 | .str x=>.tup [.int 1,.int 0,.str x,.tup []]
 | .tup l=>.tup [.int 2,.int 0,.str "",.tup (rkL l)]
def rkL:jl->jl
 | []=>[]
 | t::l=>t.rk::rkL l
end
theorem G9:∀ l:jl,rkL l=l.map KT.rk
 | []=>by rw[rkL];rfl
 | t::l=>by rw[rkL,G9 l];rfl
mutual
theorem Di:∀ a b:KT,a.rk.eqb b.rk=a.eqb b
 | .int i,.int j=>by simp[KT.rk,KT.eqb,jK]
 | .str x,.str y=>by simp[KT.rk,KT.eqb,jK]
 | .tup l,.tup m=>by simp[KT.rk,KT.eqb,jK,eqbL_rk l m]
 | .int _,.str _=>by simp[KT.rk,KT.eqb,jK]
 | .int _,.tup _=>by simp[KT.rk,KT.eqb,jK]
 | .str _,.int _=>by simp[KT.rk,KT.eqb,jK]
 | .str _,.tup _=>by simp[KT.rk,KT.eqb,jK]
 | .tup _,.int _=>by simp[KT.rk,KT.eqb,jK]
 | .tup _,.str _=>by simp[KT.rk,KT.eqb,jK]
theorem eqbL_rk:∀ l m:jl,jK (rkL l) (rkL m)=jK l m
 | [],[]=>by simp[rkL,jK]
 | a::l,b::m=>by simp[rkL,jK,Di a b,eqbL_rk l m]
 | [],_::_=>by simp[rkL,jK]
 | _::_,[]=>by simp[rkL,jK]
end
mutual
theorem EL:∀ a b:KT,a.rk.cmp b.rk=true
 | .int i,.int j=>by simp[KT.rk,KT.eqb,KT.cmp,cmpL,jK]
 | .str x,.str y=>by simp[KT.rk,KT.eqb,KT.cmp,cmpL,jK]
 | .tup l,.tup m=>by simp[KT.rk,KT.eqb,KT.cmp,cmpL,cmpL_rk l m]
 | .int _,.str _=>by simp[KT.rk,KT.eqb,KT.cmp,cmpL]
 | .int _,.tup _=>by simp[KT.rk,KT.eqb,KT.cmp,cmpL]
 | .str _,.int _=>by simp[KT.rk,KT.eqb,KT.cmp,cmpL]
 | .str _,.tup _=>by simp[KT.rk,KT.eqb,KT.cmp,cmpL]
 | .tup _,.int _=>by simp[KT.rk,KT.eqb,KT.cmp,cmpL]
 | .tup _,.str _=>by simp[KT.rk,KT.eqb,KT.cmp,cmpL]
theorem cmpL_rk:∀ l m:jl,cmpL (rkL l) (rkL m)=true
 | [],_=>by simp[rkL,cmpL]
 | _::_,[]=>by simp[rkL,cmpL]
 | a::l,b::m=>by
  rw[rkL,rkL,cmpL,cmpL_rk l m,EL a b];split <;> rfl
end
mutual
theorem Cc:∀ a b:KT,a.rk.plt b.rk=a.lt b
 | .int i,.int j=>by
  simp only[KT.rk,KT.eqb,KT.plt,pltL,jK,KT.lt,beq_self_eq_true,if_true];by_cases h:i=j
  ·subst h;simp
  ·simp[h]
 | .str x,.str y=>by
  simp only[KT.rk,KT.eqb,KT.plt,pltL,jK,KT.lt,beq_self_eq_true,if_true];by_cases h:x=y
  ·subst h;simp
  ·simp[h]
 | .tup l,.tup m=>by
  simp only[KT.rk,KT.eqb,KT.plt,pltL,KT.lt,beq_self_eq_true,if_true,eqbL_rk,pltL_rk l m]
  cases h:jK l m with
  | true=>rw[aK rfl,Dt h]
  | false=>rw[aJ zW]
 | .int _,.str _=>by simp[KT.rk,KT.eqb,KT.plt,pltL,KT.lt]
 | .int _,.tup _=>by simp[KT.rk,KT.eqb,KT.plt,pltL,KT.lt]
 | .str _,.int _=>by simp[KT.rk,KT.eqb,KT.plt,pltL,KT.lt]
 | .str _,.tup _=>by simp[KT.rk,KT.eqb,KT.plt,pltL,KT.lt]
 | .tup _,.int _=>by simp[KT.rk,KT.eqb,KT.plt,pltL,KT.lt]
 | .tup _,.str _=>by simp[KT.rk,KT.eqb,KT.plt,pltL,KT.lt]
theorem pltL_rk:∀ l m:jl,pltL (rkL l) (rkL m)=ltL l m
 | [],[]=>by simp[rkL,pltL,ltL]
 | [],_::_=>by simp[rkL,pltL,ltL]
 | _::_,[]=>by simp[rkL,pltL,ltL]
 | a::l,b::m=>by rw[rkL,rkL,pltL,ltL,Di a b,pltL_rk l m,Cc a b]
end
mutual
theorem IP:∀ t:KT,t.rk.depth<=2 * t.depth+2
 | .int i=>by simp[KT.rk,KT.depth,jL]
 | .str x=>by simp[KT.rk,KT.depth,jL]
 | .tup l=>by
  have:=depthL_rk l;simp only[KT.rk,KT.depth,jL]
  lia
theorem depthL_rk:∀ l:jl,jL (rkL l)<=2 * jL l+2
 | []=>by simp[rkL,jL]
 | t::l=>by
  let a:=IP t;let b:=depthL_rk l;rw[rkL,jL,jL]
  lia
end
inductive X9(n:Nat)(c:je)(H:Hp)(Q:VK)(_:XK):Prop
 |mk(v:V)(t:KT)(q:Nat)(_:c=[v])(_:ZD H t v)(_:t.fits q=true)(_:t.depth<n)(_:∀(b:V)(a:Hp),ZD a t.rk b->ZE H a->Q b a)
theorem ZOb:ZC zE1 zE1 (ZY Ln):=Zp
theorem ZMy{n:Nat}(F:Zi K "_law_rank" "_law_rank" Ln f fd)(T:YL mg)(DS:ZA P w K mg jQ (n+1) "_law_rank" zE1 (X9 n)):ZI P w K mg jQ ZM (n+2) f fd zE1 (X9 (n+1)):=by
 refine F.ko ZOb λa5 A a4 s H j Q E hr h=>?_;let⟨v,t,q,rfl,d,hq,hn,k⟩:=h;intro Xc;refine⟨_,ZL (Z1 (Y5 (YC UF rfl T.isi Vq (Zq (pv 0) (UN (v:=.ty "int") rfl T.int ON rfl)))) (ZR (Zh (VC (QI ZK (pv 0) Ue (VC Zn))))) Z5)
  (ZL (Z1 (Y5 (YC UF rfl T.isi Vq (Zq (pv 0) (UN (v:=.ty "str") rfl T.str N9 rfl)))) (ZR (Zh (VC (QI ZK ZK (pv 0) (VC Zn))))) Z5)
  (ZR (Zh (VC (QI ZK ZK Ue (Ug N5 rfl T.tuple OJ (ZT (Vn [] [] rfl (JS (pv 0)) (λ_ _ _ _ _=>U0) (λ_ _ _ _ _=>Zc DS hr (ZT (pv 0))) trivial)))))))),?_⟩
 cases t with
 | int i=>
  let O:v=.int i:=by rw[ZD] at d;exact d
  subst O;refine⟨_,Z,_,_,_,_,Z,d.ty,N2,_,Z,Z7 ?_⟩;refine⟨_,Z,(by show 0<=ao;decide),λp0 V=>⟨(by show 4<=ao;decide),λp X=>?_⟩⟩
  let S:=Zv V (.tup []);let r:=Zv X (.tup [.int 0,.int i,.str "",.ref p0]);refine k _ _ ?_ (S.trans r);rw[KT.rk];exact .tup ZZ (.cons (.int 0) (.cons (.int i) (.cons (.str _) (.cons (.tup (r _ _ ZZ) .nil) .nil))))
 | str x=>
  let O:v=.str x:=by rw[ZD] at d;exact d
  subst O;refine⟨_,Z,_,_,_,_,Z,d.ty,Lq,_,Z,Zm ?_⟩;refine⟨_,Z,_,_,_,_,Z,d.ty,MB,_,Z,Z7 ?_⟩;refine⟨_,Z,(by show 0<=ao;decide),λp0 V=>⟨(by show 4<=ao;decide),λp X=>?_⟩⟩
  let S:=Zv V (.tup []);let r:=Zv X (.tup [.int 1,.int 0,.str x,.ref p0]);refine k _ _ ?_ (S.trans r);rw[KT.rk];exact .tup ZZ (.cons (.int 1) (.cons (.int 0) (.cons (.str x) (.cons (.tup (r _ _ ZZ) .nil) .nil))))
 | tup l=>
  let G:=d;rw[ZD] at G;let⟨a,j,rfl,J,I⟩:=G;let hl:=I.length;rw[KT.fits,zM,zM] at hq;let⟨a9,a1,C⟩:=hq;let a8:l.length<=4:=of_decide_eq_true a1;rw[KT.depth] at hn;refine⟨_,Z,_,_,_,_,Z,d.ty,M9,_,Z,Zm ?_⟩;refine⟨_,Z,_,_,_,_,Z,d.ty,LY,_,Z,Zm ?_⟩;exists _,Z,a,Z,⟨j,Zs.of J⟩;refine Ud (n:=j.length) (λi z=>j[i]? = some z) (λD i m u=>ZE H u/\H D=none/\jI u ((l.take i).map KT.rk) m) (XX ∅)
   (λD i m u W g=>⟨j,j[i],Zs.of (g.1 _ _ J),by simp[W]⟩) (λD i m u z y W g hy=>⟨hy.1,hy.2 j (Zs.of (g.1 _ _ J))⟩) (λD m u g=>⟨j,Zs.of (g.1 _ _ J),zY _⟩)
   (λD hD=>⟨Zv hD _,hD,.nil⟩) (λD i m u z N a7 W hz g R hR=>?_) (λD m u N g=>?_)
  ·let⟨M,nD,c⟩:=g;let⟨t,L,kt⟩:=I.get hz;let mt:=zL L;let a2:t.fits (q-1)=true:=by
    rw[Ls] at C;exact yQ.mp C t mt
   let a6:=Pu mt;exists _,Z,z,t,q-1,Z,kt.sm M,a2,by lia
   intro v' y k4 s4;let B:=s4 D _ N;let tD:Z6 y (upd y D (.lst (m++[v']))):=(ZH.refl D y).upd.tups B;refine hR v' y B ⟨λb o e=>by rw[ZS (Zg e nD)];exact s4 b o (M b o e),nD,?_⟩
   rw[yR,L,zF];exact((c.sm s4).append (.cons k4 .nil)).mono tD _ _
  ·let⟨M,nD,c⟩:=g;let L:l.take j.length=l:=yV ∅
   rw[L] at c;let a3:=c.length;rw[zX] at a3;refine⟨D,m,Z,.inl ⟨ZG.of N,λp1 Y=>?_⟩⟩;let r:=Zv Y (.tup m);exists (by show 4<=ao;decide)
   intro p2 a0;let U:=Zv a0 (.tup [.int 2,.int 0,.str "",.ref p1]);refine k _ _ ?_ ((M.trans r).trans U);rw[KT.rk,G9];exact .tup ZZ (.cons (.int 2) (.cons (.int 0) (.cons (.str _) (.cons (.tup (U _ _ ZZ) (c.sm (r.trans U))) .nil))))
theorem GJ(T:YL mg)(L:ZX K mg "_law_rank" Ln zE1):∀ n:Nat,ZA P w K mg jQ (n+1) "_law_rank" zE1 (X9 n)
 | 0=>L.of λ_ _ _=>M0 λb H Q E h=>by let⟨v,t,q,_,_,_,a,_⟩:=h;lia
 | n+1=>L.of λ_ _ F=>ZMy F T (GJ T L n)
end Tw
namespace Tw
open PySem PySem.Spec L2 PyProof.Rows
variable{jN jO CS CT CH CK CP CB:ai}
theorem Hx:Kg KT.rk:=⟨Cc,EL,3,λt=>by cases t <;> (rw[KT.rk];exact⟨_,_,Z,Z⟩)⟩
def PQ(c:jl):Prop:=c.Pairwise λa b=>a.lt b=true
theorem FN{c:jl}(d:c.Nodup)(h:c.Pairwise λa b=>b.lt a=false):PQ c:=by
 induction c with
 | nil=>exact .nil
 | cons a c g=>
  rw[yW] at d;rw[xB] at h;refine xB.mpr ⟨λb f=>?_,g d.2 h.2⟩
  cases q:a.lt b with
  | true=>rfl
  | false=>
   let e:=Ly a b q (h.1 b f);exact absurd (e ▸ f) d.1
theorem Jv{k:Nat}{A:aw}(r:ZU k A):A.units+4<cLine:=by have:=r.un;lia
theorem GU{p D:ai}{H a:Hp}(s:ZH p H a)(w:ZO a p)(n:a D=none):H D=none:=by
 cases e:H D with
 | none=>rfl
 | some o=>
  by_cases h:D=p
  ·subst h;let⟨c,b⟩:=w.some;rw[n] at b;cases b
  ·rw[s D o e h] at n;cases n
inductive Uu(d:je)(H:Hp)(Q:VK)(_:XK):Prop
 |mk(p:ai)(n:Nat)(_:d=[.ref p,.int (n:Int)])(_:ZO H p)(_:n<63)(_:∀(D:ai)(c:je)(b:jl)(a:Hp),H D=none->a D=some (.lst c)->jI a b c->(∀ t∈b,t.fits 3=true)->PQ b->b.length<=n->ZO a p->ZH p H a->Q (.ref D) a)
theorem Qv:ZC ["_law_well_here","_law_many","_law_found","_law_j"] zEb (ZY K8):=Zp
theorem Cz(F:Zi K "_law_keys" "_law_keys" K8 f fd)(T:YL mg)(DK:ZA P w K mg jQ 6 "_law_key" zEh (XW 4))(DR:ZA P w K mg jQ 6 "_law_rank" zE1 (X9 5)):
  ZI P w K mg jQ ZM 9 f fd zEb Uu:=by
 refine F.ko Qv λa1 A a0 s H vs Q E S h=>?_;let⟨p,n,rfl,hw,hn,k⟩:=h;let nd:=Qv.nd;let U:=S.mono (show 6<=8 from nofun)
 let DS:ZA P w K mg jQ 6 "_law_rank" zE1 (P1 KT.rk):=by
  let⟨g,gd,FG,b,kp,m⟩:=DR.ex;exact⟨g,gd,FG.imp λvs H Q E h=>by
   let⟨v,t,e,a,c,d⟩:=h;have:=UL t 3 c;exact⟨v,t,3,e,a,c,nofun,d⟩,b,kp,m⟩
 intro Xc;refine⟨_,ZL (Zj 2 nd E7)
  (ZL (Vk PassesOwn.never rfl (Me rfl T.range (ZT (pv 1))) (Vo 3 nd)
   (ZR (El (Jv S) (pv 2) (Zc DK U (Zq (pv 0) ZK)) Pv rfl)))
  (ZR (Zh (CM Hx IP DS S rfl T.sorted rfl (ZT (pv 2)))))),?_⟩
 intro y H1 I _ s1 N;let⟨a2,Y⟩:=hw.some;let C:p≠y:=Zg Y I;refine⟨_,Z,(n:Int),Z,nofun,nofun,MX (n:=(n:Int).toNat) (λi σ u=>∃(l:List (KT×V×V))(o:jf),σ=[some (.ref p),some (.int (n:Int)),some (.ref y),o]/\Zu w u y l/\l.length<=i/\(∀ x∈l,x.1.fits 3=true)/\ZO u p/\ZH p H u)
  ⟨[],none,Z,N,zY _,λx X=>by simp at X,hw.same s1,ZH.of s1⟩ (λi σ u hi R=>?_) (λσ u R=>?_)⟩
 ·let⟨l,o,rfl,L,lx,B,j,M⟩:=R;exists _,Z,_,Z,p,3,Z,j,nofun
  intro v t H3 kv ft W r;let tu:=r.tupsW j;refine⟨y,l,t,Z,L.but r tu (Ne.symm C),nofun,kv,UL t 3 ft,λH4 J O=>⟨_,_,Z,O,by have:=ZKp l t v (.bl true);lia (splits:=8),λx X=>?_,W.stay J C,λb ob e nb=>?_⟩⟩
  ·have:x.1∈(Qs l t v (.bl true)).map (·.1):=List.mem_map_of_mem X;rw[Ji] at this;split at this
   ·let⟨z,G,e⟩:=zP.mp this;rw[<-e];exact B z G
   ·rcases zD.mp this with q | q
    ·let⟨z,G,e⟩:=zP.mp q;rw[<-e];exact B z G
    ·rw[zK.mp q];exact ft
  ·exact J b ob (r b ob (M b ob e nb) nb) (Zg e I)
 ·let⟨l,o,rfl,L,lx,B,j,M⟩:=R;exists _,Z,y,l,Z,L,B,nofun
  intro D ws rs H5 s5 nD hD ka pm pw;let lr:=pm.length_eq;rw[zX] at lr;refine k D ws rs H5 (GU M j nD) hD ka (λt ht=>?_) (FN (pm.nodup_iff.mpr L.nd) pw) nofun (j.same s5) (M.trans (ZH.of s5))
  let⟨z,G,e⟩:=zP.mp (pm.mem_iff.mp ht);rw[<-e];exact B z G
section
open PySem.SeqAt
open PySem.AutoSeq1 (wpAny_loadPart')
open PySem.MeetsSeq PySem.MeetsSeq2 PySem.MeetsSeq3
end
inductive XC(n:Nat)(b:je)(H:Hp)(Q:VK)(_:XK):Prop
 |mk(v u:V)(t m:KT)(r:Nat)(_:b=[v,u])(_:ZD H t v)(_:ZD H m u)(_:m.wide r=true)(_:r<n)(_:∀ a,ZE H a->Q (.bl (t.eqb m)) a)
theorem ZNq{l m:jl}(h:l.length≠m.length):jK l m=false:=by
 rw[<-Pe,show (l.length==m.length)=false by simp[h],vH]
theorem ZNs{l m:jl}(h:l.length=m.length):((yJ m.length).map λj=>(l.getD j (.int 0)).eqb (m.getD j (.int 0))).all id=jK l m:=by
 rw[<-Pe,h,Nat.min_self,vR];simp
theorem AI{n:Nat}(F:Zi K "_law_alike" "_law_alike" LJ f fd)(T:YL mg)(DA:ZA P w K mg jQ (n+1) "_law_alike" zEc (XC n)):
  ZI P w K mg jQ ZM (n+2) f fd zEc (XC (n+1)):=by
 refine F.ok ZM2 (λg H Q E h=>?_) (λa4 A a3 s H g Q E hr h=>?_)
 ·let⟨v,u,t,m,r,rfl,_⟩:=h;rfl
 let⟨v,u,t,m,r,rfl,d,B,hf,hn,k⟩:=h;intro Xc;refine⟨_,ZL (Z1 (Y5 (YC UF rfl T.isi Vq (Ze (pv 1) (Ze (UN (v:=.ty "tuple") rfl T.tuple OJ rfl) Zn))))
   (ZL (Z1 (PW.pt (Px (Vl (Y5 (YC UF rfl T.isi Vq (Ze (pv 0) (Ze (UN (v:=.ty "tuple") rfl T.tuple OJ rfl) Zn)))))
    (Nb (YX Nd (YC Xm rfl T.len Xa (Ze (pv 0) Zn)) (YC Xm rfl T.len Xa (Ze (pv 1) Zn)) (YG _))))) (ZR (Zh Pv)) Z5)
   (ZR (Zh (YC (Lm rfl) rfl T.all Mn (Ze (Vn [0,1] zEc rfl (Me rfl T.range (Ze (YC Xm rfl T.len Xa (Ze (pv 1) Zn)) Zn)) (λ_ _ _ _ _=>U0)
    (λ_ _ _ _ _=>Zc DA hr (Ze (Z8 K (pv 1) (pv 0)) (Ze (Z8 K (pv 2) (pv 0)) Zn))) ⟨rfl,.inl rfl,rfl,rfl,.inl rfl,rfl,trivial⟩) Zn))))) Z5)
  (ZL (Z1 (Y5 (YC UF rfl T.isi Vq (Ze (pv 1) (Ze (UN (v:=.ty "str") rfl T.str N9 rfl) Zn))))
   (ZR (Zh (Q7 (YC UF rfl T.isi Vq (Ze (pv 0) (Ze (UN (v:=.ty "str") rfl T.str N9 rfl) Zn))) (P7 (Vs Vp (pv 0) (pv 1) (YG _)))))) Z5)
  (ZR (Zh (Q7 (YC UF rfl T.isi Vq (Ze (pv 0) (Ze (UN (v:=.ty "int") rfl T.int ON rfl) Zn)))
   (Q7 (ZPS (YC UF rfl T.isi Vq (Ze (pv 0) (Ze (UN (v:=.ty "bool") rfl T.bool Kj rfl) Zn)))) (P7 (Vs Vp (pv 0) (pv 1) (YG _)))))))),?_⟩
 let c:=k H (ZE.refl H)
 cases m with
 | int j=>
  let Y:u=.int j:=by rw[ZD] at B;exact B
  subst Y;refine⟨_,Z,_,_,_,_,Z,.int j,ES,_,Z,Zm ?_⟩;refine⟨_,Z,_,_,_,_,Z,.int j,kit_is',_,Z,Zm ?_⟩
  cases t with
  | int i=>
   let ev:v=.int i:=by rw[ZD] at d;exact d
   subst ev;refine⟨_,Z,_,_,_,_,Z,.int i,N2,_,Z,Z7 ?_⟩;refine⟨_,Z,_,_,_,_,Z,.int i,IJ,_,Z,_,Z,Z7 ?_⟩;exists _,Z,_,Z,Z;rw[KT.eqb] at c;let e:decide (V.int i=V.int j)=(i==j):=by
    by_cases z:i=j
    ·subst z;simp
    ·simp[z]
   rw[e];exact c
  | str x=>
   rw[show (KT.str x).eqb (.int j)=false by simp[KT.eqb]] at c
   exact⟨_,Z,_,_,_,_,Z,d.ty,Lq,_,Z,Zm c⟩
  | tup l=>
   rw[show (KT.tup l).eqb (.int j)=false by simp[KT.eqb]] at c
   exact⟨_,Z,_,_,_,_,Z,d.ty,M9,_,Z,Zm c⟩
 | str y=>
  let Y:u=.str y:=by rw[ZD] at B;exact B
  subst Y;refine⟨_,Z,_,_,_,_,Z,.str y,Db,_,Z,Zm ?_⟩;refine⟨_,Z,_,_,_,_,Z,.str y,MB,_,Z,Z7 ?_⟩
  cases t with
  | int i=>
   rw[show (KT.int i).eqb (.str y)=false by simp[KT.eqb]] at c
   exact⟨_,Z,_,_,_,_,Z,d.ty,kit_is',_,Z,Zm c⟩
  | str x=>
   let ev:v=.str x:=by rw[ZD] at d;exact d
   subst ev;refine⟨_,Z,_,_,_,_,Z,.str x,MB,_,Z,Z7 ?_⟩;exists _,Z,_,Z,Z;rw[KT.eqb] at c;let e:decide (V.str x=V.str y)=(x==y):=by
    by_cases z:x=y
    ·subst z;simp
    ·simp[z]
   rw[e];exact c
  | tup l=>
   rw[show (KT.tup l).eqb (.str y)=false by simp[KT.eqb]] at c
   exact⟨_,Z,_,_,_,_,Z,d.ty,LY,_,Z,Zm c⟩
 | tup m=>
  let tu:=B.ty (K:=K);rw[ZD] at B;let⟨b,p,rfl,X,M⟩:=B;let a1:=M.length;rw[KT.wide,zM,zM] at hf;let⟨f0,f1,f2⟩:=hf;let r0:=of_decide_eq_true f0;let l4:=of_decide_eq_true f1;refine⟨_,Z,_,_,_,_,Z,tu,IV,_,Z,Z7 ?_⟩
  cases t with
  | int i=>
   rw[show (KT.int i).eqb (.tup m)=false by simp[KT.eqb]] at c
   exact⟨_,Z,_,_,_,_,Z,d.ty,ES,_,Z,Z7 (Z7 c)⟩
  | str x=>
   rw[show (KT.str x).eqb (.tup m)=false by simp[KT.eqb]] at c
   exact⟨_,Z,_,_,_,_,Z,d.ty,Db,_,Z,Z7 (Z7 c)⟩
  | tup l=>
  let tv:=d.ty (K:=K);rw[ZD] at d;let⟨a,g,rfl,ea,N⟩:=d;let hl:=N.length;rw[KT.eqb] at k c;refine⟨_,Z,_,_,_,_,Z,tv,IV,_,Z,Zm ?_⟩;exists _,Z,a,g,Z,.inr (Zs.of ea),_,Z,b,p,Z,.inr (Zs.of X),Z,_,Z;by_cases O:g.length=p.length
  ·refine B9 (by rw[O]) ?_
   exists _,Z,b,p,Z,.inr (Zs.of X),_,Z,nofun,nofun
   rw[uJ];refine Ud (n:=p.length) (λi x=>x=.int (0+(i:Int))) (λD i G q=>ZE H q/\H D=none/\G=((yJ i).map λj=>(l.getD j (.int 0)).eqb (m.getD j (.int 0))).map V.bl) (XX nofun)
    (λD i G q S _=>S) (λD i G q x H4 S _ hy=>hy) (λD G q _=>zY _) (λD hD=>⟨Zv hD _,hD,Z⟩) (λD i G q x W a5 S hx hP R hR=>?_) (λD G q W hP=>?_)
   ·subst hx;let⟨C,nD,rfl⟩:=hP;let a0:i<g.length:=nofun
    let L:g[i]? = some g[i]:=by simp[a0]
    let J:p[i]? = some p[i]:=by simp[S]
    let⟨t,et,kt⟩:=N.get L;let⟨U,I,a2⟩:=M.get J;let ft:U.wide (r-1)=true:=by rw[IF] at f2;exact yQ.mp f2 U (zL I)
    let av:WN g (0+(i:Int))=some g[i]:=by rw[Int.zero_add];exact XH L
    let au:WN p (0+(i:Int))=some p[i]:=by rw[Int.zero_add];exact XH J
    refine⟨_,Z,_,Z,.inr (.inl ⟨a,g,_,_,rfl,rfl,Zs.of (C _ _ ea),av,_,rfl,_,rfl,.inr (.inl ⟨b,p,_,_,rfl,rfl,Zs.of (C _ _ X),au,g[i],p[i],t,U,r-1,rfl,kt.sm C,a2.sm C,ft,nofun,λH4 s4=>?_⟩)⟩)⟩
    refine hR _ H4 (s4 D _ W) ⟨λb o e=>by rw[ZS (Zg e nD)];exact s4 b o (C b o e),nD,?_⟩
    rw[List.range_succ,zF,zF]
    congr 1
    show [V.bl (t.eqb U)]=[V.bl ((l.getD i (.int 0)).eqb (m.getD i (.int 0)))];rw[zV,zV,et,I];rfl
   ·let⟨C,nD,rfl⟩:=hP;exists D,_,Z,ZG.of W;rw[<-a1,ZNs nofun]
    exact k q C
  ·rw[ZNq nofun] at c
   rw[aH (λz=>O (by have:=N7 z;lia (splits:=8)))]
   exact Z7 c
theorem Ei(T:YL mg)(L:ZX K mg "_law_alike" LJ zEc):∀ n:Nat,ZA P w K mg jQ (n+1) "_law_alike" zEc (XC n)
 | 0=>L.of λ_ _ _=>M0 λb H Q E h=>by let⟨v,u,t,m,r,_,_,_,_,a,_⟩:=h;lia
 | n+1=>L.of λ_ _ F=>AI F T (Ei T L n)
inductive YB(i:je)(H:Hp)(Q:VK)(_:XK):Prop
 |mk(a b:ai)(g h:je)(e c:jl)(_:i=[.ref a,.ref b])(_:H a=some (.lst g))(_:H b=some (.lst h))(_:jI H e g)(_:jI H c h)(_:∀ t∈c,t.wide 4=true)(_:c.length<=400)(_:∀ d,ZE H d->Q (.bl (jK e c)) d)
theorem ZK4:ZC zEc zEc (ZY Ky):=Zp
theorem BV(F:Zi K "_law_rows_alike" "_law_rows_alike" Ky f fd)(T:YL mg)(p:ZA P w K mg jQ 7 "_law_alike" zEc (XC 6)):ZI P w K mg jQ ZM 8 f fd zEc YB:=by
 refine F.ko ZK4 λr A i s H N Q E y h=>?_;let⟨a,b,n,o,J,L,rfl,m,u,B,C,x,c,k⟩:=h;intro M;refine⟨_,ZR (Zh (Q7 (YC UF rfl T.isi Vq (Zq (pv 0) (UN (v:=.ty "list") rfl T.list OL rfl)))
  (P7 (Zc p y (Zq (Ug N5 rfl T.tuple OJ (ZT (pv 0))) (Ug N5 rfl T.tuple OJ (ZT (pv 1)))))))),?_⟩
 refine⟨_,Z,_,_,_,_,Z,.lst m,(by kernel_rfl),_,Z,Z7 ?_⟩
 refine⟨_,Z,a,n,Z,.inl ⟨ZG.of m,λD d=>?_⟩⟩;let j:=Zv d (.tup n);refine⟨_,Z,b,o,Z,.inl ⟨ZG.of (j _ _ u),λG e=>?_⟩⟩;let l:=Zv e (.tup o);let g:=j.trans l;refine⟨.ref D,.ref G,.tup J,.tup L,5,Z,.tup (l _ _ ZZ) (B.sm g),.tup ZZ (C.sm g),?_,by decide,λq I=>?_⟩
 ·rw[KT.wide,zM,zM,IF];exact⟨by decide,aI c,yQ.mpr λt z=>x t z⟩
 ·rw[KT.eqb];exact k q (g.trans I)
theorem NT{H:Hp}{p q:ai}(W:ZO H p)(h:H q=none):q≠p:=λz=>by
 let⟨a,e⟩:=W.some;rw[z,e] at h;cases h
inductive Vd(b:je)(H:Hp)(Q:VK)(_:XK):Prop
 |mk(p:ai)(_:b=[.ref p])(_:ZO H p)(_:∀(v:V)(t:KT)(a:Hp),ZD a t v->t.fits 3=true->ZO a p->ZH p H a->Q v a)
theorem AG:ZC zEp zEp (ZY KQ):=Zp
theorem ZLG(F:Zi K "_law_value" "_law_value" KQ f fd)(z:ZA P w K mg jQ 1 "_law_pull" zEb Zy)(J:ZA P w K mg jQ 6 "_law_key" zEh (XW 4)):ZI P w K mg jQ ZM 7 f fd zEp Vd:=by
 refine F.ko AG λN A y s H vs Q E C h=>?_;let⟨p,rfl,W,q⟩:=h;let g:=C.to 1;intro Xc;refine⟨_,ZL (Z1 (YX Vp (Zc z g (Zq (pv 0) ZK)) ZK (YG _)) (ZR (Zh (Zc J C (Zq (pv 0) ZK)))) Z5)
  (ZR (Zh (Z8 K (Yr (pa6 ZK ZK Ue (VC (ZT ZK)) Ue (VC Zn))) (Zc z g (Zq (pv 0) ZK))))),?_⟩
 refine⟨_,Z,p,3,Z,W,Wv (by decide) (by decide),λw0 L a0 a1 k G=>⟨Z,_,Z,?_⟩⟩
 refine Vg (λc=>?_) (λc=>?_)
 ·exact⟨_,Z,p,3,Z,k,by decide,λv t a S R b j=>q v t a S R b (G.trans j)⟩
 exists YS;intro l X;let B:=Zv X (.tup [.int 1]);exists YS;intro m Y;let n:=Zv Y (.tup []);exists YS;intro d i;let o:=Zv i (.lst [.int 0,.int 1,.str "1",.ref l,.str "",.ref m]);let u:ZE L _:=(B.trans n).trans o;let x:d≠p:=NT (k.same (B.trans n)) i;exists _,Z,p,6,Z,k.same u,Wv (by decide) (by decide)
 intro r a r0 r1 b j;let I:=j.tupsW (k.same u);let e:ZH p H a:=(G.trans (ZH.of u)).trans j;let T:ZD a (.tup [.int 1]) (.ref l):=.tup (I _ _ (o _ _ (n _ _ ZZ))) (.cons (.int 1) .nil);let U:ZD a (.tup []) (.ref m):=.tup (I _ _ (o _ _ ZZ)) .nil;let O:a d=some (.lst [.int 0,.int 1,.str "1",.ref l,.str "",.ref m]):=j d _ ZZ x;let⟨v,M,D⟩:=NA (xs:=[V.int 0,.int 1,.str "1",.ref l,.str "",.ref m]) r0 r1;refine .inl ⟨d,_,_,v,Z,Z,ZG.of O,M,?_⟩;simp only[zU,sG,or_false] at D;rcases D with rfl | rfl | rfl | rfl | rfl | rfl
 ·exact q _ _ a (.int 0) (by decide +kernel) b e
 ·exact q _ _ a (.int 1) (by decide +kernel) b e
 ·exact q _ _ a (.str _) (by decide +kernel) b e
 ·exact q _ _ a T (by decide +kernel) b e
 ·exact q _ _ a (.str _) (by decide +kernel) b e
 ·exact q _ _ a U (by decide +kernel) b e
end Tw
namespace L2
open PySem PySem.Spec PyProof.Rows
inductive OD(b:zZ)(c:je)(H:Hp)(Q:VK):Prop
 |mk(p:ai)(a:jA)(_:c=[.ref p])(_:ZG b H p (a.map V.int))(_:Q (.int a.sum) H)
theorem Br(g:X.calm=true):UR X (.builtin "sum") (OD X.K):=by
 intro d s A H z y Q I r h;let⟨p,c,rfl,j,q⟩:=h;let⟨u,rfl,m⟩:=Qf r;cases m;let⟨k,n,l,x⟩:=I.list j;let a:=Cw n;let⟨v,e⟩:=a.allInts.items;let b:=l.isList;rw[e] at b;let f:v.toList.map (·.1)=c:=by
  rw[<-nums_intItems,<-e];exact a.numsOf
 refine sum_intListG (I.ok.hd g) b λw t o i=>⟨.int c.sum,H,I.kept (t':=t) i,⟨o,?_⟩,q⟩;rw[preSum_eq,yV (by simp),f]
end L2
namespace Tw
open PySem PySem.Spec L2 PyProof.Rows
variable{jN jO CS CT CH CK CP CB:ai}
theorem ZOZ:ax "sum" = some (.builtin "sum"):=by decide +kernel
structure YY where
 h:Int
 lo:KT
 hi:KT
 m:Int
abbrev jD:=List YY
def YY.d:YY:=⟨0,.int 0,.int 0,0⟩
def YY.kt(L:YY):KT:=.tup [.int L.h,L.lo,L.hi,.int L.m]
inductive YJ(H:Hp)(L:YY)(u:V):Prop
 |mk(a c b:_)(_:u=.ref a)(_:H a=some (.tup [.int L.h,c,b,.int L.m]))(_:ZD H L.lo c)(_:ZD H L.hi b)
theorem YJ.mono{H d:Hp}{L:YY}{u:V}(x:YJ H L u)(m:Z6 H d):YJ d L u:=by
 let⟨a,c,b,e,f,g,h⟩:=x;exact⟨a,c,b,e,m _ _ f,g.mono m _ _,h.mono m _ _⟩
def Yp(H:Hp)(a:jD)(b:je):Prop:=b.length=a.length/\∀ i u,b[i]? = some u->YJ H (a.getD i .d) u
theorem Yp.mono{H a:Hp}{b:jD}{c:je}(x:Yp H b c)(m:Z6 H a):Yp a b c:=⟨x.1,λi u e=>(x.2 i u e).mono m⟩
def YY.fit(L:YY):Prop:=L.lo.fits 3=true/\L.hi.fits 3=true
def PU(a b:YY):Bool:=(a.h==b.h)&&a.hi.lt b.lo
def LZ(a:jD):Bool:=(yJ (a.length-1)).all λj=>PU (a.getD j .d) (a.getD (j+1) .d)
def over(a:jD):Option YY:=if 2<=a.length/\a.length<=4/\LZ a=true then some ⟨(a.getD 0 .d).h+1,(a.getD 0 .d).lo,(a.getD (a.length-1) .d).hi,(a.map YY.m).sum⟩ else none
theorem ZKg{a:jD}(b:2<=a.length)(c:a.length<=4)(h:∀ j,j<a.length-1->PU (a.getD j .d) (a.getD (j+1) .d)=true):over a=some ⟨(a.getD 0 .d).h+1,(a.getD 0 .d).lo,(a.getD (a.length-1) .d).hi,(a.map YY.m).sum⟩:=
 aK ⟨b,c,yQ.mpr λj e=>h j (wX.mp e)⟩
inductive Uw(d:je)(H:Hp)(Q:VK)(_:XK):Prop
 |mk(v u:V)(a b:YY)(_:d=[v,u])(_:YJ H a v)(_:YJ H b u)(_:a.fit)(_:b.fit)(_:∀ c,ZE H c->Q (.bl (PU a b)) c)
theorem Bf:ZC zFe zFe (ZY JX):=Zp
theorem ZNo(F:Zi K "stand_side_by_side" "stand_side_by_side" JX f fd)(T:YL mg)(r:ZA P w K mg jQ 7 "ahead" zE4 Yw):ZI P w K mg jQ ZM 8 f fd zFe Uw:=by
 refine F.ko Bf λB A l s H X Q E J h=>?_;let⟨v,u,a,b,rfl,G,I,C,D,k⟩:=h;let⟨U,o⟩:=T.height;let⟨V,N⟩:=T.least;let⟨W,O⟩:=T.greatest;let⟨p,x,c,rfl,m,L,i⟩:=G;let⟨q,d,y,rfl,n,j,M⟩:=I;intro S;refine⟨_,ZR (Zh (Q7 (Vs Vp (Z8 K (pv 0) (WL (v:=.int 0) rfl o ⟨_,rfl⟩)) (Z8 K (pv 1) (WL (v:=.int 0) rfl o ⟨_,rfl⟩)) (YG _))
  (P7 (Zc r J (Zq (Z8 K (pv 0) (WL (v:=.int 2) rfl O ⟨_,rfl⟩)) (Z8 K (pv 1) (WL (v:=.int 1) rfl N ⟨_,rfl⟩))))))),?_⟩
 refine⟨_,Z,.inr (.inl ⟨p,_,_,.int a.h,rfl,rfl,Zs.of m,rfl,?_⟩)⟩;refine⟨_,Z,.inr (.inl ⟨q,_,_,.int b.h,rfl,rfl,Zs.of n,rfl,rfl,_,rfl,?_⟩)⟩;by_cases g:a.h=b.h
 ·rw[aI (by rw[g])]
  refine Z7 ?_;refine⟨_,Z,.inr (.inl ⟨p,_,_,c,rfl,rfl,Zs.of m,rfl,?_⟩)⟩;refine⟨_,Z,.inr (.inl ⟨q,_,_,d,rfl,rfl,Zs.of n,rfl,c,d,a.hi,b.lo,rfl,i,j,C.2,D.1,λt R=>?_⟩)⟩;let e:a.hi.lt b.lo=PU a b:=by unfold PU;rw[g,beq_self_eq_true,vJ]
  rw[e];exact k t R
 ·rw[aH (λz=>g (N7 z))];refine Zm ?_;let e:false=PU a b:=by unfold PU;rw[beq_eq_false_iff_ne.mpr g,wC]
  rw[e];exact k H (ZE.refl H)
theorem Dd{n:Int}(h:n.natAbs<10 ^ 60)(r:Nat):(KT.int n).fits r=true:=by rw[KT.fits];exact aI h
theorem Mf{H:Hp}{L:YY}{u:V}(h:ZD H L.kt u):YJ H L u:=by
 unfold YY.kt at h;rw[ZD] at h;let⟨a,r,rfl,e,b⟩:=h;rw[jI] at b;let⟨p,l,rfl,c,b⟩:=b;rw[jI] at b;let⟨j,m,rfl,g,b⟩:=b;rw[jI] at b;let⟨k,n,rfl,i,b⟩:=b;rw[jI] at b;let⟨q,o,rfl,d,b⟩:=b;rw[jI] at b;subst b;rw[ZD] at c d;subst c d;exact⟨a,j,k,Z,e,g,i⟩
theorem Gv:YY.d.fit:=⟨Dd (n:=0) (by decide) 3,Dd (n:=0) (by decide) 3⟩
def Dz(H:Hp)(b:jl)(c:je):Prop:=c.length=b.length/\∀ i u,c[i]? = some u->∃ a d e,u=.ref a/\H a=some (.tup [d,e])/\ZD H (b.getD i (.int 0)) d
def LU(a:jl):KT:=.tup [.int 0,a.getD 0 (.int 0),a.getD (a.length-1) (.int 0),.int a.length]
theorem ZNA{a:je}{u:V}(h:a[a.length-1]? = some u):WN a (-1)=some u:=by
 let b:a≠[]:=λz=>by rw[z] at h;simp at h
 let e:a=a.dropLast++[u]:=by
  let c:a.getLast b=u:=by
   rw[rR];exact(zB.mp h).2
  rw[<-c,sH]
 rw[e];exact FX _ _
inductive XN(d:je)(H:Hp)(Q:VK)(_:XK):Prop
 |mk(l:ai)(b:je)(c:jl)(_:d=[.ref l])(_:H l=some (.lst b))(_:Dz H c b)(_:0<b.length)(_:∀(a:Hp)(v:V),ZE H a->ZD a (LU c) v->Q v a)
theorem ZIV:ZC zE3 zE3 (ZY J9):=Zp
theorem ZH6(F:Zi K "label_of_rows" "label_of_rows" J9 f fd)(T:YL mg):ZI P w K mg jQ ZM 1 f fd zE3 XN:=by
 refine F.ko ZIV λq A i s H L Q E I h=>?_;let⟨l,c,J,rfl,e,d,u,k⟩:=h;intro C;refine⟨_,ZR (Zh (VC (QI ZK (Z8 K (Z8 K (pv 0) ZK) ZK)
  (Z8 K (Z8 K (pv 0) (Qq Qk ZK)) ZK) (YC Xm rfl T.len Xa (ZT (pv 0)))))),?_⟩
 let m:c[0]? = some c[0]:=zQ u;let n:c[c.length-1]? = some (c[c.length-1]'∅):=zQ ∅
 let⟨a,o,D,r,z,x⟩:=d.2 0 _ m;let⟨b,bk,G,t,B,y⟩:=d.2 _ _ n;rw[r] at m;rw[t] at n;refine⟨_,Z,.inl ⟨l,c,_,.ref a,Z,Z,ZG.of e,XH (j:=0) m,.inr (.inl ⟨a,_,_,o,rfl,rfl,Zs.of z,rfl,?_⟩)⟩⟩;refine⟨_,Z,1,Z,.inl ⟨l,c,_,.ref b,Z,Z,ZG.of e,ZNA n,.inr (.inl ⟨b,_,_,bk,rfl,rfl,Zs.of B,rfl,?_⟩)⟩⟩;exists _,Z,l,c,Z,.inl (ZG.of e),YS;intro p v;let g:=Zv v (.tup [.int 0,o,bk,.int c.length]);refine k _ _ g ?_;unfold LU;rw[<-d.1];exact .tup ZZ (.cons (.int _) (.cons (x.sm g) (.cons (y.sm g) (.cons (.int _) .nil))))
abbrev Zb:=KT×KT
abbrev jm:=List Zb
def Mu(r:Zb):KT:=.tup [r.1,r.2]
def YI(a:jm):jl:=a.map Mu
def Zb.fit(r:Zb):Prop:=r.1.fits 3=true/\r.2.fits 3=true
structure ZP where
 h:Nat
 rows:jm
 bs:jj
abbrev jk:=List ZP
def ZP.d:ZP:=⟨0,[],[]⟩
def gd(a:jk)(i:Nat):ZP:=a.getD i .d
structure Yu(gt:jj)(ts:jk)(i:Nat)(t:ZP):Prop where
 ne:t.rows≠[]
 up:(t.rows.map (·.1)).Pairwise λa b=>a.lt b=true
 inn:∀ r∈t.rows,r.fit
 leaf:t.h=0->t.bs=[]/\t.rows.length<=4
 stem:t.h≠0->2<=t.bs.length/\t.bs.length<=4/\(∀ b∈t.bs,b∈gt/\(gd ts b).h+1=t.h)/\t.rows=t.bs.flatMap λb=>(gd ts b).rows
def WF(gt:jj)(a:jk):Prop:=∀ i∈gt,Yu gt a i (gd a i)
def kindOf(t:ZP):Str:=if t.h=0 then "leaf" else "stem"
theorem Uq{H c:Hp}{a:ai}{o:HO}(s:ZE H c)(n:H a=none):ZE H (upd c a o):=λb u e=>by rw[ZS (Zg e n)];exact s b u e
abbrev iN(l:jj):je:=l.map λb=>V.int (b:Nat)
theorem EG(a b:jm):YI (a++b)=YI a++YI b:=zF
theorem LR{a:je}{j:Nat}{v:V}(b:1<=j)(c:j<=a.length)(h:a[a.length-j]? = some v):WN a (-(j:Int))=some v:=by
 unfold WN;let e:PJ a.length (-(j:Int))=some (a.length-j):=by
  unfold PJ;rw[aJ ∅,aK ∅]
  congr 1
  lia
 rw[e];exact h
def rd:Zb:=(.int 0,.int 0)
def Zr(t:ZP):YY:=⟨t.h,(t.rows.getD 0 rd).1,(t.rows.getD (t.rows.length-1) rd).1,t.rows.length⟩
theorem P6{H:Hp}{c:jm}{k:je}{i:Nat}{u:V}(h:jI H (YI c) k)(e:k[i]? = some u):∃ a l m,c[i]? = some (c.getD i rd)/\u=.ref a/\H a=some (.tup [l,m])/\ZD H (c.getD i rd).1 l/\ZD H (c.getD i rd).2 m:=by
 let⟨t,d,g⟩:=h.get e;unfold YI at d;rw[zG] at d;let⟨r,j,rfl⟩:=yC.mp d;let n:c.getD i rd=r:=by rw[zV,j];rfl
 unfold Mu at g;rw[ZD] at g;let⟨a,z,rfl,o,b⟩:=g;rw[jI] at b;let⟨s,x,rfl,p,b⟩:=b;rw[jI] at b;let⟨v,y,rfl,q,b⟩:=b;rw[jI] at b;subst b;rw[n];exact⟨a,s,v,j,Z,o,p,q⟩
theorem Yp.snoc{H:Hp}{d:jD}{a:je}{L:YY}{u:V}(h:Yp H d a)(j:YJ H L u):Yp H (d++[L]) (a++[u]):=by
 exists by rw[zN,zN,h.1];rfl
 intro i w e;rcases yL i a.length with b | b
 ·rw[vN b] at e;have:=h.2 i w e;rw[zV] at this⊢;rw[vN (by rw[<-h.1];exact b)]
  exact this
 ·rw[wP b] at e;let c:i-a.length=0:=by
   rcases Nat.eq_zero_or_pos (i-a.length) with z | z
   ·exact z
   ·rw[sQ (by simp;lia)] at e;cases e
  rw[c] at e;simp at e;subst e;let g:i=d.length:=by have:=h.1;lia
  rw[zV,g];simp;exact j
def inT(a:jj)(x:Int):Bool:=decide (0<=x/\x.toNat∈a)
def Ib(a:jD):Prop:=∀ j,j+1<a.length->(a.getD (j+1) .d).h=(a.getD 0 .d).h/\(a.getD j .d).hi.lt (a.getD (j+1) .d).lo=true
theorem PL{c:jD}:Ib c ↔ LZ c=true:=by
 unfold Ib LZ PU;rw[yQ];constructor
 ·intro h j e;let i:j<c.length-1:=wX.mp e;let⟨a,b⟩:=h j ∅
  rw[zM];refine⟨?_,b⟩;rw[beq_iff_eq,a]
  cases j with
  | zero=>rfl
  | succ j=>exact(h j ∅).1
 ·intro h;let g:∀ j,j<c.length->(c.getD j .d).h=(c.getD 0 .d).h:=λj=>by
   induction j with
   | zero=>intro _;rfl
   | succ j k=>
    intro e;have:=h j (wX.mpr ∅)
    rw[zM,beq_iff_eq] at this;rw[<-this.1];exact k ∅
  intro j e;have:=h j (wX.mpr ∅)
  rw[zM] at this;exact⟨g (j+1) e,this.2⟩
theorem N0{gt:jj}{d:jk}{i:Nat}{t:ZP}(h:Yu gt d i t):(Zr t).fit:=by
 let a:0<t.rows.length:=uU.mpr h.ne;let b:t.rows.getD 0 rd∈t.rows:=by rw[zV,zQ a];exact xI _
 let c:t.rows.getD (t.rows.length-1) rd∈t.rows:=by rw[zV,zQ (show t.rows.length-1<t.rows.length by lia)];exact xI _
 exact⟨(h.inn _ b).1,(h.inn _ c).1⟩
def YK(c:jk)(a:jj):jD:=a.map λb=>Zr (gd c b)
structure ZB(P:ak)(w:ar)(K:zZ)(mg:jb)(jQ:aC)(CX:Vb)(k:Nat)(C:ai)(m:Str)(ps:jn)(sp:Sp):Prop where
 ex:∃ f fd,Qa K C m f/\ZI P w K mg jQ CX k f fd ps sp/\Zt K fd ps []
theorem Z0{X:Cx}{j:Vb}{k:Nat}{C:ai}{m:Str}{x:jn}{l:Sp}{E:XK}{o e:Expr}{g:jw}{n:TE}{t:TA}{a d:Pos}{v:Sem Bool}(q:PE X o n)(c:Vx X.K C)(D:ZB X.prog X.w X.K X.mg X.base j k C m x l)(r:ZU k X.A)(u:Qj j X E)(p:PA X (e::g) t)(i:aq (e::g) X.env=(false,aF e X.env)::aq g X.env:=by rfl)(h:(aE a (aq g X.env)).any (·.1)=false:=by rfl)(s:aF (.Call (.Attribute o m d) (e::g) [] a) X.env=(do
   let ov<-aF o X.env
   standAt d.atName
   let (f,first)<-holding [ov] (getMethod ov m v)
   callWith a f first (aE a (aq (e::g) X.env)) (backToKw a (keywordEach [] X.env))):=by rfl):
  PE X (.Call (.Attribute o m d) (e::g) [] a) (M7 C m l [] E n t):=by
 let⟨f,fd,M,F,b⟩:=D.ex;exact ZNh q c M F r b .nil u p i h s
theorem MG{X:Cx}{e:Vb}{k:Nat}{C:ai}{m:Str}{q:jn}{g:Sp}{E:XK}{o:Expr}{h:TE}{d a:Pos}{p:Sem Bool}(i:PE X o h)(c:Vx X.K C)(D:ZB X.prog X.w X.K X.mg X.base e k C m q g)(j:ZU k X.A)(n:Qj e X E)(l:aF (.Call (.Attribute o m a) [] [] d) X.env=(do
   let ov<-aF o X.env
   standAt a.atName
   let (f,first)<-holding [ov] (getMethod ov m p)
   callWith d f first (aE d (aq [] X.env)) (backToKw d (keywordEach [] X.env))):=by rfl):
  PE X (.Call (.Attribute o m a) [] [] d) (M7 C m g [] E h Qr):=by
 let⟨f,fd,M,F,b⟩:=D.ex;exact ZLV i c M F j b .nil n l
abbrev Kx:Stmt:=Xv (top 29) 0
abbrev Jy:Stmt:=Xv (top 76) 0
abbrev Ij:Stmt:=Xv (top 76) 1
abbrev J0:Stmt:=Xv (top 76) 3
abbrev K1:Stmt:=Xv (top 76) 7
abbrev Im:Stmt:=Xv (top 76) 8
abbrev Il:Stmt:=Xv (top 76) 12
abbrev Jf:Stmt:=Xv (top 76) 13
abbrev KK:Stmt:=Xv (top 76) 18
structure YT(K:zZ)(mg:jb)(jN jO:ai):Prop where
 shelf:mg "Shelf" = some (.ref jN)
 twig:mg "Twig" = some (.ref jO)
 cS:Vx K jN
 cT:Vx K jO
 nk:Z9 K jN "kept"
 nf:Z9 K jN "following"
 nl:Z9 K jN "looks"
 nth:Z9 K jO "things"
 ntg:Z9 K jO "tag"
 nab:Z9 K jO "above"
 nho:Z9 K jO "holds"
abbrev OY(d a:ai)(n:Nat):List (Str×V):=[("kept",.ref d),("following",.int n),("looks",.ref a)]
abbrev WQ(d c:V)(a:ai)(b:Nat):List (Str×V):=[("things",d),("tag",c),("above",.ref a),("holds",.int b)]
structure Xd(jN:ai)(H:Hp)(S d lk:ai)(n:Nat)(kvs:List (Za×V))(ls:je):Prop where
 self:∃ dx,H S=some (.ins jN dx (OY d lk n))
 kept:H d=some (.dK kvs)
 looks:H lk=some (.lst ls)
structure Ww(jO:ai)(H:Hp)(x:ai)(th tg:V)(ab:ai)(ho:Nat)(us:je):Prop where
 self:∃ dx,H x=some (.ins jO dx (WQ th tg ab ho))
 above:H ab=some (.lst us)
theorem Xd.same{jN:ai}{H b:Hp}{S d c:ai}{n:Nat}{a:List (Za×V)}{g:je}(h:Xd jN H S d c n a g)(s:ZE H b):Xd jN b S d c n a g:=by
 let⟨⟨i,e⟩,j,k⟩:=h;exact⟨⟨i,s _ _ e⟩,s _ _ j,s _ _ k⟩
theorem Ww.same{jO:ai}{H a:Hp}{x:ai}{g d:V}{b:ai}{c:Nat}{i:je}(h:Ww jO H x g d b c i)(s:ZE H a):Ww jO a x g d b c i:=by
 let⟨⟨j,e⟩,k⟩:=h;exact⟨⟨j,s _ _ e⟩,s _ _ k⟩
inductive PV(jO:ai)(h:je)(H:Hp)(Q:VK)(_:XK):Prop
 |mk(x g:ai)(e d:V)(_:h=[.ref x,e,d])(_:H x=some (.ins jO g []))(_:∀(a:Hp)(c:ai),(∀ b o,b≠x->H b=some o->a b=some o)->H c=none->Ww jO a x e d c 1 []->Q .non a)
theorem ZQk:ZC zFa zFa (ZY Kx):=Zp
theorem ZOS(F:Zi K "__init__" "Twig.__init__" Kx f fd)(L:YT K mg jN jO):ZI P w K mg jQ ZM 1 f fd zFa (PV jO):=by
 refine F.ko ZQk λl A j s H u Q E q h=>?_;let⟨x,d,t,r,rfl,m,k⟩:=h;intro p;exists _,ZL (Uz (pv 0) (pv 1) Z) (ZL (Uz (pv 0) (pv 2) rfl) (ZL (Uz (pv 0) (Yr Zn) rfl) (ZR (Uz (pv 0) ZK rfl))));exists _,Z,_,Z,x,jO,d,_,Z,m,L.cT,L.nth,yX Z;exists _,Z,_,Z,x,jO,d,_,Z,ZZ,L.cT,L.ntg,yX Z;exists YS;intro i a;rw[Np] at a⊢;let c:x≠i:=λz=>by rw[<-z,ZZ] at a;cases a
 let g:H i=none:=by rw[ZS (Ne.symm c)] at a;exact a
 exists _,Z,x,jO,d,_,Z,(by rw[ZS c];exact ZZ),L.cT,L.nab,yX Z
 exists _,Z,x,jO,d,_,Z,ZZ,L.cT,L.nho,yX Z;refine k _ i (λb o n e=>?_) g ⟨⟨d,ZZ⟩,?_⟩
 ·rw[Np,ZS n,ZS (Zg e g),ZS n];exact e
 ·rw[Np,ZS (Ne.symm c)];exact ZZ
inductive Q6(jN:ai)(g:je)(H:Hp)(Q:VK)(_:XK):Prop
 |mk(x e:ai)(_:g=[.ref x])(_:H x=some (.ins jN e []))(_:∀(a:Hp)(d c:ai),(∀ b o,b≠x->H b=some o->a b=some o)->H d=none->H c=none->d≠c->Xd jN a x d c 0 [] []->Q .non a)
theorem ZP5:ZC zEq zEq (ZY Jy):=Zp
theorem ZOi(F:Zi K "__init__" "Shelf.__init__" Jy f fd)(L:YT K mg jN jO):ZI P w K mg jQ ZM 1 f fd zEq (Q6 jN):=by
 refine F.ko ZP5 λu A p s H B Q E y h=>?_;let⟨x,j,rfl,t,k⟩:=h;intro v;exists _,ZL (Uz (pv 0) ZLo Z) (ZL (Uz (pv 0) ZK rfl) (ZR (Uz (pv 0) (Yr Zn) rfl)));intro d m;let q:x≠d:=Zg t m;exists _,Z,x,jN,j,_,Z,(by rw[ZS q];exact t),L.cS,L.nk,yX Z
 exists _,Z,x,jN,j,_,Z,ZZ,L.cS,L.nf,yX Z;exists YS;intro g c;rw[Np] at c⊢;let r:x≠g:=λz=>by rw[<-z,ZZ] at c;cases c
 let a:upd H d (.dK []) g=none:=by rw[ZS (Ne.symm r)] at c;exact c
 let l:d≠g:=λz=>by rw[<-z,ZZ] at a;cases a
 let i:H g=none:=by rw[ZS (Ne.symm l)] at a;exact a
 exists _,Z,x,jN,j,_,Z,(by rw[ZS r];exact ZZ),L.cS,L.nl,yX Z
 refine k _ d g (λb o n e=>?_) m i l ⟨⟨j,ZZ⟩,?_,?_⟩
 ·rw[ZS n,ZS (Zg e i),ZS n,ZS (Zg e m)];exact e
 ·rw[ZS (Ne.symm q),ZS l,ZS (Ne.symm q)];exact ZZ
 ·rw[ZS (Ne.symm r)];exact ZZ
inductive Zk(jN:ai)(g:je)(H:Hp)(Q:VK)(_:XK):Prop
 |mk(S d c:ai)(n:Nat)(a:List (Za×V))(e:je)(i:Int)(b:V)(_:g=[.ref S,.int i])(_:Xd jN H S d c n a e)(_:Ym a (.inl i)=some b)(_:Q b H)
theorem ZLs:ZC zEa zEa (ZY KK):=Zp
theorem ZJG(F:Zi K "twig_of" "Shelf.twig_of" KK f fd)(L:YT K mg jN jO):ZI P w K mg jQ ZM 1 f fd zEa (Zk jN):=by
 refine F.ko ZLs λl A a s H x Q E o h=>?_;let⟨S,d,u,n,q,v,i,b,rfl,⟨⟨c,e⟩,m,t⟩,p,k⟩:=h;let j:=Lp o;intro r;exists _,ZL (Z1 (Pa (ZIU j (pv 1) (XT (pv 0) rfl))) Wq Z5) (ZR (Zh (HJ j (XT (pv 0) rfl) (pv 1))));let g:WE H d (.int i) (some b):=p ▸ WE.k (k:=Sum.inl i) m;refine⟨_,Z,_,Z,S,jN,c,_,.ref d,Z,e,L.cS,L.nk,Z,d,some b,Z,g,_,Z,Zm ?_⟩;exact⟨_,Z,S,jN,c,_,.ref d,Z,e,L.cS,L.nk,Z,_,Z,d,b,Z,g,k⟩
structure QW(P:ak)(w:ar)(K:zZ)(mg:jb)(jQ:aC)(k:Nat)(C:ai)(ps:jn)(sp:Sp):Prop where
 ex:∃ f fd,Mk K C f/\ZI P w K mg jQ ZM k f fd ps sp/\Zt K fd ps []
structure OB(jN jO:ai)(H:Hp)(S d lk:ai)(n:Nat)(kvs:List (Za×V))(ls:je)(i:Int)(x:ai)(th tg:V)(ab:ai)(ho:Nat)(us:je):Prop where
 sh:Xd jN H S d lk n kvs ls
 val:Ym kvs (.inl i)=some (.ref x)
 tw:Ww jO H x th tg ab ho us
inductive Xn(jN jO:ai)(res:V->Nat->je->V)(l:je)(H:Hp)(Q:VK)(_:XK):Prop
 |mk(S d h:ai)(n:Nat)(a:List (Za×V))(j:je)(i:Int)(x:ai)(k c:V)(g:ai)(b:Nat)(e:je)(_:l=[.ref S,.int i])(_:OB jN jO H S d h n a j i x k c g b e)(_:Q (res c b e) H)
theorem ZKG:ZC zEa zEa (ZY Im):=Zp
theorem ZHn(F:Zi K "outside" "Shelf.outside" Im f fd)(L:YT K mg jN jO)(e:ZB P w K mg jQ ZM 1 jN "twig_of" zEa (Zk jN)):ZI P w K mg jQ ZM 2 f fd zEa (Xn jN jO λ_ a _=>.int a):=by
 refine F.ko ZKG λg A c s H B Q E o h=>?_;let⟨S,d,q,n,b,r,i,x,y,v,u,a,z,rfl,R,k⟩:=h;intro t;exists _,ZR (Zh (XT (Z0 (E:=E0) (pv 0) L.cS e o Z3 (ZT (pv 1))) rfl));let⟨l,m⟩:=R.sh.self;let⟨j,p⟩:=R.tw.self;exact⟨_,Z,S,l,_,Z,m,Z,_,Z,S,d,q,n,b,r,i,.ref x,Z,R.sh,R.val,x,jO,j,_,.int a,Z,p,L.cT,L.nho,Z,k⟩
theorem Ck:ZC zEa zEa (ZY Jf):=Zp
theorem ZLd(F:Zi K "label" "Shelf.label" Jf f fd)(L:YT K mg jN jO)(e:ZB P w K mg jQ ZM 1 jN "twig_of" zEa (Zk jN)):ZI P w K mg jQ ZM 2 f fd zEa (Xn jN jO λc _ _=>c):=by
 refine F.ko Ck λg A b s H B Q E o h=>?_;let⟨S,d,q,n,a,r,i,x,y,c,u,v,z,rfl,R,k⟩:=h;intro t;exists _,ZR (Zh (XT (Z0 (E:=E0) (pv 0) L.cS e o Z3 (ZT (pv 1))) rfl));let⟨l,m⟩:=R.sh.self;let⟨j,p⟩:=R.tw.self;exact⟨_,Z,S,l,_,Z,m,Z,_,Z,S,d,q,n,a,r,i,.ref x,Z,R.sh,R.val,x,jO,j,_,c,Z,p,L.cT,L.ntg,Z,k⟩
theorem VD:ZC zFi zEa (ZY K1):=Zp
theorem ZHz(F:Zi K "holders" "Shelf.holders" K1 f fd)(T:YL mg)(L:YT K mg jN jO)(m:ZB P w K mg jQ ZM 1 jN "twig_of" zEa (Zk jN)):ZI P w K mg jQ ZM 2 f fd zEa (Xn jN jO λ_ a e=>.int ((e.length:Nat)+(a:Nat):Int)):=by
 refine F.ko VD λo A c s H C Q E r h=>?_;let⟨S,d,t,n,b,u,i,x,B,z,g,a,e,rfl,R,k⟩:=h;let v:=VD.nd;intro y;exists _,ZL (Zj 2 v (Z0 (E:=E0) (pv 0) L.cS m r Z3 (ZT (pv 1)))) (ZR (Zh (Zx VA (YC Xm rfl T.len Xa (ZT (XT (pv 2) rfl))) (XT (pv 2) rfl))));let⟨p,q⟩:=R.sh.self;let⟨j,l⟩:=R.tw.self;exists _,Z,S,p,_,Z,q,Z,_,Z,S,d,t,n,b,u,i,.ref x,Z,R.sh,R.val;exact⟨_,Z,x,jO,j,_,.ref g,Z,l,L.cT,L.nab,Z,g,e,Z,.inl (ZG.of R.tw.above),_,Z,x,jO,j,_,.int a,Z,l,L.cT,L.nho,Z,_,_,Z,Z,k⟩
inductive WC(jO:ai)(g:je)(H:Hp)(Q:VK)(_:XK):Prop
 |mk(x:ai)(d:V)(a b:ai)(c:Nat)(e:je)(h:Int)(i:je)(_:g=[.ref x])(_:Ww jO H x d (.ref a) b c e)(_:H a=some (.tup (.int h::i)))(_:Q (.bl (decide (h > 0))) H)
theorem BG:ZC zFn zFn (ZY Iq):=Zp
theorem ZNW(F:Zi K "is_stem" "is_stem" Iq f fd)(T:YL mg)(L:YT K mg jN jO):ZI P w K mg jQ ZM 1 f fd zFn (WC jO):=by
 refine F.ko BG λc A a s H u Q E p h=>?_;let⟨x,r,b,n,o,t,e,y,rfl,W,g,k⟩:=h;let⟨q,l⟩:=T.height;let⟨d,i⟩:=W.self;intro m;exists _,ZR (Zh (Vs Uo (Z8 K (XT (pv 0) rfl) (WL (v:=.int 0) rfl l ⟨_,rfl⟩)) ZK (YG _)));exact⟨_,Z,x,jO,d,_,.ref b,Z,i,L.cT,L.ntg,Z,.inr (.inl ⟨b,_,_,.int e,rfl,rfl,Zs.of g,XH (j:=0) rfl,_,_,rfl,rfl,k⟩)⟩
theorem ZP9{n:Nat}(h:n<=400000):n<sizeLine:=wR h (by decide)
inductive Um(jN jO:ai)(s:je)(H:Hp)(Q:VK)(_:XK):Prop
 |mk(S d c:ai)(n:Nat)(e:List (Za×V))(j:je)(i:Int)(x k m l:ai)(r:Nat)(q p u:je)(h:Int)(_:s=[.ref S,.int i])(_:OB jN jO H S d c n e j i x (.ref k) (.ref m) l r q)(_:H k=some (.lst p))(_:H m=some (.tup (.int h::u)))(_:c≠k)(_:c≠l)(_:j.length<=390000)(_:∀(a:Hp)(g t:ai),(∀ b o,b≠c->H b=some o->a b=some o)->a c=some (.lst (j++[.int i]))->H g=none->a g=some (.lst p)->a t=some (.tup [.str (if h > 0 then "stem" else "leaf"),.ref g])->Q (.ref t) a)
theorem PM:ZC zFi zEa (ZY Il):=Zp
theorem ZNN(F:Zi K "look" "Shelf.look" Il f fd)(T:YL mg)(L:YT K mg jN jO)(DT:ZB P w K mg jQ ZM 1 jN "twig_of" zEa (Zk jN))(DS:ZA P w K mg jQ 1 "is_stem" zFn (WC jO)):ZI P w K mg jQ ZM 2 f fd zEa (Um jN jO):=by
 refine F.ko PM λa4 A a1 s H vs Q E hr h=>?_;let⟨S,d,j,n,W,p,i,x,J,tg,ab,ho,as,M,xs,U,rfl,R,V,C,Y,X,a3,k⟩:=h;let nd:=PM.nd;intro Xc;refine⟨_,ZL (Zj 2 nd (Z0 (E:=E0) (pv 0) L.cS DT hr Z3 (ZT (pv 1))))
  (ZL (Ye (QS xW wO wN PY (XT (pv 0) rfl) (ZT (pv 1))))
  (ZL (Z1 (Y5 (Zc DS hr (ZT (pv 2)))) (ZR (Zh (VC (Zq Ue (Ug Ng rfl T.list OL (ZT (XT (pv 2) rfl))))))) Z5)
  (ZR (Zh (VC (Zq Ue (Ug Ng rfl T.list OL (ZT (XT (pv 2) rfl))))))))),?_⟩
 let⟨dx,hS⟩:=R.sh.self;let⟨O,hx⟩:=R.tw.self;exists _,Z,S,dx,_,Z,hS,Z,_,Z,S,d,j,n,W,p,i,.ref x,Z,R.sh,R.val;let l:=R.sh.looks;exists _,Z,S,jN,dx,_,.ref j,Z,hS,L.cS,L.nl,Z,.inl ⟨Z,_,ZG.of l⟩,_,Z,j,p,.int i,Z,Z,l,ZP9 ∅
 let G:∀ b o,b≠j->H b=some o->upd H j (.lst (p++[.int i])) b=some o:=λb o n e=>by rw[ZS n];exact e
 let a2:x≠j:=ZW hx l;let I:tg≠j:=ZW C l;let q:=G _ _ a2 hx;let D:=G _ _ I C;let u:=G _ _ (Ne.symm X) R.tw.above;let m:=G _ _ (Ne.symm Y) V;let v:upd H j (.lst (p++[.int i])) j=some (.lst (p++[.int i])):=ZZ;let r:∀(w:Str)(c t:ai),upd H j (.lst (p++[.int i])) c=none->upd (upd H j (.lst (p++[.int i]))) c (.lst M) t=none->w=(if U > 0 then ("stem" : Str) else "leaf")->Q (.ref t) (upd (upd (upd H j (.lst (p++[.int i]))) c (.lst M)) t (.tup [.str w,.ref c])):=λw c t a B ew=>by
  let g1:=Zv a (.lst M);let g2:=Zv B (.tup [.str w,.ref c]);let g:=g1.trans g2;let a0:H c=none:=by
   cases z:H c with
   | none=>rfl
   | some o=>
    have:c≠j:=λy=>by rw[y,ZZ] at a;cases a
    rw[ZS this,z] at a;cases a
  refine k _ c t (λb o n e=>g _ _ (G b o n e)) (g _ _ v) a0 (g2 _ _ ZZ) ?_;rw[ZZ,ew]
 exists _,Z,x,.ref J,tg,ab,ho,as,U,xs,Z,⟨⟨O,q⟩,u⟩,D,_,Z;by_cases N:U > 0
 ·rw[aI N];refine Z7 ⟨_,Z,x,jO,O,_,.ref J,Z,q,L.cT,L.nth,Z,J,M,Z,.inl (ZG.of m),λc a=>⟨YS,λt B=>?_⟩⟩;exact r _ c t a B (by rw[aK N])
 ·rw[aH N];refine Zm ⟨_,Z,x,jO,O,_,.ref J,Z,q,L.cT,L.nth,Z,J,M,Z,.inl (ZG.of m),λc a=>⟨YS,λt B=>?_⟩⟩;exact r _ c t a B (by rw[aJ N])
theorem GZ{H:Hp}{L:YY}{u:V}(h:ZD H L.kt u):YJ H L u:=by
 unfold YY.kt at h;rw[ZD] at h;let⟨a,r,rfl,e,b⟩:=h;rw[jI] at b;let⟨p,l,rfl,c,b⟩:=b;rw[jI] at b;let⟨j,m,rfl,g,b⟩:=b;rw[jI] at b;let⟨k,n,rfl,i,b⟩:=b;rw[jI] at b;let⟨q,o,rfl,d,b⟩:=b;rw[jI] at b;subst b;rw[ZD] at c d;subst c d;exact⟨a,j,k,Z,e,g,i⟩
structure YQ where
 x:ai
 th:ai
 tg:ai
 ab:ai
abbrev jr:=List YQ
def YQ.d:YQ:=⟨0,0,0,0⟩
structure OS(jO:ai)(H:Hp)(ts:jk)(av:Nat->jj)(ho:Nat->Nat)(i:Nat)(a:YQ):Prop where
 tw:Ww jO H a.x (.ref a.th) (.ref a.tg) a.ab (ho i) (iN (av i))
 things:∃ us,H a.th=some (.lst us)/\((gd ts i).h=0->jI H (YI (gd ts i).rows) us)/\((gd ts i).h≠0->us=iN (gd ts i).bs)
 tag:YJ H (Zr (gd ts i)) (.ref a.tg)
theorem OS.same{jO:ai}{H b:Hp}{e:jk}{c:Nat->jj}{d:Nat->Nat}{i:Nat}{a:YQ}(h:OS jO H e c d i a)(s:ZE H b):OS jO b e c d i a:=by
 let⟨l,g,j,k⟩:=h.things;exact⟨h.tw.same s,⟨l,s _ _ g,λz=>(j z).sm s,k⟩,h.tag.mono (ZE.tups s)⟩
structure Zl(jN jO:ai)(H:Hp)(S d lk:ai)(lv:jj)(ts:jk)(av:Nat->jj)(ho:Nat->Nat)(as:jr)(kvs:List (Za×V))(ls:je):Prop where
 sh:Xd jN H S d lk ts.length kvs ls
 lt:∀ i∈lv,i<ts.length
 keys:kvs.map (·.1)=lv.map (λi:Nat=>(Sum.inl (i:Int):Za))
 val:∀ i:Nat,i∈lv->Ym kvs (Sum.inl (i:Int))=some (.ref (as.getD i .d).x)
 len:as.length=ts.length
 tw:∀ i:Nat,i∈lv->OS jO H ts av ho i (as.getD i .d)
 own:∀ i:Nat,i∈lv->(as.getD i .d).x≠S/\(as.getD i .d).ab≠lk/\(as.getD i .d).th≠lk/\(as.getD i .d).ab≠(as.getD i .d).th
 two:∀ i j:Nat,i∈lv->j∈lv->i≠j->(as.getD i .d).x≠(as.getD j .d).x/\(as.getD i .d).ab≠(as.getD j .d).ab/\(as.getD i .d).ab≠(as.getD j .d).th/\(as.getD i .d).th≠(as.getD j .d).th
theorem Zl.same{jN jO:ai}{H b:Hp}{S d j:ai}{l:jj}{m:jk}{e:Nat->jj}{g:Nat->Nat}{c:jr}{a:List (Za×V)}{k:je}(h:Zl jN jO H S d j l m e g c a k)(s:ZE H b):Zl jN jO b S d j l m e g c a k:=
 ⟨h.sh.same s,h.lt,h.keys,h.val,h.len,λi n=>(h.tw i n).same s,h.own,h.two⟩
theorem OS.frame{jO:ai}{H b:Hp}{e:jk}{c:Nat->jj}{d:Nat->Nat}{i:Nat}{a:YQ}(h:OS jO H e c d i a)(m:Z6 H b)(r:∀ o,H a.x=some o->b a.x=some o)(q:∀ o,H a.th=some o->b a.th=some o)(p:∀ o,H a.ab=some o->b a.ab=some o):OS jO b e c d i a:=by
 let⟨s,j,k,l⟩:=h.things;let⟨g,n⟩:=h.tw.self;exact⟨⟨⟨g,r _ n⟩,p _ h.tw.above⟩,⟨s,q _ j,λz=>(k z).mono m _ _,l⟩,h.tag.mono m⟩
theorem Zl.none{jN jO:ai}{H:Hp}{S d n:ai}{c:jj}{p:jk}{g:Nat->jj}{m:Nat->Nat}{e:jr}{a:List (Za×V)}{o:je}(h:Zl jN jO H S d n c p g m e a o){x:Int}(b:inT c x=false):Ym a (Sum.inl x)=vS:=by
 cases z:Ym a (Sum.inl x) with
 | none=>rfl
 | some v=>
  have:=En z;rw[h.keys] at this;let⟨i,l,k⟩:=zP.mp this;let j:=Sum.inl.inj k;unfold inT at b;exact absurd ⟨∅,by rw[<-j];exact l⟩ (of_decide_eq_false b)
def Mh(a:Nat->jj)(b c:Nat):Nat->jj:=λi=>if i=b then a i++[c] else a i
def Ve(a:Nat->Nat)(b:Nat):Nat->Nat:=λi=>if i=b then a i-1 else a i
theorem Zl.touch{jN jO:ai}{H n:Hp}{S d I:ai}{C:jj}{L:jk}{j:Nat->jj}{l:Nat->Nat}{g:jr}{r:List (Za×V)}{J:je}(R:Zl jN jO H S d I C L j l g r J){b s:Nat}(p:b∈C)(Y:∃ N,n (g.getD b .d).x=some (.ins jO N (WQ (.ref (g.getD b .d).th) (.ref (g.getD b .d).tg) (g.getD b .d).ab (l b-1))))(X:n (g.getD b .d).ab=some (.lst (iN (j b++[s]))))(k:∀ c o,c≠(g.getD b .d).x->c≠(g.getD b .d).ab->H c=some o->n c=some o):Zl jN jO n S d I C L (Mh j b s) (Ve l b) g r J:=by
 let⟨⟨M,E⟩,B,F⟩:=R.sh;let t:=R.tw b p;let⟨O,a⟩:=t.tw.self;let h:=t.tw.above;let⟨us,D,T,U⟩:=t.things;let m:Z6 H n:=λc xs e=>k c _ (ZW e a) (ZW e h) e;refine⟨⟨⟨M,k _ _ (R.own b p).1.symm (ZW E h) E⟩,k _ _ (ZW B a) (ZW B h) B,k _ _ (ZW F a) (R.own b p).2.1.symm F⟩,R.lt,R.keys,R.val,R.len,λi v=>?_,R.own,R.two⟩;by_cases z:i=b
 ·subst z;let y:Mh j i s i=j i++[s]:=aK Z;let A:Ve l i i=l i-1:=aK Z;refine⟨⟨?_,?_⟩,⟨us,k _ _ (ZW D a) (R.own i v).2.2.2.symm D,λz=>(T z).mono m _ _,U⟩,t.tag.mono m⟩
  ·rw[A];exact Y
  ·rw[y];exact X
 ·let y:Mh j b s i=j i:=aJ z;let A:Ve l b i=l i:=aJ z;let u:=R.tw i v;let⟨t1,t2,t3,t4⟩:=R.two i b v p z;let⟨s1,s2,s3,s4⟩:=R.two b i p v (Ne.symm z);let⟨Q,q⟩:=u.tw.self;let⟨vs,W,_⟩:=u.things;let G:=u.frame m (λo e=>k _ _ t1 (by have:=q.symm.trans e;exact ZW q h) e) (λo e=>k _ _ (ZW W a) s3.symm e) (λo e=>k _ _ (ZW u.tw.above a) t2 e)
  refine⟨?_,G.things,G.tag⟩;rw[y,A];exact G.tw
def Wn(b:jj)(c:Nat)(a:Nat->jj):Nat->jj:=λi=>if i∈b then a i++[c] else a i
def Wr(b:jj)(a:Nat->Nat):Nat->Nat:=λi=>if i∈b then a i-1 else a i
theorem ZLu{a:jj}{b c:Nat}{d:Nat->jj}(h:b∉a):Mh (Wn a c d) b c=Wn (a++[b]) c d:=by
 funext i
 unfold Mh Wn;by_cases z:i=b
 ·subst z;rw[aK rfl,aJ h,aK (by simp)]
 ·rw[aJ z];by_cases y:i∈a
  ·rw[aK y,aK (by simp[y])]
  ·rw[aJ y,aJ (by simp[y,z])]
theorem ZLD{a:jj}{b:Nat}{c:Nat->Nat}(h:b∉a):Ve (Wr a c) b=Wr (a++[b]) c:=by
 funext i
 unfold Ve Wr;by_cases z:i=b
 ·subst z;rw[aK rfl,aJ h,aK (by simp)]
 ·rw[aJ z];by_cases y:i∈a
  ·rw[aK y,aK (by simp[y])]
  ·rw[aJ y,aJ (by simp[y,z])]
abbrev Ie:Stmt:=Xv (top 76) 21
inductive Yz(jN jO:ai)(r:je)(H:Hp)(Q:VK)(_:XK):Prop
 |mk(S d m l:ai)(h:jj)(q:jk)(j:Nat->jj)(k:Nat->Nat)(a:jr)(g:List (Za×V))(n:je)(e:jj)(p:Nat)(_:r=[.ref S,.int p,.ref l])(_:Zl jN jO H S d m h q j k a g n)(_:H l=some (.lst (iN e)))(_:e.Nodup)(_:∀ b∈e,b∈h/\1<=k b/\(j b).length<=900)(_:∀ b:Nat,b∈h->l≠(a.getD b .d).ab)(_:∀ i:Hp,(∀ c o,(∀ b:Nat,b∈h->c≠(a.getD b .d).x/\c≠(a.getD b .d).ab)->H c=some o->i c=some o)->(∀ c,i c=none->H c=none)->Zl jN jO i S d m h q (Wn e p j) (Wr e k) a g n->Q .non i)
abbrev Gn:jn:=["self","stem","branches","branch","twig"]
theorem WZ:ZC Gn zEm (ZY Ie):=Zp
theorem Cl(F:Zi K "take_over" "Shelf.take_over" Ie f fd)(L:YT K mg jN jO)(DT:ZB P w K mg jQ ZM 1 jN "twig_of" zEa (Zk jN)):ZI P w K mg jQ ZM 2 f fd zEm (Yz jN jO):=by
 refine F.ko WZ λa2 A a1 s H vs Q E hr h=>?_;let⟨S,d,lk,l,lv,ts,B,j,g,U,ls,p,X,rfl,R,hl,O,hb,a0,k⟩:=h;let nd:=WZ.nd;intro Xc;refine⟨_,ZR (Vk PassesOwn.never rfl (WD (pv 2)) (Vo 3 nd)
  (ZL (Zj 4 nd (Z0 (E:=E0) (pv 0) L.cS DT hr Z3 (ZT (pv 3))))
  (ZL (Lh (pv 4) ZK KU)
  (ZR (Ye (QS xW wO wN PY (XT (pv 4) rfl) (ZT (pv 1)))))))),?_⟩
 refine⟨_,Z,l,Z,⟨_,ZG.of hl⟩,Qm (K:=K) (a:=l) (xs:=iN p) (λi σ m=>∃ x y:jf,σ=[some (.ref S),some (.int X),some (.ref l),x,y]/\(∀ c o,(∀ b:Nat,b∈lv->c≠(g.getD b .d).x/\c≠(g.getD b .d).ab)->H c=some o->m c=some o)/\(∀ c,m c=none->H c=none)/\Zl jN jO m S d lk lv ts (Wn (p.take i) X B) (Wr (p.take i) j) g U ls)
  ⟨_,_,Z,λc o _ e=>e,λc e=>e,(by
   let e1:Wn [] X B=B:=funext λi=>aJ (by simp)
   let e2:Wr [] j=j:=funext λi=>aJ (by simp)
   rw[show p.take 0=[] from rfl,e1,e2];exact R)⟩ ?_ ?_ ?_⟩
 ·rintro i σ m _ ⟨x,y,rfl,T,_,R2⟩;refine ZG.of (T _ _ (λb hb=>⟨?_,a0 b hb⟩) hl);let⟨dx,J⟩:=(R.tw b hb).tw.self;exact ZW hl J
 ·rintro i u σ m D ⟨x,y,rfl,T,k3,R2⟩;unfold iN at D;rw[zG] at D;let⟨b,eb,rfl⟩:=yC.mp D;let⟨t,a3,a4⟩:=hb b (zL eb);let v:b∉p.take i:=λz=>by
   let hs:p=p.take i++b::p.drop (i+1):=by
    let hi:=(zB.mp eb);let⟨hi,e⟩:=hi;rw[<-e,<-wZ hi,xA]
   rw[hs,xR] at O;exact O.2.2 b z b (by simp) Z
  let N:Wr (p.take i) j b=j b:=aJ v;let M:Wn (p.take i) X B b=B b:=aJ v;let⟨dS,hS⟩:=R2.sh.self;let Wb:=R2.tw b t;let⟨r,J⟩:=Wb.tw.self;let C:=Wb.tw.above;rw[N] at J;rw[M] at C;exists _,Z,S,dS,_,Z,hS,Z,_,Z,S,d,lk,ts.length,U,ls,(b:Int),.ref (g.getD b .d).x,Z,R2.sh,R2.val b t;exists _,Z,(g.getD b .d).x,jO,r,_,.int (j b:Nat),Z,J,L.cT,L.nho,Z,_,_,Z,Z,r,_,J,yX Z;let eh:((j b:Nat):Int)-1=((j b-1:Nat):Int):=∅
  let G:upd m (g.getD b .d).x (.ins jO r (Yn "holds" (.int (((j b:Nat):Int)-1)) (WQ (.ref (g.getD b .d).th) (.ref (g.getD b .d).tg) (g.getD b .d).ab (j b)))) (g.getD b .d).x=some (.ins jO r (WQ (.ref (g.getD b .d).th) (.ref (g.getD b .d).tg) (g.getD b .d).ab (j b-1))):=by rw[ZZ,eh];rfl
  let Y:(g.getD b .d).ab≠(g.getD b .d).x:=ZW C J;let q:upd m (g.getD b .d).x (.ins jO r (Yn "holds" (.int (((j b:Nat):Int)-1)) (WQ (.ref (g.getD b .d).th) (.ref (g.getD b .d).tg) (g.getD b .d).ab (j b)))) (g.getD b .d).ab=some (.lst (iN (B b))):=by rw[ZS Y];exact C
  let I:∀ c o,c≠(g.getD b .d).x->m c=some o->upd m (g.getD b .d).x (.ins jO r (Yn "holds" (.int (((j b:Nat):Int)-1)) (WQ (.ref (g.getD b .d).th) (.ref (g.getD b .d).tg) (g.getD b .d).ab (j b)))) c=some o:=λc o n e=>by rw[ZS n];exact e
  let W:∀ c,upd m (g.getD b .d).x (.ins jO r (Yn "holds" (.int (((j b:Nat):Int)-1)) (WQ (.ref (g.getD b .d).th) (.ref (g.getD b .d).tg) (g.getD b .d).ab (j b)))) c=none->m c=none:=λc e=>by
   by_cases z:c=(g.getD b .d).x
   ·rw[z,ZZ] at e;cases e
   ·rw[ZS z] at e;exact e
  generalize upd m (g.getD b .d).x (.ins jO r (Yn "holds" (.int (((j b:Nat):Int)-1)) (WQ (.ref (g.getD b .d).th) (.ref (g.getD b .d).tg) (g.getD b .d).ab (j b))))=H3 at G q I W⊢;exists _,Z,(g.getD b .d).x,jO,r,_,.ref (g.getD b .d).ab,Z,G,L.cT,L.nab,Z,.inl ⟨Z,_,ZG.of q⟩,_,Z,(g.getD b .d).ab,_,.int X,Z,Z,q,XX (by rw[show (iN (B b)).length=(B b).length from zX _];lia)
  let et:p.take (i+1)=p.take i++[b]:=by rw[yR,eb];rfl
  exists _,_,Z,λc o hc e=>?_,λc e=>?_
  ·let⟨n1,n2⟩:=hc b t;rw[ZS n2];exact I _ _ n1 (T c o hc e)
  ·by_cases z:c=(g.getD b .d).ab
   ·rw[z,ZZ] at e;cases e
   ·rw[ZS z] at e;exact k3 c (W c e)
  ·rw[et,<-ZLu v,<-ZLD v];refine R2.touch t ⟨r,?_⟩ ?_ λc o n1 n2 e=>?_
   ·rw[ZS (Ne.symm Y),N];exact G
   ·rw[ZZ,M];simp[iN]
   ·rw[ZS n2];exact I _ _ n1 e
 ·rintro σ m ⟨x,y,rfl,T,k3,R2⟩;rw[show (iN p).length=p.length from zX _,yV (zY _)] at R2;exact k m T k3 R2
theorem ZQU{X:Cx}{k:Nat}{C:ai}{x:Str}{o:jn}{h:Sp}{e:Expr}{a:jw}{t:TA}{p c:Pos}(D:QW X.prog X.w X.K X.mg X.base k C o h)(n:ZU (k+1) X.A)(l:Gl X x)(m:X.mg x=some (.ref C))(i:PA X (e::a) t)(d:(x==("__debug__" : Str))=false:=by decide)(j:aq (e::a) X.env=(false,aF e X.env)::aq a X.env:=by rfl)(g:(aE c (aq a X.env)).any (·.1)=false:=by rfl):
  PE X (.Call (.Name x p) (e::a) [] c) (MF C h [] E0 t):=by
 let⟨f,fd,M,F,b⟩:=D.ex;exact CD M F n l m b .nil Z3 i d j g
theorem BZ{X:Cx}{k:Nat}{C:ai}{x:Str}{i:jn}{d:Sp}{p c:Pos}(D:QW X.prog X.w X.K X.mg X.base k C i d)(h:ZU (k+1) X.A)(e:Gl X x)(g:X.mg x=some (.ref C))(a:(x==("__debug__" : Str))=false:=by decide):PE X (.Call (.Name x p) [] [] c) (MF C d [] E0 Qr):=by
 let⟨f,fd,M,F,b⟩:=D.ex;exact AN M F h e g b .nil Z3 a
def UQ(n:Nat)(a:Nat->jj):Nat->jj:=λi=>if i=n then [] else a i
def UO(n:Nat)(a:Nat->Nat):Nat->Nat:=λi=>if i=n then 1 else a i
theorem Pq{a:jk}{t:ZP}{i:Nat}(h:i<a.length):gd (a++[t]) i=gd a i:=by
 unfold gd;rw[zV,vN h,<-zV]
theorem Ps{a:jk}{t:ZP}:gd (a++[t]) a.length=t:=by
 unfold gd;rw[zV,wP (zY _)];simp
theorem IL{b:jr}{a:YQ}{i:Nat}(h:i<b.length):(b++[a]).getD i .d=b.getD i .d:=by
 rw[zV,vN h,<-zV]
theorem IG{b:jr}{a:YQ}:(b++[a]).getD b.length .d=a:=by
 rw[zV,wP (zY _)];simp
theorem Ek{jN jO:ai}{H H':Hp}{S d N:ai}{D:jj}{g:jk}{B:Nat->jj}{M:Nat->Nat}{n:jr}{q:List (Za×V)}{ls:je}(R:Zl jN jO H S d N D g B M n q ls){t:ZP}{x th tg ab:ai}(Q:∀ b o,b≠S->b≠d->H b=some o->H' b=some o)(nx:H x=none)(s:H th=none)(r:H ab=none)(I:ab≠th)(R':Xd jN H' S d N (g.length+1) (XU q (.inl (g.length:Int)) (.ref x)) ls)(W:Ww jO H' x (.ref th) (.ref tg) ab 1 [])(Y:∃ l,H' th=some (.lst l)/\(t.h=0->jI H' (YI t.rows) l)/\(t.h≠0->l=iN t.bs))(X:YJ H' (Zr t) (.ref tg)):
  Zl jN jO H' S d N (D++[g.length]) (g++[t]) (UQ g.length B) (UO g.length M) (n++[⟨x,th,tg,ab⟩]) (XU q (.inl (g.length:Int)) (.ref x)) ls:=by
 let⟨⟨dS,T⟩,U,hl⟩:=R.sh;let m:Z6 H H':=λc xs e=>Q c _ (ZW e T) (ZW e U) e;let en:(g++[t]).length=g.length+1:=by simp
 let nv:Ym q (Sum.inl (g.length:Int))=none:=R.none (by unfold inT;exact aH (λz=>by have:=R.lt _ z.2;lia))
 let a:∀ i,i∈D++[g.length]->i∈D\/i=g.length:=λi k=>(zD.mp k).imp_right zK.mp;let el:n.length=g.length:=R.len;let A:∀ i,i∈D->(n++[(⟨x,th,tg,ab⟩:YQ)]).getD i .d=n.getD i .d:=λi k=>IL (by have:=R.lt i k;lia)
 let E:(n++[(⟨x,th,tg,ab⟩:YQ)]).getD g.length .d=⟨x,th,tg,ab⟩:=by rw[<-el];exact IG
 let y:∀ i,i∈D->∃ C l o,H (n.getD i .d).x=some (.ins jO C l)/\H (n.getD i .d).th=some (.lst o)/\H (n.getD i .d).ab=some (.lst (iN (B i))):=λi k=>by
  let⟨C,u⟩:=(R.tw i k).tw.self;let⟨l,p,_⟩:=(R.tw i k).things;exact⟨C,_,l,u,p,(R.tw i k).tw.above⟩
 let nS:x≠S:=(Zg T nx).symm;let F:ab≠N:=(Zg hl r).symm;let O:th≠N:=(Zg hl s).symm;refine⟨by rw[en];exact R',λi k=>by rw[en];exact(a i k).elim (λc=>by have:=R.lt i c;lia) (λc=>by lia),?_,λi k=>?_,by simp[el],λi k=>?_,λi k=>?_,λi j k hj L=>?_⟩
 ·rw[Eb _ nv,zF,R.keys,zF];rfl
 ·rw[GF];rcases a i k with c | rfl
  ·rw[aJ (λz=>by have:=Sum.inl.inj z;have:=R.lt i c;lia),A i c]
   exact R.val i c
  ·rw[aK rfl,E]
 ·rcases a i k with c | rfl
  ·let Wi:=R.tw i c;let⟨C,l,o,u,p,v⟩:=y i c;let il:=R.lt i c;let ni:i≠g.length:=∅
   let G:=Wi.frame m (λo' e=>Q _ _ (R.own i c).1 (ZW u U) e) (λo' e=>Q _ _ (ZW p T) (ZW p U) e) (λo' e=>Q _ _ (ZW v T) (ZW v U) e);rw[A i c];exists ?_,?_
   ·rw[show UQ g.length B i=B i from aJ ni,show UO g.length M i=M i from aJ ni];exact G.tw
   ·rw[Pq il];exact G.things
   ·rw[Pq il];exact G.tag
  ·rw[E];exists ?_,?_
   ·rw[show UQ g.length B g.length=[] from aK rfl,show UO g.length M g.length=1 from aK rfl];exact W
   ·rw[Ps];exact Y
   ·rw[Ps];exact X
 ·rcases a i k with c | rfl
  ·rw[A i c];exact R.own i c
  ·rw[E];exact⟨nS,F,O,I⟩
 ·rcases a i k with c | rfl
  ·rw[A i c];rcases a j hj with J | rfl
   ·rw[A j J];exact R.two i j c J L
   ·rw[E];let⟨C,l,o,u,p,v⟩:=y i c;exact⟨Zg u nx,Zg v r,Zg v s,Zg p s⟩
  ·rw[E];rcases a j hj with J | rfl
   ·rw[A j J];let⟨C,l,o,u,p,v⟩:=y j J;exact⟨(Zg u nx).symm,(Zg v r).symm,(Zg p r).symm,(Zg p s).symm⟩
   ·exact absurd Z L
inductive XQ(jN jO:ai)(k:je)(H:Hp)(Q:VK)(_:XK):Prop
 |mk(S d g:ai)(n:Nat)(a:List (Za×V))(h:je)(j i:V)(_:k=[.ref S,j,i])(_:Xd jN H S d g n a h)(_:a.length<=900)(_:∀(c:Hp)(x e:ai),H x=none->H e=none->(∀ b o,b≠S->b≠d->H b=some o->c b=some o)->Xd jN c S d g (n+1) (XU a (.inl (n:Int)) (.ref x)) h->Ww jO c x j i e 1 []->Q (.int (n:Int)) c)
theorem VJ:ZC ["self","things","label","number"] zE5 (ZY J0):=Zp
theorem Aw(F:Zi K "put_twig" "Shelf.put_twig" J0 f fd)(L:YT K mg jN jO)(DM:QW P w K mg jQ 1 jO zFa (PV jO)):ZI P w K mg jQ ZM 3 f fd zE5 (XQ jN jO):=by
 refine F.ko VJ λa1 A Y s H vs Q E hr h=>?_;let⟨S,d,c,n,T,ls,th,tg,rfl,R,a0,k⟩:=h;let nd:=VJ.nd;let hu:=Lp hr;intro Xc;refine⟨_,ZL (Zj 3 nd (XT (pv 0) rfl)) (ZL (Uz (pv 0) (Zx VA (pv 3) ZK) rfl)
  (ZL (Dc hu (XT (pv 0) rfl) (pv 3) (ZQU DM hr rfl L.twig (Zq (pv 1) (pv 2))) rfl) (ZR (Zh (pv 3))))),?_⟩
 let⟨⟨a,y⟩,J,M⟩:=R;let Sd:S≠d:=ZW y J;let Sl:S≠c:=ZW y M;let dl:d≠c:=ZW J M;exists _,Z,S,jN,a,_,.int n,Z,y,L.cS,L.nf,Z;exists _,Z,_,_,Z,Z,_,Z,S,jN,a,_,Z,y,L.cS,L.nf,yX Z;let l:upd H S (.ins jN a (Yn "following" (.int ((n:Int)+1)) (OY d c n))) S=some (.ins jN a (OY d c (n+1))):=ZZ;let q:upd H S (.ins jN a (Yn "following" (.int ((n:Int)+1)) (OY d c n))) d=some (.dK T):=by rw[ZS (Ne.symm Sd)];exact J
 let r:upd H S (.ins jN a (Yn "following" (.int ((n:Int)+1)) (OY d c n))) c=some (.lst ls):=by rw[ZS (Ne.symm Sl)];exact M
 let u:∀ b o,b≠S->H b=some o->upd H S (.ins jN a (Yn "following" (.int ((n:Int)+1)) (OY d c n))) b=some o:=λb o n e=>by rw[ZS n];exact e
 let j:∀ b,upd H S (.ins jN a (Yn "following" (.int ((n:Int)+1)) (OY d c n))) b=none->H b=none:=λb e=>by
  by_cases z:b=S
  ·rw[z,ZZ] at e;cases e
  ·rw[ZS z] at e;exact e
 generalize upd H S (.ins jN a (Yn "following" (.int ((n:Int)+1)) (OY d c n)))=B at l q r u j⊢;exists _,Z,_,Z;intro x G nx V ne;let g1:=Zv V (.own x);let X:upd B G (.own x) x=none:=by rw[ZS (Ne.symm ne)];exact nx
 let g2:=Zv X (.ins jO G []);let g:=g1.trans g2;refine⟨x,G,th,tg,Z,ZZ,λH2 C O U W=>⟨Z,?_⟩⟩;let v:∀ b o,B b=some o->H2 b=some o:=λb o e=>O b o (Zg e nx) (g b o e);let m:=v _ _ l;let i:=v _ _ q;let N:=v _ _ r;let p:B C=none:=g.free U;let⟨I,t⟩:=W.self;let xd:x≠d:=ZW t i;let D:C≠d:=ZW W.above i;exists _,Z,S,jN,a,_,.ref d,Z,m,L.cS,L.nk,Z,_,Z,d,_,Z,Qg.k (k:=Sum.inl (n:Int)) i (XX ∅)
 refine⟨_,Z,k _ x C (j _ nx) (j _ p) (λb o n1 n2 e=>?_) ⟨⟨a,?_⟩,ZZ,?_⟩ ⟨⟨I,?_⟩,?_⟩⟩
 ·rw[ZS n2];exact v b o (u b o n1 e)
 ·rw[ZS Sd];exact m
 ·rw[ZS (Ne.symm dl)];exact N
 ·rw[ZS xd];exact t
 ·rw[ZS D];exact W.above
theorem Fu{H:Hp}{b:jm}{c:je}(h:jI H (YI b) c):Dz H (b.map (·.1)) c:=by
 let k:c.length=b.length:=by have:=h.length;rw[<-this];exact zX _
 exists by rw[zX];exact k
 intro i u e;let⟨a,m,n,j,d,g,l,_⟩:=P6 h e;exists a,m,n,d,g;rw[zV,zG,j];exact l
inductive Vv(b:je)(H:Hp)(Q:VK)(_:XK):Prop
 |mk(v:V)(t:KT)(_:b=[v])(_:ZD H t v)(_:t.fits 3=true)(_:∀ a,ZE H a->Q v a)
theorem Gh:ZC zEu zEu (ZY M8):=Zp
theorem ZH8(F:Zi K "checked" "checked" M8 f fd)(c:ZA P w K mg jQ 6 "is_key" zEu QH):ZI P w K mg jQ ZM 7 f fd zEu Vv:=by
 refine F.ko Gh λe A a s H m Q E g h=>?_;let⟨v,t,rfl,i,b,k⟩:=h;intro l;exists _,ZL (Z1 (Vl (Y5 (Zc c g (ZT (pv 0))))) Wq Z5) (ZR (Zh (pv 0)));refine⟨_,Z,v,t,3,Z,i,b,λd j=>⟨_,Z,?_⟩⟩;rw[b];exact Zm ⟨_,Z,k d j⟩
inductive WA(g:je)(H:Hp)(Q:VK)(_:XK):Prop
 |mk(l:ai)(e:je)(d:jm)(_:g=[.ref l])(_:H l=some (.lst e))(_:jI H (YI d) e)(_:∀ r∈d,r.fit)(_:e.length<=100)(_:∀(b:Hp)(c:ai)(a:je),ZE H b->H c=none->b c=some (.lst a)->jI b (YI d) a->Q (.ref c) b)
theorem ZI4:ZC zE3 zE3 (ZY Jo):=Zp
theorem ZHf(F:Zi K "own_rows" "own_rows" Jo f fd)(M:ZA P w K mg jQ 7 "checked" zEu Vv):ZI P w K mg jQ ZM 8 f fd zE3 WA:=by
 refine F.ko ZI4 λa0 A J s H vs Q E W h=>?_;let⟨l,r,rs,rfl,y,V,hf,T,k⟩:=h;let lk:r.length=rs.length:=by have:=V.length;rw[<-this];exact zX _
 intro Xc;refine⟨_,ZR (Zh (Vn [] [] rfl (WD (pv 0)) (λ_ _ _ _ _=>U0)
   (λ_ _ _ _ _=>VC (Zq (Zc M W (ZT (Z8 K (pv 0) ZK))) (Zc M W (ZT (Z8 K (pv 0) ZK))))) trivial)),?_⟩
 exists _,Z,l,Z,⟨r,ZG.of y⟩;refine Ud (n:=r.length) (λi z=>r[i]? = some z) (λD i t m=>ZE H m/\H D=none/\jI m (YI (rs.take i)) t) (XX ∅)
  (λD i t m I d=>⟨r,r[i],ZG.of (d.1 _ _ y),by simp[I]⟩) (λD i t m z H4 I d X=>⟨X.1,X.2 r (ZG.of (d.1 _ _ y))⟩) (λD t m d=>⟨r,ZG.of (d.1 _ _ y),zY _⟩)
  (λD U=>⟨Zv U _,U,.nil⟩) (λD i t m z G a1 I hz d R hR=>?_) (λD t m G d=>?_)
 ·let⟨p,B,j⟩:=d;let⟨a,v,x,S,rfl,e2,Y,k2⟩:=P6 V hz;let O:=p _ _ e2;let o:=hf _ (zL S);refine⟨_,Z,.inr (.inl ⟨a,_,_,v,rfl,rfl,Zs.of O,rfl,v,_,rfl,Y.sm p,o.1,λH4 L=>?_⟩)⟩;refine⟨_,Z,.inr (.inl ⟨a,_,_,x,rfl,rfl,Zs.of (L _ _ O),rfl,x,_,rfl,k2.sm (p.trans L),o.2,λN s5=>?_⟩)⟩;exists YS;intro q hq;let g:=Zv hq (.tup [v,x]);let c:=(L.trans s5).trans g;let u:=c _ _ G;let C:Z6 (upd N q (.tup [v,x])) (upd (upd N q (.tup [v,x])) D (.lst (t++[.ref q]))):=λb xs e=>by rw[ZS (ZW e u)];exact e
  refine hR _ _ u ⟨Uq (p.trans c) B,B,?_⟩;rw[yR,S,EG];refine((j.sm c).mono C _ _).append (.cons (.tup (C _ _ ZZ) (.cons ?_ (.cons ?_ .nil))) .nil)
  ·exact(Y.sm (p.trans c)).mono C _ _
  ·exact(k2.sm (p.trans c)).mono C _ _
 ·let⟨p,B,j⟩:=d;rw[yV ∅] at j
  exact k m D t p B G j
inductive Vh(g:je)(H:Hp)(Q:VK)(_:XK):Prop
 |mk(l:ai)(d:je)(c:jl)(_:g=[.ref l])(_:H l=some (.lst d))(_:jI H c d)(_:∀ t∈c,t.fits 3=true)(_:d.length<=100)(_:c.Pairwise (λa b=>a.lt b=true))(_:∀ e,ZE H e->Q (.bl true) e)
theorem ZOY:ZC ["keys"] ["keys"] (ZY IH):=Zp
theorem IW{c:Type}{R:c->c->Prop}:∀{l:List c},l.Pairwise R->∀{i j:Nat}{a b:c},i<j->l[i]? = some a->l[j]? = some b->R a b
 | [],_,_,_,_,_,_,h,_=>by simp at h
 | x::l,hp,0,j+1,a,b,_,ha,hb=>by
  simp at ha hb;subst ha;exact(xB.mp hp).1 b (zL hb)
 | x::l,hp,i+1,j+1,a,b,hij,ha,hb=>by
  simp at ha hb;exact IW (xB.mp hp).2 ∅ ha hb
theorem ZNp(F:Zi K "rise" "rise" IH f fd)(T:YL mg)(S:ZA P w K mg jQ 7 "ahead" zE4 Yw):ZI P w K mg jQ ZM 8 f fd ["keys"] Vh:=by
 refine F.ko ZOY λU A y s H vs Q E hr h=>?_;let⟨l,c,ks,rfl,L,t,J,G,u,k⟩:=h;let lk:=t.length;intro Xc;refine⟨_,ZR (Zh (YC (Lm rfl) rfl T.all Mn (ZT (Vn [0] ["keys"] rfl (JK rfl T.range (Zq ZK (YC Xm rfl T.len Xa (ZT (pv 0))))) (λ_ _ _ _ _=>U0)
  (λ_ _ _ _ _=>Zc S hr (Zq (Z8 K (pv 1) (Zx VE (pv 0) ZK)) (Z8 K (pv 1) (pv 0)))) ⟨rfl,.inl rfl,rfl,trivial⟩)))),?_⟩
 exists _,Z,l,c,Z,.inl (ZG.of L),1,(c.length:Int),Z,⟨nofun,nofun,nofun,nofun⟩
 refine Ud (n:=((c.length:Int)-1).toNat) (λi x=>x=.int (1+(i:Int))) (λD i j d=>ZE H d/\H D=none/\j=(wJ i true).map V.bl) (XX nofun)
  (λD i j d q _=>q) (λD i j d x z q _ hy=>hy) (λD j d _=>zY _) (λD I=>⟨Zv I _,I,Z⟩) (λD i j d x o a0 q hx p R Y=>?_) (λD j d o p=>?_)
 ·subst hx;let⟨g,v,rfl⟩:=p;let r:i+1<c.length:=nofun
  let N:c[i]? = some (c[i]'nofun):=zQ nofun
  let O:c[i+1]? = some c[i+1]:=zQ r;let X:(1:Int)+(i:Int)=((i+1:Nat):Int):=nofun
  let W:(1:Int)+(i:Int)-1=((i:Nat):Int):=nofun
  let⟨a,B,ka⟩:=t.get N;let⟨b,C,kb⟩:=t.get O;let m:=g _ _ L;refine⟨_,Z,_,Z,_,_,Z,Z,.inl ⟨l,c,_,_,Z,Z,ZG.of m,(by rw[W];exact XH N),?_⟩⟩
  refine⟨_,Z,_,Z,.inl ⟨l,c,_,_,Z,Z,ZG.of m,(by rw[X];exact XH O),?_⟩⟩
  exists _,_,a,b,Z,ka.sm g,kb.sm g,J a (zL B),J b (zL C);intro z M;rw[IW u (wT i) B C];refine Y _ z (M D _ o) ⟨Uq (g.trans M) v,v,?_⟩;rw[List.replicate_succ',zF];rfl
 ·let⟨g,v,rfl⟩:=p;exists D,_,Z,ZG.of o;let e:(wJ ((c.length:Int)-1).toNat true).all id=true:=by simp
  rw[e];exact k d g
def P9(c:jm):Prop:=(∀ r∈c,r.fit)/\0<c.length/\c.length<=4/\(c.map (·.1)).Pairwise (λa b=>a.lt b=true)
inductive Xp(g:je)(H:Hp)(Q:VK)(_:XK):Prop
 |mk(l:ai)(e:je)(d:jm)(_:g=[.ref l])(_:H l=some (.lst e))(_:jI H (YI d) e)(_:P9 d)(_:∀(b:Hp)(c:ai)(a:je),ZE H b->H c=none->b c=some (.lst a)->jI b (YI d) a->Q (.ref c) b)
theorem UB:ZC ["rows","own"] zE3 (ZY J7):=Zp
theorem Be(F:Zi K "checked_rows" "checked_rows" J7 f fd)(T:YL mg)(W:ZA P w K mg jQ 8 "own_rows" zE3 WA)(X:ZA P w K mg jQ 8 "rise" ["keys"] Vh):ZI P w K mg jQ ZM 9 f fd zE3 Xp:=by
 refine F.ko UB λY A J s H vs Q E S h=>?_;let⟨l,V,y,rfl,hl,O,⟨N,h0,h4,I⟩,k⟩:=h;let nd:=UB.nd;let lk:V.length=y.length:=by have:=O.length;rw[<-this];exact zX _
 let⟨t4,m4⟩:=T.rows;intro Xc;refine⟨_,ZL (Zj 1 nd (Zc W S (ZT (pv 0))))
  (ZL (Z1 (PW.pt (Px (Vl (HM Nt Nt ZK (YC Xm rfl T.len Xa (ZT (pv 1))) (WL (v:=.int 4) rfl m4 ⟨_,rfl⟩)))
   (Nb (Vl (Y5 (Zc X S (ZT (Vn [] [] rfl (WD (pv 1)) (λ_ _ _ _ _=>U0) (λ_ _ _ _ _=>Z8 K (pv 0) ZK) trivial)))))))) Wq Z5)
  (ZR (Zh (pv 1)))),?_⟩
 exists _,Z,l,V,y,Z,hl,O,N,by lia
 intro B D b s3 nD u m;let ly:b.length=y.length:=by have:=m.length;rw[<-this];exact zX _
 exists _,Z,D,b,Z,.inl (ZG.of u),_,_,Z,Z,_,Z;rw[aI (show (1:Int)<=(b.length:Int) by lia)]
 refine Z7 ⟨_,_,Z,Z,_,Z,?_⟩;rw[aI (show (b.length:Int)<=4 by lia)]
 refine Zm ?_;exists _,Z,D,Z,⟨b,ZG.of u⟩;refine Ud (n:=b.length) (λi z=>b[i]? = some z) (λe i q g=>ZE B g/\B e=none/\jI B ((y.map (·.1)).take i) q) (XX ∅)
  (λe i q g C d=>⟨b,b[i],ZG.of (d.1 _ _ u),by simp[C]⟩) (λe i q g z M C d U=>⟨U.1,U.2 b (ZG.of (d.1 _ _ u))⟩) (λe q g d=>⟨b,ZG.of (d.1 _ _ u),zY _⟩)
  (λe x=>⟨Zv x _,x,.nil⟩) (λe i q g z j a0 C hz d R hR=>?_) (λe q g j d=>?_)
 ·let⟨p,o,c⟩:=d;let⟨a,vk,vv,er,rfl,e2,k1,_⟩:=P6 m hz;refine⟨_,Z,.inr (.inl ⟨a,_,_,vk,rfl,rfl,Zs.of (p _ _ e2),rfl,?_⟩)⟩;refine hR _ g j ⟨Uq p o,o,?_⟩;rw[yR,zG,er];exact c.append (.cons k1 .nil)
 ·let⟨p,o,c⟩:=d;rw[yV (by rw[zX];lia)] at c
  let lz:=c.length;rw[zX] at lz;refine⟨e,q,_,Z,j,c.sm p,λt ht=>?_,∅,I,λM L=>⟨_,Z,Zm ⟨_,Z,k M D b ((s3.trans p).trans L) nD (L _ _ (p _ _ u)) (m.sm (p.trans L))⟩⟩⟩
  let⟨r,G,rfl⟩:=zP.mp ht;exact(N r G).1
def Vt(a:jm):ZP:=⟨0,a,[]⟩
inductive WG(jN jO:ai)(r:je)(H:Hp)(Q:VK)(_:XK):Prop
 |mk(S d n l:ai)(h:jj)(c:jk)(k:Nat->jj)(m:Nat->Nat)(j:jr)(e:List (Za×V))(p q:je)(i:jm)(_:r=[.ref S,.ref l])(_:Zl jN jO H S d n h c k m j e p)(_:h.length<=900)(_:H l=some (.lst q))(_:jI H (YI i) q)(_:P9 i)(_:∀(g:Hp)(a:YQ),H a.x=none->H a.th=none->H a.ab=none->(∀ b o,b≠S->b≠d->H b=some o->g b=some o)->Zl jN jO g S d n (h++[c.length]) (c++[Vt i]) (UQ c.length k) (UO c.length m) (j++[a]) (XU e (.inl (c.length:Int)) (.ref a.x)) p->Q (.int (c.length:Nat)) g)
theorem VL:ZC ["self","rows","own"] zFf (ZY Ij):=Zp
theorem HV{jN jO:ai}{H:Hp}{S d h:ai}{b:jj}{j:jk}{e:Nat->jj}{g:Nat->Nat}{c:jr}{a:List (Za×V)}{i:je}(R:Zl jN jO H S d h b j e g c a i):a.length=b.length:=by
 have:=congrArg wM R.keys;simpa using this
def ZV(c:jk)(a:jj):jm:=a.flatMap λb=>(gd c b).rows
def YV(b:jk)(a:jj):ZP:=⟨(gd b (a.getD 0 0)).h+1,ZV b a,a⟩
def Mz(c:jk):jj->Prop
 | a::b::r=>(Zr (gd c a)).hi.lt (Zr (gd c b)).lo=true/\Mz c (b::r)
 | _=>True
theorem EX{c:jk}:∀{bs:jj},(∀ j,j+1<bs.length->((YK c bs).getD j .d).hi.lt ((YK c bs).getD (j+1) .d).lo=true)->Mz c bs
 | [],_=>trivial
 | [_],_=>trivial
 | a::b::r,h=>⟨h 0 (by simp),EX (bs:=b::r) λj e=>h (j+1) (by simp at e⊢;lia)⟩
theorem QN{t:ZP}(a:t.rows≠[]):∃ r b,t.rows=r::b/\(Zr t).lo=r.1:=by
 cases e:t.rows with
 | nil=>exact absurd e a
 | cons r b=>exact⟨r,b,Z,by unfold Zr;rw[e];rfl⟩
theorem M4{t:ZP}(a:t.rows≠[]):∃ b r,t.rows=b++[r]/\(Zr t).hi=r.1:=by
 rcases uX t.rows with e | ⟨b,r,e⟩
 ·exact absurd e a
 ·rw[uZ] at e;exists b,r,e;unfold Zr;rw[e];simp[zV]
theorem ZQZ{gt:jj}{g:jk}{i:Nat}{t:ZP}(h:Yu gt g i t){x:KT}(a:x∈t.rows.map (·.1)){y:KT}(b:(Zr t).hi.lt y=true):x.lt y=true:=by
 let⟨j,r,e,d⟩:=M4 h.ne;let c:=h.up;rw[e,zF] at c a;rw[d] at b;rcases zD.mp a with a | a
 ·have:=(xD.mp c).2.2 x a r.1 (by simp)
  exact lt_trans' _ _ _ this b
 ·simp at a;rw[a];exact b
theorem ZQu{l:jl}(g:l.Pairwise λa b=>a.lt b=true){z:KT}(e:l.head? = some z){x:KT}(d:x.lt z=true):∀ y∈l,x.lt y=true:=by
 cases l with
 | nil=>cases e
 | cons a l=>
  simp at e;subst e;intro y c;rcases zU.mp c with rfl | c
  ·exact d
  ·exact lt_trans' _ _ _ d ((xB.mp g).1 y c)
theorem Dy{gt:jj}{ts:jk}(hw:WF gt ts):∀{bs:jj},(∀ b∈bs,b∈gt)->Mz ts bs->((ZV ts bs).map (·.1)).Pairwise (λa b=>a.lt b=true)/\bs.Nodup
 | [],_,_=>⟨xL.nil,vG⟩
 | [a],hb,_=>by
  refine⟨?_,by simp⟩
  have:=(hw a (hb a (by simp))).up
  simpa [ZV] using this
 | a::b::r,hb,hn=>by
  let⟨h1,h2⟩:=Dy hw (bs:=b::r) (λc hc=>hb c (zO _ hc)) hn.2;let oa:=hw a (hb a (by simp))
  let ob:=hw b (hb b (by simp))
  let⟨rb,rs,eb,el⟩:=QN ob.ne;let hd:((ZV ts (b::r)).map (·.1)).head? = some (Zr (gd ts b)).lo:=by
   rw[el];unfold ZV;rw[xO,eb];rfl
  let cross:∀ x∈(gd ts a).rows.map (·.1),∀ y∈(ZV ts (b::r)).map (·.1),x.lt y=true:=λx hx=>ZQu h1 hd (ZQZ oa hx hn.1);refine⟨?_,yW.mpr ⟨λhm=>?_,h2⟩⟩
  ·let e:ZV ts (a::b::r)=(gd ts a).rows++ZV ts (b::r):=by simp[ZV]
   rw[e,zF];exact xD.mpr ⟨oa.up,h1,cross⟩
  ·let⟨ra,rs',ea,_⟩:=QN oa.ne;let m1:ra.1∈(gd ts a).rows.map (·.1):=by rw[ea];simp
   let m2:ra.1∈(ZV ts (b::r)).map (·.1):=zP.mpr ⟨ra,xT.mpr ⟨a,hm,by rw[ea];simp⟩,Z⟩
   have:=cross _ m1 _ m2;rw[V9] at this;cases this
theorem Qn{c:jk}{a:jj}{i:Nat}(b:i<a.length):(YK c a).getD i .d=Zr (gd c (a.getD i 0)):=by
 unfold YK;rw[zV,zG,zQ b,zV,zQ b];rfl
theorem Ig{gt:jj}{g:jk}(F:WF gt g){c:jj}(x:∀ b∈c,b∈gt){L:YY}(h:over (YK g c)=some L):
  L=Zr (YV g c)/\c.Nodup/\2<=c.length/\c.length<=4/\(∀ b∈c,(gd g b).h+1=(YV g c).h)/\((ZV g c).map (·.1)).Pairwise (λa b=>a.lt b=true)/\ZV g c≠[]:=by
 unfold over at h;split at h
 case isFalse=>cases h
 case isTrue hc=>
  let⟨o,H,V⟩:=hc;let G:(YK g c).length=c.length:=zX _;rw[G] at o H;let p:=PL.mpr V;unfold Ib at p;rw[G] at p;let B:Mz g c:=EX λj U=>(p j U).2;let⟨E,C⟩:=Dy F x B;let T:∀ i,i<c.length->((YK g c).getD i .d).h=((YK g c).getD 0 .d).h:=λi n=>by
   cases i with
   | zero=>rfl
   | succ i=>exact(p i n).1
  let k:∀ i,i<c.length->c.getD i 0∈c:=λi n=>by rw[zV,zQ n];exact xI _
  let I:=F _ (x _ (k 0 ∅))
  let X:=F _ (x _ (k (c.length-1) ∅))
  let A:∀ b∈c,(gd g b).h+1=(YV g c).h:=λb y=>by
   let⟨i,n,e⟩:=List.getElem_of_mem y;have:=T i n;rw[Qn n,Qn ∅] at this
   let s:c.getD i 0=b:=by rw[zV,zQ n,e];rfl
   rw[s] at this;have:=Int.ofNat.inj this;show (gd g b).h+1=(gd g (c.getD 0 0)).h+1
   lia
  let D:ZV g c≠[]:=λz=>by
   let⟨r,q,e,_⟩:=QN I.ne;have:r∈ZV g c:=xT.mpr ⟨_,k 0 ∅,by rw[e];simp⟩
   rw[z] at this;simp at this
  refine⟨?_,C,o,H,A,E,D⟩;rw[<-yZ.inj h];let v:((YK g c).getD 0 .d).lo=(Zr (YV g c)).lo:=by
   rw[Qn ∅]
   let⟨r,q,e,u⟩:=QN I.ne;rw[u]
   cases c with
   | nil=>simp at o
   | cons b c=>
    unfold Zr YV ZV;let M:(gd g b).rows=r::q:=e;simp only[xO,M];rfl
  let t:((YK g c).getD ((YK g c).length-1) .d).hi=(Zr (YV g c)).hi:=by
   rw[G,Qn ∅]
   let⟨q,r,e,u⟩:=M4 X.ne;rw[u];rcases uX c with z | ⟨J,b,z⟩
   ·rw[z] at o;simp at o
   ·rw[uZ] at z;let O:c.getD (c.length-1) 0=b:=by rw[z];simp[zV]
    rw[O] at e;let S:ZV g c=ZV g J++q++[r]:=by rw[z];simp[ZV,e]
    unfold Zr YV;simp only[S];simp[zV]
  let R:((YK g c).map YY.m).sum=(Zr (YV g c)).m:=by
   have:∀ l:jj,((YK g l).map YY.m).sum=((ZV g l).length:Int):=λl=>by
    induction l with
    | nil=>rfl
    | cons b l W=>
     let N:YK g (b::l)=Zr (gd g b)::YK g l:=rfl;let s:ZV g (b::l)=(gd g b).rows++ZV g l:=by simp[ZV]
     rw[N,s,yT,List.sum_cons,W,zN];show ((gd g b).rows.length:Int)+_=_
     lia
   exact this c
  let Q:((YK g c).getD 0 .d).h+1=(Zr (YV g c)).h:=by
   rw[Qn ∅]
   show ((gd g (c.getD 0 0)).h:Int)+1=(((gd g (c.getD 0 0)).h+1:Nat):Int)
   lia
  rw[v,t,R,Q]
theorem Yu.ext{gt:jj}{a:jk}{t:ZP}{i:Nat}{u:ZP}(q:∀ b∈gt,b<a.length)(h:Yu gt a i u):Yu (gt++[a.length]) (a++[t]) i u:=by
 exists h.ne,h.up,h.inn,h.leaf;intro z;let⟨j,k,g,m⟩:=h.stem z;let e:∀ b∈u.bs,gd (a++[t]) b=gd a b:=λb d=>Pq (q b (g b d).1);exists j,k,λb d=>⟨yF _ (g b d).1,by rw[e b d];exact(g b d).2⟩
 rw[m];clear j k g m;have:∀ l:jj,(∀ b∈l,gd (a++[t]) b=gd a b)->(l.flatMap λb=>(gd a b).rows)=l.flatMap λb=>(gd (a++[t]) b).rows:=λl n=>by
  induction l with
  | nil=>rfl
  | cons b l p=>rw[xO,xO,n b (by simp),p λc o=>n c (zO _ o)]
 exact this _ e
theorem WF.push{gt:jj}{a:jk}{t:ZP}(d:∀ b∈gt,b<a.length)(g:WF gt a)(h:Yu gt a a.length t):WF (gt++[a.length]) (a++[t]):=λi e=>by
 rcases zD.mp e with c | c
 ·rw[Pq (d i c)];exact(g i c).ext d
 ·rw[zK.mp c,Ps];exact h.ext d
theorem Bl{gt:jj}{c:jk}(k:WF gt c){d:jj}(e:∀ b∈d,b∈gt){L:YY}(h:over (YK c d)=some L):Yu gt c c.length (YV c d):=by
 let⟨_,_,l,m,n,j,g⟩:=Ig k e h;refine⟨g,j,λr o=>?_,λz=>absurd z (by show (gd c (d.getD 0 0)).h+1≠0;lia),λ_=>⟨l,m,λb a=>⟨e b a,n b a⟩,Z⟩⟩
 let⟨b,a,i⟩:=xT.mp o;exact(k b (e b a)).inn r i
theorem GQ{gt:jj}{e:jk}(h:WF gt e){c:jj}(g:∀ b∈c,b∈gt)(i:Nat):((YK e c).getD i .d).fit:=by
 rcases yL i c.length with a | a
 ·rw[Qn a];refine N0 (h _ (g _ ?_));rw[zV,zQ a];exact xI _
 ·rw[zV,sQ (by unfold YK;rw[zX];exact a)]
  exact Gv
abbrev ZQE:jn:=["labels","at","many"]
theorem Qz:ZC ZQE zFp (ZY Ke):=Zp
theorem ZKf(D:ZA P w K mg jQ 6 "is_key" zEu Xr):ZA P w K mg jQ 6 "is_key" zEu QH:=by
 let⟨g,gd,a,b,j,m⟩:=D.ex;refine⟨g,gd,a.imp λn H Q E h=>?_,b,j,m⟩;let⟨v,t,q,e,i,d,k⟩:=h;exact⟨v,t.emb,λ_=>False,e,IQ t v i,IX t q d,λc l=>by rw[JL];exact k c l⟩
theorem AS{a:jD}{L:YY}(h:over a=some L):2<=a.length/\a.length<=4/\LZ a=true/\L=⟨(a.getD 0 .d).h+1,(a.getD 0 .d).lo,(a.getD (a.length-1) .d).hi,(a.map YY.m).sum⟩:=by
 unfold over at h;split at h
 ·rename_i z
  cases h;exact⟨z.1,z.2.1,z.2.2,Z⟩
 ·cases h
inductive Xk(e:je)(H:Hp)(Q:VK)(_:XK):Prop
 |mk(l:ai)(c:je)(b:jD)(L:YY)(_:e=[.ref l])(_:H l=some (.lst c))(_:Yp H b c)(_:∀ i,(b.getD i .d).fit)(_:over b=some L)(_:∀ a v,ZE H a->ZD a L.kt v->Q v a)
theorem Cd(F:Zi K "label_over" "label_over" Ke f fd)(T:YL mg)(DS:ZA P w K mg jQ 8 "stand_side_by_side" zFe Uw):ZI P w K mg jQ ZM 9 f fd zFp Xk:=by
 refine F.ko Qz λc2 A a7 s H vs Q E hr h=>?_;let⟨l,q,r,L,rfl,hl,hk,hf,a4,k⟩:=h;let⟨v2,v4,vc,rfl⟩:=AS a4;let nd:=Qz.nd;let a0:=hk.1;let⟨tf,mf⟩:=T.few;let⟨tm,mm⟩:=T.most;let⟨t0,m0⟩:=T.height;let⟨t1,m1⟩:=T.least;let⟨t2,m2⟩:=T.greatest;let⟨t3,m3⟩:=T.many;intro Xc;refine⟨_,ZL (Z1 (Vl (HM Nt Nt (WL (v:=.int 2) rfl mf ⟨_,rfl⟩) (YC Xm rfl T.len Xa (ZT (pv 0))) (WL (v:=.int 4) rfl mm ⟨_,rfl⟩))) Wq Z5)
  (ZL (Vk PassesOwn.never rfl (JK rfl T.range (Zq ZK (YC Xm rfl T.len Xa (ZT (pv 0))))) (Vo 1 nd)
   (ZR (Z1 (Vl (Y5 (Zc DS hr (Zq (Z8 K (pv 0) (Zx VE (pv 1) ZK)) (Z8 K (pv 0) (pv 1)))))) Wq Z5)))
  (ZL (Zj 2 nd (YC (Br rfl) rfl T.sum ZOZ (ZT (Vn [] [] rfl (WD (pv 0)) (λ_ _ _ _ _=>U0) (λ_ _ _ _ _=>Z8 K (pv 0) (WL (v:=.int 3) Z m3 ⟨_,Z⟩)) trivial))))
  (ZR (Zh (VC (QI (Zx VA (Z8 K (Z8 K (pv 0) ZK) (WL (v:=.int 0) rfl m0 ⟨_,rfl⟩)) ZK)
   (Z8 K (Z8 K (pv 0) ZK) (WL (v:=.int 1) rfl m1 ⟨_,rfl⟩))
   (Z8 K (Z8 K (pv 0) (Qq Qk ZK)) (WL (v:=.int 2) rfl m2 ⟨_,rfl⟩))
   (pv 2))))))),?_⟩
 let O:∀(W:Hp)(i:Nat),ZE H W->i<q.length->∃(a:ai)(G C:V),q[i]? = some (.ref a)/\W a=some (.tup [.int (r.getD i .d).h,G,C,.int (r.getD i .d).m])/\ZD W (r.getD i .d).lo G/\ZD W (r.getD i .d).hi C:=λW i s' M=>by
  let hu:q[i]? = some q[i]:=zQ M;let⟨a,G,C,e,e1,k1,k2⟩:=(hk.2 i _ hu).mono (ZE.tups s');exact⟨a,G,C,by rw[hu,e],e1,k1,k2⟩
 exists _,Z,l,q,Z,.inl (ZG.of hl),_,_,Z,Z,_,Z;let h2:2<=q.length:=nofun
 let h4:q.length<=4:=nofun
 rw[aI (show (2:Int)<=(q.length:Int) from nofun)]
 refine Z7 ⟨_,_,Z,Z,_,Z,?_⟩;rw[aI (show (q.length:Int)<=4 from nofun)]
 refine Zm ?_;exists _,Z,l,q,Z,.inl (ZG.of hl),1,(q.length:Int),Z,⟨nofun,nofun,nofun,nofun⟩
 refine MX (lo:=1) (n:=((q.length:Int)-1).toNat) (λi σ X=>∃ x:jf,σ=[some (.ref l),x,none]/\ZE H X/\∀ j,j<i->PU (r.getD j .d) (r.getD (j+1) .d)=true) ⟨_,Z,ZE.refl H,λj hj=>absurd hj nofun⟩ ?_ ?_
 ·rintro i σ X M ⟨x,rfl,I,a1⟩;let a2:i+1<q.length:=nofun
  let ua:q[i]? = some (q[i]'nofun):=zQ nofun
  let ub:q[i+1]? = some q[i+1]:=zQ a2;let e1:(1:Int)+(i:Int)=((i+1:Nat):Int):=nofun
  let e0:(1:Int)+(i:Int)-1=((i:Nat):Int):=nofun
  let t:=I _ _ hl;refine⟨_,Z,_,Z,_,_,Z,Z,.inl ⟨l,q,_,_,Z,Z,ZG.of t,(by rw[e0];exact XH ua),?_⟩⟩
  refine⟨_,Z,_,Z,.inl ⟨l,q,_,_,Z,Z,ZG.of t,(by rw[e1];exact XH ub),?_⟩⟩
  refine⟨_,_,r.getD i .d,r.getD (i+1) .d,Z,(hk.2 i _ ua).mono (ZE.tups I),(hk.2 (i+1) _ ub).mono (ZE.tups I),hf i,hf (i+1),λu S=>⟨_,Z,?_⟩⟩;let hc:PU (r.getD i .d) (r.getD (i+1) .d)=true:=yQ.mp vc i (wX.mpr nofun)
  rw[hc];refine Zm ⟨_,Z,I.trans S,λj hj=>?_⟩;rcases yL j i with c1 | c1
  ·exact a1 j c1
  ·have:j=i:=nofun
   rw[this];exact hc
 rintro σ X ⟨x,rfl,I,a1⟩;let t:=I _ _ hl;exists _,Z,l,Z,⟨q,ZG.of t⟩;refine Ud (n:=q.length) (λi z=>q[i]? = some z) (λD i U u=>ZE X u/\X D=none/\U=((r.map YY.m).take i).map V.int) (XX nofun)
  (λD i U u M y=>⟨q,q[i],ZG.of (y.1 _ _ t),by simp[M]⟩) (λD i U u z H4 M y hy=>⟨hy.1,hy.2 q (ZG.of (y.1 _ _ t))⟩) (λD U u y=>⟨q,ZG.of (y.1 _ _ t),zY _⟩)
  (λD hD=>⟨Zv hD _,hD,Z⟩) (λD i U u z eD c4 M hz y R hR=>?_) (λD U u eD y=>?_)
 ·let⟨S,nD,rfl⟩:=y;let⟨a,a9,a8,ua,ea,c5,c6⟩:=O u i (I.trans S) M;rw[ua] at hz;cases hz;refine⟨_,Z,.inr (.inl ⟨a,_,_,.int (r.getD i .d).m,rfl,rfl,Zs.of ea,rfl,?_⟩)⟩;refine hR _ u eD ⟨λb o e=>by rw[ZS (Zg e nD)];exact S b o e,nD,?_⟩
  let eg:(r.map YY.m)[i]? = some (r.getD i .d).m:=by
   rw[zG,zV,zQ (show i<r.length from nofun)]
   rfl
  rw[yR,eg,zF];rfl
 ·let⟨S,nD,rfl⟩:=y;rw[yV (by rw[zX];lia (splits:=8))] at eD
  exists D,r.map YY.m,Z,ZG.of eD;let B:=I.trans S;let N:=B _ _ hl;let⟨c,clo,c3,uc,ec,a6,c8⟩:=O u 0 B nofun
  let⟨b,c0,Y,ub,eb,c7,a5⟩:=O u (q.length-1) B nofun
  let J:WN q (-1)=some (.ref b):=by
   let e:q=q.dropLast++[.ref b]:=by
    let a3:q≠[]:=λz=>by rw[z] at h2;simp at h2
    let hg:q.getLast a3=.ref b:=by
     rw[rR];have:=(zB.mp ub).2;exact this
    rw[<-hg,sH]
   rw[e];exact FX _ _
  refine⟨_,Z,.inl ⟨l,q,_,.ref c,Z,Z,ZG.of N,XH (j:=0) uc,.inr (.inl ⟨c,_,_,.int (r.getD 0 .d).h,rfl,rfl,Zs.of ec,rfl,_,_,rfl,rfl,?_⟩)⟩⟩;refine⟨_,Z,.inl ⟨l,q,_,.ref c,Z,Z,ZG.of N,XH (j:=0) uc,.inr (.inl ⟨c,_,_,clo,rfl,rfl,Zs.of ec,rfl,?_⟩)⟩⟩;refine⟨_,Z,1,Z,.inl ⟨l,q,_,.ref b,Z,Z,ZG.of N,J,.inr (.inl ⟨b,_,_,Y,rfl,rfl,Zs.of eb,rfl,?_⟩)⟩⟩;exists _,Z,YS;intro p hp;let g:=Zv hp (.tup [.int ((r.getD 0 .d).h+1),clo,Y,.int (r.map YY.m).sum]);refine k _ _ (B.trans g) ?_;rw[<-a0];exact .tup ZZ (.cons (.int _) (.cons (a6.sm g) (.cons (a5.sm g) (.cons (.int _) .nil))))
abbrev KN:Stmt:=Xv (top 76) 19
abbrev Lx:Stmt:=Xv (top 76) 20
abbrev HE:Stmt:=Xv (top 76) 2
inductive Yj(jN jO:ai)(p:je)(H:Hp)(Q:VK)(_:XK):Prop
 |mk(S d n l:ai)(g:jj)(h:jk)(k:Nat->jj)(m:Nat->Nat)(j:jr)(e:List (Za×V))(o:je)(c:jj)(_:p=[.ref S,.ref l])(_:Zl jN jO H S d n g h k m j e o)(_:H l=some (.lst (iN c)))(_:∀ b∈c,b∈g)(_:c.length<=100)(_:∀(D:ai)(i:je)(a:Hp),ZE H a->H D=none->a D=some (.lst i)->Yp a (YK h c) i->Q (.ref D) a)
theorem ZHv:ZC zEg zEg (ZY KN):=Zp
theorem MR{a:jj}{i:Nat}{z:V}(h:(iN a)[i]? = some z):∃ b,a[i]? = some b/\z=.int (b:Nat):=by
 unfold iN at h;rw[zG] at h;let⟨b,e,rfl⟩:=yC.mp h;exact⟨b,e,Z⟩
theorem ZFH(F:Zi K "labels_of" "Shelf.labels_of" KN f fd)(L:YT K mg jN jO)(T:ZB P w K mg jQ ZM 2 jN "label" zEa (Xn jN jO λtg _ _=>tg)):ZI P w K mg jQ ZM 3 f fd zEg (Yj jN jO):=by
 refine F.ko ZHv λV A I s H vs Q E hr h=>?_;let⟨S,d,lk,l,lv,q,av,ho,U,G,ls,j,rfl,R,v,hb,M,k⟩:=h;let li:(iN j).length=j.length:=zX _;intro Xc;exists _,ZR (Zh (Vn [0] zEq rfl (WD (pv 1)) (λ_ _ _ _ _=>U0) (λ_ _ _ _ _=>Z0 (E:=E0) (pv 1) L.cS T hr Z3 (ZT (pv 0))) ⟨rfl,.inl rfl,rfl,trivial⟩));exists _,Z,l,Z,⟨_,ZG.of v⟩;refine Ud (n:=(iN j).length) (λi z=>(iN j)[i]? = some z) (λD i o a=>ZE H a/\H D=none/\Yp a (YK q (j.take i)) o) (XX ∅)
  (λD i o a C g=>⟨_,(iN j)[i],ZG.of (g.1 _ _ v),zQ C⟩) (λD i o a z H4 C g O=>⟨O.1,O.2 _ (ZG.of (g.1 _ _ v))⟩) (λD o a g=>⟨_,ZG.of (g.1 _ _ v),zY _⟩)
  (λD N=>⟨Zv N _,N,Z,λi u e=>by simp at e⟩) (λD i o a z r a0 C hz g RR B=>?_) (λD us a r g=>?_)
 ·let⟨y,x,t⟩:=g;let⟨b,J,rfl⟩:=MR hz;let m:=hb b (zL J);let p:=R.same y;let⟨W,Y⟩:=p.sh.self;exists _,Z,S,W,_,Z,Y,Z,_,Z,S,d,lk,q.length,G,ls,(b:Int),_,_,_,_,_,_,Z,⟨p.sh,p.val b m,(p.tw b m).tw⟩;refine B _ a r ⟨Uq y x,x,?_⟩;let tD:Z6 a (upd a D (.lst (o++[.ref (U.getD b .d).tg]))):=λc xs e=>by rw[ZS (ZW e r)];exact e
  rw[yR,J];let X:YK q (j.take i++(some b).toList)=YK q (j.take i)++[Zr (gd q b)]:=by unfold YK;simp
  rw[X];exact(t.snoc (p.tw b m).tag).mono tD
 ·let⟨y,x,t⟩:=g;rw[yV ∅] at t
  exact k D us a y x r t
inductive Z4(jN jO:ai)(q:je)(H:Hp)(Q:VK)(_:XK):Prop
 |mk(S l:ai)(e:jA)(_:q=[.ref S,.ref l])(_:H l=some (.lst (e.map V.int)))(_:∃ h b,H S=some (.ins jN h b)/\b.lookup (xQ "outside")=none)(_:∀ n∈e,∃(d i:ai)(m:Nat)(a:List (Za×V))(j:je)(x:ai)(o k:V)(g:ai)(c:Nat)(p:je),OB jN jO H S d i m a j n x o k g c p/\1<=c)(_:Q .non H)
theorem WK:ZC ["self","numbers","number"] zEg (ZY Lx):=Zp
theorem ZEh(F:Zi K "check_held" "Shelf.check_held" Lx f fd)(L:YT K mg jN jO)(r:ZB P w K mg jQ ZM 2 jN "outside" zEa (Xn jN jO λ_ j _=>.int j)):ZI P w K mg jQ ZM 3 f fd zEg (Z4 jN jO):=by
 refine F.ko WK λv A p s H vs Q E I h=>?_;let⟨S,l,O,rfl,q,⟨y,fs,D,g⟩,G,k⟩:=h;let N:=WK.nd;intro Y;refine⟨_,ZR (Vk PassesOwn.never rfl (WD (pv 1)) (Vo 2 N)
  (ZR (Z1 (YX Vp (Z0 (E:=E0) (pv 0) L.cS r I Z3 (ZT (pv 2))) ZK (YG _)) Wq Z5))),?_⟩
 refine⟨_,Z,l,Z,⟨_,ZG.of q⟩,Qm (K:=K) (a:=l) (xs:=O.map V.int) (λi e c=>∃ x:jf,e=[some (.ref S),some (.ref l),x]/\c=H) ⟨_,Z,Z⟩ (λi e c _ C=>by let⟨_,_,rfl⟩:=C;exact ZG.of q) ?_ ?_⟩
 ·rintro i u e c b ⟨x,rfl,rfl⟩;rw[zG] at b;let⟨n,B,rfl⟩:=yC.mp b;let⟨d,J,m,o,M,X,U,T,t,j,W,R,h1⟩:=G n (zL B);exists _,Z,S,y,_,Z,D,g,_,Z,S,d,J,m,o,M,n,X,U,T,t,j,W,Z,R,Z,_,Z;rw[aH (λz=>by have:=N7 z;lia)]
  exact Zm ⟨_,Z,Z⟩
 ·rintro e c ⟨x,rfl,rfl⟩;exact k
inductive Y4(jN jO:ai)(s:je)(H:Hp)(Q:VK)(_:XK):Prop
 |mk(S d p l:ai)(h:jj)(e:jk)(m:Nat->jj)(n:Nat->Nat)(j:jr)(i:List (Za×V))(q:je)(g:jj)(r:YY)(_:s=[.ref S,.ref l])(_:Zl jN jO H S d p h e m n j i q)(_:WF h e)(_:h.length<=800)(_:∀ b∈g,b∈h/\1<=n b/\(m b).length<=800)(_:H l=some (.lst (iN g)))(_:over (YK e g)=some r)(_:∀(k:Hp)(a:YQ),H a.x=none->H a.th=none->H a.ab=none->(∀ c o,c≠S->c≠d->(∀ b:Nat,b∈h->c≠(j.getD b .d).x/\c≠(j.getD b .d).ab)->H c=some o->k c=some o)->Zl jN jO k S d p (h++[e.length]) (e++[YV e g]) (Wn g e.length (UQ e.length m)) (Wr g (UO e.length n)) (j++[a]) (XU i (.inl (e.length:Int)) (.ref a.x)) q->Q (.int (e.length:Nat)) k)
abbrev ZLH:jn:=["self","numbers","branches","label","number"]
theorem VI:ZC ZLH zEg (ZY HE):=Zp
theorem LV(a:jj):iN a=(a.map λb:Nat=>(b:Int)).map V.int:=by unfold iN;rw[uA];rfl
theorem ZF1(F:Zi K "put_stem" "Shelf.put_stem" HE f fd)(T:YL mg)(L:YT K mg jN jO)(DL:ZB P w K mg jQ ZM 3 jN "labels_of" zEg (Yj jN jO))(DO:ZA P w K mg jQ 9 "label_over" zFp Xk)(DC:ZB P w K mg jQ ZM 3 jN "check_held" zEg (Z4 jN jO))(DT:ZB P w K mg jQ ZM 3 jN "put_twig" zE5 (XQ jN jO))(DK:ZB P w K mg jQ ZM 2 jN "take_over" zEm (Yz jN jO)):
  ZI P w K mg jQ ZM 10 f fd zEg (Y4 jN jO):=by
 refine F.ko VI λc3 A c0 s H vs Q E hr h=>?_;let⟨S,d,X,l,lv,k,av,ho,M,G,Y,g,Lb,rfl,R,hw,c2,B,hl,U,q3⟩:=h;let O:∀ b∈g,b∈lv:=λb h=>(B b h).1;let nd:=VI.nd;let C:=hr.mono (show 3<=9 by lia)
 let a8:=hr.mono (show 2<=9 by lia)
 let⟨eL,a7,c4,c5,c6,c9,c7⟩:=Ig hw O U;intro Xc;refine⟨_,ZL (Zj 2 nd (Ug Ng rfl T.list OL (ZT (pv 1))))
  (ZL (Zj 3 nd (Zc DO hr (ZT (Z0 (E:=E0) (pv 0) L.cS DL C Z3 (ZT (pv 2))))))
  (ZL (Ye (Z0 (E:=E0) (pv 0) L.cS DC C Z3 (ZT (pv 2))))
  (ZL (Zj 4 nd (Z0 (E:=E0) (pv 0) L.cS DT C Z3 (Zq (pv 2) (pv 3))))
  (ZL (Ye (Z0 (E:=E0) (pv 0) L.cS DK a8 Z3 (Zq (pv 4) (pv 2))))
  (ZR (Zh (pv 4))))))),?_⟩
 exists _,Z,l,iN g,Z,.inl (ZG.of hl);intro D nD;let g1:=Zv nD (.lst (iN g));let y:upd H D (.lst (iN g)) D=some (.lst (iN g)):=ZZ;generalize upd H D (.lst (iN g))=H1 at g1 y⊢;let R1:=R.same g1;let⟨a0,a4⟩:=R1.sh.self;exists _,Z,S,a0,_,Z,a4,Z,_,Z,S,d,X,D,lv,k,av,ho,M,G,Y,g,Z,R1,y,O,by lia
 intro D2 us H2 s2 e0 a3 a6;let c1:=g1.trans s2;exists D2,us,YK k g,Lb,Z,a3,a6,GQ hw O,U;intro H3 v s3 kv;subst eL;let a:=c1.trans s3;let r:=R.same a;let⟨u,p⟩:=r.sh.self;let m:H3 D=some (.lst (iN g)):=s3 _ _ (s2 _ _ y);exists _,Z,S,u,_,Z,p,Z,_,Z,S,D,g.map (λb:Nat=>(b:Int)),Z,by rw[<-LV];exact m,⟨u,_,p,Z⟩,λn hn=>?_
 ·let⟨b,i,rfl⟩:=zP.mp hn;let j:=B b i;exact⟨d,X,k.length,G,Y,_,_,_,_,_,_,⟨r.sh,r.val b j.1,(r.tw b j.1).tw⟩,j.2.1⟩
 let kl:=Mf kv;let⟨I,e3,e2,rfl,c8,_,_⟩:=kl;let a9:=Mf kv;exists _,Z,S,u,_,Z,p,Z,_,Z,_,Z,S,d,X,k.length,G,Y,.ref D,.ref I,Z,r.sh,by rw[HV R];lia
 intro H5 x J nx q W R5 W5;let V:Z6 H3 H5:=λb ys e=>W b _ (ZW e p) (ZW e r.sh.kept) e;let N:H5 D=some (.lst (iN g)):=W _ _ (ZW m p) (ZW m r.sh.kept) m;let PP:=Ek (t:=YV k g) (x:=x) (th:=D) (tg:=I) (ab:=J) R (H':=H5) (λb o n1 n2 e=>W b o n1 n2 (a b o e)) (a.free nx) nD (a.free q) (Zg m q).symm R5 W5
  ⟨iN g,N,λz=>absurd z (by show (gd k (g.getD 0 0)).h+1≠0;lia),λ_=>rfl⟩ (a9.mono V)
 let⟨a1,a5⟩:=R5.self;let el:M.length=k.length:=R.len;let aL:∀ b,b∈lv->(M++[(⟨x,D,I,J⟩:YQ)]).getD b .d=M.getD b .d:=λb O=>IL (by have:=R.lt b O;lia)
 let aN:(M++[(⟨x,D,I,J⟩:YQ)]).getD k.length .d=⟨x,D,I,J⟩:=by rw[<-el];exact IG
 let en:(k++[YV k g]).length=k.length+1:=by simp
 refine⟨_,Z,S,a1,_,Z,a5,Z,_,Z,_,Z,S,d,X,D,_,_,_,_,_,_,Y,g,k.length,Z,PP,N,a7,λb i=>?_,λb i=>?_,λH6 a2 e1 R6=>⟨_,Z,?_⟩⟩
 ·let j:=B b i;let nb:b≠k.length:=by have:=R.lt b j.1;lia
  exists yF _ j.1,?_
  ·rw[show UO k.length ho b=ho b from aJ nb];exact j.2.1
  ·rw[show UQ k.length av b=av b from aJ nb];lia
 ·rcases zD.mp i with c | c
  ·rw[aL b c];exact(Zg (R.tw b c).tw.above nD).symm
  ·rw[zK.mp c,aN];exact Zg m q
 ·refine q3 H6 ⟨x,D,I,J⟩ (a.free nx) nD (a.free q) (λc o n1 n2 n3 e=>?_) R6;refine a2 c o (λb i=>?_) (W c o n1 n2 (a c o e));rcases zD.mp i with z | z
  ·rw[aL b z];exact n3 b z
  ·rw[zK.mp z,aN];exact⟨Zg e (a.free nx),Zg e (a.free q)⟩
theorem Et(a:jm):(Zr (Vt a)).kt=LU (a.map (·.1)):=by
 let b:(a.map (·.1)).length=a.length:=zX _;let c:(a.map (·.1)).getD 0 (.int 0)=(a.getD 0 rd).1:=by
  rw[zV,zV,zG];cases a[0]? <;> rfl
 let d:(a.map (·.1)).getD (a.length-1) (.int 0)=(a.getD (a.length-1) rd).1:=by
  rw[zV,zV,zG];cases a[a.length-1]? <;> rfl
 unfold LU Zr Vt YY.kt;rw[b,c,d];rfl
inductive Xb(jN jO:ai)(q:je)(H:Hp)(Q:VK)(_:XK):Prop
 |mk(S d j l:ai)(n:Nat)(c:List (Za×V))(k p:je)(g:jm)(_:q=[.ref S,.ref l])(_:Xd jN H S d j n c k)(_:c.length<=900)(_:H l=some (.lst p))(_:jI H (YI g) p)(_:P9 g)(_:∀(a:Hp)(x h m i:ai),H x=none->H h=none->H i=none->i≠h->(∀ b o,b≠S->b≠d->H b=some o->a b=some o)->Xd jN a S d j (n+1) (XU c (.inl (n:Int)) (.ref x)) k->Ww jO a x (.ref h) (.ref m) i 1 []->(∃ e,a h=some (.lst e)/\jI a (YI g) e)->YJ a (Zr (Vt g)) (.ref m)->Q (.int (n:Nat)) a)
theorem ZFq(F:Zi K "put_leaf" "Shelf.put_leaf" Ij f fd)(L:YT K mg jN jO)(X:ZA P w K mg jQ 9 "checked_rows" zE3 Xp)(Y:ZA P w K mg jQ 1 "label_of_rows" zE3 XN)(DT:ZB P w K mg jQ ZM 3 jN "put_twig" zE5 (XQ jN jO)):
  ZI P w K mg jQ ZM 10 f fd zFf (Xb jN jO):=by
 refine F.ko VL λa0 A O s H vs Q E B h=>?_;let⟨S,d,lk,l,n,M,ls,us,T,rfl,R,q,hl,hk,G,k⟩:=h;let nd:=VL.nd;let C:=B.mono (show 1<=9 by lia)
 let D:=B.mono (show 3<=9 by lia)
 intro Xc;refine⟨_,ZL (Zj 2 nd (Zc X B (ZT (pv 1))))
  (ZR (Zh (Z0 (E:=E0) (pv 0) L.cS DT D Z3 (Zq (pv 2) (Zc Y C (ZT (pv 2))))))),?_⟩
 exists _,Z,l,us,T,Z,hl,hk,G;intro H1 t g V N p j;let R1:=R.same V;let⟨dx,hS⟩:=R1.self;let lu:g.length=T.length:=by have:=j.length;rw[<-this];exact zX _
 exists _,Z,S,dx,_,Z,hS,Z,_,Z,_,Z,t,g,T.map (·.1),Z,p,Fu j,by rw[lu];exact G.2.1
 intro H2 v U J;rw[<-Et] at J;let I:=Mf J;let⟨W,a4,a3,rfl,a2,_,_⟩:=I;let I:=Mf J;let c:=V.trans U;let R2:=R.same c;exists S,d,lk,n,M,ls,.ref t,.ref W,Z,R2,q;intro u x ab nx r y R3 W3;let⟨a1,m⟩:=R2.self;let i:Z6 H2 u:=λb ys e=>y b _ (ZW e m) (ZW e R2.kept) e;let a:=U _ _ p;let z:u t=some (.lst g):=y _ _ (ZW a m) (ZW a R2.kept) a;exact k u x t W ab (c.free nx) N (c.free r) (Zg a r).symm (λb o n1 n2 e=>y b o n1 n2 (c b o e)) R3 W3 ⟨g,z,j.mono (λb xs e=>i b xs (U _ _ e)) _ _⟩ (I.mono i)
theorem ZHs(D:ZB P w K mg jQ ZM 10 jN "put_leaf" zFf (Xb jN jO)):ZB P w K mg jQ ZM 10 jN "put_leaf" zFf (WG jN jO):=by
 let⟨g,gd,M,s,b⟩:=D.ex;refine⟨g,gd,M,s.imp λvs H Q E h=>?_,b⟩;let⟨S,d,I,l,Y,O,V,X,U,o,J,T,r,e,R,c,F,C,G,k⟩:=h;exists S,d,I,l,O.length,o,J,T,r,e,R.sh,by rw[HV R];exact c,F,C,G
 intro u x N L y nx j i a q v W n m;let⟨p,A,B⟩:=n;exact k u ⟨x,N,L,y⟩ nx j i q (Ek (t:=Vt r) R q nx j i a v W ⟨p,A,λ_=>B,λz=>absurd Z z⟩ m)
structure Zd where
 S:ai
 d:ai
 lv:jj
 ts:jk
 av:Nat->jj
 ho:Nat->Nat
 as:jr
 kvs:List (Za×V)
structure Xf(jN jO:ai)(H:Hp)(X:Zd)(lk:ai)(c:Nat)(ls:je):Prop where
 sh:Xd jN H X.S X.d lk c X.kvs ls
 keys:X.kvs.map (·.1)=X.lv.map (λi:Nat=>(Sum.inl (i:Int):Za))
 val:∀ i:Nat,i∈X.lv->Ym X.kvs (Sum.inl (i:Int))=some (.ref (X.as.getD i .d).x)
 tw:∀ i:Nat,i∈X.lv->OS jO H X.ts X.av X.ho i (X.as.getD i .d)
 own:∀ i:Nat,i∈X.lv->(X.as.getD i .d).x≠X.S/\(X.as.getD i .d).ab≠lk/\(X.as.getD i .d).th≠lk
 le:X.ts.length<=c
section
variable{jN jO:ai}{H H':Hp}{X:Zd}{lk lk':ai}{c c':Nat}{ls ls':je}
theorem Zl.q{S d:ai}{j:jj}{e:jk}{g:Nat->jj}{h:Nat->Nat}{f:jr}{a:List (Za×V)}(R:Zl jN jO H S d lk j e g h f a ls):Xf jN jO H ⟨S,d,j,e,g,h,f,a⟩ lk e.length ls:=
 ⟨R.sh,R.keys,R.val,R.tw,λi b=>⟨(R.own i b).1,(R.own i b).2.1,(R.own i b).2.2.1⟩,zY _⟩
theorem Xf.frame(R:Xf jN jO H X lk c ls)(r:Xd jN H' X.S X.d lk' c' X.kvs ls')(f:∀ b o,b≠X.S->b≠X.d->b≠lk->H b=some o->H' b=some o)(j:∀ i:Nat,i∈X.lv->(X.as.getD i .d).ab≠lk'/\(X.as.getD i .d).th≠lk')(q:X.ts.length<=c'):Xf jN jO H' X lk' c' ls':=by
 let⟨⟨s,h⟩,g,m⟩:=R.sh;refine⟨r,R.keys,R.val,λi a=>?_,λi a=>⟨(R.own i a).1,j i a⟩,q⟩;let W:=R.tw i a;let⟨t,n⟩:=W.tw.self;let⟨u,k,_⟩:=W.things;let l:=W.tw.above;let o:=R.own i a;exact W.frame (λb v e=>f b _ (ZW e h) (ZW e g) (ZW e m) e)
  (λp e=>f _ _ o.1 (ZW n g) (ZW n m) e)
  (λp e=>f _ _ (ZW k h) (ZW k g) o.2.2 e)
  (λp e=>f _ _ (ZW l h) (ZW l g) o.2.1 e)
theorem Xf.same(R:Xf jN jO H X lk c ls)(s:ZE H H'):Xf jN jO H' X lk c ls:=R.frame (R.sh.same s) (λb o _ _ _ e=>s b o e) (λi a=>(R.own i a).2) R.le
def GM(X:Zd)(lk b:ai):Prop:=b=X.S\/b=X.d\/b=lk
theorem Xf.but(R:Xf jN jO H X lk c ls){p:ai}(s:ZH p H H')(f:¬ GM X lk p)(a:∀ i:Nat,i∈X.lv->(X.as.getD i .d).x≠p/\(X.as.getD i .d).ab≠p/\(X.as.getD i .d).th≠p)(t:Z6 H H'):Xf jN jO H' X lk c ls:=by
 let⟨⟨g,h⟩,j,k⟩:=R.sh;refine⟨⟨⟨g,s _ _ h λz=>f (.inl z.symm)⟩,s _ _ j λz=>f (.inr (.inl z.symm)),s _ _ k λz=>f (.inr (.inr z.symm))⟩,R.keys,R.val,λi b=>?_,R.own,R.le⟩;exact(R.tw i b).frame t (λo e=>s _ _ e (a i b).1) (λo e=>s _ _ e (a i b).2.2) (λo e=>s _ _ e (a i b).2.1)
theorem Xf.rd(R:Xf jN jO H X lk c ls){i:Nat}(a:i∈X.lv):OB jN jO H X.S X.d lk c X.kvs ls (i:Int) (X.as.getD i .d).x (.ref (X.as.getD i .d).th) (.ref (X.as.getD i .d).tg) (X.as.getD i .d).ab (X.ho i) (iN (X.av i)):=⟨R.sh,R.val i a,(R.tw i a).tw⟩
end
theorem Ag(t:ZP):(if ((t.h:Nat):Int) > 0 then ("stem" : Str) else "leaf")=kindOf t:=by
 unfold kindOf;by_cases h:t.h=0
 ·rw[aK h,aJ ∅]
 ·rw[aJ h,aK ∅]
inductive Yx(jN jO:ai)(k:je)(H:Hp)(Q:VK)(_:XK):Prop
 |mk(X:Zd)(d:ai)(c:Nat)(e:je)(i:Nat)(_:k=[.ref X.S,.int (i:Int)])(_:Xf jN jO H X d c e)(_:i∈X.lv)(_:e.length<=390000)(_:∀(a:Hp)(j l:ai)(g:je),(∀ b o,b≠d->H b=some o->a b=some o)->Xf jN jO a X d c (e++[.int (i:Int)])->a j=some (.tup [.str (kindOf (gd X.ts i)),.ref l])->H l=none->a l=some (.lst g)->((gd X.ts i).h=0->jI a (YI (gd X.ts i).rows) g)->((gd X.ts i).h≠0->g=iN (gd X.ts i).bs)->Q (.ref j) a)
theorem ZNl(D:ZB P w K mg jQ ZM 2 jN "look" zEa (Um jN jO)):ZB P w K mg jQ ZM 2 jN "look" zEa (Yx jN jO):=by
 let⟨g,r,M,F,b⟩:=D.ex;refine⟨g,r,M,F.imp λvs H Q E h=>?_,b⟩;let⟨X,V,c,Y,i,e,R,s,U,k⟩:=h;let W:=R.tw i s;let⟨C,O,u1,u2⟩:=W.things;let⟨a,a1,a0,I,N,k1,k2⟩:=W.tag;cases I;let o:=R.own i s;exists X.S,X.d,V,c,X.kvs,Y,i,_,_,_,_,_,_,C,_,_,e,R.rd s,O,N,Ne.symm o.2.2,Ne.symm o.2.1,U;intro y T t p v x u q;let l:=R.sh.looks;let m:Z6 H y:=λb xs e=>p b _ (ZW e l) e;let⟨⟨G,A⟩,B,_⟩:=R.sh;let J:(if (Zr (gd X.ts i)).h > 0 then ("stem" : Str) else "leaf")=kindOf (gd X.ts i):=Ag _
 rw[J] at q;exact k y t T C p (R.frame ⟨⟨G,p _ _ (ZW A l) A⟩,p _ _ (ZW B l) B,v⟩ (λb o _ _ n e=>p b o n e) (λj L=>(R.own j L).2) R.le) q x u (λz=>(u1 z).mono m _ _) u2
inductive Xt(jN jO:ai)(e:je)(H:Hp)(Q:VK)(_:XK):Prop
 |mk(X:Zd)(a:ai)(c:Nat)(b:je)(i:Nat)(_:e=[.ref X.S,.int (i:Int)])(_:Xf jN jO H X a c b)(_:i∈X.lv)(_:Q (.ref (X.as.getD i .d).tg) H)
theorem ZLU(D:ZB P w K mg jQ ZM 2 jN "label" zEa (Xn jN jO λo _ _=>o)):ZB P w K mg jQ ZM 2 jN "label" zEa (Xt jN jO):=by
 let⟨g,a,M,j,b⟩:=D.ex;refine⟨g,a,M,j.imp λp H Q E h=>?_,b⟩;let⟨X,m,c,n,i,e,R,l,k⟩:=h;exact⟨X.S,X.d,m,c,X.kvs,n,i,_,_,_,_,_,_,e,R.rd l,k⟩
end Tw
namespace L2
open PySem PySem.Spec PyProof.Rows
section
variable{σ:St}{H:Hp}{ix:jj}{te:TE}{Q:VK}
theorem JY{J:It}{n:Nat}{w:TT}(f:Nat->V->Prop)(c:Nat->Bool)(d:ai->Nat->je->Hp->Prop)(M:n<ao)(s:∀ D i a H,i<n->d D i a H->J.go i H)(F:∀ D i a H x k,i<n->d D i a H->J.yld i H x k->k=H/\f i x)(g:∀ D a H,d D n a H->J.stop n H)(B:∀ D,H D=none->d D 0 [] (upd H D (.lst [])))(j:∀ D i a H x,H D=some (.lst a)->i<n->f i x->d D i a H->∀ R:Bool->Hp->Prop,(∀ h,h D=some (.lst a)->d D i a h->R (c i) h)->w (Qw σ ix x) H R)(q:∀ D i a H x,H D=some (.lst a)->i<n->f i x->c i=true->d D i a H->∀ R:VK,(∀ y l,l D=some (.lst a)->d D (i+1) (a++[y]) (upd l D (.lst (a++[y])))->R y l)->te (Qw σ ix x) H R)(G:∀ D i a H,H D=some (.lst a)->i<n->c i=false->d D i a H->d D (i+1) a H)(r:∀ D a H,H D=some (.lst a)->d D n a H->Q (.ref D) H):WH J σ ix w te H Q:=by
 intro D C;exists λi m H=>m=n-i/\i<=n/\∃ a,H D=some (.lst a)/\a.length<=i/\d D i a H,⟨n,rfl,zE _,[],ZZ,zY _,B D C⟩;rintro i m H ⟨rfl,L,a,e,E,p⟩;by_cases b:i<n
 ·refine .inr ⟨s D i a H b p,λx k y=>?_⟩;let⟨rfl,u⟩:=F D i a H x k b p y;refine j D i a _ x e b u p _ λh o v=>?_
  cases t:c i with
  | true=>
   rw[aK rfl];refine q D i a h x o b u t v _ λy l A I=>?_;exact⟨a,n-(i+1),A,∅,∅,Z,b,a++[y],ZZ,by rw[zN,wQ];lia,I⟩
  | false=>
   rw[aJ zW];exact⟨n-(i+1),∅,Z,b,a,o,sC E,G D i a h o b t v⟩
 ·let z:i=n:=∅
  subst z;exact .inl ⟨g D a H p,r D a H e p⟩
end
end L2
namespace Tw
open PySem PySem.Spec L2 PyProof.Rows
variable{jN jO CS CT CH CK CP CB:ai}
def K0(c:jl):Prop:=c.Pairwise λa b=>b.lt a=false
theorem Dl{d:jl}(h:K0 d){i j:Nat}{a b:KT}(l:i<=j)(e:d[i]? = some a)(g:d[j]? = some b):b.lt a=false:=by
 let⟨k,rfl⟩:=zB.mp e;let⟨m,rfl⟩:=zB.mp g;rcases yL i j with c | c
 ·exact rJ.mp h i j k m c
 ·have:i=j:=∅
  subst this;exact V9 _
def cnt(a:jl)(t:KT):Nat:=(a.filter λx=>x.lt t).length
theorem ZPn{ts:jl}{t:KT}{m:Nat}(o:m<=ts.length)(l:∀ i a,i<m->ts[i]? = some a->a.lt t=true)(n:∀ i a,m<=i->ts[i]? = some a->a.lt t=false):cnt ts t=m:=by
 unfold cnt;let e:ts=ts.take m++ts.drop m:=(xA m ts).symm;rw[e,xG,zN];let h:(ts.take m).filter (λx=>x.lt t)=ts.take m:=vX.mpr λa c=>by
  let⟨i,d⟩:=wF c;let b:i<m:=by
   have:=(zB.mp d).1;rw[xU] at this
   lia
  rw[tG,aK b] at d;exact l i a b d
 let k:(ts.drop m).filter (λx=>x.lt t)=[]:=tZ.mpr λa c=>by
  let⟨j,g⟩:=wF c;rw[tH] at g;rw[n (m+j) a (vE _ _) g];exact zW
 rw[h,k,xU];simp
 lia
inductive VP(K:zZ)(d:je)(H:Hp)(Q:VK)(_:XK):Prop
 |mk(l:ai)(b:je)(a:jl)(v:V)(t:KT)(_:d=[.ref l,v])(_:ZG K H l b)(_:jI H a b)(_:∀ t∈a,t.fits 3=true)(_:b.length<=100)(_:K0 a)(_:ZD H t v)(_:t.fits 3=true)(_:∀ c,ZE H c->Q (.int (cnt a t:Nat)) c)
abbrev ZOj:jn:=["keys","key","low","high","middle"]
theorem QJ:ZC ZOj zFq (ZY KC):=Zp
theorem ZKr(F:Zi K "place_in" "place_in" KC f fd)(T:YL mg)(DA:ZA P w K mg jQ 7 "ahead" zE4 Yw):ZI P w K mg jQ ZM 8 f fd zFq (VP K):=by
 refine F.ko QJ λa0 A J s H vs Q E hr h=>?_;let⟨l,n,p,v,t,rfl,X,W,hf,R,S,hv,ht,q⟩:=h;let C:=QJ.nd;let Y:=W.length;intro Xc;refine⟨_,ZL (Zj 2 C ZK)
  (ZL (Zj 3 C (YC Xm rfl T.len Xa (ZT (pv 0))))
  (ZL (Om PassesOwn.never (YX O2 (pv 2) (pv 3) (YG _))
   (ZL (Zj 4 C (Zx LD (Zx VA (pv 2) (pv 3)) ZK))
   (ZR (Z1 (Y5 (Zc DA hr (Zq (Z8 K (pv 0) (pv 4)) (pv 1))))
    (ZR (Zj 2 C (Zx VA (pv 4) ZK))) (ZR (Zj 3 C (pv 4)))))))
  (ZR (Zh (pv 2))))),?_⟩
 exists _,Z,l,n,Z,.inl X;refine⟨λm σ D=>∃(g e:Nat)(x:jf),σ=[some (.ref l),some v,some (.int (g:Int)),some (.int (e:Int)),x]/\ZE H D/\g<=e/\e<=p.length/\m=e-g/\(∀ i a,i<g->p[i]? = some a->a.lt t=true)/\(∀ i a,e<=i->p[i]? = some a->a.lt t=false),
  ⟨_,0,n.length,none,Z,ZE.refl H,zE _,∅,Z,λi a e=>absurd e ∅,λi a e u=>?_⟩,?_⟩
 ·have:=(zB.mp u).1
  lia
 rintro m σ H1 ⟨g,e,x,rfl,r,h1,h2,rfl,N,O⟩;exists _,Z,_,Z,_,_,Z,Z,_,Z;refine Vg (λc=>?_) (λc=>?_)
 ·let a2:(g:Int)<(e:Int):=of_decide_eq_true c;exists λM D=>∃ m',m'<e-g/\∃(k d:Nat)(x:jf),M=[some (.ref l),some v,some (.int (k:Int)),some (.int (d:Int)),x]/\ZE H D/\k<=d/\d<=p.length/\m'=d-k/\(∀ i a,i<k->p[i]? = some a->a.lt t=true)/\(∀ i a,d<=i->p[i]? = some a->a.lt t=false),λ_ _ h=>h;exists _,Z,_,Z,_,_,Z,Z,_,_,Z,Z,⟨∅,by decide⟩
  obtain⟨b,em,j,y⟩:∃ b:Nat,((g:Int)+(e:Int)) / 2=(b:Int)/\g<=b/\b<e:=⟨((g+e) / 2:Nat),∅,∅,∅⟩
  show OR 4 (V.int (((g:Int)+(e:Int)) / 2)) _ _ _;rw[em];let G:b<n.length:=∅
  let B:n[b]? = some n[b]:=by simp[G]
  let⟨L,o,I⟩:=W.get B;refine⟨_,Z,_,Z,.inl ⟨l,n,_,n[b],Z,Z,r.seq X,XH B,_,Z,n[b],v,L,t,Z,I.sm r,hv.sm r,hf L (zL o),ht,λH2 s2=>⟨_,Z,?_⟩⟩⟩
  cases U:L.lt t with
  | true=>
   refine Z7 ⟨_,Z,_,_,Z,Z,e-(b+1),uH (wR j y) (Nat.lt_succ_of_le j),b+1,e,_,Z,r.trans s2,∅,h2,Z,λi a d u=>?_,O⟩
   exact LO (Dl S (show i<=b by lia) u o) U
  | false=>
   refine Zm ⟨_,Z,b-g,Nat.sub_lt_sub_right j y,g,b,_,Z,r.trans s2,j,∅,Z,N,λi a d u=>?_⟩
   exact le_trans' U (Dl S d o u)
 ·let a1:¬ (g:Int)<(e:Int):=λz=>c (aI z);exists _,Z;rw[<-ZPn (ts:=p) (t:=t) (m:=g) ∅ N λi a d=>O i a ∅]
  exact q H1 r
def Xs(a:jk)(k:KT)(i:Nat):Nat:=if (gd a i).h=0 then cnt ((gd a i).rows.map (·.1)) k else ((gd a i).bs.filter λb=>!k.lt (Zr (gd a b)).lo).length-1
def V1(a:jk)(k:KT)(i:Nat):Nat:=(gd a i).bs.getD (Xs a k i) 0
def UZ(a:jk)(k:KT):Nat->Nat->jq
 | 0,i=>[(i,Xs a k i)]
 | n+1,i=>(i,Xs a k i)::UZ a k n (V1 a k i)
theorem ZJ6(a:jk)(k:KT)(n i:Nat):∃ r,UZ a k n i=(i,Xs a k i)::r:=by
 cases n with
 | zero=>exact⟨[],Z⟩
 | succ n=>exact⟨_,Z⟩
theorem LL(a:jk)(k:KT):∀ n i,(UZ a k n i).length=n+1
 | 0,_=>rfl
 | n+1,i=>by rw[UZ,zR,LL]
theorem Fs{gt:jj}{a:jk}(e:WF gt a){i:Nat}(d:i∈gt)(c:(gd a i).h≠0)(k:KT):Xs a k i<(gd a i).bs.length:=by
 have:=(e i d).stem c;unfold Xs;rw[aJ c];let l:=vV (λb=>!k.lt (Zr (gd a b)).lo) (gd a i).bs
 lia
theorem NN{gt:jj}{a:jk}(d:WF gt a){i:Nat}(c:i∈gt)(b:(gd a i).h≠0)(k:KT):V1 a k i∈gt/\(gd a (V1 a k i)).h+1=(gd a i).h/\(gd a i).bs[Xs a k i]? = some (V1 a k i):=by
 let f:=Fs d c b k;let g:=(d i c).stem b;let e:(gd a i).bs[Xs a k i]? = some (V1 a k i):=by
  unfold V1;rw[zV,zQ f];rfl
 have:=g.2.2.1 _ (zL e);exact⟨this.1,this.2,e⟩
inductive Yc(N:ai->Prop)(H:Hp)(t:ZP)(u:V):Prop
 |mk(b l a:_)(_:u=.ref b)(_:H b=some (.tup [.str (kindOf t),.ref l]))(_:H l=some (.lst a))(_:¬ N l)(_:t.h=0->jI H (YI t.rows) a)(_:t.h≠0->a=iN t.bs)
theorem Yc.off{N:ai->Prop}{H a:Hp}{t:ZP}{u:V}(h:Yc N H t u)(c:∀ b o,¬ N b->H b=some o->a b=some o)(m:Z6 H a):Yc N a t u:=by
 let⟨j,l,k,e,d,f,n,g,i⟩:=h;exact⟨j,l,k,e,m _ _ d,c _ _ n f,n,λz=>(g z).mono m _ _,i⟩
theorem Yc.same{N:ai->Prop}{H a:Hp}{t:ZP}{u:V}(h:Yc N H t u)(s:ZE H a):Yc N a t u:=h.off (λb o _ e=>s b o e) (ZE.tups s)
theorem ZII{t:ZP}(h:t.h=0):kindOf t = "leaf" :=aK h
theorem ZIy{t:ZP}(h:t.h≠0):kindOf t = "stem" :=aJ h
theorem ZNz(t:ZP):decide (V.str (kindOf t)=V.str "leaf")=decide (t.h=0):=by
 by_cases h:t.h=0
 ·rw[ZII h,aI rfl,aI h]
 ·rw[ZIy h,aH h];decide +kernel
theorem ZO7{gt:jj}{c:jk}(e:WF gt c){i:Nat}(d:i∈gt):K0 ((gd c i).rows.map (·.1)):=(e i d).up.imp fun{a b} q=>Pm _ _ q
inductive Yb(a:je)(H:Hp)(Q:VK)(_:XK):Prop
 |mk(N:ai->Prop)(t:ZP)(u:V)(_:a=[u])(_:Yc N H t u)(_:Q (.bl (decide (t.h=0))) H)
theorem C8:ZC zFk zFk (ZY Je):=Zp
theorem Ce(F:Zi K "is_leaf" "is_leaf" Je f fd):ZI P w K mg jQ ZM 1 f fd zFk Yb:=by
 refine F.ko C8 λb A a s H m Q E g h=>?_;let⟨i,t,u,rfl,⟨d,l,j,rfl,c,_⟩,k⟩:=h;intro e;exists _,ZR (Zh (Vs Vp (Xe K (pv 0) ZK) Ue (YG _)));exists _,Z,d,_,_,.str (kindOf t),Z,Z,Zs.of c,Z,Z;rw[ZNz];exact k
inductive XZ(a:je)(H:Hp)(Q:VK)(_:XK):Prop
 |mk(N:ai->Prop)(t:ZP)(u:V)(n:Nat)(_:a=[u,.int (n:Int)])(_:Yc N H t u)(_:t.h=0->Q .non H)(_:t.h≠0->∃ b,t.bs[n]? = some b/\Q (.int (b:Nat)) H)
theorem Ci:ZC zFm zFm (ZY Kb):=Zp
theorem ZGB(F:Zi K "branch_at" "branch_at" Kb f fd)(d:ZA P w K mg jQ 1 "is_leaf" zFk Yb):ZI P w K mg jQ ZM 2 f fd zFm XZ:=by
 refine F.ko Ci λe A a s H D Q E o h=>?_;let⟨v,t,u,n,rfl,c,p,r⟩:=h;intro y;exists _,ZL (Z1 (Y5 (Zc d o (ZT (pv 0)))) (ZR (Zh Pl)) Z5) (ZR (Zh (Z8 K (Xe K (pv 0) ZK) (pv 1))));exists _,Z,v,t,u,Z,c,_,Z;let⟨x,l,C,rfl,j,k,B,z,m⟩:=c;by_cases h:t.h=0
 ·rw[aI h];exact Z7 (p h)
 ·rw[aH h];let⟨b,g,q⟩:=r h;let i:=m h;subst i;refine Zm ⟨_,Z,x,_,_,.ref l,Z,Z,Zs.of j,Z,_,Z,.inl ⟨l,_,_,.int (b:Nat),Z,Z,ZG.of k,XH (by unfold iN;rw[zG,g];rfl),q⟩⟩
inductive Wj(jN jO:ai)(e:je)(H:Hp)(Q:VK)(_:XK):Prop
 |mk(X:Zd)(b:ai)(c:Nat)(d:je)(i:Nat)(u v:V)(k:KT)(N:ai->Prop)(_:e=[.ref X.S,u,v])(_:Xf jN jO H X b c d)(_:WF X.lv X.ts)(_:i∈X.lv)(_:Yc N H (gd X.ts i) u)(_:ZD H k v)(_:k.fits 3=true)(_:∀ a,ZE H a->Q (.int (Xs X.ts k i:Nat)) a)
theorem UE:ZC ["shelf","found","key","begun"] zFg (ZY KM):=Zp
theorem Nk{a:Type}(p:a->Bool){l:List a}{i:Nat}{b:a}(e:l[i]? = some b):(l.take (i+1)).filter p=(l.take i).filter p++(if p b=true then [b] else []):=by
 rw[yR,e,Option.toList_some,xG]
 congr 1
 rw[xJ];cases p b <;> rfl
theorem ZJJ(F:Zi K "place_within" "place_within" KM f fd)(T:YL mg)(L:YT K mg jN jO)(DL:ZA P w K mg jQ 1 "is_leaf" zFk Yb)(DP:ZA P w K mg jQ 8 "place_in" zFq (VP K))(DA:ZA P w K mg jQ 7 "ahead" zE4 Yw)(DB:ZB P w K mg jQ ZM 2 jN "label" zEa (Xt jN jO)):
  ZI P w K mg jQ ZM 9 f fd zFg (Wj jN jO):=by
 refine F.ko UE λc0 A a9 s H vs Q E hr h=>?_;let⟨X,lk,c,ls,i,u,v,k,N,rfl,R,hw,hi,hf,hv,fk,q⟩:=h;let nd:=UE.nd;let a4:=hr.to 1;let a5:=hr.to 2;let a6:=hr.to 7;let⟨t1,m1⟩:=T.least;intro Xc;refine⟨_,ZL (Z1 (Y5 (Zc DL a4 (ZT (pv 1)))) (ZR (Zh (Zc DP hr (Zq (Vn [] [] rfl (WD (Xe K (pv 1) ZK)) (λ_ _ _ _ _=>U0) (λ_ _ _ _ _=>Xe K (pv 0) ZK) trivial) (pv 2))))) Z5)
  (ZL (LF (i:=3) [2,0] ["key","shelf"] nd rfl rfl rfl (WD (Xe K (pv 1) ZK)) (λ_ _ _ _ _=>Od (Vl (Y5 (Zc DA a6 (Zq (pv 1) (Xe K (Z0 (E:=E0) (pv 2) L.cS DB a5 Z3 (ZT (pv 0))) (WL (v:=.int 1) rfl m1 ⟨_,rfl⟩))))))) (λ_ _ _ _ _=>pv 0) ⟨rfl,.inl rfl,rfl,rfl,.inl rfl,rfl,trivial⟩)
  (ZR (Zh (YC (IU rfl) rfl T.max KI (Zq (Zx VE (YC Xm rfl T.len Xa (ZT (pv 3))) ZK) ZK))))),?_⟩
 exists _,Z,N,gd X.ts i,u,Z,hf,_,Z;let⟨tp,l,p,rfl,h1,I,n1,h3,h4⟩:=hf;let ok:=hw i hi;by_cases h:(gd X.ts i).h=0
 ·rw[aI h];let kr:=h3 h;let lr:p.length=(gd X.ts i).rows.length:=by have:=kr.length;rw[<-this];exact zX _
  let l4:=(ok.leaf h).2;refine Z7 ⟨_,Z,tp,_,_,.ref l,Z,Z,Zs.of h1,Z,l,Z,⟨p,ZG.of I⟩,Ud (n:=p.length) (λi z=>p[i]? = some z) (λD j g m=>ZE H m/\H D=none/\jI H (((gd X.ts i).rows.map (·.1)).take j) g) (XX ∅)
   (λD j g m G d=>⟨p,p[j],ZG.of (d.1 _ _ I),by simp[G]⟩) (λD j g m z W G d hy=>⟨hy.1,hy.2 p (ZG.of (d.1 _ _ I))⟩) (λD g m d=>⟨p,ZG.of (d.1 _ _ I),zY _⟩)
   (λD Y=>⟨Zv Y _,Y,.nil⟩) (λD j g m z C c1 G V d RR a1=>?_) (λD g m C d=>?_)⟩
  ·let⟨o,y,x⟩:=d;let⟨a,vk,vv,er,rfl,ea,k1,k2⟩:=P6 kr V;refine⟨_,Z,a,_,_,vk,Z,Z,Zs.of (o _ _ ea),Z,a1 _ m C ⟨Uq o y,y,?_⟩⟩;rw[yR,zG,er];exact x.append (.cons k1 .nil)
  ·let⟨o,y,x⟩:=d;rw[yV (by rw[zX];lia)] at x
   let a7:=x.length;rw[zX] at a7;refine⟨_,Z,D,g,_,v,k,Z,ZG.of C,x.sm o,λt ht=>?_,∅,ZO7 hw hi,hv.sm o,fk,λW s4=>?_⟩
   ·let⟨r,a3,rfl⟩:=zP.mp ht;exact(ok.inn r a3).1
   ·let e:Xs X.ts k i=cnt ((gd X.ts i).rows.map (·.1)) k:=aK h;rw[<-e];exact q W (o.trans s4)
 ·rw[aH h];let eu:=h4 h;let ob:=ok.stem h;let lu:p.length=(gd X.ts i).bs.length:=by rw[eu];exact zX _
  refine Zm ⟨_,Z,tp,_,_,.ref l,Z,Z,Zs.of h1,Z,l,Z,⟨p,ZG.of I⟩,JY (n:=p.length) (λi z=>p[i]? = some z) (λj=>!k.lt (Zr (gd X.ts ((gd X.ts i).bs.getD j 0))).lo) (λD j g m=>ZE H m/\H D=none/\g.length=(((gd X.ts i).bs.take j).filter λb=>!k.lt (Zr (gd X.ts b)).lo).length) (XX ∅)
   (λD j g m G d=>⟨p,p[j],ZG.of (d.1 _ _ I),by simp[G]⟩) (λD j g m z W G d hy=>⟨hy.1,hy.2 p (ZG.of (d.1 _ _ I))⟩) (λD g m d=>⟨p,ZG.of (d.1 _ _ I),zY _⟩)
   (λD Y=>⟨Zv Y _,Y,Z⟩) (λD j g m z C G V d B hB=>?_) (λD j g m z C G V hk d B hB=>?_) (λD j g m C G hk d=>?_) (λD g m C d=>?_)⟩
  ·let⟨o,y,J⟩:=d;rw[eu] at V;let⟨b,M,rfl⟩:=MR V;let O:(gd X.ts i).bs.getD j 0=b:=by rw[zV,M];rfl
   let hb:=ob.2.2.1 b (zL M);let U:b∈X.lv:=hb.1;let R3:=R.same o;let⟨dx,hS⟩:=R3.sh.self;let⟨a,a0,c2,ea,ht,k1,k2⟩:=(R3.tw b U).tag;cases ea;let a8:=hw b U;refine⟨_,Z,_,Z,X.S,dx,_,Z,hS,Z,_,Z,X,lk,c,ls,b,Z,R3,U,_,_,_,a0,Z,Z,Zs.of ht,Z,v,a0,k,(Zr (gd X.ts b)).lo,Z,hv.sm o,k1,fk,(N0 a8).1,λW s4=>⟨_,Z,?_⟩⟩;have:=hB W (s4 _ _ C) ⟨o.trans s4,y,J⟩;rw[O] at this;exact this
  ·let⟨o,y,J⟩:=d;rw[eu] at V;let⟨b,M,rfl⟩:=MR V;let O:(gd X.ts i).bs.getD j 0=b:=by rw[zV,M];rfl
   rw[O] at hk;refine⟨_,Z,hB _ m C ⟨Uq o y,y,?_⟩⟩;rw[Nk _ M,aK hk,zN,zN,J];rfl
  ·let⟨o,y,J⟩:=d;let a2:j<(gd X.ts i).bs.length:=∅
   let M:(gd X.ts i).bs[j]? = some ((gd X.ts i).bs.getD j 0):=by rw[zV,zQ a2];rfl
   exists o,y;rw[Nk _ M,aJ (by rw[hk];exact zW),yS]
   exact J
  ·let⟨o,y,J⟩:=d;rw[yV ∅] at J
   exists _,Z,D,g,Z,.inl (ZG.of C),_,_,Z,Z,_,_,Z;let e:Xs X.ts k i=g.length-1:=by rw[J];exact aJ h
   let e2:(if (0:Int) > ((g.length:Nat):Int)-1 then (0:Int) else ((g.length:Nat):Int)-1)=((Xs X.ts k i:Nat):Int):=by
    rw[e];split <;> lia
   have:=q m o;rw[<-e2] at this;exact this
end Tw
namespace L2
open PySem PySem.Spec PyProof.Rows
section
variable{M:Model}
end
section
variable{jP:jo}{σ:St}{H:Hp}{E E1:XK}
end
section
variable{M:Model}{B:aC}{env:Env}{outer l:jt}{L e:ai}{cls:ah}{od:ju}{Q:Unit->aj->Prop}
end
section
variable{jP:jo}{σ:St}{H:Hp}{E E1:XK}
end
section
variable{E:XK}
theorem Bs{x:Str}{C:ai}{S c l:Pos}(F:QU X E)(O:OwnCls x C [.type "ValueError",.type "Exception",.type "BaseException",.type "object"] "ValueError.__new__" X.mg X.base)(Q:yG X.K (.ref C)=true)(R:xY X.K C (.type "BaseException")=some true)(P:wV X.K (.ref C)=some (.type "type"))(L:Gl X x)(j:(x==("__debug__" : Str))=false:=by decide):
  PS X (.Raise (some (.Call (.Name x S) [] [] c)) none l) (λ_ _ H=>E (.ref C) none H):=by
 intro r s σ H D I h;let M:=I.ok.hd F.calm;rw[arm_exec_Raise];refine aa (wpAny_standAt ?_);refine ZH2 M R P (aa (ae ?_ (λv s3 A=>aa (wpAny_standAt (ad A))) λ_ _ z=>z));let i:=PySem.F.excBase_ValueError;let⟨tl,N,nm,q,bs,n,sn,V,Y,t,dd,k0,k1,k2,k3,k5,mN,B,G,k,T⟩:=O.obj;refine ag (NP I L O.bound ?_ j);refine sT I.kIn Q ?_;let⟨hp,g,d,tk,os⟩:=s;refine wpAny_call_exc_subU (rest:=[]) i i.hasB i (T.keeps I.bk) (I.bk _ _ B) (G.keeps I.bk) k (λw b e=>?_) (zE _);let⟨tt,u,e2,e3⟩:=e.there;let J:=I.newx (C:=C) (ea:=b) (h':=w) e.keeps e.new ⟨_,_,u,Z,Z,Z,Z,Z⟩;let p:H b=none:=by
  cases z:H b with
  | none=>rfl
  | some o=>
   let⟨U,m⟩:=I.hok.there (a:=b) (by rw[z];exact λy=>nomatch y)
   have:=e.new;rw[m] at this;cases this
 let f:X.s₀.heap.get? b=none:=by
  cases z:X.s₀.heap.get? b with
  | none=>rfl
  | some o=>
   let⟨U,m⟩:=I.base.there b o z (by rw[F.ex];simp)
   have:=e.new;rw[m] at this;cases this
 exact⟨b,none,Z,J.kIn,(J.hok b _ ZZ).1,ZMj F (J.untrack p) f p (J.hok b _ ZZ).1 h⟩
end
end L2
namespace Tw
open PySem PySem.Spec L2 PyProof.Rows
variable{jN jO CS CT CH CK CP CB:ai}
def Qe(N:ai->Prop)(H:Hp)(o:jF)(v:V):Prop:=match o with
 | some t=>ZD H t v/\t.fits 3=true
 | none=>∃ g:TG,Zz N H g v/\g.neat/\g.fits 3=false
theorem Qe.tg{N:ai->Prop}{H:Hp}{v:V}{o:jF}(h:Qe N H o v):∃ g:TG,Zz N H g v/\g.neat/\g.fits 3=o.isSome:=by
 cases o with
 | some t=>exact⟨t.emb,IQ t v h.1,IX t 3 h.2,by rw[JL];exact h.2⟩
 | none=>exact h
structure W0(P:ak)(w:ar)(K:zZ)(mg:jb)(jQ:aC)(k:Nat)(x:Str)(ps:jn)(sp:Sp):Prop where
 ex:∃ f fd,ZI P w K mg jQ (Yd P w) k f fd ps sp/\Zt K fd ps []/\yG K (.ref f)=true/\mg x=some (.ref f)
theorem ZX.ofD{P:ak}{w:ar}{K:zZ}{d:jb}{a:aC}{x:Str}{i:aB}{e:jn}{k:Nat}{g:Sp}(L:ZX K d x i e)(h:∀ f c,Zi K x x i f c->ZI P w K d a (Yd P w) k f c e g):W0 P w K d a k x e g:=by
 let⟨f,c,F,b,m⟩:=L.ex;exact⟨f,c,h f c F,b,F.kp,m⟩
theorem Mw{X:Cx}{E:XK}{k:Nat}{x:Str}{s:jn}{i:Sp}{e:Expr}{a:jw}{t:TA}{p c:Pos}(F:QU X E)(D:W0 X.prog X.w X.K X.mg X.base k x s i)(q:ZU k X.A)(l:PA X (e::a) t)(o:Gl X x:=by rfl)(d:(x==("__debug__" : Str))=false:=by decide)(n:aq (e::a) X.env=(false,aF e X.env)::aq a X.env:=by rfl)(g:(aE c (aq a X.env)).any (·.1)=false:=by rfl):
  PE X (.Call (.Name x p) (e::a) [] c) (Ja i [] E t):=by
 let⟨f,u,j,b,r,m⟩:=D.ex;exact Dk j q o m r b .nil (JC F λ_ _ _ h=>h) l d n g
structure CF(K:zZ)(mg:jb)(CK:ai):Prop where
 at_:mg "NoKey" = some (.ref CK)
 exk:Kv K CK=true
 kp:yG K (.ref CK)=true
 mB:xY K CK (.type "BaseException")=some true
 ty:wV K (.ref CK)=some (.type "type")
def XJ:jp->V
 | none=>.non
 | some i=>.int (i:Int)
def Uc(a:jk)(k:KT):jp->jq
 | none=>[]
 | some i=>UZ a k (gd a i).h i
inductive Y2(N:ai->Prop)(H:Hp)(b:jk)(p:Nat×Nat)(u:V):Prop
 |mk(t a:_)(_:u=.ref t)(_:H t=some (.tup [.int (p.1:Int),.int (p.2:Int),a]))(_:Yc N H (gd b p.1) a)
theorem Y2.off{N:ai->Prop}{H a:Hp}{c:jk}{p:Nat×Nat}{u:V}(h:Y2 N H c p u)(d:∀ b o,¬ N b->H b=some o->a b=some o)(m:Z6 H a):Y2 N a c p u:=by
 let⟨t,f,e,g,i⟩:=h;exact⟨t,f,e,m _ _ g,Yc.off i d m⟩
inductive Y3(CK:ai)(b:je)(H:Hp)(Q:VK)(E:XK):Prop
 |mk(v:V)(N:ai->Prop)(o:jF)(_:b=[v])(_:Qe N H o v)(_:o.isSome=true->∀ a,ZE H a->Q v a)(_:o=none->∀ a,ZE H a->E (.ref CK) none a)
theorem ZGN(F:Zi K "checked" "checked" M8 f fd)(a:K.In jQ)(L:CF K mg CK)(e:ZA P w K mg jQ 6 "is_key" zEu Xr):ZI P w K mg jQ (Yd P w) 7 f fd zEu (Y3 CK):=by
 refine F.kD Gh λi A b s H u Q E k h=>?_;let⟨v,N,o,rfl,l,m,n⟩:=h;intro r;exists _,ZL (Z1 (Vl (Y5 (Zc e k (ZT (pv 0))))) (ZR (Bs NJ (ZNK a L.at_ L.exk) L.kp L.mB L.ty rfl)) Z5) (ZR (Zh (pv 0)));let⟨g,q,p,j⟩:=l.tg;refine⟨_,Z,v,g,N,Z,q,p,λc d=>⟨_,Z,?_⟩⟩;rw[j]
 cases o with
 | some t=>exact Zm ⟨_,Z,m Z c d⟩
 | none=>exact Z7 (n Z c d)
inductive YW(jN jO CK:ai):Sp
 |mk{X:Zd}{b:ai}{c:Nat}{d:je}{r:jp}{v:V}{N:ai->Prop}{o:jF}{H:Hp}{Q:VK}{E:XK}:Xf jN jO H X b c d->(∀ i,r=some i->i∈X.lv)->Qe N H o v ->
  (o=none->∀ a,ZE H a->E (.ref CK) none a)->(o.isSome=true->∀ a,ZE H a->Q .non a)->YW jN jO CK [.ref X.S,XJ r,v] H Q E
theorem ZFC:ZC zEd zEd (ZY Lz):=Zp
theorem ZEV(F:Zi K "check_asked" "check_asked" Lz f fd)(L:YT K mg jN jO)(m:ZB P w K mg jQ ZM 2 jN "label" zEa (Xt jN jO))(l:W0 P w K mg jQ 7 "checked" zEu (Y3 CK)):ZI P w K mg jQ (Yd P w) 8 f fd zEd (YW jN jO CK):=by
 refine F.kD ZFC λp A g s H G Q E k h=>?_;let⟨R,d,u,x,y⟩:=h;rename_i X B c C r v N o
 let e:=k.to 2;intro D;refine⟨_,ZL (Z1 (Pa (M6 (pv 1))) (ZR (Ye (Z0 (E:=E0) (pv 0) L.cS m e Z3 (ZT (pv 1))))) Z5)
  (ZR (Ye (Mw NJ l k (ZT (pv 2))))),?_⟩
 let a:Y3 CK ([v]++[]) H (λ_ n=>Q .non n) E:=⟨v,N,o,Z,u,λz b j=>y z b j,λz b j=>x z b j⟩
 cases r with
 | none=>exact⟨_,Z,_,Z,Zm ⟨_,Z,a⟩⟩
 | some i=>
  refine⟨_,Z,_,Z,Z7 ?_⟩;let⟨q,t⟩:=R.sh.self;exact⟨_,Z,X.S,q,_,Z,t,Z,_,Z,X,B,c,C,i,Z,R,d i Z,_,Z,a⟩
def Z2(X:Zd)(a c:ai):Prop:=c≠X.S/\c≠X.d/\c≠a/\∀ i,i∈X.lv->c≠(X.as.getD i .d).x/\c≠(X.as.getD i .d).ab/\c≠(X.as.getD i .d).th
def OU(X:Zd)(a D b:ai):Prop:=b=D\/¬ Z2 X a b
theorem Xf.newQ{jN jO:ai}{H:Hp}{X:Zd}{d:ai}{c:Nat}{m:je}(R:Xf jN jO H X d c m){b:ai}(n:H b=vS):Z2 X d b:=by
 let⟨⟨e,h⟩,j,k⟩:=R.sh;exists (Zg h n).symm,(Zg j n).symm,(Zg k n).symm;intro i a;let⟨e,l⟩:=(R.tw i a).tw.self;let⟨o,g,_⟩:=(R.tw i a).things;exact⟨(Zg l n).symm,(Zg (R.tw i a).tw.above n).symm,(Zg g n).symm⟩
structure Oi(jN jO:ai)(H:Hp)(X:Zd)(lk:ai)(c:Nat)(ls:je)(r:jp):Prop where
 sh:Xf jN jO H X lk c ls
 wf:WF X.lv X.ts
 low:∀ i,r=some i->(gd X.ts i).h<=300
 few:ls.length<=380000
 hi:∀ i,r=some i->i∈X.lv
def Qd(p:jq):je:=p.map λs=>V.int (s.1:Int)
inductive XM(jN jO CK:ai):Sp
 |mk{X:Zd}{d:ai}{c:Nat}{e:je}{r:jp}{v:V}{N:ai->Prop}{o:jF}{H:Hp}{Q:VK}{E:XK}:Oi jN jO H X d c e r->Qe N H o v->(o=none->∀ a,ZE H a->E (.ref CK) none a) ->
  (∀ k,o=some k->∀(a:Hp)(D:ai)(g:je),(∀ b o,b≠d->H b=some o->a b=some o)->Xf jN jO a X d c (e++Qd (Uc X.ts k r))->H D=none->D≠d->a D=some (.lst g)->Paired (Y2 (OU X d D) a X.ts) (Uc X.ts k r) g->Q (.ref D) a) ->
  XM jN jO CK [.ref X.S,XJ r,v] H Q E
abbrev ZPm:jn:=["shelf","root","key","steps","number","found","at"]
theorem QB:ZC ZPm zEd (ZY Jx):=Zp
def BK(b:jk)(a:jp):Nat:=match a with | none=>0 | some j=>(gd b j).h+1
inductive Fy(jN jO:ai)(H:Hp)(X:Zd)(lk:ai)(c:Nat)(ls:je)(rn:jp)(v:V)(k:KT)(D:ai):Nat->L2.St->Hp->Prop
 |mk{cur:jp}{pre:jq}{us:je}{x5 x6:jf}{H':Hp}:(∀ j,cur=some j->j∈X.lv)->Uc X.ts k rn=pre++Uc X.ts k cur->(∀ b o,b≠lk->H b=some o->H' b=some o)->Xf jN jO H' X lk c (ls++Qd pre)->H' D=some (.lst us)->Paired (Y2 (OU X lk D) H' X.ts) pre us ->
  Fy jN jO H X lk c ls rn v k D (BK X.ts cur) [some (.ref X.S),some (XJ rn),some v,some (.ref D),some (XJ cur),x5,x6] H'
theorem CJ(F:Zi K "steps_to" "steps_to" Jx f fd)(L:YT K mg jN jO)(DC:W0 P w K mg jQ 8 "check_asked" zEd (YW jN jO CK))(DL:ZB P w K mg jQ ZM 2 jN "look" zEa (Yx jN jO))(DP:ZA P w K mg jQ 9 "place_within" zFg (Wj jN jO))(DB:ZA P w K mg jQ 2 "branch_at" zFm XZ):
  ZI P w K mg jQ (Yd P w) 10 f fd zEd (XM jN jO CK):=by
 refine F.kD QB λe0 A c8 s H vs Q E hr h=>?_;let⟨I,hv,no,q⟩:=h;rename_i X r c ls rn v N o
 let nd:=QB.nd;let a4:=hr.to 2;let c3:=hr.to 8;intro Xc;refine⟨_,ZL (Ye (Mw NJ DC c3 (Vm (pv 0) (pv 1) (pv 2))))
  (ZL (Zj 3 nd (Yr Zn))
  (ZL (Zj 4 nd (pv 1))
  (ZL (Om De (Pa (M6 (pv 4)))
   (ZL (Zj 5 nd (Z0 (E:=E0) (pv 0) L.cS DL a4 Z3 (ZT (pv 4))))
   (ZL (Zj 6 nd (Zc DP hr (Vm (pv 0) (pv 5) (pv 2))))
   (ZL (Ye (QS xW wO wN PY (pv 3) (ZT (VC (Vm (pv 4) (pv 6) (pv 5))))))
   (ZR (Zj 4 nd (Zc DB a4 (Zq (pv 5) (pv 6)))))))))
  (ZR (Zh (pv 3)))))),?_⟩
 refine⟨_,Z,_,Z,_,Z,.mk (N:=N) (o:=o) I.sh I.hi hv no λgo H1 s1=>?_⟩;let c4:=I.hi;let⟨k,rfl⟩:=tV.mp go;let⟨kv,fk⟩:=hv;let R1:=I.sh.same s1;exists YS;intro D Y;let gD:=Zv Y (.lst []);let eD:=ZZ (H:=H1) (a:=D) (o:=.lst []);let a7:H D=none:=s1.free Y;let R:D≠r:=(Zg R1.sh.looks Y).symm;let R2:=R1.same gD;let s2:=s1.trans gD;generalize upd H1 D (.lst [])=H2 at gD eD R2 s2⊢;exists _,Z;let hw:=I.wf;exists Fy jN jO H X r c ls rn v k D,⟨_,.mk (cur:=rn) c4 Z (λb o _ e=>s2 b o e) (by rw[show Qd []=[] from rfl,yS];exact R2) eD .nil⟩
 rintro _ _ H3 (@⟨a8,g,G,x5,x6,_,a2,p,fr,R3,T,U⟩)
 cases a8 with
 | none=>
  refine⟨_,Z,_,Z,Zm ?_⟩;let e':Uc X.ts k rn=g:=by rw[p];exact yS _
  exact⟨_,Z,q k Z H3 D G fr (by rw[e'];exact R3) a7 R T (by rw[e'];exact U)⟩
 | some j=>
  let hj:=a2 j Z;let c9:g.length+((gd X.ts j).h+1)<=301:=by
   let e:=congrArg wM p;rw[zN] at e;let e1:(Uc X.ts k (some j)).length=(gd X.ts j).h+1:=LL _ _ _ _;let e2:(Uc X.ts k rn).length<=301:=by
    cases rn with
    | none=>exact zE _
    | some i=>
     have:(Uc X.ts k (some i)).length=(gd X.ts i).h+1:=LL _ _ _ _;have:=I.low i Z
     lia
   lia
  let e3:=I.few;let lw:(Qd g).length=g.length:=zX _;let e5:=Paired.length U;refine⟨_,Z,_,Z,Z7 ⟨_,λ_ _ z=>z,?_⟩⟩;let⟨dx,hS⟩:=R3.sh.self;exists _,Z,X.S,dx,_,Z,hS,Z,_,Z,X,r,c,_,j,Z,R3,hj,by rw[zN];lia
  intro H4 u l ws C R4 a5 nl hl w1 w2;let M:=R3.sh.looks;let a6:Z6 H3 H4:=λb xs e=>C b _ (ZW e M) e;let e4:l≠r:=(Zg M nl).symm;let lD:l≠D:=λz=>by rw[z,T] at nl;cases nl
  let lN:¬ OU X r D l:=λz=>z.elim lD λy=>y (R3.newQ nl);let c2:Yc (OU X r D) H4 (gd X.ts j) (.ref u):=⟨u,l,ws,Z,a5,hl,lN,w1,w2⟩;let c6:Z6 H H3:=λb xs e=>fr b _ (ZW e I.sh.sh.looks) e;let c5:=(kv.mono c6 _ _).mono a6 _ _;exists _,Z,_,Z,_,Z,X,r,c,_,j,.ref u,v,k,_,Z,R4,hw,hj,c2,c5,fk;intro H5 s5;let a0:=s5 _ _ (C _ _ R T);exists _,Z,.inl ⟨Z,_,ZG.of a0⟩,_,Z,_,Z,_,Z,YS;intro t nt;let g6:=Zv nt (.tup [XJ (some j),.int ((Xs X.ts k j:Nat):Int),.ref u]);let et:=ZZ (H:=H5) (a:=t) (o:=.tup [XJ (some j),.int ((Xs X.ts k j:Nat):Int),.ref u]);let m:=s5.trans g6;generalize upd H5 t (.tup [XJ (some j),.int ((Xs X.ts k j:Nat):Int),.ref u])=J at g6 et m⊢;let B:=g6 _ _ a0;exists D,G,.ref t,Z,Z,B,nn ∅
  let sD:ZH D J (upd J D (.lst (G++[.ref t]))):=(ZH.refl D J).upd;let tD:=sD.tups B;let R6:=R4.same m;let ND:¬ GM X r D:=by
   let⟨⟨dS,c0⟩,c1,_⟩:=R6.sh;rintro(z | z | z)
   ·exact ZW B c0 (by intro z;cases z) z
   ·exact ZW B c1 (by intro z;cases z) z
   ·exact R z
  let oD:∀ i:Nat,i∈X.lv->(X.as.getD i .d).x≠D/\(X.as.getD i .d).ab≠D/\(X.as.getD i .d).th≠D:=λi hi=>by
   let W:=R1.tw i hi;let⟨dy,hy⟩:=W.tw.self;let⟨e6,e1,_⟩:=W.things;exact⟨Zg hy Y,Zg W.tw.above Y,Zg e1 Y⟩
  let R7:=R6.but sD ND oD tD;let a9:∀ b o,b≠r->H3 b=some o->b≠D->upd J D (.lst (G++[.ref t])) b=some o:=λb o n e nb=>by rw[ZS nb];exact m _ _ (C b o n e)
  let c7:Z6 H3 (upd J D (.lst (G++[.ref t]))):=λb xs e=>tD b xs (m _ _ (a6 b xs e));let a3:Yc (OU X r D) (upd J D (.lst (G++[.ref t]))) (gd X.ts j) (.ref u):=by
   exact⟨u,l,ws,Z,tD _ _ (m _ _ a5),by rw[ZS lD];exact m _ _ hl,lN,λz=>((w1 z).sm m).mono tD _ _,w2⟩
  let O:Paired (Y2 (OU X r D) (upd J D (.lst (G++[.ref t]))) X.ts) (g++[(j,Xs X.ts k j)]) (G++[.ref t]):=by
   refine IS (a:=(j,Xs X.ts k j)) ⟨t,.ref u,Z,tD _ _ et,a3⟩ (Paired.mapP U λ_ _ z=>Y2.off z (λb o n e=>a9 b o (λz=>n (.inr λy=>y.2.2.1 z)) e λz=>n (.inl z)) c7)
  let ew:ls++Qd g++[V.int (j:Int)]=ls++Qd (g++[(j,Xs X.ts k j)]):=by unfold Qd;simp
  rw[ew] at R7;let a1:∀ b o,b≠r->H b=some o->upd J D (.lst (G++[.ref t])) b=some o:=λb o n e=>by rw[ZS (Zg e a7)];exact m _ _ (C b o n (fr b o n e))
  refine⟨_,Z,_,Z,_,gd X.ts j,.ref u,Xs X.ts k j,Z,a3,λh0=>?_,λh0=>?_⟩
  ·refine⟨_,Nat.succ_pos _,.mk (cur:=none) (λi z=>by cases z) ?_ a1 R7 ZZ O⟩
   rw[p];show g++UZ X.ts k (gd X.ts j).h j=_;rw[h0];exact(yS _).symm
  ·let⟨n1,n2,n3⟩:=NN hw hj h0 k;refine⟨V1 X.ts k j,n3,_,Nat.succ_lt_succ ∅,.mk (cur:=some (V1 X.ts k j)) (λi z=>by cases z;lia) ?_ a1 R7 ZZ O⟩
   rw[p];show g++UZ X.ts k (gd X.ts j).h j=_;rw[<-n2,xH];rfl
def WI(a:jk):Nat->Nat->jj
 | 0,i=>[i]
 | n+1,i=>i::(gd a i).bs.flatMap (WI a n)
def W9(a:jk):jp->jj
 | none=>[]
 | some i=>WI a (gd a i).h i
inductive RcAt(N:ai->Prop)(H:Hp)(b:jk)(i:Nat)(u:V):Prop
 |mk(t a:_)(_:u=.ref t)(_:H t=some (.tup [.int (i:Int),a]))(_:Yc N H (gd b i) a)
theorem RcAt.off{N:ai->Prop}{H a:Hp}{c:jk}{i:Nat}{u:V}(h:RcAt N H c i u)(d:∀ b o,¬ N b->H b=some o->a b=some o)(m:Z6 H a):RcAt N a c i u:=by
 let⟨t,f,e,g,j⟩:=h;exact⟨t,f,e,m _ _ g,j.off d m⟩
theorem ZPR{c d:Type}{F:c->d->Prop}{l a:List c}{m b:List d}(h:Paired F l m)(g:Paired F a b):Paired F (l++a) (m++b):=by
 induction h with
 | nil=>exact g
 | cons r _ e=>exact .cons r e
def NL(H:Hp)(a D b:ai):Prop:=b=a\/H b≠none\/b=D
inductive YO(n:Nat)(jN jO:ai):Sp
 |mk{H:Hp}{Q:VK}{E:XK}(X:Zd)(d:ai)(c:Nat)(e:je)(r:jp):Xf jN jO H X d c e->WF X.lv X.ts->(∀ i,r=some i->i∈X.lv/\(gd X.ts i).h<=n)->(e.length+(W9 X.ts r).length<=380000/\(W9 X.ts r).length<=900) ->
  (∀(a:Hp)(D:ai)(g:je),(∀ b o,b≠d->H b=some o->a b=some o)->Xf jN jO a X d c (e++iN (W9 X.ts r))->H D=none->D≠d->a D=some (.lst g)->Paired (RcAt (NL H d D) a X.ts) (W9 X.ts r) g->Q (.ref D) a)->YO n jN jO [.ref X.S,XJ r] H Q E
inductive Fz(jN jO:ai)(X:Zd)(d:ai)(c:Nat)(e:je)(i m:Nat)(g D l:ai)(H:Hp)(j:Nat)(k:L2.St)(a:Hp):Prop
 |mk(h:je)(n:jf):k=[some (.ref X.S),some (XJ (some i)),some (.ref g),some (.ref D),n]->(∀ b o,b≠d->H b=some o->a b=some o)->Xf jN jO a X d c (e++iN (i::((gd X.ts i).bs.take j).flatMap (WI X.ts m)))->a D=some (.lst h)->Paired (RcAt (NL H d D) a X.ts) (i::((gd X.ts i).bs.take j).flatMap (WI X.ts m)) h->a l=some (.lst (iN (gd X.ts i).bs))->Fz jN jO X d c e i m g D l H j k a
abbrev ZPE:jn:=["shelf","root","found","twigs","branch"]
theorem U8:ZC ZPE zEe (ZY LI):=Zp
theorem GC{n:Nat}(F:Zi K "reached" "reached" LI f fd)(L:YT K mg jN jO)(DL:ZB P w K mg jQ ZM 2 jN "look" zEa (Yx jN jO))(DI:ZA P w K mg jQ 1 "is_leaf" zFk Yb)(DR:ZA P w K mg jQ (n+3) "reached" zEe (λvs H Q E=>∃ m,m<n/\YO m jN jO vs H Q E)):ZI P w K mg jQ ZM (n+4) f fd zEe (YO n jN jO):=by
 refine F.ok U8 (λvs H Q E h=>(by cases h;rfl)) (λe9 A c8 s H vs Q E hr h=>?_)
 let⟨X,C,c,ls,r,R,hw,c5,a1,q⟩:=h;let nd:=U8.nd;let c6:=hr.mono (show 1<=n+3 by lia)
 let c7:=hr.mono (show 2<=n+3 by lia)
 intro Xc;refine⟨_,ZL (Z1 (Pa (MD (pv 1))) (ZR (Zh (Yr Zn))) Z5)
  (ZL (Zj 2 nd (Z0 (E:=E0) (pv 0) L.cS DL c7 Z3 (ZT (pv 1))))
  (ZL (Zj 3 nd (Yr (ZT (VC (Zq (pv 1) (pv 2))))))
  (ZL (Z1 (Vl (Y5 (Zc DI c6 (ZT (pv 2))))) (ZR (Vk PassesOwn.never rfl (WD (Xe K (pv 2) ZK)) (Vo 4 nd)
   (ZR (Ye (QS xW qY qW Hg (pv 3) (ZT (Zc DR hr (Zq (pv 0) (pv 4))))))))) Z5)
  (ZR (Zh (pv 3)))))),?_⟩
 cases r with
 | none=>
  refine⟨_,Z,_,Z,Z7 ?_⟩;exists YS;intro D W;let gD:=Zv W (.lst []);exact q _ D [] (λb o _ e=>gD b o e) (by rw[show W9 X.ts none=[] from rfl,show iN []=[] from rfl,yS];exact R.same gD) W (Zg R.sh.looks W).symm ZZ .nil
 | some i=>
  refine⟨_,Z,_,Z,Zm ?_⟩;let⟨hi,hn⟩:=c5 i Z;let⟨⟨dS,hS⟩,c2,_⟩:=id R.sh;let l1:1<=(W9 X.ts (some i)).length:=by
   show 1<=(WI X.ts (gd X.ts i).h i).length
   cases(gd X.ts i).h with
   | zero=>exact zY _
   | succ n=>exact vD (zE _)
  exists _,Z,X.S,dS,_,Z,hS,Z,_,Z,X,C,c,ls,i,Z,R,hi,by lia
  intro H1 J l c9 a3 R1 a6 nl hl k1 k2;exists _,Z,_,Z,YS;intro t nt;let g1:=Zv nt (.tup [XJ (some i),.ref J]);let et:upd H1 t (.tup [XJ (some i),.ref J]) t=some (.tup [.int (i:Int),.ref J]):=ZZ;generalize upd H1 t (.tup [XJ (some i),.ref J])=H2 at g1 et⊢;exists YS;intro D W;let g2:=Zv W (.lst [.ref t]);let eD:=ZZ (H:=H2) (a:=D) (o:=.lst [.ref t]);generalize upd H2 D (.lst [.ref t])=H3 at g2 eD⊢;let g:=g1.trans g2;let c4:=R.sh.looks;let a9:l≠C:=λz=>by rw[z,c4] at nl;cases nl
  let V:H1 D=none:=g1.free W;let v:D≠C:=λz=>by rw[z,R1.sh.looks] at V;cases V
  let U:H D=none:=by
   cases z:H D with
   | none=>rfl
   | some o=>rw[a3 D o v z] at V;cases V
  let a8:l≠D:=λz=>by rw[<-z,hl] at V;cases V
  let nO:¬ NL H C D l:=λz=>by
   rcases z with z | z | z
   ·exact a9 z
   ·exact z nl
   ·exact a8 z
  let FA:Yc (NL H C D) H3 (gd X.ts i) (.ref J):=⟨J,l,c9,Z,g _ _ a6,g _ _ hl,nO,λz=>(k1 z).sm g,k2⟩;let RA:RcAt (NL H C D) H3 X.ts i (.ref t):=⟨t,.ref J,Z,g2 _ _ et,FA⟩;let a4:∀ b o,b≠C->H b=some o->H3 b=some o:=λb o z e=>g _ _ (a3 b o z e);let R3:=R1.same g;exists _,Z,_,gd X.ts i,_,Z,FA,_,Z;by_cases h0:(gd X.ts i).h=0
  ·rw[aI h0];let ep:W9 X.ts (some i)=[i]:=by
    show WI X.ts (gd X.ts i).h i=_;rw[h0];rfl
   rw[ep] at q;exact Zm ⟨_,Z,q H3 D _ a4 R3 U v eD (.cons RA .nil)⟩
  rw[aH h0];obtain⟨m,em⟩:∃ m,(gd X.ts i).h=m+1:=⟨(gd X.ts i).h-1,∅⟩
  let ep:W9 X.ts (some i)=i::(gd X.ts i).bs.flatMap (WI X.ts m):=by
   show WI X.ts (gd X.ts i).h i=_;rw[em];rfl
  rw[ep] at q a1;let eu:=k2 h0;subst eu;let hs:=(hw i hi).stem h0;refine Z7 ⟨_,Z,J,_,_,.ref l,Z,Z,Zs.of (g _ _ a6),Z,l,Z,⟨_,ZG.of (g _ _ hl)⟩,Qm (K:=K) (a:=l) (xs:=iN (gd X.ts i).bs) (Fz jN jO X C c ls i m J D l H) ⟨_,_,Z,a4,R3,eD,.cons RA .nil,g _ _ hl⟩ (λj σ H' _ hP=>by let⟨_,_,_,_,_,_,_,h⟩:=hP;exact ZG.of h) ?_ ?_⟩
  ·rintro j u σ H4 hu ⟨M,x4,rfl,G,R4,d,B,a5⟩;unfold iN at hu;rw[zG] at hu;let⟨b,hb,rfl⟩:=yC.mp hu;let⟨i1,i0⟩:=hs.2.2.1 b (zL hb);let eb:W9 X.ts (some b)=WI X.ts m b:=by
    show WI X.ts (gd X.ts b).h b=_;rw[show (gd X.ts b).h=m by lia]
   let c1:(gd X.ts i).bs.take (j+1)=(gd X.ts i).bs.take j++[b]:=by rw[yR,hb];rfl
   let ef:((gd X.ts i).bs.take (j+1)).flatMap (WI X.ts m)=((gd X.ts i).bs.take j).flatMap (WI X.ts m)++WI X.ts m b:=by rw[c1,vW];simp
   let lf:(((gd X.ts i).bs.take (j+1)).flatMap (WI X.ts m)).length<=((gd X.ts i).bs.flatMap (WI X.ts m)).length:=by
    conv=>rhs;rw[<-xA (j+1) (gd X.ts i).bs,vW,zN]
    exact vE _ _
   let a2:=a1;rw[ef,zN] at lf;simp only[zR] at a2;let l4:=Paired.length B;simp only[zR] at l4;refine⟨_,Z,.inl ⟨Z,_,ZG.of d⟩,_,Z,_,Z,m,∅,.mk X C c _ (some b) R4 hw (λy hy=>by cases hy;exact⟨∅,∅⟩) ?_ λH5 D2 k N R5 a7 e0 c0 T=>?_⟩
   ·rw[eb,zN];unfold iN;simp only[zX,zR]
    lia
   rw[eb] at R5 T;let l5:=Paired.length T;let a0:=N _ _ v d;let c3:=N _ _ a9 a5;let e8:D2≠D:=λz=>by rw[z,d] at a7;cases a7
   exists D,D2,M,k,Z,Z,a0,c0,nn ∅
   let O:∀ b o,b≠C->b≠D->H4 b=some o->upd H5 D (.lst (M++k)) b=some o:=λb o z1 z2 e=>by rw[ZS z2];exact N b o z1 e
   let t4:Z6 H4 (upd H5 D (.lst (M++k))):=λb xs e=>O b _ (ZW e R4.sh.looks) (ZW e d) e;let t5:Z6 H5 (upd H5 D (.lst (M++k))):=λb xs e=>by rw[ZS (ZW e a0)];exact e
   let Y:∀ b o,H b=some o->b≠D:=λb o e=>Zg e U;let R6:=R5.but (p:=D) (H':=upd H5 D (.lst (M++k))) (λb o e z=>by rw[ZS z];exact e) (λz=>by
    rcases z with z | z | z
    ·exact Y _ _ hS z.symm
    ·exact Y _ _ c2 z.symm
    ·exact v z) (λy hy=>by
     let⟨dx,hx⟩:=(R.tw y hy).tw.self;let⟨vs,e1,_⟩:=(R.tw y hy).things;exact⟨Y _ _ hx,Y _ _ (R.tw y hy).tw.above,Y _ _ e1⟩) t5
   refine⟨M++k,_,Z,λb o z e=>O b o z (Y _ _ e) (G b o z e),?_,ZZ,?_,by rw[ZS a8];exact c3⟩
   ·rw[ef,<-vL];unfold iN at R6⊢;rw[zF,<-xH];exact R6
   ·rw[ef,<-vL];refine ZPR (Paired.mapP B λy u h=>h.off (λb o z e=>O b o (λy=>z (.inl y)) (λy=>z (.inr (.inr y))) e) t4) (Paired.mapP T λy u h=>?_);let⟨t',fv,e1,e2,tq,lq,vq,e3,e4,e5,I,e6,e7⟩:=h;let lD:lq≠D:=λz=>I (.inr (.inl (by rw[z,d];intro y;cases y)))
    refine⟨t',fv,e1,t5 _ _ e2,tq,lq,vq,e3,t5 _ _ e4,by rw[ZS lD];exact e5,λz=>?_,λz=>(e6 z).mono t5 _ _,e7⟩
    rcases z with z | z | z
    ·exact I (.inl z)
    ·refine I (.inr (.inl λy=>?_))
     cases x:H lq with
     | none=>exact z x
     | some o=>rw[G lq o (λy=>I (.inl y)) x] at y;cases y
    ·exact lD z
  ·rintro σ H4 ⟨M,x4,rfl,G,R4,d,B,a5⟩;let el:(gd X.ts i).bs.take (iN (gd X.ts i).bs).length=(gd X.ts i).bs:=by unfold iN;rw[zX,sF]
   rw[el] at R4 B;exact⟨_,Z,q H4 D M G R4 U v d B⟩
theorem YO.mono{m n:Nat}{d:je}{H:Hp}{Q:VK}{E:XK}(h:YO m jN jO d H Q E)(g:m<=n):YO n jN jO d H Q E:=by
 let⟨X,k,c,l,r,R,j,a,b,q⟩:=h;exact⟨X,k,c,l,r,R,j,λi e=>⟨(a i e).1,zI (a i e).2 g⟩,b,q⟩
theorem Ej(a:ZX K mg "reached" LI zEe)(L:YT K mg jN jO)(d:ZB P w K mg jQ ZM 2 jN "look" zEa (Yx jN jO))(c:ZA P w K mg jQ 1 "is_leaf" zFk Yb):∀ n:Nat,ZA P w K mg jQ (n+3) "reached" zEe (λb H Q E=>∃ m,m<n/\YO m jN jO b H Q E)
 | 0=>a.of λ_ _ _=>M0 λb H Q E h=>by let⟨m,e,_⟩:=h;lia
 | n+1=>a.of λ_ _ F=>(GC F L d c (Ej a L d c n)).imp λb H Q E h=>by
  let⟨m,e,h⟩:=h;exact h.mono ∅
structure Mr(jN jO:ai)(H:Hp)(X:Zd)(lk:ai)(c:Nat)(ls:je)(r:jp):Prop where
 sh:Xf jN jO H X lk c ls
 wf:WF X.lv X.ts
 low:∀ i,r=some i->i∈X.lv/\(gd X.ts i).h<=20
 few:ls.length+(W9 X.ts r).length<=380000/\(W9 X.ts r).length<=900
structure FH(jN jO:ai)(H H':Hp)(X:Zd)(lk:ai)(c:Nat)(ls:je)(r:jp)(D:ai):Prop where
 fr:∀ b o,b≠lk->H b=some o->H' b=some o
 sh:Xf jN jO H' X lk c (ls++iN (W9 X.ts r))
 free:H D=none
 ne:D≠lk
theorem Mr.reach{H:Hp}{X:Zd}{b:ai}{c:Nat}{e:je}{r:jp}(h:Mr jN jO H X b c e r){Q:VK}{E:XK}(q:∀ (a:Hp) (D:ai) (d:je),FH jN jO H a X b c e r D->a D=some (.lst d)->Paired (RcAt (NL H b D) a X.ts) (W9 X.ts r) d->Q (.ref D) a):YO 20 jN jO [.ref X.S,XJ r] H Q E:=
 .mk X b c e r h.sh h.wf h.low h.few λa D d g i j k l m=>q a D d ⟨g,i,j,k⟩ l m
def NC(a:jk)(j:Nat):Bool:=decide ((gd a j).h=0)
def QQ(a:jk)(l:jj):jm:=(l.filter (NC a)).flatMap λj=>(gd a j).rows
theorem Gk(a:jk)(l:jj)(y:Nat):QQ a (l++[y])=QQ a l++if NC a y then (gd a y).rows else []:=by
 unfold QQ;rw[xG,vW]
 congr 1
 cases h:NC a y <;> simp[h]
theorem ZRS{n:Nat}(h:n<=4000):n<=sizeLine:=zI h (by decide)
inductive Xo(jN jO:ai):Sp
 |mk{H:Hp}{Q:VK}{E:XK}(X:Zd)(b:ai)(c:Nat)(d:je)(r:jp):Mr jN jO H X b c d r->(∀ j∈W9 X.ts r,j∈X.lv)->(∀(a:Hp)(D:ai)(e:je),FH jN jO H a X b c d r D->a D=some (.lst e)->jI a (YI (QQ X.ts (W9 X.ts r))) e->Q (.ref D) a)->Xo jN jO [.ref X.S,XJ r] H Q E
abbrev ZNX:jn:=["shelf","root","rows","twig"]
theorem Vw:ZC ZNX zEe (ZY JP):=Zp
inductive Fr(X:Zd)(r:jp)(D:ai)(c:Hp)(j:Nat)(d:L2.St)(a:Hp):Prop
 |mk(b:je)(e:jf):d=[some (.ref X.S),some (XJ r),some (.ref D),e]->a D=some (.lst b)->jI a (YI (QQ X.ts ((W9 X.ts r).take j))) b->b.length<=4 * j->ZH D c a->Fr X r D c j d a
theorem AZ(F:Zi K "rows_of" "rows_of" JP f fd)(DI:ZA P w K mg jQ 1 "is_leaf" zFk Yb)(DR:ZA P w K mg jQ 25 "reached" zEe (YO 20 jN jO)):ZI P w K mg jQ ZM 26 f fd zEe (Xo jN jO):=by
 refine F.ok Vw (λvs H Q E h=>(by cases h;rfl)) (λa2 A a1 s H vs Q E hr h=>?_)
 let nd:=Vw.nd;let Y:=hr.to 1;intro Xc;refine⟨_,ZL (Zj 2 nd (Yr Zn))
  (ZL (Vk PassesOwn.never rfl (WD (Zc DR hr (Zq (pv 0) (pv 1)))) (Vo 3 nd)
   (ZR (Z1 (Y5 (Zc DI Y (ZT (Xe K (pv 3) ZK))))
    (ZR (Ye (QS xW qY qW Hg (pv 2) (ZT (Xe K (Xe K (pv 3) ZK) ZK))))) Z5)))
  (ZR (Zh (pv 2)))),?_⟩
 exists YS;intro D i;let V:=Zv i (.lst []);let⟨X,lk,c,ls,r,R,a0,q⟩:=h;let O:=ZZ (H:=H) (a:=D) (o:=.lst []);generalize upd H D (.lst [])=H1 at V O⊢;let R1:Mr jN jO H1 X lk c ls r:=⟨R.sh.same V,R.wf,R.low,R.few⟩;refine⟨_,Z,_,Z,R1.reach λN M us L G S=>?_⟩;let lp:=Paired.length S;let a3:=R.few;let l:D≠lk:=(Zg R.sh.sh.looks i).symm;let n:=L.fr D _ l O;let U:M≠D:=λz=>by have:=L.free;rw[z,O] at this;cases this
 refine⟨M,Z,⟨us,ZG.of G⟩,Qm (K:=K) (a:=M) (xs:=us) (Fr X r D N) ⟨[],_,Z,n,.nil,zE _,λb o e _=>e⟩ (λj σ H' _ S=>by let⟨_,_,_,_,_,_,h⟩:=S;exact ZG.of (h _ _ G U)) ?_ ?_⟩
 ·rintro j u σ m hu ⟨B,x3,rfl,d,g,l4,k⟩;let⟨y,ey,t,fv,rfl,et,FA⟩:=Paired.ixR S hu;let hj:j<us.length:=(zB.mp hu).1;let J:Z6 N m:=λb xs e=>k _ _ e (ZW e n);let I:=a0 y (zL ey);let ok:=R.wf y I;let fD:∀ b o,¬ (NL H1 lk M) b->N b=some o->m b=some o:=λb o z e=>k b o e λx=>z (.inr (.inl (by rw[x,O];intro x;cases x)))
  let F4:=FA.off fD J;let C:(W9 X.ts r).take (j+1)=(W9 X.ts r).take j++[y]:=by rw[yR,ey];rfl
  exists _,Z,t,_,_,fv,Z,Z,Zs.of (J _ _ et),Z,_,gd X.ts y,fv,Z,F4,_,Z;let⟨tq,lq,T,rfl,e4,e5,a5,e6,e7⟩:=F4;by_cases v:(gd X.ts y).h=0
  ·rw[aI v];let kq:=e6 v;let lv:T.length=(gd X.ts y).rows.length:=by have:=kq.length;rw[<-this];exact zX _
   let a4:=(ok.leaf v).2;refine Z7 ⟨_,Z,.inl ⟨Z,_,ZG.of d⟩,_,Z,t,_,_,.ref tq,Z,Z,Zs.of (J _ _ et),Z,tq,_,_,.ref lq,Z,Z,Zs.of e4,Z,D,lq,B,T,Z,Z,d,e5,ZRS ∅,?_⟩
   let t5:Z6 m (upd m D (.lst (B++T))):=λb xs e=>by rw[ZS (ZW e d)];exact e
   refine⟨B++T,_,Z,ZZ,?_,by rw[zN];lia,λb o e z=>by rw[ZS z];exact k b o e z⟩
   rw[C,Gk,aK (show NC X.ts y=true from aI v),EG];exact(g.mono t5 _ _).append (kq.mono t5 _ _)
  ·rw[aH v];refine Zm ⟨B,_,Z,d,?_,∅,k⟩
   rw[C,Gk,aJ (by unfold NC;rw[aH v];exact zW),yS]
   exact g
 ·rintro σ m ⟨B,x3,rfl,d,g,l4,k⟩;rw[yV ∅] at g
  refine⟨_,Z,q m D B ⟨λb o z e=>k _ _ (L.fr b o z (V _ _ e)) (Zg e i),?_,i,l⟩ d g⟩;let J:Z6 N m:=λb xs e=>k _ _ e (ZW e n);let⟨⟨dS,hS⟩,W,_⟩:=id R.sh.sh;refine L.sh.but (p:=D) k (λz=>?_) (λy I=>?_) J
  ·rcases z with z | z | z
   ·exact Zg hS i z.symm
   ·exact Zg W i z.symm
   ·exact l z
  ·let⟨dx,hx⟩:=(R.sh.tw y I).tw.self;let⟨vs,e1,_⟩:=(R.sh.tw y I).things;exact⟨Zg hx i,Zg (R.sh.tw y I).tw.above i,Zg e1 i⟩
section
variable{gt:jj}{ts:jk}
theorem Dh(e:WF gt ts):∀(n i:Nat),i∈gt->(gd ts i).h=n->∀ j∈WI ts n i,j∈gt
 | 0,i,a,_,j,c=>by
  have:j=i:=by simpa [WI] using c
  subst this;exact a
 | n+1,i,a,m,j,c=>by
  let k:=(e i a).stem ∅
  rw[WI] at c;rcases zU.mp c with z | z
  ·subst z;exact a
  ·let⟨b,g,d⟩:=xT.mp z;let⟨f,l⟩:=k.2.2.1 b g;exact Dh e n b f ∅ j d
theorem ZLN(l:jj)(g:Nat->jj):QQ ts (l.flatMap g)=l.flatMap λb=>QQ ts (g b):=by
 induction l with
 | nil=>rfl
 | cons a l c=>
  rw[xO,xO,<-c];unfold QQ;rw[xG,vW]
theorem EZ(f:WF gt ts):∀(n i:Nat),i∈gt->(gd ts i).h=n->QQ ts (WI ts n i)=(gd ts i).rows
 | 0,i,a,c=>by
  unfold QQ;rw[WI,xJ,aK (show NC ts i=true from aI c)];simp
 | n+1,i,a,c=>by
  let d:=(f i a).stem ∅
  let e:QQ ts (WI ts (n+1) i)=QQ ts ((gd ts i).bs.flatMap (WI ts n)):=by
   unfold QQ;rw[WI,xJ,aJ (by unfold NC;rw[aH ∅];exact zW)]
  rw[e,ZLN,d.2.2.2,List.flatMap_def,List.flatMap_def]
  congr 1
  refine List.map_congr_left λb g=>?_;let⟨j,k⟩:=d.2.2.1 b g;exact EZ f n b ∅ ∅
theorem E2(d:WF gt ts):∀(n i:Nat),i∈gt->(gd ts i).h=n->(WI ts n i).length+1<=2 * (gd ts i).rows.length
 | 0,i,a,_=>by
  have:=uU.mpr (d i a).ne;show 1+1<=_
  lia
 | n+1,i,a,u=>by
  let o:=(d i a).stem ∅
  let⟨q,_,f,j⟩:=o;let k:∀ l:jj,(∀ b∈l,b∈(gd ts i).bs)->(l.flatMap (WI ts n)).length+l.length<=2 * (l.flatMap λb=>(gd ts b).rows).length:=λl e=>by
   induction l with
   | nil=>exact zY _
   | cons b l p=>
    let s:=p λc m=>e c (zO _ m);let⟨g,r⟩:=f b (e b zS);let t:=E2 d n b g ∅
    rw[xO,xO,zN,zN,zR]
    lia
  have:=k _ λb h=>h;rw[j,WI,zR]
  lia
end
theorem ZLQ{s:aj}(a b:KT)(A:aw)(v u:ah)(x:ZJ s.heap a v)(y:ZJ s.heap b u)(M:A.units+a.depth<cLine):SeqAt.RcAt A s v u (a.eqb b):=by
 let f:A.units<cLine:=∅
 cases a with
 | int i=>
  rw[ZJ] at x;let⟨t,rfl⟩:=x
  cases b with
  | int j=>rw[ZJ] at y;let⟨g,rfl⟩:=y;rw[KT.eqb];exact SeqAt.RcAt.int_int i t j g
  | str z=>rw[ZJ] at y;let⟨g,rfl⟩:=y;rw[show (KT.int i).eqb (.str z)=false by simp[KT.eqb]];exact SeqAt.RcAt.int_str i t z g
  | tup m=>rw[ZJ] at y;let⟨p,d,rfl,h,_⟩:=y;rw[show (KT.int i).eqb (.tup m)=false by simp[KT.eqb]];exact SeqAt.RcAt.int_tuple i t h f
 | str w=>
  rw[ZJ] at x;let⟨t,rfl⟩:=x
  cases b with
  | int j=>rw[ZJ] at y;let⟨g,rfl⟩:=y;rw[show (KT.str w).eqb (.int j)=false by simp[KT.eqb]];exact SeqAt.RcAt.str_int w t j g
  | str z=>rw[ZJ] at y;let⟨g,rfl⟩:=y;rw[KT.eqb];exact SeqAt.RcAt.str_str w t z g
  | tup m=>rw[ZJ] at y;let⟨p,d,rfl,h,_⟩:=y;rw[show (KT.str w).eqb (.tup m)=false by simp[KT.eqb]];exact SeqAt.RcAt.str_tuple w t h f
 | tup l=>
  rw[ZJ] at x;let⟨p,d,rfl,r,C⟩:=x;rw[KT.depth] at M
  cases b with
  | int j=>rw[ZJ] at y;let⟨g,rfl⟩:=y;rw[show (KT.tup l).eqb (.int j)=false by simp[KT.eqb]];exact SeqAt.RcAt.tuple_int j g r f
  | str z=>rw[ZJ] at y;let⟨g,rfl⟩:=y;rw[show (KT.tup l).eqb (.str z)=false by simp[KT.eqb]];exact SeqAt.RcAt.tuple_str z g r f
  | tup m=>
   rw[ZJ] at y;let⟨q,c,rfl,h,D⟩:=y;let P:=C.length;let Q:=D.length;let E:=SeqAt.RcAt.tuples (A:=A) (s:=s) (e:=λj=>(l.getD j (.int 0)).eqb (m.getD j (.int 0))) r h f (λj K L=>by
    let n:j<d.length:=by simpa using K
    let o:j<c.length:=by simpa using L
    let⟨k,B,N⟩:=C.get (j:=j) (u:=d[j]) (by simp[n])
    let⟨F,G,O⟩:=D.get (j:=j) (u:=c[j]) (by simp[o])
    let R:=Pu (zL B);let I:l.getD j (.int 0)=k:=by rw[zV,B];rfl
    let J:m.getD j (.int 0)=F:=by rw[zV,G];rfl
    have:=Pn k.depth k F A.in1 d[j] c[j] (zY _) N O (by show A.units+1+k.depth<cLine;lia)
    show SeqAt.EqAt A.in1 s _ _ ((l.getD j (.int 0)).eqb (m.getD j (.int 0)));rw[I,J];simpa using this)
   let H:((yJ (min d.toArray.size c.toArray.size)).all (λj=>(l.getD j (.int 0)).eqb (m.getD j (.int 0)))&&d.toArray.size==c.toArray.size)=(KT.tup l).eqb (.tup m):=by
    rw[zJ,zJ,<-P,<-Q,KT.eqb];exact Pe l m
   rw[H] at E;exact E
inductive Mj:V->V->Hp->VK->Prop
 |mk{x y:V}{H:Hp}{Q:VK}(a b:KT):ZD H a x->ZD H b y->a.depth<=200->Q (.bl (a.eqb b)) H->Mj x y H Q
theorem BE{k:Nat}(g:ZU k X.A):Y7 X (ay .Eq) Mj:=by
 intro c s l H x y v u Q I i j h;let⟨a,b,d,e,f,q⟩:=h;exact ZLQ a b X.A v u (VX I a x v d i) (VX I b y u e j) (ZU.key g f) X.prog X.w X.xe _ ⟨.bl _,H,I,Z,q⟩
def WJ(a:jm)(k:KT):jl:=(a.filter λr=>r.1.eqb k).map (·.2)
def Yi(a:jk):jp->jm
 | none=>[]
 | some i=>(gd a i).rows
theorem Ef{gt:jj}{c:jk}(f:WF gt c){j:Nat}(s:j∈gt)(p:(gd c j).h≠0):(gd c j).bs.Pairwise λa b=>(Zr (gd c a)).lo.lt (Zr (gd c b)).lo=true:=by
 let i:=f j s;let⟨t,u,l,o⟩:=i.stem p;let k:=i.up;rw[o,List.map_flatMap,rT] at k;let g:∀ b∈(gd c j).bs,(Zr (gd c b)).lo∈(gd c b).rows.map (·.1):=λb d=>by
  let e:b∈gt:=(l b d).1;let⟨r,v,m,n⟩:=QN (f b e).ne;rw[m,n];exact zS ..
 have:=k.2;exact this.imp_of_mem fun{a b} q d h=>h _ (g a q) _ (g b d)
theorem BL{g:Type}{p:g->Bool}{A C:List g}{b:g}(h:((A++b::C).filter p).length-1=A.length)(k:∀ c∈C,p c=true->p b=true/\∀ a∈A,p a=true):(A≠[]->p b=true)/\∀ c∈C,p c=false:=by
 let i:∀ c∈C,p c=false:=λc d=>by
  cases e:p c with
  | false=>rfl
  | true=>
   let⟨l,f⟩:=k c d e;rw[xG,List.filter_cons_of_pos l,zN,zR,vX.mpr f] at h;have:0<(C.filter p).length:=List.length_pos_of_mem (yN.mpr ⟨d,e⟩)
   lia
 refine⟨λf=>?_,i⟩
 cases e:p b with
 | true=>rfl
 | false=>
  let j:C.filter p=[]:=tZ.mpr λc d=>by rw[i c d];exact zW
  rw[xG,sL (by rw[e];exact zW),j,yS] at h
  have:=vV p A;have:0<A.length:=uU.mpr f
  lia
theorem G0{gt:jj}{f:jk}{i j:Nat}{t:ZP}(b:Yu gt f i t){y:KT}(a:y∈t.rows.map (·.1)):y.lt (Zr t).lo=false:=by
 let⟨r,g,d,e⟩:=QN b.ne;let c:=b.up;rw[d,yT] at c a;rw[e];rcases zU.mp a with z | z
 ·rw[z];exact V9 _
 ·exact Pm _ _ ((xB.mp c).1 y z)
section
variable{gt:jj}{ts:jk}
theorem JA(m:WF gt ts){i:Nat}(l:i∈gt)(f:(gd ts i).h≠0)(k:KT):∃ A C,A.length=Xs ts k i/\(gd ts i).bs=A++V1 ts k i::C/\(A≠[]->k.lt (Zr (gd ts (V1 ts k i))).lo=false)/\∀ c∈C,k.lt (Zr (gd ts c)).lo=true:=by
 let⟨F,G,w⟩:=NN m l f k;let v:=Fs m l f k;let r:=Ef m l f;let d:(gd ts i).bs=(gd ts i).bs.take (Xs ts k i)++V1 ts k i::(gd ts i).bs.drop (Xs ts k i+1):=by
  let⟨u,e⟩:=zB.mp w;exact(xA (Xs ts k i) _).symm.trans (by rw[wZ u,e])
 let p:((gd ts i).bs.take (Xs ts k i)).length=Xs ts k i:=by rw[xU];lia
 let j:((gd ts i).bs.filter λb=>!k.lt (Zr (gd ts b)).lo).length-1=Xs ts k i:=(aJ f).symm;rw[d,xD] at r;rw[<-p] at j
 conv at j=>lhs;rw[d]
 let⟨_,E,n⟩:=r;let o:=(xB.mp E).1;let s:∀{x y:Nat},(Zr (gd ts x)).lo.lt (Zr (gd ts y)).lo=true->(!k.lt (Zr (gd ts y)).lo)=true->(!k.lt (Zr (gd ts x)).lo)=true:=fun{x y} h q=>by
  cases e:k.lt (Zr (gd ts x)).lo with
  | false=>rfl
  | true=>rw[lt_trans' _ _ _ e h] at q;cases q
 let⟨B,D⟩:=BL j λc g q=>⟨s (o c g) q,λa t=>s (n a t c (zO _ g)) q⟩;exact⟨_,_,p,d,λz=>by simpa using B z,λc g=>by simpa using D c g⟩
theorem Gc(a b:jm)(k:KT):WJ (a++b) k=WJ a k++WJ b k:=by unfold WJ;rw[xG,zF]
theorem MP{rs:jm}{k:KT}(h:∀ r∈rs,r.1≠k):WJ rs k=[]:=by
 unfold WJ;rw[tZ.mpr λr a z=>h r a (US _ _ z)];rfl
theorem ZIr(d:WF gt ts){i:Nat}(m:i∈gt)(g:(gd ts i).h≠0)(k:KT):WJ (gd ts i).rows k=WJ (gd ts (V1 ts k i)).rows k:=by
 let⟨A,C,_,f,w,x⟩:=JA d m g k;let p:=d i m;let⟨D,E,t,n⟩:=p.stem g;let s:=p.up;let B:V1 ts k i∈gt:=(NN d m g k).1;rw[n,f,vW,xO,zF,xD] at s;rw[n,f,vW,xO,Gc,Gc,MP,MP (rs:=C.flatMap _),uM,yS]
 ·intro r a z;let⟨c,b,a⟩:=xT.mp a;let l:c∈gt:=by
   have:=(t c (by rw[f];exact yP _ (zO _ b))).1
   lia
  let e:=G0 (j:=0) (d c l) (zP.mpr ⟨r,a,Z⟩);rw[z,x c b] at e;cases e
 ·intro r a z;let⟨c,b,_⟩:=xT.mp a;let e:=w (λy=>by rw[y] at b;cases b)
  let⟨q,F,u,v⟩:=QN (d _ B).ne;let o:=s.2.2 _ (zP.mpr ⟨r,a,Z⟩) q.1 (zP.mpr ⟨q,yF _ (by rw[u];exact zS ..),Z⟩)
  rw[z,<-v,e] at o;cases o
end
theorem Df{gt:jj}{a:jk}(c:WF gt a)(k:KT):∀(n i:Nat),i∈gt->(gd a i).h=n->∃ j d r,UZ a k n i=r++[(j,d)]/\j∈gt/\(gd a j).h=0/\WJ (gd a j).rows k=WJ (gd a i).rows k
 | 0,i,b,f=>⟨i,_,[],Z,b,f,Z⟩
 | n+1,i,b,f=>by
  let⟨o,p,_⟩:=NN c b ∅ k
  let⟨j,d,r,e,g,l,m⟩:=Df c k n (V1 a k i) ∅ ∅
  exact⟨j,d,(i,Xs a k i)::r,by rw[UZ,e];rfl,g,l,by rw[m,ZIr c b ∅]⟩
inductive XS(jN jO CK:ai):Sp
 |mk{X:Zd}{d:ai}{c:Nat}{e:je}{r:jp}{v:V}{N:ai->Prop}{o:jF}{H:Hp}{Q:VK}{E:XK}:Oi jN jO H X d c e r->Qe N H o v->(o=none->∀ a,ZE H a->E (.ref CK) none a) ->
  (∀ k,o=some k->∀(a:Hp)(D:ai)(g:je),(∀ b o,b≠d->H b=some o->a b=some o)->Xf jN jO a X d c (e++Qd (Uc X.ts k r))->H D=none->D≠d->a D=some (.lst g)->jI a (WJ (Yi X.ts r) k) g->Q (.ref D) a) ->
  XS jN jO CK [.ref X.S,XJ r,v] H Q E
abbrev ZLe:jn:=["shelf","root","key","steps","rows"]
theorem VM:ZC ZLe zEd (ZY KJ):=Zp
theorem Bu(F:Zi K "value_of" "value_of" KJ f fd)(DS:W0 P w K mg jQ 10 "steps_to" zEd (XM jN jO CK)):ZI P w K mg jQ (Yd P w) 11 f fd zEd (XS jN jO CK):=by
 refine F.okD VM (λvs H Q E h=>(by cases h;rfl)) (λa4 A a2 s H vs Q E hr h=>?_)
 let⟨L,hv,no,q⟩:=h;rename_i X lk c ls rn v N o
 let nd:=VM.nd;intro Xc;refine⟨_,ZL (Zj 3 nd (Mw NJ DS hr (Vm (pv 0) (pv 1) (pv 2))))
  (ZL (Z1 (YX (Md hr.units0) (pv 3) (Yr Zn) (YG _)) (ZR (Zh (Yr Zn))) Z5)
  (ZL (Zj 4 nd (Xe K (Xe K (Z8 K (pv 3) (Qq Qk ZK)) ZK) ZK))
  (ZR (Zh (Vn [2] zFl rfl (WD (pv 4)) (λ_ _ _ _ _=>Od (YX (BE hr) (Xe K (pv 0) ZK) (pv 1) (YG _))) (λ_ _ _ _ _=>Xe K (pv 0) ZK) ⟨rfl,.inl rfl,rfl,trivial⟩))))),?_⟩
 refine⟨_,Z,_,Z,_,Z,.mk L hv no λk ek V S I U W nS a3 hS y=>?_⟩;exists _,Z,YS;intro b nb;let g:=Zv nb (.lst []);let eb:=ZZ (H:=V) (a:=b) (o:=.lst []);generalize upd V b (.lst [])=R at g eb⊢;let G:∀{D:ai},V D=none->H D=none/\D≠lk:=fun{D} d=>by
  let z:D≠lk:=λz=>by rw[z,W.sh.looks] at d;cases d
  refine⟨?_,z⟩
  cases e:H D with
  | none=>rfl
  | some o'=>rw[U _ _ z e] at d;cases d
 exists S,b,I,Z,Z,ZG.of (g _ _ hS),ZG.of eb,_,Z
 cases rn with
 | none=>
  let e0:I=[]:=by
   cases y;rfl
  subst e0;refine Z7 ⟨YS,λD d=>?_⟩;let g2:=Zv d (.lst []);let⟨f1,f2⟩:=G (g.free d);exact q k ek _ D [] (λb o z e=>g2 _ _ (g _ _ (U b o z e))) ((W.same g).same g2) f1 f2 ZZ .nil
 | some i=>
  let hi:=L.hi i Z;let⟨j,pl,rr,ew,hj,h0,es⟩:=Df L.wf k _ i hi Z;let a0:Uc X.ts k (some i)=rr++[(j,pl)]:=ew;rw[a0] at y;let ln:=Paired.length y;rw[zN,wQ] at ln;let hu:I[I.length-1]? = some (I[I.length-1]'∅):=zQ _
  let⟨p,ep,t,fv,et,ht,FA⟩:=Paired.ixR y hu;let e1:p=(j,pl):=by
   rw[<-ln,Nat.add_sub_cancel,wP (zY _),Nat.sub_self] at ep;exact(yZ.inj ep).symm
  subst e1;rw[et] at hu;let ne:I.isEmpty=false:=by
   cases I with
   | nil=>simp at ln
   | cons _ _=>rfl
  rw[ne];let⟨tq,lq,J,rfl,e4,T,a5,e6,e7⟩:=FA.same g;let kr:=e6 h0;let lv:J.length=(gd X.ts j).rows.length:=by have:=kr.length;rw[<-this];exact zX _
  let l4:=((L.wf j hj).leaf h0).2;refine Zm ⟨_,Z,_,Z,.inl ⟨S,_,_,.ref t,Z,Z,ZG.of (g _ _ hS),LR (j:=1) (zY _) ∅ hu,t,_,_,.ref tq,Z,Z,Zs.of (g _ _ ht),Z,tq,_,_,.ref lq,Z,Z,Zs.of e4,Z,?_⟩⟩
  subst ek;let⟨kv,fk⟩:=hv;let t2:Z6 H R:=λb xs e=>g _ _ (U b _ (ZW e L.sh.sh.looks) e);let QZ:=kv.mono t2 _ _;refine⟨_,Z,lq,Z,⟨J,ZG.of T⟩,JY (n:=J.length) (λi z=>J[i]? = some z) (λn=>((gd X.ts j).rows.getD n rd).1.eqb k) (λD n C r=>ZE R r/\R D=none/\jI R (WJ ((gd X.ts j).rows.take n) k) C) (XX ∅)
   (λD n C r O l=>⟨J,J[n],ZG.of (l.1 _ _ T),by simp[O]⟩) (λD n C r z H4 O l hy=>⟨hy.1,hy.2 J (ZG.of (l.1 _ _ T))⟩) (λD C r l=>⟨J,ZG.of (l.1 _ _ T),zY _⟩)
   (λD hD=>⟨Zv hD _,hD,.nil⟩) (λD n C r z M O hz l B hB=>?_) (λD n C r z M O hz hk l B hB=>?_) (λD n C r M O hk l=>?_) (λD C r M l=>?_)⟩
  ·let⟨m,d,x⟩:=l;let⟨a,vk,vv,u,rfl,Y,c1,c2⟩:=P6 kr hz;let a1:=((L.wf j hj).inn _ (zL u)).1;exact⟨_,Z,a,_,_,vk,Z,Z,Zs.of (m _ _ Y),Z,_,Z,.mk _ _ (c1.sm m) (QZ.sm m) (zI (UL _ 3 a1) (by decide)) ⟨_,Z,hB r M ⟨m,d,x⟩⟩⟩
  ·let⟨m,d,x⟩:=l;let⟨a,vk,vv,u,rfl,Y,c1,c2⟩:=P6 kr hz;refine⟨_,Z,a,_,_,vv,Z,Z,Zs.of (m _ _ Y),Z,hB _ r M ⟨Uq m d,d,?_⟩⟩;unfold WJ at x⊢;rw[Nk _ u,aK hk,zF];exact x.append (.cons c2 .nil)
  ·let⟨m,d,x⟩:=l;let u:(gd X.ts j).rows[n]? = some ((gd X.ts j).rows.getD n rd):=by rw[zV,zQ ∅];rfl
   exists m,d;unfold WJ at x⊢;rw[Nk _ u,aJ (by rw[hk];exact zW),yS]
   exact x
  ·let⟨m,d,x⟩:=l;rw[yV ∅,es] at x
   let⟨f1,f2⟩:=G (g.free d);exact q k Z r D C (λb o z e=>m _ _ (g _ _ (U b o z e))) ((W.same g).same m) f1 f2 M (x.sm m)
abbrev Up(a:jm):Prop:=PQ (a.map (·.1))
theorem Ms{a:jk}{s i:Nat}{t:ZP}(h:s<a.length):gd (a.set s t) i=if i=s then t else gd a i:=by
 unfold gd;rw[zV,zV];by_cases z:i=s
 ·subst z;rw[aK rfl,tY h];rfl
 ·rw[aJ z,uD (Ne.symm z)]
theorem Pb(a:jk)(l m:jj):ZV a (l++m)=ZV a l++ZV a m:=vW
theorem Wl(a:jk)(b:Nat)(m:jj):ZV a (b::m)=(gd a b).rows++ZV a m:=xO ..
theorem QY{ts ts':jk}{l:jj}(h:∀ b∈l,(gd ts' b).rows=(gd ts b).rows):ZV ts' l=ZV ts l:=by
 induction l with
 | nil=>rfl
 | cons b l d=>rw[Wl,Wl,h b zS,d λc a=>h c (zO _ a)]
theorem ZLc{c:jk}{a:jj}(p:∀ b∈a,(gd c b).rows≠[])(g:0<a.length):(⟨((YK c a).getD 0 .d).h+1,((YK c a).getD 0 .d).lo,((YK c a).getD ((YK c a).length-1) .d).hi,((YK c a).map YY.m).sum⟩:YY)=Zr (YV c a):=by
 let B:(YK c a).length=a.length:=zX _;let f:∀ i,i<a.length->a.getD i 0∈a:=λi y=>by rw[zV,zQ y];exact xI _
 let n:((YK c a).getD 0 .d).lo=(Zr (YV c a)).lo:=by
  rw[Qn g];let⟨r,o,e,k⟩:=QN (p _ (f 0 g));rw[k]
  cases a with
  | nil=>simp at g
  | cons b a=>
   unfold Zr YV ZV;let s:(gd c b).rows=r::o:=e;simp only[xO,s];rfl
 let j:((YK c a).getD ((YK c a).length-1) .d).hi=(Zr (YV c a)).hi:=by
  rw[B,Qn ∅]
  let⟨o,r,e,k⟩:=M4 (p _ (f (a.length-1) ∅))
  rw[k];rcases uX a with z | ⟨q,b,z⟩
  ·rw[z] at g;simp at g
  ·rw[uZ] at z;let u:a.getD (a.length-1) 0=b:=by rw[z];simp[zV]
   rw[u] at e;let x:ZV c a=ZV c q++o++[r]:=by rw[z];simp[ZV,e]
   unfold Zr YV;simp only[x];simp[zV]
 let w:((YK c a).map YY.m).sum=(Zr (YV c a)).m:=by
  have:∀ l:jj,((YK c l).map YY.m).sum=((ZV c l).length:Int):=λl=>by
   induction l with
   | nil=>rfl
   | cons b l A=>
    let t:YK c (b::l)=Zr (gd c b)::YK c l:=rfl;rw[t,Wl,yT,List.sum_cons,A,zN];show ((gd c b).rows.length:Int)+_=_
    lia
  exact this a
 let v:((YK c a).getD 0 .d).h+1=(Zr (YV c a)).h:=by
  rw[Qn g];show ((gd c (a.getD 0 0)).h:Int)+1=(((gd c (a.getD 0 0)).h+1:Nat):Int)
  lia
 rw[n,j,w,v]
theorem HC{ts:jk}{bs:jj}{h:Nat}(a:∀ b∈bs,(gd ts b).rows≠[]/\(gd ts b).h=h)(t:2<=bs.length)(u:bs.length<=4)(p:Up (ZV ts bs)):over (YK ts bs)=some (Zr (YV ts bs)):=by
 let w:(YK ts bs).length=bs.length:=zX _;let c:=p;unfold Up PQ ZV at c;rw[List.map_flatMap,rT] at c;rw[<-ZLc (λb h=>(a b h).1) ∅]
 refine ZKg ∅ ∅ λj v=>?_
 let i:j<bs.length:=∅
 let k:j+1<bs.length:=∅
 rw[Qn i,Qn k];let d:bs[j]? = some (bs.getD j 0):=by rw[zV,zQ i];rfl
 let e:bs[j+1]? = some (bs.getD (j+1) 0):=by rw[zV,zQ k];rfl
 let f:=a _ (zL d);let g:=a _ (zL e);let q:=IW c.2 (wT j) d e;let⟨r,x,l,n⟩:=M4 f.1;let⟨y,s,m,o⟩:=QN g.1;unfold PU;rw[zM];exists ?_
 ·show (((gd ts (bs.getD j 0)).h:Int)==((gd ts (bs.getD (j+1) 0)).h:Int))=true;rw[f.2,g.2];simp
 ·rw[n,o];refine q _ ?_ _ ?_
  ·rw[l,zF];exact yP _ (zK.mpr Z)
  ·rw[m];exact zS ..
theorem ZKR{gt:jj}{e:jk}{c:jj}(f:∀ b∈c,Yu gt e b (gd e b))(i:Nat):((YK e c).getD i .d).fit:=by
 rcases yL i c.length with a | a
 ·rw[Qn a];refine N0 (f _ ?_);rw[zV,zQ a];exact xI _
 ·rw[zV,sQ (by unfold YK;rw[zX];exact a)]
  exact Gv
theorem Yu.like{gt:jj}{d a:jk}{i:Nat}{t:ZP}(h:Yu gt d i t)(l:d.length<=a.length)(e:∀ b∈t.bs,gd a b=gd d b):Yu gt a i t:=by
 exists h.ne,h.up,h.inn,h.leaf;intro z;let⟨g,j,f,k⟩:=h.stem z;exists g,j,λb c=>⟨(f b c).1,by rw[e b c];exact(f b c).2⟩
 rw[k];exact(QY λb c=>by rw[e b c]).symm
inductive QX(gt:jj):jk->jj->jk->Prop
 | nil {ts:jk}:QX gt ts [] ts
 | cons {ts cur:jk} {s:Nat} {r:jj}:s<ts.length->(∀ b∈(gd ts s).bs,b∈gt)->(gd ts s).bs.length<=4->(∀ i,((YK ts (gd ts s).bs).getD i .d).fit)->over (YK ts (gd ts s).bs)=some (Zr (YV ts (gd ts s).bs))->QX gt (ts.set s (YV ts (gd ts s).bs)) r cur->QX gt ts (s::r) cur
inductive Yq(ts:jk)(r:Nat):jj->jj->jm->jm->Prop
 | root:Yq ts r [r] [] [] []
 | down {p c:Nat} {up ps l m:jj} {A B:jm}:Yq ts r (p::up) ps A B->(gd ts p).h≠0->(gd ts p).bs=l++c::m->c∉l->c∉m->Yq ts r (c::p::up) (l.length::ps) (A++ZV ts l) (ZV ts m++B)
section
variable{gt:jj}{ts:jk}{r:Nat}
theorem Yq.facts(t:WF gt ts)(s:r∈gt):∀{b g:jj}{A B:jm},Yq ts r b g A B->∀{c:Nat}{a:jj},b=c::a->c∈gt/\(∀ x∈a,x∈gt/\(gd ts c).h<(gd ts x).h)/\(gd ts r).rows=A++(gd ts c).rows++B/\(gd ts c).h+a.length=(gd ts r).h:=by
 intro b g A B z
 induction z with
 | root=>
  intro c a e;cases e;exact⟨s,λx f=>(by cases f),by simp,Z⟩
 | down F q i D E v=>
  intro c a e;cases e;let⟨j,k,u,C⟩:=v Z;rename_i p c a g l m A B
  let⟨_,_,n,d⟩:=(t p j).stem q;let⟨o,w⟩:=n c (by rw[i];simp)
  refine⟨o,λx f=>?_,?_,by rw[zR];lia⟩
  ·rcases zU.mp f with y | y
   ·rw[y];exact⟨j,∅⟩
   ·exact⟨(k x y).1,by have:=(k x y).2;lia⟩
  ·let d:(gd ts p).rows=ZV ts (gd ts p).bs:=d;rw[u,d,i,Pb,Wl];simp only[xH]
def Ik(gt:jj)(ts:jk)(a:Nat->jj):Prop:=∀ p∈gt,∀ b∈(gd ts p).bs,p∈a b
def Tp(a:Nat->jj)(b:Nat->Nat)(i:Nat):Prop:=a i=[]/\b i=1
inductive Rd(gt:jj)(av:Nat->jj)(ho:Nat->Nat):Nat->jj->Prop
 | top {i:Nat}:i∈gt->Tp av ho i->Rd gt av ho i [i]
 | up {i j:Nat} {l:jj}:i∈gt->av i=[j]->ho i=0->Rd gt av ho j l->Rd gt av ho i (i::l)
theorem Rd.lt{b:Nat->jj}{c:Nat->Nat}{i:Nat}{l:jj}(h:Rd gt b c i l):i∈gt:=by
 cases h with
 | top a=>exact a
 | up a=>exact a
theorem Rd.hd{av:Nat->jj}{ho:Nat->Nat}{i:Nat}{l:jj}(h:Rd gt av ho i l):∃ up,l=i::up:=by
 cases h with
 | top a=>exact⟨_,Z⟩
 | up a=>exact⟨_,Z⟩
theorem Rd.over{av:Nat->jj}{ho:Nat->Nat}{c:Nat}{ch:jj}(h:Rd gt av ho c ch):∀{up:jj},ch=c::up->∀ b∈ch,∀ p,p∈av b->p∈up:=by
 induction h with
 | top _ t=>
  intro up e b hb p hp;rw[zK.mp hb,t.1] at hp;cases hp
 | up _ a1 _ h ih=>
  intro up e b hb p hp;cases e;let⟨u,eu⟩:=h.hd;rcases zU.mp hb with y | y
  ·rw[y,a1] at hp;rw[zK.mp hp,eu];exact zS
  ·have:=ih eu b y p hp;rw[eu];exact zO _ this
theorem AB(lt:∀ i∈gt,i<ts.length)(T:WF gt ts)(hr:r∈gt):∀{G L:jj}{A B:jm},Yq ts r G L A B->∀{x:Nat}{f:jj}{cur:jk},G=x::f->cur.length=ts.length->(∀ i,(gd cur i).h=(gd ts i).h)->(∀ i,i≠x->(gd ts x).h<=(gd ts i).h->gd cur i=gd ts i)->(∀ b∈x::f,∀ i,i∈gt->b∈(gd cur i).bs->i∈f)->(∀ i,i∈gt->i∉f->Yu gt cur i (gd cur i))->Up (A++(gd cur x).rows++B) ->
  ∃ c,QX gt cur f c/\c.length=ts.length/\WF gt c/\(∀ i,i∉f->gd c i=gd cur i)/\(∀ i,(gd c i).h=(gd ts i).h)/\(∀ i,(gd c i).bs=(gd cur i).bs)/\(gd c r).rows=A++(gd cur x).rows++B:=by
 intro G L A B z
 induction z with
 | root=>
  intro x f cur e j D C J E U;cases e;exact⟨cur,.nil,j,λi s=>E i s (by simp),λ_ _=>rfl,D,λ_=>rfl,by simp⟩
 | down zp R v n1 n2 ih=>
  intro x f cur e j D C J E U;cases e;rename_i p x f L l m A B
  let⟨S,Q,fr,_⟩:=zp.facts T hr Z;let⟨O,F,u,er⟩:=(T p S).stem R;let Y:=(u x (by rw[v];simp)).2
  let xl:=(u x (by rw[v];simp)).1
  let k:gd cur p=gd ts p:=C p (λy=>by rw[y] at Y;lia) ∅
  let N:∀ y∈p::f,(gd ts x).h<(gd ts y).h:=λy hy=>by
   rcases zU.mp hy with q | q
   ·rw[q];lia
   ·have:=(Q y q).2
    lia
  let w:∀ b∈l++m,gd cur b=gd ts b:=λb a=>by
   refine C b (λy=>?_) (by have:=(u b (by rw[v];rcases zD.mp a with q | q <;> simp[q])).2;lia)
   rw[y] at a;exact(zD.mp a).elim n1 n2
  let d:∀ b∈(gd ts p).bs,b∈gt/\Yu gt cur b (gd cur b)/\(gd cur b).h=(gd ts x).h/\b≠p:=λb a=>by
   let⟨W,q2⟩:=u b a;refine⟨W,E b W λy=>?_,by rw[D];lia,λy=>by rw[y] at q2;lia⟩
   have:=N b y
   lia
  let X:ZV cur (gd ts p).bs=ZV ts l++(gd cur x).rows++ZV ts m:=by
   rw[v,Pb,Wl,QY (ts:=ts) (ts':=cur) (l:=l) λb a=>by rw[w b (yF _ a)],QY (ts:=ts) (ts':=cur) (l:=m) λb a=>by rw[w b (yP _ a)],xH]
  let P:A++ZV cur (gd ts p).bs++B=A++ZV ts l++(gd cur x).rows++(ZV ts m++B):=by rw[X];simp only[xH]
  rw[<-P] at U;let t:Up (ZV cur (gd ts p).bs):=by
   refine xL.sublist ?_ U;refine yU.map _ ?_;exact((xV A _).trans (xP _ B))
  let K:=HC (ts:=cur) (bs:=(gd ts p).bs) (λb a=>⟨(d b a).2.1.ne,(d b a).2.2.1⟩) O F t;let V:p<cur.length:=by rw[j];exact lt p S
  let g:∀ i,gd (cur.set p (YV cur (gd ts p).bs)) i=if i=p then YV cur (gd ts p).bs else gd cur i:=λi=>Ms V
  let M:(YV cur (gd ts p).bs).h=(gd ts p).h:=by
   show (gd cur ((gd ts p).bs.getD 0 0)).h+1=_;have:(gd ts p).bs.getD 0 0∈(gd ts p).bs:=by rw[zV,zQ ∅];exact xI _
   have:=(d _ this).2.2.1
   lia
  let e2:Up (A++(gd (cur.set p (YV cur (gd ts p).bs)) p).rows++B):=by rw[g,aK rfl];exact U
  let⟨c,c1,c2,c3,c4,c5,c6,c7⟩:=ih (cur:=cur.set p (YV cur (gd ts p).bs)) Z (by rw[wI];exact j) (λi=>by
    rw[g];split
    ·rename_i y;rw[y];exact M
    ·exact D i) (λi n h=>by rw[g,aJ n];exact C i (λy=>by rw[y] at h;lia) ∅) (λb a i s h=>by
    rw[g] at h;let o:b∈(gd cur i).bs:=by
     split at h
     ·rename_i y;rw[y,k];exact h
     ·exact h
    rcases zU.mp (J b (zO _ a) i s o) with y | y
    ·rw[y,k] at o;have:=(u b o).2;rcases zU.mp a with q | q
     ·rw[q] at this;lia
     ·have:=(Q b q).2;lia
    ·exact y) (λi s n=>by
    rw[g];split
    ·refine⟨λy=>?_,t,λr' H=>?_,λy=>absurd y (by rw[M];exact R),λ_=>⟨O,F,λb a=>⟨(d b a).1,?_⟩,?_⟩⟩
     ·let y:ZV cur (gd ts p).bs=[]:=y;rw[X] at y;have:=(d x (by rw[v];simp)).2.1.ne
      simp at y;exact this y.2.1
     ·let⟨b,a,I⟩:=xT.mp H;exact(d b a).2.1.inn r' I
     ·rw[g,aJ (d b a).2.2.2,M,(d b a).2.2.1];exact Y
     ·exact(QY λb a=>by rw[g,aJ (d b a).2.2.2]).symm
    ·rename_i y
     refine(E i s λq=>(zU.mp q).elim y n).like (by rw[wI];exact zY _) λb a=>?_
     rw[g,aJ];intro q;rw[q] at a;exact(zU.mp (J p (zO _ zS) i s a)).elim y n) e2
  exists c,.cons V (λb a=>by rw[k] at a;exact(d b a).1) (by rw[k];exact F) (by rw[k];exact ZKR λb a=>(d b a).2.1) (by rw[k];exact K) (by rw[k];exact c1),c2,c3,λi n=>?_,c5,λi=>?_
  ·rw[c4 i λy=>n (zO _ y),g,aJ λy=>n (by rw[y];exact zS)]
  ·rw[c6 i,g];split
   ·rename_i y;rw[y,k];rfl
   ·rfl
  ·rw[c7,g,aK rfl,<-P];rfl
structure O1(gt:jj)(ts cur:jk)(r c:Nat)(up:jj)(t:ZP)(T:jm):Prop where
 wf:WF gt cur
 len:cur.length=ts.length
 old:∀ i,i∉c::up->gd cur i=gd ts i
 at_:gd cur c=t
 hh:∀ i,(gd cur i).h=(gd ts i).h
 sh:∀ i,i≠c->(gd cur i).bs=(gd ts i).bs
 rows:(gd cur r).rows=T
theorem EJ{m:Nat->jj}{H:Nat->Nat}(u:∀ i∈gt,i<ts.length)(k:WF gt ts)(q:r∈gt)(e:Ik gt ts m){c:Nat}{f I:jj}{A B:jm}(rd:Rd gt m H c (c::f))(z:Yq ts r (c::f) I A B){t:ZP}(J:t.h=(gd ts c).h)(l:Yu gt ts c t)(U:Up (A++t.rows++B)):
  ∃ d,QX gt (ts.set c t) f d/\O1 gt ts d r c f t (A++t.rows++B):=by
 let⟨G,p,_,_⟩:=z.facts k q Z;let g:∀ i,gd (ts.set c t) i=if i=c then t else gd ts i:=λi=>Ms (u c G)
 let s:∀ b∈t.bs,(gd ts b).h<(gd ts c).h:=λb a=>by
  by_cases y:t.h=0
  ·rw[(l.leaf y).1] at a;cases a
  ·have:=((l.stem y).2.2.1 b a).2
   lia
 let F:c∉f:=λy=>by have:=(p c y).2;lia
 let⟨d,v,w,x,o,C,D,E⟩:=AB u k q z (cur:=ts.set c t) Z (by rw[wI]) (λi=>by
   rw[g];split
   ·rename_i y;rw[y];exact J
   ·rfl) (λi n _=>by rw[g,aJ n]) (λb a i j h=>by
   rw[g] at h;split at h
   ·have:=s b h;rcases zU.mp a with y | y
    ·rw[y] at this;lia
    ·have:=(p b y).2;lia
   ·exact rd.over Z b a i (e i j b h)) (λi j n=>by
   rw[g];split
   ·rename_i K
    rw[K];refine(l.like (by rw[wI];exact zY _) λb a=>?_)
    rw[g,aJ (show ¬ b=c from λy=>by have:=s b a;rw[y] at this;lia)]
   ·refine(k i j).like (by rw[wI];exact zY _) λb a=>?_
    rw[g,aJ (show ¬ b=c from λy=>n (rd.over Z c zS i (e i j c (y ▸ a))))]) (by rw[g,aK rfl];exact U)
 exists d,v,x,w,λi n=>?_,?_,C,λi n=>?_
 ·rw[o i λy=>n (zO _ y),g,aJ λy=>n (by rw[y];exact zS)]
 ·rw[o c F,g,aK rfl]
 ·rw[D i,g,aJ n]
 ·rw[E,g,aK rfl]
theorem Yq.keep{a:jk}(v:WF gt ts)(I:r∈gt){g k:jj}{A B:jm}(z:Yq ts r g k A B):∀{p:Nat}{f:jj},g=p::f->(∀ i∈f,(gd a i).h=(gd ts i).h/\(gd a i).bs=(gd ts i).bs)->(∀ b,b∈gt->(gd ts p).h<=(gd ts b).h->b∉p::f->(gd a b).rows=(gd ts b).rows)->Yq a r g k A B:=by
 induction z with
 | root=>exact λ_ _ _=>.root
 | down M s j x C J=>
  intro c f e t u;cases e;rename_i q c f k l m A B
  let⟨H,F,_,_⟩:=M.facts v I Z;let⟨_,_,o,_⟩:=(v q H).stem s;let N:=(o c (by rw[j];simp)).2
  let⟨K,L⟩:=t q zS;let w:∀ b∈l++m,(gd a b).rows=(gd ts b).rows:=λb d=>by
   let⟨D,E⟩:=o b (by rw[j];rcases zD.mp d with y | y <;> simp[y])
   refine u b D ∅ λy=>?_
   rcases zU.mp y with y | y
   ·rw[y] at d;exact(zD.mp d).elim x C
   ·rcases zU.mp y with y | y
    ·rw[y] at E;lia
    ·have:=(F b y).2;lia
  have:=Yq.down (J Z (λi G=>t i (zO _ G)) λb d h n=>u b d ∅ λy=>(zU.mp y).elim (λy=>by rw[y] at h;lia) n) (by rw[K];exact s) (L.trans j) x C
  rw[QY (l:=l) λb d=>w b (yF _ d),QY (l:=m) λb d=>w b (yP _ d)] at this;exact this
end
end Tw
namespace L2
open PySem PySem.Spec PyProof.Rows
section
variable{jP:jo}{σ:St}{H:Hp}
def ZRI:HO->Prop
 | .dK _=>True
 | .frz _ (.dK _)=>True
 | _=>False
theorem ZF.re{d:ai}{v u:HO}(I:ZF X jP σ H s)(e:H d=some v)(h:ZRI v)(B:∀ o x,X.H₀ d≠some (.frz o x))(g:Zf X.prog X.w H s.heap d u):ZF X jP σ (upd H d u) s:=by
 let f:∀{b:ai},H b=none->b≠d:=fun{b} q z=>by rw[z,e] at q;cases q
 let C:∀{b y:ai},H b=some (.own y)->b≠d:=fun{b y} q z=>by rw[z,e] at q;cases q;exact h
 let j:∀{b:ai}{a:je},H b=some (.tup a)->b≠d:=fun{b a} q z=>by rw[z,e] at q;cases q;exact h
 let A:∀{b:ai}{a:js},H b=some (.tbl a)->b≠d:=fun{b a} q z=>by rw[z,e] at q;cases q;exact h
 refine⟨I.ok,I.os,I.bare,⟨I.base.keep,I.base.slot,λb o q n t=>?_,I.base.there,λb a q=>?_,λb o x q=>?_,λb D q=>?_⟩,I.loc,I.cell,?_,λx c q=>?_,λp r=>?_,λb o q=>?_,I.len⟩
 ·let z:=I.base.free b o q n t;rw[ZS (f z)];exact z
 ·let z:=I.base.tups b a q;rw[ZS (j z)];exact z
 ·let z:=I.base.frzs b o x q;rw[ZS (show b≠d from λy=>B o x (y ▸ q))];exact z
 ·let⟨m,z⟩:=I.base.tbls b D q;exact⟨m,by rw[ZS (A z)];exact z⟩
 ·rw[ZS (f I.free)];exact I.free
 ·rw[ZS (f (I.freeC x c q))];exact I.freeC x c q
 ·let⟨E,l,F⟩:=I.pin p r;exact⟨E,by rw[ZS (f l)];exact l,F⟩
 ·let k:∀{b o},Zf X.prog X.w H s.heap b o->Zf X.prog X.w (upd H d u) s.heap b o:=λx=>x.stay (λ_ _ _ q=>q) (λc q=>by rw[ZS (C q)];exact q) λc a q=>by rw[ZS (j q)];exact q
  by_cases i:b=d
  ·subst i;rw[ZZ] at q;cases q;exact k g
  ·rw[ZS i] at q;exact k (I.hok b o q)
theorem ZF.nofrz{d:ai}{a:List (Za×V)}(I:ZF X jP σ H s)(e:H d=some (.dK a)):∀ o x,X.H₀ d≠some (.frz o x):=λo x q=>by
 have:=I.base.frzs d o x q;rw[e] at this;cases this
inductive MN(t:TS)(D:YH)(σ:L2.St)(H:Hp):Prop
 |mk(d a:_)(_:H d=some (.dK a))(_:t ⟨λb c=>∃ o u,c d=some (.frz o (.dK u))/\D.nx b (upd c d (.dK u)),λ_ _=>False,λ_ _=>False,λ_ _=>False⟩ σ H)
theorem ZNZ{g:aB}{t:TS}(h:PS X g t):PS X g (MN t):=by
 rintro jP s σ H D I ⟨d,i,e,q⟩;refine YA (h jP s σ H _ I q) λf m z=>?_;let j:=I.nofrz e
 cases f with
 | next=>
  let⟨a,l,b,o,u,c,k⟩:=z;exact⟨a,_,b.re c trivial j (b.hok d _ c).2,k⟩
 | brk=>let⟨_,_,_,z⟩:=z;exact z.elim
 | cont=>let⟨_,_,_,z⟩:=z;exact z.elim
 | ret u=>let⟨_,_,_,_,_,z⟩:=z;exact z.elim
def N1(d:ai)(o:aG)(a:List (Za×V)):It:=
 ⟨λi H=>H d=some (.frz o (.dK a))/\i<a.length,λi H x b=>b=H/\∃ p,a[i]? = some p/\x=kV p.1,λi H=>H d=some (.frz o (.dK a))/\a.length<=i⟩
theorem Gf{a:Type}:∀{c:List (a×V)}{d:List (a×ah)}{i:Nat}{p:a×V},KV c d->c[i]? = some p->∃ u,d[i]? = some (p.1,u)
 | _,_,_,_,.nil,e=>by simp at e
 | _,_,0,p,.cons (b:=b) r _,e=>by simp at e;subst e;exact⟨b.2,by rw[r.1];rfl⟩
 | _,_,i+1,p,.cons _ t,e=>by
  let⟨u,h⟩:=Gf (i:=i) (p:=p) t (by simpa using e)
  exact⟨u,by simpa using h⟩
theorem ZRO{k:Za}{v:ah}(h:O3 k v=true):ZN (kV k) v:=by
 rcases Pf h with ⟨i,t,rfl,rfl⟩ | ⟨x,t,rfl,rfl⟩
 ·exact⟨t,Z⟩
 ·exact⟨t,Z⟩
theorem E6{P:ak}{w:ar}{h:aC}{d:ai}{o:aG}{a:List (Za×V)}{j:Array DictEntry}{i:Nat}(k:o.data=.dict j i)(x:Zf P w H h d (.frz o (.dK a))):∃ b,KV a b/\h.DictAt (VH P w) d b i:=by
 let⟨e,_,_,b,r,n,m,l,g,c,f,q⟩:=x;rw[e] at g;cases g;rw[k] at f;cases f;exact⟨b,r,o,j,e,c,k,q⟩
theorem K9{c:Type}{a:List (c×V)}{b:List (c×ah)}(h:KV a b):a.length=b.length:=Paired.length h
theorem ZJ2{P:ak}{w:ar}{K:zZ}{tg:Expr}{d:ai}{o:aG}{j:List (Za×V)}{U:Array DictEntry}{N:Nat}(Q:o.data=.dict U N)(g:ai):Ut P w K tg (N1 d o j) [g] g (λi h=>h.IsKeyIter g d i j.length N) where
 mem:=by simp
 obj:=λi h a b f=>by
  let e:b=g:=by simpa using f
  subst e;let⟨o,e,c,d⟩:=a;exact⟨o,e,λv z=>by rw[d] at z;cases z⟩
 keep:=λi h m a k=>a.at λo e=>k g (by simp) o e
 item:=by
  intro X F L D O i jP s σ H E I n a G;subst F L D;let⟨J,q⟩:=G;let⟨vs,r,t⟩:=E6 Q (I.hok d _ J);obtain⟨p,R⟩:∃ p,j[i]? = some p:=⟨_,zQ q⟩;let⟨u,hu⟩:=Gf r R;let⟨x,y,Y,A,B,C⟩:=n g (by simp)
  rw[K9 r] at a⊢;refine wpAny_pyNext_dict_item a t hu λM m hk l sb=>?_;let S:ZF X jP σ H { s with heap:=m }:=I.turned (t':=s.toks) (λb o f e=>(sb.2 b f).trans e) x y A B C;exact⟨M,Z,letGo_keyiter (s':={ s with heap:=m }) l ⟨_,H,S,ZRO hk,⟨Z,p,R,Z⟩,l,λb f=>(n b f).1⟩⟩
 done:=by
  intro X F L D O i jP s σ H E I n a G;subst F L D;let⟨J,q⟩:=G;let⟨vs,r,t⟩:=E6 Q (I.hok d _ J);let⟨x,y,Y,A,B,C⟩:=n g (by simp)
  rw[K9 r] at a q;exact wpAny_pyNext_dict_end (I.ok.hd O) a t (List.getElem?_eq_none_iff.mpr q) λm T=>⟨Z,I.turned (t':=s.toks) (λb o f e=>T b o f e) x y A B C⟩
 self:=λ_ _ _ _ _ a h=>wpAny_pyIter_keyiter a h
inductive Oq(R:It->Hp->Prop)(x:V)(b:Hp):Prop
 |mk(d a:_)(_:x=.ref d)(_:b d=some (.dK a))(_:∀ o,R (N1 d o a) (upd b d (.frz o (.dK a))))
def Cp(b:TE):TI:=λσ H R=>b σ H λx a=>Oq R x a
theorem ZMY{C l:Expr}{m:TE}(z:PE X l m):PI X C l (Cp m):=by
 intro jP s σ H R I h;refine YF (z jP s σ H _ I h) λv a x F f B A=>?_;let⟨d,j,rfl,e,q⟩:=A;cases B;let⟨G,E,D,r,o,t,p,g,c,k,rest⟩:=id (f.hok d _ e);let n:a.heap.DictAt (VH X.prog X.w) d D p:=⟨o,t,g,c,k,rest⟩;refine wpAny_pyIter_dict E n ?_;rw[<-K9 r];let i:=f.re (u:=.frz o (.dK j)) e trivial (f.nofrz e) ⟨g,f.hok d _ e⟩;refine⟨a.heap.objs.size,[a.heap.objs.size],_,_,_,Z,i.kept (t':=a.toks) λb o e=>zA _ e,ZJ2 k _,⟨_,yM _ Z,Z,Z⟩,λb y=>?_,q o⟩;let e:b=a.heap.objs.size:=by simpa using y
 subst e;exact i.fpOk (zY _) (i.hok.fresh (zY _))
end
theorem Dx{X:Cx}{a:jB}{b:ExceptHandler}{e:List ExceptHandler}{t:TS}{d:Pos}(h:XV X.nox a t):PS X (.Try a (b::e) [] [] d) t:=by
 intro c s i H D I g;refine wpAny_Try_except ?_;exact ae (h c s i H D (I.wish _) g) (λf j q=>by
  cases f with
  | next=>exact wpAny_execs_nil q.unwish
  | brk=>exact q.unwish
  | cont=>exact q.unwish
  | ret u=>exact q.unwish) λ_ _ z=>False.elim z
end L2
namespace Tw
open PySem PySem.Spec L2 PyProof.Rows
variable{jN jO CS CT CH CK CP CB:ai}
theorem NI(l:jj)(b:Nat):WN (iN (l++[b])) (-1)=some (V.int (b:Nat)):=by
 refine LR (j:=1) (zY _) (by simp[iN]) ?_
 simp[iN]
abbrev Js:Stmt:=Xv (top 76) 23
abbrev HG:Stmt:=Xv (top 76) 9
inductive Yt(jN jO:ai):Sp
 |mk{S d j:ai}{g:jj}{m:jk}{c:Nat->jj}{e:Nat->Nat}{h:jr}{b:List (Za×V)}{k:je}{i:Nat}{l:jj}{H:Hp}{Q:VK}{E:XK}:Zl jN jO H S d j g m c e h b k->Rd g c e i l->l.length<=900->(∀(r:ai)(a:Hp),ZE H a->H r=none->a r=some (.lst (iN l))->Q (.ref r) a)->Yt jN jO [.ref S,.int (i:Nat)] H Q E
theorem Vy:ZC ["self","number","road","above"] zEa (ZY Js):=Zp
inductive FE(S:ai)(n:jj)(av:Nat->jj)(ho:Nat->Nat)(l:jj)(i:Nat)(H:Hp)(r:ai):Nat->L2.St->Hp->Prop
 |mk{j:Nat}{rr lr:jj}{x3:jf}{H':Hp}:Rd n av ho j lr->l=rr++lr->ZE H H'->H r=none->H' r=some (.lst (iN (rr++[j])))->FE S n av ho l i H r lr.length [some (.ref S),some (.int (i:Int)),some (.ref r),x3] H'
theorem ZKI(F:Zi K "road_up" "Shelf.road_up" Js f fd)(L:YT K mg jN jO)(DH:ZB P w K mg jQ ZM 2 jN "holders" zEa (Xn jN jO λ_ q us=>.int ((us.length:Nat)+(q:Nat):Int)))(DT:ZB P w K mg jQ ZM 1 jN "twig_of" zEa (Zk jN)):ZI P w K mg jQ (Yd P w) 3 f fd zEa (Yt jN jO):=by
 refine F.okD Vy (λvs H Q E h=>(by cases h;rfl)) (λa4 A M s H vs Q E I h=>?_)
 let⟨R,rd,l9,k⟩:=h;rename_i S d V lv ts p q o u X i l
 let Y:=Vy.nd;let J:=I.to 1;intro Xc;refine⟨_,ZL (Zj 2 Y (Yr (ZT (pv 1)))) (ZR (Om De (Y5 Pv)
  (ZL (Z1 (YX Uo (Z0 (E:=E0) (pv 0) L.cS DH I Z3 (ZT (Z8 K (pv 2) (Qq Qk ZK)))) ZK (YG _)) Wq Z5)
  (ZL (Zj 3 Y (XT (Z0 (E:=E0) (pv 0) L.cS DT J Z3 (ZT (Z8 K (pv 2) (Qq Qk ZK)))) rfl))
  (ZL (Z1 (YX (Md I.units0) (pv 3) (Yr Zn) (YG _)) (ZR (Zh (pv 2))) Z5)
  (ZR (Ye (QS xW wO wN PY (pv 2) (ZT (Z8 K (pv 3) ZK)))))))))),?_⟩
 exists _,Z,YS;intro r n;exists FE S lv p q l i H r,⟨_,.mk (rr:=[]) (x3:=none) rd Z (Zv n _) n ZZ⟩;rintro _ _ H1 (@⟨b,rr,lr,x3,_,e,C,s1,n,D⟩);refine⟨_,Z,Z7 ⟨_,λ_ _ z=>z,?_⟩⟩;let B:=e.lt;let m:=R.same s1;let⟨O,U⟩:=m.sh.self;let W:=m.tw b B;let⟨dt,hx⟩:=W.tw.self;let o1:(p b).length+q b=1:=by
  cases e with
  | top _ t=>rw[t.1,t.2];rfl
  | up _ y N=>rw[y,N];rfl
 let lI:(iN (p b)).length=(p b).length:=zX _;refine⟨_,Z,S,O,_,Z,U,Z,_,Z,1,Z,.inl ⟨r,_,_,.int (b:Nat),Z,Z,ZG.of D,NI _ _,S,d,V,ts.length,u,X,(b:Int),_,_,_,_,_,_,Z,⟨m.sh,m.val b B,W.tw⟩,?_⟩⟩;exists _,_,Z,Z,_,Z;rw[show decide (((iN (p b)).length:Nat)+(q b:Nat) > (1:Int))=false from aH (by rw[lI];lia)]
 refine Zm ⟨_,Z,S,O,_,Z,U,Z,_,Z,1,Z,.inl ⟨r,_,_,.int (b:Nat),Z,Z,ZG.of D,NI _ _,S,d,V,ts.length,u,X,(b:Int),.ref (o.getD b .d).x,Z,m.sh,m.val b B,(o.getD b .d).x,jO,dt,_,.ref (o.getD b .d).ab,Z,hx,L.cT,L.nab,Z,?_⟩⟩;exists _,Z,YS;intro T G;let v:=Zv G (.lst []);let a:=v _ _ W.tw.above;let c:=v _ _ D;let g:=s1.trans v;exists (o.getD b .d).ab,T,_,Z,Z,ZG.of a,ZG.of ZZ,_,Z;generalize upd H1 T (.lst [])=H3 at v a c g⊢
 cases e with
 | top _ t=>
  rw[t.1,show (iN ([]:jj)).isEmpty=true from rfl];exact Z7 ⟨_,Z,k _ H3 g n (by rw[C];exact c)⟩
 | up a0 y N a3=>
  rename_i j lq
  rw[y] at a⊢;let ll:=congrArg wM C;rw[zN,zR] at ll;rw[show (iN [j]).isEmpty=false from rfl];refine Zm ⟨_,Z,.inl ⟨Z,_,ZG.of c⟩,_,Z,.inl ⟨(o.getD b .d).ab,_,0,.int (j:Nat),Z,Z,ZG.of a,XH (j:=0) Z,r,_,.int (j:Nat),Z,Z,c,XX (by simp[iN];lia),?_⟩⟩
  refine⟨lq.length,by simp,.mk (rr:=rr++[b]) a3 (by rw[C,xH];rfl) (Uq g n) n ?_⟩
  rw[ZZ];simp[iN]
inductive Xq(jN jO:ai):Sp
 |mk{S d j:ai}{g:jj}{m:jk}{c:Nat->jj}{e:Nat->Nat}{h:jr}{a:List (Za×V)}{k:je}{i:Nat}{l:jj}{H:Hp}{Q:VK}{E:XK}:Zl jN jO H S d j g m c e h a k->Rd g c e i l->l.length<=900->(∀(b:Hp),ZE H b->Q (.bl true) b)->Xq jN jO [.ref S,.int (i:Nat)] H Q E
theorem ZMf:ZC zEa zEa (ZY HG):=Zp
theorem Oa{X:Cx}:Qj (Yd P w) X E0:=λ_ _ _ _ _ _ _ h=>by
 let⟨_,_,_,_,_,_,h⟩:=h;exact h.elim
theorem ZKq(F:Zi K "alone" "Shelf.alone" HG f fd)(L:YT K mg jN jO)(b:ZB P w K mg jQ (Yd P w) 3 jN "road_up" zEa (Yt jN jO)):ZI P w K mg jQ ZM 4 f fd zEa (Xq jN jO):=by
 refine F.ok ZMf (λm H Q E h=>(by cases h;rfl)) (λd A a s H m Q E i h=>?_)
 let⟨R,rd,j,k⟩:=h;intro n;exists _,ZL (Dx (ZR (Ye (Z0 (E:=E0) (pv 0) L.cS b i Oa (ZT (pv 1)))))) (ZR (Zh Pv));let⟨e,g⟩:=R.sh.self;exact⟨_,Z,_,e,_,Z,g,Z,_,Z,.mk R rd j λr c l _ _=>k c l⟩
abbrev JJ:Stmt:=Xv (top 76) 24
abbrev JF:Stmt:=Xv (top 76) 25
abbrev kI(i:Nat):Za:=Sum.inl (i:Int)
theorem AV{i j:Nat}(h:i≠j):kI i≠kI j:=λz=>h (by have:=Sum.inl.inj z;lia)
structure Qx(H:Hp)(cur:jk)(done:jj)(lkv:List (Za×V)):Prop where
 keys:lkv.map (·.1)=done.map kI
 at_:∀ i∈done,∃ v,Ym lkv (kI i)=some v/\YJ H (Zr (gd cur i)) v
theorem Qx.no{H:Hp}{d:jk}{a:jj}{c:List (Za×V)}(h:Qx H d a c){b:Nat}(f:b∉a):Ym c (kI b)=none:=by
 cases z:Ym c (kI b) with
 | none=>rfl
 | some v=>
  have:=En z;rw[h.keys] at this;let⟨i,g,e⟩:=zP.mp this;exact absurd (show b∈a by
   have:i=b:=by have:=Sum.inl.inj e;lia
   rw[<-this];exact g) f
theorem Qx.mono{H d:Hp}{b:jk}{a:jj}{c:List (Za×V)}(h:Qx H b a c)(m:Z6 H d):Qx d b a c:=⟨h.keys,λi f=>by
 let⟨v,e,k⟩:=h.at_ i f;exact⟨v,e,k.mono m⟩⟩
theorem Qx.push{H:Hp}{c b:jk}{a:jj}{f:List (Za×V)}{s:Nat}{v:V}(h:Qx H c a f)(j:s∉a)(e:∀ i∈a,gd b i=gd c i)(k:YJ H (Zr (gd b s)) v):Qx H b (a++[s]) (XU f (kI s) v):=by
 exists by rw[Eb v (h.no j),zF,h.keys,zF];rfl
 intro i g;rw[GF];by_cases z:i=s
 ·subst z;rw[aK rfl];exact⟨v,Z,k⟩
 ·rw[aJ (AV z)];let d:i∈a:=(zD.mp g).elim id λy=>absurd (zK.mp y) z;rw[e i d];exact h.at_ i d
theorem QX.inv{gt:jj}{g j:jk}{s:Nat}{r:jj}(h:QX gt g (s::r) j):s<g.length/\(∀ b∈(gd g s).bs,b∈gt)/\(gd g s).bs.length<=4/\(∀ i,((YK g (gd g s).bs).getD i .d).fit)/\over (YK g (gd g s).bs)=some (Zr (YV g (gd g s).bs))/\QX gt (g.set s (YV g (gd g s).bs)) r j:=by
 cases h with | cons a b c d e f=>exact⟨a,b,c,d,e,f⟩
inductive Xw(jN jO:ai):Sp
 |mk{S d o r:ai}{e:jj}{j:jk}{l:Nat->jj}{m:Nat->Nat}{k:jr}{g:List (Za×V)}{p:je}{n:Nat}{rest:jj}{v:V}{t:ZP}{a:jk}{H:Hp}{Q:VK}{E:XK}:
  Zl jN jO H S d o e j l m k g p->n∈e->(n::rest).Nodup->(∀ i∈rest,i∈e/\(gd j i).h≠0)->rest.length<=800->H r=some (.lst (iN (n::rest)))->QX e (j.set n t) rest a->YJ H (Zr t) v ->
  (∀(c:Hp)(D:ai)(b:List (Za×V)),ZE H c->H D=none->c D=some (.dK b)->Qx c a (n::rest) b->Q (.ref D) c)->Xw jN jO [.ref S,.ref r,v] H Q E
abbrev AK:jn:=["self","road","label","labels","stem","branches"]
theorem QE:ZC AK zFb (ZY JJ):=Zp
inductive FS(S r D q:ai)(n:Nat)(v:V)(lv:jj)(ts:jk)(rest:jj)(cur:jk)(H:Hp):Nat->L2.St->Hp->Prop
 |mk{k:Nat}{H2:Hp}{x y:jf}{c2:jk}{lkv:List (Za×V)}:ZE H H2->H2 q=some (.lst (iN rest))->H2 D=some (.dK lkv)->QX lv c2 (rest.drop k) cur->c2.length=ts.length->(∀ i,i∉n::rest.take k->gd c2 i=gd ts i)->Qx H2 c2 (n::rest.take k) lkv ->
  FS S r D q n v lv ts rest cur H k [some (.ref S),some (.ref r),some v,some (.ref D),x,y] H2
theorem C6(F:Zi K "labels_up" "Shelf.labels_up" JJ f fd)(L:YT K mg jN jO)(DT:ZB P w K mg jQ ZM 1 jN "twig_of" zEa (Zk jN))(DL:ZB P w K mg jQ ZM 2 jN "label" zEa (Xn jN jO λtg _ _=>tg))(DO:ZA P w K mg jQ 9 "label_over" zFp Xk):
  ZI P w K mg jQ ZM 10 f fd zFb (Xw jN jO):=by
 refine F.ok QE (λvs H Q E h=>(by cases h;rfl)) (λi7 A i5 s H vs Q E hr h=>?_)
 let⟨R,hn,i4,i2,i6,c0,ch,hv,k2⟩:=h;rename_i S d lk r lv l av ho as c8 ls n rest v t e4
 let nd:=QE.nd;let hu:=Lp hr;let i0:=hr.mono (show 1<=9 by lia)
 let i1:=hr.mono (show 2<=9 by lia)
 intro Xc;refine⟨_,ZL (Nn (i:=3) nd rfl (Or.inr rfl) (ZMw (ZLm (Z8 K (pv 1) ZK) (pv 2) ZNn) rfl rfl (by intro z;cases z) (by decide)))
  (ZL (Vk PassesOwn.never rfl (WD (O0 O8 (pv 1) (Pi ZK) Ma)) (Vo 4 nd)
   (ZL (Zj 5 nd (XT (Z0 (E:=E0) (pv 0) L.cS DT i0 Z3 (ZT (pv 4))) rfl))
   (ZR (Dc hu (pv 3) (pv 4) (Zc DO hr (ZT (Vn [3,0] ["labels","self"] rfl (WD (pv 5)) (λ_ _ _ _ _=>U0) (λ_ _ _ _ _=>BJ hu (pv 1) (pv 0) (Z0 (E:=E0) (pv 2) L.cS DL i1 Z3 (ZT (pv 0))) ⟨Z,Z,Z,Z⟩) ⟨rfl,.inl rfl,rfl,rfl,.inl rfl,rfl,trivial⟩))) rfl))))
  (ZR (Zh (pv 3)))),?_⟩
 intro D nD;let g1:=Zv nD (.dK []);refine⟨_,Z,.inl ⟨r,_,0,.int (n:Nat),Z,Z,ZG.of (g1 _ _ c0),XH (j:=0) Z,_,Z,?_⟩⟩;exists ZZ,[(kI n,v)],Z,(by show 1<=15;lia)
 let e0:Nx [] [(kI n,v)]=[(kI n,v)]:=rfl;rw[e0,Np];let s0:ZE H (upd H D (.dK [(kI n,v)])):=Zv nD _;let X:upd H D (.dK [(kI n,v)]) D=some (.dK [(kI n,v)]):=ZZ;generalize upd H D (.dK [(kI n,v)])=H1 at s0 X⊢;exists _,Z,_,Z,r,_,Z,ZG.of (s0 _ _ c0);intro q nq;let a3:QM (iN (n::rest)) (some 1) none=iN rest:=by
  unfold QM;let e1:HT.sIx (iN (n::rest)).length 0 (some 1)=1:=by
   unfold HT.sIx;simp[iN]
   try lia
  let e2:HT.sIx (iN (n::rest)).length (iN (n::rest)).length none=(iN (n::rest)).length:=rfl;rw[e1,e2];simp[iN];exact yV (by simp)
 rw[a3];let g2:=Zv nq (.lst (iN rest));let hq:upd H1 q (.lst (iN rest)) q=some (.lst (iN rest)):=ZZ;let a5:=g2 _ _ X;let s1:=s0.trans g2;let qD:q≠D:=λz=>by rw[z,X] at nq;cases nq
 let c4:=hv.mono (ZE.tups s1);generalize upd H1 q (.lst (iN rest))=H2 at g2 hq a5 s1 c4⊢;let gn:∀ i,gd (l.set n t) i=if i=n then t else gd l i:=λi=>Ms (R.lt n hn)
 refine⟨q,Z,⟨_,ZG.of hq⟩,Qm (K:=K) (a:=q) (xs:=iN rest) (FS S r D q n v lv l rest e4 H) (.mk s1 hq a5 ch (by rw[wI]) (λi m=>by rw[gn,aJ λz=>m (by rw[z];exact zS)]) ⟨rfl,λi m=>?_⟩) (λi σ H3 _ B=>by let⟨_,O,_⟩:=B;exact ZG.of O) ?_ ?_⟩
 ·rw[zK.mp m,gn,aK rfl];exact⟨v,by rw[QL rfl],c4⟩
 ·rintro k u σ H3 a0 ⟨s3,O,M,ec,c9,T,Y⟩;unfold iN at a0;rw[zG] at a0;let⟨g,es,rfl⟩:=yC.mp a0;rename_i x y C o
  let hk:k<rest.length:=(zB.mp es).1;let eg:rest[k]=g:=(zB.mp es).2;let ed:rest.drop k=g::rest.drop (k+1):=by rw[wZ hk,eg]
  let et:rest.take (k+1)=rest.take k++[g]:=by rw[yR,es];rfl
  let⟨e3,h0⟩:=i2 g (zL es);let a2:g∉n::rest.take k:=λz=>by
   let nn':=i4;let e2:n::rest=(n::rest.take k)++g::rest.drop (k+1):=by
    show n::rest=n::(rest.take k++g::rest.drop (k+1));rw[<-ed,xA]
   rw[e2,xR] at nn';exact nn'.2.2 g z g zS Z
  let e6:=T g a2;rw[ed] at ec;let⟨c1,c3,b4,c5,c6,c7⟩:=ec.inv;rw[e6] at c3 b4 c5 c6 c7;let R3:=R.same s3;let⟨dS,hS⟩:=R3.sh.self;let W:=R3.tw g e3;let⟨dt,hx⟩:=W.tw.self;let⟨us,J,_,V⟩:=W.things;let V:=V h0;subst V;exists _,Z,S,dS,_,Z,hS,Z,_,Z,S,d,lk,l.length,c8,ls,(g:Int),.ref (as.getD g .d).x,Z,R3.sh,R3.val g e3,(as.getD g .d).x,jO,dt,_,.ref (as.getD g .d).th,Z,hx,L.cT,L.nth,Z;exists _,Z,(as.getD g .d).th,Z,⟨_,ZG.of J⟩;refine Ud (n:=(gd l g).bs.length) (λi z=>(iN (gd l g).bs)[i]? = some z) (λG i ys p=>ZE H3 p/\H3 G=none/\Yp p ((YK C (gd l g).bs).take i) ys) (XX ∅)
   (λG i ys p m B=>⟨_,.int ((gd l g).bs[i]:Nat),ZG.of (B.1 _ _ J),by simp[iN,m]⟩) (λG i ys p z H5 m B hy=>⟨hy.1,hy.2 _ (ZG.of (B.1 _ _ J))⟩) (λG ys p B=>⟨_,ZG.of (B.1 _ _ J),by simp[iN]⟩)
   (λG a6=>⟨Zv a6 _,a6,Z,λi u e=>by simp at e⟩) (λG i ys p z I i8 m hz B RR e7=>?_) (λG us p I B=>?_)
  ·let⟨s4,a1,N⟩:=B;let ez:z=.int ((gd l g).bs[i]:Nat):=by
    unfold iN at hz;rw[zG,zQ m] at hz;exact(yZ.inj hz).symm
   subst ez;let a9:(gd l g).bs[i]∈(gd l g).bs:=xI _;let a4:(YK C (gd l g).bs)[i]? = some (Zr (gd C (gd l g).bs[i])):=by unfold YK;rw[zG,zQ m];rfl
   generalize (gd l g).bs[i]=b at a9 a4⊢;let bl:b∈lv:=c3 b a9;let R4:=R3.same s4;let⟨e5,e8⟩:=R4.sh.self;let Wb:=R4.tw b bl;let a7:=s4 _ _ M;exists _,Z,D,Z,.inl ⟨_,.inl a7⟩,_,Z,_,Z,S,e5,_,Z,e8,Z,_,Z,S,d,lk,l.length,c8,ls,(b:Int),_,_,_,_,_,_,Z,⟨R4.sh,R4.val b bl,Wb.tw⟩,Ym o (kI b),WE.k (k:=kI b) a7;let tD:∀ vv,Z6 p (upd p G (.lst (ys++[vv]))):=λvv c xs e=>by rw[ZS (ZW e I)];exact e
   let i3:YJ p (Zr (gd C b)) ((Ym o (kI b)).getD (.ref (as.getD b .d).tg)):=by
    by_cases c:b∈n::rest.take k
    ·let⟨v',e',k'⟩:=Y.at_ b c;rw[e'];exact k'.mono (ZE.tups s4)
    ·rw[Y.no c,T b c];exact Wb.tag
   refine e7 _ p I ⟨Uq s4 a1,a1,?_⟩;rw[yR,a4];exact(N.snoc i3).mono (tD _)
  let⟨s4,a1,N⟩:=B;let ll:(YK C (gd l g).bs).length=(gd l g).bs.length:=zX _;rw[yV ∅] at N
  exists G,us,_,_,Z,I,N,c5,c6;intro H5 vv s5 e9;let U:=s4.trans s5;let a8:=U _ _ M;let i9:o.length<=801:=by
   have:=congrArg wM Y.keys;rw[zX,zX,zR,xU] at this
   lia
  exists _,Z,_,Z,D,_,Z,Qg.k (k:=kI g) a8 (XX ∅)
  let sD:ZE H (upd H5 D (.dK (XU o (kI g) vv))):=Uq (s3.trans U) nD;let tD:Z6 H5 (upd H5 D (.dK (XU o (kI g) vv))):=λc xs e=>by rw[ZS (ZW e a8)];exact e
  let gs:∀ i,gd (C.set g (YV C (gd l g).bs)) i=if i=g then YV C (gd l g).bs else gd C i:=λi=>Ms c1
  refine .mk sD (by rw[ZS qD];exact U _ _ O) ZZ c7 (by rw[wI];exact c9) (λi m=>?_) ?_
  ·rw[et,<-vL] at m;rw[gs,aJ λz=>m (by rw[z];simp)]
   exact T i λz=>m (yF _ z)
  ·rw[et,<-vL];refine((Y.mono (ZE.tups U)).mono tD).push a2 (λi m=>?_) ?_
   ·rw[gs,aJ (show ¬ i=g from λz=>a2 (z ▸ m))]
   ·rw[gs,aK rfl];exact(GZ e9).mono tD
 ·rintro σ H3 ⟨s3,O,M,ec,c9,T,Y⟩;rename_i x y C o
  rw[show (iN rest).length=rest.length from zX _,yV (zY _)] at Y;rw[show (iN rest).length=rest.length from zX _,sP (zY _)] at ec;cases ec;exact⟨_,Z,k2 H3 D o s3 nD M Y⟩
end Tw
namespace L2
open PySem PySem.Spec PyProof.Rows
theorem ZLK{d:ai}{o:aG}{a:List (Za×V)}{g:TG}{r:TS}{D:YH}{b:St}{H:Hp}(c:Nat->St->Hp->Prop)(u:c 0 b H)(z:∀ i b H,i<=a.length->c i b H->H d=some (.frz o (.dK a)))(A:∀ i p b H,a[i]? = some p->c i b H->g (kV p.1) b H λj l=>r { D with nx:=c (i+1),ct:=c (i+1),bk:=D.nx } j l)(v:∀ b H,c a.length b H->D.nx b H):
  ∃ W:Nat->Nat->St->Hp->Prop,(∃ m,W 0 m b H)/\∀ i m b H,W i m b H ->
   ((N1 d o a).stop i H/\D.nx b H)\/((N1 d o a).go i H/\∃ N:St->Hp->Prop,(∀ h f,N h f->∃ n,n<m/\W (i+1) n h f)/\∀ x f,(N1 d o a).yld i H x f->g x b f λj l=>r { D with nx:=N,ct:=N,bk:=D.nx } j l):=by
 exists λi m b H=>m=a.length-i/\i<=a.length/\c i b H,⟨a.length,by simp,zE _,u⟩
 rintro i m b H ⟨rfl,w,p⟩;let q:=z i b H w p;by_cases k:i<a.length
 ·refine .inr ⟨⟨q,k⟩,c (i+1),λh f B=>⟨a.length-(i+1),∅,Z,k,B⟩,λx f y=>?_⟩
  let⟨e,C,s,t⟩:=y;subst e t;exact A i C b _ s p
 ·let e:i=a.length:=∅
  subst e;exact .inl ⟨⟨q,zY _⟩,v b H p⟩
end L2
namespace Tw
open PySem PySem.Spec L2 PyProof.Rows
variable{jN jO CS CT CH CK CP CB:ai}
inductive MZ(jO:ai)(H:Hp)(x:Nat->ai)(e d:Nat->V)(a:Nat->ai)(c:Nat->Nat)(i:Nat):Prop
 |mk(b:_)(_:H (x i)=some (.ins jO b (WQ (e i) (d i) (a i) (c i))))
inductive WB(jN jO:ai):Sp
 |mk{S d lk D:ai}{N:Nat}{kvs lkv:List (Za×V)}{ls:je}{rd:jj}{x ab:Nat->ai}{th tg vl:Nat->V}{ho:Nat->Nat}{H:Hp}{Q:VK}{E:XK}:
  Xd jN H S d lk N kvs ls->(∀ i∈rd,Ym kvs (kI i)=some (.ref (x i))/\x i≠S)->(∀ i∈rd,MZ jO H x th tg ab ho i)->H D=some (.dK lkv)->D≠d->lkv.map (·.1)=rd.map kI->rd.Nodup->(∀ i∈rd,Ym lkv (kI i)=some (vl i))->(∀ i∈rd,∀ j∈rd,i≠j->x i≠x j) ->
  (∀ H',(∀ c o,(∀ i∈rd,c≠x i)->H c=some o->H' c=some o)->(∀ i∈rd,MZ jO H' x th vl ab ho i)->Q .non H')->WB jN jO [.ref S,.ref D] H Q E
abbrev ZQg:jn:=["self","labels","number","twig"]
theorem Qu:ZC ZQg zFh (ZY JF):=Zp
inductive EM(jO S D:ai)(o:aG)(lkv:List (Za×V))(rd:jj)(x ab:Nat->ai)(th tg vl:Nat->V)(ho:Nat->Nat)(H:Hp):Nat->L2.St->Hp->Prop
 |mk{k:Nat}{y z:jf}{H2:Hp}:(∀ c o,(∀ i∈rd,c≠x i)->c≠D->H c=some o->H2 c=some o)->H2 D=some (.frz o (.dK lkv))->(∀ i∈rd.take k,MZ jO H2 x th vl ab ho i)->(∀ i∈rd.drop k,MZ jO H2 x th tg ab ho i) ->
  EM jO S D o lkv rd x ab th tg vl ho H k [some (.ref S),some (.ref D),y,z] H2
theorem ZNk(F:Zi K "give_labels" "Shelf.give_labels" JF f fd)(L:YT K mg jN jO)(DT:ZB P w K mg jQ ZM 1 jN "twig_of" zEa (Zk jN)):ZI P w K mg jQ ZM 2 f fd zFh (WB jN jO):=by
 refine F.ko Qu λa9 A a8 s H vs Q E hr h=>?_;let⟨R,hv,hl,I,a6,hk,a7,a3,hx,k⟩:=h;rename_i S d lk D N a5 m ls rd x ab th tg vl ho
 let nd:=Qu.nd;let hu:=Lp hr;let ll:m.length=rd.length:=by have:=congrArg wM hk;simpa using this
 intro Xc;refine⟨_,ZR (ZNZ (Vk PassesOwn.never rfl (ZMY (pv 1)) (Vo 2 nd)
  (ZL (Zj 3 nd (Z0 (E:=E0) (pv 0) L.cS DT hr Z3 (ZT (pv 2))))
  (ZR (Uz (pv 3) (HJ hu (pv 1) (pv 2)) rfl))))),?_⟩
 let⟨⟨dS,hS⟩,hd,u⟩:=R;let T:∀ i∈rd,∃ g W,H (x i)=some (.ins jO g W):=λi a=>by
  let⟨g,e⟩:=hl i a;exact⟨g,_,e⟩
 let nD:∀ i∈rd,x i≠D:=λi a=>by
  let⟨g,W,e⟩:=T i a;exact ZW e I
 exists D,m,I,_,Z,D,m,Z,I;intro o;refine ZLK (EM jO S D o m rd x ab th tg vl ho H) (.mk (λc Y _ n e=>by rw[ZS n];exact e) ZZ (λi a=>by simp at a) (λi a=>?_)) (λi σ H2 _ hP=>by let⟨_,h2,_,_⟩:=hP;exact h2) ?_ ?_
 ·let⟨g,e⟩:=hl i a;exact⟨g,by rw[ZS (nD i a)];exact e⟩
 ·rintro i p σ H2 hp ⟨G,r,t,B⟩;let a:i<rd.length:=by rw[<-ll];exact(zB.mp hp).1
  let ep:p.1=kI rd[i]:=by
   have:=congrArg (λl=>l[i]?) hk;simp only[zG,hp,zQ a] at this;exact yZ.inj this
  let er:rd[i]? = some rd[i]:=zQ a;let X:rd.drop i=rd[i]::rd.drop (i+1):=wZ a;let et:rd.take (i+1)=rd.take i++[rd[i]]:=by rw[yR,er];rfl
  let V:rd=rd.take i++rd[i]::rd.drop (i+1):=by rw[<-X,xA]
  let J:rd[i]∈rd:=xI _;let v:=a7;rw[V,xR,yW] at v;rw[ep];generalize rd[i]=b at X et V J v⊢;let nS:∀ j∈rd,S≠x j:=λj q=>(hv j q).2.symm;let U:∀(c:ai)(o:HO),H c=some o->(∀ C g W,o≠.ins C g W)->∀ j∈rd,c≠x j:=λc o e n j q=>by
   let⟨g,W,e2⟩:=T j q;exact ZW e e2 (n _ _ _)
  let M:=G _ _ nS (ZW hS I) hS;let a0:=G _ _ (U _ _ hd (by intro _ _ _ z;cases z)) a6.symm hd
  let a2:=G _ _ (U _ _ u (by intro _ _ _ z;cases z)) (ZW u I) u
  let⟨g,a4⟩:=B b (by rw[X];exact zS)
  let a1:WE H2 D (.int (b:Nat)) (some (vl b)):=.inl ⟨m,kI b,.inr ⟨o,r⟩,Z,(a3 b J).symm⟩;exists _,Z,S,dS,_,Z,M,Z,_,Z,S,d,lk,N,a5,ls,(b:Int),.ref (x b),Z,⟨⟨dS,M⟩,a0,a2⟩,(hv b J).1;exists _,Z,_,Z,D,vl b,Z,a1,_,Z,x b,jO,g,_,Z,a4,L.cT,L.ntg,yX Z;let ne:∀ j∈rd,j≠b->x j≠x b:=λj q n=>hx j q b J n;refine .mk (λc Y n1 n2 e=>by rw[ZS (n1 b J)];exact G c Y n1 n2 e) (by rw[ZS (nD b J).symm];exact r) (λj q=>?_) (λj q=>?_)
  ·rw[et] at q;by_cases z:j=b
   ·subst z;exact⟨g,ZZ⟩
   ·let O:j∈rd.take i:=(zD.mp q).elim id λy=>absurd (zK.mp y) z;let⟨dj,ej⟩:=t j O;exact⟨dj,by rw[ZS (ne j (List.mem_of_mem_take O) z)];exact ej⟩
  ·let z:j≠b:=λz=>v.2.1.1 (z ▸ q);let⟨dj,ej⟩:=B j (by rw[X];exact zO _ q)
   exact⟨dj,by rw[ZS (ne j (uC q) z)];exact ej⟩
 ·rintro σ H2 ⟨G,r,t,B⟩;rw[ll,yV (zY _)] at t;refine⟨o,m,r,k _ (λc Y n e=>?_) λi a=>?_⟩
  ·by_cases z:c=D
   ·subst z;rw[ZZ,<-e,I]
   ·rw[ZS z];exact G c Y n z e
  ·let⟨g,e⟩:=t i a;exact⟨g,by rw[ZS (nD i a)];exact e⟩
def OM(a:jr)(rd:jj)(n b:Nat)(c:Nat->ai):jr:=(yJ a.length).map λi=>if i∈rd then ⟨(a.getD i .d).x,if i=n then b else (a.getD i .d).th,c i,(a.getD i .d).ab⟩ else a.getD i .d
theorem MS{a:jr}{rd:jj}{n own:Nat}{tg:Nat->ai}{i:Nat}(h:i<a.length):(OM a rd n own tg).getD i .d=if i∈rd then ⟨(a.getD i .d).x,if i=n then own else (a.getD i .d).th,tg i,(a.getD i .d).ab⟩ else a.getD i .d:=by
 unfold OM;rw[zV,zG,List.getElem?_range h];rfl
structure MJ(H:Hp)(lv:jj)(as as':jr):Prop where
 x:∀ i∈lv,(as'.getD i .d).x=(as.getD i .d).x
 ab:∀ i∈lv,(as'.getD i .d).ab=(as.getD i .d).ab
 th:∀ i∈lv,(as'.getD i .d).th=(as.getD i .d).th\/H (as'.getD i .d).th=none
section
variable{jN jO:ai}{H H':Hp}{S d lk:ai}{lv:jj}{ts cur:jk}{rd:jj}{av:Nat->jj}{ho:Nat->Nat}{as:jr}{kvs:List (Za×V)}{ls us:je}{n own:ai}{tg:Nat->ai}
theorem ZNf(R:Zl jN jO H S d lk lv ts av ho as kvs ls)(t:cur.length=ts.length)(hn:n∈rd)(s:∀ i∈rd,i∈lv)(J:H own=none)(L:∀ c o,(∀ i∈rd,c≠(as.getD i .d).x)->H c=some o->H' c=some o)(sh:∀ i,i≠n->(gd cur i).bs=(gd ts i).bs)(hh:∀ i,(gd cur i).h=(gd ts i).h)(E:∀ i,i∉rd->gd cur i=gd ts i)(D:∀ i∈rd,i≠n->(gd ts i).h≠0)(A:∀ i∈rd,MZ jO H' (λi=>(as.getD i .d).x) (λi=>.ref (if i=n then own else (as.getD i .d).th)) (λi=>.ref (tg i)) (λi=>(as.getD i .d).ab) ho i)(N:∀ i∈rd,YJ H' (Zr (gd cur i)) (.ref (tg i)))(B:H' own=some (.lst us))(h0:(gd cur n).h=0->jI H' (YI (gd cur n).rows) us)(h1:(gd cur n).h≠0->us=iN (gd cur n).bs):
  Zl jN jO H' S d lk lv cur av ho (OM as rd n own tg) kvs ls/\MJ H lv as (OM as rd n own tg):=by
 let⟨⟨dS,hS⟩,hd,X⟩:=R.sh;let O:∀ i:Nat,i∈lv->∃ g us,H (as.getD i .d).x=some (.ins jO g us):=λi a=>by
  let⟨g,e⟩:=(R.tw i a).tw.self;exact⟨g,_,e⟩
 let k:∀ c o,(∀ C g fs,o≠.ins C g fs)->H c=some o->H' c=some o:=λc o n e=>L c o (λi a=>by
  let⟨g,us,I⟩:=O i (s i a);exact ZW e I (n _ _ _)) e
 let m:Z6 H H':=λc xs e=>k c _ (by intro _ _ _ z;cases z) e
 let u:∀ i:Nat,i∈lv->i<as.length:=λi a=>by rw[R.len];exact R.lt i a
 let F:∀ i:Nat,i∈lv->∃ us,H (as.getD i .d).th=some (.lst us):=λi a=>by
  let⟨us,e,_⟩:=(R.tw i a).things;exact⟨us,e⟩
 let r:∀ i:Nat,i∈lv->H (as.getD i .d).ab=some (.lst (iN (av i))):=λi a=>(R.tw i a).tw.above;let v:∀ i:Nat,i∈lv->((OM as rd n own tg).getD i .d).x=(as.getD i .d).x:=λi a=>by rw[MS (u i a)];split <;> rfl
 let b:∀ i:Nat,i∈lv->((OM as rd n own tg).getD i .d).ab=(as.getD i .d).ab:=λi a=>by rw[MS (u i a)];split <;> rfl
 let f:∀ i:Nat,i∈lv->((OM as rd n own tg).getD i .d).th=if i=n then own else (as.getD i .d).th:=λi a=>by
  rw[MS (u i a)];by_cases z:i∈rd
  ·rw[aK z]
  ·rw[aJ z,aJ (λy=>z (by rw[y];exact hn))]
 let l:∀ i:Nat,i∈lv->own≠(as.getD i .d).th/\own≠(as.getD i .d).ab:=λi a=>by
  let⟨us,e⟩:=F i a;exact⟨(Zg e J).symm,(Zg (r i a) J).symm⟩
 let P:own≠lk:=(Zg X J).symm;refine⟨⟨⟨⟨dS,by rw[t];exact L _ _ (λi a=>(R.own i (s i a)).1.symm) hS⟩,k _ _ (by intro _ _ _ z;cases z) hd,k _ _ (by intro _ _ _ z;cases z) X⟩,by rw[t];exact R.lt,R.keys,λi a=>by rw[v i a];exact R.val i a,by unfold OM;simp[R.len,t],λi a=>?_,λi a=>?_,λi j a p w=>?_⟩,v,b,λi a=>?_⟩
 ·let W:=R.tw i a;by_cases z:i∈rd
  ·let e:=MS (rd:=rd) (n:=n) (own:=own) (tg:=tg) (u i a);rw[aK z] at e;let⟨g,V⟩:=A i z;exists ?_,?_
   ·rw[e];exact⟨⟨g,V⟩,k _ _ (by intro _ _ _ z;cases z) (r i a)⟩
   ·rw[e];by_cases y:i=n
    ·subst y;rw[aK rfl];exact⟨us,B,h0,h1⟩
    ·rw[aJ y];let⟨U,e1,I,e3⟩:=W.things;let M:=D i z y;rw[hh i,sh i y];exact⟨U,k _ _ (by intro _ _ _ z;cases z) e1,λq=>absurd q M,e3⟩
   ·rw[e];exact N i z
  ·let e:=MS (rd:=rd) (n:=n) (own:=own) (tg:=tg) (u i a);rw[aJ z] at e;rw[e];let⟨g,V⟩:=W.tw.self;let G:=W.frame m (λo e=>L _ _ (λj p=>(R.two i j a (s j p) λy=>z (by rw[y];exact p)).1) e) (λo e=>k _ _ (by let⟨us,I⟩:=F i a;have:=e.symm.trans I;cases this;intro _ _ _ z;cases z) e) (λo e=>k _ _ (by have:=e.symm.trans (r i a);cases this;intro _ _ _ z;cases z) e)
   exists G.tw,?_
   ·rw[E i z];exact G.things
   ·rw[E i z];exact G.tag
 ·rw[v i a,b i a,f i a];let⟨Y,o2,o3,o4⟩:=R.own i a;by_cases y:i=n
  ·rw[aK y];exact⟨Y,o2,P,(l i a).2.symm⟩
  ·rw[aJ y];exact⟨Y,o2,o3,o4⟩
 ·rw[v i a,b i a,f i a,v j p,b j p,f j p];let⟨Q,T,t3,t4⟩:=R.two i j a p w;by_cases y:i=n
  ·let K:j≠n:=λz=>w (y.trans z.symm);rw[aK y,aJ K];exact⟨Q,T,t3,(l j p).1⟩
  ·rw[aJ y];by_cases K:j=n
   ·rw[aK K];exact⟨Q,T,(l i a).2.symm,(l i a).1.symm⟩
   ·rw[aJ K];exact⟨Q,T,t3,t4⟩
 ·rw[f i a];by_cases y:i=n
  ·rw[aK y];exact .inr J
  ·rw[aJ y];exact .inl Z
end
end Tw
namespace L2
open PySem PySem.Spec PyProof.Rows
theorem ZNJ{a:jA}{b:jd}(h:ZQ (a.map V.int) b):PySem.W.kf_ints b=true/\∀(i:Nat)(n:Int),a[i]? = some n->∃ t,b[i]? = some (.int n t):=by
 refine⟨?_,λi n e=>?_⟩
 ·induction a generalizing b with
  | nil=>cases h;rfl
  | cons n a d=>
   cases h with
   | cons r t=>
    let⟨f,rfl⟩:=r;rw[PySem.W.kf_ints];exact d t
 ·let⟨u,c,t,rfl⟩:=h.get (x:=.int n) (i:=i) (by rw[zG,e];rfl)
  exact⟨t,c⟩
inductive P2(x:V)(c:je)(H:Hp)(Q:VK):Prop
 |mk(l:ai)(a:jA)(b:Int)(_:x=.ref l)(_:c=[.int b])(_:H l=some (.lst (a.map V.int)))(_:b∈a)(_:Q .non (upd H l (.lst ((a.erase b).map V.int))))
theorem HQ:La X "list.remove" P2:=by
 intro D s Y H x V v U Q I R P h;let⟨l,d,b,rfl,rfl,C,J,q⟩:=h;cases R;let⟨u,rfl,O⟩:=P.one;let⟨S,rfl⟩:=O;let⟨z,c,n,r,T,e⟩:=I.lstM C;let⟨N,o⟩:=ZNJ r;let B:=List.idxOf_lt_length_of_mem J;let g:c.length=d.length:=by have:=r.length;rw[zX] at this;exact this.symm
 let MW:∀(m:Nat)(j:m<c.toArray.size)(k:Int),d[m]? = some k->isInt b c.toArray[m]=decide (k=b):=λm j k K=>by
  let⟨t,G⟩:=o m k K;have:c.toArray[m]? = some (Value.int k t):=by simpa using G
  rw[xF j] at this;rw[yZ.inj this];show (k==b)=_;rw[wU];simp
 let f:d.idxOf b<c.toArray.size:=by rw[zJ,g];exact B
 let M:c.toArray.size<=sizeLine:=by
  rw[zJ,g];have:=z;rw[zX] at this;exact this
 refine call_meets F.slot_list_remove ⟨_,e,Z⟩ F.entry_list_remove (F.args_list_remove_2 _ _) (MeetsSeq.list_remove l c.toArray n (.int b S) (isInt b) (λy L=>PySem.W.kf_eq N y (by simpa using L)) (d.idxOf b) f ?_ (λm j w=>?_) M) ⟨e,?_⟩
 ·rw[MW _ f b (by rw[zQ B,List.getElem_idxOf B])]
  exact aI Z
 ·let A:m<d.length:=∅
  rw[MW m j d[m] (zQ A)];have:=List.not_of_lt_findIdx (p:=(· == b)) (xs:=d) (i:=m) w;exact aH λz=>by rw[z] at this;simp at this
 ·let E:d.erase b=d.take (d.idxOf b)++d.drop (d.idxOf b+1):=by rw[List.erase_eq_eraseIdx_of_idxOf rfl,qS]
  refine⟨.non,_,I.lset (its':=c.take (d.idxOf b)++c.drop (d.idxOf b+1)) C e ?_ ?_ ?_,Z,q⟩
  ·apply sE.mp;rw[Array.toList_eraseIdxIfInBounds,qS]
  ·rw[E,zF,uP,uQ];exact(r.take _).append (r.drop _)
  ·rw[zX];have:=sU (l:=d) (a:=b);rw[zX] at z
   lia
end L2
namespace Tw
open PySem PySem.Spec L2 PyProof.Rows
variable{jN jO CS CT CH CK CP CB:ai}
section
variable{jN jO:ai}{H H':Hp}{S d lk:ai}{lv:jj}{ts:jk}{av:Nat->jj}{ho:Nat->Nat}{as:jr}{kvs:List (Za×V)}{ls:je}{b:Nat}
theorem Zl.set1(R:Zl jN jO H S d lk lv ts av ho as kvs ls)(g:b∈lv){av':Nat->jj}{ho':Nat->Nat}(B:∀ c,c≠b->av' c=av c)(C:∀ c,c≠b->ho' c=ho c)(F:∃ u,H' (as.getD b .d).x=some (.ins jO u (WQ (.ref (as.getD b .d).th) (.ref (as.getD b .d).tg) (as.getD b .d).ab (ho' b))))(E:H' (as.getD b .d).ab=some (.lst (iN (av' b))))(k:∀ c o,c≠(as.getD b .d).x->c≠(as.getD b .d).ab->H c=some o->H' c=some o):Zl jN jO H' S d lk lv ts av' ho' as kvs ls:=by
 let⟨⟨t,r⟩,n,s⟩:=R.sh;let h:=R.tw b g;let⟨v,a⟩:=h.tw.self;let f:=h.tw.above;let⟨L,q,y,A⟩:=h.things;let m:Z6 H H':=λc U e=>k c _ (ZW e a) (ZW e f) e;refine⟨⟨⟨t,k _ _ (R.own b g).1.symm (ZW r f) r⟩,k _ _ (ZW n a) (ZW n f) n,k _ _ (ZW s a) (R.own b g).2.1.symm s⟩,R.lt,R.keys,R.val,R.len,λi l=>?_,R.own,R.two⟩;by_cases z:i=b
 ·subst z;exact⟨⟨F,E⟩,⟨L,k _ _ (ZW q a) (R.own i l).2.2.2.symm q,λz=>(y z).mono m _ _,A⟩,h.tag.mono m⟩
 ·let j:=R.tw i l;let⟨J,K,P,Q⟩:=R.two i b l g z;let⟨M,N,I,O⟩:=R.two b i g l (Ne.symm z);let⟨w,p⟩:=j.tw.self;let⟨T,D,_⟩:=j.things;let G:=j.frame m (λo e=>k _ _ J (ZW p f) e) (λo e=>k _ _ (ZW D a) I.symm e) (λo e=>k _ _ (ZW j.tw.above a) K e);refine⟨?_,G.things,G.tag⟩;rw[B i z,C i z];exact G.tw
end
abbrev HD:Stmt:=Xv (top 76) 22
theorem Gj(l:jj)(b:Nat):(l.map λb:Nat=>(b:Int)).erase (b:Int)=(l.erase b).map λb:Nat=>(b:Int):=by
 induction l with
 | nil=>rfl
 | cons a l c=>
  by_cases z:a=b
  ·subst z;simp
  ·let d:¬ ((a:Int)=(b:Int)):=∅
   rw[yT,List.erase_cons_tail (by simpa using d),List.erase_cons_tail (by simpa using z),c]
   rfl
def Xl(b:jj)(c:Nat)(a:Nat->jj):Nat->jj:=λi=>if i∈b then (a i).erase c else a i
def Xz(b:jj)(a:Nat->Nat):Nat->Nat:=λi=>if i∈b then a i+1 else a i
inductive Y0(jN jO:ai):Sp
 |mk{S d n l:ai}{h:jj}{q:jk}{j:Nat->jj}{m:Nat->Nat}{a:jr}{g:List (Za×V)}{p:je}{e:jj}{k:Nat}{H:Hp}{Q:VK}{E:XK}:
  Zl jN jO H S d n h q j m a g p->H l=some (.lst (iN e))->e.Nodup->(∀ b∈e,b∈h/\k∈j b)->(∀ b:Nat,b∈h->l≠(a.getD b .d).ab) ->
  (∀ i:Hp,(∀ c o,(∀ b:Nat,b∈h->c≠(a.getD b .d).x/\c≠(a.getD b .d).ab)->H c=some o->i c=some o)->Zl jN jO i S d n h q (Xl e k j) (Xz e m) a g p->Q .non i)->Y0 jN jO [.ref S,.int (k:Nat),.ref l] H Q E
theorem Wk:ZC Gn zEm (ZY HD):=Zp
inductive HU(jN jO S d lk l:ai)(lv:jj)(ts:jk)(av:Nat->jj)(ho:Nat->Nat)(as:jr)(kvs:List (Za×V))(ls:je)(bs:jj)(st:Nat)(H:Hp):Nat->L2.St->Hp->Prop
 |mk{i:Nat}{x y:jf}{H2:Hp}:(∀ c o,(∀ b:Nat,b∈lv->c≠(as.getD b .d).x/\c≠(as.getD b .d).ab)->H c=some o->H2 c=some o)->Zl jN jO H2 S d lk lv ts (Xl (bs.take i) st av) (Xz (bs.take i) ho) as kvs ls ->
  HU jN jO S d lk l lv ts av ho as kvs ls bs st H i [some (.ref S),some (.int (st:Nat)),some (.ref l),x,y] H2
theorem ZFt(F:Zi K "give_back" "Shelf.give_back" HD f fd)(L:YT K mg jN jO)(DT:ZB P w K mg jQ ZM 1 jN "twig_of" zEa (Zk jN)):ZI P w K mg jQ ZM 2 f fd zEm (Y0 jN jO):=by
 refine F.ko Wk λa4 A a3 s H vs Q E hr h=>?_;let⟨R,hl,N,W,a1,k⟩:=h;rename_i S d lk l lv ts q m g T ls j I
 let nd:=Wk.nd;intro Xc;refine⟨_,ZR (Vk PassesOwn.never rfl (WD (pv 2)) (Vo 3 nd)
  (ZL (Zj 4 nd (Z0 (E:=E0) (pv 0) L.cS DT hr Z3 (ZT (pv 3))))
  (ZL (Lh (pv 4) ZK CI)
  (ZR (Ye (QS xW qX qV HQ (XT (pv 4) rfl) (ZT (pv 1)))))))),?_⟩
 refine⟨_,Z,l,Z,⟨_,ZG.of hl⟩,Qm (K:=K) (a:=l) (xs:=iN j) (HU jN jO S d lk l lv ts q m g T ls j I H)
  (.mk (λc o _ e=>e) (by
   let e1:Xl [] I q=q:=funext λi=>aJ (by simp)
   let e2:Xz [] m=m:=funext λi=>aJ (by simp)
   rw[show j.take 0=[] from rfl,e1,e2];exact R)) ?_ ?_ ?_⟩
 ·rintro i σ v _ ⟨O,R2⟩;refine ZG.of (O _ _ (λb W=>⟨?_,a1 b W⟩) hl);let⟨dx,J⟩:=(R.tw b W).tw.self;exact ZW hl J
 ·rintro i u σ v C ⟨O,R2⟩;unfold iN at C;rw[zG] at C;let⟨b,Y,rfl⟩:=yC.mp C;let⟨t,a2⟩:=W b (zL Y);let M:b∉j.take i:=λz=>by
   let hs:j=j.take i++b::j.drop (i+1):=by
    let⟨hi,e⟩:=zB.mp Y;rw[<-e,<-wZ hi,xA]
   rw[hs,xR] at N;exact N.2.2 b z b (by simp) Z
  let a0:Xz (j.take i) m b=m b:=aJ M;let X:Xl (j.take i) I q b=q b:=aJ M;let⟨dS,hS⟩:=R2.sh.self;let Wb:=R2.tw b t;let⟨r,J⟩:=Wb.tw.self;let B:=Wb.tw.above;rw[a0] at J;rw[X] at B;exists _,Z,S,dS,_,Z,hS,Z,_,Z,S,d,lk,ts.length,T,ls,(b:Int),.ref (g.getD b .d).x,Z,R2.sh,R2.val b t;exists _,Z,(g.getD b .d).x,jO,r,_,.int (m b:Nat),Z,J,L.cT,L.nho,Z,_,_,Z,Z,r,_,J,yX Z;let D:upd v (g.getD b .d).x (.ins jO r (Yn "holds" (.int (((m b:Nat):Int)+1)) (WQ (.ref (g.getD b .d).th) (.ref (g.getD b .d).tg) (g.getD b .d).ab (m b)))) (g.getD b .d).x=some (.ins jO r (WQ (.ref (g.getD b .d).th) (.ref (g.getD b .d).tg) (g.getD b .d).ab (m b+1))):=by rw[ZZ];rfl
  let U:(g.getD b .d).ab≠(g.getD b .d).x:=ZW B J;let p:upd v (g.getD b .d).x (.ins jO r (Yn "holds" (.int (((m b:Nat):Int)+1)) (WQ (.ref (g.getD b .d).th) (.ref (g.getD b .d).tg) (g.getD b .d).ab (m b)))) (g.getD b .d).ab=some (.lst (iN (q b))):=by rw[ZS U];exact B
  let G:∀ c o,c≠(g.getD b .d).x->v c=some o->upd v (g.getD b .d).x (.ins jO r (Yn "holds" (.int (((m b:Nat):Int)+1)) (WQ (.ref (g.getD b .d).th) (.ref (g.getD b .d).tg) (g.getD b .d).ab (m b)))) c=some o:=λc o n e=>by rw[ZS n];exact e
  generalize upd v (g.getD b .d).x (.ins jO r (Yn "holds" (.int (((m b:Nat):Int)+1)) (WQ (.ref (g.getD b .d).th) (.ref (g.getD b .d).tg) (g.getD b .d).ab (m b))))=H3 at D p G⊢;exists _,Z,(g.getD b .d).x,jO,r,_,.ref (g.getD b .d).ab,Z,D,L.cT,L.nab,Z,.inl ⟨Z,_,ZG.of p⟩,_,Z,(g.getD b .d).ab,(q b).map λb:Nat=>(b:Int),(I:Nat),Z,Z,by rw[<-LV];exact p,zP.mpr ⟨I,a2,Z⟩
  rw[Gj,<-LV];let V:j.take (i+1)=j.take i++[b]:=by rw[yR,Y];rfl
  refine .mk (λc o hc e=>?_) ?_
  ·let⟨n1,n2⟩:=hc b t;rw[ZS n2];exact G _ _ n1 (O c o hc e)
  ·refine R2.set1 t (λc n=>?_) (λc n=>?_) ⟨r,?_⟩ ?_ λc o n1 n2 e=>?_
   ·unfold Xl;rw[V];by_cases z:c∈j.take i
    ·rw[aK z,aK (yF _ z)]
    ·rw[aJ z,aJ (λy=>(zD.mp y).elim z λy=>n (zK.mp y))]
   ·unfold Xz;rw[V];by_cases z:c∈j.take i
    ·rw[aK z,aK (yF _ z)]
    ·rw[aJ z,aJ (λy=>(zD.mp y).elim z λy=>n (zK.mp y))]
   ·rw[ZS (Ne.symm U),show Xz (j.take (i+1)) m b=m b+1 from aK (by rw[V];simp)];exact D
   ·rw[ZZ,show Xl (j.take (i+1)) I q b=(q b).erase I from aK (by rw[V];simp)]
   ·rw[ZS n2];exact G _ _ n1 e
 ·rintro σ v ⟨O,R2⟩;rw[show (iN j).length=j.length from zX _,yV (zY _)] at R2;exact k v O R2
theorem Yq.nodup{gt:jj}{b:jk}{r:Nat}(f:WF gt b)(e:r∈gt){a j:jj}{A B:jm}(z:Yq b r a j A B):a.Nodup:=by
 induction z with
 | root=>simp
 | down k d c h i g=>
  refine yW.mpr ⟨λy=>?_,g⟩;have:=((k.down d c h i).facts f e rfl).2.1 _ y
  lia
structure On(jN jO:ai)(H:Hp)(S d lk:ai)(lv:jj)(ts:jk)(av:Nat->jj)(ho:Nat->Nat)(as:jr)(kvs:List (Za×V))(ls:je)(r:Nat):Prop where
 sh:Zl jN jO H S d lk lv ts av ho as kvs ls
 wf:WF lv ts
 hr:r∈lv
 avk:Ik lv ts av
section
variable{jN jO:ai}{lv:jj}{H H7:Hp}{S d lk:ai}{ts cur:jk}{av:Nat->jj}{ho:Nat->Nat}{as:jr}{kvs lkv:List (Za×V)}{ls us:je}{r n:Nat}{up ps:jj}{A B T:jm}{t:ZP}{own D dt:ai}
theorem GT(O:On jN jO H S d lk lv ts av ho as kvs ls r)(z:Yq ts r (n::up) ps A B)(C:O1 lv ts cur r n up t T)(s7:ZE H H7)(hx7:H7 (as.getD n .d).x=some (.ins jO dt (WQ (.ref (as.getD n .d).th) (.ref (as.getD n .d).tg) (as.getD n .d).ab (ho n))))(hD7:H7 D=some (.dK lkv))(nD:H D=none)(hlb:Qx H7 cur (n::up) lkv)(no:H own=none)(hown:H7 own=some (.lst us))(h0:t.h=0->jI H7 (YI t.rows) us)(h1:t.h≠0->us=iN t.bs){Q:VK}{E:XK}(k:∀ (H9:Hp) (as':jr),(∀ c o,(∀ i:Nat,i∈lv->c≠(as.getD i .d).x)->H7 c=some o->H9 c=some o)->Zl jN jO H9 S d lk lv cur av ho as' kvs ls->MJ H lv as as'->Q .non H9):
  WB jN jO [.ref S,.ref D] (upd H7 (as.getD n .d).x (.ins jO dt (Yn "things" (.ref own) (WQ (.ref (as.getD n .d).th) (.ref (as.getD n .d).tg) (as.getD n .d).ab (ho n))))) Q E:=by
 let R:=O.sh;let R7:=R.same s7;let⟨dS7,hS7⟩:=R7.sh.self;let⟨hn,fu,_,_⟩:=z.facts O.wf O.hr Z;let f3:=z.nodup O.wf O.hr;let nl:∀ i∈n::up,i∈lv:=λi hi=>(zU.mp hi).elim (λy=>y ▸ hn) λy=>(fu i y).1;let fr8:∀ c o,c≠(as.getD n .d).x->H7 c=some o->upd H7 (as.getD n .d).x (.ins jO dt (Yn "things" (.ref own) (WQ (.ref (as.getD n .d).th) (.ref (as.getD n .d).tg) (as.getD n .d).ab (ho n)))) c=some o:=λc o n e=>by rw[ZS n];exact e
 let hx8:upd H7 (as.getD n .d).x (.ins jO dt (Yn "things" (.ref own) (WQ (.ref (as.getD n .d).th) (.ref (as.getD n .d).tg) (as.getD n .d).ab (ho n)))) (as.getD n .d).x=some (.ins jO dt (WQ (.ref own) (.ref (as.getD n .d).tg) (as.getD n .d).ab (ho n))):=ZZ;generalize upd H7 (as.getD n .d).x (.ins jO dt (Yn "things" (.ref own) (WQ (.ref (as.getD n .d).th) (.ref (as.getD n .d).tg) (as.getD n .d).ab (ho n))))=H8 at fr8 hx8⊢
 let' tgv:Nat->Addr:=λi=>match Ym lkv (kI i) with | some (.ref a)=>a | _=>0
 let htv:∀ i∈n::up,Ym lkv (kI i)=some (.ref (tgv i))/\YJ H7 (Zr (gd cur i)) (.ref (tgv i)):=λi hi=>by
  let⟨v',e',k'⟩:=hlb.at_ i hi;let⟨a,b1,b2,rfl,b3⟩:=id k';have:tgv i=a:=by show (match Ym lkv (kI i) with | some (.ref a)=>a | _=>0)=a;rw[e']
  rw[this];exact⟨e',k'⟩
 let nS:∀ i∈n::up,(as.getD i .d).x≠S:=λi hi=>(R.own i (nl i hi)).1;let hS8:=fr8 _ _ (nS n zS).symm hS7;let hd8:=fr8 _ _ (ZW R7.sh.kept hx7) R7.sh.kept;let hl8:=fr8 _ _ (ZW R7.sh.looks hx7) R7.sh.looks;let hD8:=fr8 _ _ (ZW hD7 hx7) hD7;refine .mk (rd:=n::up) (x:=λi=>(as.getD i .d).x) (ab:=λi=>(as.getD i .d).ab) (th:=λi=>.ref (if i=n then own else (as.getD i .d).th)) (tg:=λi=>.ref (as.getD i .d).tg) (vl:=λi=>.ref (tgv i)) (ho:=ho) ⟨⟨dS7,hS8⟩,hd8,hl8⟩ (λi hi=>⟨R.val i (nl i hi),nS i hi⟩) (λi hi=>?_) hD8 (Zg R.sh.kept nD).symm hlb.keys f3 (λi hi=>(htv i hi).1) (λi hi j hj n'=>(R.two i j (nl i hi) (nl j hj) n').1) λH9 fr9 hl9=>?_
 ·by_cases z:i=n
  ·subst z;exact⟨dt,by(try dsimp only);rw[aK rfl];exact hx8⟩
  ·let⟨dx,e⟩:=(R7.tw i (nl i hi)).tw.self;exact⟨dx,by(try dsimp only);rw[aJ z];exact fr8 _ _ (R.two i n (nl i hi) hn z).1 e⟩
 let fr79:∀ c o,(∀ i∈n::up,c≠(as.getD i .d).x)->H7 c=some o->H9 c=some o:=λc o n1 e=>fr9 c o n1 (fr8 c o (n1 n zS) e);let k79:∀ c o,(∀ C dx fs,o≠.ins C dx fs)->H7 c=some o->H9 c=some o:=λc o n1 e=>fr79 c o (λi hi=>by
  let⟨dx,e2⟩:=(R7.tw i (nl i hi)).tw.self;exact ZW e e2 (n1 _ _ _)) e
 let m79:Z6 H7 H9:=λc xs e=>k79 c _ (by intro _ _ _ z;cases z) e
 let⟨R9,A9⟩:=ZNf (cur:=cur) (rd:=n::up) (n:=n) (own:=own) (tg:=tgv) (us:=us) (H':=H9) R C.len zS nl no (λc o n1 e=>fr79 c o n1 (s7 _ _ e)) C.sh C.hh C.old (λi hi z=>by have:=(fu i ((zU.mp hi).resolve_left z)).2;lia (splits:=8)) hl9 (λi hi=>(htv i hi).2.mono m79) (k79 _ _ (by intro _ _ _ z;cases z) hown) (λy=>by rw[C.at_] at y⊢;exact(h0 y).mono m79 _ _) (λy=>by rw[C.at_] at y⊢;exact h1 y)
 exact k H9 _ (λc o n1 e=>fr79 c o (λi hi=>n1 i (nl i hi)) e) R9 A9
end
abbrev KA:Stmt:=Xv (top 76) 10
inductive XG(jN jO:ai):Sp
 |mk{S d u l:ai}{b:jj}{j:jk}{s:Nat->jj}{t:Nat->Nat}{q:jr}{g:List (Za×V)}{v y:je}{r n:Nat}{m:jm}{k z:jj}{A B T:jm}{a:jk}{H:Hp}{Q:VK}{E:XK}:
  On jN jO H S d u b j s t q g v r->Yq j r (n::k) z A B->Rd b s t n (n::k)->k.length<=800->H l=some (.lst y)->jI H (YI m) y->P9 m->(gd j n).h=0->QX b (j.set n (Vt m)) k a->O1 b j a r n k (Vt m) T ->
  (∀(p:Hp)(e:jr),(∀ c o,(∀ i:Nat,i∈b->c≠(q.getD i .d).x)->H c=some o->p c=some o)->Zl jN jO p S d u b a s t e g v->MJ H b q e->Q .non p) ->
  XG jN jO [.ref S,.int (n:Nat),.ref l] H Q E
abbrev BB:jn:=["self","number","rows","twig","road","own","labels"]
theorem UJ:ZC BB zE8 (ZY KA):=Zp
theorem Bv(F:Zi K "change_leaf" "Shelf.change_leaf" KA f fd)(L:YT K mg jN jO)(DT:ZB P w K mg jQ ZM 1 jN "twig_of" zEa (Zk jN))(DI:ZA P w K mg jQ 1 "is_stem" zFn (WC jO))(DR:ZB P w K mg jQ (Yd P w) 3 jN "road_up" zEa (Yt jN jO))(DC:ZA P w K mg jQ 9 "checked_rows" zE3 Xp)(DU:ZB P w K mg jQ ZM 10 jN "labels_up" zFb (Xw jN jO))(DL:ZA P w K mg jQ 1 "label_of_rows" zE3 XN)(DG:ZB P w K mg jQ ZM 2 jN "give_labels" zFh (WB jN jO)):
  ZI P w K mg jQ ZM 11 f fd zE8 (XG jN jO):=by
 refine F.ok UJ (λvs H Q E h=>(by cases h;rfl)) (λc6 A c2 s H vs Q E u h=>?_)
 let⟨O,z,c4,u8,hl,a6,G,h0,ch,C,J⟩:=h;rename_i S d lk l lv ts av ho p c1 ls us r n rr up ps A B T c7
 let X:=UJ.nd;let j:=u.mono (show 1<=10 by lia)
 let a7:=u.mono (show 2<=10 by lia)
 let a8:=u.mono (show 3<=10 by lia)
 let a9:=u.mono (show 9<=10 by lia)
 intro Xc;refine⟨_,ZL (Zj 3 X (Z0 (E:=E0) (pv 0) L.cS DT j Z3 (ZT (pv 1))))
  (ZL (Z1 (Y5 (Zc DI j (ZT (pv 3)))) Wq Z5)
  (ZL (Zj 4 X (Z0 (E:=E0) (pv 0) L.cS DR a8 Oa (ZT (pv 1))))
  (ZL (Zj 5 X (Zc DC a9 (ZT (pv 2))))
  (ZL (Dx (ZR (Zj 6 X (Z0 (E:=E0) (pv 0) L.cS DU u Z3 (Zq (pv 4) (Zc DL j (ZT (pv 5))))))))
  (ZL (Uz (pv 3) (pv 5) rfl)
  (ZR (Ye (Z0 (E:=E0) (pv 0) L.cS DG a7 Z3 (ZT (pv 6)))))))))),?_⟩
 let R:=O.sh;let⟨t,fu,_,_⟩:=z.facts O.wf O.hr Z;let⟨dS,hS⟩:=R.sh.self;let W:=R.tw n t;let⟨c5,e0,c9,b,c0,_,_⟩:=id W.tag;let b:(p.getD n .d).tg=c5:=V.ref.inj b;exists _,Z,S,dS,_,Z,hS,Z,_,Z,S,d,lk,ts.length,c1,ls,(n:Int),.ref (p.getD n .d).x,Z,R.sh,R.val n t;exists _,Z,(p.getD n .d).x,_,(p.getD n .d).tg,_,_,_,_,_,Z,W.tw,by rw[b];exact c0,_,Z
 rw[aH (show ¬ (Zr (gd ts n)).h > 0 by show ¬ ((gd ts n).h:Int) > 0;lia)]
 refine Zm ?_;refine⟨_,Z,S,dS,_,Z,hS,Z,_,Z,.mk R (c4) (by rw[zR];lia) λq H1 Y nq hq=>?_⟩
 exists _,Z,l,us,rr,Z,Y _ _ hl,a6.sm Y,G;intro H2 c3 U s2 M a hk;let N:=Y.trans s2;let R2:=R.same N;let⟨a1,a4⟩:=R2.sh.self;let lu:U.length=rr.length:=by have:=hk.length;rw[<-this];exact zX _
 exists _,Z,S,a1,_,Z,a4,Z,_,Z,_,Z,c3,U,rr.map (·.1),Z,a,Fu hk,by rw[lu];exact G.2.1
 intro H3 v s3 kv;rw[<-Et] at kv;let k:=N.trans s3;refine .mk (R.same k) t (z.nodup O.wf O.hr) (λi hi=>⟨(fu i hi).1,by have:=(fu i hi).2;lia⟩) u8 ((s2.trans s3) _ _ hq) ch (GZ kv) λH4 D c8 s4 nD hD hb=>?_
 let m:=k.trans s4;let R4:=R.same m;let⟨a2,a5⟩:=R4.sh.self;let⟨a3,I⟩:=(R4.tw n t).tw.self;let g:=(s3.trans s4) _ _ a;exists _,Z,_,Z,(p.getD n .d).x,jO,a3,_,Z,I,L.cT,L.nth,yX Z;refine⟨_,Z,S,a2,_,Z,(by rw[ZS (R.own n t).1.symm];exact a5),Z,_,Z,GT O z C m I hD (k.free nD) hb (Y.free M) g (λ_=>hk.sm (s3.trans s4)) (λy=>absurd Z y) λH9 a0 fr R9 A9=>?_⟩
 exact J H9 a0 (λc o n1 e=>fr c o n1 (m _ _ e)) R9 A9
theorem ZQL(x:Nat)(l:jj):NX (.int (x:Nat)) (iN l)=decide (x∈l):=by
 unfold NX iN;rw[List.any_map]
 induction l with
 | nil=>rfl
 | cons n l a=>
  rw[vQ,a];let e:((λy=>Q3 y (V.int (x:Nat))) ∘ λb:Nat=>V.int (b:Nat)) n=decide (n=x):=by
   show Q3 (.int (n:Nat)) (.int (x:Nat))=_;rw[wU];simp[Q3]
   lia
  rw[e];by_cases h:n=x
  ·subst h;simp
  ·have:¬ x=n:=λz=>h z.symm;simp[h,this]
theorem EN(l:jj):(iN l).all OG=true:=by
 unfold iN;rw[vR];exact yQ.mpr λ_ _=>rfl
theorem FU{J:It}{w:jj}{A:L2.St}{H:Hp}{y:TT}{Q:VK}(e:jj)(p:Nat->Bool)(F:e.length<=900)(s:∀ i a,ZE H a->i<e.length->J.go i a)(E:∀ i a x b,ZE H a->i<e.length->J.yld i a x b->b=a/\(iN e)[i]? = some x)(h:∀ a,ZE H a->J.stop e.length a)(o:∀ a n (R:Bool->Hp->Prop),n∈e->ZE H a->R (p n) a->y (Qw A w (.int (n:Nat))) a R)(r:∀ (D:ai) (a:Hp),ZE H a->H D=none->a D=some (.lst (iN (e.filter p)))->Q (.ref D) a):WH J A w y (Uk 0) H Q:=by
 refine Af (n:=e.length) (λi z=>(iN e)[i]? = some z) (λz=>match z with | .int n=>p n.toNat | _=>false) (λD i f b=>ZE H b/\H D=none/\f=iN ((e.take i).filter p)) (XX ∅)
  (λD i f b j c=>s i b c.1 j) (λD i f b z B j c u=>E i b z B c.1 j u) (λD f b c=>h b c.1)
  (λD v=>⟨Zv v _,v,Z⟩) (λD i f b z j d c R C=>?_) (λD i f b z q j d t c=>?_) (λD i f b z q j d t c=>?_) (λD f b q c=>?_)
 ·unfold iN at d;rw[zG] at d;let⟨n,l,rfl⟩:=yC.mp d;exact o b n R (zL l) c.1 C
 ·let⟨m,k,rfl⟩:=c;unfold iN at d;rw[zG] at d;let⟨n,l,rfl⟩:=yC.mp d;exists Uq m k,k;let g:p n=true:=t;rw[yR,l,xG];simp[g,iN]
 ·let⟨m,k,rfl⟩:=c;unfold iN at d;rw[zG] at d;let⟨n,l,rfl⟩:=yC.mp d;exists m,k;let g:p n=false:=t;rw[yR,l,xG];simp[g]
 ·let⟨m,k,rfl⟩:=c;rw[yV (zY _)] at q;exact r D b m k q
theorem DZ{K:zZ}{p:ai}{c cs:jj}{o:L2.St}{m:jj}{H:Hp}{n:TT}{Q:VK}(q:c.length<=900)(f:H p=some (.lst (iN c)))(e:∀ (a:Hp) (j:Nat) (R:Bool->Hp->Prop),j∈c->ZE H a->R (decide (j∉cs)) a->n (Qw o m (.int (j:Nat))) a R)(k:∀ (D:ai) (a:Hp),ZE H a->H D=none->a D=some (.lst (iN (c.filter λb=>decide (b∉cs))))->Q (.ref D) a):WH (Pj K p) o m n (Uk 0) H Q:=
 FU c (λj=>decide (j∉cs)) q (λi g d h=>⟨_,.int (c[i]:Nat),ZG.of (d _ _ f),by simp[iN,zQ h]⟩) (λi g x r d h l=>⟨l.1,l.2 _ (ZG.of (d _ _ f))⟩) (λg d=>⟨_,ZG.of (d _ _ f),by simp[iN]⟩) e k
theorem Fw(x:Nat)(l:jj):(if true=true then !NX (.int (x:Nat)) (iN l) else NX (.int (x:Nat)) (iN l))=decide (x∉l):=by
 rw[aK rfl,ZQL,decide_not]
def QP(c:jk)(n:Nat)(a:jj):jj:=a.filter λb=>decide (b∉(gd c n).bs)
def Nm(c:jk)(n:Nat)(a:jj):jj:=(gd c n).bs.filter λb=>decide (b∉a)
def Qo(b:jk)(n:Nat)(a:jj)(c:Nat->jj):Nat->jj:=Xl (Nm b n a) n (Wn (QP b n a) n c)
def Qi(b:jk)(n:Nat)(a:jj)(c:Nat->Nat):Nat->Nat:=Xz (Nm b n a) (Wr (QP b n a) c)
theorem Y8{H:Hp}{p:ai}(h:H p=none)(o:HO):∃ a,L2.upd H p o=a/\ZE H a/\a p=some o:=⟨_,Z,Zv h o,ZZ⟩
theorem OC{gt:jj}{c:jk}(g:WF gt c){j:Nat}(f:j∈gt)(d:(gd c j).h≠0):(gd c j).bs.Nodup:=(Ef g f d).imp fun{a b} h e=>by rw[e,V9] at h;cases h
abbrev HA:Stmt:=Xv (top 76) 11
inductive Xx(jN jO:ai):Sp
 |mk{S d v l:ai}{g:jj}{a:jk}{s:Nat->jj}{t:Nat->Nat}{q:jr}{m:List (Za×V)}{y:je}{r n:Nat}{e p z:jj}{A B T:jm}{j:jk}{H:Hp}{Q:VK}{E:XK}:
  On jN jO H S d v g a s t q m y r->Yq a r (n::p) z A B->Rd g s t n (n::p)->p.length<=800->H l=some (.lst (iN e))->(∀ b∈e,b∈g)->e.length<=4->over (YK a e)=some (Zr (YV a e))->(YV a e).h=(gd a n).h->e.Nodup->(∀ b∈QP a n e,1<=t b/\(s b).length<=800)->QX g (a.set n (YV a e)) p j->O1 g a j r n p (YV a e) T ->
  (∀(u:Hp)(k:jr),(∀ c o,(∀ i:Nat,i∈g->c≠(q.getD i .d).x/\c≠(q.getD i .d).ab)->H c=some o->u c=some o)->Zl jN jO u S d v g j (Qo a n e s) (Qi a n e t) k m y->MJ H g q k->Q .non u) ->
  Xx jN jO [.ref S,.int (n:Nat),.ref l] H Q E
abbrev ZMc:jn:=["self","number","numbers","twig","road","old","branches","label","labels","new"]
theorem UD:ZC ZMc zEn (ZY HA):=Zp
theorem C5(F:Zi K "change_stem" "Shelf.change_stem" HA f fd)(T:YL mg)(L:YT K mg jN jO)(DT:ZB P w K mg jQ ZM 1 jN "twig_of" zEa (Zk jN))(DI:ZA P w K mg jQ 1 "is_stem" zFn (WC jO))(DR:ZB P w K mg jQ (Yd P w) 3 jN "road_up" zEa (Yt jN jO))(DL:ZB P w K mg jQ ZM 3 jN "labels_of" zEg (Yj jN jO))(DO:ZA P w K mg jQ 9 "label_over" zFp Xk)(DU:ZB P w K mg jQ ZM 10 jN "labels_up" zFb (Xw jN jO))(DC:ZB P w K mg jQ ZM 3 jN "check_held" zEg (Z4 jN jO))(DG:ZB P w K mg jQ ZM 2 jN "give_labels" zFh (WB jN jO))(DK:ZB P w K mg jQ ZM 2 jN "take_over" zEm (Yz jN jO))(DB:ZB P w K mg jQ ZM 2 jN "give_back" zEm (Y0 jN jO)):
  ZI P w K mg jQ ZM 11 f fd zEn (Xx jN jO):=by
 refine F.ok UD (λvs H Q E h=>(by cases h;rfl)) (λo3 A n6 s H vs Q E hr h=>?_)
 let⟨O,z,n7,u8,hl,hb,b4,m5,c5,i8,tp,ch,C,kY⟩:=h;rename_i S d lk l lv g av ho k Y ls r n t up ps A B T0 i9
 let nd:=UD.nd;let⟨t0,m0⟩:=T.height;let e4:=hr.mono (show 1<=10 by lia)
 let c3:=hr.mono (show 2<=10 by lia)
 let c4:=hr.mono (show 3<=10 by lia)
 let m7:=hr.mono (show 9<=10 by lia)
 intro Xc;refine⟨_,ZL (Zj 3 nd (Z0 (E:=E0) (pv 0) L.cS DT e4 Z3 (ZT (pv 1))))
  (ZL (Z1 (Vl (Y5 (Zc DI e4 (ZT (pv 3))))) Wq Z5)
  (ZL (Zj 4 nd (Z0 (E:=E0) (pv 0) L.cS DR c4 Oa (ZT (pv 1))))
  (ZL (Nn (i:=5) nd rfl (Or.inr rfl) (XT (pv 3) rfl))
  (ZL (Nn (i:=6) nd rfl (Or.inr rfl) (Ug Ng rfl T.list OL (ZT (pv 2))))
  (ZL (Zj 7 nd (Zc DO m7 (ZT (Z0 (E:=E0) (pv 0) L.cS DL c4 Z3 (ZT (pv 6))))))
  (ZL (Z1 (YX Nd (Z8 K (pv 7) (WL (v:=.int 0) rfl m0 ⟨_,rfl⟩)) (Z8 K (XT (pv 3) rfl) (WL (v:=.int 0) rfl m0 ⟨_,rfl⟩)) (YG _)) Wq Z5)
  (ZL (Zj 8 nd (Z0 (E:=E0) (pv 0) L.cS DU hr Z3 (Zq (pv 4) (pv 7))))
  (ZL (LF (i:=9) [5] ["old"] nd rfl rfl rfl (WD (pv 6)) (λ_ _ _ _ _=>Od (YX (r:=K5 K true) CA (pv 0) (pv 1) Z)) (λ_ _ _ _ _=>pv 0) ⟨rfl,.inl rfl,rfl,trivial⟩)
  (ZL (Ye (Z0 (E:=E0) (pv 0) L.cS DC c4 Z3 (ZT (pv 9))))
  (ZL (Uz (pv 3) (pv 6) rfl)
  (ZL (Ye (Z0 (E:=E0) (pv 0) L.cS DG c3 Z3 (ZT (pv 8))))
  (ZL (Ye (Z0 (E:=E0) (pv 0) L.cS DK c3 Z3 (Zq (pv 1) (pv 9))))
  (ZR (Ye (Z0 (E:=E0) (pv 0) L.cS DB c3 Z3 (Zq (pv 1) (Vn [6] ["branches"] rfl (WD (pv 5)) (λ_ _ _ _ _=>Od (YX (r:=K5 K true) CA (pv 0) (pv 1) Z)) (λ_ _ _ _ _=>pv 0) ⟨rfl,.inl rfl,rfl,trivial⟩))))))))))))))))),?_⟩
 let R:=O.sh;let⟨u,fu,_,_⟩:=z.facts O.wf O.hr Z;let h0:(gd g n).h≠0:=by rw[<-c5];exact Nat.succ_ne_zero _
 let⟨dS,hS⟩:=R.sh.self;let W:=R.tw n u;let⟨n9,p1,p0,U,e5,_,_⟩:=id W.tag;let U:(k.getD n .d).tg=n9:=V.ref.inj U;exists _,Z,S,dS,_,Z,hS,Z,_,Z,S,d,lk,g.length,Y,ls,(n:Int),.ref (k.getD n .d).x,Z,R.sh,R.val n u;exists _,Z,(k.getD n .d).x,_,(k.getD n .d).tg,_,_,_,_,_,Z,W.tw,by rw[U];exact e5,_,Z
 rw[aI (show (Zr (gd g n)).h > 0 by show ((gd g n).h:Int) > 0;lia)]
 refine Zm ?_;refine⟨_,Z,S,dS,_,Z,hS,Z,_,Z,.mk R (n7) (by rw[zR];lia) λq H1 s1 nq hq=>?_⟩
 let R1:=R.same s1;let⟨l3,n0⟩:=(R1.tw n u).tw.self;exists _,Z,(k.getD n .d).x,jO,l3,_,.ref (k.getD n .d).th,Z,n0,L.cT,L.nth,Z;exists _,Z,l,iN t,Z,.inl (ZG.of (s1 _ _ hl));intro a0 a7;let⟨H2,eU,g2,a5⟩:=Y8 a7 (.lst (iN t));rw[eU];let s2:=s1.trans g2;let M:H a0=none:=s1.free a7;let R2:=R.same s2;let⟨l0,l9⟩:=R2.sh.self;exists _,Z,S,l0,_,Z,l9,Z,_,Z,S,d,lk,a0,lv,g,av,ho,k,Y,ls,t,Z,R2,a5,hb,by lia
 intro D2 us H3 s3 o7 l6 m3;let n8:=s2.trans s3;exists D2,us,YK g t,_,Z,l6,m3,GQ O.wf hb,m5;intro H4 v s4 kv;let a1:=n8.trans s4;let R4:=R.same a1;let kl:=Mf kv;let⟨tl,o9,o8,rfl,m8,o5,o4⟩:=id kl;let⟨l4,n3⟩:=(R4.tw n u).tw.self;let e6:=a1 _ _ e5;refine⟨_,Z,.inr (.inl ⟨tl,_,_,.int (Zr (YV g t)).h,rfl,rfl,Zs.of m8,XH (j:=0) rfl,_,rfl,(k.getD n .d).x,jO,l4,_,.ref (k.getD n .d).tg,rfl,n3,L.cT,L.ntg,rfl,.inr (.inl ⟨(k.getD n .d).tg,_,_,.int (Zr (gd g n)).h,rfl,rfl,Zs.of (by rw[U];exact e6),XH (j:=0) rfl,rfl,_,rfl,?_⟩)⟩)⟩
 let hh:(Zr (YV g t)).h=(Zr (gd g n)).h:=by show (((YV g t).h:Nat):Int)=(((gd g n).h:Nat):Int);rw[c5]
 let e:(!decide (V.int (Zr (YV g t)).h=V.int (Zr (gd g n)).h))=false:=by rw[aI (congrArg V.int hh)];rfl
 rw[e];refine Zm ?_;let⟨l1,m1⟩:=R4.sh.self;let m6:=((g2.trans s3).trans s4) _ _ hq;refine⟨_,Z,S,l1,_,Z,m1,Z,_,Z,_,Z,.mk R4 u (z.nodup O.wf O.hr) (λi hi=>⟨(fu i hi).1,by have:=(fu i hi).2;lia⟩) u8 m6 ch kl λH5 D o6 s5 nD hD m4=>?_⟩
 let a2:=a1.trans s5;let R5:=R.same a2;let p:=((s3.trans s4).trans s5) _ _ a5;let⟨ws,a6,_,c0⟩:=W.things;let c0:=c0 h0;subst c0;let e7:=a2 _ _ a6;let o2:(gd g n).bs.length<=4:=((O.wf n u).stem h0).2.1;refine⟨_,Z,a0,Z,⟨_,ZG.of p⟩,DZ (cs:=(gd g n).bs) ∅ p (λHq j Rq hj sq hR=>⟨_,Z,_,Z,(k.getD n .d).th,_,Z,.inl (ZG.of (sq _ _ e7)),Z,EN _,_,Z,by rw[Fw];exact hR⟩) λLW H7 s6 n5 c9=>?_⟩
 let a3:=a2.trans s6;let i0:H LW=none:=a2.free n5;let R7:=R.same a3;let⟨a9,c1⟩:=R7.sh.self;let i1:∀ b∈QP g n t,b∈lv:=λb h=>hb b (yN.mp h).1;exists _,Z,S,a9,_,Z,c1,Z,_,Z,S,LW,(QP g n t).map (λb:Nat=>(b:Int)),Z,by rw[<-LV];exact c9,⟨a9,_,c1,Z⟩,λm hm=>?_
 ·let⟨b,a,rfl⟩:=zP.mp hm;let e3:=i1 b a;exact⟨d,lk,g.length,Y,ls,_,_,_,_,_,_,⟨R7.sh,R7.val b e3,(R7.tw b e3).tw⟩,(tp b a).1⟩
 let⟨l5,e9⟩:=(R7.tw n u).tw.self;let G:=s6 _ _ p;let l7:=s6 _ _ hD;exists _,Z,_,Z,(k.getD n .d).x,jO,l5,_,Z,e9,L.cT,L.nth,yX Z;refine⟨_,Z,S,a9,_,Z,(by rw[ZS (R.own n u).1.symm];exact c1),Z,_,Z,GT O z C a3 e9 l7 (a1.free nD) (m4.mono (ZE.tups s6)) M G (λy=>absurd y (by rw[c5];exact h0)) (λ_=>rfl) λH9 N fr R9 A9=>?_⟩
 let c6:∀ c o,(∀ C dx fs,o≠.ins C dx fs)->H7 c=some o->H9 c=some o:=λc o n1 e=>fr c o (λi hi=>by
  let⟨dx,e2⟩:=(R7.tw i hi).tw.self;exact ZW e e2 (n1 _ _ _)) e
 let e0:=c6 _ _ (by intro _ _ _ z;cases z) c9
 let⟨l2,m2⟩:=R9.sh.self;refine⟨_,Z,S,l2,_,Z,m2,Z,_,Z,_,Z,S,d,lk,LW,lv,i9,av,ho,N,Y,ls,QP g n t,n,Z,R9,e0,i8.sublist uV,λb a=>⟨i1 b a,(tp b a).1,by have:=(tp b a).2;lia⟩,λb a=>?_,λi4 a4 o0 a8=>?_⟩
 ·rw[A9.ab b a];exact(Zg (R.tw b a).tw.above i0).symm
 let e8:=c6 _ _ (by intro _ _ _ z;cases z) (a3 _ _ a6)
 let c2:=c6 _ _ (by intro _ _ _ z;cases z) G
 let J:∀(c:ai)(xs:je),(∀ b:Nat,b∈lv->c≠(k.getD b .d).ab)->H9 c=some (.lst xs)->i4 c=some (.lst xs):=λc xs n1 e=>a4 c _ (λb a=>by
  let⟨dx,m9⟩:=(R9.tw b a).tw.self;exact⟨ZW e m9,by rw[A9.ab b a];exact n1 b a⟩) e
 let i3:∀ b:Nat,b∈lv->(k.getD n .d).th≠(k.getD b .d).ab:=λb a=>by
  by_cases z:b=n
  ·subst z;exact(R.own b a).2.2.2.symm
  ·exact(R.two b n a u z).2.2.1.symm
 let I:=J _ _ i3 e8;let X:=J _ _ (λb a=>(Zg (R.tw b a).tw.above M).symm) c2;let⟨c7,e1⟩:=a8.sh.self;refine⟨_,Z,S,c7,_,Z,e1,Z,_,Z,_,Z,(k.getD n .d).th,Z,⟨_,ZG.of I⟩,DZ (cs:=t) ∅ I (λHq j Rq hj sq hR=>⟨_,Z,_,Z,a0,_,Z,.inl (ZG.of (sq _ _ X)),Z,EN _,_,Z,by rw[Fw];exact hR⟩) λLG o1 i2 n4 l8=>?_⟩
 let i6:=a8.same i2;refine .mk i6 l8 ((OC O.wf u h0).sublist uV) (λb a=>?_) (λb a=>(Zg (a8.tw b a).tw.above n4).symm) λi5 c8 i7=>?_
 ·let⟨q1,q2⟩:=yN.mp a;let q2:=of_decide_eq_true q2;exists (((O.wf n u).stem h0).2.2.1 b q1).1;rw[show Wn (QP g n t) n av b=av b from aJ (λy=>q2 (yN.mp y).1)];exact O.avk n u b q1
 ·refine kY i5 N (λc o n1 e=>?_) i7 A9;let n2:∀ b:Nat,b∈lv->c≠(N.getD b .d).x/\c≠(N.getD b .d).ab:=λb a=>by rw[A9.x b a,A9.ab b a];exact n1 b a
  exact c8 c o n2 (i2 _ _ (a4 c o n2 (fr c o (λi hi=>(n1 i hi).1) (a3 _ _ e))))
abbrev ID:Stmt:=Xv (top 76) 4
abbrev Jr:Stmt:=Xv (top 76) 5
abbrev Lr:Stmt:=Xv (top 76) 6
theorem ZIj{a:List (Za×V)}{b:jj}{i:Nat}(d:b.Nodup)(h:a.map (·.1)=b.map (λi:Nat=>(Sum.inl (i:Int):Za))):(Wg a (.inl (i:Int))).map (·.1)=(b.erase i).map (λi:Nat=>(Sum.inl (i:Int):Za)):=by
 let c:(Wg a (.inl (i:Int))).map (·.1)=(a.map (·.1)).filter λk=>decide (k≠.inl (i:Int)):=by
  unfold Wg;rw[List.filter_map];rfl
 rw[c,h,List.filter_map,d.erase_eq_filter]
 congr 1
 refine List.filter_congr λj _=>?_;show decide ((Sum.inl (j:Int):Za)≠Sum.inl (i:Int))=(j != i);rw[wU];simp
 lia
theorem AY{a:List (Za×V)}{k j:Za}(h:j≠k):Ym (Wg a k) j=Ym a j:=by
 induction a with
 | nil=>rfl
 | cons p r b=>
  by_cases z:p.1=k
  ·rw[ZKE z,b,QR (by rw[z];exact Ne.symm h)]
  ·rw[ZJs z];by_cases y:p.1=j
   ·rw[QL y,QL y]
   ·rw[QR y,QR y,b]
section
variable{jN jO:ai}{H H':Hp}{S d lk:ai}{lv:jj}{ts:jk}{av:Nat->jj}{ho:Nat->Nat}{as:jr}{kvs:List (Za×V)}{ls:je}{b i:Nat}
theorem Zl.gone(R:Zl jN jO H S d lk lv ts av ho as kvs ls)(r:lv.Nodup):Zl jN jO (upd H d (.dK (Wg kvs (.inl (i:Int))))) S d lk (lv.erase i) ts av ho as (Wg kvs (.inl (i:Int))) ls:=by
 let⟨⟨s,q⟩,h,p⟩:=R.sh;let g:∀{a:Nat},a∈lv.erase i ↔ a≠i/\a∈lv:=r.mem_erase_iff;let k:∀ c o,c≠d->H c=some o->upd H d (.dK (Wg kvs (.inl (i:Int)))) c=some o:=λc o n e=>by rw[ZS n];exact e
 let m:Z6 H (upd H d (.dK (Wg kvs (.inl (i:Int))))):=λc x e=>k c _ (ZW e h) e;refine⟨⟨⟨s,k _ _ (ZW q h) q⟩,ZZ,k _ _ (ZW p h) p⟩,λj f=>R.lt j (g.mp f).2,ZIj r R.keys,λj f=>?_,R.len,λj f=>?_,λj f=>R.own j (g.mp f).2,λj l f p=>R.two j l (g.mp f).2 (g.mp p).2⟩
 ·rw[AY (λz=>(g.mp f).1 (by have:=Sum.inl.inj z;lia))]
  exact R.val j (g.mp f).2
 ·let W:=R.tw j (g.mp f).2;let⟨v,u⟩:=W.tw.self;let⟨w,t,_⟩:=W.things;exact W.frame m (λo e=>k _ _ (ZW u h) e) (λo e=>k _ _ (ZW t h) e) (λo e=>k _ _ (ZW W.tw.above h) e)
end
def Mm(a:Nat->Nat)(b:Nat):Nat->Nat:=λi=>if i=b then a i+1 else a i
inductive XY(jN jO:ai):Sp
 |mk{S d k:ai}{h:jj}{m:jk}{i:Nat->jj}{j:Nat->Nat}{g:jr}{a:List (Za×V)}{l:je}{b:Nat}{H:Hp}{Q:VK}{E:XK}:Zl jN jO H S d k h m i j g a l->b∈h ->
  (∀ e:Hp,(∀ c o,c≠(g.getD b .d).x->H c=some o->e c=some o)->Zl jN jO e S d k h m i (Mm j b) g a l->Q .non e)->XY jN jO [.ref S,.int (b:Nat)] H Q E
theorem PR:ZC zFi zEa (ZY ID):=Zp
theorem ZMb(F:Zi K "hold" "Shelf.hold" ID f fd)(L:YT K mg jN jO)(u:ZB P w K mg jQ ZM 1 jN "twig_of" zEa (Zk jN)):ZI P w K mg jQ ZM 2 f fd zEa (XY jN jO):=by
 refine F.ok PR (λN H Q E h=>(by cases h;rfl)) (λy A q s H N Q E C h=>?_)
 let⟨R,l,k⟩:=h;rename_i S d D T M v i g p G b
 let J:=PR.nd;intro O;refine⟨_,ZL (Zj 2 J (Z0 (E:=E0) (pv 0) L.cS u C Z3 (ZT (pv 1))))
  (ZR (Lh (pv 2) ZK CI)),?_⟩
 let⟨z,B⟩:=R.sh.self;let t:=R.tw b l;let⟨j,m⟩:=t.tw.self;let a:=t.tw.above;exists _,Z,S,z,_,Z,B,Z,_,Z,S,d,D,M.length,p,G,(b:Int),.ref (g.getD b .d).x,Z,R.sh,R.val b l;exists _,Z,(g.getD b .d).x,jO,j,_,.int (i b:Nat),Z,m,L.cT,L.nho,Z,_,_,Z,Z,j,_,m,yX Z;let r:(g.getD b .d).ab≠(g.getD b .d).x:=ZW a m;refine k _ (λc o n e=>by rw[ZS n];exact e) (R.set1 l (av':=v) (ho':=Mm i b) (λ_ _=>rfl) (λc n=>aJ n) ⟨j,?_⟩ ?_ λc o I _ e=>by rw[ZS I];exact e)
 ·rw[ZZ,show Mm i b b=i b+1 from aK rfl];rfl
 ·rw[ZS r];exact a
inductive VT(jN jO:ai):Sp
 |mk{S d h:ai}{e:jj}{k:jk}{b:Nat->jj}{c:Nat->Nat}{g:jr}{a:List (Za×V)}{j:je}{i:Nat}{H:Hp}{Q:VK}{E:XK}:Zl jN jO H S d h e k b c g a j->i∈e->1<=(b i).length+c i->Q .non H->VT jN jO [.ref S,.int (i:Nat)] H Q E
theorem Us:ZC ["self","number","twig","branch"] zEa (ZY Lr):=Zp
theorem ZMt(F:Zi K "drop_unheld" "Shelf.drop_unheld" Lr f fd)(L:YT K mg jN jO)(j:ZB P w K mg jQ ZM 2 jN "holders" zEa (Xn jN jO λ_ b u=>.int ((u.length:Nat)+(b:Nat):Int))):ZI P w K mg jQ ZM 3 f fd zEa (VT jN jO):=by
 refine F.ok Us (λv H Q E h=>(by cases h;rfl)) (λl A e s H v Q E o h=>?_)
 let⟨R,g,z,k⟩:=h;rename_i S d q B t a b y c r i
 intro x;exists _,ZL (Z1 (YX Uo (Z0 (E:=E0) (pv 0) L.cS j o Z3 (ZT (pv 1))) ZK (YG _)) (ZR ZN1) Z5) Wq;let⟨m,n⟩:=R.sh.self;let W:=R.tw i g;let p:(iN (a i)).length=(a i).length:=zX _;exists _,Z,S,m,_,Z,n,Z,_,Z,S,d,q,t.length,c,r,(i:Int),_,_,_,_,_,_,Z,⟨R.sh,R.val i g,W.tw⟩;exists _,_,Z,Z,_,Z;rw[aI (show (((iN (a i)).length:Nat)+(b i:Nat):Int) > 0 by rw[p];lia)]
 exact Z7 k
inductive Vf(jN jO:ai):Sp
 |mk{S d p:ai}{e:jj}{a:jk}{j:Nat->jj}{k:Nat->Nat}{m:jr}{n:List (Za×V)}{q:je}{i:Nat}{H:Hp}{Q:VK}{E:XK}:Zl jN jO H S d p e a j k m n q->e.Nodup->i∈e->j i=[]->k i=0->((gd a i).h=0->(gd a i).bs=[])->(gd a i).bs.Nodup->(∀ b∈(gd a i).bs,b∈e/\b≠i/\1<=k b/\i∈j b) ->
  (∀(l:Hp)(g:List (Za×V)),(∀ c o,c≠d->(∀ b∈e,c≠(m.getD b .d).ab)->H c=some o->l c=some o)->Zl jN jO l S d p (e.erase i) a (Xl (gd a i).bs i j) k m g q->Q .non l)->Vf jN jO [.ref S,.int (i:Nat)] H Q E
inductive CY(jN jO S d lk:ai)(lv:jj)(ts:jk)(av:Nat->jj)(ho:Nat->Nat)(as:jr)(kvs:List (Za×V))(ls:je)(i:Nat)(H:Hp):Nat->L2.St->Hp->Prop
 |mk{j:Nat}{x3:jf}{H2:Hp}:(∀ c o,c≠d->(∀ b∈lv,c≠(as.getD b .d).ab)->H c=some o->H2 c=some o)->Zl jN jO H2 S d lk (lv.erase i) ts (Xl ((gd ts i).bs.take j) i av) ho as kvs ls->CY jN jO S d lk lv ts av ho as kvs ls i H j [some (.ref S),some (.int (i:Nat)),some (.ref (as.getD i .d).x),x3] H2
theorem Ba(F:Zi K "drop_unheld" "Shelf.drop_unheld" Lr f fd)(L:YT K mg jN jO)(DH:ZB P w K mg jQ ZM 2 jN "holders" zEa (Xn jN jO λ_ M us=>.int ((us.length:Nat)+(M:Nat):Int)))(DT:ZB P w K mg jQ ZM 1 jN "twig_of" zEa (Zk jN))(DS:ZA P w K mg jQ 1 "is_stem" zFn (WC jO))(DR:ZB P w K mg jQ ZM 3 jN "drop_unheld" zEa (VT jN jO)):ZI P w K mg jQ ZM 4 f fd zEa (Vf jN jO):=by
 refine F.ok Us (λvs H Q E h=>(by cases h;rfl)) (λc6 A c1 s H vs Q E hr h=>?_)
 let⟨R,U,G,ea,h0,lf,X,hb,k⟩:=h;rename_i S d lk lv l m M g p ls i
 let nd:=Us.nd;let O:=hr.mono (show 1<=3 by lia)
 let a9:=hr.mono (show 2<=3 by lia)
 intro Xc;refine⟨_,ZL (Z1 (YX Uo (Z0 (E:=E0) (pv 0) L.cS DH a9 Z3 (ZT (pv 1))) ZK (YG _)) Wq Z5)
  (ZL (Zj 2 nd (ZKm (XT (pv 0) rfl) (pv 1) ⟨rfl,rfl,rfl,rfl⟩))
  (ZR (Z1 (Y5 (Zc DS O (ZT (pv 2))))
   (ZR (Vk PassesOwn.never rfl (WD (XT (pv 2) rfl)) (Vo 3 nd)
    (ZL (Ye (QS xW qX qV HQ (XT (Z0 (E:=E0) (pv 0) L.cS DT O Z3 (ZT (pv 3))) rfl) (ZT (pv 1))))
    (ZR (Ye (Z0 (E:=E0) (pv 0) L.cS DR hr Z3 (ZT (pv 3)))))))) Z5))),?_⟩
 let⟨dx,hS⟩:=R.sh.self;let W:=R.tw i G;let⟨dt,hx⟩:=W.tw.self;let lI:(iN (m i)).length=(m i).length:=zX _;exists _,Z,S,dx,_,Z,hS,Z,_,Z,S,d,lk,l.length,p,ls,(i:Int),_,_,_,_,_,_,Z,⟨R.sh,R.val i G,W.tw⟩;exists _,_,Z,Z,_,Z;rw[aH (show ¬ (((iN (m i)).length:Nat)+(M i:Nat):Int) > 0 by rw[lI,ea,h0];simp)]
 refine Zm ?_;let D:=R.sh.kept;exists _,Z,S,jN,dx,_,.ref d,Z,hS,L.cS,L.nk,Z,d,Z,.inl ⟨p,L2.Rd.of D⟩,_,Z,p,.inl (i:Int),.ref (g.getD i .d).x,D,Z,R.val i G;let C:∀ b o,b≠d->H b=some o->upd H d (.dK (Wg p (.inl (i:Int)))) b=some o:=λb o n e=>by rw[ZS n];exact e
 let R1:=R.gone (i:=i) U;let⟨us,y,c7,c3⟩:=W.things;let⟨q,k0,k1,eq,Y,_,_⟩:=W.tag;let eq:(g.getD i .d).tg=q:=V.ref.inj eq;generalize upd H d (.dK (Wg p (.inl (i:Int))))=H1 at C R1⊢;let T:=C _ _ (ZW hx D) hx;let a2:=C _ _ (ZW W.tw.above D) W.tw.above;let c2:=C _ _ (ZW Y D) Y;let a0:Xl [] i m=m:=funext λc=>aJ (by simp)
 exists _,Z,(g.getD i .d).x,.ref (g.getD i .d).th,(g.getD i .d).tg,(g.getD i .d).ab,M i,_,_,_,Z,⟨⟨dt,T⟩,a2⟩,by rw[eq];exact c2,_,Z
 by_cases hz:(gd l i).h=0
 ·let eb:=lf hz;rw[aH (show ¬ (Zr (gd l i)).h > 0 by show ¬ ((gd l i).h:Int) > 0;lia)]
  refine Zm (k H1 (Wg p (.inl (i:Int))) (λc o n _ e=>C c o n e) ?_);rw[eb,a0];exact R1
 ·rw[aI (show (Zr (gd l i)).h > 0 by show ((gd l i).h:Int) > 0;lia)]
  let ew:=c3 hz;subst ew;let c4:=C _ _ (ZW y D) y;refine Z7 ⟨_,Z,(g.getD i .d).x,jO,dt,_,.ref (g.getD i .d).th,Z,T,L.cT,L.nth,Z,_,Z,⟨_,ZG.of c4⟩,?_⟩;let a1:∀ b∈lv,(g.getD i .d).th≠(g.getD b .d).ab:=λb hb=>by
   by_cases z:b=i
   ·rw[z];exact(R.own i G).2.2.2.symm
   ·exact(R.two b i hb G z).2.2.1.symm
  refine Qm (K:=K) (a:=(g.getD i .d).th) (xs:=iN (gd l i).bs) (CY jN jO S d lk lv l m M g (Wg p (.inl (i:Int))) ls i H) (.mk (λc o n _ e=>C c o n e) (by rw[show (gd l i).bs.take 0=[] from rfl,a0];exact R1)) ?_ ?_ ?_
  ·rintro j _ J _ ⟨r,_⟩;exact ZG.of (r _ _ (ZW y D) a1 y)
  ·rintro j u _ J c0 ⟨r,R2⟩;rename_i x3
   let⟨b,B,rfl⟩:=MR c0;let⟨bl,bi,b1,ib⟩:=hb b (zL B);let t:b∈lv.erase i:=U.mem_erase_iff.mpr ⟨bi,bl⟩;let a8:b∉(gd l i).bs.take j:=λz=>by
    let hs:(gd l i).bs=(gd l i).bs.take j++b::(gd l i).bs.drop (j+1):=by
     let⟨G,e⟩:=zB.mp B;rw[<-e,<-wZ G,xA]
    rw[hs,xR] at X;exact X.2.2 b z b (by simp) Z
   let a5:Xl ((gd l i).bs.take j) i m b=m b:=aJ a8;let⟨a3,a6⟩:=R2.sh.self;let Wb:=R2.tw b t;let⟨db,I⟩:=Wb.tw.self;let v:=Wb.tw.above;rw[a5] at v;let eI:iN (m b)=((m b).map λn:Nat=>(n:Int)).map V.int:=by rw[uA];rfl
   exists _,Z,S,a3,_,Z,a6,Z,_,Z,S,d,lk,l.length,_,ls,(b:Int),.ref (g.getD b .d).x,Z,R2.sh,R2.val b t,(g.getD b .d).x,jO,db,_,.ref (g.getD b .d).ab,Z,I,L.cT,L.nab,Z,.inl ⟨Z,_,ZG.of v⟩,_,Z,(g.getD b .d).ab,(m b).map (λn:Nat=>(n:Int)),(i:Int),Z,Z,by rw[<-eI];exact v,zP.mpr ⟨i,ib,Z⟩
   rw[Gj];let c5:(g.getD b .d).x≠(g.getD b .d).ab:=ZW I v;let et:(gd l i).bs.take (j+1)=(gd l i).bs.take j++[b]:=by rw[yR,B];rfl
   let eB:Xl ((gd l i).bs.take (j+1)) i m b=(m b).erase i:=aK (by rw[et];simp)
   let R3:=R2.set1 (H':=upd J (g.getD b .d).ab (.lst ((((m b).erase i).map λn:Nat=>(n:Int)).map V.int))) t (av':=Xl ((gd l i).bs.take (j+1)) i m) (ho':=M) (λc n=>by unfold Xl;rw[et];simp[n]) (λ_ _=>rfl) ⟨db,by rw[ZS c5];exact I⟩ (by rw[ZZ,eB,uA];rfl) λc o _ n2 e=>by rw[ZS n2];exact e
   let N:∀ c o,c≠d->(∀ b∈lv,c≠(g.getD b .d).ab)->H c=some o->upd J (g.getD b .d).ab (.lst ((((m b).erase i).map λn:Nat=>(n:Int)).map V.int)) c=some o:=λc o n1 n2 e=>by rw[ZS (n2 b bl)];exact r c o n1 n2 e
   generalize upd J (g.getD b .d).ab (.lst ((((m b).erase i).map λn:Nat=>(n:Int)).map V.int))=H3 at R3 N⊢;let⟨a4,a7⟩:=R3.sh.self;exact⟨_,Z,S,a4,_,Z,a7,Z,_,Z,.mk R3 t ∅ (.mk N R3)⟩
  ·rintro _ J ⟨r,R2⟩;rw[show (iN (gd l i).bs).length=(gd l i).bs.length from zX _,yV (zY _)] at R2;exact k J _ r R2
inductive Y1(jN jO:ai):Sp
 |mk{S d p:ai}{e:jj}{a:jk}{k:Nat->jj}{l:Nat->Nat}{j:jr}{n:List (Za×V)}{q:je}{i:Nat}{H:Hp}{Q:VK}{E:XK}:Zl jN jO H S d p e a k l j n q->e.Nodup->i∈e->k i=[]->l i=1->((gd a i).h=0->(gd a i).bs=[])->(gd a i).bs.Nodup->(∀ b∈(gd a i).bs,b∈e/\b≠i/\1<=l b/\i∈k b) ->
  (∀(m:Hp)(g:List (Za×V)),(∀ c o,c≠d->(∀ b∈e,c≠(j.getD b .d).x/\c≠(j.getD b .d).ab)->H c=some o->m c=some o)->Zl jN jO m S d p (e.erase i) a (Xl (gd a i).bs i k) (Ve l i) j g q->Q .non m)->Y1 jN jO [.ref S,.int (i:Nat)] H Q E
theorem QG:ZC zFi zEa (ZY Jr):=Zp
theorem ZK7(F:Zi K "let_go" "Shelf.let_go" Jr f fd)(L:YT K mg jN jO)(DC:ZB P w K mg jQ ZM 3 jN "check_held" zEg (Z4 jN jO))(DT:ZB P w K mg jQ ZM 1 jN "twig_of" zEa (Zk jN))(DD:ZB P w K mg jQ ZM 4 jN "drop_unheld" zEa (Vf jN jO)):
  ZI P w K mg jQ ZM 5 f fd zEa (Y1 jN jO):=by
 refine F.ok QG (λvs H Q E h=>(by cases h;rfl)) (λa1 A Y s H vs Q E N h=>?_)
 let⟨R,V,r,ea,h1,lf,X,hb,k⟩:=h;rename_i S d lk lv ts av j a z ls i
 let nd:=QG.nd;let O:=N.mono (show 1<=4 by lia)
 let T:=N.mono (show 3<=4 by lia)
 intro Xc;refine⟨_,ZL (Ye (Z0 (E:=E0) (pv 0) L.cS DC T Z3 (ZT (Yr (ZT (pv 1))))))
  (ZL (Zj 2 nd (Z0 (E:=E0) (pv 0) L.cS DT O Z3 (ZT (pv 1))))
  (ZL (Lh (pv 2) ZK KU)
  (ZR (Ye (Z0 (E:=E0) (pv 0) L.cS DD N Z3 (ZT (pv 1))))))),?_⟩
 let⟨dx,hS⟩:=R.sh.self;exists _,Z,S,dx,_,Z,hS,Z,_,Z,YS;intro l nl;let⟨C,eU,g,hl⟩:=Y8 nl (.lst [.int (i:Nat)]);rw[eU];let m:=R.same g;let⟨t,v⟩:=m.sh.self;let G:=m.tw i r;let⟨q,U⟩:=G.tw.self;let y:=G.tw.above;exists S,l,[(i:Int)],Z,hl,⟨t,_,v,Z⟩,λn hn=>?_
 ·rw[zK.mp hn];exact⟨d,lk,ts.length,z,ls,_,_,_,_,_,_,⟨m.sh,m.val i r,G.tw⟩,∅⟩
 exists _,Z,S,t,_,Z,v,Z,_,Z,S,d,lk,ts.length,z,ls,(i:Int),.ref (a.getD i .d).x,Z,m.sh,m.val i r;exists _,Z,(a.getD i .d).x,jO,q,_,.int (j i:Nat),Z,U,L.cT,L.nho,Z,_,_,Z,Z,q,_,U,yX Z;let a0:(a.getD i .d).ab≠(a.getD i .d).x:=ZW y U;let eh:((j i:Nat):Int)-1=((j i-1:Nat):Int):=∅
 let e1:Ve j i i=j i-1:=aK Z;let D:=m.set1 (H':=upd C (a.getD i .d).x (.ins jO q (Yn "holds" (.int (((j i:Nat):Int)-1)) (WQ (.ref (a.getD i .d).th) (.ref (a.getD i .d).tg) (a.getD i .d).ab (j i))))) r (av':=av) (ho':=Ve j i) (λ_ _=>rfl) (λc n=>aJ n) ⟨q,by
  rw[ZZ,e1,eh];rfl⟩ (by rw[ZS a0];exact y) λc o W _ e=>by rw[ZS W];exact e
 let u:∀ c o,c≠(a.getD i .d).x->C c=some o->upd C (a.getD i .d).x (.ins jO q (Yn "holds" (.int (((j i:Nat):Int)-1)) (WQ (.ref (a.getD i .d).th) (.ref (a.getD i .d).tg) (a.getD i .d).ab (j i)))) c=some o:=λc o n e=>by rw[ZS n];exact e
 generalize upd C (a.getD i .d).x (.ins jO q (Yn "holds" (.int (((j i:Nat):Int)-1)) (WQ (.ref (a.getD i .d).th) (.ref (a.getD i .d).tg) (a.getD i .d).ab (j i))))=H3 at D u⊢;let⟨I,M⟩:=D.sh.self;refine⟨_,Z,S,I,_,Z,M,Z,_,Z,.mk D V r ea (by rw[e1,h1]) lf X (λb p=>?_) λH4 B J R4=>?_⟩
 ·let⟨b1,b2,b3,b4⟩:=hb b p;exact⟨b1,b2,by rw[show Ve j i b=j b from aJ b2];exact b3,b4⟩
 ·exact k H4 B (λc o W n2 e=>J c o W (λb p=>(n2 b p).2) (u c o (n2 i r).1 (g _ _ e))) R4
structure Go(lk:ai)(H H':Hp)(X X':Zd):Prop where
 S:X'.S=X.S
 d:X'.d=X.d
 fr:∀ c o,Z2 X lk c->H c=some o->H' c=some o
 off:∀ c o,Z2 X lk c->H c=some o->Z2 X' lk c
theorem Go.trans{f:ai}{H g h:Hp}{X i j:Zd}(a:Go f H g X i)(b:Go f g h i j):Go f H h X j:=⟨b.S.trans a.S,b.d.trans a.d,λc o n e=>b.fr c o (a.off c o n e) (a.fr c o n e),λc o n e=>b.off c o (a.off c o n e) (a.fr c o n e)⟩
theorem Go.same{b:ai}{H a:Hp}{X:Zd}(s:ZE H a):Go b H a X X:=⟨Z,Z,λc o _ e=>s c o e,λc o n _=>n⟩
theorem Go.looks{d:ai}{H a:Hp}{X:Zd}(s:∀ b o,b≠d->H b=some o->a b=some o):Go d H a X X:=⟨Z,Z,λc o n e=>s c o n.2.2.1 e,λc o n _=>n⟩
section
variable{jN jO:ai}{H H':Hp}{X:Zd}{lk:ai}{ls:je}{r:Nat}
theorem Zl.off(R:Zl jN jO H X.S X.d lk X.lv X.ts X.av X.ho X.as X.kvs ls){c:ai}{o:HO}(e:H c=some o)(g:∀ C a j,o≠.ins C a j)(q:∀ k,o≠.dK k)(f:∀ s,o≠.lst s):Z2 X lk c:=by
 let⟨⟨a,l⟩,m,n⟩:=R.sh;exists ZW e l (g _ _ _),ZW e m (q _),ZW e n (f _);intro i b;let⟨a,p⟩:=(R.tw i b).tw.self;let⟨t,h,_⟩:=(R.tw i b).things;exact⟨ZW e p (g _ _ _),ZW e (R.tw i b).tw.above (f _),ZW e h (f _)⟩
theorem Go.tups{a:Zd}(g:Go lk H H' X a)(R:Zl jN jO H X.S X.d lk X.lv X.ts X.av X.ho X.as X.kvs ls):Z6 H H':=λc b e=>g.fr c _ (R.off e (by intro _ _ _ z;cases z) (by intro _ z;cases z) (by intro _ z;cases z)) e
theorem Zl.new(R:Zl jN jO H X.S X.d lk X.lv X.ts X.av X.ho X.as X.kvs ls){c:ai}(n:H c=vS):Z2 X lk c:=by
 let⟨⟨b,f⟩,g,h⟩:=R.sh;exists (Zg f n).symm,(Zg g n).symm,(Zg h n).symm;intro i a;let⟨b,j⟩:=(R.tw i a).tw.self;let⟨k,e,_⟩:=(R.tw i a).things;exact⟨(Zg j n).symm,(Zg (R.tw i a).tw.above n).symm,(Zg e n).symm⟩
theorem Gp{cur:jk}{av':Nat->jj}{ho':Nat->Nat}{as':jr}{kvs':List (Za×V)}(b:∀ c o,(∀ i:Nat,i∈X.lv->c≠(X.as.getD i .d).x/\c≠(X.as.getD i .d).ab)->H c=some o->H' c=some o)(A:MJ H X.lv X.as as'):Go lk H H' X ⟨X.S,X.d,X.lv,cur,av',ho',as',kvs'⟩:=
 ⟨rfl,rfl,λc o n e=>b c o (λi a=>⟨(n.2.2.2 i a).1,(n.2.2.2 i a).2.1⟩) e,λc o n e=>⟨n.1,n.2.1,n.2.2.1,λi a=>by
  let a:i∈X.lv:=a;let⟨f,g,h⟩:=n.2.2.2 i a;exists by rw[A.x i a];exact f,by rw[A.ab i a];exact g
  rcases A.th i a with z | z
  ·rw[z];exact h
  ·exact Zg e z⟩⟩
theorem Fx{t:ZP}{av':Nat->jj}{ho':Nat->Nat}{a:YQ}{kvs':List (Za×V)}(l:X.as.length=X.ts.length)(h:∀ i∈X.lv,i<X.ts.length)(g:∀ c o,c≠X.S->c≠X.d->(∀ i:Nat,i∈X.lv->c≠(X.as.getD i .d).x/\c≠(X.as.getD i .d).ab)->H c=some o->H' c=some o)(nx:H a.x=none)(k:H a.th=none)(j:H a.ab=none):Go lk H H' X ⟨X.S,X.d,X.lv++[X.ts.length],X.ts++[t],av',ho',X.as++[a],kvs'⟩:=
 ⟨rfl,rfl,λc o n e=>g c o n.1 n.2.1 (λi b=>⟨(n.2.2.2 i b).1,(n.2.2.2 i b).2.1⟩) e,λc o n e=>⟨n.1,n.2.1,n.2.2.1,λi b=>by
  show c≠((X.as++[a]).getD i .d).x/\c≠((X.as++[a]).getD i .d).ab/\c≠((X.as++[a]).getD i .d).th;rcases zD.mp b with q | q
  ·rw[IL (by have:=h i q;lia)]
   exact n.2.2.2 i q
  ·let f:i=X.as.length:=by have:=zK.mp q;lia
   rw[f,IG];exact⟨Zg e nx,Zg e j,Zg e k⟩⟩⟩
end
section
variable{gt:jj}{ts cur:jk}{r n:Nat}{up ps:jj}{A B T:jm}{t:ZP}
theorem Yq.chd(c:WF gt ts)(a:r∈gt)(z:Yq ts r (n::up) ps A B)(C:O1 gt ts cur r n up t T):Yq cur r (n::up) ps A B:=by
 let d:=yW.mp (z.nodup c a);exact z.keep c a Z (λi e=>⟨C.hh i,C.sh i λy=>d.1 (y ▸ e)⟩) λb _ _ f=>by rw[C.old b f]
end
theorem JH:∀{a b:jm},Up a->Up b->(∀ x,x∈a ↔ x∈b)->a=b
 | [],[],_,_,_=>rfl
 | [],y::b,_,_,h=>by have:=(h y).mpr zS;cases this
 | x::a,[],_,_,h=>by have:=(h x).mp zS;cases this
 | x::a,y::b,ha,hb,h=>by
  let c:=xB.mp ha;let d:=xB.mp hb;let e:x=y:=by
   rcases zU.mp ((h x).mp zS) with z | z
   ·exact z
   ·rcases zU.mp ((h y).mpr zS) with q | q
    ·exact q.symm
    ·let g:=d.1 _ (zP.mpr ⟨x,z,Z⟩);let f:=c.1 _ (zP.mpr ⟨y,q,Z⟩);rw[Pm _ _ g] at f;cases f
  subst e;let nx:∀{l:jm},(∀ z∈l.map (·.1),x.1.lt z=true)->x∉l:=λi z=>by
   have:=i _ (zP.mpr ⟨x,z,Z⟩);rw[V9] at this;cases this
  rw[JH c.2 d.2 λz=>⟨λq=>by
   rcases zU.mp ((h z).mp (zO _ q)) with y | y
   ·exact absurd q (y ▸ nx c.1)
   ·exact y,λq=>by
   rcases zU.mp ((h z).mpr (zO _ q)) with y | y
   ·exact absurd q (y ▸ nx d.1)
   ·exact y⟩]
def NQ(gt:jj)(d:jk)(a:Nat->jj)(c:Nat->Nat):Prop:=∀ p∈gt,∀ b∈(gd d p).bs,a b=[p]/\c b=0
theorem NQ.avk{gt:jj}{c:jk}{a:Nat->jj}{e:Nat->Nat}(h:NQ gt c a e):Ik gt c a:=λp f b d=>by rw[(h p f b d).1];exact zK.mpr Z
theorem Yq.rd{gt:jj}{g:jk}{r:Nat}{b:Nat->jj}{d:Nat->Nat}(j:WF gt g)(f:r∈gt)(t:NQ gt g b d)(x:Tp b d r){h k:jj}{A B:jm}(z:Yq g r h k A B):∀{c:Nat}{a:jj},h=c::a->Rd gt b d c (c::a):=by
 induction z with
 | root=>
  intro c a e;cases e;exact .top f x
 | down n s i v w u=>
  intro c a e;cases e;rename_i p c a k l m A B
  let⟨o,q⟩:=t p (n.facts j f Z).1 c (by rw[i];simp)
  exact .up ((n.down s i v w).facts j f rfl).1 o q (u Z)
section
variable{gt:jj}{ts:jk}{r:Nat}{k:KT}
theorem Fq(a:WF gt ts)(M:r∈gt):∀(n i:Nat){v t:jj}{A B:jm},Yq ts r (i::v) t A B->(gd ts i).h=n->(∀ x∈A,x.1.lt k=true)->(∀ x∈B,k.lt x.1=true) ->
  ∃(W:jq)(j:Nat)(f g:jm),UZ ts k n i=W++[(j,cnt ((gd ts j).rows.map (·.1)) k)]/\W.length=n/\(gd ts j).h=0/\Yq ts r (j::((W.map (·.1)).reverse++v)) ((W.map (·.2)).reverse++t) f g/\(∀ x∈f,x.1.lt k=true)/\∀ x∈g,k.lt x.1=true
 | 0,i,v,t,A,B,z,G,D,E=>⟨[],i,A,B,by rw[UZ];unfold Xs;rw[aK G];rfl,Z,G,z,D,E⟩
 | n+1,i,v,t,A,B,z,G,D,E=>by
  let s:=(z.facts a M Z).1;let b:(gd ts i).h≠0:=∅
  let⟨l,m,S,o,U,V⟩:=JA a s b k;let⟨X,n2,_⟩:=NN a s b k;let J:=OC a s b;let K:=a i s;let T:(gd ts i).rows=ZV ts (gd ts i).bs:=(K.stem b).2.2.2;let N:=(K.stem b).2.2.1;let e:=K.up;rw[o,xR,yW] at J;let Y:V1 ts k i∉l:=λy=>J.2.2 _ y _ zS Z;let z2:=z.down b o Y J.2.1.1;let⟨W,j,f,g,O,w,C,P,Q,R⟩:=Fq a M n (V1 ts k i) z2 ∅ (λx I=>by
   rcases zD.mp I with y | y
   ·exact D x y
   ·let d:=U (λq=>by rw[q] at y;cases y)
    let⟨q,qs,w,C⟩:=QN (a _ X).ne;rw[T,o,Pb,Wl,zF,xD] at e;let p:=e.2.2 _ (zP.mpr ⟨x,y,Z⟩) q.1 (zP.mpr ⟨q,yF _ (by rw[w];exact zS),Z⟩)
    rw[C] at d
    cases u:x.1.lt k with
    | true=>rfl
    | false=>
     have:=LO u p;rw[LO u p] at d;cases d) (λx I=>by
   rcases zD.mp I with y | y
   ·let⟨c,L,H⟩:=xT.mp y;let d:=V c L;let F:=(N c (by rw[o];exact yP _ (zO _ L))).1
    let p:=G0 (j:=0) (a c F) (zP.mpr ⟨x,H,Z⟩)
    cases u:k.lt x.1 with
    | true=>rfl
    | false=>
     have:=LO u d;rw[p] at this;cases this
   ·exact E x y)
  refine⟨(i,Xs ts k i)::W,j,f,g,by rw[UZ,O];rfl,by rw[zR,w],C,?_,Q,R⟩
  rw[yT,yT,List.reverse_cons,List.reverse_cons,xH,xH,<-S];exact P
theorem ZNg{g:jk}{d:Nat->jj}{e:Nat->Nat}{n:Nat}{c:jj}(m:NQ gt ts d e)(A:n∈gt)(D:∀ b∈QP ts n c,Tp d e b)(x:(gd g n).bs=c)(E:∀ i,i≠n->(gd g i).bs=(gd ts i).bs):
  NQ gt g (Qo ts n c d) (Qi ts n c e)/\(∀ b∈(gd ts n).bs,b∉c->Tp (Qo ts n c d) (Qi ts n c e) b)/\∀ b,Tp d e b->b∉c->Tp (Qo ts n c d) (Qi ts n c e) b:=by
 let v:∀ i,i∈QP ts n c ↔ i∈c/\i∉(gd ts n).bs:=λi=>by unfold QP;simp
 let o:∀ i,i∈Nm ts n c ↔ i∈(gd ts n).bs/\i∉c:=λi=>by unfold Nm;simp
 let B:∀ i,i∉QP ts n c->i∉Nm ts n c->Qo ts n c d i=d i/\Qi ts n c e i=e i:=λi a b=>by
  unfold Qo Qi Xl Xz Wn Wr;rw[aJ b,aJ b,aJ a,aJ a];exact⟨Z,Z⟩
 refine⟨λp C b h=>?_,λb h w=>?_,λb y w=>?_⟩
 ·by_cases z:p=n
  ·subst z;rw[x] at h;by_cases q:b∈(gd ts p).bs
   ·let⟨t,u⟩:=B b (λy=>((v b).mp y).2 q) λy=>((o b).mp y).2 h;let⟨f,l⟩:=m p C b q;rw[t,u];exact⟨f,l⟩
   ·let j:=(v b).mpr ⟨h,q⟩;let s:b∉Nm ts p c:=λy=>((o b).mp y).2 h;let⟨F,G⟩:=D b j;unfold Qo Qi Xl Xz Wn Wr;rw[aJ s,aJ s,aK j,aK j,F,G];exact⟨Z,Z⟩
  ·rw[E p z] at h;let⟨f,l⟩:=m p C b h;let⟨t,u⟩:=B b (λy=>by have:=(D b y).1;rw[f] at this;cases this) λy=>by
    have:=(m n A b ((o b).mp y).1).1;rw[f] at this;cases this;exact z Z
   rw[t,u];exact⟨f,l⟩
 ·let⟨f,l⟩:=m n A b h;let s:=(o b).mpr ⟨h,w⟩;let j:b∉QP ts n c:=λy=>w ((v b).mp y).1;unfold Tp Qo Qi Xl Xz Wn Wr;rw[aK s,aK s,aJ j,aJ j,f,l];exact⟨by simp,Z⟩
 ·let⟨t,u⟩:=B b (λq=>w ((v b).mp q).1) λq=>by
   have:=(m n A b ((o b).mp q).1).1;rw[y.1] at this;cases this
  exact⟨t.trans y.1,u.trans y.2⟩
theorem CO(d:WF gt ts):∀(n i:Nat),i∈gt->(gd ts i).h=n->2 ^ n<=(gd ts i).rows.length
 | 0,i,a,_=>uU.mpr (d i a).ne
 | n+1,i,a,v=>by
  let⟨f,_,g,m⟩:=(d i a).stem ∅
  let o:∀ l:jj,(∀ b∈l,b∈(gd ts i).bs)->l.length * 2 ^ n<=(l.flatMap λb=>(gd ts b).rows).length:=λl e=>by
   induction l with
   | nil=>simp
   | cons b l q=>
    let t:=q λc p=>e c (zO _ p);let⟨j,s⟩:=g b (e b zS);let u:=CO d n b j ∅
    rw[xO,zN,zR,Nat.add_mul]
    lia
  let h:=o _ λb h=>h;rw[m,Nat.pow_succ];have:2 * 2 ^ n<=(gd ts i).bs.length * 2 ^ n:=Nat.mul_le_mul_right _ f
  lia
end
inductive Q2(H:Hp)(p:Nat×Nat)(u:V):Prop
 |mk(t a:_)(_:u=.ref t)(_:H t=some (.tup [.int (p.1:Int),.int (p.2:Int),a]))
inductive WU(jN jO:ai):Sp
 |mk{X:Zd}{b:ai}{c:je}{n:Nat}{l:jj}{v:V}{H:Hp}{Q:VK}{E:XK}:Zl jN jO H X.S X.d b X.lv X.ts X.av X.ho X.as X.kvs c->Rd X.lv X.av X.ho n l->l.length<=900->(∀ a,ZE H a->Q (.int (n:Nat)) a)->WU jN jO [.ref X.S,v,.int (n:Nat)] H Q E
theorem BM:ZC ["shelf","stem","number","stead","branches"] zEj (ZY Id):=Zp
theorem AF(F:Zi K "own" "own" Id f fd)(L:YT K mg jN jO)(b:ZB P w K mg jQ ZM 4 jN "alone" zEa (Xq jN jO)):ZI P w K mg jQ ZM 5 f fd zEj (WU jN jO):=by
 refine F.ok BM (λl H Q E h=>(by cases h;rfl)) (λd A a s H l Q E i h=>?_)
 let⟨R,rd,j,q⟩:=h;intro m;exists _,ZL (Z1 (Y5 (Z0 (E:=E0) (pv 0) L.cS b i Z3 (ZT (pv 2)))) (ZR (Zh (pv 2))) Z5) Wq;let⟨e,g⟩:=R.sh.self;exact⟨_,Z,_,e,_,Z,g,Z,_,Z,.mk R rd j λc k=>⟨_,Z,Z7 ⟨_,Z,q c k⟩⟩⟩
inductive Yv(jN jO:ai):Sp
 |mk{X:Zd}{e D:ai}{g c:je}{W:jq}{H:Hp}{Q:VK}{E:XK}:Zl jN jO H X.S X.d e X.lv X.ts X.av X.ho X.as X.kvs g->H D=some (.lst c)->Paired (Q2 H) W c->(∀ p∈W,∃ l,Rd X.lv X.av X.ho p.1 l/\l.length<=900)->W.length<=900 ->
  (∀(b:Hp)(a:ai),ZE H b->H a=none->b a=some (.lst (iN (W.map (·.1))))->Q (.ref a) b)->Yv jN jO [.ref X.S,.ref D] H Q E
abbrev ZM1:jn:=["shelf","steps","owned","stem","step"]
theorem UC:ZC ZM1 zEl (ZY KO):=Zp
theorem ZIJ(F:Zi K "own_way" "own_way" KO f fd)(L:ZA P w K mg jQ 5 "own" zEj (WU jN jO)):ZI P w K mg jQ ZM 6 f fd zEl (Yv jN jO):=by
 refine F.ok UC (λvs H Q E h=>(by cases h;rfl)) (λM A z s H vs Q E O h=>?_)
 let⟨R,x,j,rd,w9,q⟩:=h;rename_i X lk D ls us W
 let n:=UC.nd;intro Xc;refine⟨_,ZL (Zj 2 n (Yr Zn))
  (ZL (Zj 3 n Pl)
  (ZL (Vk PassesOwn.never rfl (WD (pv 1)) (Vo 4 n)
   (ZL (Zj 3 n (Zc L O (Vm (pv 0) (pv 3) (Xe K (pv 4) ZK))))
   (ZR (Ye (QS xW wO wN PY (pv 2) (ZT (pv 3)))))))
  (ZR (Zh (pv 2))))),?_⟩
 exists YS;intro c b;let g:=Zv b (.lst []);let e:=ZZ (H:=H) (a:=c) (o:=.lst []);generalize upd H c (.lst [])=H1 at g e⊢;let lw:=Paired.length j;let DD:D≠c:=Zg x b;refine⟨_,Z,D,Z,⟨_,ZG.of (g _ _ x)⟩,Qm (K:=K) (a:=D) (xs:=us) (λi r d=>∃ J C:jf,∃ y:V,r=[some (.ref X.S),some (.ref D),some (.ref c),some y,C]/\ZE H d/\d c=some (.lst (iN ((W.take i).map (·.1))))) ⟨none,none,.non,Z,g,e⟩ (λi r d _ N=>by let⟨_,_,_,_,h,_⟩:=N;exact ZG.of (h _ _ x)) ?_ ?_⟩
 ·rintro i u r d U ⟨J,C,y,rfl,k,m⟩;let⟨p,v,t,fv,rfl,T⟩:=Paired.ixR j U;let⟨l,B,Y⟩:=rd p (zL v);let hi:i<W.length:=(zB.mp v).1;refine⟨_,Z,_,Z,_,Z,t,_,_,.int (p.1:Int),Z,Z,Zs.of (k _ _ T),Z,.mk (R.same k) B Y λH3 I=>?_⟩;let G:=I _ _ m;exists _,Z,.inl ⟨Z,_,ZG.of G⟩,_,Z,c,_,_,Z,Z,G,XX (by simp[iN];lia)
  exists none,_,.int (p.1:Int),Z,Uq (k.trans I) b;rw[ZZ,yR,v];simp[iN]
 ·rintro r d ⟨J,C,y,rfl,k,m⟩;rw[<-lw,sF] at m;exact⟨_,Z,q d c k b m⟩
inductive YD(jN jO:ai):Sp
 |mk{X:Zd}{b:ai}{c:je}{r:jp}{H:Hp}{Q:VK}{E:XK}:Zl jN jO H X.S X.d b X.lv X.ts X.av X.ho X.as X.kvs c->(∀ i,r=some i->i∈X.lv/\1<=X.ho i)->(∀ a,ZE H a->Q .non a)->YD jN jO [.ref X.S,XJ r] H Q E
theorem ZGP:ZC zEe zEe (ZY KR):=Zp
theorem Bc(F:Zi K "check_root" "check_root" KR f fd)(L:YT K mg jN jO)(l:ZB P w K mg jQ ZM 3 jN "check_held" zEg (Z4 jN jO)):ZI P w K mg jQ ZM 4 f fd zEe (YD jN jO):=by
 refine F.ok ZGP (λC H Q E h=>(by cases h;rfl)) (λm A g s H C Q E v h=>?_)
 let⟨R,e,q⟩:=h;rename_i X x y r
 intro D;exists _,ZR (Z1 (Pa (M6 (pv 1))) (ZR (Ye (Z0 (E:=E0) (pv 0) L.cS l v Z3 (ZT (Yr (ZT (pv 1))))))) Z5)
 cases r with
 | none=>exact⟨_,Z,_,Z,Zm (q H (ZE.refl H))⟩
 | some i=>
  let⟨k,p⟩:=e i Z;let⟨o,t⟩:=R.sh.self;refine⟨_,Z,_,Z,Z7 ⟨_,Z,X.S,o,_,Z,t,Z,_,Z,YS,λB z=>?_⟩⟩;let j:=Zv z (.lst [.int (i:Int)]);let a:=R.same j;let⟨b,c⟩:=a.sh.self;exact⟨X.S,B,[(i:Int)],Z,ZZ,⟨b,_,c,Z⟩,λn u=>by
   rw[zK.mp u];exact⟨X.d,x,X.ts.length,X.kvs,y,_,_,_,_,_,_,⟨a.sh,a.val i k,(a.tw i k).tw⟩,p⟩,q _ j⟩
structure WM(lv:jj)(ts:jk)(av:Nat->jj)(ho:Nat->Nat):Prop where
 wf:WF lv ts
 nd:lv.Nodup
 hb:NQ lv ts av ho
theorem Qc{a b:jm}(h:Up b)(s:a.Sublist b):Up a:=xL.sublist (s.map _) h
theorem Ht{d:jk}:∀{l:jj},(∀ b∈l,(gd d b).rows≠[])->Up (ZV d l)->l.Nodup
 | [],_,_=>vG
 | b::l,h,hp=>by
  let a:=hp;rw[Wl] at a;unfold Up PQ at a;rw[zF,xD] at a;refine yW.mpr ⟨λz=>?_,Ht (λc f=>h c (zO _ f)) a.2.1⟩;let⟨r,j,e⟩:=rC (h b zS);let g:r.1∈(gd d b).rows.map (·.1):=by rw[e];simp
  let i:r.1∈(ZV d l).map (·.1):=zP.mpr ⟨r,xT.mpr ⟨b,z,by rw[e];simp⟩,Z⟩
  have:=a.2.2 _ g _ i;rw[V9] at this;cases this
structure NM(X X':Zd)(r n:Nat)(up bs:jj)(T:jm):Prop where
 S:X'.S=X.S
 d:X'.d=X.d
 lv:X'.lv=X.lv
 len:X'.ts.length=X.ts.length
 fst:WM X'.lv X'.ts X'.av X'.ho
 old:∀ i,i∉n::up->gd X'.ts i=gd X.ts i
 at_:gd X'.ts n=YV X.ts bs
 hh:∀ i,(gd X'.ts i).h=(gd X.ts i).h
 sh:∀ i,i≠n->(gd X'.ts i).bs=(gd X.ts i).bs
 rows:(gd X'.ts r).rows=T
 gone:∀ b∈(gd X.ts n).bs,b∉bs->Tp X'.av X'.ho b
 tops:∀ b,Tp X.av X.ho b->b∉bs->Tp X'.av X'.ho b
section
variable{lv:jj}{ts:jk}{av:Nat->jj}{ho:Nat->Nat}{r n x:Nat}{up ps bs:jj}{A B:jm}
theorem Bi(G:∀ i∈lv,i<ts.length)(F:WM lv ts av ho)(d:r∈lv)(N:Tp av ho r)(z:Yq ts r (n::up) ps A B)(u:(gd ts n).h≠0)(c:∀ b∈bs,b∈lv/\(gd ts b).h+1=(gd ts n).h)(p:2<=bs.length)(s:bs.length<=4)(H:∀ b∈QP ts n bs,Tp av ho b)(U:Up (A++ZV ts bs++B)):
  over (YK ts bs)=some (Zr (YV ts bs))/\(YV ts bs).h=(gd ts n).h/\bs.Nodup/\∃ a,QX lv (ts.set n (YV ts bs)) up a/\O1 lv ts a r n up (YV ts bs) (A++ZV ts bs++B)/\WM lv a (Qo ts n bs av) (Qi ts n bs ho)/\Yq a r (n::up) ps A B/\(∀ b∈(gd ts n).bs,b∉bs->Tp (Qo ts n bs av) (Qi ts n bs ho) b)/\∀ b,Tp av ho b->b∉bs->Tp (Qo ts n bs av) (Qi ts n bs ho) b:=by
 let D:=(z.facts F.wf d Z).1;let m:∀ b∈bs,(gd ts b).rows≠[]:=λb h=>(F.wf b (c b h).1).ne;let g:Up (ZV ts bs):=Qc U ((xV A _).trans (xP _ B));let j:=Ht m g;let l:bs.getD 0 0∈bs:=by rw[zV,zQ ∅];exact xI _
 let f:(YV ts bs).h=(gd ts n).h:=(c _ l).2;let J:=HC (ts:=ts) (bs:=bs) (h:=(gd ts n).h-1) (λb h=>⟨m b h,by have:=(c b h).2;lia⟩) p s g
 let o:ZV ts bs≠[]:=λy=>by
  let⟨q,O,e,_⟩:=QN (m _ l);have:q∈ZV ts bs:=xT.mpr ⟨_,l,by rw[e];exact zS⟩
  rw[y] at this;cases this
 let k:∀ q∈ZV ts bs,q.fit:=λq E=>by
  let⟨b,v,w⟩:=xT.mp E;exact(F.wf b (c b v).1).inn q w
 let I:Yu lv ts n (YV ts bs):=⟨o,g,k,λy=>absurd y (by rw[f];exact u),λ_=>⟨p,s,λb h=>⟨(c b h).1,by rw[f];exact(c b h).2⟩,Z⟩⟩
 let⟨a,t,C⟩:=EJ G F.wf d F.hb.avk (z.rd F.wf d F.hb N Z) z f I U;let⟨K,L,M⟩:=ZNg F.hb D H (by rw[C.at_];rfl) C.sh
 exact⟨J,f,j,a,t,C,⟨C.wf,F.nd,K⟩,z.chd F.wf d C,L,M⟩
theorem Em(F:WM lv ts av ho)(f:x∈lv)(K:Tp av ho x):WM (lv.erase x) ts (Xl (gd ts x).bs x av) (Ve (Xz (gd ts x).bs ho) x)/\(∀ b∈(gd ts x).bs,Tp (Xl (gd ts x).bs x av) (Ve (Xz (gd ts x).bs ho) x) b/\b∈lv.erase x)/\∀ t,t≠x->Tp av ho t->Tp (Xl (gd ts x).bs x av) (Ve (Xz (gd ts x).bs ho) x) t:=by
 let e:∀{a:Nat},a∈lv.erase x ↔ a≠x/\a∈lv:=F.nd.mem_erase_iff;let k:∀ p∈lv,x∉(gd ts p).bs:=λp d y=>by
  have:=(F.hb p d x y).1;rw[K.1] at this;cases this
 let w:∀ i,i∉(gd ts x).bs->i≠x->Xl (gd ts x).bs x av i=av i/\Ve (Xz (gd ts x).bs ho) x i=ho i:=λi v I=>by
  unfold Xl Ve Xz;rw[aJ v,aJ I,aJ v];exact⟨Z,Z⟩
 let C:∀ p∈lv,∀ b∈(gd ts p).bs,b∈lv:=λp d b c=>by
  let D:(gd ts p).h≠0:=λy=>by rw[((F.wf p d).leaf y).1] at c;cases c
  exact(((F.wf p d).stem D).2.2.1 b c).1
 refine⟨⟨λi u=>?_,F.nd.erase _,λp d b c=>?_⟩,λb c=>⟨?_,?_⟩,λt n y=>?_⟩
 ·let g:=F.wf i (e.mp u).2;exists g.ne,g.up,g.inn,g.leaf;intro z;let⟨E,G,s,H⟩:=g.stem z;exact⟨E,G,λb c=>⟨e.mpr ⟨λy=>k i (e.mp u).2 (y ▸ c),(s b c).1⟩,(s b c).2⟩,H⟩
 ·let⟨j,l⟩:=F.hb p (e.mp d).2 b c;let⟨m,o⟩:=w b (λy=>by
   have:=(F.hb x f b y).1;rw[j] at this;cases this;exact(e.mp d).1 Z) (λy=>k p (e.mp d).2 (y ▸ c))
  rw[m,o];exact⟨j,l⟩
 ·let J:b≠x:=λy=>k x f (y ▸ c);let⟨j,l⟩:=F.hb x f b c;unfold Tp Xl Ve Xz;rw[aK c,aJ J,aK c,j,l];exact⟨by simp,Z⟩
 ·exact e.mpr ⟨λy=>k x f (y ▸ c),C x f b c⟩
 ·let⟨m,o⟩:=w t (λq=>by
   have:=(F.hb x f t q).1;rw[y.1] at this;cases this) n
  exact⟨m.trans y.1,o.trans y.2⟩
end
inductive VR(ts:jk):Nat->jq->jj->jm->jm->Prop
 | leaf {x pl:Nat}:(gd ts x).h=0->VR ts x [(x,pl)] [x] [] []
 | stem {sd:Bool} {x c l:Nat} {W:jq} {N:jj} {L R:jm}:(gd ts x).h≠0->(gd ts x).bs=(if sd=true then [l,c] else [c,l])->((gd ts c).h≠0->(gd ts l).bs.length<=3)->VR ts c W N L R->VR ts x ((x,if sd=true then 1 else 0)::W) (x::l::N) (if sd=true then (gd ts l).rows++L else L) (if sd=true then R else R++(gd ts l).rows)
theorem VR.rows{g:jj}{b:jk}(p:WF g b){x:Nat}{W:jq}{N:jj}{L R:jm}(h:VR b x W N L R):x∈g->(gd b x).rows=L++(gd b (W.getLastD (0,0)).1).rows++R:=by
 induction h with
 | leaf k=>exact λ_=>by simp
 | stem k j f h s=>
  intro r;rename_i i x c l W N L R
  let⟨_,_,n,d⟩:=(p x r).stem k;let o:c∈g:=(n c (by rw[j];cases i <;> simp)).1
  let e:=s o;let d:(gd b x).rows=ZV b (gd b x).bs:=d;let t:W≠[]:=by cases h <;> simp
  let m:(((x,if i=true then 1 else 0)::W:jq).getLastD (0,0))=W.getLastD (0,0):=by
   cases W with
   | nil=>exact absurd Z t
   | cons a l=>simp[List.getLastD]
  rw[d,j,m];generalize (W.getLastD (0,0)).1=q at e⊢;cases i
  ·show ZV b [c,l]=L++(gd b q).rows++(R++(gd b l).rows);rw[Wl,Wl,e];simp[ZV]
  ·show ZV b [l,c]=((gd b l).rows++L)++(gd b q).rows++R;rw[Wl,Wl,e];simp[ZV]
theorem VR.like{j a:jk}{x:Nat}{W:jq}{N:jj}{L R:jm}(h:VR j x W N L R):(∀ b∈N,gd a b=gd j b)->VR a x W N L R:=by
 induction h with
 | leaf d=>
  intro e;exact .leaf (by rw[e _ zS];exact d)
 | stem d k f h p=>
  intro e;rename_i q x c l W N L R
  let i:=e x zS;let g:=e l (zO _ zS);let o:c∈N:=by cases h <;> exact zS
  let m:=e c (zO _ (zO _ o));have:=VR.stem (ts:=a) (sd:=q) (x:=x) (c:=c) (l:=l) (by rw[i];exact d) (by rw[i];exact k) (by rw[m,g];exact f) (p λb n=>e b (zO _ (zO _ n)))
  rw[g] at this;exact this
theorem VR.wn{d:jk}{x:Nat}{W:jq}{N:jj}{L R:jm}(h:VR d x W N L R):∀ p∈W,p.1∈N:=by
 induction h with
 | leaf b=>
  intro p a;rw[zK.mp a];exact zS
 | stem b e f h c=>
  intro p a;rcases zU.mp a with y | y
  ·rw[y];exact zS
  ·exact zO _ (zO _ (c p y))
theorem VR.hd{a:jk}{x:Nat}{W:jq}{N:jj}{L R:jm}(h:VR a x W N L R):x∈N/\W.map (·.1)≠[]:=by
 cases h
 ·exact⟨zS,by simp⟩
 ·exact⟨zS,by simp⟩
section
variable{jN jO:ai}{H H':Hp}{X:Zd}{lk:ai}{ls:je}
theorem Zl.but(R:Zl jN jO H X.S X.d lk X.lv X.ts X.av X.ho X.as X.kvs ls){c:ai}{o:je}(s:ZH c H H')(a:H c=some (.lst o))(h:Z2 X lk c):Zl jN jO H' X.S X.d lk X.lv X.ts X.av X.ho X.as X.kvs ls:=by
 let t:=s.tups a;let⟨⟨j,f⟩,g,k⟩:=R.sh;refine⟨⟨⟨j,s _ _ f (ZW f a)⟩,s _ _ g (ZW g a),s _ _ k h.2.2.1.symm⟩,R.lt,R.keys,R.val,R.len,λi b=>?_,R.own,R.two⟩;let⟨p,l⟩:=(R.tw i b).tw.self;let⟨_,m,n⟩:=h.2.2.2 i b;exact(R.tw i b).frame t (λo e=>s _ _ e (ZW l a)) (λo e=>s _ _ e n.symm) (λo e=>s _ _ e m.symm)
end
inductive Wo(jN jO:ai):Sp
 |mk{X:Zd}{i l:ai}{j:je}{r n:Nat}{e k c:jj}{A B:jm}{H:Hp}{Q:VK}{E:XK}:Zl jN jO H X.S X.d i X.lv X.ts X.av X.ho X.as X.kvs j->WM X.lv X.ts X.av X.ho->r∈X.lv->Tp X.av X.ho r->Yq X.ts r (n::e) k A B->e.length<=800->(gd X.ts n).h≠0->H l=some (.lst (iN c)) ->
  (∀ b∈c,b∈X.lv/\(gd X.ts b).h+1=(gd X.ts n).h)->2<=c.length->c.length<=4->(∀ b∈QP X.ts n c,Tp X.av X.ho b)->Up (A++ZV X.ts c++B) ->
  (∀(g:Hp)(a:Zd),Go i H g X a->Zl jN jO g a.S a.d i a.lv a.ts a.av a.ho a.as a.kvs j->NM X a r n e c (A++ZV X.ts c++B)->Tp a.av a.ho r->Yq a.ts r (n::e) k A B->Q .non g)->Wo jN jO [.ref X.S,.int (n:Nat),.ref l] H Q E
theorem ZPN(D:ZB P w K mg jQ ZM 11 jN "change_stem" zEn (Xx jN jO)):ZB P w K mg jQ ZM 11 jN "change_stem" zEn (Wo jN jO):=by
 let⟨g,k,M,x,b⟩:=D.ex;refine⟨g,k,M,x.imp λvs H Q E h=>?_,b⟩;let⟨R,F,c,p,z,u8,N,O,m,V,s,o,U,q⟩:=h;rename_i X lk l ls r n up ps a A B
 let⟨W,th,i,j,J,C,v,z',Y,t⟩:=Bi R.lt F c p z N m V s o U;refine .mk (T:=A++ZV X.ts a++B) ⟨R,F.wf,c,F.hb.avk⟩ z (z.rd F.wf c F.hb p Z) u8 O (λb h=>(m b h).1) s W th i (λb h=>⟨by rw[(o b h).2];exact zY _,by rw[(o b h).1];exact zE _⟩) J C λG e L I u=>?_
 let rb:r∉a:=λy=>by
  have:=(m r y).2;have:=(z.facts F.wf c Z).2.2.2
  lia
 exact q G ⟨X.S,X.d,X.lv,j,Qo X.ts n a X.av,Qi X.ts n a X.ho,e,X.kvs⟩ (Gp L u) I ⟨Z,Z,Z,C.len,v,C.old,C.at_,C.hh,C.sh,C.rows,Y,t⟩ (t r p rb) z'
inductive N8(H:Hp)(p:Nat×Nat)(bs:jj)(l:ai):V->Prop
 |mk{t fv:ai}{kd:Str}:H t=some (.tup [.int (p.1:Int),.int (p.2:Int),.ref fv])->H fv=some (.tup [.str kd,.ref l])->H l=some (.lst (iN bs))->N8 H p bs l (.ref t)
inductive Yo:Sp
 |mk{p:Nat×Nat}{a:jj}{l:ai}{u:V}{H:Hp}{Q:VK}{E:XK}:N8 H p a l u->Q (.ref l) H->Yo [u] H Q E
theorem ZPP:ZC zEv zEv (ZY Ks):=Zp
theorem Bt(F:Zi K "branches_of" "branches_of" Ks f fd):ZI P w K mg jQ ZM 1 f fd zEv Yo:=by
 refine F.ok ZPP (λe H Q E h=>(by cases h;rfl)) (λb A a s H e Q E j h=>?_)
 let⟨⟨c,d,i⟩,q⟩:=h;intro g;exists _,ZR (Zh (Xe K (Xe K (pv 0) ZK) ZK));exact⟨_,Z,_,_,_,_,Z,Z,Zs.of c,Z,_,_,_,_,Z,Z,Zs.of d,Z,q⟩
inductive UI:Sp
 |mk{p:Nat×Nat}{a:jj}{l:ai}{u:V}{b:Nat}{H:Hp}{Q:VK}{E:XK}:N8 H p a l u->a[if 0<p.2 then p.2-1 else 1]? = some b->Q (.int (b:Nat)) H->UI [u] H Q E
theorem ZRM:ZC zEv zEv (ZY Kw):=Zp
theorem ZQi(F:Zi K "neighbour" "neighbour" Kw f fd)(i:ZA P w K mg jQ 1 "branches_of" zEv Yo):ZI P w K mg jQ ZM 2 f fd zEv UI:=by
 refine F.ok ZRM (λr H Q E h=>(by cases h;rfl)) (λm A c s H r Q E o h=>?_)
 let⟨g,n,q⟩:=h;rename_i p k l u b
 let⟨d,v,e⟩:=id g;intro t;exists _,ZR (Zh (Z8 K (Zc i o (ZT (pv 0))) (MO (YX Uo (Xe K (pv 0) ZK) ZK (YG _)) (Zx VE (Xe K (pv 0) ZK) ZK) ZK)));let a:(iN k)[if 0<p.2 then p.2-1 else 1]? = some (.int (b:Nat)):=by unfold iN;rw[zG,n];rfl
 refine⟨_,Z,.mk g ⟨_,Z,_,_,_,_,Z,Z,Zs.of d,Z,_,_,Z,Z,_,Z,?_⟩⟩;by_cases z:0<p.2
 ·rw[aI (show ((p.2:Nat):Int) > 0 by lia)]
  rw[aK z] at a;refine Z7 ⟨_,Z,_,_,_,_,Z,Z,Zs.of d,Z,_,_,Z,Z,?_⟩;exact .inl ⟨l,_,((p.2:Nat):Int)-1,_,Z,Z,ZG.of e,by rw[show ((p.2:Nat):Int)-1=((p.2-1:Nat):Int) by lia];exact XH a,q⟩
 ·rw[aH (show ¬ ((p.2:Nat):Int) > 0 by lia)]
  rw[aJ z] at a;exact Zm (.inl ⟨l,_,_,_,rfl,rfl,ZG.of e,XH (j:=1) a,q⟩)
inductive UM(jN jO:ai):Sp
 |mk{X:Zd}{e:ai}{g:je}{a b:Nat}{H:Hp}{Q:VK}{E:XK}:Zl jN jO H X.S X.d e X.lv X.ts X.av X.ho X.as X.kvs g->WF X.lv X.ts->a∈X.lv->b∈X.lv->(∀ c,ZE H c->Q (.bl ((Zr (gd X.ts a)).lo.lt (Zr (gd X.ts b)).lo)) c)->UM jN jO [.ref X.S,.int (a:Nat),.int (b:Nat)] H Q E
theorem ZP3:ZC zEy zEy (ZY JT):=Zp
theorem ZPD(F:Zi K "stands_ahead" "stands_ahead" JT f fd)(T:YL mg)(L:YT K mg jN jO)(o:ZB P w K mg jQ ZM 2 jN "label" zEa (Xn jN jO λO _ _=>O))(D:ZA P w K mg jQ 7 "ahead" zE4 Yw):ZI P w K mg jQ ZM 8 f fd zEy (UM jN jO):=by
 refine F.ok ZP3 (λU H Q E h=>(by cases h;rfl)) (λG A n s H U Q E t h=>?_)
 let⟨R,u,e,g,q⟩:=h;rename_i X x y a b
 let c:=t.mono (show 2<=7 by lia)
 let⟨Y,z⟩:=T.least;intro W;exists _,ZR (Zh (Zc D t (Zq (Z8 K (Z0 (E:=E0) (pv 0) L.cS o c Z3 (ZT (pv 1))) (WL (v:=.int 1) rfl z ⟨_,rfl⟩)) (Z8 K (Z0 (E:=E0) (pv 0) L.cS o c Z3 (ZT (pv 2))) (WL (v:=.int 1) rfl z ⟨_,rfl⟩)))));let⟨p,r⟩:=R.sh.self;let⟨M,B,wa,i,l,I,_⟩:=(R.tw a e).tag;let⟨N,C,wb,k,m,J,_⟩:=(R.tw b g).tag;exists _,Z,X.S,p,_,Z,r,Z,_,Z,X.S,X.d,x,X.ts.length,X.kvs,y,(a:Int),_,_,_,_,_,_,Z,⟨R.sh,R.val a e,(R.tw a e).tw⟩;let i:(X.as.getD a .d).tg=M:=V.ref.inj i;let k:(X.as.getD b .d).tg=N:=V.ref.inj k;refine .inr (.inl ⟨(X.as.getD a .d).tg,_,1,B,rfl,rfl,Zs.of (by rw[i];exact l),XH (j:=1) rfl,?_⟩)
 exists _,Z,X.S,p,_,Z,r,Z,_,Z,X.S,X.d,x,X.ts.length,X.kvs,y,(b:Int),_,_,_,_,_,_,Z,⟨R.sh,R.val b g,(R.tw b g).tw⟩;exact .inr (.inl ⟨(X.as.getD b .d).tg,_,1,C,rfl,rfl,Zs.of (by rw[k];exact m),XH (j:=1) rfl,B,C,_,_,rfl,I,J,(N0 (u a e)).1,(N0 (u b g)).1,q⟩)
inductive Xj(jN jO:ai):Sp
 |mk{X:Zd}{lk:ai}{ls:je}{r g l:Nat}{up ps:jj}{A B:jm}{sd:Bool}{H:Hp}{Q:VK}{E:XK}:Zl jN jO H X.S X.d lk X.lv X.ts X.av X.ho X.as X.kvs ls->WM X.lv X.ts X.av X.ho->r∈X.lv->Tp X.av X.ho r->Yq X.ts r (g::up) ps A B->up.length<=800->(gd X.ts g).h≠0->l∈X.lv->Tp X.av X.ho l->(gd X.ts l).h+1=(gd X.ts g).h->(gd X.ts g).bs.length<=3->ls.length<=380000 ->
  Up (A++(if sd=true then (gd X.ts g).rows++(gd X.ts l).rows else (gd X.ts l).rows++(gd X.ts g).rows)++B) ->
  (∀(H':Hp)(X':Zd)(ls':je),Go lk H H' X X'->Zl jN jO H' X'.S X'.d lk X'.lv X'.ts X'.av X'.ho X'.as X'.kvs ls'->NM X X' r g up (if sd=true then (gd X.ts g).bs++[l] else l::(gd X.ts g).bs) (A++(if sd=true then (gd X.ts g).rows++(gd X.ts l).rows else (gd X.ts l).rows++(gd X.ts g).rows)++B)->Tp X'.av X'.ho r->Yq X'.ts r (g::up) ps A B->ls'.length<=ls.length+1->Q .non H')->Xj jN jO [.ref X.S,.int (g:Nat),.int (l:Nat)] H Q E
abbrev FC:jn:=["shelf","stem","number","branches","at"]
theorem QT:ZC FC zEj (ZY NY):=Zp
theorem NS{a b:ZP}(h:a.rows≠[])(i:b.rows≠[])(U:Up (a.rows++b.rows)):(Zr a).lo.lt (Zr b).lo=true:=by
 let⟨x,j,c,d⟩:=QN h;let⟨y,k,e,g⟩:=QN i;rw[d,g];unfold Up PQ at U;rw[zF,xD] at U;exact U.2.2 x.1 (by rw[c];simp) y.1 (by rw[e];simp)
theorem ZNm{cdv:ah}{A:aw}{outer:jt}{s:aj}{Hs:Hp}{E:XK}(T:YL mg)(L:YT K mg jN jO)(DC:ZB P w K mg jQ ZM 11 jN "change_stem" zEn (Wo jN jO))(hr:ZU 11 (A.deeper (envOfC "adopt" (ZY NY) s.heap.objs.size f cdv))):
  ∃ t,XV (Xy ZM P w K mg jQ FC "adopt" (ZY NY) f cdv A outer s Hs E).nox ((Xg NY).drop 2) t/\∀(x:YH)(H:Hp)(X:Zd)(k a:ai)(J:je)(r g l i:Nat)(u N:jj)(A B:jm),
   Zl jN jO H X.S X.d k X.lv X.ts X.av X.ho X.as X.kvs J->WM X.lv X.ts X.av X.ho->r∈X.lv->Tp X.av X.ho r->Yq X.ts r (g::u) N A B->u.length<=800->(gd X.ts g).h≠0->l∈X.lv->Tp X.av X.ho l->(gd X.ts l).h+1=(gd X.ts g).h->(gd X.ts g).bs.length<=3->H a=some (.lst (iN (gd X.ts g).bs))->Z2 X k a->i<=(gd X.ts g).bs.length->Up (A++ZV X.ts ((gd X.ts g).bs.take i++l::(gd X.ts g).bs.drop i)++B) ->
   (∀(D:Hp)(j:Zd),(∀ c o,c≠a->Z2 X k c->H c=some o->D c=some o)->(∀ c o,Z2 X k c->H c=some o->Z2 j k c)->Zl jN jO D j.S j.d k j.lv j.ts j.av j.ho j.as j.kvs J->NM X j r g u ((gd X.ts g).bs.take i++l::(gd X.ts g).bs.drop i) (A++ZV X.ts ((gd X.ts g).bs.take i++l::(gd X.ts g).bs.drop i)++B)->Tp j.av j.ho r->Yq j.ts r (g::u) N A B->x.nx [some (.ref X.S),some (.int (g:Int)),some (.int (l:Int)),some (.ref a),some (.int (i:Int))] D) ->
   t x [some (.ref X.S),some (.int (g:Int)),some (.int (l:Int)),some (.ref a),some (.int (i:Int))] H:=by
 refine⟨_,ZL (Ye (QS xW PySem.F.slot_list_insert PySem.F.type_list_insert AR (pv 3) (Zq (pv 4) (pv 2))))
  (ZR (Ye (Z0 (E:=E0) (pv 0) L.cS DC hr Z3 (Zq (pv 1) (pv 3))))),λx H X k a J r g l i u N A B R F p tp z u8 O hl tl hh b3 I W hi U q=>?_⟩
 let hg:=(z.facts F.wf p Z).1;let⟨b2,_,bb,er⟩:=(F.wf g hg).stem O;let lI:(iN (gd X.ts g).bs).length=(gd X.ts g).bs.length:=zX _;exists _,Z,.inl ⟨Z,_,ZG.of I⟩,_,Z,_,Z,a,iN (gd X.ts g).bs,i,.int (l:Nat),Z,Z,I,∅,by rw[lI];exact wR b3 (yX Z)
 let eI:(iN (gd X.ts g).bs).take i++V.int (l:Nat)::(iN (gd X.ts g).bs).drop i=iN ((gd X.ts g).bs.take i++l::(gd X.ts g).bs.drop i):=by unfold iN;rw[zF,yT,uP,uQ]
 rw[eI];let v:ZH a H (upd H a (.lst (iN ((gd X.ts g).bs.take i++l::(gd X.ts g).bs.drop i)))):=(ZH.refl a H).upd;let G:upd H a (.lst (iN ((gd X.ts g).bs.take i++l::(gd X.ts g).bs.drop i))) a=some (.lst (iN ((gd X.ts g).bs.take i++l::(gd X.ts g).bs.drop i))):=ZZ;generalize upd H a (.lst (iN ((gd X.ts g).bs.take i++l::(gd X.ts g).bs.drop i)))=H2 at v G⊢;let R2:=R.but v I W;let⟨dS,hS⟩:=R2.sh.self;let Q:∀ b,b∈(gd X.ts g).bs.take i++l::(gd X.ts g).bs.drop i->b=l\/b∈(gd X.ts g).bs:=λb m=>by
  rcases zD.mp m with y | y
  ·exact .inr (List.mem_of_mem_take y)
  ·exact(zU.mp y).imp_right uC
 let ll:((gd X.ts g).bs.take i++l::(gd X.ts g).bs.drop i).length=(gd X.ts g).bs.length+1:=by rw[zN,zR,xU,yE];lia
 refine⟨_,Z,X.S,dS,_,Z,hS,Z,_,Z,_,Z,.mk R2 F p tp z u8 O G (λb m=>?_) ∅ ∅ (λb m=>?_) U λH3 X3 C R3 Y t3 z3=>?_⟩
 ·rcases Q b m with y | y
  ·rw[y];exact⟨hl,hh⟩
  ·exact bb b y
 ·let⟨y1,y2⟩:=yN.mp m;rcases Q b y1 with y | y
  ·rw[y];exact tl
  ·exact absurd y (of_decide_eq_true y2)
 ·exact q H3 X3 (λc o n M e=>C.fr c o M (v _ _ e n)) (λc o M e=>by
   by_cases y:c=a
   ·rw[y];exact C.off a _ W G
   ·exact C.off c o M (v _ _ e y)) R3 Y t3 z3
theorem ZKh(F0:Zi K "adopt" "adopt" NY f fd)(T:YL mg)(L:YT K mg jN jO)(DL:ZB P w K mg jQ ZM 2 jN "look" zEa (Yx jN jO))(DA:ZA P w K mg jQ 8 "stands_ahead" zEy (UM jN jO))(DC:ZB P w K mg jQ ZM 11 jN "change_stem" zEn (Wo jN jO)):ZI P w K mg jQ ZM 12 f fd zEj (Xj jN jO):=by
 refine F0.ok QT (λvs H Q E h=>(by cases h;rfl)) (λM A m s H vs Q E Y h=>?_)
 let⟨R,F,u,tp,z,u8,V,W,tl,hh,b3,a5,U,q⟩:=h;rename_i X v ls r g l up ps a b G
 let nd:=QT.nd;let a0:=Y.mono (show 2<=11 by lia)
 let a1:=Y.mono (show 8<=11 by lia)
 let⟨tt,ht,hk⟩:=ZNm (jN:=jN) (jO:=jO) (P:=P) (w:=w) (K:=K) (jQ:=jQ) (f:=f) (cdv:=M) (A:=A) (outer:=m) (s:=s) (Hs:=H) (E:=E) T L DC Y;intro Xc;refine⟨_,ZL (Zj 3 nd (Xe K (Z0 (E:=E0) (pv 0) L.cS DL a0 Z3 (ZT (pv 1))) ZK))
  (ZL (Zj 4 nd (MO (Y5 (Zc DA a1 (Vm (pv 0) (pv 2) (pv 1)))) ZK (YC Xm rfl T.len Xa (ZT (pv 3)))))
  ht),?_⟩
 let⟨dS,hS⟩:=R.sh.self;let C:=(z.facts F.wf u Z).1;exists _,Z,X.S,dS,_,Z,hS,Z,_,Z,X,v,X.ts.length,ls,g,Z,R.q,C,by lia
 intro I a4 D a6 N R1 a2 x t _ w1;let w1:=w1 V;subst w1;let n:Zl jN jO I X.S X.d v X.lv X.ts X.av X.ho X.as X.kvs (ls++[.int (g:Int)]):=⟨R1.sh,R.lt,R.keys,R.val,R.len,R1.tw,R.own,R.two⟩;exists a4,_,_,_,Z,Z,Zs.of a2,Z;let o1:Z2 X v D:=R.new x;let er:(gd X.ts g).rows=ZV X.ts (gd X.ts g).bs:=((F.wf g C).stem V).2.2.2;let G1:Go v H I X X:=.looks N;let p:∀(i:Nat)(k:Hp),ZE I k->i<=(gd X.ts g).bs.length->(gd X.ts g).bs.take i++l::(gd X.ts g).bs.drop i=(if G=true then (gd X.ts g).bs++[l] else l::(gd X.ts g).bs)->tt { nx:=λ_ H'=>Q .non H',rt:=Q } [some (.ref X.S),some (.int (g:Int)),some (.int (l:Int)),some (.ref D),some (.int (i:Int))] k:=λi k j hi ei=>by
  let eT:a++ZV X.ts ((gd X.ts g).bs.take i++l::(gd X.ts g).bs.drop i)++b=a++(if G=true then (gd X.ts g).rows++(gd X.ts l).rows else (gd X.ts l).rows++(gd X.ts g).rows)++b:=by
   rw[ei];cases G
   ·show a++ZV X.ts (l::(gd X.ts g).bs)++b=a++((gd X.ts l).rows++(gd X.ts g).rows)++b;rw[Wl,<-er]
   ·show a++ZV X.ts ((gd X.ts g).bs++[l])++b=a++((gd X.ts g).rows++(gd X.ts l).rows)++b;rw[Pb,Wl,<-er];simp[ZV]
  refine hk _ k X v D _ r g l i up ps a b (n.same j) F u tp z u8 V W tl hh b3 (j _ _ t) o1 hi (by rw[eT];exact U) λH3 X3 O a3 R3 B t3 z3=>?_
  rw[eT,ei] at B;exact q H3 X3 _ ⟨B.S,B.d,λc o y e=>O c o (Zg e x) y (j _ _ (G1.fr c o y e)),λc o y e=>a3 c o y (j _ _ (G1.fr c o y e))⟩ R3 B t3 z3 (by simp)
 refine⟨_,Z,_,Z,_,Z,.mk n F.wf W C λk j=>?_⟩;let ng:=(F.wf g C).ne;let nl:=(F.wf l W).ne;cases G
 ·let J:Up ((gd X.ts l).rows++(gd X.ts g).rows):=Qc U ((xV a _).trans (xP _ b));rw[NS nl ng J];exact⟨_,Z,Z7 (p 0 k j (zE _) rfl)⟩
 ·let J:Up ((gd X.ts g).rows++(gd X.ts l).rows):=Qc U ((xV a _).trans (xP _ b));rw[Pm _ _ (NS ng nl J)];let lI:(iN (gd X.ts g).bs).length=(gd X.ts g).bs.length:=zX _;refine⟨_,Z,Zm ⟨_,Z,D,_,Z,.inl (ZG.of (j _ _ t)),?_⟩⟩;rw[lI];exact p _ k j (zY _) (by rw[sF,List.drop_length];rfl)
inductive Xh(X:Zd)(e:ai)(H:Hp)(c:jk)(p:Nat×Nat)(u:V):Prop
 |mk(t a:_)(_:u=.ref t)(_:H t=some (.tup [.int (p.1:Int),.int (p.2:Int),a]))(_:(gd c p.1).h≠0->∃ b l d,a=.ref b/\H b=some (.tup [.str d,.ref l])/\H l=some (.lst (iN (gd c p.1).bs))/\Z2 X e l)
theorem Xh.go{X c:Zd}{b:ai}{H a:Hp}{f:jk}{p:Nat×Nat}{u:V}(h:Xh X b H f p u)(G:Go b H a X c)(m:Z6 H a):Xh c b a f p u:=by
 let⟨t,i,e,j,k⟩:=h;exists t,i,e,m _ _ j;intro z;let⟨r,l,q,g,n,d,o⟩:=k z;exact⟨r,l,q,g,m _ _ n,G.fr _ _ o d,G.off _ _ o d⟩
theorem Xh.sp{X:Zd}{b:ai}{H:Hp}{a:jk}{p:Nat×Nat}{u:V}(h:Xh X b H a p u)(z:(gd a p.1).h≠0):∃ l,N8 H p (gd a p.1).bs l u/\Z2 X b l:=by
 let⟨t,g,rfl,c,d⟩:=h;let⟨j,l,i,rfl,e,f,o⟩:=d z;exact⟨l,.mk c e f,o⟩
theorem BC{a:jj}{b:Nat}{c:Nat->Nat}(h:b∉a):Mm (Xz a c) b=Xz (a++[b]) c:=by
 funext i
 unfold Mm Xz;by_cases z:i=b
 ·subst z;rw[aK rfl,aJ h,aK (by simp)]
 ·rw[aJ z];by_cases y:i∈a
  ·rw[aK y,aK (by simp[y])]
  ·rw[aJ y,aJ (by simp[y,z])]
theorem ZNu{l:jj}{i b:Nat}(a:l.Nodup)(e:l[i]? = some b):l.take (i+1)=l.take i++[b]/\b∉l.take i:=by
 exists by rw[yR,e];rfl
 intro z;let d:l=l.take i++b::l.drop (i+1):=by
  let⟨c,e⟩:=zB.mp e;rw[<-e,<-wZ c,xA]
 rw[d,xR] at a;exact a.2.2 b z b (by simp) Z
theorem Da(u:V)(a:je):QM (u::a) (some 1) none=a:=by
 unfold QM;rw[show (some (1:Int))=some ((1:Nat):Int) from rfl,HT.sIx_nat,HT.sIx_none,zR,uN ∅]
 simp
theorem IA{m:ai}{H h:Hp}{X:Zd}{f:Nat->jj}{g:Nat->Nat}{a:List (Za×V)}{x:Nat}(k:∀ c o,c≠X.d->(∀ b∈X.lv,c≠(X.as.getD b .d).x/\c≠(X.as.getD b .d).ab)->H c=some o->h c=some o):Go m H h X ⟨X.S,X.d,X.lv.erase x,X.ts,f,g,X.as,a⟩:=
 ⟨rfl,rfl,λc o n e=>k c o n.2.1 (λb j=>⟨(n.2.2.2 b j).1,(n.2.2.2 b j).2.1⟩) e,λc o n e=>⟨n.1,n.2.1,n.2.2.1,λi l=>n.2.2.2 i (List.mem_of_mem_erase l)⟩⟩
abbrev Ic:jn:=["shelf","stem","heir","steps","left","branch","owner"]
theorem Wd:ZC Ic zEf (ZY PZ):=Zp
inductive Eu(jN jO:ai)(X:Zd)(lk:ai)(ls:je)(bs:jj)(H:Hp)(v0 v1 v2 v3 v4:jf):Nat->L2.St->Hp->Prop
 |mk{j:Nat}{x5:jf}{H2:Hp}:(∀ c o,(∀ b∈X.lv,c≠(X.as.getD b .d).x)->H c=some o->H2 c=some o)->Zl jN jO H2 X.S X.d lk X.lv X.ts X.av (Xz (bs.take j) X.ho) X.as X.kvs ls->Eu jN jO X lk ls bs H v0 v1 v2 v3 v4 j [v0,v1,v2,v3,v4,x5,none] H2
theorem Gy{cdv:ah}{A:aw}{outer:jt}{s:aj}{Hs:Hp}{E:XK}{tt:TS}(L:YT K mg jN jO)(DB:ZA P w K mg jQ 1 "branches_of" zEv Yo)(DH:ZB P w K mg jQ ZM 2 jN "hold" zEa (XY jN jO))(DG:ZB P w K mg jQ ZM 5 jN "let_go" zEa (Y1 jN jO))(W:ZU 5 (A.deeper (envOfC "hand_down" (ZY PZ) s.heap.objs.size f cdv)))(ht:XV (Xy ZM P w K mg jQ Ic "hand_down" (ZY PZ) f cdv A outer s Hs E).nox ((Xg PZ).drop 4) tt):
  ∃ t,XV (Xy ZM P w K mg jQ Ic "hand_down" (ZY PZ) f cdv A outer s Hs E).nox ((Xg PZ).drop 2) t/\∀(N:YH)(H:Hp)(X:Zd)(z D l:ai)(M J:je)(x pl:Nat)(u v1 v2 v4:V),
   Zl jN jO H X.S X.d z X.lv X.ts X.av X.ho X.as X.kvs M->WM X.lv X.ts X.av X.ho->x∈X.lv->Tp X.av X.ho x->(gd X.ts x).h≠0->H D=some (.lst J)->J[0]? = some u->N8 H (x,pl) (gd X.ts x).bs l u->Z2 X z D->Z2 X z l ->
   (∀(O:Hp)(m:List (Za×V)),Go z H O X ⟨X.S,X.d,X.lv.erase x,X.ts,Xl (gd X.ts x).bs x X.av,Ve (Xz (gd X.ts x).bs X.ho) x,X.as,m⟩->Zl jN jO O X.S X.d z (X.lv.erase x) X.ts (Xl (gd X.ts x).bs x X.av) (Ve (Xz (gd X.ts x).bs X.ho) x) X.as m M->∀ x5:jf,tt N [some (.ref X.S),some v1,some v2,some (.ref D),some v4,x5,none] O) ->
   t N [some (.ref X.S),some v1,some v2,some (.ref D),some v4,none,none] H:=by
 let nd:=Wd.nd;let Y:=W.mono (show 1<=5 by lia)
 let a0:=W.mono (show 2<=5 by lia)
 refine⟨_,ZL (Vk PassesOwn.never rfl (WD (Zc DB Y (ZT (Z8 K (pv 3) ZK)))) (Vo 5 nd)
   (ZR (Ye (Z0 (E:=E0) (pv 0) L.cS DH a0 Z3 (ZT (pv 5))))))
  (ZL (Ye (Z0 (E:=E0) (pv 0) L.cS DG W Z3 (ZT (Xe K (Z8 K (pv 3) ZK) ZK)))) ht),
  λN H X z D l M J x pl u v1 v2 v4 R F G tx T hD hu sp oD ol q=>?_⟩
 let⟨h1,h2,h3⟩:=id sp;let bl:∀ b∈(gd X.ts x).bs,b∈X.lv:=λb g=>(((F.wf x G).stem T).2.2.1 b g).1;let B:=OC F.wf G T;refine⟨_,Z,.inl ⟨D,J,0,_,Z,Z,ZG.of hD,XH (j:=0) hu,.mk sp ⟨l,Z,⟨_,ZG.of h3⟩,Qm (K:=K) (a:=l) (xs:=iN (gd X.ts x).bs) (Eu jN jO X z M (gd X.ts x).bs H _ _ _ _ _) (.mk (λc o _ e=>e) (by rw[show (gd X.ts x).bs.take 0=[] from rfl,show Xz [] X.ho=X.ho from funext λi=>aJ (by simp)];exact R)) ?_ ?_ ?_⟩⟩⟩
 ·rintro j _ H2 _ ⟨k,_⟩;exact ZG.of (k _ _ (λb g=>(ol.2.2.2 b g).1) h3)
 ·rintro j y _ H2 hy ⟨k,R2⟩;let⟨b,C,rfl⟩:=MR hy;let⟨et,nb⟩:=ZNu B C;let⟨p,v⟩:=R2.sh.self;let g:=bl b (zL C);exact⟨_,Z,X.S,p,_,Z,v,Z,_,Z,.mk R2 g λH3 r Q=>.mk (λc o n e=>r c o (n b g) (k c o n e)) (by rw[et,<-BC nb];exact Q)⟩
 ·rintro _ H2 ⟨k,R2⟩;rename_i x5
  rw[show (iN (gd X.ts x).bs).length=(gd X.ts x).bs.length from zX _,yV (zY _)] at R2;let⟨p,v⟩:=R2.sh.self;let U:=k _ _ (λb g=>(oD.2.2.2 b g).1) hD;let a1:=k _ _ (λb g=>by
   let⟨dx,e⟩:=(R.tw b g).tw.self;exact ZW h1 e) h1
  let xb:x∉(gd X.ts x).bs:=λy=>by
   have:=(F.hb x G x y).1;rw[tx.1] at this;cases this
  refine⟨_,Z,X.S,p,_,Z,v,Z,_,Z,.inl ⟨D,J,0,_,Z,Z,ZG.of U,XH (j:=0) hu,_,_,_,_,Z,Z,Zs.of a1,Z,.mk R2 F.nd G tx.1 (by rw[show Xz (gd X.ts x).bs X.ho x=X.ho x from aJ xb];exact tx.2) (λy=>absurd y T) B (λb g=>?_) λH3 I r Q=>?_⟩⟩
  ·exists bl b g,λy=>xb ((show b=x from y) ▸ g),?_
   ·rw[show Xz (gd X.ts x).bs X.ho b=X.ho b+1 from aK g];lia
   ·rw[(F.hb x G b g).1];exact zK.mpr Z
  ·exact q H3 I (IA λc o n1 n2 e=>r c o n1 n2 (k c o (λb g=>(n2 b g).1) e)) Q x5
inductive XI(n:Nat)(jN jO:ai):Sp
 |mk{X:Zd}{lk D:ai}{ls us:je}{r g x:Nat}{up ps N:jj}{A B L R:jm}{sd:Bool}{W:jq}{ts0:jk}{sv:V}{H:Hp}{Q:VK}{E:XK}:W.length<=n->Zl jN jO H X.S X.d lk X.lv X.ts X.av X.ho X.as X.kvs ls->WM X.lv X.ts X.av X.ho->r∈X.lv->Tp X.av X.ho r->Yq X.ts r (g::up) ps A B->up.length+W.length<=700->x∈X.lv->Tp X.av X.ho x->x≠r->(gd X.ts x).h=(gd X.ts g).h->VR X.ts x W N L R->N.Nodup->(∀ b∈N,b∉g::up)->((gd X.ts x).h≠0->(gd X.ts g).bs.length<=3) ->
  Up (A++(if sd=true then (gd X.ts g).rows++(gd X.ts x).rows else (gd X.ts x).rows++(gd X.ts g).rows)++B)->H D=some (.lst us)->Z2 X lk D->Paired (Xh X lk H ts0) W us->(∀ p∈W,gd ts0 p.1=gd X.ts p.1)->ls.length+W.length<=370000 ->
  (∀(H':Hp)(X':Zd)(ls':je),Go lk H H' X X'->Zl jN jO H' X'.S X'.d lk X'.lv X'.ts X'.av X'.ho X'.as X'.kvs ls'->WM X'.lv X'.ts X'.av X'.ho->r∈X'.lv->Tp X'.av X'.ho r->(gd X'.ts r).rows=A++(if sd=true then (gd X.ts g).rows++(L++R) else (L++R)++(gd X.ts g).rows)++B->ls'.length<=ls.length+W.length->X'.ts.length=X.ts.length->X'.lv.length<=X.lv.length->Q (.int (g:Nat)) H') ->
  XI n jN jO [.ref X.S,sv,.int (g:Nat),.ref D] H Q E
theorem Az{n:Nat}(F0:Zi K "hand_down" "hand_down" PZ f fd)(T:YL mg)(L:YT K mg jN jO)(DB:ZA P w K mg jQ 1 "branches_of" zEv Yo)(DN:ZA P w K mg jQ 2 "neighbour" zEv UI)(DH:ZB P w K mg jQ ZM 2 jN "hold" zEa (XY jN jO))(DG:ZB P w K mg jQ ZM 5 jN "let_go" zEa (Y1 jN jO))(DO:ZA P w K mg jQ 5 "own" zEj (WU jN jO))(DA:ZA P w K mg jQ 12 "adopt" zEj (Xj jN jO))(DR:ZA P w K mg jQ (n+13) "hand_down" zEf (XI n jN jO)):ZI P w K mg jQ ZM (n+14) f fd zEf (XI (n+1) jN jO):=by
 refine F0.ok Wd (λvs H Q E h=>(by cases h;rfl)) (λcdv A outer s H vs Q E hr h=>?_)
 let⟨wn,R,F,hr0,tp,z,u7,hx,tx,xr,hxg,pt,ndN,dj,b3,U,hD,oD,hst,e0,few,q⟩:=h;rename_i X lk D ls us r g x up ps N A0 B0 L0 R0 sd W ts0 sv
 let nd:=Wd.nd;let hr1:=hr.mono (show 1<=n+13 from nofun)
 let hr2:=hr.mono (show 2<=n+13 from nofun)
 let hr5:=hr.mono (show 5<=n+13 from nofun)
 let hr12:=hr.mono (show 12<=n+13 from nofun)
 let⟨tt,ht,hk⟩:=Gy (jN:=jN) (jO:=jO) (P:=P) (w:=w) (K:=K) (jQ:=jQ) (f:=f) (cdv:=cdv) (A:=A) (outer:=outer) (s:=s) (Hs:=H) (E:=E) L DB DH DG hr5
  (ZL (Z1 (Pa (MD (pv 2))) Wq Z5)
  (ZL (Zj 6 nd (Zc DO hr5 (Vm (pv 0) (pv 1) (pv 2))))
  (ZL (Ye (Zc DA hr12 (Vm (pv 0) (pv 6) (pv 4))))
  (ZL (Ye (Zc DR hr (QI (pv 0) (pv 6) (pv 4) (O0 O8 (pv 3) (Pi ZK) Ma))))
  (ZR (Zh (pv 6)))))))
 intro Xc;refine⟨_,ZL (Z1 (YX Vp (YC Xm rfl T.len Xa (ZT (pv 3))) ZK (YG _)) (ZL (Ye (Z0 (E:=E0) (pv 0) L.cS DG hr5 Z3 (ZT (Xe K (Z8 K (pv 3) ZK) ZK)))) (ZR (Zh (pv 2)))) Z5)
  (ZL (Zj 4 nd (Zc DN hr2 (ZT (Z8 K (pv 3) ZK)))) ht),?_⟩
 let lw:=Paired.length hst;exists _,Z,D,us,Z,.inl (ZG.of hD),Z,_,Z;let⟨dS,hS⟩:=R.sh.self;let⟨hg,_,fr0,_⟩:=z.facts F.wf hr0 Z;let⟨F1,d1,t1⟩:=Em F hx tx;let ndx:∀{a:Nat},a∈X.lv.erase x ↔ a≠x/\a∈X.lv:=F.nd.mem_erase_iff;let lve:(X.lv.erase x).length<=X.lv.length:=sU
 cases pt with
 | leaf h0=>
  rename_i pl
  obtain⟨u,us',eu⟩:∃ u us',us=u::us':=by
   cases us with
   | nil=>cases lw
   | cons u us'=>exact⟨u,us',Z⟩
  let l1:us.length=1:=lw.symm;rw[aI (congrArg V.int (by rw[l1];rfl))]
  subst eu;obtain⟨t,fv,rfl,ht1,_⟩:Xh X lk H ts0 (x,pl) u:=by cases hst with | cons a b=>exact a
  let eb:=((F.wf x hx).leaf h0).1;let a0:Xl (gd X.ts x).bs x X.av=X.av:=by rw[eb];exact funext λi=>aJ (by simp)
  let g0:Xz (gd X.ts x).bs X.ho=X.ho:=by rw[eb];exact funext λi=>aJ (by simp)
  rw[g0] at F1 d1 t1;refine Z7 ⟨_,Z,X.S,dS,_,Z,hS,Z,_,Z,.inl ⟨D,_,0,_,Z,Z,ZG.of hD,XH (j:=0) Z,_,_,_,_,Z,Z,Zs.of ht1,Z,.mk R F.nd hx tx.1 tx.2 (λ_=>eb) (by rw[eb];exact vG) (λb hb=>by rw[eb] at hb;cases hb) λH1 kvs1 fr1 R1=>?_⟩⟩
  refine⟨_,Z,q H1 ⟨X.S,X.d,X.lv.erase x,X.ts,Xl (gd X.ts x).bs x X.av,Ve X.ho x,X.as,kvs1⟩ ls (IA fr1) R1 F1 (ndx.mpr ⟨xr.symm,hr0⟩) (t1 r xr.symm tp) ?_ nofun Z lve⟩
  show (gd X.ts r).rows=_;rw[fr0];cases sd <;> simp
 | stem h0 eb f0 pc=>
  rename_i sd' c l W' N' L' R'
  let w1:1<=W'.length:=by
   have:=pc.hd.2
   cases W' with
   | nil=>exact absurd Z this
   | cons=>exact vD (zE _)
  let l2:((us.length:Nat):Int)≠1:=by rw[<-lw,zR];lia (splits:=8)
  rw[aH (λy=>l2 (V.int.inj y))];obtain⟨u,us',eu⟩:∃ u us',us=u::us':=by
   cases us with
   | nil=>cases lw
   | cons u us'=>exact⟨u,us',Z⟩
  subst eu;obtain⟨su,st'⟩:Xh X lk H ts0 (x,if sd'=true then 1 else 0) u/\Paired (Xh X lk H ts0) W' us':=by cases hst with | cons a b=>exact⟨a,b⟩
  let ex:=e0 _ zS;let⟨bl,spx,obl⟩:=su.sp (by rw[ex];exact h0)
  rw[ex] at spx;refine Zm ⟨_,Z,.inl ⟨D,_,0,_,Z,Z,ZG.of hD,XH (j:=0) Z,.mk (b:=l) spx ?_ ?_⟩⟩
  ·show (gd X.ts x).bs[_]? = some l;rw[eb];cases sd' <;> rfl
  refine hk _ H X lk D bl ls _ x (if sd'=true then 1 else 0) u sv (.int (g:Nat)) (.int (l:Nat)) R F hx tx h0 hD Z spx oD obl λH1 kvs1 G1 R1 x5=>?_
  let mc:c∈(gd X.ts x).bs:=by rw[eb];cases sd' <;> simp
  let ml:l∈(gd X.ts x).bs:=by rw[eb];cases sd' <;> simp
  let⟨_,_,hb,rx⟩:=(F.wf x hx).stem h0;let⟨tc1,lc1⟩:=d1 c mc;let⟨tl1,ll1⟩:=d1 l ml;let hr1':r∈X.lv.erase x:=ndx.mpr ⟨xr.symm,hr0⟩;let tp1:=t1 r xr.symm tp;let rx:(gd X.ts x).rows=if sd'=true then (gd X.ts l).rows++(gd X.ts c).rows else (gd X.ts c).rows++(gd X.ts l).rows:=by
   let rx:(gd X.ts x).rows=ZV X.ts (gd X.ts x).bs:=rx;rw[rx,eb];cases sd' <;> simp[ZV]
  let hg0:(gd X.ts g).h≠0:=by rw[<-hxg];exact h0
  let hlh:=(hb l ml).2;let hch:=(hb c mc).2;let subl:((gd X.ts l).rows).Sublist (gd X.ts x).rows:=by
   rw[rx];cases sd'
   ·exact xV _ _
   ·exact xP _ _
  let U2:Up (A0++(if sd=true then (gd X.ts g).rows++(gd X.ts l).rows else (gd X.ts l).rows++(gd X.ts g).rows)++B0):=by
   refine Qc U ?_;cases sd
   ·exact((yU.refl A0).append (subl.append (yU.refl _))).append (yU.refl B0)
   ·exact((yU.refl A0).append ((yU.refl _).append subl)).append (yU.refl B0)
  refine⟨_,Z,_,Z,Zm ?_⟩;refine⟨_,Z,_,Z,_,Z,.mk (X:=⟨X.S,X.d,X.lv.erase x,X.ts,_,_,X.as,kvs1⟩) R1 (z.rd F1.wf hr1' F1.hb tp1 rfl) (by rw[zR];lia (splits:=8)) λH2 s2=>?_⟩
  refine⟨_,Z,_,Z,_,Z,.mk (X:=⟨X.S,X.d,X.lv.erase x,X.ts,_,_,X.as,kvs1⟩) (sd:=sd) (R1.same s2) F1 hr1' tp1 z nofun hg0 ll1 tl1 (by rw[<-hxg];exact hlh) (b3 h0) nofun U2 λH3 X3 ls3 G3 R3 C3 tp3 z3 fl3=>?_⟩
  let G:=(G1.trans (Go.same s2)).trans G3;let m:Z6 H H3:=G.tups R;let hD3:=G.fr _ _ oD hD;rw[show X.S=X3.S from G3.S.symm];exists _,Z,_,Z,_,Z,_,Z,_,Z,D,_,Z,ZG.of hD3;intro D4 n4;rw[Da];let⟨H4,eU,g4,hD4⟩:=Y8 n4 (.lst us');rw[eU];let R4:=R3.same g4;let ch:∀ b,b∈(gd X.ts g).bs->gd X3.ts b=gd X.ts b:=λb h=>C3.old b λy=>by
   let e1:=(((F.wf g hg).stem hg0).2.2.1 b h).2;rcases zU.mp y with y | y
   ·rw[y] at e1;lia (splits:=8)
   ·have:=((z.facts F.wf hr0 rfl).2.1 b y).2;lia (splits:=8)
  let nN:∀ b∈N',gd X3.ts b=gd X.ts b:=λb h=>C3.old b (dj b (zO _ (zO _ h)));let lN:l∉N':=(yW.mp (yW.mp ndN).2).1;let el:gd X3.ts l=gd X.ts l:=C3.old l (dj l (zO _ zS));let cN:c∈N':=pc.hd.1;let ec:gd X3.ts c=gd X.ts c:=nN c cN;let cl:c≠l:=λy=>lN (y ▸ cN);let ebs:(gd X3.ts g).bs=(if sd=true then (gd X.ts g).bs++[l] else l::(gd X.ts g).bs):=by rw[C3.at_];rfl
  let erg:ZV X3.ts (gd X.ts g).bs=(gd X.ts g).rows:=by
   rw[QY (ts:=X.ts) (ts':=X3.ts) λb h=>by rw[ch b h]]
   exact(((F.wf g hg).stem hg0).2.2.2).symm
  let lg:l∉(gd X.ts g).bs:=λy=>by
   have:=(F1.hb g (ndx.mpr ⟨λe=>dj x zS (by rw[<-e];exact zS),hg⟩) l y).1
   rw[tl1.1] at this;cases this
  let cg:c∉(gd X.ts g).bs:=λy=>by
   have:=(F1.hb g (ndx.mpr ⟨λe=>dj x zS (by rw[<-e];exact zS),hg⟩) c y).1
   rw[tc1.1] at this;cases this
  let hg3:(gd X3.ts g).h≠0:=by rw[C3.hh];exact hg0
  obtain⟨A3,B3,ps3,z4,eA⟩:∃ A3 B3 ps3,Yq X3.ts r (l::g::up) ps3 A3 B3/\∀ M:jm,A3++M++B3=A0++(if sd=true then (gd X.ts g).rows++M else M++(gd X.ts g).rows)++B0:=by
   cases sd
   ·let ebs:(gd X3.ts g).bs=[]++l::(gd X.ts g).bs:=ebs;have:=z3.down hg3 ebs (by simp) lg
    exists _,_,_,this;intro M;rw[erg];simp[ZV]
   ·let ebs:(gd X3.ts g).bs=(gd X.ts g).bs++l::[]:=ebs;have:=z3.down hg3 ebs lg (by simp)
    exists _,_,_,this;intro M;rw[erg];simp[ZV]
  let r3:r∈X3.lv:=by rw[C3.lv];exact hr1'
  let tc3:Tp X3.av X3.ho c:=C3.tops c tc1 (by cases sd <;> simp[cl,cg])
  let cr:c≠r:=λy=>by
   have:=(F.hb x hx c mc).1;rw[y,tp.1] at this;cases this
  rw[zR] at wn u7 few;refine .mk (X:=X3) (r:=r) (g:=l) (x:=c) (sd:=sd') (ts0:=ts0) nofun R4 C3.fst r3 tp3 z4 (by rw[zR];lia (splits:=8)) (by rw[C3.lv];exact lc1) tc3 cr (by rw[C3.hh,C3.hh];show (gd X.ts c).h=(gd X.ts l).h;lia (splits:=8)) (pc.like nN) (yW.mp (yW.mp ndN).2).2 (λb h=>?_) (by rw[ec,el];exact f0) ?_ hD4 (R3.new n4) (Paired.mapP st' λp v y=>y.go (G.trans (Go.same g4)) λa ys e=>g4 _ _ (m a ys e)) (λp hp=>?_) nofun λH5 X5 ls5 G5 R5 F5 r5 t5 er5 f5 tl5 lv5=>⟨_,Z,?_⟩
  ·refine λy=>?_;rcases zU.mp y with y | y
   ·exact lN (y ▸ h)
   ·exact dj b (zO _ (zO _ h)) y
  ·rw[eA,ec,el];refine Qc U ?_;rw[rx];exact yU.refl _
  ·rw[e0 p (zO _ hp)];exact(nN _ (pc.wn p hp)).symm
  ·refine q H5 X5 ls5 ((G.trans (Go.same g4)).trans G5) R5 F5 r5 t5 ?_ (by rw[zR];lia (splits:=8)) (tl5.trans C3.len) (by let l3:X3.lv.length=(X.lv.erase x).length:=congrArg wM C3.lv;lia (splits:=8))
   rw[er5,eA,el]
   congr 2
   cases sd' <;> simp
theorem Gs(a:ZX K mg "hand_down" PZ zEf)(T:YL mg)(L:YT K mg jN jO)(c:ZA P w K mg jQ 1 "branches_of" zEv Yo)(g:ZA P w K mg jQ 2 "neighbour" zEv UI)(e:ZB P w K mg jQ ZM 2 jN "hold" zEa (XY jN jO))(d:ZB P w K mg jQ ZM 5 jN "let_go" zEa (Y1 jN jO))(i:ZA P w K mg jQ 5 "own" zEj (WU jN jO))(b:ZA P w K mg jQ 12 "adopt" zEj (Xj jN jO)):∀ n:Nat,ZA P w K mg jQ (n+13) "hand_down" zEf (XI n jN jO)
 | 0=>a.of λ_ _ _=>M0 λl H Q E h=>by
  cases h with
  | mk k _ _ _ _ _ _ _ _ _ _ j=>
   have:=j.hd.2;rw[vT (Nat.le_zero.mp k)] at this;exact this Z
 | n+1=>a.of λ_ _ F=>Az F T L c g e d i b (Gs a T L c g e d i b n)
inductive WS(jN jO:ai):Sp
 |mk{X:Zd}{b D:ai}{h j:je}{x:Nat}{N:jj}{L R:jm}{W:jq}{e:jk}{H:Hp}{Q:VK}{E:XK}:W.length<=20->Zl jN jO H X.S X.d b X.lv X.ts X.av X.ho X.as X.kvs h->WM X.lv X.ts X.av X.ho->x∈X.lv->Tp X.av X.ho x->VR X.ts x W N L R->N.Nodup->H D=some (.lst j)->Z2 X b D->Paired (Xh X b H e) W j->(∀ p∈W,gd e p.1=gd X.ts p.1)->h.length+W.length<=370000 ->
  (∀(g:Hp)(a:Zd)(c:je)(i:jp),Go b H g X a->Zl jN jO g a.S a.d b a.lv a.ts a.av a.ho a.as a.kvs c->WM a.lv a.ts a.av a.ho->(∀ r,i=some r->r∈a.lv/\Tp a.av a.ho r)->Yi a.ts i=L++R->c.length<=h.length+W.length->a.ts.length=X.ts.length->a.lv.length<=X.lv.length->Q (XJ i) g) ->
  WS jN jO [.ref X.S,.non,.non,.ref D] H Q E
theorem ZLT(F0:Zi K "hand_down" "hand_down" PZ f fd)(T:YL mg)(L:YT K mg jN jO)(DB:ZA P w K mg jQ 1 "branches_of" zEv Yo)(DN:ZA P w K mg jQ 2 "neighbour" zEv UI)(DH:ZB P w K mg jQ ZM 2 jN "hold" zEa (XY jN jO))(DG:ZB P w K mg jQ ZM 5 jN "let_go" zEa (Y1 jN jO))(DR:ZA P w K mg jQ 33 "hand_down" zEf (XI 20 jN jO)):ZI P w K mg jQ ZM 34 f fd zEf (WS jN jO):=by
 refine F0.ok Wd (λvs H Q E h=>(by cases h;rfl)) (λcdv A outer s H vs Q E hr h=>?_)
 let⟨wn,R,F,hx,tx,pt,ndN,hD,oD,hst,e0,few,q⟩:=h;rename_i X lk D ls us x N L0 R0 W ts0
 let nd:=Wd.nd;let hr2:=hr.mono (show 2<=33 from nofun)
 let hr5:=hr.mono (show 5<=33 from nofun)
 let⟨tt,ht,hk⟩:=Gy (jN:=jN) (jO:=jO) (P:=P) (w:=w) (K:=K) (jQ:=jQ) (f:=f) (cdv:=cdv) (A:=A) (outer:=outer) (s:=s) (Hs:=H) (E:=E) L DB DH DG hr5
  (ZL (Z1 (Pa (MD (pv 2))) (ZR (Zh (Zc DR hr (QI (pv 0) Pl (pv 4) (O0 O8 (pv 3) (Pi ZK) Ma))))) Z5) Wq)
 intro Xc;refine⟨_,ZL (Z1 (YX Vp (YC Xm rfl T.len Xa (ZT (pv 3))) ZK (YG _)) (ZL (Ye (Z0 (E:=E0) (pv 0) L.cS DG hr5 Z3 (ZT (Xe K (Z8 K (pv 3) ZK) ZK)))) (ZR (Zh (pv 2)))) Z5)
  (ZL (Zj 4 nd (Zc DN hr2 (ZT (Z8 K (pv 3) ZK)))) ht),?_⟩
 let lw:=Paired.length hst;exists _,Z,D,us,Z,.inl (ZG.of hD),Z,_,Z;let⟨dS,hS⟩:=R.sh.self;let⟨F1,d1,t1⟩:=Em F hx tx;let lve:(X.lv.erase x).length<=X.lv.length:=sU
 cases pt with
 | leaf h0=>
  rename_i pl
  obtain⟨u,us',eu⟩:∃ u us',us=u::us':=by
   cases us with
   | nil=>cases lw
   | cons u us'=>exact⟨u,us',Z⟩
  let l1:us.length=1:=lw.symm;rw[aI (congrArg V.int (by rw[l1];rfl))]
  subst eu;obtain⟨t,fv,rfl,ht1,_⟩:Xh X lk H ts0 (x,pl) u:=by cases hst with | cons a b=>exact a
  let eb:=((F.wf x hx).leaf h0).1;let g0:Xz (gd X.ts x).bs X.ho=X.ho:=by rw[eb];exact funext λi=>aJ (by simp)
  rw[g0] at F1;refine Z7 ⟨_,Z,X.S,dS,_,Z,hS,Z,_,Z,.inl ⟨D,_,0,_,Z,Z,ZG.of hD,XH (j:=0) Z,_,_,_,_,Z,Z,Zs.of ht1,Z,.mk R F.nd hx tx.1 tx.2 (λ_=>eb) (by rw[eb];exact vG) (λb hb=>by rw[eb] at hb;cases hb) λH1 kvs1 fr1 R1=>?_⟩⟩
  exact⟨_,Z,q H1 ⟨X.S,X.d,X.lv.erase x,X.ts,Xl (gd X.ts x).bs x X.av,Ve X.ho x,X.as,kvs1⟩ ls none (IA fr1) R1 F1 (λr e=>nomatch e) Z nofun Z lve⟩
 | stem h0 eb f0 pc=>
  rename_i sd' c l W' N' L' R'
  let w1:1<=W'.length:=by
   have:=pc.hd.2
   cases W' with
   | nil=>exact absurd Z this
   | cons=>exact vD (zE _)
  let l2:((us.length:Nat):Int)≠1:=by rw[<-lw,zR];lia (splits:=8)
  rw[aH (λy=>l2 (V.int.inj y))];obtain⟨u,us',eu⟩:∃ u us',us=u::us':=by
   cases us with
   | nil=>cases lw
   | cons u us'=>exact⟨u,us',Z⟩
  subst eu;obtain⟨su,st'⟩:Xh X lk H ts0 (x,if sd'=true then 1 else 0) u/\Paired (Xh X lk H ts0) W' us':=by cases hst with | cons a b=>exact⟨a,b⟩
  let ex:=e0 _ zS;let⟨bl,spx,obl⟩:=su.sp (by rw[ex];exact h0)
  rw[ex] at spx;refine Zm ⟨_,Z,.inl ⟨D,_,0,_,Z,Z,ZG.of hD,XH (j:=0) Z,.mk (b:=l) spx ?_ ?_⟩⟩
  ·show (gd X.ts x).bs[_]? = some l;rw[eb];cases sd' <;> rfl
  refine hk _ H X lk D bl ls _ x (if sd'=true then 1 else 0) u .non .non (.int (l:Nat)) R F hx tx h0 hD Z spx oD obl λH1 kvs1 G1 R1 x5=>?_
  let mc:c∈(gd X.ts x).bs:=by rw[eb];cases sd' <;> simp
  let ml:l∈(gd X.ts x).bs:=by rw[eb];cases sd' <;> simp
  let⟨_,_,hb,rx⟩:=(F.wf x hx).stem h0;let⟨tc1,lc1⟩:=d1 c mc;let⟨tl1,ll1⟩:=d1 l ml;let rx:(gd X.ts x).rows=if sd'=true then (gd X.ts l).rows++(gd X.ts c).rows else (gd X.ts c).rows++(gd X.ts l).rows:=by
   let rx:(gd X.ts x).rows=ZV X.ts (gd X.ts x).bs:=rx;rw[rx,eb];cases sd' <;> simp[ZV]
  let lN:l∉N':=(yW.mp (yW.mp ndN).2).1;let cl:c≠l:=λy=>lN (y ▸ pc.hd.1);let hD1:=G1.fr _ _ oD hD;let m1:Z6 H H1:=G1.tups R;refine⟨_,Z,_,Z,Z7 ⟨_,Z,_,Z,_,Z,_,Z,D,_,Z,ZG.of hD1,λD4 n4=>?_⟩⟩;rw[Da];let⟨H4,eU,g4,hD4⟩:=Y8 n4 (.lst us');rw[eU];rw[zR] at wn few;let hlh:=(hb l ml).2;let hch:=(hb c mc).2;refine .mk (X:=⟨X.S,X.d,X.lv.erase x,X.ts,_,_,X.as,kvs1⟩) (r:=l) (g:=l) (up:=[]) (ps:=[]) (A:=[]) (B:=[]) (x:=c) (sd:=sd') (ts0:=ts0) nofun (R1.same g4) F1 ll1 tl1 .root (by rw[tQ];lia (splits:=8)) lc1 tc1 cl (by show (gd X.ts c).h=(gd X.ts l).h;lia (splits:=8)) pc (yW.mp (yW.mp ndN).2).2 (λb h y=>lN (zK.mp y ▸ h)) f0 ?_ hD4 (Zl.new (X:=⟨X.S,X.d,X.lv.erase x,X.ts,_,_,X.as,kvs1⟩) R1 n4) (Paired.mapP st' λp v y=>y.go (G1.trans (Go.same g4)) λa ys e=>g4 _ _ (m1 a ys e)) (λp hp=>e0 p (zO _ hp)) nofun λH5 X5 ls5 G5 R5 F5 r5 t5 er5 f5 tl5 lv5=>?_
  ·have:=(F.wf x hx).up;rw[rx] at this;show Up ([]++(if sd'=true then (gd X.ts l).rows++(gd X.ts c).rows else (gd X.ts c).rows++(gd X.ts l).rows)++[])
   rw[uM,yS];exact this
  ·refine q H5 X5 ls5 (some l) ((G1.trans (Go.same g4)).trans G5) R5 F5 (λr e=>by cases e;exact⟨r5,t5⟩) ?_ (by rw[zR];lia (splits:=8)) tl5 (zI lv5 lve)
   show (gd X5.ts l).rows=_;rw[er5];cases sd' <;> simp
abbrev sN(W:jq)(p:Nat):Nat×Nat:=W.getD p (0,0)
def VS(a:jk)(s:Nat×Nat):Nat:=(gd a s.1).bs.getD (if 0<s.2 then s.2-1 else 1) 0
def clo(a:jk)(W:jq)(p:Nat):Bool:=decide (2<(gd a (sN W p).1).bs.length) || (decide (0<p)&&decide ((gd a (VS a (sN W (p-1)))).bs.length=4))
theorem Zl.lkd{a b:ai}{H f:Hp}{X:Zd}{e:ai}{h c:je}(R:Zl a b H X.S X.d e X.lv X.ts X.av X.ho X.as X.kvs h)(g:Xf a b f X e X.ts.length c):Zl a b f X.S X.d e X.lv X.ts X.av X.ho X.as X.kvs c:=⟨g.sh,R.lt,R.keys,R.val,R.len,g.tw,R.own,R.two⟩
structure Lk(X:Zd)(W:jq):Prop where
 lv:∀ p∈W,p.1∈X.lv
 st:∀ p,p+1<W.length->(gd X.ts (sN W p).1).h≠0/\(sN W p).2<(gd X.ts (sN W p).1).bs.length
 nb:∀ p,p+2<W.length->(gd X.ts (VS X.ts (sN W p))).h≠0
inductive Xu(jN jO:ai):Sp
 |mk{X:Zd}{b:ai}{c:je}{i:Nat}{H:Hp}{Q:VK}{E:XK}:Zl jN jO H X.S X.d b X.lv X.ts X.av X.ho X.as X.kvs c->i∈X.lv->(gd X.ts i).h≠0->c.length<=380000->(∀ a,Go b H a X X->Zl jN jO a X.S X.d b X.lv X.ts X.av X.ho X.as X.kvs (c++[.int (i:Int)])->Q (.bl (decide ((gd X.ts i).bs.length=4))) a)->Xu jN jO [.ref X.S,.int (i:Nat)] H Q E
theorem ZLb:ZC zFj zFj (ZY IB):=Zp
theorem ZIm(F:Zi K "is_full" "is_full" IB f fd)(T:YL mg)(L:YT K mg jN jO)(j:ZB P w K mg jQ ZM 2 jN "look" zEa (Yx jN jO)):ZI P w K mg jQ ZM 3 f fd zFj (Xu jN jO):=by
 refine F.ok ZLb (λJ H Q E h=>(by cases h;rfl)) (λm A d s H J Q E u h=>?_)
 let⟨R,t,p,o,q⟩:=h;rename_i X B C i
 let⟨N,D⟩:=T.most;intro M;exists _,ZR (Zh (Vs Vp (YC Xm rfl T.len Xa (ZT (Xe K (Z0 (E:=E0) (pv 0) L.cS j u Z3 (ZT (pv 1))) ZK))) (WL (v:=.int 4) rfl D ⟨_,rfl⟩) (YG _)));let⟨n,r⟩:=R.sh.self;exists _,Z,X.S,n,_,Z,r,Z,_,Z,X,B,X.ts.length,C,i,Z,R.q,t,by lia
 intro k e x I a l c G b _ g;let g:=g p;subst g;let z:(iN (gd X.ts i).bs).length=(gd X.ts i).bs.length:=zX _;exists e,_,_,_,Z,Z,Zs.of c,Z,x,_,Z,.inl (ZG.of b),Z;rw[show decide (V.int ((iN (gd X.ts i).bs).length:Nat)=V.int 4)=decide ((gd X.ts i).bs.length=4) by rw[z];exact decide_eq_decide.mpr ⟨λy=>by have:=V.int.inj y;lia,λy=>by rw[y];rfl⟩]
 exact q k (.looks a) (R.lkd l)
inductive XR(jN jO:ai):Sp
 |mk{X:Zd}{a D:ai}{e g:je}{W:jq}{p:Nat}{H:Hp}{Q:VK}{E:XK}:Zl jN jO H X.S X.d a X.lv X.ts X.av X.ho X.as X.kvs e->WF X.lv X.ts->H D=some (.lst g)->Z2 X a D->Paired (Xh X a H X.ts) W g->Lk X W->p+1<W.length->e.length<=380000->(∀ c b,Go a H c X X->Zl jN jO c X.S X.d a X.lv X.ts X.av X.ho X.as X.kvs b->b.length<=e.length+1->Q (.bl (clo X.ts W p)) c)->XR jN jO [.ref X.S,.ref D,.int (p:Nat)] H Q E
theorem Cn:ZC zEw zEw (ZY JV):=Zp
theorem Nc{W:jq}{p:Nat}(h:p<W.length):W[p]? = some (sN W p):=by
 show _=some (W.getD p (0,0));rw[zV,zQ h];rfl
theorem Xh.at_{X:Zd}{d:ai}{H:Hp}{g:jk}{W:jq}{a:je}(h:Paired (Xh X d H g) W a){p:Nat}(c:p<W.length):∃ u,a[p]? = some u/\Xh X d H g (sN W p) u:=by
 let b:p<a.length:=by rw[<-Paired.length h];exact c
 let⟨r,e,s⟩:=Paired.ixR h (zQ b);rw[Nc c] at e;cases e;exact⟨_,zQ b,s⟩
theorem ZOU{X:Zd}{W:jq}(h:WF X.lv X.ts)(a:Lk X W){p:Nat}(g:p+1<W.length):(gd X.ts (sN W p).1).bs[if 0<(sN W p).2 then (sN W p).2-1 else 1]? = some (VS X.ts (sN W p))/\VS X.ts (sN W p)∈X.lv:=by
 let⟨c,j⟩:=a.st p g;let⟨i,_,b,_⟩:=(h _ (a.lv _ (zL (Nc ∅)))).stem c
 let d:(if 0<(sN W p).2 then (sN W p).2-1 else 1)<(gd X.ts (sN W p).1).bs.length:=by split <;> lia
 let e:(gd X.ts (sN W p).1).bs[if 0<(sN W p).2 then (sN W p).2-1 else 1]? = some (VS X.ts (sN W p)):=by
  unfold VS;rw[zV,zQ d];rfl
 exact⟨e,(b _ (zL e)).1⟩
theorem ZH7(F:Zi K "can_lose_one" "can_lose_one" JV f fd)(T:YL mg)(C:ZA P w K mg jQ 1 "branches_of" zEv Yo)(I:ZA P w K mg jQ 2 "neighbour" zEv UI)(G:ZA P w K mg jQ 3 "is_full" zFj (Xu jN jO)):ZI P w K mg jQ ZM 4 f fd zEw (XR jN jO):=by
 refine F.ok Cn (λvs H Q E h=>(by cases h;rfl)) (λN A o s H vs Q E k h=>?_)
 let⟨R,wf,t,oD,b,e,hp,i,q⟩:=h;rename_i X lk D x B W p
 let m:=k.mono (show 1<=3 by lia)
 let n:=k.mono (show 2<=3 by lia)
 let⟨t0,m0⟩:=T.few;intro Xc;refine⟨_,ZL (Z1 (YX Uo (YC Xm rfl T.len Xa (ZT (Zc C m (ZT (Z8 K (pv 1) (pv 2)))))) (WL (v:=.int 2) rfl m0 ⟨_,rfl⟩) (YG _)) (ZR (Zh Pv)) Z5)
  (ZR (Zh (Q7 (Vs Uo (pv 2) ZK (YG _)) (P7 (Zc G k (Zq (pv 0) (Zc I n (ZT (Z8 K (pv 1) (Zx VE (pv 2) ZK)))))))))),?_⟩
 let⟨u,S,su⟩:=Xh.at_ b (show p<W.length by lia)
 let⟨U,hl⟩:=e.st p hp;let⟨l,c,ol⟩:=su.sp U;let⟨h1,h2,V⟩:=id c;let lI:(iN (gd X.ts (sN W p).1).bs).length=(gd X.ts (sN W p).1).bs.length:=zX _;refine⟨_,Z,_,Z,.inl ⟨D,B,(p:Int),_,Z,Z,ZG.of t,XH S,.mk c ⟨l,_,Z,.inl (ZG.of V),_,_,Z,Z,_,Z,?_⟩⟩⟩;by_cases z:2<(gd X.ts (sN W p).1).bs.length
 ·let a:clo X.ts W p=true:=by unfold clo;rw[aI z];rfl
  rw[aI (show (((iN (gd X.ts (sN W p).1).bs).length:Nat):Int) > 2 by lia)]
  rw[a] at q;exact Z7 (q H x (Go.same (ZE.refl H)) R ∅)
 ·rw[aH (show ¬ (((iN (gd X.ts (sN W p).1).bs).length:Nat):Int) > 2 by lia)]
  refine Zm ⟨_,Z,_,_,Z,Z,_,Z,?_⟩;by_cases y:0<p
  ·rw[aI (show ((p:Nat):Int) > 0 by lia)]
   let⟨u',g,r⟩:=Xh.at_ b (show p-1<W.length by lia)
   let⟨j,Y⟩:=e.st (p-1) ∅
   let⟨l',d,a0⟩:=r.sp j;let⟨O,ln⟩:=ZOU wf e (show p-1+1<W.length by lia)
   let a:clo X.ts W p=decide ((gd X.ts (VS X.ts (sN W (p-1)))).bs.length=4):=by unfold clo;rw[aH z,aI y];rfl
   rw[a] at q;refine Z7 ⟨_,Z,_,Z,_,Z,_,_,Z,Z,.inl ⟨D,B,((p:Nat):Int)-1,_,Z,Z,ZG.of t,by rw[show ((p:Nat):Int)-1=((p-1:Nat):Int) by lia];exact XH g,.mk d O (.mk R ln (e.nb (p-1) ∅) i λL J M=>q L _ J M (by simp))⟩⟩
  ·rw[aH (show ¬ ((p:Nat):Int) > 0 by lia)]
   let a:clo X.ts W p=false:=by unfold clo;rw[aH z,aH y];rfl
   rw[a] at q;exact Zm (q H x (Go.same (ZE.refl H)) R ∅)
def GB(b:jk)(W:jq)(a:Nat):Prop:=a<W.length/\(∀ j,a<=j->j+1<W.length->clo b W j=false)/\(0<a->clo b W (a-1)=true)
inductive WR(jN jO:ai):Sp
 |mk{X:Zd}{a D:ai}{e h:je}{W:jq}{H:Hp}{Q:VK}{E:XK}:Zl jN jO H X.S X.d a X.lv X.ts X.av X.ho X.as X.kvs e->WF X.lv X.ts->H D=some (.lst h)->Z2 X a D->Paired (Xh X a H X.ts) W h->Lk X W->1<=W.length->e.length+W.length<=380000->(∀ c b g,Go a H c X X->Zl jN jO c X.S X.d a X.lv X.ts X.av X.ho X.as X.kvs b->b.length<=e.length+W.length->GB X.ts W g->Q (.int (g:Nat)) c)->WR jN jO [.ref X.S,.ref D] H Q E
theorem QV:ZC zEw zEl (ZY KL):=Zp
inductive Ko(jN jO:ai)(X:Zd)(lk D:ai)(ls:je)(W:jq)(H:Hp):Nat->L2.St->Hp->Prop
 |mk{p:Nat}{H':Hp}{ls':je}:p<W.length->Go lk H H' X X->Zl jN jO H' X.S X.d lk X.lv X.ts X.av X.ho X.as X.kvs ls'->ls'.length+p<=ls.length+W.length->(∀ j,p<=j->j+1<W.length->clo X.ts W j=false)->Ko jN jO X lk D ls W H p [some (.ref X.S),some (.ref D),some (.int (p:Nat))] H'
theorem ZLM(F:Zi K "first_that_goes" "first_that_goes" KL f fd)(T:YL mg)(J:ZA P w K mg jQ 4 "can_lose_one" zEw (XR jN jO)):ZI P w K mg jQ ZM 5 f fd zEl (WR jN jO):=by
 refine F.ok QV (λvs H Q E h=>(by cases h;rfl)) (λM A l s H vs Q E U h=>?_)
 let⟨R,wf,v,I,b,wy,w1,N,q⟩:=h;rename_i X B D C m W
 let G:=QV.nd;intro Xc;refine⟨_,ZL (Zj 2 G (Zx VE (YC Xm rfl T.len Xa (ZT (pv 1))) ZK))
  (ZL (Om PassesOwn.never (PW.pt (GO (YX Uo (pv 2) ZK (YG _)) (Fd (Vl (Y5 (Zc J U (Vm (pv 0) (pv 1) (Zx VE (pv 2) ZK)))))))) (ZR (ZPi (i:=2) G rfl (Or.inl rfl) ZK KU)))
  (ZR (Zh (pv 2)))),?_⟩
 let lw:=Paired.length b;exists _,Z,D,m,Z,.inl (ZG.of v),_,_,Z,Z;let e:((m.length:Nat):Int)-1=((W.length-1:Nat):Int):=∅
 first | rw[show (λi j:Int=>L2.V.int (i-j)) ((m.length:Nat):Int) 1=L2.V.int ((W.length-1:Nat):Int) from congrArg L2.V.int e] | rw[e]
 exists Ko jN jO X B D C W H,⟨_,.mk ∅ (Go.same (ZE.refl H)) R ∅ λj O u=>by lia⟩
 rintro _ _ L ⟨x,a,r,f1,k⟩;rename_i p d
 exists _,Z,_,_,Z,Z,_,Z;by_cases y:0<p
 ·rw[aI (show (0:Int)<((p:Nat):Int) by lia)]
  let Y:=a.tups R;refine Z7 ⟨_,Z,_,Z,_,Z,_,_,Z,Z,?_⟩;let c:((p:Nat):Int)-1=((p-1:Nat):Int):=∅
  first | rw[show (λi j:Int=>L2.V.int (i-j)) ((p:Nat):Int) 1=L2.V.int ((p-1:Nat):Int) from congrArg L2.V.int c] | rw[c]
  refine .mk r wf (a.fr _ _ I v) I (Paired.mapP b λ_ _ z=>z.go a Y) wy ∅ ∅ λo g n R2 f2=>⟨_,Z,?_⟩
  cases t:clo X.ts W (p-1) with
  | true=>exact Zm ⟨_,Z,q o g p (a.trans n) R2 ∅ ⟨x,k,λ_=>t⟩⟩
  | false=>
   refine Z7 ⟨_,λ_ _ z=>z,_,Z,_,_,Z,Z,?_⟩;exists p-1,by lia
   have:Ko jN jO X B D C W H (p-1) [some (.ref X.S),some (.ref D),some (.int ((p-1:Nat):Int))] o:=.mk ∅ (a.trans n) R2 ∅ λj O u=>by
    by_cases z:j=p-1
    ·rw[z];exact t
    ·exact k j ∅ u
   rw[<-c] at this;exact this
 ·rw[aH (show ¬ (0:Int)<((p:Nat):Int) by lia)]
  exact Zm (Zm ⟨_,Z,q L d p a r ∅ ⟨x,k,λz=>absurd z y⟩⟩)
inductive Dn(ts:jk):Nat->jq->Prop
 | leaf {j pl:Nat}:(gd ts j).h=0->Dn ts j [(j,pl)]
 | stem {x c:Nat} {l m:jj} {W:jq}:(gd ts x).h≠0->(gd ts x).bs=l++c::m->c∉l->c∉m->Dn ts c W->Dn ts x ((x,l.length)::W)
section
variable{lv:jj}{ts:jk}
theorem EY(c:WF lv ts)(k:KT):∀(n i:Nat),i∈lv->(gd ts i).h=n->Dn ts i (UZ ts k n i)
 | 0,i,b,f=>by rw[UZ];exact .leaf f
 | n+1,i,b,f=>by
  let a:(gd ts i).h≠0:=∅
  let⟨l,m,g,e,_,_⟩:=JA c b a k;let⟨j,o,_⟩:=NN c b a k;let d:=OC c b a;rw[e,xR,yW] at d;have:=Dn.stem a e (λy=>d.2.2 _ y _ zS Z) d.2.1.1 (EY c k n (V1 ts k i) j ∅)
  rw[g] at this;rw[UZ];exact this
theorem Dn.ne{x:Nat}{W:jq}(h:Dn ts x W):∃ b a,W=(x,b)::a:=by
 cases h
 ·exact⟨_,_,Z⟩
 ·exact⟨_,_,Z⟩
theorem Dn.one{x:Nat}{W:jq}(h:Dn ts x W):(gd ts x).h≠0->2<=W.length:=by
 cases h with
 | leaf a=>exact λy=>absurd a y
 | stem _ _ _ _ d=>
  intro _;let⟨c,b,rfl⟩:=d.ne;simp
theorem Dn.two{x:Nat}{W:jq}(h:Dn ts x W):2<=W.length->(gd ts x).h≠0:=by
 cases h with
 | leaf a=>exact λy=>absurd y (by simp)
 | stem a=>exact λ_=>a
theorem Dn.br(d:WF lv ts){x c:Nat}{l m:jj}(e:x∈lv)(b:(gd ts x).h≠0)(a:(gd ts x).bs=l++c::m):c∈lv/\(gd ts c).h+1=(gd ts x).h:=((d x e).stem b).2.2.1 c (by rw[a];simp)
theorem Dn.lvs(f:WF lv ts){x:Nat}{W:jq}(h:Dn ts x W):x∈lv->∀ p∈W,p.1∈lv:=by
 induction h with
 | leaf c=>
  intro a p b;rw[zK.mp b];exact a
 | stem c e i j d g=>
  intro a p b;rcases zU.mp b with y | y
  ·rw[y];exact a
  ·exact g (Dn.br f a c e).1 p y
theorem Ku(f:WF lv ts){x a:Nat}(g:x∈lv)(c:(gd ts x).h≠0)(j:a<(gd ts x).bs.length):(gd ts x).bs[if 0<a then a-1 else 1]? = some (VS ts (x,a))/\VS ts (x,a)∈lv/\(gd ts (VS ts (x,a))).h+1=(gd ts x).h:=by
 let⟨i,_,b,_⟩:=(f x g).stem c;let d:(if 0<a then a-1 else 1)<(gd ts x).bs.length:=by split <;> lia
 let e:(gd ts x).bs[if 0<a then a-1 else 1]? = some (VS ts (x,a)):=by
  unfold VS;dsimp only;rw[zV,zQ d];rfl
 exact⟨e,b _ (zL e)⟩
theorem Dn.st(g:WF lv ts){x:Nat}{W:jq}(h:Dn ts x W):x∈lv->∀ p,p+1<W.length->(gd ts (sN W p).1).h≠0/\(sN W p).2<(gd ts (sN W p).1).bs.length/\(p+2<W.length->(gd ts (VS ts (sN W p))).h≠0):=by
 induction h with
 | leaf a=>exact λ_ p b=>absurd b (by simp)
 | stem a e q r d k=>
  intro i p b;rename_i x c l m W
  let j:=Dn.br g i a e
  cases p with
  | zero=>
   let f:l.length<(gd ts x).bs.length:=by rw[e];simp
   exists a,f;intro y;let o:=(Ku g i a f).2.2;let n:=d.two (by rw[zR] at y;lia)
   show (gd ts (VS ts (x,l.length))).h≠0
   lia
  | succ p=>
   rw[zR] at b;have:=k j.1 p ∅
   exact⟨this.1,this.2.1,λy=>this.2.2 (by rw[zR] at y;lia)⟩
theorem Dn.cut(C:WF lv ts){r:Nat}(y:r∈lv):∀{x:Nat}{W:jq},Dn ts x W->∀{g p:jj}{A B:jm},Yq ts r (x::g) p A B->∀ n,n<W.length->∃ i a b j k,Dn ts i (W.drop n)/\Yq ts r (i::a) b j k/\a=((W.take n).map (·.1)).reverse++g:=by
 intro x W h
 induction h with
 | leaf f=>
  intro g p A B z n o;have:n=0:=by simpa using o
  subst this;exact⟨_,_,_,_,_,.leaf f,z,Z⟩
 | stem f q s t d v=>
  intro g p A B z n o;rename_i x c l m W
  cases n with
  | zero=>exact⟨_,_,_,_,_,.stem f q s t d,z,Z⟩
  | succ n=>
   rw[zR] at o;let⟨i,a,b,j,k,u,w,e⟩:=v (z.down f q s t) n ∅
   exact⟨i,a,b,j,k,u,w,by rw[e];simp⟩
theorem ZOT(r:WF lv ts){x:Nat}{W:jq}(h:Dn ts x W):x∈lv->(∀ j,j+1<W.length->(gd ts (sN W j).1).bs.length<=2)->(∀ j,j+2<W.length->(gd ts (VS ts (sN W j))).bs.length≠4)->∃ N L R,VR ts x W N L R/\N.Nodup/\(∀ b∈N,b=x\/(gd ts b).h<(gd ts x).h):=by
 induction h with
 | leaf f=>exact λ_ _ _=>⟨_,_,_,.leaf f,by simp,λb s=>.inl (zK.mp s)⟩
 | stem f q S T d J=>
  intro u A B;rename_i x c l m W
  let⟨E,H⟩:=Dn.br r u f q;let U:1<=W.length:=by let⟨_,_,e⟩:=d.ne;rw[e];simp
  let⟨N,L,R,p,K,t⟩:=J E (λj I=>A (j+1) (by rw[zR];lia)) (λj I=>B (j+1) (by rw[zR];lia))
  let⟨w,Q,z,_⟩:=(r x u).stem f;let C:(gd ts x).bs.length<=2:=A 0 (by rw[zR];lia)
  let v:l.length+m.length=1:=by rw[q] at C w;simp at C w;lia
  let n:=OC r u f;obtain⟨g,o,a,k⟩:∃(g:Bool)(o:Nat),(gd ts x).bs=(if g=true then [o,c] else [c,o])/\l.length=(if g=true then 1 else 0):=by
   cases l with
   | nil=>
    match m,v with
    | [o],_=>exact⟨false,o,q,Z⟩
   | cons o l=>
    cases l with
    | nil=>
     cases m with
     | nil=>exact⟨true,o,q,Z⟩
     | cons=>simp at v
    | cons=>simp at v;lia
  let D:o∈(gd ts x).bs:=by rw[a];cases g <;> simp
  let O:o≠c:=λy=>by rw[a,y] at n;cases g <;> simp at n
  let F:VS ts (x,l.length)=o:=by
   unfold VS;dsimp only;rw[a,k];cases g <;> rfl
  let P:=(z o D).2;let G:(gd ts c).h≠0->(gd ts o).bs.length<=3:=λy=>by
   let V:=d.one y;have:=B 0 (by rw[zR];lia)
   rw[show sN ((x,l.length)::W) 0=(x,l.length) from rfl,F] at this;have:=((r o (z o D).1).stem ∅).2.1
   lia
  refine⟨_,_,_,by rw[k];exact VR.stem f a G p,?_,λb s=>?_⟩
  ·let M:o∉N:=λy=>by
    rcases t o y with e | e
    ·exact O e
    ·lia
   refine yW.mpr ⟨λy=>?_,yW.mpr ⟨M,K⟩⟩;rcases zU.mp y with e | e
   ·rw[e] at P;lia
   ·rcases t x e with i | i
    ·rw[<-i] at H;lia
    ·lia
  ·rcases zU.mp s with e | e
   ·exact .inl e
   ·refine .inr ?_;rcases zU.mp e with e | e
    ·rw[e];lia
    ·rcases t b e with i | i
     ·rw[i];lia
     ·lia
end
structure HR(X X':Zd)(r g x:Nat)(up:jj)(A B:jm)(sd:Bool):Prop where
 fst:WM X'.lv X'.ts X'.av X'.ho
 hr:r∈X'.lv
 tp:Tp X'.av X'.ho r
 lv:X'.lv=X.lv
 len:X'.ts.length=X.ts.length
 zip:∃ ps,Yq X'.ts r (g::up) ps A B
 tx:Tp X'.av X'.ho x
 low:∀ b,(gd X.ts b).h<=(gd X.ts x).h->gd X'.ts b=gd X.ts b
 hh:∀ b,(gd X'.ts b).h=(gd X.ts b).h
 rows:(gd X.ts r).rows=A++(if sd=true then (gd X.ts g).rows++(gd X.ts x).rows else (gd X.ts x).rows++(gd X.ts g).rows)++B
section
variable{X X1 X2:Zd}{r p0 p q g x t:Nat}{up0 ps0 l1 m1 bq:jj}{A0 B0:jm}{sq sx:Bool}
structure QD(X:Zd)(r p0 p q g x t:Nat)(up0 ps0 l1 m1 bq:jj)(A0 B0:jm)(sq sx:Bool):Prop where
 fst:WM X.lv X.ts X.av X.ho
 hr:r∈X.lv
 tp:Tp X.av X.ho r
 z0:Yq X.ts r (p0::up0) ps0 A0 B0
 h0:(gd X.ts p0).h≠0
 eb:(gd X.ts p0).bs=l1++(if sq=true then [q,p] else [p,q])++m1
 hp:(gd X.ts p).h≠0
 ep:(gd X.ts p).bs=(if sx=true then [g,x] else [x,g])
 eq:(gd X.ts q).bs=(if sq=true then bq++[t] else t::bq)
 l3:bq.length=3
theorem QD.nums(e:QD X r p0 p q g x t up0 ps0 l1 m1 bq A0 B0 sq sx):p0∈X.lv/\p∈X.lv/\q∈X.lv/\(gd X.ts p).h+1=(gd X.ts p0).h/\(gd X.ts q).h+1=(gd X.ts p0).h/\q∉l1/\p∉l1/\q∉m1/\p∉m1/\p≠q:=by
 let a:=(e.z0.facts e.fst.wf e.hr Z).1;let f:=OC e.fst.wf a e.h0;let b:=((e.fst.wf p0 a).stem e.h0).2.2.1;let c:p∈(gd X.ts p0).bs:=by rw[e.eb];cases sq <;> simp
 let d:q∈(gd X.ts p0).bs:=by rw[e.eb];cases sq <;> simp
 rw[e.eb] at f;exists a,(b p c).1,(b q d).1,(b p c).2,(b q d).2;cases sq <;> simp[xR,yW] at f <;> grind
theorem QD.one(e:QD X r p0 p q g x t up0 ps0 l1 m1 bq A0 B0 sq sx):(∃ h A B,Yq X.ts r (q::p0::up0) h A B/\(gd X.ts r).rows=A++(gd X.ts q).rows++B/\A=A0++ZV X.ts (if sq=true then l1 else l1++[p])/\B=ZV X.ts (if sq=true then p::m1 else m1)++B0):=by
 let⟨f,i,j,_,_,b,k,c,l,d⟩:=e.nums;cases sq
 ·let a:(gd X.ts p0).bs=(l1++[p])++q::m1:=by rw[e.eb];simp
  let z:=e.z0.down e.h0 a (by simp[b];exact Ne.symm d) c
  exact⟨_,_,_,z,(z.facts e.fst.wf e.hr rfl).2.2.1,Z,Z⟩
 ·let a:(gd X.ts p0).bs=l1++q::(p::m1):=by rw[e.eb];simp
  let z:=e.z0.down e.h0 a b (by simp[c];exact Ne.symm d)
  exact⟨_,_,_,z,(z.facts e.fst.wf e.hr rfl).2.2.1,Z,Z⟩
theorem QD.upn(e:QD X r p0 p q g x t up0 ps0 l1 m1 bq A0 B0 sq sx):∀ b∈p0::up0,(gd X.ts p0).h<=(gd X.ts b).h:=λb a=>by
 rcases zU.mp a with y | y
 ·rw[y];exact zY _
 ·exact xM ((e.z0.facts e.fst.wf e.hr rfl).2.1 b y).2
theorem QD.all(e:QD X r p0 p q g x t up0 ps0 l1 m1 bq A0 B0 sq sx):(gd X.ts p).rows=(if sx=true then (gd X.ts g).rows++(gd X.ts x).rows else (gd X.ts x).rows++(gd X.ts g).rows)/\(gd X.ts q).rows=(if sq=true then ZV X.ts bq++(gd X.ts t).rows else (gd X.ts t).rows++ZV X.ts bq)/\(gd X.ts r).rows=A0++(ZV X.ts l1++(if sq=true then (gd X.ts q).rows++(gd X.ts p).rows else (gd X.ts p).rows++(gd X.ts q).rows)++ZV X.ts m1)++B0:=by
 let⟨a,c,d,l,m,_⟩:=e.nums;let f:(gd X.ts p).rows=ZV X.ts (gd X.ts p).bs:=((e.fst.wf p c).stem e.hp).2.2.2;let b:(gd X.ts q).h≠0:=by have:=e.hp;lia
 let i:(gd X.ts q).rows=ZV X.ts (gd X.ts q).bs:=((e.fst.wf q d).stem b).2.2.2;let j:(gd X.ts p0).rows=ZV X.ts (gd X.ts p0).bs:=((e.fst.wf p0 a).stem e.h0).2.2.2;let k:=(e.z0.facts e.fst.wf e.hr Z).2.2.1;exists ?_,?_
 ·rw[f,e.ep];cases sx <;> simp[ZV]
 ·rw[i,e.eq];cases sq <;> simp[ZV]
 ·rw[k,j,e.eb];cases sq <;> simp[ZV]
theorem QD.two(e:QD X r p0 p q g x t up0 ps0 l1 m1 bq A0 B0 sq sx){D:jm}(C:NM X X1 r q (p0::up0) bq D):∃ I,Yq X1.ts r (p::p0::up0) I (A0++(ZV X.ts l1++(if sq=true then ZV X.ts bq else []))) ((if sq=true then [] else ZV X.ts bq)++ZV X.ts m1++B0):=by
 let⟨l,L,M,J,K,G,n,H,o,s⟩:=e.nums;let B:=e.upn;let u:q∉p0::up0:=λy=>by have:=B q y;lia
 let j:Yq X1.ts r (p0::up0) ps0 A0 B0:=e.z0.keep e.fst.wf e.hr Z (λi F=>⟨C.hh i,C.sh i λy=>u (y ▸ zO _ F)⟩) λb _ a m=>by
  rw[C.old b λy=>?_];rcases zU.mp y with y | y
  ·rw[y] at a;lia
  ·exact m y
 let c:(gd X1.ts p0).bs=(gd X.ts p0).bs:=C.sh p0 λy=>u (y ▸ zS);let d:(gd X1.ts p0).h≠0:=by rw[C.hh];exact e.h0
 let E:=((e.fst.wf p0 l).stem e.h0).2.2.1;let f:∀ b∈(gd X.ts p0).bs,b≠q->(gd X1.ts b).rows=(gd X.ts b).rows:=λb a m=>by
  rw[C.old b λy=>?_];rcases zU.mp y with y | y
  ·exact m y
  ·have:=B b y;have:=(E b a).2;lia
 let v:ZV X1.ts l1=ZV X.ts l1:=QY λb a=>f b (by rw[e.eb];simp[a]) λy=>G (y ▸ a)
 let w:ZV X1.ts m1=ZV X.ts m1:=QY λb a=>f b (by rw[e.eb];simp[a]) λy=>H (y ▸ a)
 let A:(gd X1.ts q).rows=ZV X.ts bq:=by rw[C.at_];rfl
 cases sq
 ·let k:(gd X1.ts p0).bs=l1++p::(q::m1):=by rw[c,e.eb];simp
  let z:=j.down d k n (by simp[o];exact s)
  exists l1.length::ps0;rw[Wl,v,w,A] at z;simpa using z
 ·let k:(gd X1.ts p0).bs=(l1++[q])++p::m1:=by rw[c,e.eb];simp
  let z:=j.down d k (by simp[n];exact s) o
  exists (l1++[q]).length::ps0;rw[Pb,Wl,v,w,A] at z;simpa [ZV] using z
theorem QD.hr'(e:QD X r p0 p q g x t up0 ps0 l1 m1 bq A0 B0 sq sx){A B:jm}(C:NM X X1 r q (p0::up0) bq A)(a:NM X1 X2 r p (p0::up0) (if sq=true then [t,g] else [g,t]) B)(N:x≠t)(M:x≠g)(v:t≠g)(n:Tp X2.av X2.ho r){m:jj}(w:Yq X2.ts r (p::p0::up0) m (A0++(ZV X.ts l1++(if sq=true then ZV X.ts bq else []))) ((if sq=true then [] else ZV X.ts bq)++ZV X.ts m1++B0)):
  HR X X2 r g x (p::p0::up0) (A0++(ZV X.ts l1++(if sq=true then ZV X.ts bq else []))++(if sq=true then (gd X.ts t).rows else [])) ((if sq=true then [] else (gd X.ts t).rows)++((if sq=true then [] else ZV X.ts bq)++ZV X.ts m1++B0)) sx:=by
 let⟨H,G,I,O,P,S,T,U,V,K⟩:=e.nums;let⟨D,E,F⟩:=e.all;let o:=e.upn;let l:(gd X.ts q).h≠0:=by have:=e.hp;lia
 let u:x∈(gd X.ts p).bs:=by rw[e.ep];cases sx <;> simp
 let J:t∈(gd X.ts q).bs:=by rw[e.eq];cases sq <;> simp
 let R:=(((e.fst.wf p G).stem e.hp).2.2.1 x u).2;let Q:=(((e.fst.wf q I).stem l).2.2.1 t J).2;let f:∀ b,(gd X.ts b).h<=(gd X.ts x).h->gd X1.ts b=gd X.ts b:=λb i=>C.old b λy=>by
  rcases zU.mp y with y | y
  ·rw[y] at i;lia
  ·have:=o b y;lia
 let c:∀ b,(gd X.ts b).h<=(gd X.ts x).h->gd X2.ts b=gd X.ts b:=λb i=>by
  rw[a.old b λy=>?_]
  ·exact f b i
  ·rcases zU.mp y with y | y
   ·rw[y] at i;lia
   ·have:=o b y;lia
 let L:p∉q::p0::up0:=λy=>by
  rcases zU.mp y with y | y
  ·exact K y
  ·have:=o p y;lia
 let k:gd X1.ts p=gd X.ts p:=C.old p L;let s:(gd X2.ts p).h≠0:=by rw[a.hh,C.hh];exact e.hp
 let d:(gd X2.ts p).bs=(if sq=true then [t,g] else [g,t]):=by rw[a.at_];rfl
 let rt:(gd X2.ts t).rows=(gd X.ts t).rows:=by rw[c t ∅]
 exists a.fst,by rw[a.lv,C.lv];exact e.hr,n,a.lv.trans C.lv,a.len.trans C.len,?_,a.gone x (by rw[k];exact u) (by cases sq <;> simp[N,M]),c,λb=>(a.hh b).trans (C.hh b)
 ·cases sq
  ·let j:(gd X2.ts p).bs=[]++g::[t]:=d;let z:=w.down s j (by simp) (by simp;exact Ne.symm v)
   rw[Wl,rt] at z;exact⟨0::m,by simpa [ZV] using z⟩
  ·let j:(gd X2.ts p).bs=[t]++g::[]:=d;let z:=w.down s j (by simp;exact Ne.symm v) (by simp)
   rw[Wl,rt] at z;exact⟨1::m,by simpa [ZV] using z⟩
 ·rw[F,D,E];cases sq <;> simp
end
theorem Dj{K:zZ}{p:ai}{c:jj}{n:Nat}{r:L2.St}{o:jj}{H:Hp}{q:TT}{Q:VK}(s:c.length<=900)(g:H p=some (.lst (iN c)))(e:∀ (a:Hp) (j:Nat) (R:Bool->Hp->Prop),j∈c->ZE H a->R (!decide (V.int (j:Nat)=V.int (n:Nat))) a->q (Qw r o (.int (j:Nat))) a R)(k:∀ (D:ai) (a:Hp),ZE H a->H D=none->a D=some (.lst (iN (c.filter λb=>decide (b≠n))))->Q (.ref D) a):WH (Pj K p) r o q (Uk 0) H Q:=
 FU c (λj=>decide (j≠n)) s (λi h d l=>⟨_,.int (c[i]:Nat),ZG.of (d _ _ g),by simp[iN,zQ l]⟩) (λi h x z d l m=>⟨m.1,m.2 _ (ZG.of (d _ _ g))⟩) (λh d=>⟨_,ZG.of (d _ _ g),by simp[iN]⟩) (λa j R u v t=>e a j R u v (by
  rw[show (!decide (V.int (j:Nat)=V.int (n:Nat)))=decide (j≠n) by
   rw[decide_not]
   congr 1
   exact decide_eq_decide.mpr ⟨λy=>by have:=V.int.inj y;lia,λy=>by rw[y]⟩]
  exact t)) k
theorem ZRT{R G:Prop}(h:R->G)(r:R):G:=h r
inductive Vc(jN jO:ai):Sp
 |mk{X:Zd}{h:ai}{i:je}{r k p q g x t:Nat}{b j s u o:jj}{m n:jm}{v l:Bool}{H:Hp}{Q:VK}{E:XK}:Zl jN jO H X.S X.d h X.lv X.ts X.av X.ho X.as X.kvs i->QD X r k p q g x t b j s u o m n v l->b.length<=700->i.length<=370000 ->
  (∀(e:Hp)(a:Zd)(c:je)(A B:jm),Go h H e X a->Zl jN jO e a.S a.d h a.lv a.ts a.av a.ho a.as a.kvs c->HR X a r g x (p::k::b) A B l->c.length<=i.length+1->Q .non e)->Vc jN jO [.ref X.S,.int (p:Nat),.int (g:Nat),.int (q:Nat)] H Q E
abbrev ZP7:jn:=["shelf","stem","left","lender","branches","lent"]
theorem PX:ZC ZP7 zE0 (ZY Ki):=Zp
theorem ZM5(F0:Zi K "exchange" "exchange" Ki f fd)(L:YT K mg jN jO)(DL:ZB P w K mg jQ ZM 2 jN "look" zEa (Yx jN jO))(DA:ZA P w K mg jQ 8 "stands_ahead" zEy (UM jN jO))(DC:ZB P w K mg jQ ZM 11 jN "change_stem" zEn (Wo jN jO)):ZI P w K mg jQ ZM 12 f fd zE0 (Vc jN jO):=by
 refine F0.ok PX (λvs H Q E h=>(by cases h;rfl)) (λe5 A c6 s H vs Q E hr h=>?_)
 let⟨R,e,u7,e8,k⟩:=h;rename_i X lk ls r p0 p q g x t e4 i3 l1 m1 o A0 B0 a sx
 let nd:=PX.nd;let c4:=hr.mono (show 2<=11 by lia)
 let a4:=hr.mono (show 8<=11 by lia)
 intro Xc;refine⟨_,ZL (Zj 4 nd (Xe K (Z0 (E:=E0) (pv 0) L.cS DL c4 Z3 (ZT (pv 3))) ZK))
  (ZL (Nn (i:=5) nd rfl (Or.inr rfl) (MO (Y5 (Zc DA a4 (Vm (pv 0) (pv 3) (pv 1)))) (Z8 K (pv 4) (Qq Qk ZK)) (Z8 K (pv 4) ZK)))
  (ZL (Ye (Z0 (E:=E0) (pv 0) L.cS DC hr Z3 (Zq (pv 3) (Vn [5] ["lent"] rfl (WD (pv 4)) (λ_ _ _ _ _=>Od (YX Nd (pv 0) (pv 1) Z)) (λ_ _ _ _ _=>pv 0) ⟨rfl,.inl rfl,rfl,trivial⟩))))
  (ZR (Ye (Z0 (E:=E0) (pv 0) L.cS DC hr Z3 (Zq (pv 1) (MO (Y5 (Zc DA a4 (Vm (pv 0) (pv 5) (pv 2)))) (Yr (Zq (pv 5) (pv 2))) (Yr (Zq (pv 2) (pv 5)))))))))),?_⟩
 let⟨e9,M,N,e1,e2,n1,n2,n3,n4,n5⟩:=e.nums;let⟨a1,a2,a3⟩:=e.all;let⟨i4,A1,B1,z1,c0,e6,e7⟩:=e.one;let F:=e.fst;let v:(gd X.ts q).h≠0:=by have:=e.hp;lia
 let lq:(gd X.ts q).bs.length=4:=by rw[e.eq];have:=e.l3;cases a <;> simp[this]
 let a6:=OC F.wf N v;let tb:t∉o:=λy=>by rw[e.eq] at a6;cases a <;> simp[xR] at a6 <;> grind
 let fl:(gd X.ts q).bs.filter (λb=>decide (b≠t))=o:=by
  let fb:o.filter (λb=>decide (b≠t))=o:=vX.mpr λb d=>aI λy=>tb (y ▸ d);rw[e.eq];cases a
  ·show List.filter _ (t::o)=o;rw[sL (by simp),fb]
  ·show List.filter _ (o++[t])=o;rw[xG,fb];simp
 let D:Up (gd X.ts r).rows:=(F.wf r e.hr).up;let⟨dS,hS⟩:=R.sh.self;exists _,Z,X.S,dS,_,Z,hS,Z,_,Z,X,lk,X.ts.length,ls,q,Z,R.q,N,by lia
 intro H1 c9 bl i7 c1 R1 c5 i2 J _ w1;let w1:=w1 v;subst w1;let O:=R.lkd R1;let G1:Go lk H H1 X X:=.looks c1;exists c9,_,_,_,Z,Z,Zs.of c5,Z;let c8:(Zr (gd X.ts q)).lo.lt (Zr (gd X.ts p)).lo=a:=by
  let nq:=(F.wf q N).ne;let np:=(F.wf p M).ne;rw[a3] at D;cases a
  ·exact Pm _ _ (NS np nq (Qc D ((((yU.refl _).trans (xV _ _)).trans (xP _ _)).trans ((xV A0 _).trans (xP _ B0)))))
  ·exact NS nq np (Qc D ((((yU.refl _).trans (xV _ _)).trans (xP _ _)).trans ((xV A0 _).trans (xP _ B0))))
 refine⟨_,Z,_,Z,_,Z,.mk O F.wf N M λH2 s2=>⟨a,by rw[c8],?_⟩⟩
 apply ZRT
 ·intro go;refine Vg (λc=>?_) (λc=>?_)
  ·let U:=e.eq;rw[aK c] at U;exact⟨_,Z,1,Z,.inl ⟨bl,_,-1,.int (t:Nat),Z,Z,ZG.of (s2 _ _ J),by rw[U];exact NI o t,go⟩⟩
  ·let U:=e.eq;rw[aJ c] at U;exact⟨_,Z,.inl ⟨bl,_,0,.int (t:Nat),Z,Z,ZG.of (s2 _ _ J),by rw[U];exact XH (j:=0) Z,go⟩⟩
 let R2:=O.same s2;let a0:=s2 _ _ J;let⟨a8,c2⟩:=R2.sh.self;refine⟨_,Z,X.S,a8,_,Z,c2,Z,_,Z,_,Z,bl,Z,⟨_,ZG.of a0⟩,Dj (n:=t) ∅ a0 (λHq j Rq hj i6 hR=>⟨_,Z,_,Z,Z,_,Z,hR⟩) λD3 H3 s3 i1 Y=>?_⟩
 rw[fl] at Y;let R3:=R2.same s3;let U1:Up (A1++ZV X.ts o++B1):=by
  rw[c0] at D;refine Qc D (((yU.refl A1).append ?_).append (yU.refl B1));rw[a2];cases a
  ·exact xV _ _
  ·exact xP _ _
 let T:∀ b∈o,b∈(gd X.ts q).bs:=λb d=>by rw[e.eq];cases a <;> simp[d]
 let I:=((F.wf q N).stem v).2.2.1;refine .mk (X:=X) R3 F e.hr e.tp z1 (by rw[zR];lia) v Y (λb d=>I b (T b d)) (by rw[e.l3];lia) (by rw[e.l3];lia) (λb d=>absurd (T b (yN.mp d).1) (of_decide_eq_true (yN.mp d).2)) U1 λH4 m G4 R4 l e0 z4=>?_
 let a7:Go lk H H4 X m:=((G1.trans (Go.same s2)).trans (Go.same s3)).trans G4;let⟨i5,z5⟩:=e.two l;let un:=e.upn;let mg:g∈(gd X.ts p).bs:=by rw[e.ep];cases sx <;> simp
 let mx:x∈(gd X.ts p).bs:=by rw[e.ep];cases sx <;> simp
 let mt:t∈(gd X.ts q).bs:=by rw[e.eq];cases a <;> simp
 let G:=((F.wf p M).stem e.hp).2.2.1;let pn:p∉q::p0::e4:=λy=>by
  rcases zU.mp y with y | y
  ·exact n5 y
  ·have:=un p y;lia
 let B:∀ b,(gd X.ts b).h+1=(gd X.ts p).h->gd m.ts b=gd X.ts b:=λb d=>l.old b λy=>by
  rcases zU.mp y with y | y
  ·rw[y] at d;lia
  ·have:=un b y;lia
 let i0:=(I t mt).2;let eg:=B g (G g mg).2;let et:=B t ∅
 let ep:=l.old p pn;let tg:t≠g:=λy=>by
  let W:=(F.hb q N t mt).1;let h2:=(F.hb p M g mg).1;rw[y,h2] at W;cases W;exact n5 Z
 let xt:x≠t:=λy=>by
  let W:=(F.hb q N t mt).1;let h2:=(F.hb p M x mx).1;rw[<-y,h2] at W;cases W;exact n5 Z
 let xg:x≠g:=λy=>by
  have:=OC F.wf M e.hp;rw[e.ep,y] at this;cases sx <;> simp at this
 let⟨a9,c3⟩:=R4.sh.self;rw[show X.S=m.S from G4.S.symm];let F4:=l.fst;let p4:p∈m.lv:=by rw[l.lv];exact M
 let g4:g∈m.lv:=by rw[l.lv];exact(G g mg).1
 let t4:t∈m.lv:=by rw[l.lv];exact(I t mt).1
 let U2:Up ((A0++(ZV X.ts l1++(if a=true then ZV X.ts o else [])))++ZV m.ts (if a=true then [t,g] else [g,t])++((if a=true then [] else ZV X.ts o)++ZV X.ts m1++B0)):=by
  rw[a3,a2,a1] at D;refine Qc D ?_;let sg:(gd X.ts g).rows.Sublist (if sx=true then (gd X.ts g).rows++(gd X.ts x).rows else (gd X.ts x).rows++(gd X.ts g).rows):=by
   cases sx
   ·exact xV _ _
   ·exact xP _ _
  cases a
  ·simp only[xN,if_false,Wl,et,eg,show ZV m.ts []=[] from rfl,yS,xH,uM];exact(yU.refl _).append ((yU.refl _).append (sg.append (yU.refl _)))
  ·simp only[if_true,Wl,et,eg,show ZV m.ts []=[] from rfl,yS,xH,uM];exact(yU.refl _).append ((yU.refl _).append ((yU.refl _).append ((yU.refl _).append (sg.append (yU.refl _)))))
 let c7:(Zr (gd m.ts t)).lo.lt (Zr (gd m.ts g)).lo=a:=by
  let nt:=(F4.wf t t4).ne;let ng:=(F4.wf g g4).ne;let U3:=Qc U2 ((xV _ _).trans (xP _ _));cases a
  ·exact Pm _ _ (NS ng nt (by simpa [ZV] using U3))
  ·exact NS nt ng (by simpa [ZV] using U3)
 refine⟨_,Z,m.S,a9,_,Z,c3,Z,_,Z,_,Z,_,Z,_,Z,.mk R4 F4.wf t4 g4 λH5 s5=>⟨a,by rw[c7],?_⟩⟩
 let a5:∀ b∈(if a=true then [t,g] else [g,t]),b=t\/b=g:=λb d=>by cases a <;> simp at d <;> lia
 let V:∀(C:ai)(z:Hp),ZE H5 z->z C=some (.lst (iN (if a=true then [t,g] else [g,t])))->Wo jN jO [.ref m.S,.int (p:Nat),.ref C] z (λ_ H'=>Q .non H') E0:=λC z s6 u=>by
  refine .mk (X:=m) ((R4.same s5).same s6) F4 (by rw[l.lv];exact e.hr) e0 z5 (by rw[zR];lia) (by rw[l.hh];exact e.hp) u (λb d=>?_) (by cases a <;> exact zY _) (by cases a <;> simp) (λb d=>?_) U2 λH7 X7 G7 R7 C7 e3 z7=>?_
  ·rcases a5 b d with y | y
   ·rw[y];exact⟨t4,by rw[l.hh,l.hh];lia⟩
   ·rw[y];exact⟨g4,by rw[l.hh,l.hh];exact(G g mg).2⟩
  ·let⟨y1,y2⟩:=yN.mp d;rcases a5 b y1 with y | y
   ·rw[y];exact l.gone t mt tb
   ·rw[y,ep] at y2;exact absurd mg (of_decide_eq_true y2)
  ·exact k H7 X7 _ _ _ ((a7.trans (Go.same (s5.trans s6))).trans G7) R7 (e.hr' l C7 xt xg tg e3 z7) (by simp)
 refine Vg (λc=>?_) (λc=>?_)
 ·exists _,Z,_,Z,YS;intro C n6;let⟨z,eU,g6,u⟩:=Y8 n6 (.lst [.int (t:Nat),.int (g:Nat)]);rw[eU];exact V C z g6 (by rw[aK c];exact u)
 ·exists _,Z,_,Z,YS;intro C n6;let⟨z,eU,g6,u⟩:=Y8 n6 (.lst [.int (g:Nat),.int (t:Nat)]);rw[eU];exact V C z g6 (by rw[aJ c];exact u)
theorem ZIX(a:je)(n:Nat)(h:n<=a.length):QM a (some (n:Int)) none=a.drop n:=by
 unfold QM;rw[HT.sIx_nat,HT.sIx_none,uN h];exact yV (by rw[yE];exact zY _)
theorem ZN4(a:je)(n:Nat)(h:n<=a.length):QM a none (some (n:Int))=a.take n:=by
 unfold QM;rw[HT.sIx_nat,HT.sIx_none,uN h];rfl
theorem Paired.drop'{a b:Type}{F:a->b->Prop}:∀{l:List a}{m:List b}(n:Nat),Paired F l m->Paired F (l.drop n) (m.drop n)
 | _,_,0,h=>h
 | _,_,n+1,.nil=>.nil
 | _,_,n+1,.cons _ h=>Paired.drop' n h
theorem Paired.take'{b c:Type}{F:b->c->Prop}:∀{l:List b}{m:List c}(n:Nat),Paired F l m->Paired F (l.take n) (m.take n)
 | _,_,0,h=>.nil
 | _,_,n+1,.nil=>.nil
 | _,_,n+1,.cons a h=>.cons a (Paired.take' n h)
abbrev Hd:jn:=["shelf","steps","first","owned","branches","heir","lender"]
theorem OQ:ZC Hd zEl (ZY Nv):=Zp
def ZRZ(jN jO g:ai)(H:Hp)(X:Zd)(h:je)(W:jq)(r:Nat)(Q:VK):Prop:=
 ∀(c:Hp)(a:Zd)(b:je)(e:jp)(A B:jm),Go g H c X a->Zl jN jO c a.S a.d g a.lv a.ts a.av a.ho a.as a.kvs b->WM a.lv a.ts a.av a.ho->(∀ i,e=some i->i∈a.lv/\Tp a.av a.ho i)->(gd X.ts r).rows=A++(gd X.ts (W.getLastD (0,0)).1).rows++B->Yi a.ts e=A++B->b.length<=h.length+60->a.ts.length=X.ts.length->a.lv.length<=X.lv.length->Q (XJ e) c
theorem ZMX{cdv:ah}{A:aw}{outer:jt}{s:aj}{Hs:Hp}{E:XK}(DH:ZA P w K mg jQ 33 "hand_down" zEf (XI 20 jN jO))(hr:ZU 34 (A.deeper (envOfC "without_leaf" (ZY Nv) s.heap.objs.size f cdv))):
  ∃ t,XV (Xy ZM P w K mg jQ Hd "without_leaf" (ZY Nv) f cdv A outer s Hs E).nox ((Xg Nv).drop 6) t/\∀(D0:YH)(H:Hp)(X m:Zd)(C D F:ai)(ls G:je)(r g x n:Nat)(i up N:jj)(A B L R:jm)(sd:Bool)(W:jq)(v4 v6:jf)(Q:Hp->Prop),
   Zl jN jO H m.S m.d C m.lv m.ts m.av m.ho m.as m.kvs ls->WF X.lv X.ts->HR X m r g x up A B sd->r∈X.lv->x∈X.lv->x≠r->(gd X.ts x).h=(gd X.ts g).h->g≠x->(∀ b∈up,(gd X.ts x).h<(gd X.ts b).h)->((gd X.ts x).h≠0->(gd X.ts g).bs.length<=3)->n<=W.length->up.length+W.length<=600->W.length<=20->ls.length<=369000 ->
   VR X.ts x (W.drop n) N L R->N.Nodup->(∀ b∈N,b=x\/(gd X.ts b).h<(gd X.ts x).h)->H D=some (.lst G)->Z2 m C D->Paired (Xh m C H X.ts) W G->H F=some (.lst (iN i))->Z2 m C F->i.head? = some r ->
   (∀(H':Hp)(k:Zd)(Y:je),Go C H H' m k->Zl jN jO H' k.S k.d C k.lv k.ts k.av k.ho k.as k.kvs Y->WM k.lv k.ts k.av k.ho->r∈k.lv->Tp k.av k.ho r->(gd k.ts r).rows=A++(if sd=true then (gd X.ts g).rows++(L++R) else (L++R)++(gd X.ts g).rows)++B->Y.length<=ls.length+20->k.ts.length=X.ts.length->k.lv.length<=X.lv.length->D0.rt (.int (r:Nat)) H') ->
   t D0 [some (.ref m.S),some (.ref D),some (.int (n:Int)),some (.ref F),v4,some (.int (g:Int)),v6] H:=by
 let T:=hr.mono (show 33<=34 by lia)
 refine⟨_,ZL (Ye (Zc DH T (QI (pv 0) (Z8 K (pv 3) (Qq Qk ZK)) (pv 5) (O0 O8 (pv 1) (Pi (pv 2)) Ma))))
  (ZR (Zh (Z8 K (pv 3) ZK))),λD0 H X m C D F ls G r g x n i up N A0 B0 L0 R0 sd W v4 v6 Q R wf c a3 hx xr a5 gx a4 b3 c1 u6 c2 c0 pt a7 hN hD oD U O a8 hn q=>?_⟩
 obtain⟨ns,en⟩:∃ ns,i=r::ns:=by
  cases i with
  | nil=>cases hn
  | cons a l=>cases hn;exact⟨l,Z⟩
 obtain⟨nl,y,ey⟩:∃ nl y,i=nl++[y]:=⟨_,_,(sH (l:=i) (by rw[en];simp)).symm⟩
 let lw:=Paired.length U;refine⟨_,Z,_,Z,1,Z,.inl ⟨F,_,-1,.int (y:Nat),Z,Z,ZG.of O,by rw[ey];exact NI nl y,_,Z,_,Z,_,Z,_,Z,D,G,Z,ZG.of hD,λD6 n6=>?_⟩⟩
 rw[ZIX G n ∅]
 let⟨H6,eU,M,a1⟩:=Y8 n6 (.lst (G.drop n));rw[eU];let⟨ps,z⟩:=c.zip;let J:=c.low x (zY _);let u:=c.low g ∅
 let o:∀ b∈N,gd m.ts b=gd X.ts b:=λb hb=>c.low b (by rcases hN b hb with e | e;rw[e];exact zY _;exact xM e)
 let Ur:Up (gd X.ts r).rows:=(wf r a3).up;rw[c.rows] at Ur;refine .mk (X:=m) (ts0:=X.ts) (sd:=sd) (W:=W.drop n) (by rw[yE];lia) (R.same M) c.fst c.hr c.tp z (by rw[yE];lia) (by rw[c.lv];exact hx) c.tx xr (by rw[c.hh,c.hh];exact a5) (pt.like o) a7 (λb hb=>?_) (by rw[J,u];exact b3) (by rw[J,u];exact Ur) a1 (R.new n6) (Paired.drop' n (Paired.mapP U λp v y=>y.go (Go.same M) (ZE.tups M))) (λp hp=>(o _ (pt.wn p hp)).symm) (by rw[yE];lia) λH7 X7 a6 G7 R7 F7 r7 t7 I f7 a9 a0=>?_
 ·intro y;rcases zU.mp y with y | y
  ·rcases hN b hb with e | e
   ·exact gx (y.symm.trans e)
   ·rw[y] at e;lia
  ·have:=a4 b y;rcases hN b hb with e | e
   ·rw[e] at this;lia
   ·lia
 ·rw[u] at I;let a2:=G7.fr _ _ a8 (M _ _ O);rw[yE] at f7;refine⟨_,Z,.inl ⟨F,_,0,.int (r:Nat),Z,Z,ZG.of a2,by rw[en];exact XH (j:=0) Z,q H7 X7 a6 ((Go.same M).trans G7) R7 F7 r7 t7 I ∅ (a9.trans c.len) (by rw[c.lv] at a0;exact a0)⟩⟩
inductive U5(jN jO:ai):Sp
 |mk{X:Zd}{a D:ai}{b c:je}{r:Nat}{W:jq}{H:Hp}{Q:VK}{E:XK}:Zl jN jO H X.S X.d a X.lv X.ts X.av X.ho X.as X.kvs b->WM X.lv X.ts X.av X.ho->r∈X.lv->Tp X.av X.ho r->Dn X.ts r W->W.length<=20->b.length<=368000->H D=some (.lst c)->Z2 X a D->Paired (Xh X a H X.ts) W c->ZRZ jN jO a H X b W r Q->U5 jN jO [.ref X.S,.ref D] H Q E
theorem ZQB{X:Zd}{r:Nat}{W:jq}(F:WF X.lv X.ts)(b:r∈X.lv)(d:Dn X.ts r W):Lk X W:=⟨d.lvs F b,λp a=>⟨(d.st F b p a).1,(d.st F b p a).2.1⟩,λp a=>(d.st F b p ∅).2.2 a⟩
theorem K7{W:jq}{n j:Nat}:sN (W.drop n) j=sN W (n+j):=by
 show (W.drop n).getD j (0,0)=W.getD (n+j) (0,0);rw[zV,zV,tH]
theorem HX{l m:jj}{x g:Nat}(h:(l++x::m)[if 0<l.length then l.length-1 else 1]? = some g):(∃ a,l=a++[g])\/(l=[]/\∃ d,m=g::d):=by
 rcases uX l with z | ⟨a,b,z⟩
 ·subst z;refine .inr ⟨Z,?_⟩
  cases m with
  | nil=>simp at h
  | cons c d=>simp at h;exact⟨d,by rw[h]⟩
 ·rw[uZ] at z;subst z;refine .inl ⟨a,?_⟩;rw[aK (by simp),xH,wP (by simp)] at h
  simp at h;rw[h]
theorem FM{X:Zd}{x a:Nat}{W:jq}(F:WF X.lv X.ts)(g:x∈X.lv)(e:GB X.ts W a)(d:Dn X.ts x (W.drop a)):∃ N L R,VR X.ts x (W.drop a) N L R/\N.Nodup/\(∀ b∈N,b=x\/(gd X.ts b).h<(gd X.ts x).h):=by
 refine ZOT F d g (λj c=>?_) (λj c=>?_)
 ·rw[yE] at c;have:=e.2.1 (a+j) ∅ ∅
  unfold clo at this;rw[sW] at this;rw[K7];have:=of_decide_eq_false this.1
  lia
 ·rw[yE] at c;have:=e.2.1 (a+j+1) ∅ ∅
  unfold clo at this;rw[sW,rV] at this;rw[K7];rcases this.2 with y | y
  ·exact absurd (of_decide_eq_false y) ∅
  ·exact of_decide_eq_false y
theorem ZKA{W:jq}{n:Nat}(h:n<W.length):(W.drop n).getLastD (0,0)=W.getLastD (0,0):=by
 rw[rL,rL,List.getLast?_drop,aJ ∅]
theorem AD(F0:Zi K "without_leaf" "without_leaf" Nv f fd)(T:YL mg)(L:YT K mg jN jO)(DF:ZA P w K mg jQ 5 "first_that_goes" zEl (WR jN jO))(DR:ZA P w K mg jQ 34 "hand_down" zEf (WS jN jO))(DH:ZA P w K mg jQ 33 "hand_down" zEf (XI 20 jN jO))(DW:ZA P w K mg jQ 6 "own_way" zEl (Yv jN jO))(DB:ZA P w K mg jQ 1 "branches_of" zEv Yo)(DN:ZA P w K mg jQ 2 "neighbour" zEv UI)(DC:ZB P w K mg jQ ZM 11 jN "change_stem" zEn (Wo jN jO))(DO:ZA P w K mg jQ 5 "own" zEj (WU jN jO))(DX:ZA P w K mg jQ 12 "exchange" zE0 (Vc jN jO)):ZI P w K mg jQ ZM 35 f fd zEl (U5 jN jO):=by
 refine F0.ok OQ (λvs H Q E h=>(by cases h;rfl)) (λo6 A e9 s H vs Q E hr h=>?_)
 let⟨R,F,k,tp,d,o3,few,hD,oD,c9,q⟩:=h;rename_i X lk D ls Y r W
 let nd:=OQ.nd;let r4:=hr.mono (show 1<=34 by lia)
 let m7:=hr.mono (show 2<=34 by lia)
 let m8:=hr.mono (show 5<=34 by lia)
 let r6:=hr.mono (show 6<=34 by lia)
 let m5:=hr.mono (show 11<=34 by lia)
 let m6:=hr.mono (show 12<=34 by lia)
 let⟨t0,m0⟩:=T.few;let⟨tt,ht,hk⟩:=ZMX (jN:=jN) (jO:=jO) (P:=P) (w:=w) (K:=K) (jQ:=jQ) (f:=f) (cdv:=o6) (A:=A) (outer:=e9) (s:=s) (Hs:=H) (E:=E) DH hr;intro Xc;refine⟨_,ZL (Nn (i:=2) nd rfl (Or.inr rfl) (Zc DF m8 (Zq (pv 0) (pv 1))))
  (ZL (Z1 (YX Vp (pv 2) ZK (YG _)) (ZR (Zh (Zc DR hr (QI (pv 0) Pl Pl (pv 1))))) Z5)
  (ZL (Zj 3 nd (Zc DW r6 (Zq (pv 0) (O0 O8 (pv 1) Ma (Pi (pv 2))))))
  (ZL (Zj 4 nd (Zc DB r4 (ZT (Z8 K (pv 1) (Zx VE (pv 2) ZK)))))
  (ZL (Zj 5 nd (Zc DN m7 (ZT (Z8 K (pv 1) (Zx VE (pv 2) ZK)))))
  (ZL (Z1 (YX Uo (YC Xm rfl T.len Xa (ZT (pv 4))) (WL (v:=.int 2) rfl m0 ⟨_,rfl⟩) (YG _))
   (ZR (Ye (Z0 (E:=E0) (pv 0) L.cS DC m5 Z3 (Zq (Z8 K (pv 3) (Qq Qk ZK)) (Vn [1,2] ["steps","first"] rfl (WD (pv 4)) (λ_ _ _ _ _=>Od (YX Nd (pv 0) (Xe K (Z8 K (pv 1) (pv 2)) ZK) Z)) (λ_ _ _ _ _=>pv 0) ⟨rfl,.inl rfl,rfl,rfl,.inl rfl,rfl,trivial⟩)))))
   (ZL (Zj 6 nd (Zc DO m8 (Vm (pv 0) (Z8 K (pv 3) (Qq Qk ZK)) (Zc DN m7 (ZT (Z8 K (pv 1) (Zx VE (pv 2) ZK)))))))
   (ZR (Ye (Zc DX m6 (QI (pv 0) (Z8 K (pv 3) (Qq Qk ZK)) (pv 5) (pv 6))))))) ht))))),?_⟩
 let lw:=Paired.length c9;let w1:1<=W.length:=by let⟨_,_,e⟩:=d.ne;rw[e];simp
 let wy:=ZQB F.wf k d;refine⟨_,Z,_,Z,.mk R F.wf hD oD c9 wy w1 ∅ λH1 n0 c G1 R1 f1 fr=>⟨_,Z,Z,_,Z,?_⟩⟩
 let m1:=G1.tups R;let c8:=G1.fr _ _ oD hD;let a4:=Paired.mapP c9 λ_ _ z=>Xh.go z G1 m1;by_cases f0:c=0
 ·subst f0;let⟨N,L0,R0,pt,e4,hN⟩:=FM F.wf k fr (by exact d)
  let er:=pt.rows F.wf k;refine Z7 ⟨_,Z,_,Z,.mk o3 R1 F k tp pt e4 c8 oD a4 (λ_ _=>rfl) ∅ λH2 X2 s1 r2 G2 R2 F2 t2 p1 f2 t1 s4=>?_⟩
  exact q H2 X2 s1 r2 L0 R0 (G1.trans G2) R2 F2 t2 er p1 (by have:(W.drop 0).length=W.length:=rfl;lia) t1 s4
 ·rw[aH (λy=>f0 (by have:=V.int.inj y;lia))]
  let l9:=fr.1;let⟨p,up,ps,Ap,Bp,dp,zp,i9⟩:=d.cut F.wf k .root (c-1) ∅
  rw[yS] at i9;let⟨hp,p8,c7,fhp⟩:=zp.facts F.wf k Z;let B:=dp.two (by rw[yE];lia)
  obtain⟨x,l,m,C,xl,xm,dx,ew⟩:∃ x l m,(gd X.ts p).bs=l++x::m/\x∉l/\x∉m/\Dn X.ts x (W.drop c)/\sN W (c-1)=(p,l.length):=by
   let e1:W.drop (c-1)=sN W (c-1)::W.drop c:=by
    have:=wZ (l:=W) (i:=c-1) ∅
    rw[this,show c-1+1=c by lia]
    congr 1
    have:=Nc (W:=W) (p:=c-1) ∅
    rw[zQ ∅] at this
    exact yZ.inj this
   rw[e1] at dp;generalize W.drop c=W2 at dp;generalize hs:sN W (c-1)=sp at dp
   cases dp with
   | leaf h=>exact absurd h B
   | stem _ C n1 n2 d2=>exact⟨_,_,_,C,n1,n2,d2,Z⟩
  let⟨hx,r9⟩:=Dn.br F.wf hp B C;let⟨b2,b4,b3,rp⟩:=(F.wf p hp).stem B;let r3:l.length<(gd X.ts p).bs.length:=by rw[C];simp
  let⟨N,L0,R0,pt,e4,hN⟩:=FM F.wf hx fr dx;let er:=pt.rows F.wf hx;rw[ZKA l9] at er;let⟨en,gl,gh⟩:=Ku F.wf hp B r3;generalize hg:VS X.ts (p,l.length)=g at en gl gh;let s5:=OC F.wf hp B;let sp:=HX (by rw[<-C];exact en)
  let gx:g≠x:=λy=>by
   rcases sp with ⟨l',e⟩ | ⟨_,m',e⟩
   ·exact xl (by rw[e,y];simp)
   ·exact xm (by rw[e,y];simp)
  let o5:(gd X.ts x).h≠0->(gd X.ts g).bs.length<=3:=λy=>by
   let l2:=dx.one y;rw[yE] at l2;have:=fr.2.1 c (zY _) ∅
   unfold clo at this;rw[sW,rV,ew,hg] at this;let h4:=((F.wf g gl).stem ∅).2.1
   rcases this.2 with z | z
   ·exact absurd (of_decide_eq_false z) ∅
   ·have:=of_decide_eq_false z
    lia
  let⟨dS1,hS1⟩:=R1.sh.self;refine Zm ⟨_,Z,_,Z,_,Z,(c:Int),Z,D,Y,Z,ZG.of c8,λD2 n2=>?_⟩;rw[ZN4 Y c ∅]
  let⟨H2,eU,g2,p9⟩:=Y8 n2 (.lst (Y.take c));rw[eU];let m9:Paired (Q2 H2) (W.take c) (Y.take c):=Paired.take' c (Paired.mapP a4 λa u z=>by
   let⟨t,fv,e,h,_⟩:=z;exact⟨t,fv,e,g2 _ _ h⟩)
  refine .mk (R1.same g2) p9 m9 (λa ha=>?_) (by rw[xU];lia) λH3 D5 s3 n5 a3=>?_
  ·let⟨i,hi⟩:=wF ha;let il:=(zB.mp hi).1;rw[xU] at il;let⟨y,upy,psy,Ay,By,dy,zy,p6⟩:=d.cut F.wf k .root i ∅
   let⟨s7,W',ey⟩:=dy.ne;have:a.1=y:=by
    rw[tG,aK ∅] at hi
    let e2:(W.drop i)[0]? = some a:=by rw[tH];exact hi
    rw[ey] at e2;cases e2;rfl
   rw[this];exact⟨_,zy.rd F.wf k F.hb tp Z,by rw[p6,zR];simp;lia⟩
  let a6:=g2.trans s3;let R3:=R1.same a6;let G3:Go lk H H3 X X:=G1.trans (Go.same a6);let M:=a6 _ _ c8;let I:Paired (Xh X lk H3 X.ts) W Y:=Paired.mapP a4 λ_ _ z=>Xh.go z (Go.same a6) (ZE.tups a6);let n8:Z2 X lk D5:=(R1.same g2).new n5;let⟨u,eu,su⟩:=Xh.at_ I (show c-1<W.length by lia)
  rw[ew] at su;let⟨bl,i2,obl⟩:=su.sp B;let⟨h1,h2,h3⟩:=id i2;rename_i tu fvu kdu
  let e1:((c:Nat):Int)-1=((c-1:Nat):Int):=∅
  let i5:WN Y (((c:Nat):Int)-1)=some (V.ref tu):=by rw[e1];exact XH eu
  refine⟨_,Z,_,Z,_,_,Z,Z,.inl ⟨D,Y,((c:Nat):Int)-1,_,Z,Z,ZG.of M,i5,.mk i2 ?_⟩⟩;refine⟨_,Z,_,Z,_,_,Z,Z,.inl ⟨D,Y,((c:Nat):Int)-1,_,Z,Z,ZG.of M,i5,.mk (b:=g) i2 en ?_⟩⟩;let lI:(iN (gd X.ts p).bs).length=(gd X.ts p).bs.length:=zX _;exists _,Z,bl,_,Z,.inl (ZG.of h3),_,_,Z,Z,_,Z;let a5:(W.take c).map (·.1)=((W.take (c-1)).map (·.1))++[p]:=by
   let e2:W.take c=W.take (c-1)++[sN W (c-1)]:=by
    have:=yR (l:=W) (i:=c-1);rw[Nc ∅,show c-1+1=c by lia] at this
    exact this
   rw[e2,ew];simp
  let xr:x≠r:=λy=>by rw[y] at r9;lia
  let r1:((W.take c).map (·.1)).head? = some r:=by
   let⟨s7,W',e2⟩:=d.ne;rw[e2]
   cases c with
   | zero=>exact absurd Z f0
   | succ n=>rfl
  let lup:up.length=c-1:=by rw[i9];simp;lia
  let Ur:Up (gd X.ts r).rows:=(F.wf r k).up;let l6:∀(H4:Hp)(J:Zd)(a8:je)(a7:jj)(A4 B4:jm)(sd:Bool)(x6:jf),Go lk H3 H4 X J->Zl jN jO H4 J.S J.d lk J.lv J.ts J.av J.ho J.as J.kvs a8->HR X J r g x a7 A4 B4 sd->(∀ b∈a7,(gd X.ts x).h<(gd X.ts b).h)->a7.length<=500->a8.length<=n0.length+2->tt { nx:=λ_ H'=>Q .non H',rt:=Q } [some (.ref X.S),some (.ref D),some (.int (c:Int)),some (.ref D5),some (.ref bl),some (.int (g:Int)),x6] H4:=λH4 J a8 a7 A4 B4 sd x6 G4 R4 hh r8 l5 f4=>by
   let m4:=G4.tups R3;rw[show X.S=J.S from G4.S.symm];refine hk _ H4 X J lk D D5 a8 Y r g x c _ a7 N A4 B4 L0 R0 sd W _ x6 (λ_=>True) R4 F.wf hh k hx xr ∅ gx r8 o5 ∅ ∅ o3 ∅ pt e4 hN (G4.fr _ _ oD M) (G4.off _ _ oD M) (Paired.mapP I λ_ _ z=>Xh.go z G4 m4) (G4.fr _ _ n8 a3) (G4.off _ _ n8 a3) r1 λH5 X5 n3 G5 R5 F5 r5 t5 i8 f5 o2 n4=>?_
   let e6:=hh.rows;rw[er] at e6;cases sd
   ·exact q H5 X5 n3 (some r) (A4++L0) (R0++(gd X.ts g).rows++B4) ((G3.trans G4).trans G5) R5 F5 (λi e=>by cases e;exact⟨r5,t5⟩) (by rw[e6];simp) (by show (gd X5.ts r).rows=_;rw[i8];simp) ∅ o2 n4
   ·exact q H5 X5 n3 (some r) (A4++(gd X.ts g).rows++L0) (R0++B4) ((G3.trans G4).trans G5) R5 F5 (λi e=>by cases e;exact⟨r5,t5⟩) (by rw[e6];simp) (by show (gd X5.ts r).rows=_;rw[i8];simp) ∅ o2 n4
  let c1:∀ b∈p::up,(gd X.ts x).h<(gd X.ts b).h:=λb o=>by
   rcases zU.mp o with y | y
   ·rw[y];lia
   ·have:=(p8 b y).2;lia
  let rp:(gd X.ts p).rows=ZV X.ts (gd X.ts p).bs:=rp;let⟨o7,r0⟩:=R3.sh.self;by_cases c2:2<(gd X.ts p).bs.length
  ·rw[aI (show (2:Int)<(((iN (gd X.ts p).bs).length:Nat):Int) by lia)]
   refine Z7 ?_;let⟨ux,p5,o1⟩:=Xh.at_ I (show c<W.length from l9);let⟨s8,Wx,p7⟩:=dx.ne;let p3:sN W c=(x,s8):=by
    have:=K7 (W:=W) (n:=c) (j:=0);rw[p7] at this;exact this.symm
   rw[p3] at o1;let⟨tx,fvx,rfl,r7,_⟩:=o1;let l7:(gd X.ts p).bs.filter (λb=>decide (b≠x))=l++m:=by
    let f1:l.filter (λb=>decide (b≠x))=l:=vX.mpr λb o=>aI λy=>xl (y ▸ o);let f2:m.filter (λb=>decide (b≠x))=m:=vX.mpr λb o=>aI λy=>xm (y ▸ o);rw[C,xG,sL (by simp),f1,f2]
   refine⟨_,Z,X.S,o7,_,Z,r0,Z,_,Z,1,Z,.inl ⟨D5,_,-1,.int (p:Nat),Z,Z,ZG.of a3,by rw[a5];exact NI _ p,_,Z,bl,Z,⟨_,ZG.of h3⟩,Dj (n:=x) (by show (gd X.ts p).bs.length<=900;lia) h3 (λHq j Rq hj sq hR=>⟨_,Z,_,Z,_,Z,.inl ⟨D,Y,(c:Int),_,Z,Z,ZG.of (sq _ _ M),XH p5,tx,_,0,.int (x:Int),Z,Z,Zs.of (sq _ _ r7),Z,Z,_,Z,hR⟩⟩) λD6 H6 s6 n6 l8=>?_⟩⟩
   rw[show (gd X.ts (p,l.length).1).bs=(gd X.ts p).bs from rfl,l7] at l8;let n7:∀ b∈l++m,b∈(gd X.ts p).bs:=λb o=>by rw[C];rcases zD.mp o with y | y <;> simp[y]
   let lbs:(gd X.ts p).bs.length=(l++m).length+1:=by rw[C];simp;lia
   let o4:Up (Ap++ZV X.ts (l++m)++Bp):=by
    rw[c7,rp,C] at Ur;refine Qc Ur (((yU.refl Ap).append ?_).append (yU.refl Bp));rw[Pb,Pb,Wl];exact(yU.refl _).append (xV _ _)
   refine .mk (X:=X) (R3.same s6) F k tp zp ∅ B l8 (λb o=>b3 b (n7 b o)) ∅ ∅ (λb o=>absurd (n7 b (yN.mp o).1) (of_decide_eq_true (yN.mp o).2)) o4 λH7 X7 G7 R7 C7 t3 z7=>?_
   let c3:∀ b,(gd X.ts b).h<=(gd X.ts x).h->gd X7.ts b=gd X.ts b:=λb o=>C7.old b λy=>by have:=c1 b y;lia
   let e7:(gd X7.ts p).bs=l++m:=by rw[C7.at_];rfl
   let h7:(gd X7.ts p).h≠0:=by rw[C7.hh];exact B
   let i1:∀ b∈(gd X.ts p).bs,(gd X7.ts b).rows=(gd X.ts b).rows:=λb o=>by rw[c3 b (by have:=(b3 b o).2;lia)]
   let O:(l++m).Nodup:=by rw[<-l7];exact s5.sublist uV
   obtain⟨sd,i0,A8,B8,z8,p2⟩:∃ sd i0 A8 B8,Yq X7.ts r (g::p::up) i0 A8 B8/\(gd X.ts r).rows=A8++(if sd=true then (gd X.ts g).rows++(gd X.ts x).rows else (gd X.ts x).rows++(gd X.ts g).rows)++B8:=by
    rcases sp with ⟨l',e⟩ | ⟨e,m',e'⟩
    ·let e8:(gd X7.ts p).bs=l'++g::m:=by rw[e7,e];simp
     rw[e] at O;let z8:=z7.down h7 e8 (λy=>by simp[xR] at O;grind) (λy=>by simp[xR] at O;grind)
     exists true,_,_,_,z8;rw[QY (l:=l') (ts:=X.ts) λb o=>i1 b (by rw[C,e];simp[o]),QY (l:=m) (ts:=X.ts) λb o=>i1 b (by rw[C];simp[o]),c7,rp,C,e]
     simp[ZV]
    ·let e8:(gd X7.ts p).bs=[]++g::m':=by rw[e7,e,e']
     rw[e,e'] at O;let z8:=z7.down h7 e8 (by simp) (λy=>by simp at O;exact O.1 y)
     exists false,_,_,_,z8;rw[QY (l:=m') (ts:=X.ts) λb o=>i1 b (by rw[C,e'];simp[o]),c7,rp,C,e,e']
     simp[ZV]
   exact l6 H7 X7 n0 (p::up) A8 B8 sd none ((Go.same s6).trans G7) R7 ⟨C7.fst,by rw[C7.lv];exact k,t3,C7.lv,C7.len,⟨i0,z8⟩,C7.gone x (by rw[C];simp) (by simp[xl,xm]),c3,C7.hh,p2⟩ c1 (by rw[zR];lia) ∅
  ·rw[aH (show ¬ (2:Int)<(((iN (gd X.ts p).bs).length:Nat):Int) by lia)]
   refine Zm ?_;let cl:=fr.2.2 ∅
   unfold clo at cl;rw[ew,Bool.or_eq_true,zM] at cl;let⟨l4,U⟩:=cl.resolve_left λy=>c2 (of_decide_eq_true y);let l4:=of_decide_eq_true l4;let U:=of_decide_eq_true U;rw[show c-1-1=c-2 by lia] at U
   let⟨p0,i3,s9,A0,B0,d0,z0,c0⟩:=d.cut F.wf k .root (c-2) ∅
   rw[yS] at c0;let a0:=d0.two (by rw[yE];lia)
   obtain⟨l0,a9,G,pl0,pm0,c6⟩:∃ l0 a9,(gd X.ts p0).bs=l0++p::a9/\p∉l0/\p∉a9/\sN W (c-2)=(p0,l0.length):=by
    let e1:W.drop (c-2)=sN W (c-2)::W.drop (c-1):=by
     have:=wZ (l:=W) (i:=c-2) ∅
     rw[this,show c-2+1=c-1 by lia]
     congr 1
     have:=Nc (W:=W) (p:=c-2) ∅
     rw[zQ ∅] at this
     exact yZ.inj this
    rw[e1] at d0;let⟨plp,Wp,l3⟩:=dp.ne;generalize hs:sN W (c-2)=n9 at d0;generalize hw2:W.drop (c-1)=W2 at d0 l3
    cases d0 with
    | leaf h=>exact absurd h a0
    | stem _ G n1 n2 d2=>
     let⟨pl2,W3,e3⟩:=d2.ne;rw[l3] at e3;cases e3;exact⟨_,_,G,n1,n2,Z⟩
   rw[c6] at U;let⟨m2,_,_,_⟩:=z0.facts F.wf k Z;let m3:l0.length<(gd X.ts p0).bs.length:=by rw[G];simp
   let⟨c5,ql,qh⟩:=Ku F.wf m2 a0 m3;generalize hq:VS X.ts (p0,l0.length)=q' at c5 ql qh U;let n9:=HX (by rw[<-G];exact c5)
   let⟨u0,p4,o0⟩:=Xh.at_ I (show c-2<W.length by lia)
   rw[c6] at o0;let⟨bl0,c4,t9⟩:=o0.sp a0;let⟨k1,k2,k3⟩:=id c4;rename_i t4 t6 t7
   let e2:((c:Nat):Int)-2=((c-2:Nat):Int):=∅
   let i6:WN Y (((c:Nat):Int)-2)=some (V.ref t4):=by rw[e2];exact XH p4
   let hph:=(((F.wf p0 m2).stem a0).2.2.1 p (by rw[G];simp)).2
   obtain⟨sx,o9⟩:∃ sx:Bool,(gd X.ts p).bs=(if sx=true then [g,x] else [x,g]):=by
    let l2:(gd X.ts p).bs.length=2:=∅
    rw[C] at l2;simp at l2;rcases sp with ⟨l',e⟩ | ⟨e,m',e'⟩
    ·exists true;rw[e] at l2;simp at l2;let a1:l'=[]:=vT ∅
     let a2:m=[]:=vT ∅
     rw[C,e,a1,a2];rfl
    ·exists false;rw[e,e'] at l2;simp at l2;rw[C,e,e',l2];rfl
   obtain⟨sq,l1,e0,tq,bq,i7,o8,s0⟩:∃(sq:Bool)(l1 e0:jj)(tq:Nat)(bq:jj),(gd X.ts p0).bs=l1++(if sq=true then [q',p] else [p,q'])++e0/\(gd X.ts q').bs=(if sq=true then bq++[tq] else tq::bq)/\bq.length=3:=by
    rcases n9 with ⟨l',e⟩ | ⟨e,m',e'⟩
    ·rcases uX (gd X.ts q').bs with z | ⟨bq,tq,z⟩
     ·rw[z] at U;cases U
     ·rw[uZ] at z;exists true,l',a9,tq,bq,by rw[G,e];simp,z
      rw[z] at U;simpa using U
    ·cases z:(gd X.ts q').bs with
     | nil=>rw[z] at U;cases U
     | cons tq bq=>
      exists false,[],m',tq,bq,by rw[G,e,e'];simp,rfl
      rw[z] at U;simpa using U
   let EB:QD X r p0 p q' g x tq i3 s9 l1 e0 bq A0 B0 sq sx:=⟨F,k,tp,z0,a0,i7,B,o9,o8,s0⟩;let⟨psq,Aq,Bq,zq,_⟩:=EB.one;let e5:(W.take c).map (·.1)=((W.take (c-2)).map (·.1))++[p0,p]:=by
    let e3:W.take (c-1)=W.take (c-2)++[sN W (c-2)]:=by
     have:=yR (l:=W) (i:=c-2);rw[Nc ∅,show c-2+1=c-1 by lia] at this
     exact this
    rw[a5,e3,c6];simp
   let t8:i3.length=c-2:=by rw[c0];simp;lia
   let i4:WN (iN ((W.take c).map (·.1))) (-2)=some (V.int (p0:Nat)):=by
    rw[e5];refine LR (j:=2) ∅ (by simp[iN]) ?_
    simp[iN]
   refine⟨_,Z,_,Z,2,Z,.inl ⟨D5,_,-2,.int (p0:Nat),Z,Z,ZG.of a3,i4,_,Z,_,Z,_,_,Z,Z,.inl ⟨D,Y,((c:Nat):Int)-2,_,Z,Z,ZG.of M,i6,.mk (b:=q') c4 c5 (.mk R3 (zq.rd F.wf k F.hb tp rfl) (by rw[zR,zR];lia) λH6 s6=>?_)⟩⟩⟩
   refine⟨_,Z,_,Z,1,Z,.inl ⟨D5,_,-1,.int (p:Nat),Z,Z,ZG.of (s6 _ _ a3),by rw[a5];exact NI _ p,_,Z,_,Z,.mk (R3.same s6) EB ∅ ∅ λH7 X7 s2 A7 B7 G7 R7 hh f7=>?_⟩⟩
   exact l6 H7 X7 s2 (p::p0::i3) A7 B7 sx _ ((Go.same s6).trans G7) R7 hh (λb o=>by
    rcases zU.mp o with y | y
    ·rw[y];lia
    ·have:=EB.upn b y;lia) (by rw[zR,zR];lia) ∅
inductive Q8(d:zZ)(x y:V)(H:Hp)(Q:VK):Prop
 |mk(a b:ai)(f g:je)(c e:jl)(_:x=.ref a)(_:y=.ref b)(_:ZG d H a f)(_:ZG d H b g)(_:jI H c f)(_:jI H e g)(_:∀ t∈c,t.depth<=100)(_:Q (.bl (jK c e)) H)
theorem C9{k:Nat}(Y:ZU k X.A):Y7 X (ay .Eq) (Q8 X.K):=by
 intro E s σ H x y v u Q I rx ry h;let⟨a,b,xs,ys,f,g,rfl,rfl,U,V,z,B,W,q⟩:=h;cases rx;cases ry;let⟨d,F,C,z1⟩:=I.list U;let⟨c,G,D,z2⟩:=I.list V;let l1:=F.length;let l2:=G.length;let m1:=z.length;let m2:=B.length;let un:=Y.un;by_cases p:d.length=c.length
 ·refine PySem.SeqAt.RcAt.lists (e:=λj=>(f.getD j (.int 0)).eqb (g.getD j (.int 0))) C.isList D.isList (by simpa using p) ∅ (λj n o=>?_) X.prog X.w X.xe _ ⟨.bl _,H,I,Z,?_⟩
  ·let r:j<xs.length:=by simp at n;lia
   let t:j<ys.length:=by simp at o;lia
   let⟨l,m,M⟩:=z.get (zQ r);let⟨t2,R,N⟩:=B.get (zQ t);let⟨J,S,O⟩:=F.get (zQ r);let⟨L,T,P⟩:=G.get (zQ t);let q1:d.toArray[j]=J:=by
    have:d.toArray[j]? = some J:=by simpa using S
    rw[xF n] at this;exact yZ.inj this
   let q2:c.toArray[j]=L:=by
    have:c.toArray[j]? = some L:=by simpa using T
    rw[xF o] at this;exact yZ.inj this
   rw[q1,q2,zV,zV,m,R];let dp:=W l (zL m);exact Pn l.depth l t2 _ _ _ (zY _) (VX I _ _ _ M O) (VX I _ _ _ N P) (by show X.A.units+1+_<_;lia)
  ·let e:=Pe f g;let i:min f.length g.length=d.toArray.size:=by simp;lia
   rw[i,show (f.length==g.length)=true by simp;lia,tT] at e
   rw[e];exact q
 ·refine PySem.SeqAt.RcAt.lists_lengths C.isList D.isList (by simpa using p) ∅ X.prog X.w X.xe _ ⟨.bl _,H,I,Z,?_⟩
  let e:=Pe f g;rw[show (f.length==g.length)=false by simp;lia,vH] at e
  rw[<-e] at q;exact q
def XA(k:KT)(a:jm):jm:=a.filter λr=>!r.1.eqb k
theorem EO(k:KT)(a b:jm):XA k (a++b)=XA k a++XA k b:=xG ..
theorem IM{k:KT}{rs:jm}(h:∀ x∈rs,x.1≠k):XA k rs=rs:=vX.mpr λx a=>by
 cases e:x.1.eqb k with
 | false=>rfl
 | true=>exact absurd (US _ _ e) (h x a)
theorem Hv{a b:KT}(h:a.lt b=true):a≠b:=λz=>by rw[z,V9] at h;cases h
theorem Ff{k:KT}{A M B:jm}(b:∀ x∈A,x.1.lt k=true)(c:∀ x∈B,k.lt x.1=true):XA k (A++M++B)=A++XA k M++B:=by
 rw[EO,EO,IM λx a=>Hv (b x a),IM (rs:=B) λx a=>(Hv (c x a)).symm]
theorem ZMo{k:KT}{A M B:jm}(U:Up (A++M++B))(d:M≠[])(e:XA k M=[]):XA k (A++M++B)=A++B:=by
 let⟨x,g,b⟩:=rC d;let f:x.1=k:=by
  have:=tZ.mp e x (by rw[b];simp)
  simp at this;exact US _ _ this
 unfold Up PQ at U;rw[zF,zF,xD,xD] at U;let c:k∈M.map (·.1):=by rw[b,<-f];simp
 rw[Ff (λy a=>U.1.2.2 _ (zP.mpr ⟨y,a,Z⟩) k c) (λy a=>U.2.2 k (yP _ c) _ (zP.mpr ⟨y,a,Z⟩)),e,yS]
theorem Hr:∀{a b:jm},YI a=YI b->a=b
 | [],[],_=>rfl
 | [],_::_,h=>by cases h
 | _::_,[],h=>by cases h
 | x::a,y::b,h=>by
  injection h with h1 h2;unfold Mu at h1;injection h1 with h1;injection h1 with a1 b1;injection b1 with b1;rw[Hr h2,show x=y from Prod.ext a1 b1]
theorem ZJQ{a b:jm}(h:jK (YI a) (YI b)=true):a=b:=Hr (eqbL_eq _ _ h)
theorem ZO9{n m:Nat}(h:2 ^ n<=m)(a:m<=200):n<=7:=by
 rcases yL n 8 with z | z
 ·lia
 ·have:2 ^ 8<=2 ^ n:=Nat.pow_le_pow_right (by decide) z
  have:(2:Nat) ^ 8=256:=by decide
  lia
theorem Fp{a:jm}(f:∀ r∈a,r.fit)(u:Up a)(b:0<a.length)(c:a.length<=4):P9 a:=⟨f,b,c,u⟩
theorem Jk{gt:jj}{b:jk}{i:Nat}{a:jm}(g:P9 a):Yu gt b i (Vt a):=
 ⟨λz=>by have:=g.2.1;rw[show (Vt a).rows=a from rfl] at z;rw[z] at this;simp at this,g.2.2.2,g.1,λ_=>⟨rfl,g.2.2.1⟩,λz=>absurd rfl z⟩
theorem Rd.mem{n:jj}{g:Nat->jj}{j:Nat->Nat}{i:Nat}{l:jj}(h:Rd n g j i l):∀ x∈l,∃ e,Rd n g j x e/\e.length<=l.length:=by
 induction h with
 | top a b=>exact λx f=>⟨_,by rw[zK.mp f];exact .top a b,zY _⟩
 | up a b c d m=>
  intro x f;rcases zU.mp f with y | y
  ·exact⟨_,by rw[y];exact .up a b c d,zY _⟩
  ·let⟨e,k,o⟩:=m x y;exact⟨e,k,by rw[zR];lia⟩
section
variable{jN jO:ai}{H H':Hp}{X:Zd}{lk:ai}{ls ls':je}{r:jp}
structure Tf(jN jO:ai)(H:Hp)(X:Zd)(lk:ai)(ls:je)(r:jp):Prop where
 sh:Zl jN jO H X.S X.d lk X.lv X.ts X.av X.ho X.as X.kvs ls
 fst:WM X.lv X.ts X.av X.ho
 tp:∀ i,r=some i->i∈X.lv/\Tp X.av X.ho i
theorem Tf.same(t:Tf jN jO H X lk ls r)(s:ZE H H'):Tf jN jO H' X lk ls r:=⟨t.sh.same s,t.fst,t.tp⟩
theorem Tf.of(t:Tf jN jO H X lk ls r)(R:Xf jN jO H' X lk X.ts.length ls'):Tf jN jO H' X lk ls' r:=⟨⟨R.sh,t.sh.lt,t.sh.keys,t.sh.val,t.sh.len,R.tw,t.sh.own,t.sh.two⟩,t.fst,t.tp⟩
theorem Tf.low(t:Tf jN jO H X lk ls r)(a:(Yi X.ts r).length<=200):∀ i,r=some i->(gd X.ts i).h<=7:=λi e=>by
 subst e;exact ZO9 (CO t.fst.wf _ i (t.tp i rfl).1 Z) a
theorem Tf.askd(t:Tf jN jO H X lk ls r)(b:(Yi X.ts r).length<=200)(a:ls.length<=380000):Oi jN jO H X lk X.ts.length ls r:=⟨t.sh.q,t.fst.wf,λi e=>zI (t.low b i e) (by decide),a,λi e=>(t.tp i e).1⟩
theorem Tf.fit(t:Tf jN jO H X lk ls r):∀ x∈Yi X.ts r,x.fit:=by
 cases r with
 | none=>exact λx a=>by cases a
 | some i=>exact(t.fst.wf i (t.tp i rfl).1).inn
theorem ZKi{d:jj}{e a:jk}{f:Nat->jj}{g:Nat->Nat}{r n:Nat}{k:jj}{j T:jm}(F:WM d e f g)(m:n∈d)(l:(gd e n).h=0)(C:O1 d e a r n k (Vt j) T):WM d a f g:=
 ⟨C.wf,F.nd,λp i b c=>F.hb p i b (by
  by_cases y:p=n
  ·rw[y,C.at_] at c;cases c
  ·rw[C.sh p y] at c;exact c)⟩
theorem ZPY{D:ai}{a:jk}{p:Nat×Nat}{u:V}(h:Y2 (OU X lk D) H a p u):Xh X lk H a p u:=by
 let⟨t,c,e,d,j,l,k,b,f,g,n,_,i⟩:=h;exact⟨t,c,e,d,λz=>⟨j,l,_,b,f,by rw[<-i z];exact g,Classical.byContradiction λy=>n (.inr y)⟩⟩
end
theorem Bh{p:ai}{m:je}{rs:jm}{k:KT}{S:L2.St}{N:jj}{H:Hp}{O:TT}{Q:VK}(U:rs.length<=900)(F:H p=some (.lst m))(I:jI H (YI rs) m)(t:∀ (j:Hp) (a:ai) (u v:V) (r:Zb) (R:Bool->Hp->Prop),r∈rs->ZE H j->j a=some (.tup [u,v])->ZD j r.1 u->R (!r.1.eqb k) j->O (Qw S N (.ref a)) j R)(A:∀ (D:ai) (e:je) (j:Hp),ZE H j->H D=none->j D=some (.lst e)->jI j (YI (XA k rs)) e->Q (.ref D) j):WH (Pj K p) S N O (Uk 0) H Q:=by
 let W:m.length=rs.length:=by have:=I.length;rw[<-this];exact zX _
 refine JY (n:=m.length) (λi z=>m[i]? = some z) (λn=>!(rs.getD n rd).1.eqb k) (λD n e d=>ZE H d/\H D=none/\jI H (YI (XA k (rs.take n))) e) (XX ∅)
  (λD n e d s c=>⟨m,m[n],ZG.of (c.1 _ _ F),by simp[s]⟩) (λD n e d z T s c M=>⟨M.1,M.2 m (ZG.of (c.1 _ _ F))⟩) (λD e d c=>⟨m,ZG.of (c.1 _ _ F),zY _⟩)
  (λD L=>⟨Zv L _,L,.nil⟩) (λD n e d z q s G c B C=>?_) (λD n e d z q s G E c B C=>?_) (λD n e d q s E c=>?_) (λD e d q c=>?_)
 ·let⟨h,o,l⟩:=c;let⟨a,u,v,g,rfl,y,x,J⟩:=P6 I G;exact t d a u v _ _ (zL g) h (h _ _ y) (x.sm h) (C d q ⟨h,o,l⟩)
 ·let⟨h,o,l⟩:=c;let⟨a,u,v,g,rfl,y,x,J⟩:=P6 I G;refine⟨_,Z,C _ d q ⟨Uq h o,o,?_⟩⟩;unfold XA at l⊢;rw[Nk _ g,aK E,show ∀ a b,YI (a++b)=YI a++YI b from λ_ _=>zF ..];exact l.append (.cons (.tup y (.cons x (.cons J .nil))) .nil)
 ·let⟨h,o,l⟩:=c;let g:rs[n]? = some (rs.getD n rd):=by rw[zV,zQ ∅];rfl
  exists h,o;unfold XA at l⊢;rw[Nk _ g,aJ (by rw[E];exact zW),yS]
  exact l
 ·let⟨h,o,l⟩:=c;rw[yV ∅] at l
  exact A D e d h o q (l.sm h)
theorem ZQF{k:Nat}{g:jn}{i d:Sp}(F:ZI P w K mg jQ (Yd P w) k f fd g i)(h:∀ b H Q E,d b H Q E->i b H Q E0):ZI P w K mg jQ ZM k f fd g d:=by
 refine⟨λb H Q E z=>F.len b H Q E0 (h _ _ _ _ z),λA a s H args p b Q E m l j n z=>codeAny_mono (F.run A a s H args p b Q E0 m l j n (h _ _ _ _ z)) λr q c=>?_⟩
 cases r with
 | ok o=>
  cases o with
  | ret u=>exact c
  | _=>exact c.elim
 | error e=>
  let⟨_,_,_,_,_,_,c⟩:=c;exact c.elim
inductive WT(jN jO:ai):Sp
 |mk{X:Zd}{d:ai}{e:je}{r:jp}{v:V}{k:KT}{H:Hp}{Q:VK}{E:XK}:Tf jN jO H X d e r->(Yi X.ts r).length<=200->e.length<=367000->ZD H k v->k.fits 3=true ->
  (∀(c:Hp)(a:Zd)(b:je)(g:jp),Go d H c X a->Tf jN jO c a d b g->Yi a.ts g=XA k (Yi X.ts r)->b.length<=e.length+70->a.ts.length=X.ts.length->a.lv.length<=X.lv.length->Q (XJ g) c)->WT jN jO [.ref X.S,XJ r,v] H Q E
abbrev FL:jn:=["shelf","root","key","steps","rows","left","owned"]
theorem VZ:ZC FL zEd (ZY Nw):=Zp
theorem C4{cdv:ah}{A:aw}{outer:jt}{s:aj}{Hs:Hp}{E:XK}(L:YT K mg jN jO)(DW:ZA P w K mg jQ 6 "own_way" zEl (Yv jN jO))(DC:ZB P w K mg jQ ZM 11 jN "change_leaf" zE8 (XG jN jO))(hr:ZU 35 (A.deeper (envOfC "taken_from" (ZY Nw) s.heap.objs.size f cdv))):
  ∃ t,XV (Xy ZM P w K mg jQ FL "taken_from" (ZY Nw) f cdv A outer s Hs E).nox ((Xg Nw).drop 7) t/\∀(J:YH)(H:Hp)(X:Zd)(v D l:ai)(Y us ws:je)(i j n:Nat)(W:jq)(ps:jj)(A B k:jm)(v1 v2 v4 v6:jf),
   Tf jN jO H X v Y (some i)->H D=some (.lst us)->Paired (Q2 H) (W++[(j,n)]) us->W.length<=20->Yq X.ts i (j::(W.map (·.1)).reverse) ps A B->(W.map (·.1)++[j])[0]? = some i->(gd X.ts j).h=0->H l=some (.lst ws)->jI H (YI k) ws->P9 k->Up (A++k++B) ->
   (∀(M:Hp)(m:Zd),Go v H M X m->Tf jN jO M m v Y (some i)->(gd m.ts i).rows=A++k++B->m.ts.length=X.ts.length->m.lv.length=X.lv.length->J.rt (.int (i:Nat)) M) ->
   t J [some (.ref X.S),v1,v2,some (.ref D),v4,some (.ref l),v6] H:=by
 let nd:=VZ.nd;let Q:=hr.mono (show 6<=35 by lia)
 let u:=hr.mono (show 11<=35 by lia)
 refine⟨_,ZL (Zj 6 nd (Zc DW Q (Zq (pv 0) (pv 3))))
  (ZL (Ye (Z0 (E:=E0) (pv 0) L.cS DC u Z3 (Zq (Z8 K (pv 6) (Qq Qk ZK)) (pv 5))))
  (ZR (Zh (Z8 K (pv 6) ZK)))),λJ H X v D l Y us ws i j n W ps A B k v1 v2 v4 v6 t hD R a1 z i0 T hl kr G U q=>?_⟩
 let⟨d,x⟩:=t.tp i Z;let F:=t.fst;let g:=z.rd F.wf d F.hb x Z;let mW:∀ p∈W++[(j,n)],∃ l,Rd X.lv X.av X.ho p.1 l/\l.length<=900:=λp hp=>by
  let⟨l',h1,h2⟩:=g.mem p.1 (by
   rcases zD.mp hp with y | y
   ·exact zO _ (List.mem_reverse.mpr (zP.mpr ⟨p,y,rfl⟩))
   ·rw[zK.mp y];exact zS)
  exact⟨l',h1,by rw[zR,List.length_reverse,zX] at h2;lia⟩
 refine⟨_,Z,_,Z,.mk t.sh hD R mW (by rw[zN];simp;lia) λH6 Dw I a0 a=>?_⟩
 let eI:iN ((W++[(j,n)]).map (·.1))=iN (W.map (·.1)++[j]):=by rw[zF];rfl
 rw[eI] at a;let t6:=t.same I;let⟨dS,hS⟩:=t6.sh.sh.self;let⟨hj,_,_,_⟩:=z.facts F.wf d Z;let⟨O,ch,C⟩:=EJ (t:=Vt k) t.sh.lt F.wf d F.hb.avk g z T.symm (Jk G) U;refine⟨_,Z,X.S,dS,_,Z,hS,Z,_,Z,1,Z,.inl ⟨Dw,_,-1,.int (j:Nat),Z,Z,ZG.of a,NI _ _,_,Z,?_⟩⟩;refine .mk ⟨t6.sh,F.wf,d,F.hb.avk⟩ z g (by rw[List.length_reverse,zX];lia) (I _ _ hl) (kr.sm I) G T ch C λH7 N fr R7 A7=>?_
 let G7:=Gp (lk:=v) (H:=H6) (H':=H7) (X:=X) (cur:=O) (av':=X.av) (ho':=X.ho) (as':=N) (kvs':=X.kvs) (λc o n e=>fr c o (λi d=>(n i d).1) e) A7;let r:=G7.fr _ _ (t.sh.new a0) a;refine⟨_,Z,.inl ⟨Dw,_,0,.int (i:Nat),Z,Z,ZG.of r,?_,q H7 _ ((Go.same I).trans G7) ⟨R7,ZKi F hj T C,λb e=>by cases e;exact⟨d,x⟩⟩ C.rows C.len Z⟩⟩
 refine XH (j:=0) ?_;unfold iN;rw[zG,i0];rfl
theorem BO(F0:Zi K "taken_from" "taken_from" Nw f fd)(T:YL mg)(L:YT K mg jN jO)(a9:ZA P w K mg jQ 4 "check_root" zEe (YD jN jO))(DS:ZA P w K mg jQ 10 "steps_to" zEd (λvs H Q _=>XM jN jO CK vs H Q E0))(c0:ZA P w K mg jQ 35 "without_leaf" zEl (U5 jN jO))(DW:ZA P w K mg jQ 6 "own_way" zEl (Yv jN jO))(DC:ZB P w K mg jQ ZM 11 jN "change_leaf" zE8 (XG jN jO)):ZI P w K mg jQ ZM 36 f fd zEd (WT jN jO):=by
 refine F0.ok VZ (λvs H Q E h=>(by cases h;rfl)) (λc1 A Y s H vs Q E G h=>?_)
 let⟨t,a8,i2,kk,fk,q⟩:=h;rename_i X lk ls r v k
 let nd:=VZ.nd;let c5:=G.mono (show 4<=35 by lia)
 let a6:=G.mono (show 10<=35 by lia)
 let⟨tt,ht,hk⟩:=C4 (jN:=jN) (jO:=jO) (P:=P) (w:=w) (K:=K) (jQ:=jQ) (f:=f) (cdv:=c1) (A:=A) (outer:=Y) (s:=s) (Hs:=H) (E:=E) L DW DC G;intro Xc;refine⟨_,ZL (Ye (Zc a9 c5 (Zq (pv 0) (pv 1))))
  (ZL (Zj 3 nd (Zc DS a6 (Vm (pv 0) (pv 1) (pv 2))))
  (ZL (Z1 (YX (Md G.units0) (pv 3) (Yr Zn) (YG _)) (ZR (Zh Pl)) Z5)
  (ZL (Zj 4 nd (Xe K (Xe K (Z8 K (pv 3) (Qq Qk ZK)) ZK) ZK))
  (ZL (LF (i:=5) [2] zFl nd rfl rfl rfl (WD (pv 4)) (λ_ _ _ _ _=>Od (YX (ZO1 G) (Xe K (pv 0) ZK) (pv 1) Z)) (λ_ _ _ _ _=>pv 0) ⟨rfl,.inl rfl,rfl,trivial⟩)
  (ZL (Z1 (YX (C9 G) (pv 5) (pv 4) rfl) (ZR (Zh (pv 1))) Z5)
  (ZL (Z1 (YX (Md G.units0) (pv 5) (Yr Zn) (YG _)) (ZR (Zh (Zc c0 G (Zq (pv 0) (pv 3))))) Z5) ht)))))),?_⟩
 refine⟨_,Z,_,Z,.mk t.sh (λi e=>⟨(t.tp i e).1,wY (t.tp i e).2.2.symm⟩) λH1 s1=>?_⟩;let t1:=t.same s1;refine⟨_,Z,_,Z,_,Z,.mk (N:=λ_=>False) (o:=some k) (t1.askd a8 ∅) ⟨kk.sm s1,fk⟩ (λz=>by cases z) λk' ek H2 D m a2 R2 nD i1 hD d=>?_⟩
 cases ek;let t2:=t1.of R2;let G2:Go lk H H2 X X:=(Go.same s1).trans (Go.looks a2);let e3:Z6 H1 H2:=λb xs e=>a2 b _ (ZW e t1.sh.sh.looks) e;let c7:=(kk.sm s1).mono e3 _ _;exists _,Z,YS;intro b nb;let⟨H3,eU,g,eb⟩:=Y8 nb (.lst []);rw[eU];let a3:=g _ _ hD;exists D,b,m,Z,Z,ZG.of a3,ZG.of eb,_,Z;let oD:Z2 X lk D:=t1.sh.new nD
 cases r with
 | none=>
  let e0:m=[]:=by
   cases d;rfl
  subst e0;refine Z7 (q H3 X _ none (G2.trans (Go.same g)) (t2.same g) Z ?_ Z (zY _));show (ls++[]).length<=_;rw[yS]
  lia
 | some i=>
 let⟨hi,e9⟩:=t.tp i Z;let F:=t.fst;let⟨W,j,A1,B1,ew,lw,j0,z,hA,hB⟩:=Fq (k:=k) F.wf hi _ i .root Z (λx u=>by cases u) (λx u=>by cases u)
 rw[yS,yS] at z;let i3:=t.low a8 i Z;let eW:Uc X.ts k (some i)=W++[(j,cnt ((gd X.ts j).rows.map (·.1)) k)]:=ew;let dn:Dn X.ts i (W++[(j,cnt ((gd X.ts j).rows.map (·.1)) k)]):=by rw[<-ew];exact EY F.wf k _ i hi Z
 let ll:(ls++Qd (Uc X.ts k (some i))).length<=ls.length+8:=by
  rw[eW,zN];unfold Qd;simp
  lia
 rw[eW] at d;generalize ls++Qd (Uc X.ts k (some i))=S at t2 R2 ll;let⟨hj,fu,er,_⟩:=z.facts F.wf hi Z;generalize hn:cnt ((gd X.ts j).rows.map (·.1)) k=n at *;let ln:=Paired.length d;rw[zN,wQ] at ln;let hu:m[m.length-1]? = some (m[m.length-1]'∅):=zQ _
 let⟨p,ep,ta,fa,et,c6,FA⟩:=Paired.ixR d hu;let e1:p=(j,n):=by
  rw[<-ln,Nat.add_sub_cancel,wP (zY _),Nat.sub_self] at ep;exact(yZ.inj ep).symm
 subst e1;rw[et] at hu;let⟨tq,lq,vq,rfl,e4,e5,i5,e6,_⟩:=FA;let kr:=e6 j0;let ne:m.isEmpty=false:=by
  cases m with
  | nil=>simp at ln
  | cons _ _=>rfl
 rw[ne];let tl:=LR (j:=1) (zY _) ∅ hu
 refine Zm ⟨_,Z,_,Z,.inl ⟨D,_,_,.ref ta,Z,Z,ZG.of a3,tl,ta,_,_,.ref tq,Z,Z,Zs.of (g _ _ c6),Z,tq,_,_,.ref lq,Z,Z,Zs.of (g _ _ e4),Z,?_⟩⟩;let c:=F.wf j hj;let l4:=(c.leaf j0).2;let c2:∀ x∈(gd X.ts j).rows,(Mu x).depth<=100:=λy hy=>by
  let f:=c.inn y hy;let d1:=UL _ 3 f.1;let d2:=UL _ 3 f.2;show KT.depth (.tup [y.1,y.2])<=100;simp only[KT.depth,jL]
  lia
 let a7:=kr.sm g;let c8:=c7.sm g;refine⟨_,Z,lq,Z,⟨vq,ZG.of (g _ _ e5)⟩,Bh (k:=k) (rs:=(gd X.ts j).rows) ∅ (g _ _ e5) a7 (λH4 a vk vv x R u s4 ha ck hR=>?_) λD4 J H4 s4 i4 O ky=>?_⟩
 ·exact⟨_,Z,a,_,_,vk,Z,Z,Zs.of ha,Z,_,Z,x.1,k,ck,c8.sm s4,zI (UL _ 3 (c.inn x u).1) (by decide),⟨_,Z,hR⟩⟩
 let B:=g.trans s4;let c9:=a7.sm s4;let a5:=B _ _ e5;exists _,Z,_,Z,D4,lq,J,vq,_,_,Z,Z,ZG.of O,ZG.of a5,ky,c9,λx u=>?_,_,Z
 ·let⟨y,hy,rfl⟩:=zP.mp u;exact c2 y (yN.mp hy).1
 let t4:=t2.same B;let G4:=G2.trans (Go.same B);let eT:XA k (Yi X.ts (some i))=A1++XA k (gd X.ts j).rows++B1:=by show XA k (gd X.ts i).rows=_;rw[er];exact Ff hA hB
 by_cases es:XA k (gd X.ts j).rows=(gd X.ts j).rows
 ·rw[es,eqbL_self];refine Z7 ⟨_,Z,q H4 X S (some i) G4 t4 ?_ ∅ Z (zY _)⟩
  rw[eT,es,<-er];rfl
 let en:jK (YI (XA k (gd X.ts j).rows)) (YI (gd X.ts j).rows)=false:=by
  cases y:jK (YI (XA k (gd X.ts j).rows)) (YI (gd X.ts j).rows) with
  | false=>rfl
  | true=>exact absurd (ZJQ y) es
 rw[en];refine Zm ⟨_,Z,YS,λb5 e7=>?_⟩;let⟨H5,eU,g5,c3⟩:=Y8 e7 (.lst []);rw[eU];let a0:=B.trans g5;let t5:=t4.same g5;let G5:=G4.trans (Go.same g5);let a4:=a0 _ _ hD;let ly:J.length=(XA k (gd X.ts j).rows).length:=by have:=ky.length;rw[<-this];exact zX _
 exists D4,b5,J,Z,Z,ZG.of (g5 _ _ O),ZG.of c3,_,Z;let I:Paired (Y2 (OU X lk D) H5 X.ts) (W++[(j,n)]) m:=Paired.mapP d λ_ _ y=>y.off (λb o _ e=>a0 b o e) (ZE.tups a0);by_cases ez:XA k (gd X.ts j).rows=[]
 ·let ey:J.isEmpty=true:=by
   rw[ez] at ly
   cases J with
   | nil=>rfl
   | cons _ _=>cases ly
  rw[ey];refine Z7 ⟨_,Z,_,Z,.mk t5.sh F hi e9 dn (by rw[zN];simp;lia) ∅ a4 oD (Paired.mapP I λ_ _ y=>ZPY y) λH6 X6 e2 r6 A6 B6 G6 R6 F6 e8 M e6 f6 a1 V=>?_⟩
  rw[show ((W++[(j,n)]).getLastD (0,0)).1=j by rw[List.getLastD_concat]] at M
  refine q H6 X6 e2 r6 (G5.trans G6) ⟨R6,F6,e8⟩ ?_ ∅ a1 V
  rw[e6];show _=XA k (gd X.ts i).rows;rw[M];let U:=(F.wf i hi).up;rw[M] at U;exact(ZMo U c.ne ez).symm
 let ey:J.isEmpty=false:=by
  cases J with
  | nil=>exact absurd (List.length_eq_zero_iff.mp ly.symm) ez
  | cons _ _=>rfl
 rw[ey];let C:(XA k (gd X.ts j).rows).Sublist (gd X.ts j).rows:=uV;let UA:Up (A1++(gd X.ts j).rows++B1):=by rw[<-er];exact(F.wf i hi).up
 let UT:Up (A1++XA k (gd X.ts j).rows++B1):=Qc UA (((yU.refl A1).append C).append (yU.refl B1));let i0:(W.map (·.1)++[j])[0]? = some i:=by
  let⟨rr,e0⟩:=ZJ6 X.ts k (gd X.ts i).h i;rw[ew] at e0;have:=congrArg (λl=>(l.map (·.1))[0]?) e0;simp only[zF,yT] at this;exact this
 let c4:=Fp (λx u=>c.inn x (C.subset u)) (Qc c.up C) (uU.mpr ez) (zI C.length_le l4);refine Zm (hk _ H5 X lk D D4 S m J i j n W _ A1 B1 _ _ _ _ _ t5 a4 (Paired.mapP I λ_ _ y=>by let⟨t,fv,e,h,_⟩:=y;exact⟨t,fv,e,h⟩) ∅ z i0 j0 (g5 _ _ O) (ky.sm g5) c4 UT λH6 X6 G6 t6 e6 a1 V=>?_)
 exact q H6 X6 S (some i) (G5.trans G6) t6 (e6.trans eT.symm) ∅ a1 (wY V)
inductive Q5(d:zZ)(x y:V)(H:Hp)(Q:VK):Prop
 |mk(a b:ai)(f g:je)(c e:jl)(_:x=.ref a)(_:y=.ref b)(_:ZG d H a f)(_:ZG d H b g)(_:jI H c f)(_:jI H e g)(_:∀ t∈c,t.fits 3=true)(_:Q (.bl (!jK c e)) H)
theorem Cg{k:Nat}(Y:ZU k X.A):Y7 X (ay .NotEq) (Q5 X.K):=by
 intro E s σ H x y v u Q I rx ry h;let⟨a,b,xs,ys,f,g,rfl,rfl,U,V,z,B,W,q⟩:=h;cases rx;cases ry;let⟨d,F,C,z1⟩:=I.list U;let⟨c,G,D,z2⟩:=I.list V;let l1:=F.length;let l2:=G.length;let m1:=z.length;let m2:=B.length;let un:=Y.un;by_cases p:d.length=c.length
 ·refine PySem.SeqAt.RcNeAt.lists (e:=λj=>(f.getD j (.int 0)).eqb (g.getD j (.int 0))) C.isList D.isList (by simpa using p) ∅ (λj n o=>?_) X.prog X.w X.xe _ ⟨.bl _,H,I,Z,?_⟩
  ·let r:j<xs.length:=by simp at n;lia
   let t:j<ys.length:=by simp at o;lia
   let⟨l,m,M⟩:=z.get (zQ r);let⟨t2,R,N⟩:=B.get (zQ t);let⟨J,S,O⟩:=F.get (zQ r);let⟨L,T,P⟩:=G.get (zQ t);let q1:d.toArray[j]=J:=by
    have:d.toArray[j]? = some J:=by simpa using S
    rw[xF n] at this;exact yZ.inj this
   let q2:c.toArray[j]=L:=by
    have:c.toArray[j]? = some L:=by simpa using T
    rw[xF o] at this;exact yZ.inj this
   rw[q1,q2,zV,zV,m,R];let dp:=UL l 3 (W l (zL m));exact Pn l.depth l t2 _ _ _ (zY _) (VX I _ _ _ M O) (VX I _ _ _ N P) (by show X.A.units+1+_<_;lia)
  ·let e:=Pe f g;let i:min f.length g.length=d.toArray.size:=by simp;lia
   rw[i,show (f.length==g.length)=true by simp;lia,tT] at e
   rw[e];exact q
 ·refine PySem.SeqAt.RcNeAt.lists_lengths C.isList D.isList (by simpa using p) ∅ X.prog X.w X.xe _ ⟨.bl _,H,I,Z,?_⟩
  let e:=Pe f g;rw[show (f.length==g.length)=false by simp;lia,vH] at e
  rw[<-e] at q;exact q
structure Ui(K:zZ)(x qual:Str)(st:aB)(f:ai)(fd:al):Prop where
 ex:∃(oc:ah)(od:ju)(dT:ai)(kV doc pm:ah)(an:ju)(cdv ct:ah)(osl:Array (jc))(o:aG)(n:Nat),
  fd=yD x qual (QA st) (Xg st) (ZY st) (.ref dT) kV doc pm an cdv ct/\K.lookup f=some ⟨oc,od,.func fd,osl⟩/\wW K cdv qual=true/\K.lookup dT=some o/\o.data=.seq #[.none] n
 kp:yG K (.ref f)=true
section
variable{jN jO CTb CK:ai}
theorem Ui.go{x b:Str}{g:aB}{f:ai}{fd:al}{N m:jn}{k:Nat}{p:Sp}(F:Ui K x b g f fd)(S:ZC N m (ZY g))(l:∀ e H Q E,p e H Q E->e.length=m.length)(d:∀ (c:ah) (A:aw) (a:jt) (s:aj) (H:Hp) (e:je) (Q:VK) (E:XK),ZU k (A.deeper (envOfC b (ZY g) s.heap.objs.size f c))->p e H Q E ->
   ∃ t,XV (Xy ZM P w K mg jQ N b (ZY g) f c A a s H E).nox (Xg g) t/\t { nx:=λ_ r=>Q .non r,rt:=Q } (Qp N e) H):ZI P w K mg jQ ZM (k+1) f fd m p:=by
 let⟨D,G,C,kV,u,I,B,c,ct,z,o,n,rfl,y,i,_⟩:=F.ex;refine Jh y i S l λA a s H e Q E v j=>?_;let⟨t,h,q⟩:=d c A a s H e Q E v j;exact⟨t,h.nox,q⟩
abbrev O6:Stmt:=Xv (top 74) 0
abbrev Kd:Stmt:=Xv (top 74) 1
abbrev IZ:Stmt:=Xv (top 74) 3
abbrev Kr:Stmt:=Xv (top 74) 4
abbrev Ii:Stmt:=Xv (top 74) 5
theorem Ui.binds{f:ai}{fd:al}(F:Ui K "__init__" "Table.__init__" O6 f fd):Zt K fd zEz []/\Zt K fd zEz [.none]:=by
 let⟨t,u,q,kV,j,v,p,i,ct,m,o,n,rfl,r,l,g,h⟩:=F.ex;refine⟨λs d X e=>?_,λs d X e=>?_⟩
 ·match d,e with
  | [a,b,c],_=>exact PySem.W.binds_K X Z g h Z Z
 ·let k:d.length=2:=by simpa using e
  match d,k with
  | [a,b],_=>exact PySem.W.binds_K X Z g h Z Z
structure UW(K:zZ)(mg:jb)(CTb:ai):Prop where
 tab:mg "Table" = some (.ref CTb)
 cT:Vx K CTb
 ns:Z9 K CTb "shelf"
 nr:Z9 K CTb "root"
abbrev NE(S:ai)(r:jp):List (Str×V):=[("shelf",.ref S),("root",XJ r)]
inductive Yg(CTb:ai)(H:Hp)(T S:ai)(r:jp):Prop
 |mk(a:_)(_:H T=some (.ins CTb a (NE S r)))
structure Jn(P:ak)(w:ar)(K:zZ)(mg:jb)(jQ:aC)(k:Nat)(C:ai)(ps:jn)(sp:Sp):Prop where
 ex:∃ f fd,Mk K C f/\ZI P w K mg jQ ZM k f fd ps sp/\Zt K fd ps []/\Zt K fd ps [.none]
inductive Wm(jN jO CTb:ai):Sp
 |mk{x dx:ai}{X:Zd}{lk:ai}{ls:je}{r:jp}{H:Hp}{Q:VK}{E:XK}:H x=some (.ins CTb dx [])->x≠X.S->Zl jN jO H X.S X.d lk X.lv X.ts X.av X.ho X.as X.kvs ls->(∀ i,r=some i->i∈X.lv/\1<=X.ho i) ->
  (∀ H',(∀ b o,b≠x->H b=some o->H' b=some o)->Yg CTb H' x X.S r->Q .non H')->Wm jN jO CTb [.ref x,.ref X.S,XJ r] H Q E
theorem ZON:ZC zEz zEz (ZY O6):=Zp
theorem Cq(F:Ui K "__init__" "Table.__init__" O6 f fd)(L:UW K mg CTb)(DC:ZA P w K mg jQ 4 "check_root" zEe (YD jN jO)):ZI P w K mg jQ ZM 5 f fd zEz (Wm jN jO CTb):=by
 refine Ui.go F ZON (λvs H Q E h=>(by cases h;rfl)) (λcdv A outer s H vs Q E hr h=>?_)
 let⟨hx,xS,R,hr0,q⟩:=h;rename_i x dx X lk ls r
 exists _,ZL (Ye (Zc DC hr (Zq (pv 1) (pv 2)))) (ZL (Uz (pv 0) (pv 1) rfl) (ZR (Uz (pv 0) (pv 2) rfl)));refine⟨_,Z,_,Z,.mk R hr0 λH1 s1=>?_⟩;exists _,Z,_,Z,x,CTb,dx,_,Z,s1 _ _ hx,L.cT,L.ns,yX Z;exists _,Z,_,Z,x,CTb,dx,_,Z,ZZ,L.cT,L.nr,yX Z;rw[Np];exact q _ (λb o n e=>by rw[ZS n];exact s1 _ _ e) ⟨dx,ZZ⟩
theorem ZOO{X:Cx}{k:Nat}{C:ai}{x:Str}{o:jn}{h:Sp}{e:Expr}{a:jw}{t:TA}{p c:Pos}(D:Jn X.prog X.w X.K X.mg X.base k C o h)(n:ZU (k+1) X.A)(l:Gl X x)(m:X.mg x=some (.ref C))(i:PA X (e::a) t)(d:(x==("__debug__" : Str))=false:=by decide)(j:aq (e::a) X.env=(false,aF e X.env)::aq a X.env:=by rfl)(g:(aE c (aq a X.env)).any (·.1)=false:=by rfl):
  PE X (.Call (.Name x p) (e::a) [] c) (MF C h [] E0 t):=by
 let⟨f,fd,M,F,b,_⟩:=D.ex;exact CD M F n l m b .nil Z3 i d j g
inductive YE(jN jO CTb CK:ai):Sp
 |mk{T:ai}{X:Zd}{d:ai}{e:je}{r:jp}{v:V}{N:ai->Prop}{o:jF}{H:Hp}{Q:VK}{E:XK}:Yg CTb H T X.S r->Tf jN jO H X d e r->(Yi X.ts r).length<=200->e.length<=379000->Qe N H o v->(o=none->∀ a,ZE H a->E (.ref CK) none a) ->
  (∀ k,o=some k->∀(a:Hp)(D:ai)(g c:je),(∀ b o,b≠d->H b=some o->a b=some o)->Tf jN jO a X d c r->c.length<=e.length+8->H D=none->a D=some (.lst g)->jI a (WJ (Yi X.ts r) k) g->Q (.ref D) a) ->
  YE jN jO CTb CK [.ref T,v] H Q E
theorem Ch:ZC zEk zEk (ZY IZ):=Zp
theorem ZK5(F:Zi K "side" "Table.side" IZ f fd)(L:UW K mg CTb)(g:W0 P w K mg jQ 11 "value_of" zEd (XS jN jO CK)):ZI P w K mg jQ (Yd P w) 12 f fd zEk (YE jN jO CTb CK):=by
 refine F.okD Ch (λJ H Q E h=>(by cases h;rfl)) (λm A a s H J Q E y h=>?_)
 let⟨⟨b,c⟩,t,e,p,z,I,q⟩:=h;rename_i T X R d r v N o
 intro O;exists _,ZR (Zh (Mw NJ g y (Vm (XT (pv 0) rfl) (XT (pv 0) rfl) (pv 1))));refine⟨_,Z,T,CTb,b,_,.ref X.S,Z,c,L.cT,L.ns,Z,_,Z,T,CTb,b,_,XJ r,Z,c,L.cT,L.nr,Z,_,Z,.mk (t.askd e ∅) z I λk n j D M u l G _ x B=>?_⟩
 let C:(d++Qd (Uc X.ts k r)).length<=d.length+8:=by
  rw[zN];unfold Qd;rw[zX]
  cases r with
  | none=>exact vE _ _
  | some i=>
   have:=t.low e i Z;have:(Uc X.ts k (some i)).length=(gd X.ts i).h+1:=LL _ _ _ _
   lia
 exact q k n j D M _ u (t.of l) C G x B
inductive YZ(jN jO CTb:ai):Sp
 |mk{T:ai}{X:Zd}{a:ai}{b:je}{r:jp}{H:Hp}{Q:VK}{E:XK}:Yg CTb H T X.S r->Tf jN jO H X a b r->Q (.int ((Yi X.ts r).length:Nat)) H->YZ jN jO CTb [.ref T] H Q E
inductive Yk(jN jO:ai):Sp
 |mk{X:Zd}{a:ai}{b:je}{r:jp}{H:Hp}{Q:VK}{E:XK}:Tf jN jO H X a b r->Q (.int ((Yi X.ts r).length:Nat)) H->Yk jN jO [.ref X.S,XJ r] H Q E
theorem ZF8:ZC zEe zEe (ZY IR):=Zp
theorem Bb(F:Zi K "rows_under" "rows_under" IR f fd)(T:YL mg)(L:YT K mg jN jO)(g:ZB P w K mg jQ ZM 2 jN "label" zEa (Xt jN jO)):ZI P w K mg jQ ZM 3 f fd zEe (Yk jN jO):=by
 refine F.ok ZF8 (λz H Q E h=>(by cases h;rfl)) (λj A b s H z Q E p h=>?_)
 let⟨t,q⟩:=h;rename_i X u x r
 let⟨D,y⟩:=T.many;intro B;exists _,ZL (Z1 (Pa (MD (pv 1))) (ZR (Zh ZK)) Z5) (ZR (Zh (Z8 K (Z0 (E:=E0) (pv 0) L.cS g p Z3 (ZT (pv 1))) (WL (v:=.int 3) rfl y ⟨_,rfl⟩))))
 cases r with
 | none=>exact⟨_,Z,_,Z,Z7 q⟩
 | some i=>
  let⟨k,l⟩:=t.sh.sh.self;let c:=(t.tp i Z).1;let⟨a,C,o,e,n,_⟩:=(t.sh.tw i c).tag;let e:(X.as.getD i .d).tg=a:=V.ref.inj e;exact⟨_,Z,_,Z,Zm ⟨_,Z,X.S,k,_,Z,l,Z,_,Z,X,u,X.ts.length,x,i,Z,t.sh.q,c,.inr (.inl ⟨(X.as.getD i .d).tg,_,_,.int (Zr (gd X.ts i)).m,rfl,rfl,Zs.of (by rw[e];exact n),rfl,q⟩)⟩⟩
theorem ZLE:ZC zEq zEq (ZY Ii):=Zp
theorem BU(F:Zi K "count" "Table.count" Ii f fd)(L:UW K mg CTb)(d:ZA P w K mg jQ 3 "rows_under" zEe (Yk jN jO)):ZI P w K mg jQ ZM 4 f fd zEq (YZ jN jO CTb):=by
 refine F.ok ZLE (λi H Q E h=>(by cases h;rfl)) (λe A a s H i Q E g h=>?_)
 let⟨⟨b,c⟩,t,q⟩:=h;rename_i T X k l r
 intro j;exists _,ZR (Zh (Zc d g (Zq (XT (pv 0) rfl) (XT (pv 0) rfl))));exact⟨_,Z,T,CTb,b,_,.ref X.S,Z,c,L.cT,L.ns,Z,_,Z,T,CTb,b,_,XJ r,Z,c,L.cT,L.nr,Z,.mk t q⟩
inductive YU(jN jO CTb:ai):Sp
 |mk{T:ai}{X:Zd}{d:ai}{e:je}{r:jp}{H:Hp}{Q:VK}{E:XK}:Yg CTb H T X.S r->Tf jN jO H X d e r->(Yi X.ts r).length<=200->e.length<=379000 ->
  (∀(a:Hp)(D:ai)(g c:je),(∀ b o,b≠d->H b=some o->a b=some o)->Tf jN jO a X d c r->c.length<=e.length+400->H D=none->a D=some (.lst g)->jI a (YI (Yi X.ts r)) g->Q (.ref D) a)->YU jN jO CTb [.ref T] H Q E
theorem ZMr:ZC zEq zEq (ZY Kr):=Zp
theorem ZLl(F:Zi K "rows" "Table.rows" Kr f fd)(L:UW K mg CTb)(l:ZA P w K mg jQ 26 "rows_of" zEe (Xo jN jO)):ZI P w K mg jQ ZM 27 f fd zEq (YU jN jO CTb):=by
 refine F.ok ZMr (λB H Q E h=>(by cases h;rfl)) (λn A b s H B Q E v h=>?_)
 let⟨⟨c,d⟩,t,z,p,q⟩:=h;rename_i T X x y r
 intro G;exists _,ZR (Zh (Zc l v (Zq (XT (pv 0) rfl) (XT (pv 0) rfl))));let I:(W9 X.ts r).length<=400:=by
  cases r with
  | none=>exact zE _
  | some i=>
   have:=E2 t.fst.wf _ i (t.tp i Z).1 Z;have:(Yi X.ts (some i)).length=(gd X.ts i).rows.length:=rfl;have:(W9 X.ts (some i)).length=(WI X.ts (gd X.ts i).h i).length:=rfl
   lia
 let o:QQ X.ts (W9 X.ts r)=Yi X.ts r:=by
  cases r with
  | none=>rfl
  | some i=>exact EZ t.fst.wf _ i (t.tp i Z).1 Z
 refine⟨_,Z,T,CTb,c,_,.ref X.S,Z,d,L.cT,L.ns,Z,_,Z,T,CTb,c,_,XJ r,Z,d,L.cT,L.nr,Z,.mk X x X.ts.length y r ⟨t.sh.q,t.fst.wf,λi e=>⟨(t.tp i e).1,zI (t.low z i e) (by decide)⟩,∅,∅⟩ (λj g=>?_) λm D C a u k=>?_⟩
 ·cases r with
  | none=>cases g
  | some i=>exact Dh t.fst.wf _ i (t.tp i Z).1 Z j g
 ·rw[o] at k;exact q m D C _ a.fr (t.of a.sh) (by rw[zN];unfold iN;rw[zX];lia) a.free u k
theorem Bn{X:Cx}{a:jB}:XV X a (λ_ _ _=>False):=λ_ _ _ _ _ _ h=>h.elim
theorem Cb(n:Nat)(a:Nat->jj):Wn [] n a=a:=funext λi=>aJ (by simp)
theorem EF(a:Nat->Nat):Wr [] a=a:=funext λi=>aJ (by simp)
theorem Gx{g:jj}{c:jk}{t:ZP}{d:Nat->jj}{e:Nat->Nat}(j:∀ i∈g,i<c.length)(F:WM g c d e)(G:Yu g c c.length t)(l:∀ b∈t.bs,b∈g/\Tp d e b):WM (g++[c.length]) (c++[t]) (Wn t.bs c.length (UQ c.length d)) (Wr t.bs (UO c.length e))/\(∀ i∈g,i∉t.bs->Tp d e i->Tp (Wn t.bs c.length (UQ c.length d)) (Wr t.bs (UO c.length e)) i)/\Tp (Wn t.bs c.length (UQ c.length d)) (Wr t.bs (UO c.length e)) c.length:=by
 let s:∀ i∈g,i∉t.bs->Wn t.bs c.length (UQ c.length d) i=d i/\Wr t.bs (UO c.length e) i=e i:=λi k n=>by
  have:=j i k;unfold Wn Wr UQ UO;rw[aJ n,aJ n,aJ ∅,aJ ∅]
  exact⟨Z,Z⟩
 let nn':c.length∉g:=λy=>by have:=j _ y;lia
 exists ⟨F.wf.push j G,?_,λp E b h=>?_⟩,λi k n y=>?_
 ·rw[xR];exact⟨F.nd,by simp,λa C b D z=>nn' (by rw[<-zK.mp D,<-z];exact C)⟩
 ·rcases zD.mp E with q | q
  ·rw[Pq (j p q)] at h;let⟨r,u⟩:=F.hb p q b h;let B:(gd c p).h≠0:=λy=>by rw[((F.wf p q).leaf y).1] at h;cases h
   let⟨m,o⟩:=s b (((F.wf p q).stem B).2.2.1 b h).1 λy=>by have:=(l b y).2.1;rw[r] at this;cases this
   rw[m,o];exact⟨r,u⟩
  ·rw[zK.mp q,Ps] at h;rw[zK.mp q];let⟨v,x,A⟩:=l b h;have:=j b v;unfold Wn Wr UQ UO;rw[aK h,aK h,aJ ∅,aJ ∅,x,A]
   exact⟨Z,Z⟩
 ·let⟨m,o⟩:=s i k n;exact⟨m.trans y.1,o.trans y.2⟩
 ·let n:c.length∉t.bs:=λy=>nn' (l _ y).1;unfold Tp Wn Wr UQ UO;rw[aJ n,aJ n,aK rfl,aK rfl];exact⟨Z,Z⟩
inductive Vi(jN jO:ai):Sp
 |mk{X:Zd}{c:ai}{e:je}{g h:V}{k v:KT}{H:Hp}{Q:VK}{E:XK}:Tf jN jO H X c e none->X.ts.length<=700->X.lv.length<=700->ZD H k g->k.fits 3=true->ZD H v h->v.fits 3=true ->
  (∀(a:Hp)(b:Zd)(d:Nat),Go c H a X b->Tf jN jO a b c e (some d)->(gd b.ts d).rows=[(k,v)]->Q (.int (d:Nat)) a)->Vi jN jO [.ref X.S,.non,g,h] H Q E
abbrev BP:jn:=["shelf","root","key","value","row","steps","rows","owned","added","places"]
theorem U9:ZC BP zE6 (ZY Kn):=Zp
theorem ZM0(F:Zi K "put_in" "put_in" Kn f fd)(L:YT K mg jN jO)(n:ZA P w K mg jQ 4 "check_root" zEe (YD jN jO))(J:ZA P w K mg jQ 7 "checked" zEu Vv)(DL:ZB P w K mg jQ ZM 10 jN "put_leaf" zFf (WG jN jO)):ZI P w K mg jQ ZM 14 f fd zE6 (Vi jN jO):=by
 refine F.ok U9 (λvs H Q E h=>(by cases h;rfl)) (λa0 A D s H vs Q E u h=>?_)
 let⟨t,t7,v7,U,M,V,N,q⟩:=h;rename_i X W ls vk vv k v
 let nd:=U9.nd;let y:=u.mono (show 4<=13 by lia)
 let l:=u.mono (show 7<=13 by lia)
 let j:=u.mono (show 10<=13 by lia)
 intro Xc;refine⟨_,ZL (Ye (Zc n y (Zq (pv 0) (pv 1))))
  (ZL (Zj 4 nd (VC (Zq (Zc J l (ZT (pv 2))) (Zc J l (ZT (pv 3))))))
  (ZL (Z1 (Pa (MD (pv 1))) (ZR (Zh (Z0 (E:=E0) (pv 0) L.cS DL j Z3 (ZT (Yr (ZT (pv 4))))))) Z5) Bn)),?_⟩
 let R:=t.sh;refine⟨_,Z,_,Z,.mk (r:=none) R (λi e=>by cases e) λH1 I=>?_⟩
 exists _,Z,vk,k,Z,U.sm I,M;intro H2 Y;exists _,Z,vv,v,Z,(V.sm (I.trans Y)),N;intro H3 s3;exists YS;intro qa nq;let⟨H4,p,g4,hq⟩:=Y8 nq (.tup [vk,vv]);rw[p];let m:=((I.trans Y).trans s3).trans g4;let t4:=t.same m;let z:=U.sm m;let B:=V.sm m;let⟨dS,hS⟩:=t4.sh.sh.self;refine⟨_,Z,_,Z,Z7 ⟨_,Z,X.S,dS,_,Z,hS,Z,_,Z,YS,λp1 C=>?_⟩⟩;let⟨H5,p,g,h5⟩:=Y8 C (.lst [.ref qa]);rw[p];let G:P9 [(k,v)]:=⟨λx hx=>by rw[zK.mp hx];exact⟨M,N⟩,wT 0,by show 1<=4;lia,List.pairwise_singleton _ _⟩
 exists X.S,X.d,W,p1,X.lv,X.ts,X.av,X.ho,X.as,X.kvs,ls,_,[(k,v)],Z,t4.sh.same g,∅,h5,.cons (.tup (g _ _ hq) (.cons (z.sm g) (.cons (B.sm g) .nil))) .nil,G
 intro H6 a nx nt na fr R6;let G6:=(Go.same (m.trans g)).trans (Fx (lk:=W) (X:=X) (t:=Vt [(k,v)]) (av':=UQ X.ts.length X.av) (ho':=UO X.ts.length X.ho) (kvs':=XU X.kvs (.inl (X.ts.length:Int)) (.ref a.x)) R.len R.lt (λc o C n2 _ e=>fr c o C n2 e) nx nt na);let⟨O,_,T⟩:=Gx (t:=Vt [(k,v)]) R.lt t.fst (Jk G) (λb hb=>by cases hb)
 rw[show (Vt [(k,v)]).bs=[] from rfl,Cb,EF] at O T;refine q H6 _ X.ts.length G6 ⟨R6,O,λi e=>?_⟩ ?_
 ·cases e;exact⟨yP _ (zK.mpr rfl),T⟩
 ·show (gd (X.ts++[_]) X.ts.length).rows=_;rw[Ps];rfl
inductive Xi(jN jO CTb:ai):Sp
 |mk{T:ai}{X:Zd}{b:ai}{g:je}{i j:V}{k v:KT}{H:Hp}{Q:VK}{E:XK}:Yg CTb H T X.S none->Tf jN jO H X b g none->X.ts.length<=700->X.lv.length<=700->g.length<=369000->Z2 X b T->ZD H k i->k.fits 3=true->ZD H v j->v.fits 3=true ->
  (∀(e:Hp)(a:Zd)(d:je)(h:Nat),a.S=X.S->(∀ c o,c≠T->Z2 X b c->H c=some o->e c=some o/\Z2 a b c)->Z2 a b T->Tf jN jO e a b d (some h)->Yg CTb e T a.S (some h)->Yi a.ts (some h)=[(k,v)]->d.length<=g.length+8->Q (.bl true) e) ->
  Xi jN jO CTb [.ref T,i,j] H Q E
theorem GS{jN jO CTb T b:ai}{H:Hp}{X:Zd}{h:ai}{l:je}{r:jp}(t:Tf jN jO H X h l r)(g:Z2 X h T){r0:jp}(s:H T=some (.ins CTb b (NE X.S r0))):∃ d,upd H T (.ins CTb b (Yn "root" (XJ r) (NE X.S r0)))=d/\(∀ c o,c≠T->H c=some o->d c=some o)/\Tf jN jO d X h l r/\Yg CTb d T X.S r:=by
 let a:∀ c o,c≠T->H c=some o->upd H T (.ins CTb b (Yn "root" (XJ r) (NE X.S r0))) c=some o:=λc o n e=>by rw[ZS n];exact e
 let j:upd H T (.ins CTb b (Yn "root" (XJ r) (NE X.S r0))) T=some (.ins CTb b (NE X.S r)):=ZZ;refine⟨_,Z,a,?_,b,j⟩;generalize upd H T (.ins CTb b (Yn "root" (XJ r) (NE X.S r0)))=m at a j⊢;let x:Z6 H m:=λc B e=>a c _ (ZW e s) e;let R:=t.sh;let⟨⟨p,q⟩,u,v⟩:=R.sh;refine⟨⟨⟨⟨p,a _ _ g.1.symm q⟩,a _ _ g.2.1.symm u,a _ _ g.2.2.1.symm v⟩,R.lt,R.keys,R.val,R.len,λi k=>?_,R.own,R.two⟩,t.fst,t.tp⟩;let⟨y,z,A⟩:=g.2.2.2 i k;exact(R.tw i k).frame x (λo e=>a _ _ y.symm e) (λo e=>a _ _ A.symm e) (λo e=>a _ _ z.symm e)
theorem Qt:ZC ["self","key","value","changed"] zFc (ZY Kd):=Zp
theorem ZKt(F:Zi K "put" "Table.put" Kd f fd)(L:UW K mg CTb)(DS:ZB P w K mg jQ (Yd P w) 12 CTb "side" zEk (YE jN jO CTb CK))(DC:ZA P w K mg jQ 7 "checked" zEu Vv)(DP:ZA P w K mg jQ 14 "put_in" zE6 (Vi jN jO)):ZI P w K mg jQ (Yd P w) 15 f fd zFc (Xi jN jO CTb):=by
 refine F.okD Qt (λvs H Q E h=>(by cases h;rfl)) (λa0 A V s H vs Q E C h=>?_)
 let⟨j,t,t7,v7,a1,U,kk,fk,kv,fv,q⟩:=h;rename_i T X lk ls vk Y k v
 let nd:=Qt.nd;let m:=C.mono (show 12<=14 by lia)
 let J:=C.mono (show 7<=14 by lia)
 intro Xc;refine⟨_,ZL (Zj 3 nd (Vs (Cg C) (Z0 (E:=E) (pv 0) L.cT DS m (JC NJ λ_ _ _ h=>h) (ZT (pv 1))) (Yr (ZT (Zc DC J (ZT (pv 2))))) (YG _)))
  (ZL (Uz (pv 0) (Zc DP C (QI (XT (pv 0) rfl) (XT (pv 0) rfl) (pv 1) (pv 2))) rfl)
  (ZR (Zh (pv 3)))),?_⟩
 let⟨y,hT⟩:=id j;refine⟨_,Z,T,y,_,Z,hT,Z,_,Z,.mk (N:=λ_=>False) (o:=some k) j t (zE _) ∅ ⟨kk,fk⟩ (λz=>by cases z) λk' ek H1 D ys O i t1 l1 nD hD ks=>?_⟩
 cases ek;let m1:Z6 H H1:=λb xs e=>i b _ (ZW e t.sh.sh.looks) e;refine⟨_,Z,Y,v,Z,kv.mono m1 _ _,fv,λH2 s2=>⟨YS,λp1 R=>?_⟩⟩;let⟨H3,B,g3,h3⟩:=Y8 R (.lst [Y]);rw[B];let u:=s2.trans g3;let t3:=t1.same u;let g:∀ b o,b≠lk->H b=some o->H3 b=some o:=λb o n e=>u _ _ (i b o n e);let m3:Z6 H H3:=λb xs e=>u _ _ (m1 b xs e);let M:=kk.mono m3 _ _;let p:=kv.mono m3 _ _;exists D,p1,ys,[Y],[],[v],Z,Z,ZG.of (u _ _ hD),ZG.of h3,ks.sm u,.cons p .nil,(λx hx=>by cases hx)
 let a:=g _ _ U.2.2.1 hT;refine⟨_,Z,T,CTb,y,_,.ref X.S,Z,a,L.cT,L.ns,Z,_,Z,T,CTb,y,_,.non,Z,a,L.cT,L.nr,Z,_,Z,_,Z,.mk t3 t7 v7 M fk p fv λH4 X4 W d t4 e4=>?_⟩;let l:=d.fr _ _ U a;let r:=d.off _ _ U a;exists _,Z,T,CTb,y,_,Z,l,L.cT,L.nr,yX Z;let⟨H5,B,I,t5,T5⟩:=GS t4 r (r0:=none) (by rw[d.S];exact l)
 rw[show XJ (some W)=.int (W:Nat) from rfl,d.S] at B;rw[B];exact⟨_,Z,q H5 X4 O W d.S (λc o R G e=>⟨I c o R (d.fr c o G (g c o G.2.2.1 e)),d.off c o G (g c o G.2.2.1 e)⟩) r t5 T5 e4 ∅⟩
inductive Yh(jN jO CTb CK:ai):Sp
 |mk{T:ai}{X:Zd}{d:ai}{g:je}{r:jp}{j:V}{N:ai->Prop}{h:jF}{H:Hp}{Q:VK}{E:XK}:Yg CTb H T X.S r->Tf jN jO H X d g r->(Yi X.ts r).length<=200->g.length<=366000->Z2 X d T->Qe N H h j ->
  (h=none->∀ a,ZE H a->E (.ref CK) none a) ->
  (∀ k,h=some k->∀(a:Hp)(b:Zd)(e l:je)(i:jp)(D:ai),b.S=X.S->(∀ c o,c≠T->Z2 X d c->H c=some o->a c=some o/\Z2 b d c)->Z2 b d T->Tf jN jO a b d e i->Yg CTb a T b.S i->Yi b.ts i=XA k (Yi X.ts r)->e.length<=g.length+80->b.ts.length=X.ts.length->b.lv.length<=X.lv.length->H D=none->a D=some (.lst l)->Z2 b d D->D≠T->jI a (WJ (Yi X.ts r) k) l->Q (.ref D) a) ->
  Yh jN jO CTb CK [.ref T,j] H Q E
abbrev KG:Stmt:=Xv (top 74) 2
theorem U4:ZC ["self","key","taken"] zEk (ZY KG):=Zp
theorem ZLY(F:Zi K "take" "Table.take" KG f fd)(L:UW K mg CTb)(DS:ZB P w K mg jQ (Yd P w) 12 CTb "side" zEk (YE jN jO CTb CK))(DT:ZA P w K mg jQ 36 "taken_from" zEd (WT jN jO)):ZI P w K mg jQ (Yd P w) 37 f fd zEk (Yh jN jO CTb CK):=by
 refine F.okD U4 (λvs H Q E h=>(by cases h;rfl)) (λa0 A R s H vs Q E hr h=>?_)
 let⟨l,t,r2,a1,O,C,no,q⟩:=h;rename_i T X lk ls r vk N ok
 let nd:=U4.nd;let n:=hr.mono (show 12<=36 by lia)
 intro Xc;refine⟨_,ZL (Zj 2 nd (Z0 (E:=E) (pv 0) L.cT DS n (JC NJ λ_ _ _ h=>h) (ZT (pv 1))))
  (ZL (Uz (pv 0) (Zc DT hr (Vm (XT (pv 0) rfl) (XT (pv 0) rfl) (pv 1))) rfl)
  (ZR (Zh (pv 2)))),?_⟩
 let⟨u,B⟩:=id l;refine⟨_,Z,T,u,_,Z,B,Z,_,Z,.mk l t r2 ∅ C no λk ek U D ys a2 g t1 l1 x Y ks=>?_⟩
 subst ek;let m1:Z6 H U:=λb xs e=>g b _ (ZW e t.sh.sh.looks) e;let G:=C.1.mono m1 _ _;let a:=g _ _ O.2.2.1 B;let oD:Z2 X lk D:=t.sh.new x;refine⟨_,Z,T,CTb,u,_,.ref X.S,Z,a,L.cT,L.ns,Z,_,Z,T,CTb,u,_,XJ r,Z,a,L.cT,L.nr,Z,_,Z,.mk t1 r2 ∅ G C.2 λH4 X4 I r4 d t4 e4 f4 l4 v4=>?_⟩
 let m:=d.fr _ _ O a;let p:=d.off _ _ O a;let y:=d.fr _ _ oD Y;let M:=d.off _ _ oD Y;let j:D≠T:=λz=>by rw[z,B] at x;cases x
 exists _,Z,T,CTb,u,_,Z,m,L.cT,L.nr,yX Z;let⟨V,W,i,t5,T5⟩:=GS t4 p (r0:=r) (by rw[d.S];exact m)
 rw[d.S] at W;rw[W];let J:Z6 U V:=λb xs e=>i b _ (ZW e a) (d.tups t1.sh b xs e);exact⟨_,Z,q k Z V X4 I ys r4 D d.S (λc o n1 v e=>⟨i c o n1 (d.fr c o v (g c o v.2.2.1 e)),d.off c o v (g c o v.2.2.1 e)⟩) p t5 T5 e4 ∅ l4 v4 x (i D _ j y) M j (ks.mono J _ _)⟩
end
theorem Cr{d:ai}{o:aG}{a:Array DictEntry}{g:Nat}{Q:ja}(i:(d==sysModules)=false)(c:s.heap.get? d=some o)(j:o.ExactDict)(b:o.data=.dict a g)(e:(a.size:Int)<2 ^ 63)(h:Q (.int a.size (s.toks+1)) { s with toks:=s.toks+1+1 }):aA (az prog w) A (call (.builtin "len") [.ref d]) Q E s:=by
 refine Calls.call_function_entry kind_len plain_len entry_len (args_len1 _) ?_;let f:s.TypeIs (.ref d) "dict" :=⟨o,c,j.1⟩;unfold Builtin.«len»;refine aa (m:=oneArg "len" _) (ad ?_);let M:MeetsIn prog w (Builtin.«dict.__len__» ⟨[.ref d],[]⟩) (λ_ R s=>(s.heap.get? d=some o)/\R (.ok (.ret (.int a.size s.toks))) { s with toks:=s.toks+1 }):=
  .of_wp λA R s ⟨c,h⟩=>by
   show aA _ _ (dictSize d >>= _) _ _ s;unfold dictSize;refine aa (aa (wpAny_dictEntries c b (ad ?_)));show aA _ _ (Builtin.Dict.pendingCount d >>= _) _ _ s;refine aa (wpAny_pendingCount_other i ?_);refine wpAny_ret_mkInt ?_;rw[Nat.add_zero];exact h
 refine aa (m:=callSpecial? (.ref d) (xQ "__len__")) (wpAny_callSpecial?_slot (name:=xQ "__len__") f F.slot_dict_len
  (call_meetsIn F.slot_dict_len f F.entry_dict_len (F.args_dict_len_1 _) M ⟨c,?_⟩))
 show aA _ _ _ _ _ { s with toks:=s.toks+1 };refine aa (af (ad ?_));refine aa (wpAny_letGo ?_);show aA _ _ (if ((a.size:Nat):Int)<0 then _ else _) _ _ _
 rw[aJ nofun]
 show aA _ _ (if ((a.size:Nat):Int) ≥ 2 ^ 63 then _ else _) _ _ _
 rw[aJ nofun]
 exact aa (wpAny_mkInt (ad ⟨_,rfl,h⟩))
inductive Ux(c:ar)(d:je)(H:Hp)(Q:VK):Prop
 |mk(a:ai)(b:List (KT×V×V))(_:d=[.ref a])(_:Zu c H a b)(_:b.length<1000)(_:Q (.int (b.length:Nat)) H)
theorem ZIp:UR X (.builtin "len") (Ux X.w):=by
 intro e s z H y x Q I r h;let⟨a,f,rfl,g,l,q⟩:=h;let⟨u,rfl,t⟩:=Qf r;cases t;let⟨i,j,d⟩:=g.ex;let⟨⟨b,n,o,v,m,p,k⟩,_⟩:=I.hok a _ j;let c:i.size=f.length:=by have:=Paired.length d;simpa using this.symm
 refine Cr b m p k nofun ?_
 rw[c];exact⟨.int f.length,H,(I.tok _),⟨_,Z⟩,q⟩
theorem ZLr{X:Cx}{w:ar}{o i:Expr}{a:Pos}{b c:TE}(h:X.A.units+5<cLine)(e:PE X o b)(d:PE X i c)(g:My i)(j:X.w=w:=by rfl):PE X (.Subscript o i a) (FW w b c):=by
 subst j;exact DY h e d g
theorem Ad{c:jl}(h:PQ c):c.Nodup:=h.imp fun{a b} q e=>by rw[e,V9] at q;cases q
structure YN(w:ar)(H:Hp)(D:ai)(rs:jm)(xs:List (KT×V×V)):Prop where
 dk:Zu w H D xs
 rows:Paired (fun(r:Zb)(x:KT×V×V)=>x.1=r.1/\ZD H r.2 x.2.2) rs xs
theorem YN.keys{w:ar}{H:Hp}{D:ai}{b:jm}{c:List (KT×V×V)}(h:YN w H D b c):c.map (·.1)=b.map (·.1):=by
 have:=h.rows;clear h
 induction this with
 | nil=>rfl
 | cons a t d=>rw[yT,yT,a.1,d]
theorem YN.but{w:ar}{H H':Hp}{D p:ai}{a:jm}{b:List (KT×V×V)}(h:YN w H D a b)(s:ZH p H H')(t:Z6 H H')(n:D≠p):YN w H' D a b:=⟨h.dk.but s t n,Paired.mapP h.rows λ_ _ z=>⟨z.1,z.2.mono t _ _⟩⟩
theorem YN.same{w:ar}{H a:Hp}{D:ai}{b:jm}{c:List (KT×V×V)}(h:YN w H D b c)(s:ZE H a):YN w a D b c:=⟨h.dk.same s,Paired.mapP h.rows λ_ _ z=>⟨z.1,z.2.sm s⟩⟩
theorem Iy{w:ar}{H a:Hp}{d:ai}{f:List (KT×V×V)}(c:Zu w H d f)(s:ZH d H a):Z6 H a:=λb i e=>by
 let⟨g,h,_⟩:=c.ex;exact s b _ e (ZW e h (by unfold UY;intro z;cases z))
inductive Wc(w:ar)(c:je)(H:Hp)(Q:VK)(_:XK):Prop
 |mk(p:ai)(m:Int)(_:c=[.ref p,.int m])(_:ZO H p)(_:0<m)(_:m<=62)(_:∀(D:ai)(b:jm)(d:List (KT×V×V))(a:Hp),H D=none->YN w a D b d->(∀ r∈b,r.fit)->PQ (b.map (·.1))->((b.length:Nat):Int)<m->ZO a p->ZH p H a->Q (.ref D) a)
abbrev BH:jn:=["_law_well_here","_law_most","_law_keys_here","_law_model","_law_spot"]
theorem Vz:ZC BH zE7 (ZY Ip):=Zp
inductive GrL(p:ai)(m:Int)(c D:ai)(w:ar)(d:jl)(H:Hp)(e:je)(i:Nat)(j:L2.St)(a:Hp):Prop
 |mk(b:jm)(h:List (KT×V×V))(g:jf)(_:j=[some (.ref p),some (.int m),some (.ref c),some (.ref D),g])(_:YN w a D b h)(_:b.map (·.1)=d.take i)(_:∀ r∈b,r.fit)(_:ZO a p)(_:ZH p H a)(_:a c=some (.lst e))(_:jI a d e)
theorem ZJX(F:Zi K "_law_ground" "_law_ground" Ip f fd)(DP:ZA P w K mg jQ 1 "_law_pull" zEb Zy)(DK:ZA P w K mg jQ 9 "_law_keys" zEb Uu)(DV:ZA P w K mg jQ 7 "_law_value" zEp Vd):ZI P w K mg jQ ZM 10 f fd zE7 (Wc w):=by
 refine F.ko Vz λa7 A a5 s H N Q E q h=>?_;let⟨p,m,rfl,W,m0,a8,k⟩:=h;let nd:=Vz.nd;let a3:=q.to 1;let a4:=q.to 7;let Jv:=ZU.key q (n:=4) (by decide)
 intro Xc;refine⟨_,ZL (Zj 2 nd (Zc DK q (Zq (pv 0) (Zc DP a3 (Zq (pv 0) (pv 1))))))
  (ZL (Zj 3 nd E7)
  (ZL (Vk PassesOwn.never rfl (WD (pv 2)) (Vo 4 nd)
   (ZR (El Jv (pv 3) (pv 4) (Zc DV a4 (ZT (pv 0))) rfl)))
  (ZR (Zh (pv 3))))),?_⟩
 exists _,Z,_,Z,_,Z,p,m,Z,W,Wv ∅ ∅
 intro n H1 n0 n1 W1 s1;let en:n=((n.toNat:Nat):Int):=∅
 exists p,n.toNat,congrArg (λy=>[V.ref p,V.int y]) en,W1,by lia
 intro x N ts H2 nK hK kK fK rK lK W2 s2;let pK:x≠p:=NT W1 nK;let M:=s1.trans s2;intro D H3 T a9 U a1;let W3:=W2.same U;let C:=U _ _ hK;let Dp:D≠p:=NT W2 T;let a0:D≠x:=λz=>by rw[z,hK] at T;cases T
 let J:H D=none:=GU M W2 T;let a6:=M.trans (ZH.of U);let lv:=kK.length;refine⟨_,Z,x,Z,⟨N,ZG.of C⟩,Qm (K:=K) (a:=x) (xs:=N) (GrL p m x D w ts H N)
  ⟨[],[],_,Z,⟨a1,.nil⟩,Z,λr q=>by simp at q,W3,a6,C,kK.sm U⟩ (λi σ H' _ hP=>by let⟨_,_,_,_,_,_,_,_,_,h,_⟩:=hP;exact ZG.of h) ?_ ?_⟩
 ·rintro i u σ H4 hu ⟨L,l,x4,rfl,dr,d,fr,O,s4,G,g⟩;let hi:i<N.length:=(zB.mp hu).1;let⟨t,R,kt⟩:=g.get hu;exists _,Z,p,Z,O;intro v vt H5 kv fv W5 X;let t5:=X.tupsW O;let c:=dr.but X t5 Dp;let lx:=Paired.length c.rows;let I:L.length=(ts.take i).length:=by rw[<-d,zX]
  rw[xU] at I;exists _,Z,_,Z,D,l,t,Z,c.dk,∅,kt.mono t5 _ _,UL _ 3 (fK t (zL R))
  intro H6 Y B;let t6:=Iy c.dk Y;let hn:t∉l.map (·.1):=by
   rw[c.keys,d];intro z;let⟨j,S⟩:=wF z;rw[tG] at S;split at S
   ·have:=(tJ ∅ (Ad rK)).mp (S.trans R.symm)
    lia
   ·cases S
  let ep:Qs l t u v=l++[(t,u,v)]:=by
   unfold Qs;rw[aJ λz=>hn (WO.mp z)]
  rw[ep] at B;refine⟨L++[(t,vt)],l++[(t,u,v)],_,Z,⟨B,IS (a:=((t,vt):Zb)) ⟨Z,kv.mono t6 _ _⟩ (Paired.mapP c.rows λ_ _ z=>⟨z.1,z.2.mono t6 _ _⟩)⟩,?_,λr a2=>?_,W5.stay Y (Ne.symm Dp),λb o e n=>Y b o (X b o (s4 b o e n) n) (Zg e J),Y _ _ (X _ _ G pK) (Ne.symm a0),(g.mono t5 _ _).mono t6 _ _⟩
  ·rw[zF,d,yR,R];rfl
  ·rcases zD.mp a2 with z | z
   ·exact fr r z
   ·rw[zK.mp z];exact⟨fK t (zL R),fv⟩
 ·rintro σ H4 ⟨L,l,x4,rfl,dr,d,fr,O,s4,G,g⟩;rw[yV ∅] at d
  let I:L.length=ts.length:=by rw[<-d,zX]
  exact⟨_,Z,k D L l H4 J dr fr (by rw[d];exact rK) ∅ O s4⟩
end Tw
namespace L2
open PySem PySem.Spec PyProof.Rows
end L2
namespace Tw
open PySem PySem.Spec L2 PyProof.Rows
variable{jN jO CS CT CH CK CP CB:ai}
inductive VW(d:zZ)(x y:V)(H:Hp)(Q:VK):Prop
 |mk(p:ai)(c:je)(a:jl)(k:KT)(_:y=.ref p)(_:ZG d H p c)(_:jI H a c)(_:ZD H k x)(_:∀ t∈a,t.fits 3=true)(_:∀ b,Q (.bl b) H)
theorem ZGE{D:Nat}(C:ZU D X.A):Y7 X (ay .NotIn) (VW X.K):=by
 intro l s V H x y v u Q I L M h;let⟨p,m,S,k,rfl,B,E,G,z,q⟩:=h;cases M;let⟨a,r,J,P⟩:=I.list B;let U:=C.un;let w:∀ y,y∈a.toArray->∃ b,PySem.SeqAt.EqAt X.A.in1 s y v b:=λy c=>by
  let d:y∈a:=by simpa using c
  let⟨j,g⟩:=wF d;let R:=r.length;let O:=(zB.mp g).1;let i:m[j]? = some (m[j]'∅):=zQ ∅
  let⟨T,e,n⟩:=r.get i;rw[g] at e;cases e;let⟨t,o,F⟩:=E.get i;let N:=UL t 3 (z t (zL o));exact⟨_,Pn t.depth t k X.A.in1 y v (zY _) (VX I _ _ _ F n) (VX I _ _ _ G L) (by show X.A.units+1+_<_;lia)⟩
 refine PySem.SeqAt.notIn_listAt (λy=>@ite _ (PySem.SeqAt.EqAt X.A.in1 s y v true) (Classical.propDecidable _) true false) J.isList (λy c=>?_) ⟨.bl _,H,I,Z,q _⟩;let⟨b,f⟩:=w y c;by_cases h:PySem.SeqAt.EqAt X.A.in1 s y v true
 ·rw[aK h];exact h
 ·rw[aJ h]
  cases b with
  | true=>exact absurd f h
  | false=>exact f
inductive XB(i:je)(H:Hp)(Q:VK)(_:XK):Prop
 |mk(p d:ai)(g:je)(h:jl)(_:i=[.ref p,.ref d])(_:ZO H p)(_:H d=some (.lst g))(_:jI H h g)(_:∀ t∈h,t.fits 3=true)(_:d≠p)(_:g.length<=800)(_:∀(v:V)(t:KT)(a:je)(e:jl)(c:Hp),ZD c t v->t.fits 3=true->c d=some (.lst a)->jI c e a->(∀ t∈e,t.fits 3=true)->a.length<=g.length+1->ZO c p->(∀ b o,b≠p->b≠d->H b=some o->c b=some o)->Q v c)
theorem UH:ZC ["_law_well_here","_law_known","_law_spot"] zEo (ZY IY):=Zp
theorem ZIN(F0:Zi K "_law_any_key" "_law_any_key" IY f fd)(T:YL mg)(DP:ZA P w K mg jQ 1 "_law_pull" zEb Zy)(DK:ZA P w K mg jQ 6 "_law_key" zEh (XW 4)):ZI P w K mg jQ ZM 7 f fd zEo XB:=by
 refine F0.ko UH λa9 A a6 s H vs Q E hr h=>?_;let⟨p,l,x,X,rfl,W,hk,kk,J,O,a8,q⟩:=h;let nd:=UH.nd;let M:=hr.to 1;intro Xc;refine⟨_,ZL (Z1 (PW.pt (GO (YX (Jb hr.units0) (pv 1) (Yr Zn) (YG _)) (Fd (YX Uo (Zc DP M (Zq (pv 0) ZK)) ZK (YG _))))) (ZR (Zh (Z8 K (pv 1) (Zc DP M (Zq (pv 0) (YC Xm rfl T.len Xa (ZT (pv 1)))))))) Z5)
  (ZL (Zj 2 nd (Zc DK hr (Zq (pv 0) ZK)))
  (ZL (Z1 (YX (ZGE hr) (pv 2) (pv 1) rfl) (ZR (Ye (QS xW wO wN PY (pv 1) (ZT (pv 2))))) Z5)
  (ZR (Zh (pv 2))))),?_⟩
 exists _,Z,YS;intro e0 a5;let n:=Zv a5 (.lst []);exists l,e0,x,Z,Z,ZG.of (n _ _ hk),ZG.of ZZ,_,Z;let r:=n _ _ hk;let I:=W.same n;generalize upd H e0 (.lst [])=Y at n r I⊢;let C:∀{H1:Hp},ZH p Y H1->ZO H1 p->∀(R:V->Hp->Prop),(∀ v t a,ZD a t v->t.fits 3=true->ZO a p->ZH p Y a->R v a)->XW 4 [V.ref p,V.int 3] H1 R E0:=λU W1 R hR=>⟨p,3,Z,W1,by decide,λv t a g m k d=>hR v t a g m k (U.trans d)⟩
 let B:∀{v:V}{t:KT}{a:Hp},ZD a t v->t.fits 3=true->ZO a p->ZH p Y a->Q v a:=fun{v t a} g m k d=>q v t x X a g m (d _ _ r O) ((kk.sm n).mono (d.tupsW I) _ _) J ∅ k λb o n1 _ e=>d b o (n b o e) n1
 let D:∀{v:V}{t:KT}{a:Hp},ZD a t v->t.fits 3=true->ZO a p->ZH p Y a->a l=some (.lst x)/\jI a X x/\(Q v a)/\Q v (upd a l (.lst (x++[v]))):=fun{v t a} g m k d=>by
  let u:=d _ _ r O;let N:=(kk.sm n).mono (d.tupsW I) _ _;let sK:ZH l a (upd a l (.lst (x++[v]))):=(ZH.refl l a).upd;let tK:=sK.tups u;refine⟨u,N,B g m k d,q v t (x++[v]) (X++[t]) _ (g.mono tK _ _) m ZZ ((N.mono tK _ _).append (.cons (g.mono tK _ _) .nil)) (λz hz=>?_) (by simp) (k.stay sK (Ne.symm O)) λb o n1 n2 e=>by rw[ZS n2];exact d b o (n b o e) n1⟩
  rcases zD.mp hz with y | y
  ·exact J z y
  ·rw[zK.mp y];exact m
 let a0:x.length<1000:=∅
 cases x with
 | nil=>
  refine Zm (Zm ⟨_,Z,C (ZH.refl _ _) I _ λv t a g m k d=>?_⟩);let⟨G,a2,a3,a4⟩:=D g m k d;refine⟨_,Z,_,Z,l,_,X,t,Z,ZG.of G,a2,g,J,λb=>⟨_,Z,?_⟩⟩
  cases b with
  | true=>exact Z7 ⟨_,Z,.inl ⟨Z,_,ZG.of G⟩,_,Z,l,_,v,Z,Z,G,nn ∅,_,Z,a4⟩
  | false=>exact Zm ⟨_,Z,a3⟩
 | cons u0 a7=>
  refine Z7 ⟨_,Z,p,3,Z,I,Wv (by decide) (by decide),λz H1 z0 z1 W1 U=>⟨_,_,Z,Z,_,Z,Vg (λc=>?_) (λc=>?_)⟩⟩
  ·let L:=U _ _ r O;exists _,Z,_,Z,_,Z,l,_,Z,.inl (ZG.of L),p,_,Z,W1,Wv (by simp <;> lia) (by simp at a0⊢ <;> lia)
   intro j a j0 j1 k d;let⟨v,av,mv⟩:=NA (xs:=u0::a7) j0 j1;let u:=d _ _ L O;let⟨i,hi⟩:=wF mv;let S:=U.trans d;let⟨t,et,kt⟩:=((kk.sm n).mono (S.tupsW I) _ _).get hi;exact .inl ⟨l,_,_,v,Z,Z,ZG.of u,av,B kt (J t (zL et)) k S⟩
  ·refine⟨_,Z,C U W1 _ λv t a g m k d=>?_⟩;let⟨G,a2,a3,a4⟩:=D g m k d;refine⟨_,Z,_,Z,l,_,X,t,Z,ZG.of G,a2,g,J,λb=>⟨_,Z,?_⟩⟩
   cases b with
   | true=>exact Z7 ⟨_,Z,.inl ⟨Z,_,ZG.of G⟩,_,Z,l,_,v,Z,Z,G,nn ∅,_,Z,a4⟩
   | false=>exact Zm ⟨_,Z,a3⟩
abbrev CN(a:jm):Prop:=(a.map (·.1)).Nodup
theorem DJ:∀{d:jm},CN d->∀{x y:Zb},x∈d->y∈d->x.1=y.1->x=y
 | z::l,h,x,y,hx,hy,e=>by
  let c:=yW.mp h;rcases zU.mp hx with a | a <;> rcases zU.mp hy with b | b
  ·rw[a,b]
  ·exact absurd (zP.mpr ⟨y,b,by rw[<-e,a]⟩) c.1
  ·exact absurd (zP.mpr ⟨x,a,by rw[e,b]⟩) c.1
  ·exact DJ c.2 a b e
theorem HP{rs:jm}:∀(b:jl),(∀ t∈b,t∈rs.map (·.1))->∃ a:jm,a.map (·.1)=b/\∀ x∈a,x∈rs
 | [],_=>⟨[],Z,λx h=>by cases h⟩
 | t::b,h=>by
  let⟨r,g,e⟩:=zP.mp (h t zS);let⟨a,c,d⟩:=HP b λj f=>h j (zO _ f);exact⟨r::a,by rw[yT,c,e],λx i=>(zU.mp i).elim (λz=>z ▸ g) (d x)⟩
theorem YN.at_{w:ar}{H:Hp}{D:ai}{d:jm}{a:List (KT×V×V)}(h:YN w H D d a){r:Zb}(j:r∈d):∃ v,Ws a r.1=some v/\ZD H r.2 v:=by
 let⟨i,b⟩:=wF j;let l:=Paired.length h.rows;let k:=(zB.mp b).1;let c:a[i]? = some (a[i]'∅):=zQ ∅
 let⟨m,e,f,g⟩:=Paired.ixR h.rows c;rw[b] at e;cases e;have:=Kf h.dk.nd c;rw[f] at this;exact⟨_,this,g⟩
theorem YN.nd{w:ar}{H:Hp}{D:ai}{a:jm}{b:List (KT×V×V)}(h:YN w H D a b):CN a:=by
 show (a.map (·.1)).Nodup;rw[<-h.keys];exact h.dk.nd
theorem YN.none{w:ar}{H:Hp}{D:ai}{a:jm}{b:List (KT×V×V)}(h:YN w H D a b){k:KT}(c:k∉a.map (·.1)):Ws b k=vS:=GY (by rw[h.keys];exact c)
inductive Ya(w:ar):Sp
 |mk{D:ai}{c:jm}{e:List (KT×V×V)}{H:Hp}{Q:VK}{E:XK}:YN w H D c e->(∀ r∈c,r.fit)->c.length<=63->(∀(l:ai)(d:je)(a:jm)(b:Hp),ZE H b->H l=none->b l=some (.lst d)->jI b (YI a) d->Up a->(∀ x,x∈a ↔ x∈c)->Q (.ref l) b)->Ya w [.ref D] H Q E
theorem Ah:ZC zE9 zE9 (ZY Kc):=Zp
theorem ZKK(F:Zi K "_law_sorted" "_law_sorted" Kc f fd)(T:YL mg)(DR:ZA P w K mg jQ 6 "_law_rank" zE1 (X9 5)):ZI P w K mg jQ ZM 9 f fd zE9 (Ya w):=by
 refine F.ok Ah (λvs H Q E h=>(by cases h;rfl)) (λa7 A a5 s H vs Q E hr h=>?_)
 let⟨I,fr,a9,k⟩:=h;rename_i D C xs
 let a3:=ZU.key hr (n:=5) (by decide)
 let DS:ZA P w K mg jQ 6 "_law_rank" zE1 (P1 KT.rk):=by
  let⟨g,gd,FG,b,kp,m⟩:=DR.ex;exact⟨g,gd,FG.imp λvs H Q E h=>by
   let⟨v,t,e,a,c,d⟩:=h;have:=UL t 3 c;exact⟨v,t,3,e,a,c,∅,d⟩,b,kp,m⟩
 intro Xc;exists _,ZR (Zh (Vn [0] zE9 rfl (WD (CM Hx IP DS hr rfl T.sorted rfl (ZT (pv 0)))) (λ_ _ _ _ _=>U0) (λ_ _ _ _ _=>VC (Zq (pv 0) (ZLr (w:=w) a3 (pv 1) (pv 0) (λ_ _=>rfl)))) ⟨rfl,.inl rfl,rfl,trivial⟩));let lx:=Paired.length I.rows;let ek:=I.keys;let kf:∀ x∈xs,x.1.fits 3=true:=λx V=>by
  have:x.1∈C.map (·.1):=by rw[<-ek];exact zP.mpr ⟨x,V,Z⟩
  let⟨r,a2,e⟩:=zP.mp this;rw[<-e];exact(fr r a2).1
 exists _,Z,D,xs,Z,I.dk,kf,by lia
 intro S G ts H1 s1 nS U ka X pw;let a6:=FN (X.nodup_iff.mpr I.dk.nd) pw;let⟨Y,R,B⟩:=HP (rs:=C) ts λt ht=>by rw[<-ek];exact X.mem_iff.mp ht
 subst R;let a0:=I.same s1;let lw:=ka.length;rw[zX] at lw;let lp:=X.length_eq;rw[zX,zX] at lp;let a4:∀ x,x∈Y ↔ x∈C:=λx=>⟨B x,λV=>by
  have:x.1∈Y.map (·.1):=X.mem_iff.mpr (by rw[ek];exact zP.mpr ⟨x,V,Z⟩)
  let⟨y,O,e⟩:=zP.mp this;rw[<-DJ I.nd (B y O) V e];exact O⟩
 refine⟨S,Z,⟨G,ZG.of U⟩,Ud (n:=G.length) (λi z=>G[i]? = some z) (λE i u j=>ZE H1 j/\H1 E=none/\jI j ((YI Y).take i) u) (XX ∅)
  (λE i u j hi l=>⟨G,G[i],ZG.of (l.1 _ _ U),by simp[hi]⟩) (λE i u j z H4 hi l O=>⟨O.1,O.2 G (ZG.of (l.1 _ _ U))⟩) (λE u j l=>⟨G,ZG.of (l.1 _ _ U),zY _⟩)
  (λE hE=>⟨Zv hE _,hE,.nil⟩) (λE i u j z eE a8 hi hz l RR a1=>?_) (λE u j eE l=>?_)⟩
 ·let⟨J,W,p⟩:=l;let⟨t,R,kt⟩:=ka.get hz;rw[zG] at R;let⟨r,er,rfl⟩:=yC.mp R;let L:=a0.same J;let N:=B r (zL er);let⟨v,hv,e2⟩:=L.at_ N;let ff:=(fr r N).1;exists _,Z,_,Z,_,Z,D,xs,r.1,_,Z,L.dk,kt.sm J,UL _ 3 ff,hv,YS;intro q nq;let g:=Zv nq (.tup [z,v]);let eq:=ZZ (H:=j) (a:=q) (o:=.tup [z,v]);let M:=g _ _ eE;refine a1 _ _ M ⟨Uq (J.trans g) W,W,?_⟩;let tE:Z6 (upd j q (.tup [z,v])) (upd (upd j q (.tup [z,v])) E (.lst (u++[.ref q]))):=(ZH.refl E _).upd.tups M;unfold YI;rw[yR,zG,er];refine((p.sm g).mono tE _ _).append (.cons (.tup (tE _ _ eq) (.cons ?_ (.cons ?_ .nil))) .nil)
  ·exact(kt.sm (J.trans g)).mono tE _ _
  ·exact(e2.sm g).mono tE _ _
 ·let⟨J,W,p⟩:=l;rw[yV (by unfold YI;rw[zX];lia)] at p
  exact k E u Y j (s1.trans J) (s1.free W) eE p a6 a4
theorem Eo(a:je)(n s:Nat)(b:n<=a.length):QM a (some (n:Int)) (some ((n:Int)+(s:Int)))=(a.drop n).take s:=by
 unfold QM;let e:((n:Int)+(s:Int))=((n+s:Nat):Int):=∅
 rw[e,HT.sIx_nat,HT.sIx_nat,uN b,List.take_eq_take_min (i:=s),yE];rw[<-Nat.sub_min_sub_right,Nat.add_sub_cancel_left]
theorem Dq{q:ai}{a b c d h:Int}(j:0<=h)(k:h<4)(f e:Int)(l:f<=a/\a<=e)(n:f<=b/\b<=e)(o:f<=c/\c<=e)(p:f<=d/\d<=e):∃ m:Int,WN [V.int a,.int b,.int c,.int d] h=some (.int m)/\f<=m/\m<=e:=by
 let⟨v,g,i⟩:=NA (xs:=[V.int a,.int b,.int c,.int d]) j k;simp only[zU,sG,or_false] at i;rcases i with rfl | rfl | rfl | rfl
 ·exact⟨a,g,l⟩
 ·exact⟨b,g,n⟩
 ·exact⟨c,g,o⟩
 ·exact⟨d,g,p⟩
theorem AT{a b c:Int}(h:c<=a)(g:c<=b):c<=if a<b then a else b:=by split <;> assumption
theorem ZPj{a b c:Int}(g:b<=c):(if a<b then a else b)<=c:=by
 split
 ·exact Int.le_trans (Int.le_of_lt ‹_›) g
 ·exact g
theorem ite_le'{a b:Int}:(if a<b then a else b)<=a:=by
 split
 ·exact Int.le_refl _
 ·exact Int.not_lt.mp ‹_›
structure Fo(jN jO:ai)(H0 H:Hp)(X0 X:Zd)(p lk:ai)(ls:je)(lev:jj):Prop where
 w:ZO H p
 sh:Zl jN jO H X.S X.d lk X.lv X.ts X.av X.ho X.as X.kvs ls
 fst:WM X.lv X.ts X.av X.ho
 S:X.S=X0.S
 d:X.d=X0.d
 fr:∀ c o,c≠p->Z2 X0 lk c->H0 c=some o->H c=some o/\Z2 X lk c
 op:Z2 X lk p
 lev:∀ b∈lev,b∈X.lv/\Tp X.av X.ho b
 all:X.lv.length=X.ts.length
structure VG(H0 H:Hp)(X:Zd)(p lk c:ai)(us:je):Prop where
 at_:H c=some (.lst us)
 off:Z2 X lk c
 new:H0 c=none
 ne:c≠p
section
variable{jN jO:ai}{H0 H H':Hp}{X0 X:Zd}{p lk:ai}{ls:je}{lev:jj}{c:ai}{us us':je}
theorem Fo.same(F:Fo jN jO H0 H X0 X p lk ls lev)(s:ZE H H'):Fo jN jO H0 H' X0 X p lk ls lev:=⟨F.w.same s,F.sh.same s,F.fst,F.S,F.d,λc o n f e=>⟨s _ _ (F.fr c o n f e).1,(F.fr c o n f e).2⟩,F.op,F.lev,F.all⟩
theorem Fo.pull(F:Fo jN jO H0 H X0 X p lk ls lev)(s:ZH p H H')(w:ZO H' p):Fo jN jO H0 H' X0 X p lk ls lev:=by
 let⟨a,b,c,d,e,_⟩:=F.w.ex;exact⟨w,F.sh.but s e F.op,F.fst,F.S,F.d,λc o n f e=>⟨s _ _ (F.fr c o n f e).1 n,(F.fr c o n f e).2⟩,F.op,F.lev,F.all⟩
theorem Fo.write(F:Fo jN jO H0 H X0 X p lk ls lev)(l:VG H0 H X p lk c us)(s:ZH c H H'):Fo jN jO H0 H' X0 X p lk ls lev:=
 ⟨F.w.stay s l.ne.symm,F.sh.but s l.at_ l.off,F.fst,F.S,F.d,λa o n f e=>⟨s _ _ (F.fr a o n f e).1 (Zg e l.new),(F.fr a o n f e).2⟩,F.op,F.lev,F.all⟩
theorem VG.same(l:VG H0 H X p lk c us)(s:ZE H H'):VG H0 H' X p lk c us:=⟨s _ _ l.at_,l.off,l.new,l.ne⟩
theorem VG.pull(l:VG H0 H X p lk c us)(s:ZH p H H'):VG H0 H' X p lk c us:=⟨s _ _ l.at_ l.ne,l.off,l.new,l.ne⟩
theorem VG.but(l:VG H0 H X p lk c us){b:ai}(s:ZH b H H')(n:c≠b):VG H0 H' X p lk c us:=⟨s _ _ l.at_ n,l.off,l.new,l.ne⟩
theorem Fo.fresh(F:Fo jN jO H0 H X0 X p lk ls lev)(n:H c=none)(a:H0 c=none)(e:H' c=some (.lst us)):VG H0 H' X p lk c us:=⟨e,F.sh.new n,a,(NT F.w n)⟩
theorem Fo.put(F:Fo jN jO H0 H X0 X p lk ls lev){t:ZP}{a:YQ}{kvs':List (Za×V)}{X':Zd}(B:Yu X.lv X.ts X.ts.length t)(v:∀ b∈t.bs,b∈X.lv/\Tp X.av X.ho b){lev':jj}(u:∀ b∈lev',b=X.ts.length\/(b∈lev/\b∉t.bs))(k:X'=⟨X.S,X.d,X.lv++[X.ts.length],X.ts++[t],Wn t.bs X.ts.length (UQ X.ts.length X.av),Wr t.bs (UO X.ts.length X.ho),X.as++[a],kvs'⟩)(l:∀ c o,c≠X.S->c≠X.d->(∀ i:Nat,i∈X.lv->c≠(X.as.getD i .d).x/\c≠(X.as.getD i .d).ab)->H c=some o->H' c=some o)(nx:H a.x=none)(A:H a.th=none)(z:H a.ab=none)(R:Zl jN jO H' X'.S X'.d lk X'.lv X'.ts X'.av X'.ho X'.as X'.kvs ls):
  Fo jN jO H0 H' X0 X' p lk ls lev'/\Go lk H H' X X':=by
 subst k;let G:=Fx (lk:=lk) (X:=X) (t:=t) (av':=Wn t.bs X.ts.length (UQ X.ts.length X.av)) (ho':=Wr t.bs (UO X.ts.length X.ho)) (kvs':=kvs') F.sh.len F.sh.lt l nx A z;let⟨m,q,r⟩:=Gx F.sh.lt F.fst B v;let⟨E,I,J,K,e,D⟩:=F.w.ex;refine⟨⟨⟨⟨E,I,J,K,G.fr _ _ F.op e,D⟩⟩,R,m,F.S,F.d,λc o n f e=>?_,G.off _ _ F.op e,λb s=>?_,?_⟩,G⟩
 ·let⟨g,h⟩:=F.fr c o n f e;exact⟨G.fr _ _ h g,G.off _ _ h g⟩
 ·rcases u b s with y | ⟨L,M⟩
  ·rw[y];exact⟨yP _ (zK.mpr rfl),r⟩
  ·let⟨j,C⟩:=F.lev b L;exact⟨yF _ j,q b j M C⟩
 ·show (X.lv++[_]).length=(X.ts++[_]).length;rw[zN,zN,F.all];rfl
theorem VG.go(l:VG H0 H X p lk c us){a:Zd}(G:Go lk H H' X a):VG H0 H' a p lk c us:=⟨G.fr _ _ l.off l.at_,G.off _ _ l.off l.at_,l.new,l.ne⟩
end
theorem GI(a:jm)(n:Nat):YI (a.take n)=(YI a).take n/\YI (a.drop n)=(YI a).drop n:=⟨uP,uQ⟩
theorem Kk{a:jk}{t:ZP}{l:jj}(h:∀ b∈l,b<a.length):ZV (a++[t]) l=ZV a l:=QY λb c=>by rw[Pq (h b c)]
def Ex:Option aB->jB
 | some (.While _ b _ _)=>b
 | _=>[]
abbrev E5:jn:=["_law_well_here","_law_shelf","_law_rows","_law_few","_law_level","_law_at","_law_size","_law_above"]
theorem Uv:ZC E5 zEs (ZY Nq):=Zp
def Mc:List Stmt:=Ex ((Ex ((Xg Nq)[4]?))[2]?)
structure Of(jN jO:ai)(H0 H:Hp)(X0 X:Zd)(p lk:ai)(ls:je)(Lv Ab:ai)(lev ab:jj)(h n m0:Nat)(rs:jm):Prop where
 fo:Fo jN jO H0 H X0 X p lk ls (ab++lev.drop n)
 lv:VG H0 H X p lk Lv (iN lev)
 av:VG H0 H X p lk Ab (iN ab)
 ne:Lv≠Ab
 hl:∀ b∈lev,b∈X.lv/\(gd X.ts b).h=h
 ha:∀ b∈ab,(gd X.ts b).h=h+1
 rows:ZV X.ts ab++ZV X.ts (lev.drop n)=rs
 few:2 * ab.length<=n
 le:n<=lev.length
 cnt:X.ts.length=m0+ab.length
theorem tr2{cdv:ah}{A:aw}{outer:jt}{s:aj}{Hs:Hp}{E:XK}(T:YL mg)(L:YT K mg jN jO)(DS:ZB P w K mg jQ ZM 10 jN "put_stem" zEg (Y4 jN jO))(hr:ZU 10 (A.deeper (envOfC "_law_tree" (ZY Nq) s.heap.objs.size f cdv))):
  ∃ t,XV (Xy ZM P w K mg jQ E5 "_law_tree" (ZY Nq) f cdv A outer s Hs E).nox (Mc.drop 2) t/\∀(Q:YH)(H0 H:Hp)(v X:Zd)(p Y l u m:ai)(ls:je)(W:Int)(c j:jj)(h n m0 i:Nat)(M:jm),
   Of jN jO H0 H v X p Y ls u m c j h n m0 M->Up M->2<=i->i<=4->n+i<=c.length->c.length<=200->X.ts.length<=300 ->
    (∀(H':Hp)(X':Zd)(N:Nat),Of jN jO H0 H' v X' p Y ls u m c (j++[N]) h (n+i) m0 M->Q.nx [some (.ref p),some (.ref v.S),some (.ref l),some (.int W),some (.ref u),some (.int ((n+i:Nat):Int)),some (.int (i:Int)),some (.ref m)] H') ->
     t Q [some (.ref p),some (.ref v.S),some (.ref l),some (.int W),some (.ref u),some (.int (n:Int)),some (.int (i:Int)),some (.ref m)] H:=by
 let nd:=Uv.nd;refine⟨_,ZL (Ye (QS xW wO wN PY (pv 7) (ZT (Z0 (E:=E0) (pv 1) L.cS DS hr Z3 (ZT (O0 O8 (pv 4) (Pi (pv 5)) (Pi (Zx VA (pv 5) (pv 6)))))))))
  (ZR (Zj 5 nd (Zx VA (pv 5) (pv 6)))),λQ H0 H v X p Y l u m ls W c j h n m0 i M r U z2 z4 zl a6 t3 a1=>?_⟩
 let F:=r.fo;let⟨dS,hS⟩:=F.sh.sh.self;rw[F.S] at hS;exists _,Z,.inl ⟨Z,_,ZG.of r.av.at_⟩,_,Z,v.S,dS,_,Z,hS,Z,_,Z,_,Z,_,Z,_,Z,_,Z,_,_,Z,Z,_,Z,u,iN c,Z,ZG.of r.lv.at_;intro q1 n1;let lI:(iN c).length=c.length:=zX _;rw[Eo (iN c) n i ∅] at *
 let eq:((iN c).drop n).take i=iN ((c.drop n).take i):=by unfold iN;rw[uP,uQ]
 rw[eq] at *;let⟨H1,eU,g1,h1⟩:=Y8 n1 (.lst (iN ((c.drop n).take i)));rw[eU];let F1:=F.same g1;let ld:(c.drop n).length=c.length-n:=yE;let lb:((c.drop n).take i).length=i:=by rw[xU];lia
 let sp:(c.drop n).take i++c.drop (n+i)=c.drop n:=by rw[<-List.drop_drop];exact xA i _
 generalize a5:(c.drop n).take i=o at *;let mb:∀ b∈o,b∈c.drop n:=λb g=>by rw[<-sp];exact yF _ g
 let ml:∀ b∈o,b∈c:=λb g=>uC (mb b g);let q:∀ b∈o,b∈X.lv/\Tp X.av X.ho b:=λb g=>F.lev b (yP _ (mb b g));let a4:ZV X.ts (c.drop n)=ZV X.ts o++ZV X.ts (c.drop (n+i)):=by rw[<-Pb,sp]
 let R:=r.rows;rw[a4] at R;let Ub:Up (ZV X.ts o):=by
  refine xL.sublist (yU.map _ ?_) U;rw[<-R];exact((xP _ _).trans (xV _ _))
 let ov:over (YK X.ts o)=some (Zr (YV X.ts o)):=HC (h:=h) (λb g=>⟨(F.fst.wf b (q b g).1).ne,(r.hl b (ml b g)).2⟩) ∅ ∅ Ub
 let⟨_,_,_,_,a3,_,_⟩:=Ig F.fst.wf (λb g=>(q b g).1) ov;let I:∀ b∈j++c.drop (n+i),b∉o:=λb g y=>by
  let⟨x,xs,ex,_⟩:=QN (F.fst.wf b (q b y).1).ne;let J:x∈ZV X.ts o:=xT.mpr ⟨b,y,by rw[ex];simp⟩
  let D:=U;rw[<-R] at D;unfold Up PQ at D;rw[zF,xD] at D;rcases zD.mp g with z | z
  ·have:=D.2.2 x.1 (zP.mpr ⟨x,xT.mpr ⟨b,z,by rw[ex];simp⟩,Z⟩) x.1 (zP.mpr ⟨x,yF _ J,Z⟩)
   rw[V9] at this;cases this
  ·let U2:=D.2.1;rw[zF,xD] at U2;have:=U2.2.2 x.1 (zP.mpr ⟨x,J,Z⟩) x.1 (zP.mpr ⟨x,xT.mpr ⟨b,z,by rw[ex];simp⟩,Z⟩)
   rw[V9] at this;cases this
 let O:∀ b∈j++c.drop (n+i),b∈j++c.drop n:=λb g=>by
  rcases zD.mp g with z | z
  ·exact yF _ z
  ·exact yP _ (by rw[<-sp];exact yP _ z)
 rw[<-F.S];exists X.S,X.d,Y,q1,X.lv,X.ts,X.av,X.ho,X.as,X.kvs,ls,o,_,Z,F1.sh,F.fst.wf,by have:=F.all;lia,λb g=>⟨(q b g).1,wY (q b g).2.2.symm,by rw[(q b g).2.1];exact zE _⟩,h1,ov
 intro C a nx nt na a2 R2;let⟨F2,G2⟩:=F1.put (t:=YV X.ts o) (a:=a) (kvs':=XU X.kvs (.inl (X.ts.length:Int)) (.ref a.x)) (lev':=j++[X.ts.length]++c.drop (n+i)) (Bl F.fst.wf (λb g=>(q b g).1) ov) q (λb g=>by
  rcases zD.mp g with z | z
  ·rcases zD.mp z with z | z
   ·exact .inr ⟨O b (yF _ z),I b (yF _ z)⟩
   ·exact .inl (zK.mp z)
  ·exact .inr ⟨O b (yP _ z),I b (yP _ z)⟩) Z a2 nx nt na R2
 let B:=(r.av.same g1).go G2;let V2:=(r.lv.same g1).go G2;let a7:=r.few;exists m,_,.int (X.ts.length:Nat),Z,Z,B.at_,XX (by unfold iN;rw[zX];lia)
 let sX:ZH m C (upd C m (.lst (iN j++[.int (X.ts.length:Nat)]))):=(ZH.refl m C).upd;let F3:=F2.write B sX;let eI:iN j++[.int (X.ts.length:Nat)]=iN (j++[X.ts.length]):=by unfold iN;rw[zF];rfl
 let e3:upd C m (.lst (iN j++[.int (X.ts.length:Nat)])) m=some (.lst (iN (j++[X.ts.length]))):=by rw[ZZ,eI]
 let V3:=V2.but sX r.ne;generalize upd C m (.lst (iN j++[.int (X.ts.length:Nat)]))=H3 at sX F3 e3 V3⊢;exists _,Z,_,Z,_,_,Z,Z;let e:((n:Int)+(i:Int))=((n+i:Nat):Int):=∅
 suffices k:Q.nx [some (.ref p),some (.ref v.S),some (.ref l),some (.int W),some (.ref u),some (.int ((n+i:Nat):Int)),some (.int (i:Int)),some (.ref m)] H3 by
  rw[<-e,<-F.S] at k;exact k
 let G:∀ b∈j,b<X.ts.length:=λb g=>F.sh.lt b (F.lev b (yF _ g)).1;let a0:∀ b∈c.drop (n+i),b<X.ts.length:=λb g=>F.sh.lt b (r.hl b (uC g)).1;refine a1 H3 _ X.ts.length ⟨F3,V3,⟨e3,B.off,B.new,B.ne⟩,r.ne,λb g=>?_,λb g=>?_,?_,?_,zl,?_⟩
 ·let⟨q1,q2⟩:=r.hl b g;exact⟨yF _ q1,by show (gd (X.ts++[_]) b).h=h;rw[Pq (F.sh.lt b q1)];exact q2⟩
 ·show (gd (X.ts++[_]) b).h=h+1;rcases zD.mp g with z | z
  ·rw[Pq (G b z)];exact r.ha b z
  ·rw[zK.mp z,Ps];let⟨x,J⟩:=List.exists_mem_of_length_pos (show 0<o.length by lia)
   have:=a3 x J;have:=(r.hl x (ml x J)).2
   lia
 ·show ZV (X.ts++[_]) (j++[X.ts.length])++ZV (X.ts++[_]) (c.drop (n+i))=M;rw[Pb,Kk G,Kk a0,Wl,Ps];rw[<-R];show ZV X.ts j++(ZV X.ts o++[])++_=_;rw[yS,xH]
 ·rw[zN,wQ];lia
 ·show (X.ts++[_]).length=m0+(j++[X.ts.length]).length;rw[zN,zN,r.cnt];simp
  lia
theorem Fo.tups{b f:ai}{g H:Hp}{a X:Zd}{p j:ai}{n i:je}{h:jj}(F:Fo b f g H a X p j n h)(k:Zl b f g a.S a.d j a.lv a.ts a.av a.ho a.as a.kvs i)(l:ZO g p):Z6 g H:=λc o e=>by
 let⟨_,_,_,_,m,_⟩:=l.ex;exact(F.fr c _ (ZW e m) (k.off e (by intro _ _ _ z;cases z) (by intro _ z;cases z) (by intro _ z;cases z)) e).1
inductive Wh(jN jO:ai):Sp
 |mk{X:Zd}{lk p l:ai}{ls us:je}{rs:jm}{H:Hp}{Q:VK}{E:XK}:ZO H p->Zl jN jO H X.S X.d lk X.lv X.ts X.av X.ho X.as X.kvs ls->X.ts=[]->X.lv=[]->Z2 X lk p->Z2 X lk l->H l=some (.lst us)->jI H (YI rs) us->Up rs->(∀ x∈rs,x.fit)->rs.length<=61->l≠p ->
  (∀(H':Hp)(X':Zd)(r:jp),ZO H' p->X'.S=X.S->(∀ c o,c≠p->Z2 X lk c->H c=some o->H' c=some o/\Z2 X' lk c)->Z2 X' lk p->Tf jN jO H' X' lk ls r->Yi X'.ts r=rs->X'.ts.length<=130->X'.lv.length=X'.ts.length->Q (XJ r) H')->Wh jN jO [.ref p,.ref X.S,.ref l] H Q E
inductive K4(jN jO:ai)(H0:Hp)(X0:Zd)(p lk l:ai)(ls:je)(Lv:ai)(fw:Int)(rs:jm):Nat->L2.St->Hp->Prop
 |mk{n:Nat}{lev:jj}{X:Zd}{x6 x7:jf}{H':Hp}:Fo jN jO H0 H' X0 X p lk ls lev->VG H0 H' X p lk Lv (iN lev)->(∀ b∈lev,(gd X.ts b).h=0)->ZV X.ts lev=rs.take n->X.ts.length=lev.length->lev.length<=(rs.take n).length ->
  K4 jN jO H0 X0 p lk l ls Lv fw rs (rs.length-n) [some (.ref p),some (.ref X0.S),some (.ref l),some (.int fw),some (.ref Lv),some (.int (n:Int)),x6,x7] H'
inductive HW(jN jO:ai)(H0:Hp)(X0:Zd)(p lk l:ai)(ls:je)(fw:Int)(rs:jm):Nat->L2.St->Hp->Prop
 |mk{h:Nat}{lev:jj}{X:Zd}{Lv:ai}{x5 x6 x7:jf}{H':Hp}:Fo jN jO H0 H' X0 X p lk ls lev->VG H0 H' X p lk Lv (iN lev)->(∀ b∈lev,(gd X.ts b).h=h)->ZV X.ts lev=rs->X.ts.length+lev.length<=130 ->
  HW jN jO H0 X0 p lk l ls fw rs lev.length [some (.ref p),some (.ref X0.S),some (.ref l),some (.int fw),some (.ref Lv),x5,x6,x7] H'
inductive Kl(jN jO:ai)(H0:Hp)(X0:Zd)(p lk l:ai)(ls:je)(Lv Ab:ai)(fw:Int)(lev:jj)(h m0:Nat)(rs:jm):Nat->L2.St->Hp->Prop
 |mk{n:Nat}{ab:jj}{X:Zd}{x6:jf}{H':Hp}:Of jN jO H0 H' X0 X p lk ls Lv Ab lev ab h n m0 rs->lev.length-n≠1 ->
  Kl jN jO H0 X0 p lk l ls Lv Ab fw lev h m0 rs (lev.length-n) [some (.ref p),some (.ref X0.S),some (.ref l),some (.int fw),some (.ref Lv),some (.int (n:Int)),x6,some (.ref Ab)] H'
theorem Ak(F0:Zi K "_law_tree" "_law_tree" Nq f fd)(T:YL mg)(L:YT K mg jN jO)(DP:ZA P w K mg jQ 1 "_law_pull" zEb Zy)(DL:ZB P w K mg jQ ZM 10 jN "put_leaf" zFf (WG jN jO))(DS:ZB P w K mg jQ ZM 10 jN "put_stem" zEg (Y4 jN jO)):ZI P w K mg jQ ZM 11 f fd zEs (Wh jN jO):=by
 refine F0.ok Uv (λvs H Q E h=>(by cases h;rfl)) (λcdv A outer s H vs Q E hr h=>?_)
 let⟨W,R,t0,v0,oP,oL,hl,kr,U,rf,r40,lp,q⟩:=h;rename_i X0 lk p l ls us rs
 let nd:=Uv.nd;let hr1:=hr.mono (show 1<=10 from nofun)
 let⟨tt,ht,hk⟩:=tr2 (jN:=jN) (jO:=jO) (P:=P) (w:=w) (K:=K) (jQ:=jQ) (f:=f) (cdv:=cdv) (A:=A) (outer:=outer) (s:=s) (Hs:=H) (E:=E) T L DS hr;intro Xc;refine⟨_,ZL (Zj 3 nd (Zc DP hr1 (Zq (pv 0) ZK)))
  (ZL (Zj 4 nd (Yr Zn))
  (ZL (Zj 5 nd ZK)
  (ZL (Om PassesOwn.never (YX O2 (pv 5) (YC Xm rfl T.len Xa (ZT (pv 2))) (YG _))
   (ZL (Zj 6 nd (Zx VA ZK (Zc DP hr1 (Zq (pv 0) (Z8 K (Yr (QI ZK ZK ZK ZK)) (pv 3))))))
   (ZL (Ye (QS xW wO wN PY (pv 4) (ZT (Z0 (E:=E0) (pv 1) L.cS DL hr Z3 (ZT (Ug Ng rfl T.list OL (ZT (O0 O8 (pv 2) (Pi (pv 5)) (Pi (Zx VA (pv 5) (pv 6)))))))))))
   (ZR (Zj 5 nd (Zx VA (pv 5) (pv 6)))))))
  (ZL (Om PassesOwn.never (YX Uo (YC Xm rfl T.len Xa (ZT (pv 4))) ZK (YG _))
   (ZL (Zj 7 nd (Yr Zn))
   (ZL (Zj 5 nd ZK)
   (ZL (Om PassesOwn.never (YX O2 (pv 5) (YC Xm rfl T.len Xa (ZT (pv 4))) (YG _))
    (ZL (Zj 6 nd (YC (FR rfl) rfl T.min Ev (Zq (Zx VA ZK (Zc DP hr1 (Zq (pv 0) (Z8 K (Yr (QI ZK ZK ZK ZK)) (pv 3))))) (Zx VE (YC Xm rfl T.len Xa (ZT (pv 4))) (pv 5)))))
    (ZL (Z1 (YX Vp (Zx VE (Zx VE (YC Xm rfl T.len Xa (ZT (pv 4))) (pv 5)) (pv 6)) ZK (YG _))
     (ZR (Zj 6 nd (Z8 K (Yr (Zq (Zx VE (pv 6) ZK) (Zx VA (pv 6) ZK))) (Ug KZ rfl T.int ON (ZT (Vs Vp (pv 6) ZK (YG _))))))) Z5) ht)))
   (ZR (Zj 4 nd (pv 7)))))))
  (ZR (Zh (Z8 K (Zx JQ (pv 4) (Yr (ZT Pl))) ZK))))))),?_⟩
 exists _,Z,p,4,Z,W,Wv (by decide) (by decide)
 intro fw H1 f0 f4 W1 s1;exists YS;intro Lv nLv;let fs0:WM X0.lv X0.ts X0.av X0.ho:=⟨(λi hi=>by rw[v0] at hi;cases hi),by rw[v0];exact vG,λi hi=>by rw[v0] at hi;cases hi⟩
 let F0':Fo jN jO H H X0 X0 p lk ls []:=⟨W,R,fs0,Z,Z,λc o _ f e=>⟨e,f⟩,oP,(λb hb=>by cases hb),by rw[t0,v0];rfl⟩
 let F1:=F0'.pull s1 W1;let⟨H2,eU,g2,h2⟩:=Y8 nLv (.lst []);rw[eU];let F2:=F1.same g2;let nLv0:H Lv=none:=by
  cases z:H Lv with
  | none=>rfl
  | some o=>
   let⟨_,_,_,_,ep,_⟩:=W1.ex;rw[s1 _ _ z (λy=>by rw[y,ep] at nLv;cases nLv)] at nLv
   cases nLv
 let V2:VG H H2 X0 p lk Lv (iN []):=F1.fresh nLv nLv0 h2;let kT:∀{H':Hp}{X':Zd}{lev:jj},Fo jN jO H H' X0 X' p lk ls lev->H' l=some (.lst us)/\jI H' (YI rs) us:=λF=>⟨(F.fr l _ lp oL hl).1,kr.mono (F.tups R W) _ _⟩;let lu:us.length=rs.length:=by have:=kr.length;rw[<-this];exact zX _
 exists K4 jN jO H X0 p lk l ls Lv fw rs,⟨_,.mk (n:=0) (lev:=[]) (x6:=none) (x7:=none) F2 V2 (λb hb=>by cases hb) Z (by rw[t0];rfl) (zE _)⟩
 rintro _ _ H3 (@⟨n,lev,X,x6,x7,_,F,V,h0,er,el,le⟩);let⟨hl3,k3⟩:=kT F;exists _,Z,_,Z,l,us,Z,.inl (ZG.of hl3),_,_,Z,Z,_,Z;rcases yL n us.length with hn | hn
 ·rw[aI (show (n:Int)<(us.length:Int) from nofun)]
  refine Z7 ⟨_,λ_ _ z=>z,?_⟩;exists _,Z,YS;intro q1 nq;let⟨H4,eU,g4,e4⟩:=Y8 nq (.lst [.int 4,.int 1,.int 2,.int 4]);rw[eU];let F4:=F.same g4;let⟨m1,am1,m10,m14⟩:=Dq (q:=q1) (a:=4) (b:=1) (c:=2) (d:=4) f0 f4 1 4 (by decide) (by decide) (by decide) (by decide)
  refine⟨_,Z,.inl ⟨q1,_,_,_,Z,Z,ZG.of e4,am1,p,m1,Z,F4.w,Wv nofun nofun,λz1 H5 z10 z11 W5 s5=>⟨_,_,Z,Z,?_⟩⟩⟩
  let F5:=F4.pull s5 W5;let V5:=(V.same g4).pull s5;obtain⟨sz,hsz⟩:∃ sz:Nat,1+z1=(sz:Int):=⟨(1+z1).toNat,nofun⟩
  first | rw[show (λi j:Int=>L2.V.int (i+j)) 1 z1=L2.V.int (sz:Int) from congrArg L2.V.int hsz] | rw[hsz]
  let⟨hl5,k5⟩:=kT F5;let⟨dS,hS⟩:=F5.sh.sh.self;rw[F5.S] at hS;exists _,Z,.inl ⟨Z,_,ZG.of V5.at_⟩,_,Z,X0.S,dS,_,Z,hS,Z,_,Z,_,Z,_,Z,_,Z,_,Z,_,_,Z,Z,_,Z,l,us,Z,ZG.of hl5;intro q2 n2;rw[Eo us n sz nofun] at *
  let⟨H6,eU,g6,e6⟩:=Y8 n2 (.lst ((us.drop n).take sz));rw[eU];exists q2,_,Z,.inl (ZG.of e6);intro q3 n3;let⟨H7,eU,g7,e7⟩:=Y8 n3 (.lst ((us.drop n).take sz));rw[eU];let F7:=(F5.same g6).same g7;let V7:=(V5.same g6).same g7;let k7:jI H7 (YI ((rs.drop n).take sz)) ((us.drop n).take sz):=by
   rw[(GI _ sz).1,(GI rs n).2];exact((k5.drop n).take sz).sm (g6.trans g7)
  let lq:((rs.drop n).take sz).length=min sz (rs.length-n):=by rw[xU,yE]
  let lt1:1<=min sz (rs.length-n):=Nat.le_min.mpr ⟨nofun,nofun⟩
  let lt4:min sz (rs.length-n)<=4:=zI (Nat.min_le_left _ _) nofun
  let sb:((rs.drop n).take sz).Sublist rs:=(List.take_sublist _ _).trans (List.drop_sublist _ _);let G:P9 ((rs.drop n).take sz):=Fp (λx hx=>rf x (sb.subset hx)) (xL.sublist (sb.map _) U) nofun nofun
  let ltk:(rs.take n).length<=61:=by rw[xU];lia (splits:=8)
  rw[<-F7.S];exists X.S,X.d,lk,q3,X.lv,X.ts,X.av,X.ho,X.as,X.kvs,ls,_,(rs.drop n).take sz,Z,F7.sh,by have:=F7.all;lia (splits:=8),e7,k7,G
  intro H8 a nx nt na fr8 R8;let⟨F8,G8⟩:=F7.put (t:=Vt ((rs.drop n).take sz)) (a:=a) (kvs':=XU X.kvs (.inl (X.ts.length:Int)) (.ref a.x)) (X':=⟨X.S,X.d,X.lv++[X.ts.length],X.ts++[Vt ((rs.drop n).take sz)],UQ X.ts.length X.av,UO X.ts.length X.ho,X.as++[a],XU X.kvs (.inl (X.ts.length:Int)) (.ref a.x)⟩) (lev':=lev++[X.ts.length]) (Jk G) (λb hb=>by cases hb) (λb hb=>by
   rcases zD.mp hb with z | z
   ·exact .inr ⟨z,λy=>by cases y⟩
   ·exact .inl (zK.mp z)) (by rw[show (Vt ((rs.drop n).take sz)).bs=[] from rfl,Cb,EF]) (λc o n1 n2 _ e=>fr8 c o n1 n2 e) nx nt na R8
  let V8:=V7.go G8;exists Lv,_,.int (X.ts.length:Nat),Z,Z,V8.at_,XX (by unfold iN;rw[zX];lia (splits:=8))
  let sX:ZH Lv H8 (upd H8 Lv (.lst (iN lev++[.int (X.ts.length:Nat)]))):=(ZH.refl Lv H8).upd;let F9:=F8.write V8 sX;let eI:iN lev++[.int (X.ts.length:Nat)]=iN (lev++[X.ts.length]):=by unfold iN;rw[zF];rfl
  let e9:upd H8 Lv (.lst (iN lev++[.int (X.ts.length:Nat)])) Lv=some (.lst (iN (lev++[X.ts.length]))):=by rw[ZZ,eI]
  generalize upd H8 Lv (.lst (iN lev++[.int (X.ts.length:Nat)]))=H9 at sX F9 e9⊢;exists _,Z,_,Z,_,_,Z,Z;let e:((n:Int)+(sz:Int))=((n+sz:Nat):Int):=nofun
  let alt:∀ b∈lev,b<X.ts.length:=λb hb=>F.sh.lt b (F.lev b hb).1;exists rs.length-(n+sz),nofun
  suffices k:K4 jN jO H X0 p lk l ls Lv fw rs (rs.length-(n+sz)) [some (.ref p),some (.ref X0.S),some (.ref l),some (.int fw),some (.ref Lv),some (.int ((n+sz:Nat):Int)),some (.int (sz:Int)),x7] H9 by
   rw[<-e,<-F7.S] at k;exact k
  refine .mk F9 ⟨e9,V8.off,V8.new,V8.ne⟩ (λb hb=>?_) ?_ ?_ ?_
  ·show (gd (X.ts++[_]) b).h=0;rcases zD.mp hb with z | z
   ·rw[Pq (alt b z)];exact h0 b z
   ·rw[zK.mp z,Ps];rfl
  ·show ZV (X.ts++[_]) (lev++[X.ts.length])=rs.take (n+sz);rw[Pb,Kk alt,Wl,Ps,er,List.take_add];show _++((rs.drop n).take sz++[])=_;rw[yS]
  ·show (X.ts++[_]).length=(lev++[X.ts.length]).length;rw[zN,zN,el];rfl
  ·rw[zN,wQ,List.take_add,zN,lq]
   lia (splits:=8)
 rw[aH (show ¬ (n:Int)<(us.length:Int) from nofun)]
 rw[yV nofun] at er le
 refine Zm ?_;exists HW jN jO H X0 p lk l ls fw rs,⟨_,.mk F V h0 er nofun⟩
 clear h0 er el le;rintro _ _ H4 (@⟨h,lev,X,Lv,x5,x6,x7,_,F,V,hh,er,l80⟩);let lI:(iN lev).length=lev.length:=zX _;exists _,Z,Lv,_,Z,.inl (ZG.of V.at_),_,_,Z,Z,_,Z;rcases yL 1 lev.length with h1 | h1
 ·rw[aI (show (((iN lev).length:Nat):Int) > 1 from nofun)]
  refine Z7 ⟨_,λ_ _ z=>z,?_⟩;exists YS;intro Ab nAb;let⟨H5,eU,g5,e5⟩:=Y8 nAb (.lst []);rw[eU];let nAb0:H Ab=none:=by
   cases z:H Ab with
   | none=>rfl
   | some o=>
    let⟨_,_,_,_,ep,_⟩:=F.w.ex;let⟨⟨dS,hS⟩,hd,hlk⟩:=F.sh.sh;let n1:Ab≠p:=λy=>by rw[y,ep] at nAb;cases nAb
    let n2:Ab≠X0.S:=λy=>by rw[y,<-F.S,hS] at nAb;cases nAb
    let n3:Ab≠X0.d:=λy=>by rw[y,<-F.d,hd] at nAb;cases nAb
    let n4:Ab≠lk:=λy=>by rw[y,hlk] at nAb;cases nAb
    have:=(F.fr Ab o n1 ⟨n2,n3,n4,λi hi=>by rw[v0] at hi;cases hi⟩ z).1
    rw[nAb] at this;cases this
  let A5:VG H H5 X p lk Ab (iN []):=F.fresh nAb nAb0 e5;let LA:Lv≠Ab:=λy=>by have:=V.at_;rw[y,nAb] at this;cases this
  exists Kl jN jO H X0 p lk l ls Lv Ab fw lev h X.ts.length rs,⟨_,.mk (n:=0) (ab:=[]) (x6:=x6) ⟨F.same g5,V.same g5,A5,LA,λb hb=>⟨(F.lev b hb).1,hh b hb⟩,(λb hb=>by cases hb),er,zE _,zE _,Z⟩ nofun⟩
  generalize hm0:X.ts.length=m0 at l80;let V0:=V;clear V F hh er A5 hm0;rintro _ _ H6 (@⟨n,ab,X,x6,_,r,hre⟩);let F:=r.fo;exists _,Z,_,Z,Lv,_,Z,.inl (ZG.of r.lv.at_),_,_,Z,Z,_,Z;let lef:=r.le;let fewf:=r.few;let cntf:=r.cnt;rcases yL n lev.length with hn | hn
  ·rw[aI (show (n:Int)<(((iN lev).length:Nat):Int) from nofun)]
   refine Z7 ⟨_,λ_ _ z=>z,?_⟩;let R2:(2:Int)<=(((iN lev).length:Nat):Int)-(n:Int):=nofun
   let go:∀{D0:YH}{H7:Hp}(y:Int),Of jN jO H H7 X0 X p lk ls Lv Ab lev ab h n m0 rs->2<=y->y<=4->y<=(lev.length:Int)-n->(lev.length:Int)-n-y≠1->(∀ σ' H',(∃ m',m'<lev.length-n/\Kl jN jO H X0 p lk l ls Lv Ab fw lev h m0 rs m' σ' H')->D0.nx σ' H') ->
     tt D0 [some (.ref p),some (.ref X0.S),some (.ref l),some (.int fw),some (.ref Lv),some (.int (n:Int)),some (.int y),some (.ref Ab)] H7:=fun{D0 H7} y r7 y2 y4 yl yn fin=>by
    obtain⟨sz,rfl⟩:∃ sz:Nat,y=(sz:Int):=⟨y.toNat,nofun⟩
    exact hk D0 H H7 X0 X p lk l Lv Ab ls fw lev ab h n m0 sz rs r7 U nofun nofun nofun nofun nofun λH8 X8 N r8=>fin _ _ ⟨lev.length-(n+sz),nofun,.mk r8 nofun⟩
   exists _,Z,YS;intro q2 nq2;let⟨H7,eU,g7,e7⟩:=Y8 nq2 (.lst [.int 3,.int 1,.int 3,.int 2]);rw[eU];let⟨m2,am2,m20,m24⟩:=Dq (q:=q2) (a:=3) (b:=1) (c:=3) (d:=2) f0 f4 1 3 (by decide) (by decide) (by decide) (by decide)
   let gr:∀{H8:Hp},ZE H7 H8->Of jN jO H H8 X0 X p lk ls Lv Ab lev ab h n m0 rs:=λs=>⟨(r.fo.same g7).same s,(r.lv.same g7).same s,(r.av.same g7).same s,r.ne,r.hl,r.ha,r.rows,r.few,r.le,r.cnt⟩;refine⟨_,Z,.inl ⟨q2,_,_,_,Z,Z,ZG.of e7,am2,p,m2,Z,(F.same g7).w,Wv nofun nofun,λz2 H8 z20 z21 W8 s8=>⟨_,_,Z,Z,?_⟩⟩⟩
   let r8:Of jN jO H H8 X0 X p lk ls Lv Ab lev ab h n m0 rs:=⟨(r.fo.same g7).pull s8 W8,(r.lv.same g7).pull s8,(r.av.same g7).pull s8,r.ne,r.hl,r.ha,r.rows,r.few,r.le,r.cnt⟩;exists _,Z,Lv,_,Z,.inl (ZG.of r8.lv.at_),_,Z,_,_,Z,Z,_,_,Z;obtain⟨y,ey,y1,y2,y3⟩:∃ y:Int,(if (((iN lev).length:Nat):Int)-(n:Int)<2+z2 then (((iN lev).length:Nat):Int)-(n:Int) else 2+z2)=y/\2<=y/\y<=4/\y<=(((iN lev).length:Nat):Int)-(n:Int):=⟨_,Z,AT R2 nofun,ZPj nofun,ite_le'⟩
   rw[ey];exists _,Z,Lv,_,Z,.inl (ZG.of r8.lv.at_),_,Z,_,_,Z,Z,_,Z,_,_,Z,Z,Z,_,Z;by_cases hy:(((iN lev).length:Nat):Int)-(n:Int)-y=1
   ·rw[aI (congrArg L2.V.int hy)];refine Z7 ⟨_,Z,_,_,Z,Z,_,Z,_,_,Z,Z,YS,λq3 nq3=>?_⟩;let⟨H9,eU,g9,e9⟩:=Y8 nq3 (.lst [.int (y-1),.int (y+1)]);let eU:upd H8 q3 (.lst [(λi j:Int=>L2.V.int (i-j)) y 1,(λi j:Int=>L2.V.int (i+j)) y 1])=H9:=eU;rw[eU];let r9:Of jN jO H H9 X0 X p lk ls Lv Ab lev ab h n m0 rs:=⟨r8.fo.same g9,r8.lv.same g9,r8.av.same g9,r.ne,r.hl,r.ha,r.rows,r.few,r.le,r.cnt⟩;refine⟨_,Z,Z,.inr ⟨_,Z,?_⟩⟩;by_cases h2:y=2
    ·subst h2;refine .inl ⟨q3,_,_,.int (2+1),Z,Z,ZG.of e9,Z,?_⟩;exact go (2+1) r9 nofun nofun nofun nofun λ_ _ z=>z
    ·let ed:decide (L2.V.int y=L2.V.int 2)=false:=aH λz=>h2 (N7 z);rw[ed];refine .inl ⟨q3,_,_,.int (y-1),Z,Z,ZG.of e9,Z,?_⟩;exact go (y-1) r9 nofun nofun nofun nofun λ_ _ z=>z
   ·rw[aH (λz=>hy (N7 z))];exact Zm (go y r8 nofun nofun nofun nofun λ_ _ z=>z)
  ·rw[aH (show ¬ (n:Int)<(((iN lev).length:Nat):Int) from nofun)]
   refine Zm ⟨_,Z,?_⟩;let ed:lev.drop n=[]:=sP nofun
   let F':=r.fo;let er:=r.rows;rw[ed,yS] at F';rw[ed,show ZV X.ts []=[] from rfl,yS] at er;exact⟨ab.length,nofun,.mk F' r.av r.ha er nofun⟩
 ·rw[aH (show ¬ (((iN lev).length:Nat):Int) > 1 from nofun)]
  refine Zm ⟨_,Z,YS,λq1 n1=>?_⟩;let⟨H5,eU,g5,e5⟩:=Y8 n1 (.lst [.non]);rw[eU];exists Lv,q1,_,_,Z,Z,g5 _ _ V.at_,e5,nn (by rw[lI];simp;lia (splits:=8))
  intro q2 n2;let⟨H6,eU,g6,e6⟩:=Y8 n2 (.lst (iN lev++[.non]));rw[eU];let F6:=(F.same g5).same g6;let fin:∀ r:jp,(∀ i,r=some i->i∈lev)->Yi X.ts r=rs->Q (XJ r) H6:=λr h1 h2=>q H6 X r F6.w F6.S F6.fr F6.op ⟨F6.sh,F6.fst,λi e=>F6.lev i (h1 i e)⟩ h2 nofun F6.all
  cases lev with
  | nil=>exact .inl ⟨q2,_,0,.non,Z,Z,ZG.of e6,Z,fin none (λi e=>by cases e) er⟩
  | cons b lev'=>
   cases lev' with
   | nil=>
    refine .inl ⟨q2,_,0,.int (b:Nat),Z,Z,ZG.of e6,Z,fin (some b) (λi e=>by cases e;exact zK.mpr Z) ?_⟩
    rw[<-er,Wl];exact(yS _).symm
   | cons c m=>simp at h1
def OO(a:List (KT×V×V))(t:KT):List (KT×V×V):=a.filter λx=>!x.1.eqb t
theorem Fi:∀{a:List (KT×V×V)}{t:KT}{j:Nat}{z:KT×V×V},(a.map (·.1)).Nodup->a[j]? = some z->z.1=t->OO a t=a.eraseIdx j
 | [],_,_,_,_,e,_=>by cases e
 | x::a,t,0,z,nd,e,ez=>by
  cases e;show (x::a).filter _=a;rw[xJ,ez,QF,aJ (by simp)]
  refine vX.mpr λy c=>?_
  cases q:y.1.eqb t with
  | false=>rfl
  | true=>exact absurd (zP.mpr ⟨y,c,(US _ _ q).trans ez.symm⟩) (yW.mp nd).1
 | x::a,t,j+1,z,nd,e,ez=>by
  let b:a[j]? = some z:=e;let d:=Fi (yW.mp nd).2 b ez;let f:x.1.eqb t=false:=by
   cases q:x.1.eqb t with
   | false=>rfl
   | true=>exact absurd (zP.mpr ⟨z,zL b,ez.trans (US _ _ q).symm⟩) (yW.mp nd).1
  show (x::a).filter _=x::a.eraseIdx j;rw[xJ,f,aK (show (!false)=true from rfl)];exact congrArg _ d
theorem EW{b c:Type}{F:b->c->Prop}:∀{l:List b}{m:List c}(j:Nat),Paired F l m->Paired F (l.eraseIdx j) (m.eraseIdx j)
 | _,_,_,.nil=>.nil
 | _,_,0,.cons _ h=>h
 | _,_,j+1,.cons a h=>.cons a (EW j h)
section
variable{jP:jo}{σ:L2.St}{H:Hp}
theorem ZPQ{d:ai}{r:List (KT×V×V)}{t:KT}{y:V}{u:ah}{Q:Option DictEntry->aj->Prop}(hu:A.units+4<cLine)(I:ZF X jP σ H s)(x:Zu X.w H d r)(K:ZD H t y)(O:t.depth<=3)(M:ZN y u)(W:t∈r.map (·.1))(h:∀ e N B v,ZF X jP σ B N->ZH d H B->Zu X.w B d (OO r t)->Ws r t=some v->ZN v e.val->Q (some e) N):aA (az X.prog X.w) A (Builtin.Dict.takeOut d u) Q E s:=by
 let⟨m,C,k⟩:=x.ex;let⟨⟨g,i,o,R,f,Y,a⟩,_⟩:=I.hok d _ C;unfold Builtin.Dict.takeOut
 try with_reducible refine af ?_
 refine aa (Mq t.depth t (zY _) (VX I t y u K M) ∅ λp U=>?_)
 let D:ZF X jP σ H { s with toks:=p }:=I.tok p;refine aa (Ju (A:=A) D x k f a K O M ∅ (λS=>absurd W S) λj z e F G J P=>?_)
 refine aa (wpAny_dictEntries (s:={ s with toks:=p }) f a ?_);rw[J];let mu:Ol (H d):=by rw[C];exact True.intro
 let L:j<m.size:=(vM.mp J).1;let l:∀ c,Z6 H (upd H d (UY d c)):=λc b ws e=>by rw[ZS (ZW e C)];exact e
 refine aa (wpAny_updateDictKeys (hz:=i) (s:={ s with toks:=p }) f a (ad (h e _ (upd H d (UY d (m.eraseIdxIfInBounds j))) z.2.2 (NU D mu (yA.update ..) ⟨_,wE _ f (Obj.isFreed_of_dict (Obj.data_mapDictKeys a _))⟩ (Iw g ?_ ⟨_,R+1,wE _ f (Obj.isFreed_of_dict (Obj.data_mapDictKeys a _)),Y.mapDictKeys _,Obj.data_mapDictKeys a _⟩)) (λb o e n=>by rw[ZS n];exact e) ⟨⟨_,ZZ,?_⟩,λq T=>?_,?_⟩ ?_ P.2.2)))
 ·exact zI (by simp[rN,L]) i
 ·rw[Fi x.nd F G,show (m.eraseIdxIfInBounds j).toList=m.toList.eraseIdx j by simp[rN,L]]
  exact EW j k
 ·have:=x.key q (yN.mp T).1;exact⟨this.1.mono (l _),this.2⟩
 ·exact List.Nodup.sublist (yU.map _ uV) x.nd
 ·rw[<-G];exact Kf x.nd F
theorem ZQA{d:ai}{j:List (KT×V×V)}{t:KT}{y:V}{u:ah}{Q:ja}(hu:A.units+9<cLine)(I:ZF X jP σ H s)(x:Zu X.w H d j)(hy:ZD H t y)(O:t.depth<=3)(ry:ZN y u)(L:t∈j.map (·.1))(h:∀ q n i v,ZF X jP σ i n->ZH d H i->Zu X.w i d (OO j t)->Ws j t=some v->ZN v q->Q q n):aA (az X.prog X.w) A (call (.builtin "dict.pop") [.ref d,u]) Q E s:=by
 let⟨K,G,_⟩:=MA I x;let M:MeetsIn X.prog X.w (Builtin.«dict.pop» ⟨[.ref d,u],[]⟩) (λp R n=>n=s/\p.units+8<cLine/\∀ q g i v,ZF X jP σ i g->ZH d H i->Zu X.w i d (OO j t)->Ws j t=some v->ZN v q->R (.ok (.ret q)) g):=.of_wp λp R n ⟨e,a0,S⟩=>by
  subst e;unfold Builtin.«dict.pop»;refine aa ?_;unfold Builtin.Dict.keyAndDefault;refine aa (wpAny_notOrdered_dict G ?_);show aA _ _ (pure (d,u,none)) _ _ _;refine ad ?_;let m:∀{C:Option DictEntry->aj->Prop}{N:ja},(∀ e g,(∃ i v,ZF X jP σ i g/\ZH d H i/\Zu X.w i d (OO j t)/\Ws j t=some v/\ZN v e.val)->C (some e) g)->aA (az X.prog X.w) p.in1 (Builtin.Dict.takeOut d u) C N n:=λk=>ZPQ (by first | (show p.units+1+4<_;lia) | lia) I x hy O ry L λe g i v a b c r f=>k e g ⟨i,v,a,b,c,r,f⟩
  let D:∀(b:Bool),b=false->aA (az X.prog X.w) p.in1 (do
    let old<-if b then rule "dict.pop.empty";pure none else Builtin.Dict.takeOut d u
    if old.isNone then Builtin.Dict.missedRemoval d u
    match old,(none:jc) with
    | some e,_=>letGo [e.key] [e.val];ret e.val
    | none,some x=>rule "dict.pop.default";ret x
    | none,none=>rule "dict.pop.keyerror";raiseNew (← newExc (.type "KeyError") [u])) (λm g=>∃ v,m=Fin.done (Flow.ret v)/\R (Except.ok (Flow.ret v)) g) (λe g=>R (Except.error e) g) n:=λb P=>by
   subst P;simp only[xN,if_false];refine aa (m λe g ⟨i,v,a,b,c,r,f⟩=>?_);simp only[Option.isNone_some,xN,if_false];exact aa (wpAny_letGo (ad ⟨e.val,rfl,S e.val g i v a b c r f⟩))
  cases J:(keyPart u).isSome with
  | true=>
   simp only[J,if_true];exact aa (ad (D false rfl))
  | false=>
   simp only[J,xN,if_false];let⟨es,T,B⟩:=x.ex;let⟨⟨_,Y,o,ep,W,hx,U⟩,_⟩:=I.hok d _ T;refine aa (wpAny_dictEntries W U ?_);refine aa (ad (D _ ?_));have:=Paired.length B
   cases j with
   | nil=>cases L
   | cons a l=>
    rw[zR] at this;rw[Array.isEmpty_eq_false_iff];intro z;rw[z] at this;cases this
 exact call_meetsIn tX G rF (rA _ _) M ⟨Z,∅,h⟩
end
section
variable{o e:Expr}{td ty:TE}{jh jg:Pos}
inductive Oh(w:ar)(ty:TE)(g:L2.St)(Q:VK)(x:V)(f:Hp):Prop
 |mk(a:ai)(b:List (KT×V×V))(_:x=.ref a)(_:Zu w f a b)(_:ty g f λy c=>∃ t,Zu w c a b/\ZD c t y/\t.depth<=3/\t∈b.map (·.1)/\∀ v d,ZH a c d->Zu w d a (OO b t)->Ws b t=some v->Q v d)
def ZQx(w:ar)(td ty:TE):TE:=λa H Q=>td a H λx b=>Oh w ty a Q x b
theorem ZNP(C:X.A.units+9<cLine)(B:PE X o td)(z:PE X e ty)(m:M1 X o "pop" jh e jg):PE X (.Call (.Attribute o "pop" jh) [e] [] jg) (ZQx X.w td ty):=by
 intro b s i H Q I h;refine wpAny_Call_method m.base m.few m.line sJ tX rO (YA (B b s i H _ I h) ?_);rintro u N ⟨x,j,g,L,a,Y,r,d,G⟩;subst r;obtain rfl:u=Value.ref a:=L;let⟨_,P,R⟩:=MA g d;exists P,R;rw[m.trees];refine Calls.callWith_builtin Z (Calls.evalArgs_plain (Calls.spliced_cons (YA (z b N i j _ g G) λT U ⟨y,S,k,M,t,n,E,p,D,J⟩=>Calls.spliced_nil ?_)));exact ZQA C k n E p M D λW V f v l O c q K=>⟨v,f,l,K,J v f O c q⟩
end
theorem MI{H:Hp}{p:ai}(W:ZO H p):∃ o,H p=some (.lst o):=by
 let⟨_,_,_,_,a,_⟩:=W.ex;exact⟨_,a⟩
mutual
theorem D9:∀(t:KT)(r:Nat),t.wide r=true->t.wide (r+1)=true
 | .int _,_,_=>rfl
 | .str _,_,_=>rfl
 | .tup l,r,h=>by
  rw[KT.wide,zM,zM] at h⊢;let h0:=of_decide_eq_true h.1;exists aI (Nat.succ_pos _),h.2.1;have:=wideL_mono l (r-1) h.2.2;rw[show r-1+1=r+1-1 by lia] at this
  exact this
theorem wideL_mono:∀(l:jl)(r:Nat),wideL l r=true->wideL l (r+1)=true
 | [],_,_=>rfl
 | t::l,r,h=>by
  rw[wideL,zM] at h⊢;exact⟨D9 t r h.1,wideL_mono l r h.2⟩
end
theorem CU{v:KT}(h:v.fits 3=true):v.wide 4=true:=D9 _ _ (LE _ _ h)
theorem Tf.fr{c d:ai}{H g:Hp}{X:Zd}{h:ai}{j:je}{r:jp}(t:Tf c d H X h j r)(m:Z6 H g)(a:∀ b o,¬ Z2 X h b->H b=some o->g b=some o):Tf c d g X h j r:=by
 let R:=t.sh;let⟨⟨k,l⟩,n,p⟩:=R.sh;refine⟨⟨⟨⟨k,a _ _ (λz=>z.1 Z) l⟩,a _ _ (λz=>z.2.1 Z) n,a _ _ (λz=>z.2.2.1 Z) p⟩,R.lt,R.keys,R.val,R.len,λi f=>?_,R.own,R.two⟩,t.fst,t.tp⟩;exact(R.tw i f).frame m (λo e=>a _ _ (λz=>(z.2.2.2 i f).1 Z) e) (λo e=>a _ _ (λz=>(z.2.2.2 i f).2.2 Z) e) (λo e=>a _ _ (λz=>(z.2.2.2 i f).2.1 Z) e)
theorem YN.to{w:ar}{H a:Hp}{D:ai}{c:jm}{d:List (KT×V×V)}(h:YN w H D c d)(t:Z6 H a)(e:∀ o,H D=some o->a D=some o):YN w a D c d:=by
 let⟨f,g,i⟩:=h.dk.ex;exact⟨⟨⟨f,e _ g,i⟩,λz b=>⟨(h.dk.key z b).1.mono t,(h.dk.key z b).2⟩,h.dk.nd⟩,Paired.mapP h.rows λ_ _ z=>⟨z.1,z.2.mono t _ _⟩⟩
structure Lw(jN jO CTb:ai)(w:ar)(H:Hp)(T D kn:ai)(X:Zd)(lk:ai)(ls:je)(r:jp)(rs:jm)(xs:List (KT×V×V))(us:je)(ts:jl):Prop where
 tab:Yg CTb H T X.S r
 tb:Tf jN jO H X lk ls r
 dic:YN w H D rs xs
 hk:H kn=some (.lst us)
 ks:jI H ts us
 kf:∀ t∈ts,t.fits 3=true
 rf:∀ x∈rs,x.fit
 iff:∀ x,x∈Yi X.ts r ↔ x∈rs
 oT:Z2 X lk T
 oD:Z2 X lk D
 ok:Z2 X lk kn
section
variable{jN jO CTb:ai}{H H':Hp}{T D kn:ai}{X:Zd}{lk:ai}{ls:je}{r:jp}{rs:jm}{xs:List (KT×V×V)}{us:je}{ts:jl}
theorem Lw.dT(l:Lw jN jO CTb w H T D kn X lk ls r rs xs us ts):D≠T:=by
 let⟨b,a⟩:=l.tab;let⟨c,h,_⟩:=l.dic.dk.ex;exact ZW h a (by unfold UY;intro z;cases z)
theorem Lw.kT(l:Lw jN jO CTb w H T D kn X lk ls r rs xs us ts):kn≠T:=by
 let⟨b,a⟩:=l.tab;exact ZW l.hk a
theorem Lw.kD(l:Lw jN jO CTb w H T D kn X lk ls r rs xs us ts):kn≠D:=by
 let⟨a,h,_⟩:=l.dic.dk.ex;exact ZW l.hk h (by unfold UY;intro z;cases z)
theorem Lw.step(l:Lw jN jO CTb w H T D kn X lk ls r rs xs us ts){p:ai}(W:∃ o,H p=some (.lst o))(s:Z2 X lk p)(d:∀ b o,b≠p->b≠kn->H b=some o->H' b=some o){c:je}{a:jl}(j:H' kn=some (.lst c))(q:jI H' a c)(k:∀ t∈a,t.fits 3=true):Lw jN jO CTb w H' T D kn X lk ls r rs xs c a:=by
 let⟨_,f⟩:=W;let⟨h,g⟩:=l.tab;let⟨u,i,_⟩:=l.dic.dk.ex;let m:Z6 H H':=λb v e=>d b _ (ZW e f) (ZW e l.hk) e;exact⟨⟨h,d _ _ (ZW g f) l.kT.symm g⟩,l.tb.fr m λb o n e=>d b o (λz=>n (z ▸ s)) (λz=>n (z ▸ l.ok)) e,l.dic.to m λo e=>d _ _ (ZW i f (by unfold UY;intro z;cases z)) l.kD.symm e,j,q,k,l.rf,l.iff,l.oT,l.oD,l.ok⟩
theorem Lw.pull(l:Lw jN jO CTb w H T D kn X lk ls r rs xs us ts){p:ai}(W:ZO H p)(c:Z2 X lk p)(a:kn≠p)(s:ZH p H H'):Lw jN jO CTb w H' T D kn X lk ls r rs xs us ts:=
 l.step (MI W) c (λb o n _ e=>s b o e n) (s _ _ l.hk a) (l.ks.mono (s.tupsW W) _ _) l.kf
theorem Lw.same(l:Lw jN jO CTb w H T D kn X lk ls r rs xs us ts)(s:ZE H H'):Lw jN jO CTb w H' T D kn X lk ls r rs xs us ts:=by
 let⟨a,b⟩:=l.tab;exact⟨⟨a,s _ _ b⟩,l.tb.same s,l.dic.same s,s _ _ l.hk,l.ks.sm s,l.kf,l.rf,l.iff,l.oT,l.oD,l.ok⟩
theorem Lw.look(l:Lw jN jO CTb w H T D kn X lk ls r rs xs us ts){a:je}(c:∀ b o,b≠lk->H b=some o->H' b=some o)(t:Tf jN jO H' X lk a r):Lw jN jO CTb w H' T D kn X lk a r rs xs us ts:=by
 let⟨d,f⟩:=l.tab;let m:Z6 H H':=λb g e=>c b _ (ZW e l.tb.sh.sh.looks) e;exact⟨⟨d,c _ _ l.oT.2.2.1 f⟩,t,l.dic.to m λo e=>c _ _ l.oD.2.2.1 e,c _ _ l.ok.2.2.1 l.hk,l.ks.mono m _ _,l.kf,l.rf,l.iff,l.oT,l.oD,l.ok⟩
theorem LQ(t:Tf jN jO H X lk ls r):Up (Yi X.ts r):=by
 cases r with
 | none=>exact .nil
 | some i=>exact(t.fst.wf i (t.tp i rfl).1).up
theorem ZNY{l:jm}{k v:KT}(U:Up l)(h:(k,v)∈l):WJ l k=[v]:=by
 induction l with
 | nil=>cases h
 | cons x l b=>
  unfold Up PQ at U;rw[yT,xB] at U;let e:WJ (x::l) k=(if x.1.eqb k=true then [x.2] else [])++WJ l k:=by
   unfold WJ;rw[xJ];split <;> rfl
  rcases zU.mp h with y | y
  ·subst y;rw[e,aK (QF _),MP λr a z=>?_]
   ·rfl
   ·have:=U.1 r.1 (zP.mpr ⟨r,a,Z⟩);rw[z,V9] at this;cases this
  ·have:=U.1 k (zP.mpr ⟨_,y,Z⟩);rw[e,aJ (λz=>by rw[US _ _ z,V9] at this;cases this),b U.2 y]
   rfl
theorem Lw.at_(l:Lw jN jO CTb w H T D kn X lk ls r rs xs us ts)(k:KT):(∃ v u,Ws xs k=some u/\ZD H v u/\v.fits 3=true/\(k,v)∈rs/\WJ (Yi X.ts r) k=[v])\/(Ws xs k=none/\WJ (Yi X.ts r) k=[]/\k∉rs.map (·.1)):=by
 by_cases c:k∈rs.map (·.1)
 ·let⟨x,a,rfl⟩:=zP.mp c;let⟨u,b,d⟩:=l.dic.at_ a;exact .inl ⟨x.2,u,b,d,(l.rf x a).2,a,ZNY (LQ l.tb) ((l.iff _).mpr a)⟩
 ·exact .inr ⟨l.dic.none c,MP λx a e=>c (zP.mpr ⟨x,(l.iff x).mp a,e⟩),c⟩
theorem Lw.len(l:Lw jN jO CTb w H T D kn X lk ls r rs xs us ts):(Yi X.ts r).length=rs.length:=by
 let U:=LQ l.tb;let c:(Yi X.ts r).Nodup:=xL.imp (λh=>λe=>by rw[e] at h;rw[V9] at h;cases h) (tI.mp U)
 let d:rs.Nodup:=xL.of_map (·.1) (λa b h e=>h (by rw[e])) l.dic.nd
 exact List.Perm.length_eq ((sI c d).mpr l.iff)
end
end Tw
namespace L2
open PySem PySem.Spec PyProof.Rows
inductive Ph(K:zZ)(e C:ai)(m:Str)(j:Sp)(t:TA)(i:Nat)(k:TS)(D:YH)(b:L2.St)(x:V)(c:Hp):Prop
 |mk(a h d:_)(_:x=.ref a)(_:c a=some (.ins C h d))(_:d.lookup m=none)(_:t b c λl f=>j (x::(l++[])) f (λ_ g=>D.nx b g) (Gw K e i k D b))
def Cs(K:zZ)(b C:ai)(m:Str)(d:Sp)(e:TE)(t:TA)(i:Nat)(f:TS):TS:=λD a H=>e a H λx c=>Ph K b C m d t i f D a x c
theorem ZGW{X:Cx}{k:Nat}{f C CB:ai}{fd:al}{ps:jn}{sp:Sp}{m y n:Str}{jh jg epos py ph pos:Pos}{o e:Expr}{es:jw}{ta:TE}{t:TA}{i:Nat}{b₀:aB}{suite:jB}{ts:TS}{pl:Sem Bool}(he:∀ E',PE (X.wish E') o ta)(c:Vx X.K C)(hm:Qa X.K C m f)(F:ZI X.prog X.w X.K X.mg X.base (Yd X.prog X.w) k f fd ps sp)(hr:ZU k X.A)(hb:Zt X.K fd ps [])(ha:∀ E',PA (X.wish E') (e::es) t)(hst:X.stack=X.env::X.outer)(hfm:X.env.frame=some X.env.locals)(hex:X.ex=[])(hy:Gl X y)(hyC:X.mg y=some (.ref CB))(hN:X.N.Nodup)(hi:X.N[i]? = some n)(hn:X.env.scope.names.lookup n=some .local)(ht:wV X.K (.ref CB)=some (.type "type"))(hB:xY X.K CB (.type "BaseException")=some true)(hs:∀ d E',XV (X.held d E') (b₀::suite) ts)(hdy:(y==("__debug__" : Str))=false:=by decide)(hse:aq (e::es) X.env=(false,aF e X.env)::aq es X.env:=by rfl)(hpl:(aE jg (aq es X.env)).any (·.1)=false:=by rfl)(hev:aF (.Call (.Attribute o m jh) (e::es) [] jg) X.env=(do
   let ov<-aF o X.env
   standAt jh.atName
   let (f,first)<-holding [ov] (getMethod ov m pl)
   callWith jg f first (aE jg (aq (e::es) X.env)) (backToKw jg (keywordEach [] X.env))):=by rfl)(hsw:swapsWith (.Call (.Attribute o m jh) (e::es) [] jg) none epos.line X.env=pure false:=by rfl):
  PS X (.Try [.Expr (.Call (.Attribute o m jh) (e::es) [] jg) epos] [.ExceptHandler (some (.Name y py)) (some n) (b₀::suite) ph] [] [] pos) (Cs X.K CB C m sp ta t i ts):=by
 intro b s O H D I h;refine wpAny_Try_except ?_;let a7:X.A.frames=some (X.env::X.outer):=by rw[I.ok.frames,hst]
 let U:∀(H1:Hp)(s1:aj)(E:ah)(g:aj),ZF X b O H1 s1->Yd X.prog X.w X.stack H1 s1 (Gw X.K CB i ts D O) E g ->
   aA (az X.prog X.w) X.A (noteFrame E X.env) (λ_ G=>aA (az X.prog X.w) X.A (setFlight E none) (λ_ L=>aA (az X.prog X.w) X.A (handleBy E X.env [.ExceptHandler (some (.Name y py)) (some n) (b₀::suite) ph]) (SP X b D) X.xe L) X.xe G) X.xe g:=by
  intro H1 s1 E g j hx;let⟨d,cls,od,H',rfl,W,C,rfl,mC,q⟩:=hx;let⟨B,fl,inT,a3,a2⟩:=W.ex;let a6:UK B (X.env::X.outer) d (.ref C) od .none g.heap:=by rw[<-hst];exact fl
  refine Fa a7 hfm a6 λh4 T a4=>?_;refine M5 (s:={ g with heap:=h4 }) T λh5 S a5=>?_;let J5:ZF X b O H' { g with heap:=h5 }:=D8 j W inT a3 a2 S.1 (a4.trans a5);refine wpAny_handleBy_cons (codeAny_handlers_test ?_) (by intro q;cases q)
  refine NP (J5.held d (λ_ _=>False)) hy hyC ?_ hdy;refine ZGI (s:={ g with heap:=h5 }) J5.kIn S.at.is ht hB mC ?_;refine codeAny_handlers_suite_as ?_;refine M5 (s:={ g with heap:=h5 }) S λh6 a1 a8=>?_;let J6:ZF X b O H' { g with heap:=h6 }:=D8 j W inT a3 a2 a1.1 ((a4.trans a5).trans a8);let n0:X.s₀.heap.get? d=none:=by
   cases z:X.s₀.heap.get? d with
   | none=>rfl
   | some o=>
    let⟨o',q'⟩:=j.base.there d o z (by rw[hex];simp)
    rw[W.new] at q';cases q'
  let n1:d≠X.env.locals:=λz=>by
   let⟨m,⟨o,_,_,M,_⟩,_⟩:=j.loc;rw[<-z,W.new] at M;cases M
  let n2:∀ x c,X.env.cells.lookup x=some c->c≠d:=λx c e z=>by
   let⟨v,o,M,_⟩:=j.cell x c e;rw[z,W.new] at M;cases M
  let n3:∀ p∈X.pn++b,p.1≠d:=λp hp z=>by
   let M:=(j.pin p hp).1;rw[z,W.new] at M;cases M
  let K6:ZF X b O (upd H' d (XO NZ d C od)) { g with heap:=h6 }:=J6.track n0 n1 n2 n3 W.free (CG a1.at);refine LS K6 hN hi (.inl hn) (v:=.ref d) Z (λs7 I7=>?_) (.inr hn);refine ae (hs d _ b s7 _ _ _ (I7.held d _) (q d W.free)) (λfl s8 h8=>?_) λ_ _ z=>z
  cases fl with
  | next=>
   let⟨a0,P,R,Y⟩:=h8;exact(R.unheld j.ok).goes hN hi hn λs9 Q=>⟨_,P,Q,Y⟩
  | brk=>
   let⟨a0,P,R,Y⟩:=h8;exact(R.unheld j.ok).goes hN hi hn λs9 Q=>⟨_,P,Q,Y⟩
  | cont=>
   let⟨a0,P,R,Y⟩:=h8;exact(R.unheld j.ok).goes hN hi hn λs9 Q=>⟨_,P,Q,Y⟩
  | ret u=>
   let⟨v8,a0,P,R,r8,Y⟩:=h8;exact(R.unheld j.ok).goes hN hi hn λs9 Q=>⟨v8,_,P,Q,r8,Y⟩
 let I':=I.wish (λE g=>aA (az X.prog X.w) X.A (noteFrame E X.env) (λ_ G=>aA (az X.prog X.w) X.A (setFlight E none) (λ_ L=>aA (az X.prog X.w) X.A (handleBy E X.env [.ExceptHandler (some (.Name y py)) (some n) (b₀::suite) ph]) (SP X b D) X.xe L) X.xe G) X.xe g);refine wpAny_execs_cons (wpAny_Expr_any ?_ I.quiet hsw);refine sM (pl:=pl) (YA (he _ b s O H _ I' h) λu s1 ⟨x,H1,j,rx,a,dx,fs,ex,d,l,q⟩=>?_) hev;subst ex;obtain rfl:u=Value.ref a:=rx;refine IO j.unwish d c hm l ?_;refine uF (first:=[.ref a]) (h₀:=X.base) I.ok.mod.kin hm.kp (YF (ha _ jg b s1 O H1 _ j q) λus s2 vs H2 I2 r q2=>⟨I2.kIn,?_⟩) hse hpl
 let r2:ZQ (V.ref a::(vs++[])) (Value.ref a::(us++[])):=.cons Z (r.append .nil);let hl:(Value.ref a::us++[]).length=ps.length:=by rw[show Value.ref a::us++[]=Value.ref a::(us++[]) from rfl,<-r2.length];exact F.len _ _ _ _ q2
 refine wpAny_call (codeAny_mono (F.run X.A X.stack s2 H2 ⟨.ref a::us,[]⟩ (.ref a::us++[]) (.ref a::(vs++[])) _ _ hr I2.unwish.env0 (hb s2 (.ref a::us) I2.kIn hl) r2 q2) λrr g hq=>?_)
 cases rr with
 | error E=>exact U H2 s2 E g I2.unwish hq
 | ok fl=>
  cases fl with
  | ret u=>
   let⟨v,H3,J,rv,q3⟩:=I2.unwish.after hq;exact wpAny_execs_nil (wpAny_execs_nil ⟨O,H3,J,q3⟩)
  | next=>exact False.elim hq
  | brk=>exact False.elim hq
  | cont=>exact False.elim hq
end L2
namespace Tw
open PySem PySem.Spec L2 PyProof.Rows
structure Ga(K:zZ)(mg:jb)(CB CK:ai):Prop where
 base:mg "TwigError" = some (.ref CB)
 n1:mg "NoKey" = some (.ref CK)
 ty:wV K (.ref CB)=some (.type "type")
 mB:xY K CB (.type "BaseException")=some true
 sub:xY K CK (.ref CB)=some true
 xk:Va K CK
 kk:yO K (.ref CK) (.ref CK)=some true
section
variable{jN jO CTb CK CB:ai}
inductive Ys(jN jO CTb:ai):Sp
 |mk{T:ai}{X:Zd}{b:ai}{c:je}{r:jp}{d:V}{N:ai->Prop}{H:Hp}{Q:VK}{E:XK}:Yg CTb H T X.S r->Tf jN jO H X b c r->(Yi X.ts r).length<=200->c.length<=366000->Z2 X b T->Qe N H none d->(∀ a,ZE H a->Q (.bl true) a) ->
  Ys jN jO CTb [.ref T,d] H Q E
abbrev ZKw:jn:=["_law_table","_law_spot","e"]
theorem VF:ZC ZKw zE2 (ZY Ih):=Zp
theorem Cy(o:Zi K "_law_refused" "_law_refused" Ih f fd)(T:YL mg)(u:UW K mg CTb)(L:Ga K mg CB CK)(n:ZB P w K mg jQ (Yd P w) 37 CTb "take" zEk (Yh jN jO CTb CK)):ZI P w K mg jQ ZM 38 f fd zE2 (Ys jN jO CTb):=by
 refine o.ok VF (λR H Q E h=>(by cases h;rfl)) (λB A d s H R Q E G h=>?_)
 let⟨⟨g,l⟩,t,M,b,J,F,q⟩:=h;rename_i y X Y ls r vk N
 let I:=VF.nd;let⟨W,D,x,p,z⟩:=n.ex;intro V;refine⟨_,ZL (ZGW (i:=2) (λ_=>pv 0) u.cT x p G z (λ_=>ZT (pv 1)) rfl rfl rfl rfl L.base I rfl rfl L.ty L.mB
   (λa S=>ZR (Zh (YC (r:=Ob K) ZQT rfl T.isi Vq (Zq (pv 2) (WL (v:=.ref CK) rfl L.n1 rfl))))))
  (ZR (Zh Pv)),?_⟩
 refine⟨_,Z,y,g,_,Z,l,Z,_,Z,.mk ⟨g,l⟩ t M b J F (λ_ e O=>⟨CK,Z,L.sub,λa c=>?_⟩) λk C=>nomatch C⟩;let j:=Zv c (XO NZ a CK none);let m:JN (upd e a (XO NZ a CK none)) a CK:=ZQQ ZZ;generalize upd e a (XO NZ a CK none)=U at j m⊢;exact⟨_,Z,a,CK,_,true,Z,m,L.xk,Z,L.kk,q _ (O.trans j)⟩
end
theorem Paired.filt{c d:Type}{F:c->d->Prop}{p:c->Bool}{q:d->Bool}(h:∀ a b,F a b->p a=q b):∀{l:List c}{m:List d},Paired F l m->Paired F (l.filter p) (m.filter q)
 | _,_,.nil=>.nil
 | a::l,b::m,.cons y t=>by
  rw[xJ,xJ,h a b y];split
  ·exact .cons y (Paired.filt h t)
  ·exact Paired.filt h t
theorem YN.pop{w:ar}{H c:Hp}{D:ai}{e:jm}{d:List (KT×V×V)}(h:YN w H D e d)(s:ZH D H c){k:KT}(f:Zu w c D (OO d k)):YN w c D (XA k e) (OO d k):=
 ⟨f,Paired.filt (λa b y=>by rw[y.1]) (Paired.mapP h.rows λ_ _ z=>⟨z.1,z.2.mono (Iy h.dk s) _ _⟩)⟩
section
variable{jN jO CTb CK:ai}
abbrev Ed:jn:=["_law_table","_law_model","_law_spot","_law_due","_law_found","_law_count"]
theorem Vj:ZC Ed zEi (ZY No):=Zp
abbrev ET(jN jO CTb:ai)(w:ar)(H:Hp)(T D h:ai)(X:Zd)(e:ai)(i:je)(l:jm)(n:je)(m:jl)(k:KT)(Q:Hp->Prop):Prop:=
 ∀(d:Hp)(a:Zd)(b:je)(j:jp)(g:List (KT×V×V)),Lw jN jO CTb w d T D h a e b j (XA k l) g n m->a.S=X.S->a.ts.length=X.ts.length->a.lv.length<=X.lv.length->b.length<=i.length+100->(∀ c o,c≠T->c≠D->Z2 X e c->H c=some o->d c=some o/\Z2 a e c)->Q d
theorem ZNC{cdv:ah}{A:aw}{outer:jt}{s:aj}{Hs:Hp}{E:XK}(M:YL mg)(LT:UW K mg CTb)(DU:ZB P w K mg jQ (Yd P w) 37 CTb "take" zEk (Yh jN jO CTb CK))(DS:ZB P w K mg jQ (Yd P w) 12 CTb "side" zEk (YE jN jO CTb CK))(DC:ZB P w K mg jQ ZM 4 CTb "count" zEq (YZ jN jO CTb))(DR:ZA P w K mg jQ 8 "_law_rows_alike" zEc YB)(hr:ZU 38 (A.deeper (envOfC "_law_take" (ZY No) s.heap.objs.size f cdv))):
  ∃ t,XV (Xy ZM P w K mg jQ Ed "_law_take" (ZY No) f cdv A outer s Hs E).nox ((Xg No).drop 2) t/\∀(D0:YH)(H:Hp)(T D m u:ai)(X:Zd)(p:ai)(ls:je)(r:jp)(i:jm)(I:List (KT×V×V))(us dv:je)(ts:jl)(vk:V)(k:KT)(x4 x5:jf),
   Yg CTb H T X.S r->Tf jN jO H X p ls r->YN w H D (XA k i) I->H m=some (.lst us)->jI H ts us->(∀ t∈ts,t.fits 3=true)->(∀ x∈i,x.fit)->(∀ x,x∈Yi X.ts r ↔ x∈i)->Z2 X p T->Z2 X p D->Z2 X p m ->
   H u=some (.lst dv)->jI H (WJ (Yi X.ts r) k) dv->Z2 X p u->ZD H k vk->k.fits 3=true->i.length<=140->(Yi X.ts r).length<=140->ls.length<=350000 ->
   ET jN jO CTb w H T D m X p ls i us ts k (D0.rt (.bl true)) ->
   t D0 [some (.ref T),some (.ref D),some vk,some (.ref u),x4,x5] H:=by
 let nd:=Vj.nd;let c3:=hr.mono (show 4<=38 by lia)
 let c4:=hr.mono (show 8<=38 by lia)
 let a1:=hr.mono (show 12<=38 by lia)
 let a2:=hr.mono (show 37<=38 by lia)
 refine⟨_,ZL (Zj 4 nd (Z0 (E:=E0) (pv 0) LT.cT DU a2 Oa (ZT (pv 2))))
  (ZL (Z1 (Vl (Y5 (Zc DR c4 (Zq (pv 4) (pv 3))))) Wq Z5)
  (ZL (Ye (QS xW wO wN PY (pv 4) (ZT Pl)))
  (ZL (Zj 5 nd (MG (E:=E0) (pv 0) LT.cT DC c3 Z3))
  (ZL (Z1 (PW.pt (Px (Vl (Y5 (YC UF rfl M.isi Vq (Zq (pv 5) (UN (v:=.ty "int") rfl M.int ON rfl))))) (Px (Y5 (YC UF rfl M.isi Vq (Zq (pv 5) (UN (v:=.ty "bool") rfl M.bool Kj rfl)))) (Nb (YX Nd (pv 5) (YC ZIp rfl M.len Xa (ZT (pv 1))) (YG _)))))) Wq Z5)
  (ZR (Zh (Vs (Md hr.units0) (Z0 (E:=E0) (pv 0) LT.cT DS a1 Oa (ZT (pv 2))) (Yr Zn) (YG _)))))))),
  λD0 H T D m u X p ls r i I us dv ts vk k x4 x5 a5 t N j ks kf rf c5 oT oD ok U c6 e3 kk fk e9 lr i0 q=>?_⟩
 let⟨dx,Y⟩:=id a5;let c0:Qe (λ_=>True) H (some k) vk:=⟨kk,fk⟩;let⟨es,hD,_⟩:=N.dk.ex;let dT:D≠T:=ZW hD Y (by unfold UY;intro z;cases z)
 let kT:m≠T:=ZW j Y;let uT:u≠T:=ZW U Y;refine⟨_,Z,T,dx,_,Z,Y,Z,_,Z,.mk a5 t ∅ ∅ oT c0 (λy=>nomatch y) λk' ek H2 X2 c8 g r2 J eS a e6 t2 a6 Q f2 e8 e0 B W e4 FT ky=>?_⟩
 cases ek;let m2:Z6 H H2:=λb g e=>(a b _ (ZW e Y) (t.sh.off e (by intro _ _ _ z;cases z) (by intro _ z;cases z) (by intro _ z;cases z)) e).1
 let wd:∀ x∈WJ (Yi X.ts r) k,x.wide 4=true:=λx G=>by
  let⟨y,hy,rfl⟩:=zP.mp G;exact CU (t.fit y (yN.mp hy).1).2
 let c7:(WJ (Yi X.ts r) k).length<=400:=by
  unfold WJ;rw[zX];exact zI (vV _ _) ∅
 exists _,Z,_,Z,J,u,g,dv,_,_,Z,W,(a u _ uT e3 U).1,ky,c6.mono m2 _ _,wd,c7;intro H3 C;rw[eqbL_self];refine⟨_,Z,Zm ?_⟩;let h:=C _ _ W;let i1:g.length<=400:=by have:=ky.length;lia
 exists _,Z,.inl ⟨Z,_,ZG.of h⟩,J,g,.non,Z,Z,h,XX ∅
 let d:∀ b o,b≠J->H3 b=some o->upd H3 J (.lst (g++[.non])) b=some o:=λb o n e=>by rw[ZS n];exact e
 generalize upd H3 J (.lst (g++[.non]))=L at d⊢;let m4:Z6 H3 L:=λb g e=>d b _ (ZW e h) e;let e2:Z6 H2 L:=λb g e=>m4 b g (C _ _ e);let mm:Z6 H L:=λb g e=>e2 b g (m2 b g e);let l:Lw jN jO CTb w L T D m X2 p c8 r2 (XA k i) I us ts:=by
  let⟨a7,a9⟩:=a6;refine⟨⟨a7,d _ _ FT.symm (C _ _ a9)⟩,(t2.same C).fr m4 λb o n e=>d b o (λz=>n (z ▸ e4)) e,N.to mm λo e=>?_,?_,ks.mono mm _ _,kf,λx G=>rf x (yN.mp G).1,λx=>?_,e6,(a D _ dT oD hD).2,(a m _ kT ok j).2⟩
  ·exact d _ _ (Zg hD B) (C _ _ (a D _ dT oD e).1)
  ·exact d _ _ (Zg j B) (C _ _ (a m _ kT ok j).1)
  ·rw[Q];unfold XA;rw[yN,yN,c5]
 let ll:=l.len;let e1:=Paired.length l.dic.rows;let⟨O,a0⟩:=l.tab;let wl:(XA k i).length<=i.length:=vV _ _;refine⟨_,Z,T,O,_,Z,a0,Z,.mk l.tab l.tb ?_⟩;refine⟨_,Z,_,_,_,_,Z,.int _,N2,_,Z,Zm ⟨_,Z,_,_,_,_,Z,.int _,IJ,_,Z,Zm ⟨_,Z,_,Z,D,I,Z,l.dic.dk,∅,Z,?_⟩⟩⟩
 rw[ll,show (!decide (V.int ((XA k i).length:Nat)=V.int (I.length:Nat)))=false by rw[aI (by rw[e1])];rfl]
 refine⟨_,Z,Zm ?_⟩;let c1:Qe (λ_=>True) L (some k) vk:=⟨kk.mono mm _ _,fk⟩;refine⟨_,Z,T,O,_,Z,a0,Z,_,Z,.mk l.tab l.tb ∅ ∅ c1 (λy=>nomatch y) λk' ek H5 S5 y5 c9 R e7 f5 i2 a8 a3=>?_⟩
 cases ek;let l5:=l.look R e7;let e5:WJ (Yi X2.ts r2) k=[]:=MP λx G z=>by
  rw[Q] at G;have:=(yN.mp G).2;rw[z,QF] at this;cases this
 rw[e5] at a3;let y0:y5=[]:=by cases a3;rfl
 subst y0;exists YS;intro p1 n1;let⟨H6,eU,g6,h6⟩:=Y8 n1 (.lst []);rw[eU];exists S5,p1,[],Z,Z,ZG.of (g6 _ _ a8),ZG.of h6;refine q H6 X2 c9 r2 I (l5.same g6) eS e8 e0 ∅ λc o n1 n2 oc e=>?_
 let⟨c2,a4⟩:=a c o n1 oc e;exact⟨g6 _ _ (R _ _ a4.2.2.1 (d _ _ (Zg e B) (C _ _ c2))),a4⟩
inductive Yf(jN jO CTb:ai)(w:ar):Sp
 |mk{T D c:ai}{X:Zd}{d:ai}{a:je}{r:jp}{b:jm}{i:List (KT×V×V)}{g:je}{e:jl}{h:V}{k:KT}{H:Hp}{Q:VK}{E:XK}:Lw jN jO CTb w H T D c X d a r b i g e->ZD H k h->k.fits 3=true->b.length<=140->a.length<=350000->ET jN jO CTb w H T D c X d a b g e k (Q (.bl true))->Yf jN jO CTb w [.ref T,.ref D,h] H Q E
theorem ZLO(F:Zi K "_law_take" "_law_take" No f fd)(T0:YL mg)(LT:UW K mg CTb)(DU:ZB P w K mg jQ (Yd P w) 37 CTb "take" zEk (Yh jN jO CTb CK))(DS:ZB P w K mg jQ (Yd P w) 12 CTb "side" zEk (YE jN jO CTb CK))(DC:ZB P w K mg jQ ZM 4 CTb "count" zEq (YZ jN jO CTb))(DR:ZA P w K mg jQ 8 "_law_rows_alike" zEc YB):ZI P w K mg jQ ZM 39 f fd zEi (Yf jN jO CTb w):=by
 refine F.ok Vj (λvs H Q E h=>(by cases h;rfl)) (λV A t s H vs Q E hr h=>?_)
 let⟨l,kk,fk,j,B,q⟩:=h;rename_i T D kn X lk ls r L N us ts vk k
 let nd:=Vj.nd;let a0:=ZU.key hr (n:=5) (by decide)
 let a1:=ZU.key hr (n:=9) (by decide)
 let⟨tt,ht,hk⟩:=ZNC (jN:=jN) (jO:=jO) (P:=P) (w:=w) (K:=K) (jQ:=jQ) (f:=f) (cdv:=V) (A:=A) (outer:=t) (s:=s) (Hs:=H) (E:=E) T0 LT DU DS DC DR hr;intro Xc;refine⟨_,ZL (Zj 3 nd (Yr Zn))
  (ZL (Z1 (YX (Gb a0) (pv 2) (pv 1) rfl) (ZR (Zj 3 nd (Yr (ZT (ZNP a1 (pv 1) (pv 2) ⟨rfl,rfl,rfl,rfl⟩))))) Z5) ht),?_⟩
 let kd:=UL _ 3 fk;let lr:=l.len;exists YS;intro p0 n0;let⟨R,eU,G,h1⟩:=Y8 n0 (.lst []);rw[eU];let d:=l.same G;let i:=kk.sm G;exists _,Z,_,Z,D,N,k,Z,d.dic.dk,i,kd;rcases d.at_ k with ⟨v0,u0,C,k0,f0,m0,sd⟩ | ⟨C,sd,a3⟩
 ·rw[C];let a2:k∈N.map (·.1):=by rw[d.dic.keys];exact zP.mpr ⟨_,m0,Z⟩
  refine⟨_,Z,Z7 ⟨_,Z,D,N,Z,d.dic.dk,_,Z,k,d.dic.dk,i,kd,a2,λv H2 M W ev=>?_⟩⟩;rw[C] at ev;cases ev;let d2:=d.dic.pop M W;let m2:=Iy d.dic.dk M;exists YS;intro p1 y;let⟨S,eU,I,h3⟩:=Y8 y (.lst [u0]);rw[eU];let g:∀ b o,b≠D->R b=some o->S b=some o:=λb o n e=>I _ _ (M _ _ e n);let p:Z6 R S:=λb ys e=>I _ _ (m2 b ys e);let⟨dx,hT⟩:=d.tab;let t2:Tf jN jO H2 X lk ls r:=d.tb.fr m2 λb o n e=>M _ _ e λz=>n (z ▸ l.oD);refine hk _ S T D kn p1 X lk ls r L _ us [u0] ts vk k _ _ ⟨dx,g _ _ l.dT.symm hT⟩ (t2.same I) (d2.same I) (g _ _ l.kD d.hk) (d.ks.mono p _ _) l.kf l.rf l.iff l.oT l.oD l.ok h3 (by rw[sd];exact .cons (k0.mono p _ _) .nil) (t2.sh.new y) (i.mono p _ _) fk j ∅ B ?_
  exact λO U m r' u l' Y a b c fr=>q O U m r' u l' Y a b c λc o y J oc e=>fr c o y J oc (g _ _ J (G _ _ e))
 ·rw[C];refine⟨_,Z,Zm ?_⟩;let ew:XA k L=L:=IM λx hx z=>a3 (zP.mpr ⟨x,hx,z⟩);refine hk _ R T D kn p0 X lk ls r L N us [] ts vk k _ _ d.tab d.tb (by rw[ew];exact d.dic) d.hk d.ks l.kf l.rf l.iff l.oT l.oD l.ok h1 (by rw[sd];exact .nil) (l.tb.sh.new n0) i fk j ∅ B ?_
  exact λO U m r' u l' Y a b c fr=>q O U m r' u l' Y a b c λc o y J oc e=>fr c o y J oc (G _ _ e)
end
theorem GA{H:Hp}:∀{a:List (KT×V×V)},(∀ x∈a,ZD H x.1 x.2.1)->jI H (a.map (·.1)) (a.map (·.2.1))
 | [],_=>.nil
 | x::a,h=>.cons (h x zS) (GA λy b=>h y (zO _ b))
section
variable{a:Expr}{ta:TE}
theorem Bo{j c}(i:PE X a ta):PC X .Is a (.Constant (.bool true) j c) (λf H Q=>ta f H λx d=>x=.bl true/\Q (.bl true) d):=by
 intro b s f H Q I h;refine YA (i b s f H _ I h) ?_;rintro v m ⟨x,d,g,l,e,k⟩;subst e;cases l;exact Constant_bool (wpAny_is_self Z ⟨.bl true,d,g,Z,k⟩)
end
theorem Tf.nil{a b:ai}{H:Hp}{X:Zd}{c:ai}{d:je}{r:jp}(t:Tf a b H X c d r)(h:Yi X.ts r=[]):r=none:=by
 cases r with
 | none=>rfl
 | some i=>exact absurd h (t.fst.wf i (t.tp i rfl).1).ne
section
variable{jN jO CTb CK:ai}
abbrev Ez:jn:=zEi
theorem OV:ZC Ez zEr (ZY NW):=Zp
theorem ZMs{cdv:ah}{A:aw}{outer:jt}{s:aj}{Hs:Hp}{E:XK}(T0:YL mg)(c:UW K mg CTb)(DU:ZB P w K mg jQ (Yd P w) 37 CTb "take" zEk (Yh jN jO CTb CK))(DP:ZB P w K mg jQ (Yd P w) 15 CTb "put" zFc (Xi jN jO CTb))(DC:ZB P w K mg jQ ZM 4 CTb "count" zEq (YZ jN jO CTb))(h:ZB P w K mg jQ ZM 27 CTb "rows" zEq (YU jN jO CTb))(DR:ZA P w K mg jQ 8 "_law_rows_alike" zEc YB)(e:ZU 39 (A.deeper (envOfC "_law_emptied" (ZY NW) s.heap.objs.size f cdv))):
  ∃ t,XV (Xy ZM P w K mg jQ Ez "_law_emptied" (ZY NW) f cdv A outer s Hs E).nox ((Xg NW).drop 1) t/\∀(z:YH)(H:Hp)(T D kn:ai)(X:Zd)(lk:ai)(W:je)(r:jp)(xs:List (KT×V×V))(us:je)(ts:jl)(x2:jf),
   Lw jN jO CTb w H T D kn X lk W r [] xs us ts->X.ts.length<=700->X.lv.length<=700->W.length<=340000->(∀ H',z.rt (.bl true) H')->t z [some (.ref T),some (.ref D),x2] H:=by
 let Q:=e.mono (show 4<=39 by lia)
 let R:=e.mono (show 8<=39 by lia)
 let o:=e.mono (show 15<=39 by lia)
 let a:=e.mono (show 27<=39 by lia)
 let p:=e.mono (show 37<=39 by lia)
 refine⟨_,ZL (Z1 (PW.pt (Px (Pa (M6 (XT (pv 0) rfl))) (Px (YX (Jb e.units0) (MG (E:=E0) (pv 0) c.cT h a Z3) (Yr Zn) (YG _)) (Px (YX Nd (MG (E:=E0) (pv 0) c.cT DC Q Z3) ZK (YG _)) (Nb (YX (Jb e.units0) (Z0 (E:=E0) (pv 0) c.cT DU p Oa (ZT ZK)) (Yr Zn) (YG _))))))) Wq Z5)
  (ZR (Zh (Q7 (BR (Bo (Z0 (E:=E0) (pv 0) c.cT DP o Oa (Zq ZK Ue)))) (P7 (Zc DR R (Zq (MG (E:=E0) (pv 0) c.cT h a Z3) (Yr (ZT (VC (Zq ZK Ue)))))))))),
  λz H T D kn X lk W r xs us ts x2 l t7 v7 a3 q=>?_⟩
 let e0:Yi X.ts r=[]:=qT.mpr λx hx=>by cases(l.iff x).mp hx
 let er:=l.tb.nil e0;subst er;let⟨dx,hT⟩:=l.tab;refine⟨_,Z,T,CTb,dx,_,.non,Z,hT,c.cT,c.nr,Z,_,Z,Zm ?_⟩;refine⟨_,Z,T,dx,_,Z,hT,Z,.mk l.tab l.tb (zE _) ∅ λH1 F1 ws a7 F a0 f1 c2 J U=>⟨YS,λp1 n1=>?_⟩⟩
 let w0:ws=[]:=by cases U;rfl
 subst w0;let⟨H2,d,g2,h2⟩:=Y8 n1 (.lst []);rw[d];let g:=(l.look F a0).same g2;let⟨i,m⟩:=g.tab;refine⟨F1,p1,[],Z,Z,ZG.of (g2 _ _ J),ZG.of h2,_,Z,Zm ?_⟩;refine⟨_,Z,T,i,_,Z,m,Z,.mk g.tab g.tb ⟨Z,_,Z,Zm ?_⟩⟩;let k5:ZD H2 (.int 5) (.int 5):=by rw[ZD]
 let hk:Qe (λ_=>True) H2 (some (.int 5)) (.int 5):=⟨k5,by decide +kernel⟩
 refine⟨_,Z,T,i,_,Z,m,Z,.mk g.tab g.tb (zE _) ∅ g.oT hk (λy=>nomatch y) λk' ek H3 X3 a8 ys r3 F3 eS a4 Y t3 v C f3 c8 c1 c3 L c5 FT ky=>⟨YS,λp3 n3=>?_⟩⟩
 cases ek;let y0:ys=[]:=by cases ky;rfl
 subst y0;let⟨H4,d,G,h4⟩:=Y8 n3 (.lst []);rw[d];let t4:=t3.same G;let e3:=t4.nil C;subst e3;let⟨j,N⟩:=v;let n:=G _ _ N;refine⟨F3,p3,[],Z,Z,ZG.of (G _ _ L),ZG.of h4,_,Z,Zm ?_⟩;let ka:ZD H4 (.str "a") (.str "a"):=by rw[ZD]
 let S:ZD H4 (.int 5) (.int 5):=by rw[ZD]
 refine⟨_,Z,T,j,_,Z,n,Z,.mk ⟨j,n⟩ t4 ∅ ∅ ∅ Y S (by decide +kernel) ka (by decide +kernel) λH5 X5 a9 r5 a2 a5 c6 t5 b k f5=>⟨Z,_,Z,Z7 ?_⟩⟩
 let⟨B,O⟩:=id b;refine⟨_,Z,T,B,_,Z,O,Z,.mk b t5 (by rw[k];exact yX Z) ∅ λH6 F6 a1 c0 a6 c7 f6 c4 M u=>⟨YS,λq1 m1=>?_⟩⟩
 rw[k] at u;let⟨H7,d,g7,h7⟩:=Y8 m1 (.tup [.int 5,.str "a"]);rw[d];exists YS;intro q2 m2;let⟨H8,d,I,h8⟩:=Y8 m2 (.lst [.ref q1]);rw[d];refine⟨F6,q2,a1,[.ref q1],YI [(.int 5,.str "a")],YI [(.int 5,.str "a")],Z,I _ _ (g7 _ _ M),h8,u.sm (g7.trans I),.cons (.tup (I _ _ h7) (.cons (by rw[ZD]) (.cons (by rw[ZD]) .nil))) .nil,λt ht=>?_,yX Z,λH9 s9=>?_⟩
 ·rw[zK.mp ht];decide +kernel
 rw[eqbL_self];exact q H9
inductive Fm(jN jO CTb:ai)(w:ar)(T D kn lk l:ai)(ks:jl)(kv us:je)(ts:jl)(n0:Nat):Nat->L2.St->Hp->Prop
 |mk{i:Nat}{x2:jf}{X:Zd}{ls:je}{r:jp}{rs:jm}{xs:List (KT×V×V)}{H:Hp}:Lw jN jO CTb w H T D kn X lk ls r rs xs us ts->H l=some (.lst kv)->jI H ks kv->Z2 X lk l->(∀ x∈rs,x.1∈ks.drop i)->rs.length<=140->X.ts.length<=700->X.lv.length<=700->ls.length<=n0+100 * i->Fm jN jO CTb w T D kn lk l ks kv us ts n0 i [some (.ref T),some (.ref D),x2] H
inductive YM(jN jO CTb:ai)(w:ar):Sp
 |mk{T D d:ai}{X:Zd}{e:ai}{a:je}{r:jp}{b:jm}{i:List (KT×V×V)}{h:je}{g:jl}{H:Hp}{Q:VK}{E:XK}:Lw jN jO CTb w H T D d X e a r b i h g->b.length<=140->X.ts.length<=700->X.lv.length<=700->a.length<=300000->(∀ c,Q (.bl true) c)->YM jN jO CTb w [.ref T,.ref D] H Q E
theorem ZHl(F:Zi K "_law_emptied" "_law_emptied" NW f fd)(Y:YL mg)(LT:UW K mg CTb)(N:ZA P w K mg jQ 39 "_law_take" zEi (Yf jN jO CTb w))(DU:ZB P w K mg jQ (Yd P w) 37 CTb "take" zEk (Yh jN jO CTb CK))(DP:ZB P w K mg jQ (Yd P w) 15 CTb "put" zFc (Xi jN jO CTb))(DC:ZB P w K mg jQ ZM 4 CTb "count" zEq (YZ jN jO CTb))(O:ZB P w K mg jQ ZM 27 CTb "rows" zEq (YU jN jO CTb))(DR:ZA P w K mg jQ 8 "_law_rows_alike" zEc YB):ZI P w K mg jQ ZM 40 f fd zEr (YM jN jO CTb w):=by
 refine F.ok OV (λvs H Q E h=>(by cases h;rfl)) (λR A d s H vs Q E hr h=>?_)
 let⟨l,G,t7,v7,a3,q⟩:=h;rename_i T D kn X lk ls r rs g us ts
 let nd:=OV.nd;let⟨tt,M,hk⟩:=ZMs (jN:=jN) (jO:=jO) (P:=P) (w:=w) (K:=K) (jQ:=jQ) (f:=f) (cdv:=R) (A:=A) (outer:=d) (s:=s) (Hs:=H) (E:=E) Y LT DU DP DC O DR hr;intro Xc;refine⟨_,ZL (Vk PassesOwn.never rfl (WD (Ug (ZHo rfl) rfl Y.list OL (ZT (pv 1)))) (Vo 2 nd)
   (ZR (Z1 (Vl (Y5 (Zc N hr (Vm (pv 0) (pv 1) (pv 2))))) Wq Z5))) M,?_⟩
 let lx:=Paired.length l.dic.rows;exists _,Z,D,g,Z,l.dic.dk,by lia
 intro C n1;let⟨H1,eU,g1,h1⟩:=Y8 n1 (.lst (g.map (·.2.1)));rw[eU];let l1:=l.same g1;let kf:∀ t∈g.map (·.1),t.fits 3=true:=λt M=>by
  rw[l.dic.keys] at M;let⟨x,a,rfl⟩:=zP.mp M;exact(l.rf x a).1
 let lv:(g.map (·.2.1)).length=rs.length:=by rw[zX];exact lx.symm
 refine⟨C,Z,⟨_,ZG.of h1⟩,Qm (K:=K) (xs:=g.map (·.2.1)) (Fm jN jO CTb w T D kn lk C (g.map (·.1)) (g.map (·.2.1)) us ts ls.length) (.mk l1 h1 (GA λx a=>((l.dic.dk.key x a).1).mono (ZE.tups g1)) (l.tb.sh.new n1) (λx a=>by rw[List.drop_zero,l.dic.keys];exact zP.mpr ⟨x,a,Z⟩) G t7 v7 ∅) ?_ ?_ ?_⟩
 ·rintro i _ L _ ⟨_,j,_⟩;exact ZG.of j
 ·rintro i u _ L hu ⟨m,j,W,o5,S,r5,t5,v5,f5⟩;rename_i x2 X5 B I c J
  let⟨k,ek,kk⟩:=W.get hu;let fk:=kf k (zL ek);let iu:=(zB.mp hu).1;let⟨a0,p⟩:=m.tab;let⟨a2,o,_⟩:=m.dic.dk.ex;let pT:C≠T:=ZW j p;let pD:C≠D:=ZW j o (by unfold UY;intro z;cases z)
  refine⟨_,Z,_,Z,_,Z,.mk m kk fk r5 ∅ λH6 X6 a4 r6 a7 l6 a1 a6 a5 f6 n=>?_⟩
  let⟨h6,o6⟩:=n C _ pT pD o5 j;let m6:Z6 L H6:=λb ys e=>(n b _ (ZW e p) (ZW e o (by unfold UY;intro z;cases z)) (m.tb.sh.off e (by intro _ _ _ z;cases z) (by intro _ z;cases z) (by intro _ z;cases z)) e).1
  let wl:(XA k c).length<=c.length:=vV _ _;refine⟨_,Z,Zm (.mk l6 h6 (W.mono m6 _ _) o6 (λx a=>?_) ∅ ∅ ∅ ∅)⟩
  let⟨V,v⟩:=yN.mp a;have:=S x V;let⟨ik,U⟩:=zB.mp ek;rw[wZ ik,U] at this;rcases zU.mp this with y | y
  ·rw[y,QF] at v;cases v
  ·exact y
 ·rintro _ L ⟨m,j,W,o5,S,r5,t5,v5,f5⟩;rename_i x2 X5 B I c J
  let e0:c=[]:=qT.mpr λx a=>by
   have:=S x a;rw[sP (by rw[zX,zX];exact zY _)] at this
   cases this
  subst e0;exact hk _ L T D kn X5 lk B I J us ts _ m t5 v5 ∅ q
end
theorem Do{K:zZ}{H c:Hp}{a:ai}{d:je}(m:∀ b o,H b=some o->c b=some o)(h:ZG K H a d):ZG K c a d:=by
 rcases h with (h | ⟨o,h⟩) | h
 ·exact .inl (.inl (m _ _ h))
 ·exact .inl (.inr ⟨o,m _ _ h⟩)
 ·exact .inr h
theorem ZJn{a:jm}(h:∀ x∈a,x.fit):∀ t∈YI a,t.wide 4=true:=λt b=>by
 let⟨x,c,rfl⟩:=zP.mp b;have:=h x c;show (KT.tup [x.1,x.2]).wide 4=true;rw[KT.wide,wideL,wideL,wideL,LE _ _ this.1,LE _ _ this.2];rfl
theorem FB:(Nf "a" 41).length=41:=by decide +kernel
theorem ZKy{H:Hp}{a:jl}{b:je}{v:V}(h:jI H a b)(m:v∈b):∃ t∈a,ZD H t v:=by
 let⟨i,c⟩:=wF m;let⟨t,e,k⟩:=h.get c;exact⟨t,zL e,k⟩
section
variable{jN jO CTb CK:ai}
theorem ZLL{p:ai}{g:je}{rs:jm}{C:L2.St}{y:jj}{H:Hp}{B:TE}{Q:VK}(N:rs.length<=900)(t:H p=some (.lst g))(A:jI H (YI rs) g)(o:∀ (c:Hp) (a:ai) (l u:V) (R:VK),ZE H c->c a=some (.tup [l,u])->R l c->B (Qw C y (.ref a)) c R)(r:∀ (D:ai) (b:je) (c:Hp),ZE H c->H D=none->c D=some (.lst b)->jI c (rs.map (·.1)) b->Q (.ref D) c):WH (Pj K p) C y Li B H Q:=by
 let O:g.length=rs.length:=by have:=A.length;rw[<-this];exact zX _
 refine Ud (n:=g.length) (λi z=>g[i]? = some z) (λD n b d=>ZE H d/\H D=none/\jI H ((rs.take n).map (·.1)) b) (XX ∅)
  (λD n b d s e=>⟨g,g[n],ZG.of (e.1 _ _ t),by simp[s]⟩) (λD n b d z J s e x=>⟨x.1,x.2 g (ZG.of (e.1 _ _ t))⟩) (λD b d e=>⟨g,ZG.of (e.1 _ _ t),zY _⟩)
  (λD v=>⟨Zv v _,v,.nil⟩) (λD n b d z m M s I e R G=>?_) (λD b d m e=>?_)
 ·let⟨h,k,j⟩:=e;let⟨a,l,u,q,rfl,F,E,L⟩:=P6 A I;refine o d a l u R h (h _ _ F) (G _ d m ⟨Uq h k,k,?_⟩);rw[yR,q,Option.toList_some,zF];exact j.append (.cons E .nil)
 ·let⟨h,k,j⟩:=e;rw[yV ∅] at j
  exact r D b d h k m (j.sm h)
abbrev Lo:jn:=["_law_script","_law_well_here","_law_model","_law_shelf","_law_table","_law_known","_law_first","_law_k","_law_spot"]
theorem UG:ZC Lo zFr (ZY Vr):=Zp
inductive Ee(jN jO CTb:ai)(w:ar)(z S T D kn:ai)(X:Zd)(lk:ai)(r:jp)(rs:jm)(xs:List (KT×V×V))(us:je)(ts:jl)(x1 x6 x7:jf):Nat->L2.St->Hp->Prop
 |mk{n:Nat}{x8:jf}{ls:je}{H:Hp}:Lw jN jO CTb w H T D kn X lk ls r rs xs us ts->ls.length<=7000+8 * n ->
  Ee jN jO CTb w z S T D kn X lk r rs xs us ts x1 x6 x7 n [some (.ref z),x1,some (.ref D),some (.ref S),some (.ref T),some (.ref kn),x6,x7,x8] H
theorem ZMz{cdv:ah}{A:aw}{outer:jt}{s:aj}{Hs:Hp}{E:XK}(T0:YL mg)(LT:UW K mg CTb)(DS:ZB P w K mg jQ (Yd P w) 12 CTb "side" zEk (YE jN jO CTb CK))(Y:ZB P w K mg jQ ZM 27 CTb "rows" zEq (YU jN jO CTb))(DR:ZA P w K mg jQ 8 "_law_rows_alike" zEc YB)(DO:ZA P w K mg jQ 9 "_law_sorted" zE9 (Ya w))(W:ZA P w K mg jQ 40 "_law_emptied" zEr (YM jN jO CTb w))(h:ZU 40 (A.deeper (envOfC "law" (ZY Vr) s.heap.objs.size f cdv))):
  ∃ t,XV (Xy ZM P w K mg jQ Lo "law" (ZY Vr) f cdv A outer s Hs E).nox ((Xg Vr).drop 8) t/\∀(U:YH)(H:Hp)(z S T D J:ai)(X:Zd)(lk:ai)(ls:je)(r:jp)(Q:jm)(M:List (KT×V×V))(j:je)(ts:jl)(x1 x6 x7 R:jf),
   Lw jN jO CTb w H T D J X lk ls r Q M j ts->Q.length<=61->j.length<=140->X.ts.length<=700->X.lv.length<=700->ls.length<=6600->(∀ H',U.rt (.bl true) H')->t U [some (.ref z),x1,some (.ref D),some (.ref S),some (.ref T),some (.ref J),x6,x7,R] H:=by
 let nd:=UG.nd;let C:=h.mono (show 8<=40 by lia)
 let a5:=h.mono (show 9<=40 by lia)
 let v:=h.mono (show 12<=40 by lia)
 let B:=h.mono (show 27<=40 by lia)
 let F:=ZU.key h (n:=5) (by decide)
 refine⟨_,ZL (Z1 (Vl (Y5 (Zc DR C (Zq (MG (E:=E0) (pv 4) LT.cT Y B Z3) (Zc DO a5 (ZT (pv 2))))))) Wq Z5)
  (ZL (Vk PassesOwn.never rfl (WD (pv 5)) (Vo 8 nd)
   (ZR (Z1 (Vl (Y5 (Zc DR C (Zq (Z0 (E:=E0) (pv 4) LT.cT DS v Oa (ZT (pv 8))) (MO (YX (Gb F) (pv 8) (pv 2) rfl) (Yr (ZT (DY F (pv 2) (pv 8) (λ_ _=>rfl)))) (Yr Zn)))))) Wq Z5)))
  (ZR (Zh (Zc W h (Zq (pv 4) (pv 2)))))),
  λU H z S T D J X lk ls r Q M j ts x1 x6 x7 R l c3 c4 t7 v7 c5 a1=>?_⟩
 let lr:=l.len;let⟨dx,hT⟩:=l.tab;refine⟨_,Z,T,dx,_,Z,hT,Z,.mk ⟨dx,hT⟩ l.tb ∅ ∅ λH1 Fo ws c6 a2 c1 f1 c8 a3 a7=>?_⟩
 let l1:=l.look a2 c1;refine⟨_,Z,.mk l1.dic l1.rf ∅ λso vs g H2 s2 e0 a6 a8 U2 G=>?_⟩
 let l2:=l1.same s2;let er:g=Yi X.ts r:=JH U2 (LQ l.tb) λx=>(G x).trans (l.iff x).symm;let c0:∀ x∈g,x.fit:=λx hx=>l.rf x ((G x).mp hx);exists Fo,so,ws,vs,YI (Yi X.ts r),YI g,Z,s2 _ _ a3,a6,a7.sm s2,a8,ZJn c0,by rw[er];unfold YI;rw[zX];lia
 intro H3 s3;rw[er,eqbL_self];refine⟨_,Z,Zm ?_⟩;let l3:=l2.same s3;refine⟨_,Z,J,Z,⟨j,ZG.of l3.hk⟩,Qm (K:=K) (xs:=j) (Ee jN jO CTb w z S T D J X lk r Q M j ts x1 x6 x7) (.mk l3 ∅) ?_ ?_ ?_⟩
 ·rintro i _ N _ ⟨a,_⟩;exact ZG.of a.hk
 ·rintro i u _ N hu ⟨a,f5⟩;rename_i R a9
  let⟨k,ek,kk⟩:=a.ks.get hu;let fk:=a.kf k (zL ek);let kd:=UL _ 3 fk;let iu:=(zB.mp hu).1;let a4:Qe (λ_=>True) N (some k) u:=⟨kk,fk⟩;let⟨m,q⟩:=a.tab;refine⟨_,Z,T,m,_,Z,q,Z,_,Z,.mk ⟨m,q⟩ a.tb ∅ ∅ a4 (λy=>nomatch y) λk' a0 H6 S6 y6 c7 o c2 f6 c9 p c=>?_⟩
  cases a0;let L:=a.look o c2;let m6:Z6 N H6:=λb ys e=>o b _ (ZW e a.tb.sh.sh.looks) e;let I:=kk.mono m6 _ _;exists _,Z,_,Z,D,M,k,Z,L.dic.dk,I,kd;rcases L.at_ k with ⟨v0,u0,O,k0,f0,m0,sd⟩ | ⟨O,sd,n0⟩
  ·rw[O];rw[sd] at c;refine⟨_,Z,Z7 ⟨_,Z,_,Z,D,M,k,u0,Z,L.dic.dk,I,kd,O,YS,λp1 n1=>?_⟩⟩;let⟨H7,eU,d,h7⟩:=Y8 n1 (.lst [u0]);rw[eU];exists S6,p1,y6,[u0],[v0],[v0],Z,d _ _ p,h7,c.sm d,.cons (k0.sm d) .nil,λt ht=>by rw[zK.mp ht];exact CU f0,by show 1<=400;lia
   intro H8 s8;rw[eqbL_self];exact⟨_,Z,Zm (.mk (L.same (d.trans s8)) ∅)⟩
  ·rw[O];rw[sd] at c;refine⟨_,Z,Zm ⟨YS,λp1 n1=>?_⟩⟩;let⟨H7,eU,d,h7⟩:=Y8 n1 (.lst []);rw[eU];exists S6,p1,y6,[],[],[],Z,d _ _ p,h7,c.sm d,.nil,λt ht=>(by cases ht),by show 0<=400;lia
   intro H8 s8;exact⟨_,Z,Zm (.mk (L.same (d.trans s8)) ∅)⟩
 ·rintro _ N ⟨a,f5⟩;rename_i R a9
  exact⟨_,Z,_,Z,.mk a ∅ t7 v7 ∅ a1⟩
inductive ML(jN jO CTb:ai)(w:ar)(H0:Hp)(z S T D kn:ai)(fi:Int):Nat->L2.St->Hp->Prop
 |mk{n:Nat}{x1 x7 x8:jf}{X:Zd}{lk:ai}{ls:je}{r:jp}{rs:jm}{xs:List (KT×V×V)}{us:je}{ts:jl}{H:Hp}:Lw jN jO CTb w H T D kn X lk ls r rs xs us ts->X.S=S->(∀ c o,H0 c=some o->H c=some o/\Z2 X lk c)->rs.length<=61->us.length<=61+n->X.ts.length<=130->X.lv.length<=130->ls.length<=100 * n ->
  ML jN jO CTb w H0 z S T D kn fi n [some (.ref z),x1,some (.ref D),some (.ref S),some (.ref T),some (.ref kn),some (.int fi),x7,x8] H
theorem ZNy{cdv:ah}{A:aw}{outer:jt}{s:aj}{Hs:Hp}{E:XK}(Y:YL mg)(LT:UW K mg CTb)(DW:ZA P w K mg jQ 1 "_law_well" zEx (Wf K))(a9:ZA P w K mg jQ 1 "_law_pull" zEb Zy)(DK:ZA P w K mg jQ 7 "_law_any_key" zEo XB)(a8:ZA P w K mg jQ 39 "_law_take" zEi (Yf jN jO CTb w))(DS:ZB P w K mg jQ (Yd P w) 12 CTb "side" zEk (YE jN jO CTb CK))(c0:ZB P w K mg jQ ZM 27 CTb "rows" zEq (YU jN jO CTb))(DR:ZA P w K mg jQ 8 "_law_rows_alike" zEc YB)(DO:ZA P w K mg jQ 9 "_law_sorted" zE9 (Ya w))(a7:ZA P w K mg jQ 40 "_law_emptied" zEr (YM jN jO CTb w))(hr:ZU 40 (A.deeper (envOfC "law" (ZY Vr) s.heap.objs.size f cdv))):
  ∃ t,XV (Xy ZM P w K mg jQ Lo "law" (ZY Vr) f cdv A outer s Hs E).nox ((Xg Vr).drop 7) t/\∀(D0:YH)(H H5:Hp)(z T D m:ai)(G:jA)(X:Zd)(lk:ai)(r:jp)(rs:jm)(xs:List (KT×V×V))(q:je)(ts:jl)(B:Int)(x1 x7 x8:jf),
   ZG K H z (G.map V.int)->G.length<=63->(∀ c o,H c=some o->H5 c=some o/\Z2 X lk c)->H T=none->H D=none->H m=none->Lw jN jO CTb w H5 T D m X lk [] r rs xs q ts->rs.length<=61->q.length<=61->X.ts.length<=130->X.lv.length<=130->0<=B->(∀ x,D0.rt (.bl true) x) ->
   t D0 [some (.ref z),x1,some (.ref D),some (.ref X.S),some (.ref T),some (.ref m),some (.int B),x7,x8] H5:=by
 let nd:=UG.nd;let a2:=hr.mono (show 1<=40 by lia)
 let e2:=hr.mono (show 7<=40 by lia)
 let a3:=hr.mono (show 39<=40 by lia)
 let⟨tt,ht,hk⟩:=ZMz (jN:=jN) (jO:=jO) (P:=P) (w:=w) (K:=K) (jQ:=jQ) (f:=f) (cdv:=cdv) (A:=A) (outer:=outer) (s:=s) (Hs:=Hs) (E:=E) Y LT DS c0 DR DO a7 hr;refine⟨_,ZL (Vk PassesOwn.never rfl (JK rfl Y.range (Zq ZK (YC (IU rfl) rfl Y.max KI (Zq ZK (YC (FR rfl) rfl Y.min Ev (Zq (YC Xm rfl Y.len Xa (ZT (pv 0))) ZK)))))) (Vo 7 nd)
   (ZL (Zj 1 nd (Zc DW a2 (Zq (pv 0) (pv 7))))
   (ZL (Zj 8 nd (Z8 K (Zx JQ (pv 5) (Yr (ZT ZK))) (Zx P4 (Zx VA (pv 6) (pv 7)) (Zx VA (YC Xm rfl Y.len Xa (ZT (pv 5))) ZK))))
   (ZL (Z1 (YX Vp (Zc a9 a2 (Zq (pv 1) ZK)) ZK (YG _)) (ZR (Zj 8 nd (Zc DK e2 (Zq (pv 1) (pv 5))))) Z5)
   (ZR (Z1 (Vl (Y5 (Zc a8 a3 (Vm (pv 4) (pv 2) (pv 8))))) Wq Z5)))))) ht,
  λD0 H H5 z T D m G J lk r5 rs xs m2 m0 B x1 x7 x8 a1 hn N i0 e9 i1 L0 i2 m1 i4 i8 l2 c7=>?_⟩
 obtain⟨M,eM,M3,l1⟩:∃ M:Int,(if (if (63:Int)<((G.map V.int).length:Int) then (63:Int) else ((G.map V.int).length:Int)) > 4 then (if (63:Int)<((G.map V.int).length:Int) then (63:Int) else ((G.map V.int).length:Int)) else 4)=M/\4<=M/\M<=63:=by
  exists _,Z,?_
  ·(repeat' split) <;> lia
  ·(repeat' split) <;> lia
 let i3:=Do (K:=K) (λb o e=>(N b o e).1) a1;exists _,Z,z,G.map V.int,Z,.inl i3,_,_,Z,_,_,Z,1,M,congrArg (λz=>[V.int 1,V.int z]) eM,⟨∅,∅,∅,∅⟩
 clear eM;refine MX (lo:=1) (n:=(M-1).toNat) (ML jN jO CTb w H z J.S T D m B) (.mk L0 rfl N i2 ∅ i4 i8 (by simp)) ?_ ?_
 ·intro i σ H3 hi hP;let⟨l,eS,C,c1,c2,c3,c5,c4⟩:=hP;rename_i y1 y7 y8 X R ls r F W q ts
  exists _,Z,_,Z,z,G,_,Z,Do (λb o e=>(C b o e).1) a1,hn,∅,by lia
  intro p H4 np s4 W4;let l4:=l.same s4;let op:=l.tb.sh.new np;let kp:m≠p:=Zg l.hk np;let a4:H p=none:=by
   cases e:H p with
   | none=>rfl
   | some o=>rw[(C _ _ e).1] at np;cases np
  exists _,Z,YS;intro q1 n1;let⟨l0,eU,g5,e5⟩:=Y8 n1 (.lst [.int 0]);rw[eU];exists m,q1,_,_,Z,Z,g5 _ _ l4.hk,e5,nn (by simp;lia)
  intro q2 n2;let⟨H6,eU,g6,e6⟩:=Y8 n2 (.lst (q++[.int 0]));rw[eU];let s6:=g5.trans g6;let l6:=l4.same s6;let W6:=W4.same s6;let L:∀{Q:VK}{E:XK}(I:Hp)(vk:V)(k:KT)(U:je)(a6:jl),Lw jN jO CTb w I T D m X R ls r F W U a6->U.length<=q.length+1->ZD I k vk->k.fits 3=true->(∀ c o,H c=some o->I c=some o)->(∀ x x1 x7 x8,ML jN jO CTb w H z J.S T D m B (i+1) [some (.ref z),x1,some (.ref D),some (.ref J.S),some (.ref T),some (.ref m),some (.int B),x7,x8] x->Q (.bl true) x)->Yf jN jO CTb w [.ref T,.ref D,vk] I Q E:=λI vk k U a6 O u7 e4 c8 u q7=>.mk O e4 c8 ∅ ∅ λx X' l3 r' i9 l' c6 l9 l5 f' e0=>by
   let wl:(XA k F).length<=F.length:=vV _ _;exact q7 x none none none (.mk l' (c6.trans eS) (λc o y=>e0 c o (Zg y i0) (Zg y e9) (C c o y).2 (u c o y)) ∅ ∅ ∅ ∅ ∅)
  let a5:∀{x}{x1 x7 x8 y1 y7 y8:jf},ML jN jO CTb w H z J.S T D m B (i+1) [some (.ref z),x1,some (.ref D),some (.ref J.S),some (.ref T),some (.ref m),some (.int B),x7,x8] x->ML jN jO CTb w H z J.S T D m B (i+1) [some (.ref z),y1,some (.ref D),some (.ref J.S),some (.ref T),some (.ref m),some (.int B),y7,y8] x:=λh=>by
   cases h with
   | mk a b c d e f g h=>exact .mk a b c d e f g h
  exists _,Z,_,Z,_,_,Z,Z,_,Z,m,q,Z,.inl (ZG.of l6.hk),_,_,Z,Z,_,_,Z,Z,?_
  ·show (0:Int)<((q.length:Nat):Int)+1
   lia
  let ul:((q++[V.int 0]).length:Int)=((q.length:Nat):Int)+1:=by simp
  let⟨v,av,mv⟩:=NA (xs:=q++[V.int 0]) (i:=(B+(1+(i:Int))) % (((q.length:Nat):Int)+1)) (wB _ ∅) (by rw[ul];exact vY _ ∅)
  obtain⟨k,kk,fk⟩:∃ k,ZD H6 k v/\k.fits 3=true:=by
   rcases zD.mp mv with y | y
   ·let⟨t,ht,kt⟩:=ZKy l6.ks y;exact⟨t,kt,l6.kf t ht⟩
   ·rw[zK.mp y];exact⟨.int 0,by rw[ZD],by decide +kernel⟩
  refine .inl ⟨q2,_,_,v,Z,Z,ZG.of e6,av,?_⟩;refine⟨_,Z,p,2,Z,W6,Wv (by decide) (by decide),λj I j0 j1 W7 s7=>⟨Z,_,Z,?_⟩⟩
  let O:=l6.pull W6 op kp s7;let u:∀ c o,H c=some o->I c=some o:=λc o y=>s7 _ _ (s6 _ _ (s4 _ _ (C c o y).1)) (Zg y a4);by_cases zj:j=1
  ·rw[zj];refine Z7 ⟨_,Z,_,Z,p,m,q,ts,Z,W7,O.hk,O.ks,O.kf,kp,∅,λvk k8 i7 i5 H8 e7 c9 e1 e8 e3 i6 W8 a0=>?_⟩
   let l8:=O.step (MI W7) op a0 e1 e8 e3;exact⟨_,Z,_,Z,_,Z,L H8 vk k8 i7 i5 l8 i6 e7 c9 (λc o y=>a0 c o (Zg y a4) (Zg y i1) (u c o y)) λx _ _ _ h=>⟨_,Z,Zm (a5 h)⟩⟩
  ·rw[aH (λy=>zj (V.int.inj y))];exact Zm ⟨_,Z,_,Z,_,Z,L I v k q ts O ∅ (kk.mono (s7.tupsW W6) _ _) fk u λx _ _ _ h=>⟨_,Z,Zm (a5 h)⟩⟩
 ·intro σ H3 hP;let⟨l,eS,C,c1,c2,c3,c5,c4⟩:=hP;rename_i y1 y7 y8 X R ls r F W q ts
  exact hk D0 H3 z J.S T D m X R ls r F W q ts _ _ _ _ l ∅ ∅ ∅ ∅ ∅ c7
theorem ZOr{cdv:ah}{A:aw}{outer:jt}{s:aj}{Hs:Hp}{E:XK}(T0:YL mg)(LT:UW K mg CTb)(DW:ZA P w K mg jQ 1 "_law_well" zEx (Wf K))(C:ZA P w K mg jQ 1 "_law_pull" zEb Zy)(DK:ZA P w K mg jQ 7 "_law_any_key" zEo XB)(a5:ZA P w K mg jQ 38 "_law_refused" zE2 (Ys jN jO CTb))(a4:ZA P w K mg jQ 39 "_law_take" zEi (Yf jN jO CTb w))(DS:ZB P w K mg jQ (Yd P w) 12 CTb "side" zEk (YE jN jO CTb CK))(a6:ZB P w K mg jQ ZM 27 CTb "rows" zEq (YU jN jO CTb))(DR:ZA P w K mg jQ 8 "_law_rows_alike" zEc YB)(DO:ZA P w K mg jQ 9 "_law_sorted" zE9 (Ya w))(a3:ZA P w K mg jQ 40 "_law_emptied" zEr (YM jN jO CTb w))(hr:ZU 40 (A.deeper (envOfC "law" (ZY Vr) s.heap.objs.size f cdv))):
  ∃ t,XV (Xy ZM P w K mg jQ Lo "law" (ZY Vr) f cdv A outer s Hs E).nox ((Xg Vr).drop 4) t/\∀(D0:YH)(H n:Hp)(z p T D:ai)(ns:jA)(X:Zd)(B:ai)(r:jp)(m:jm)(xs:List (KT×V×V))(x5 x6 x7 x8:jf),
   ZG K H z (ns.map V.int)->ns.length<=63->(∀ c o,H c=some o->n c=some o/\Z2 X B c)->H T=none->H D=none->H p=none->ZO n p->Z2 X B p->T≠p->Yg CTb n T X.S r->Tf jN jO n X B [] r->YN w n D m xs->(∀ x∈m,x.fit)->(∀ x,x∈Yi X.ts r ↔ x∈m)->Z2 X B T->Z2 X B D->m.length<=61->X.ts.length<=130->X.lv.length<=130->(∀ H',D0.rt (.bl true) H') ->
   t D0 [some (.ref z),some (.ref p),some (.ref D),some (.ref X.S),some (.ref T),x5,x6,x7,x8] n:=by
 let nd:=UG.nd;let L:=hr.mono (show 1<=40 by lia)
 let c1:=hr.mono (show 9<=40 by lia)
 let O:=hr.mono (show 38<=40 by lia)
 let⟨tt,ht,hk⟩:=ZNy (jN:=jN) (jO:=jO) (P:=P) (w:=w) (K:=K) (jQ:=jQ) (f:=f) (cdv:=cdv) (A:=A) (outer:=outer) (s:=s) (Hs:=Hs) (E:=E) T0 LT DW C DK a4 DS a6 DR DO a3 hr;refine⟨_,ZL (LF (i:=5) [] [] nd rfl rfl rfl (WD (Zc DO c1 (ZT (pv 2)))) (λ_ _ _ _ _=>U0) (λ_ _ _ _ _=>Xe K (pv 0) ZK) trivial)
  (ZL (Zj 6 nd (Zc C L (Zq (pv 1) ZK)))
  (ZL (Z1 (Vl (Y5 (Zc a5 O (Zq (pv 4) (Z8 K (Yr (QI Pl Pv (Zx ME ZK ZK) (VC (ZT (Zx ZH0 Ue ZK))))) (Zc C L (Zq (pv 1) ZK))))))) Wq Z5) ht)),
  λD0 H n z p T D ns X B r m xs x5 x6 x7 x8 a9 hn g c5 c4 a0 W op e1 c9 tb dr rf Q oT oD c7 c8 e0 a8=>?_⟩
 refine⟨_,Z,.mk dr rf ∅ λl us d H6 s6 nl hl ks U2 F=>?_⟩
 let er:d=Yi X.ts r:=JH U2 (LQ tb) λx=>(F x).trans (Q x).symm;let lr:d.length=m.length:=by
  let n1:d.Nodup:=xL.imp (λh=>λe=>by rw[e] at h;rw[V9] at h;cases h) (tI.mp U2)
  let n2:m.Nodup:=xL.of_map (·.1) (λa b h e=>h (by rw[e])) dr.nd
  exact List.Perm.length_eq ((sI n1 n2).mpr F)
 refine⟨l,Z,⟨us,ZG.of hl⟩,ZLL (rs:=d) ∅ hl ks (λH2 a vk vv R s2 ha hR=>⟨_,Z,a,_,_,vk,Z,Z,Zs.of ha,Z,hR⟩) λJ ys H7 s7 Y c0 ky=>?_⟩
 let k:=s6.trans s7;let⟨dx,hT⟩:=c9;let c2:∀ t∈d.map (·.1),t.fits 3=true:=λt ht=>by
  let⟨x,hx,e⟩:=zP.mp ht;rw[<-e];exact(rf x ((F x).mp hx)).1
 let l7:Lw jN jO CTb w H7 T D J X B [] r m xs ys (d.map (·.1)):=⟨⟨dx,k _ _ hT⟩,tb.same k,dr.same k,c0,ky,c2,rf,Q,oT,oD,(tb.same s6).sh.new Y⟩;let W7:=W.same k;let G:n J=none:=s6.free Y;let kp:J≠p:=NT W G;let c6:H J=none:=by
  cases q:H J with
  | none=>rfl
  | some o=>rw[(g _ _ q).1] at G;cases G
 let c3:ys.length<=61:=by have:=ky.length;rw[zX] at this;lia
 exists _,Z,p,60,Z,W7,Wv (by decide) (by decide)
 intro fi H8 f0 f1 W8 s8;let l8:=l7.pull W7 op kp s8;exists _,Z,_,_,Z,Z,⟨by decide,by decide,by decide⟩,_,_,Z,Z,by decide +kernel,by decide,by decide,YS
 intro a1 n1;let⟨H9,eU,g9,e9⟩:=Y8 n1 (.tup [.str (Nf "a" 41)]);rw[eU];exists YS;intro a2 n2;let⟨Ha,eU,ga,ea⟩:=Y8 n2 (.lst [.non,.bl true,.int ((10:Int) ^ (60:Int).toNat),.ref a1])
 first | rw[show upd H9 a2 (.lst [.non,.bl true,(λi j:Int=>V.int (i ^ j.toNat)) 10 60,.ref a1])=Ha from eU] | rw[eU]
 let I:=g9.trans ga;let la:=l8.same I;let Wa:=W8.same I;let ap:a2≠p:=NT (W8.same g9) n2;exists _,Z,p,4,Z,Wa,Wv (by decide) (by decide)
 intro j Hb j0 j1 Wb sb;let U:=la.pull Wa op kp sb;let⟨v,av,mv⟩:=NA (xs:=[V.non,.bl true,.int ((10:Int) ^ (60:Int).toNat),.ref a1]) j0 j1;let mb:=sb.tupsW Wa;let a7:=mb _ _ (ga _ _ e9);let e2:=U.len;refine .inl ⟨a2,_,_,v,Z,Z,ZG.of (sb _ _ ea ap),av,.mk (N:=λ_=>False) U.tab U.tb ∅ (by show 0<=366000;lia) U.oT ?_ λHc sc=>⟨_,Z,Zm ?_⟩⟩
 ·let u:(10:Int) ^ 60<=(10:Int) ^ (60:Int).toNat:=by decide +kernel
  clear av;generalize (10:Int) ^ (60:Int).toNat=M at mv u;simp only[zU,sG,or_false] at mv;rcases mv with rfl | rfl | rfl | rfl
  ·exact⟨.odd "NoneType",by rw[Zz];exact .inr (.inl ⟨rfl,rfl⟩),by rw[TG.neat];trivial,by rw[TG.fits]⟩
  ·exact⟨.odd "bool",by rw[Zz];exact .inl ⟨Z,true,Z⟩,by rw[TG.neat];trivial,by rw[TG.fits]⟩
  ·exists .int M,by rw[Zz],by rw[TG.neat];trivial
   rw[TG.fits];refine aH λz=>?_;let e:((10:Int) ^ 60)=((10 ^ 60:Nat):Int):=by decide +kernel
   rw[e] at u;generalize (10 ^ 60:Nat)=T at *
   lia
  ·exists .tup [.str (Nf "a" 41)],?_,?_
   ·rw[Zz];exact⟨a1,_,Z,a7,by simp[jM,Zz]⟩
   ·rw[TG.neat];exact⟨by decide,by rw[neatL,neatL,TG.neat,FB];exact⟨by decide,trivial⟩⟩
   ·rw[TG.fits,gfitsL,TG.fits];unfold Pg;rw[FB];rfl
 let lc:=U.same sc;refine hk D0 H Hc z T D J ns X B r m xs ys _ fi _ _ _ a9 hn (λc o y=>⟨sc _ _ (sb _ _ (I _ _ (s8 _ _ (k _ _ (g c o y).1) (Zg y a0))) (Zg y a0)),(g c o y).2⟩) c5 c4 c6 lc c7 c3 c8 e0 f0 a8
theorem ZPG(F:Zi K "law" "law" Vr f fd)(T0:YL mg)(L:YT K mg jN jO)(LT:UW K mg CTb)(DI:QW P w K mg jQ 1 jN zEq (Q6 jN))(DT:Jn P w K mg jQ 5 CTb zEz (Wm jN jO CTb))(DW:ZA P w K mg jQ 1 "_law_well" zEx (Wf K))(DG:ZA P w K mg jQ 10 "_law_ground" zE7 (Wc w))(DO:ZA P w K mg jQ 9 "_law_sorted" zE9 (Ya w))(DE:ZA P w K mg jQ 11 "_law_tree" zEs (Wh jN jO))(a4:ZA P w K mg jQ 1 "_law_pull" zEb Zy)(DK:ZA P w K mg jQ 7 "_law_any_key" zEo XB)(a5:ZA P w K mg jQ 38 "_law_refused" zE2 (Ys jN jO CTb))(a3:ZA P w K mg jQ 39 "_law_take" zEi (Yf jN jO CTb w))(DS:ZB P w K mg jQ (Yd P w) 12 CTb "side" zEk (YE jN jO CTb CK))(a6:ZB P w K mg jQ ZM 27 CTb "rows" zEq (YU jN jO CTb))(DR:ZA P w K mg jQ 8 "_law_rows_alike" zEc YB)(a2:ZA P w K mg jQ 40 "_law_emptied" zEr (YM jN jO CTb w)):ZI P w K mg jQ ZM 41 f fd zFr (U6 K):=by
 refine F.ko UG λa7 A J s H vs Q E C h=>?_;let⟨z,ns,rfl,U,hn,c5⟩:=h;let nd:=UG.nd;let e0:=C.mono (show 1<=40 by lia)
 let e1:=C.mono (show 2<=40 by lia)
 let e2:=C.mono (show 6<=40 by lia)
 let e3:=C.mono (show 9<=40 by lia)
 let V:=C.mono (show 10<=40 by lia)
 let W:=C.mono (show 11<=40 by lia)
 let⟨tt,ht,hk⟩:=ZOr (jN:=jN) (jO:=jO) (P:=P) (w:=w) (K:=K) (jQ:=jQ) (f:=f) (cdv:=a7) (A:=A) (outer:=J) (s:=s) (Hs:=H) (E:=E) T0 LT DW a4 DK a5 a3 DS a6 DR DO a2 C;intro Xc;refine⟨_,ZL (Zj 1 nd (Zc DW e0 (Zq (pv 0) ZK)))
  (ZL (Zj 2 nd (Zc DG V (Zq (pv 1) ZK)))
  (ZL (Zj 3 nd (BZ DI e1 rfl L.shelf))
  (ZL (Zj 4 nd (ZOO DT e2 rfl LT.tab (Zq (pv 3) (Zc DE W (Vm (pv 1) (pv 3) (Zc DO e3 (ZT (pv 2)))))))) ht))),?_⟩
 exists _,Z,z,ns,0,Z,U,hn,∅,by lia
 intro p H1 np s1 W1;exists _,Z,p,61,Z,W1,∅,by lia
 intro D rs xs M nD dr rf ri i4 W2 s2;intro S e nS ne z1;let i3:ZE M (upd (upd M e (.own S)) S (.ins jN e [])):=λb o q=>by
  rw[ZS (Zg q nS),ZS (Zg q ne)];exact q
 refine⟨S,e,Z,ZZ,λH3 d N c6 e5 Y i1 R3=>⟨Z,?_⟩⟩;let O:ZE M H3:=λb o q=>c6 b o (Zg q nS) (i3 b o q);let RP:Zl jN jO H3 S d N [] [] (λ_=>[]) (λ_=>0) [] [] []:=⟨R3,λi m=>(by cases m),Z,λi m=>(by cases m),Z,λi m=>(by cases m),λi m=>(by cases m),λi _ m=>(by cases m)⟩
 let a0:∀ c o,M c=some o->Z2 ⟨S,d,[],[],λ_=>[],λ_=>0,[],[]⟩ N c:=λc o q=>⟨Zg q nS,Zg q (i3.free e5),Zg q (i3.free Y),λi m=>(by cases m)⟩
 let W3:=W2.same O;let a8:=dr.same O;refine⟨_,Z,_,Z,_,Z,_,Z,.mk a8 rf ∅ λl i5 a1 H4 R nl hl kl U1 G=>?_⟩
 let lp:l≠p:=(Zg (show H3 p=some _ from (MI W3).choose_spec) nl).symm;let e9:a1.length<=61:=by
  let n1:a1.Nodup:=xL.imp (λh=>λe=>by rw[e] at h;rw[V9] at h;cases h) (tI.mp U1)
  let n2:rs.Nodup:=xL.of_map (·.1) (λa b h e=>h (by rw[e])) dr.nd
  have:=List.Perm.length_eq ((sI n1 n2).mpr G)
  lia
 obtain⟨g,j⟩:∃ X:Zd,X=⟨S,d,[],[],λ_=>[],λ_=>0,[],[]⟩:=⟨_,Z⟩;let RX:Zl jN jO H3 g.S g.d N g.lv g.ts g.av g.ho g.as g.kvs []:=by rw[j];exact RP
 let n:∀ c o,M c=some o->Z2 g N c:=by rw[j];exact a0
 let c0:g.S=S:=by rw[j]
 let c3:g.ts=[]:=by rw[j]
 let c4:g.lv=[]:=by rw[j]
 clear j a0 RP;subst c0;let B:=(MI W2).choose_spec;refine Wh.mk (X:=g) (W3.same R) (RX.same R) c3 c4 (n _ _ B) (RX.new nl) hl kl U1 (λx hx=>rf x ((G x).mp hx)) e9 lp λv X5 r5 W5 c1 t e8 k c2 i0 i7=>?_;let⟨es,y,_⟩:=dr.dk.ex;let Dp:D≠p:=ZW y B (by unfold UY;intro z;cases z)
 let⟨i2,e7⟩:=t D _ Dp (n _ _ y) (R _ _ (O _ _ y));let e4:Z6 M v:=λb ys e=>(t b _ (ZW e B) (n _ _ e) (R _ _ (O _ _ e))).1;let a9:YN w v D rs xs:=dr.to e4 λo e=>(t D _ Dp (n _ _ e) (R _ _ (O _ _ e))).1;let r:∀ c o,H c=some o->v c=some o/\Z2 X5 N c:=λc o q=>by
  let q2:=s2 _ _ (s1 _ _ q) (Zg q np);exact t c o (Zg q np) (n _ _ q2) (R _ _ (O _ _ q2))
 intro T dx I e6 zT;let i6:ZE v (upd (upd v dx (.own T)) T (.ins CTb dx [])):=λb o q=>by
  rw[ZS (Zg q I),ZS (Zg q e6)];exact q
 let⟨dS,c8⟩:=k.sh.sh.self;let TS:T≠X5.S:=(Zg c8 I).symm;rw[<-c1];refine Wm.mk (X:=X5) (dx:=dx) ZZ TS (k.sh.same i6) (λi e=>⟨(k.tp i e).1,by rw[(k.tp i e).2.2];exact zY _⟩) λH6 c7 c9=>⟨Z,?_⟩
 let u:ZE v H6:=λb o q=>c7 b o (Zg q I) (i6 b o q);refine hk _ H H6 z p T D ns X5 N r5 rs xs _ _ _ _ U hn (λc o e=>⟨u _ _ (r c o e).1,(r c o e).2⟩) ?_ ?_ np (W5.same u) e8 (Zg (show v p=some _ from (MI W5).choose_spec) I).symm c9 (k.same u) (a9.same u) rf (λx=>by rw[c2];exact G x) (k.sh.new I) e7 ∅ i0 ∅ c5
 ·cases q:H T with
  | none=>rfl
  | some o=>rw[(r _ _ q).1] at I;cases I
 ·cases q:H D with
  | none=>rfl
  | some o=>rw[s1 _ _ q] at nD;cases nD
end
end Tw
namespace L2
open PySem PySem.Spec
def xC(K:zZ)(C:ai):Bool:=
 (yY K (.ref C) "__getattribute__" == some (some (.builtin "BaseException.__getattribute__")))&&((yY K (.ref C) "__getattr__" == some none)&&((xY K C (.type "BaseException")==some true)&&((xY K C (.type "object")==some true) &&
 ((yY K (.ref C) "__class__" == some (some (.builtin "object.__class__")))&&((PySem.W.specialIn K (.builtin "object.__class__") "__get__" == some (some (.builtin "getset_descriptor.__get__")))&&(PySem.W.takesIn K (.builtin "object.__class__")==some true))))))
theorem ZQD{K:zZ}{C:ai}(h:xC K C=true):Va K C:=by
 unfold xC at h;simp only[zM,beq_iff_eq] at h;let⟨a,b,c,d,e,f,g⟩:=h;exact⟨a,b,c,d,e,f,g⟩
end L2
namespace Tw
open PySem PySem.Spec L2 PyProof.Rows
structure OX(K:zZ)(C:ai):Prop where
 ex:∃ f fd,yY K (.ref C) "__init__" = some (some (.ref f))/\wL K (.ref f)=true/\Ui K "__init__" "Table.__init__" O6 f fd
theorem N3{K:zZ}{C f b:ai}{m h e:ju}{p g:Array (jc)}{j kV i o a ct d:ah}{n:Nat}(v:yY K (.ref C) "__init__" = some (some (.ref f)))(l:K.lookup f=some ⟨j,m,.func (yD "__init__" "Table.__init__" (QA O6) (Xg O6) (ZY O6) (.ref b) kV i o h a ct),p⟩)(r:K.lookup b=some ⟨d,e,.seq #[.none] n,g⟩)(q:wL K (.ref f)=true)(c:wW K a "Table.__init__" = true)(k:yG K (.ref f)=true):OX K C:=
 ⟨f,_,v,q,⟨j,m,b,kV,i,o,h,a,ct,p,_,n,rfl,l,c,r,rfl⟩,k⟩
structure Zo(K:zZ)(C:ai)(m q:Str)(st:aB)(ps:jn):Prop where
 ex:∃ f fd,Qa K C m f/\Zi K m q st f fd/\Zt K fd ps []
theorem Zo.of{P:ak}{w:ar}{K:zZ}{g:jb}{a:aC}{e:Vb}{C:ai}{m q:Str}{j:aB}{d:jn}{k:Nat}{i:Sp}(L:Zo K C m q j d)(h:∀ f c,Zi K m q j f c->ZI P w K g a e k f c d i):ZB P w K g a e k C m d i:=by
 let⟨f,c,M,F,b⟩:=L.ex;exact⟨f,c,M,h f c F,b⟩
theorem Nz{K:zZ}{C f:ai}{m q:Str}{d:aB}{j:jn}{t e:ju}{u:Array (jc)}{s kV o i n ct:ah}(v:yY K (.ref C) m=some (some (.ref f)))(l:K.lookup f=some ⟨s,t,.func (yD m q (QA d) (Xg d) (ZY d) .none kV o i e n ct),u⟩)(p:wL K (.ref f)=true)(c:wW K n q=true)(k:yG K (.ref f)=true)(r:∀ (kV h i:ah) (e:ju) (g ct:ah) (a:jd),a.length=j.length->bindArgs (yD m q (QA d) (Xg d) (ZY d) .none kV h i e g ct) ⟨a,[]⟩=pure (j.zip a):=by first | exact(λ_ _ _ _ _ _ a b=>match a,b with | [_],_=>rfl) | exact(λ_ _ _ _ _ _ a b=>match a,b with | [_,_],_=>rfl) | exact(λ_ _ _ _ _ _ a b=>match a,b with | [_,_,_],_=>rfl) | exact(λ_ _ _ _ _ _ a b=>match a,b with | [_,_,_,_],_=>rfl) | exact(λ_ _ _ _ _ _ a b=>match a,b with | [_,_,_,_,_],_=>rfl)):Zo K C m q d j:=
 ⟨f,_,⟨v,p,k⟩,O4 (st:=d) l c k,(O4 (st:=d) l c k).binds r⟩
structure Qy(K:zZ)(C:ai)(q:Str)(st:aB)(ps:jn):Prop where
 ex:∃ f fd,yY K (.ref C) "__init__" = some (some (.ref f))/\wL K (.ref f)=true/\Zi K "__init__" q st f fd/\Zt K fd ps []
theorem MU{K:zZ}{C f:ai}{q:Str}{d:aB}{j:jn}{s e:ju}{t:Array (jc)}{r kV n i m ct:ah}(v:yY K (.ref C) "__init__" = some (some (.ref f)))(l:K.lookup f=some ⟨r,s,.func (yD "__init__" q (QA d) (Xg d) (ZY d) .none kV n i e m ct),t⟩)(o:wL K (.ref f)=true)(c:wW K m q=true)(k:yG K (.ref f)=true)(p:∀ (kV h i:ah) (e:ju) (g ct:ah) (a:jd),a.length=j.length->bindArgs (yD "__init__" q (QA d) (Xg d) (ZY d) .none kV h i e g ct) ⟨a,[]⟩=pure (j.zip a):=by first | exact(λ_ _ _ _ _ _ a b=>match a,b with | [_],_=>rfl) | exact(λ_ _ _ _ _ _ a b=>match a,b with | [_,_],_=>rfl) | exact(λ_ _ _ _ _ _ a b=>match a,b with | [_,_,_],_=>rfl) | exact(λ_ _ _ _ _ _ a b=>match a,b with | [_,_,_,_],_=>rfl) | exact(λ_ _ _ _ _ _ a b=>match a,b with | [_,_,_,_,_],_=>rfl)):Qy K C q d j:=
 ⟨f,_,v,o,O4 (st:=d) l c k,(O4 (st:=d) l c k).binds p⟩
theorem JR{l:rZ}{w:ar}{K:zZ}{h:aC}{mg:jb}{fa f57 CB CK jN jO CTb:ai}(X:K.In h)(G:h.Ns am mg)(hfa:mg "law" = some (.ref fa)){od57 an57:ju}{sl57:Array (jc)}{oc57 kV57 dc57 pm57 cd57 ct57:ah}{t1 t2 t3 t4 t5 t6 t7 t8 t9 t10 t11:Tok}(L1:ZX K mg "is_key" Kh zEu)(L2:ZX K mg "checked" M8 zEu)(L3:ZX K mg "fits" LK zFd)(L4:ZX K mg "has_few_figures" Io zFo)(L5:ZX K mg "is_sign" J8 ["sign"])(L6:ZX K mg "ahead" Lu zE4)(L7:ZX K mg "place_in" KC zFq)(L8:ZX K mg "standing" Mo zFl)(L9:ZX K mg "checked_rows" J7 zE3)(L10:ZX K mg "own_rows" Jo zE3)(L11:ZX K mg "rise" IH ["keys"])(L12:ZX K mg "label_of_rows" J9 zE3)(L13:ZX K mg "label_over" Ke zFp)(L14:ZX K mg "stand_side_by_side" JX zFe)(L15:ZX K mg "value_of" KJ zEd)(L16:ZX K mg "rows_of" JP zEe)(L17:ZX K mg "steps_to" Jx zEd)(L18:ZX K mg "check_asked" Lz zEd)(L19:ZX K mg "place_within" KM zFg)(L20:ZX K mg "branch_at" Kb zFm)(L21:ZX K mg "is_leaf" Je zFk)(L22:ZX K mg "reached" LI zEe)(L23:ZX K mg "check_root" KR zEe)(L24:ZX K mg "own_way" KO zEl)(L25:ZX K mg "own" Id zEj)(L26:ZX K mg "rows_under" IR zEe)(L27:ZX K mg "put_in" Kn zE6)(L28:ZX K mg "taken_from" Nw zEd)(L29:ZX K mg "without_leaf" Nv zEl)(L30:ZX K mg "first_that_goes" KL zEl)(L31:ZX K mg "can_lose_one" JV zEw)(L32:ZX K mg "is_full" IB zFj)(L33:ZX K mg "branches_of" Ks zEv)(L34:ZX K mg "neighbour" Kw zEv)(L35:ZX K mg "exchange" Ki zE0)(L36:ZX K mg "hand_down" PZ zEf)(L37:ZX K mg "adopt" NY zEj)(L38:ZX K mg "stands_ahead" JT zEy)(L39:ZX K mg "is_stem" Iq zFn)(L40:ZX K mg "_law_well" KD zEx)(L41:ZX K mg "_law_pull" JM zEb)(L42:ZX K mg "_law_great" Jz zEt)(L43:ZX K mg "_law_text" KP zEp)(L44:ZX K mg "_law_key" LN zEh)(L45:ZX K mg "_law_rank" Ln zE1)(L46:ZX K mg "_law_sorted" Kc zE9)(L47:ZX K mg "_law_keys" K8 zEb)(L48:ZX K mg "_law_tree" Nq zEs)(L49:ZX K mg "_law_alike" LJ zEc)(L50:ZX K mg "_law_rows_alike" Ky zEc)(L51:ZX K mg "_law_value" KQ zEp)(L52:ZX K mg "_law_any_key" IY zEo)(L53:ZX K mg "_law_ground" Ip zE7)(L54:ZX K mg "_law_refused" Ih zE2)(L55:ZX K mg "_law_take" No zEi)(L56:ZX K mg "_law_emptied" NW zEr)(a57:zC K am "law" = some (some (.ref f57)))(l57:K.lookup f57=some ⟨oc57,od57,.func (yD "law" "law" (QA Vr) (Xg Vr) (ZY Vr) .none kV57 dc57 pm57 an57 cd57 ct57),sl57⟩)(c57:wW K cd57 "law" = true)(k57:yG K (.ref f57)=true)(z1:zC K am "isinstance" = some none)(z2:zC K am "bool" = some none)(z3:zC K am "int" = some none)(z4:zC K am "str" = some none)(z5:zC K am "tuple" = some none)(z6:zC K am "list" = some none)(z7:zC K am "len" = some none)(z8:zC K am "all" = some none)(z9:zC K am "abs" = some none)(z10:zC K am "max" = some none)(z11:zC K am "min" = some none)(z12:zC K am "range" = some none)(z13:zC K am "sorted" = some none)(z14:zC K am "ValueError" = some none)(z15:zC K am "sum" = some none)(m1_:zC K am "MOST_SIGNS" = some (some (.int 40 t1)))(m2_:zC K am "MOST_THINGS" = some (some (.int 4 t2)))(m3_:zC K am "MOST_DEEP" = some (some (.int 3 t3)))(m4_:zC K am "MOST_ROWS" = some (some (.int 4 t4)))(m5_:zC K am "FEWEST_BRANCHES" = some (some (.int 2 t5)))(m6_:zC K am "MOST_BRANCHES" = some (some (.int 4 t6)))(m7_:zC K am "HEIGHT" = some (some (.int 0 t7)))(m8_:zC K am "LEAST" = some (some (.int 1 t8)))(m9_:zC K am "GREATEST" = some (some (.int 2 t9)))(m10_:zC K am "MANY" = some (some (.int 3 t10)))(m11_:zC K am "KEPT" = some (some (.int 3 t11)))(IjS:Qy K jN "Shelf.__init__" Jy zEq)(IjT:Qy K jO "Twig.__init__" Kx zFa)(IjB:OX K CTb)(Mm1:Zo K jN "put_leaf" "Shelf.put_leaf" Ij zFf)(Mm2:Zo K jN "put_stem" "Shelf.put_stem" HE zEg)(Mm3:Zo K jN "put_twig" "Shelf.put_twig" J0 zE5)(Mm4:Zo K jN "holders" "Shelf.holders" K1 zEa)(Mm5:Zo K jN "outside" "Shelf.outside" Im zEa)(Mm7:Zo K jN "look" "Shelf.look" Il zEa)(Mm8:Zo K jN "label" "Shelf.label" Jf zEa)(Mm12:Zo K jN "twig_of" "Shelf.twig_of" KK zEa)(Mm13:Zo K jN "labels_of" "Shelf.labels_of" KN zEg)(Mm14:Zo K jN "check_held" "Shelf.check_held" Lx zEg)(Mm15:Zo K jN "take_over" "Shelf.take_over" Ie zEm)(Mm18:Zo K jN "road_up" "Shelf.road_up" Js zEa)(Mm19:Zo K jN "alone" "Shelf.alone" HG zEa)(Mm20:Zo K jN "change_leaf" "Shelf.change_leaf" KA zE8)(Mm21:Zo K jN "change_stem" "Shelf.change_stem" HA zEn)(Mm22:Zo K jN "labels_up" "Shelf.labels_up" JJ zFb)(Mm23:Zo K jN "give_labels" "Shelf.give_labels" JF zFh)(Mm24:Zo K jN "give_back" "Shelf.give_back" HD zEm)(Mm25:Zo K jN "hold" "Shelf.hold" ID zEa)(Mm26:Zo K jN "let_go" "Shelf.let_go" Jr zEa)(Mm27:Zo K jN "drop_unheld" "Shelf.drop_unheld" Lr zEa)(Mt1:Zo K CTb "put" "Table.put" Kd zFc)(Mt5:Zo K CTb "take" "Table.take" KG zEk)(Mt2:Zo K CTb "side" "Table.side" IZ zEk)(Mt3:Zo K CTb "rows" "Table.rows" Kr zEq)(Mt4:Zo K CTb "count" "Table.count" Ii zEq)(xCB:zC K am "TwigError" = some (some (.ref CB)))(xCK:zC K am "NoKey" = some (some (.ref CK)))(xCSh:zC K am "Shelf" = some (some (.ref jN)))(xCTw:zC K am "Twig" = some (some (.ref jO)))(xCTb:zC K am "Table" = some (some (.ref CTb)))(mkCSh:vB K jN=true)(kpCSh:yG K (.ref jN)=true)(pgCSh:vZ K jN Str.empty=true)(hdCSh:vP K jN=true)(poCSh:uW K jN=true)(saCSh:yY K (.ref jN) "__setattr__" = some (some (.builtin "object.__setattr__")))(mkCTw:vB K jO=true)(kpCTw:yG K (.ref jO)=true)(pgCTw:vZ K jO Str.empty=true)(hdCTw:vP K jO=true)(poCTw:uW K jO=true)(saCTw:yY K (.ref jO) "__setattr__" = some (some (.builtin "object.__setattr__")))(mkCTb:vB K CTb=true)(kpCTb:yG K (.ref CTb)=true)(pgCTb:vZ K CTb Str.empty=true)(hdCTb:vP K CTb=true)(poCTb:uW K CTb=true)(saCTb:yY K (.ref CTb) "__setattr__" = some (some (.builtin "object.__setattr__")))(na_kept:yY K (.ref jN) "kept" = some none)(na_following:yY K (.ref jN) "following" = some none)(na_looks:yY K (.ref jN) "looks" = some none)(na_things:yY K (.ref jO) "things" = some none)(na_tag:yY K (.ref jO) "tag" = some none)(na_above:yY K (.ref jO) "above" = some none)(na_holds:yY K (.ref jO) "holds" = some none)(na_shelf:yY K (.ref CTb) "shelf" = some none)(na_root:yY K (.ref CTb) "root" = some none)(tyCB:wV K (.ref CB)=some (.type "type"))(mBCB:xY K CB (.type "BaseException")=some true)(sbKB:xY K CK (.ref CB)=some true)(xcCK:xC K CK=true)(exCK:Kv K CK=true)(kpCK:yG K (.ref CK)=true)(mBCK:xY K CK (.type "BaseException")=some true)(tyCK:wV K (.ref CK)=some (.type "type"))(kkCK:yO K (.ref CK) (.ref CK)=some true):
  ∃ u:al,(∀(s:aj)(v:ah),BindsTo s u ⟨[v],[]⟩ [("_law_script",v)])/\∀ a:aC,K.In a->a.Ns am mg->ZI l.prog w K mg a ZM 41 fa u zFr (U6 K):=by
 let e:=hfa.symm.trans (yH X G a57);cases e;let T:YL mg:=⟨xX X G z1,xX X G z2,xX X G z3,xX X G z4,xX X G z5,xX X G z6,xX X G z7,xX X G z8,xX X G z9,xX X G z10,xX X G z11,xX X G z12,xX X G z13,xX X G z14,xX X G z15,⟨_,yH X G m1_⟩,⟨_,yH X G m2_⟩,⟨_,yH X G m3_⟩,⟨_,yH X G m4_⟩,⟨_,yH X G m5_⟩,⟨_,yH X G m6_⟩,⟨_,yH X G m7_⟩,⟨_,yH X G m8_⟩,⟨_,yH X G m9_⟩,⟨_,yH X G m10_⟩,⟨_,yH X G m11_⟩⟩;exists yD "law" "law" (QA Vr) (Xg Vr) (ZY Vr) .none kV57 dc57 pm57 an57 cd57 ct57,λs v=>.of_eq Z;intro a kb _;let c:YT K mg jN jO:=⟨(yH X G xCSh),(yH X G xCTw),⟨pgCSh,hdCSh,poCSh,saCSh⟩,⟨pgCTw,hdCTw,poCTw,saCTw⟩,na_kept,na_following,na_looks,na_things,na_tag,na_above,na_holds⟩;let g:UW K mg CTb:=⟨(yH X G xCTb),⟨pgCTb,hdCTb,poCTb,saCTb⟩,na_shelf,na_root⟩;let m6:CF K mg CK:=⟨(yH X G xCK),exCK,kpCK,mBCK,tyCK⟩;let c0:Ga K mg CB CK:=⟨(yH X G xCB),(yH X G xCK),tyCB,mBCB,sbKB,ZQD xcCK,kkCK⟩;let e5:QW l.prog w K mg a 1 jN zEq (Q6 jN):=by let⟨f,u,v,fn,F,b⟩:=IjS.ex;exact⟨f,u,⟨mkCSh,v,fn,kpCSh⟩,ZOi F c,b⟩
 let e6:QW l.prog w K mg a 1 jO zFa (PV jO):=by let⟨f,u,v,fn,F,b⟩:=IjT.ex;exact⟨f,u,⟨mkCTw,v,fn,kpCTw⟩,ZOS F c,b⟩
 let d:ZB l.prog w K mg a ZM 1 jN "twig_of" zEa (Zk jN):=Mm12.of λ_ _ F=>ZJG F c;let m1:ZB l.prog w K mg a ZM 2 jN "outside" zEa (Xn jN jO λ_ ho _=>.int ho):=Mm5.of λ_ _ F=>ZHn F c d;let q:ZB l.prog w K mg a ZM 2 jN "label" zEa (Xn jN jO λtg _ _=>tg):=Mm8.of λ_ _ F=>ZLd F c d;let D:ZB l.prog w K mg a ZM 2 jN "holders" zEa (Xn jN jO λ_ ho us=>.int ((us.length:Nat)+(ho:Nat):Int)):=Mm4.of λ_ _ F=>ZHz F T c d;let n:ZA l.prog w K mg a 1 "is_stem" zFn (WC jO):=L39.of λ_ _ F=>ZNW F T c;let m0:ZB l.prog w K mg a ZM 2 jN "look" zEa (Um jN jO):=Mm7.of λ_ _ F=>ZNN F T c d n;let i:=ZNl m0;let B:=ZLU q;let E:ZB l.prog w K mg a (Yd l.prog w) 3 jN "road_up" zEa (Yt jN jO):=Mm18.of λ_ _ F=>ZKI F c D d;let l5:ZB l.prog w K mg a ZM 4 jN "alone" zEa (Xq jN jO):=Mm19.of λ_ _ F=>ZKq F c E;let a5:ZB l.prog w K mg a ZM 3 jN "put_twig" zE5 (XQ jN jO):=Mm3.of λ_ _ F=>Aw F c e6;let a6:ZB l.prog w K mg a ZM 2 jN "take_over" zEm (Yz jN jO):=Mm15.of λ_ _ F=>Cl F c d;let a3:ZB l.prog w K mg a ZM 3 jN "labels_of" zEg (Yj jN jO):=Mm13.of λ_ _ F=>ZFH F c q;let p:ZB l.prog w K mg a ZM 3 jN "check_held" zEg (Z4 jN jO):=Mm14.of λ_ _ F=>ZEh F c m1;let t:ZA l.prog w K mg a 1 "_law_pull" zEb (Zy):=L41.of λ_ _ F=>ZM8 F;let DW:ZA l.prog w K mg a 1 "_law_well" zEx (Wf K):=L40.of λ_ _ F=>Cv F T;let DG:ZA l.prog w K mg a 2 "_law_great" zEt (Zy):=L42.of λ_ _ F=>BA F T t;let DT:ZA l.prog w K mg a 2 "_law_text" zEp (WV):=L43.of λ_ _ F=>ZMu F T t;let DN:ZA l.prog w K mg a 1 "has_few_figures" zFo (QC):=L4.of λ_ _ F=>ZPM F T;let i6:ZA l.prog w K mg a 1 "is_sign" ["sign"] (VU):=L5.of λ_ _ F=>ZMp F;let O:ZA l.prog w K mg a 6 "is_key" zEu (Xr):=L1.of λ_ _ F=>ZKx F T (GX T L3 DN i6 4);let e2:=ZKf O;let DC:ZA l.prog w K mg a 7 "checked" zEu (Vv):=L2.of λ_ _ F=>ZH8 F e2;let l0:ZA l.prog w K mg a 6 "standing" zFl (Ua 5):=ED T L8 5;let j:ZA l.prog w K mg a 7 "ahead" zE4 (Yw):=L6.of λ_ _ F=>ZK9 F l0;let i2:ZA l.prog w K mg a 8 "rise" ["keys"] (Vh):=L11.of λ_ _ F=>ZNp F T j;let e7:ZA l.prog w K mg a 8 "own_rows" zE3 (WA):=L10.of λ_ _ F=>ZHf F DC;let M:ZA l.prog w K mg a 9 "checked_rows" zE3 (Xp):=L9.of λ_ _ F=>Be F T e7 i2;let P:ZA l.prog w K mg a 1 "label_of_rows" zE3 (XN):=L12.of λ_ _ F=>ZH6 F T;let m2:ZB l.prog w K mg a ZM 10 jN "put_leaf" zFf (Xb jN jO):=Mm1.of λ_ _ F=>ZFq F c M P a5;let a4:=ZHs m2;let i7:ZA l.prog w K mg a 8 "stand_side_by_side" zFe (Uw):=L14.of λ_ _ F=>ZNo F T j;let z:ZA l.prog w K mg a 9 "label_over" zFp (Xk):=L13.of λ_ _ F=>Cd F T i7;let m3:ZB l.prog w K mg a ZM 10 jN "put_stem" zEg (Y4 jN jO):=Mm2.of λ_ _ F=>ZF1 F T c a3 z p a5 a6;let e8:ZA l.prog w K mg a 8 "place_in" zFq (VP K):=L7.of λ_ _ F=>ZKr F T j;let m:ZA l.prog w K mg a 1 "is_leaf" zFk (Yb):=L21.of λ_ _ F=>Ce F;let J:ZA l.prog w K mg a 2 "branch_at" zFm (XZ):=L20.of λ_ _ F=>ZGB F m;let U:ZA l.prog w K mg a 9 "place_within" zFg (Wj jN jO):=L19.of λ_ _ F=>ZJJ F T c m e8 j B;let c4:W0 l.prog w K mg a 7 "checked" zEu (Y3 CK):=L2.ofD λ_ _ F=>ZGN F kb m6 O;let L:W0 l.prog w K mg a 8 "check_asked" zEd (YW jN jO CK):=L18.ofD λ_ _ F=>ZEV F c B c4;let i9:W0 l.prog w K mg a 10 "steps_to" zEd (XM jN jO CK):=L17.ofD λ_ _ F=>CJ F c L i U J;let i5:ZA l.prog w K mg a 10 "steps_to" zEd (λvs H Q _=>XM jN jO CK vs H Q E0):=L17.of λ_ _ F=>ZQF (CJ F c L i U J) (λ_ _ _ _ h=>h);let l3:W0 l.prog w K mg a 11 "value_of" zEd (XS jN jO CK):=L15.ofD λ_ _ F=>Bu F i9;let i0:ZA l.prog w K mg a 25 "reached" zEe (YO 20 jN jO):=L22.of λ_ _ F=>(GC F c i m (Ej L22 c i m 20)).mono (by decide)
 let i3:ZA l.prog w K mg a 26 "rows_of" zEe (Xo jN jO):=L16.of λ_ _ F=>AZ F m i0;let i4:ZA l.prog w K mg a 3 "rows_under" zEe (Yk jN jO):=L26.of λ_ _ F=>Bb F T c B;let a7:ZB l.prog w K mg a ZM 10 jN "labels_up" zFb (Xw jN jO):=Mm22.of λ_ _ F=>C6 F c d q z;let a0:ZB l.prog w K mg a ZM 2 jN "give_labels" zFh (WB jN jO):=Mm23.of λ_ _ F=>ZNk F c d;let l9:ZB l.prog w K mg a ZM 2 jN "give_back" zEm (Y0 jN jO):=Mm24.of λ_ _ F=>ZFt F c d;let l6:ZB l.prog w K mg a ZM 11 jN "change_leaf" zE8 (XG jN jO):=Mm20.of λ_ _ F=>Bv F c d n E M a7 P a0;let l7:ZB l.prog w K mg a ZM 11 jN "change_stem" zEn (Xx jN jO):=Mm21.of λ_ _ F=>C5 F T c d n E a3 z a7 p a0 a6 l9;let x:ZA l.prog w K mg a 4 "check_root" zEe (YD jN jO):=L23.of λ_ _ F=>Bc F c p;let y:ZA l.prog w K mg a 5 "own" zEj (WU jN jO):=L25.of λ_ _ F=>AF F c l5;let S:ZA l.prog w K mg a 6 "own_way" zEl (Yv jN jO):=L24.of λ_ _ F=>ZIJ F y;let C:=ZPN l7;let a1:ZB l.prog w K mg a ZM 2 jN "hold" zEa (XY jN jO):=Mm25.of λ_ _ F=>ZMb F c d;let m4:ZB l.prog w K mg a ZM 3 jN "drop_unheld" zEa (VT jN jO):=Mm27.of λ_ _ F=>ZMt F c D;let l8:ZB l.prog w K mg a ZM 4 jN "drop_unheld" zEa (Vf jN jO):=Mm27.of λ_ _ F=>Ba F c D d n m4;let a2:ZB l.prog w K mg a ZM 5 jN "let_go" zEa (Y1 jN jO):=Mm26.of λ_ _ F=>ZK7 F c p d l8;let k:ZA l.prog w K mg a 1 "branches_of" zEv (Yo):=L33.of λ_ _ F=>Bt F;let o:ZA l.prog w K mg a 2 "neighbour" zEv (UI):=L34.of λ_ _ F=>ZQi F k;let Y:ZA l.prog w K mg a 8 "stands_ahead" zEy (UM jN jO):=L38.of λ_ _ F=>ZPD F T c q j;let c1:ZA l.prog w K mg a 12 "adopt" zEj (Xj jN jO):=L37.of λ_ _ F=>ZKh F T c i Y C;let N:ZA l.prog w K mg a 33 "hand_down" zEf (XI 20 jN jO):=Gs L36 T c k o a1 a2 y c1 20;let e0:ZA l.prog w K mg a 34 "hand_down" zEf (WS jN jO):=L36.of λ_ _ F=>ZLT F T c k o a1 a2 N;let e1:ZA l.prog w K mg a 3 "is_full" zFj (Xu jN jO):=L32.of λ_ _ F=>ZIm F T c i;let c5:ZA l.prog w K mg a 4 "can_lose_one" zEw (XR jN jO):=L31.of λ_ _ F=>ZH7 F T k o e1;let c8:ZA l.prog w K mg a 5 "first_that_goes" zEl (WR jN jO):=L30.of λ_ _ F=>ZLM F T c5;let c7:ZA l.prog w K mg a 12 "exchange" zE0 (Vc jN jO):=L35.of λ_ _ F=>ZM5 F c i Y C;let l4:ZA l.prog w K mg a 35 "without_leaf" zEl (U5 jN jO):=L29.of λ_ _ F=>AD F T c c8 e0 N S k o C y c7;let l2:ZA l.prog w K mg a 36 "taken_from" zEd (WT jN jO):=L28.of λ_ _ F=>BO F T c x i5 l4 S l6;let e9:ZA l.prog w K mg a 14 "put_in" zE6 (Vi jN jO):=L27.of λ_ _ F=>ZM0 F c x DC a4;let e4:Jn l.prog w K mg a 5 CTb zEz (Wm jN jO CTb):=by let⟨f,u,v,fn,F⟩:=IjB.ex;exact⟨f,u,⟨mkCTb,v,fn,kpCTb⟩,Cq F g x,F.binds.1,F.binds.2⟩
 let r:ZB l.prog w K mg a (Yd l.prog w) 12 CTb "side" zEk (YE jN jO CTb CK):=Mt2.of λ_ _ F=>ZK5 F g l3;let a8:ZB l.prog w K mg a ZM 4 CTb "count" zEq (YZ jN jO CTb):=Mt4.of λ_ _ F=>BU F g i4;let a9:ZB l.prog w K mg a ZM 27 CTb "rows" zEq (YU jN jO CTb):=Mt3.of λ_ _ F=>ZLl F g i3;let m5:ZB l.prog w K mg a (Yd l.prog w) 15 CTb "put" zFc (Xi jN jO CTb):=Mt1.of λ_ _ F=>ZKt F g r DC e9;let I:ZB l.prog w K mg a (Yd l.prog w) 37 CTb "take" zEk (Yh jN jO CTb CK):=Mt5.of λ_ _ F=>ZLY F g r l2;let DK:ZA l.prog w K mg a 6 "_law_key" zEh (XW 4):=CQ T L44 t DG DT 4;let V:ZA l.prog w K mg a 6 "_law_rank" zE1 (X9 5):=GJ T L45 5;let i8:ZA l.prog w K mg a 9 "_law_sorted" zE9 (Ya w):=L46.of λ_ _ F=>ZKK F T V;let e3:ZA l.prog w K mg a 9 "_law_keys" zEb (Uu):=L47.of λ_ _ F=>Cz F T DK V;let l1:ZA l.prog w K mg a 11 "_law_tree" zEs (Wh jN jO):=L48.of λ_ _ F=>Ak F T c t a4 m3;let DV:ZA l.prog w K mg a 7 "_law_value" zEp (Vd):=L51.of λ_ _ F=>ZLG F t DK;let c2:ZA l.prog w K mg a 7 "_law_any_key" zEo (XB):=L52.of λ_ _ F=>ZIN F T t DK;let c9:ZA l.prog w K mg a 10 "_law_ground" zE7 (Wc w):=L53.of λ_ _ F=>ZJX F t e3 DV;let c3:ZA l.prog w K mg a 7 "_law_alike" zEc (XC 6):=Ei T L49 6;let A:ZA l.prog w K mg a 8 "_law_rows_alike" zEc (YB):=L50.of λ_ _ F=>BV F T c3;let i1:ZA l.prog w K mg a 38 "_law_refused" zE2 (Ys jN jO CTb):=L54.of λ_ _ F=>Cy F T g c0 I;let R:ZA l.prog w K mg a 39 "_law_take" zEi (Yf jN jO CTb w):=L55.of λ_ _ F=>ZLO F T g I r a8 A;let c6:ZA l.prog w K mg a 40 "_law_emptied" zEr (YM jN jO CTb w):=L56.of λ_ _ F=>ZHl F T g R I m5 a8 a9 A;exact ZPG (O4 (st:=Vr) l57 c57 k57) T c g e5 e4 DW c9 i8 l1 t c2 i1 R r a9 A c6
theorem walk{l:rZ}{q:ak}{c:jn}{o:(jb)->aC->Prop}{i:ar->aC->Prop}{d:DefRec}{K:Params->zZ}(v:l.most=some 63)(g:d.params.defaults=[])(r:∀ (w:ar) (h:aC),i w h->(K w.params).In h)(F:∀ (w:ar) (e:jb) (j:ai) (h:aC),(K w.params).In h->h.Ns am e->e d.name=some (.ref j) ->
   ∃ m:al,(∀ (s:aj) (u:ah),BindsTo s m ⟨[u],[]⟩ [("_law_script",u)])/\∀ b:aC,(K w.params).In b->b.Ns am e->ZI l.prog w (K w.params) e b ZM 41 j m zFr (U6 (K w.params))):
  PySem.W.WalkO q c o i l.row.toRowW d [] (λf A=>PySem.call f A):=
 L2.Mp (n:=63) (k:=41) (x:= "_law_script") (CX:=λ_=>ZM) (sp:=λw=>U6 (K w.params)) v (by decide) g ⟨rfl,by decide,by decide⟩ r F (λ_ _ a y t _ p=>⟨a,y,Z,p,t,λ_=>rfl⟩) λ_ _ _ _ _ z=>z
end Tw
open PySem PySem.W PyProof.Rows
namespace PySem.W.Fast
local macro_rules|`(universe $x*)=>return .node .none `null (←(x++(Array.range 1074).map λi=>Lean.mkIdent (.mkSimple s!"tw{((`PySem.Challenge).str "cw_twigmap_k42_takes_holds"|>.str s!"o_{i}").hash}")).mapM λi=>`(def $i:ident:=0))
universe tw10134030624647523450 tw10220481774505679430 tw10307128224301538972 tw10413859174082495081 tw1120198076136711380 tw11775220361826106270 tw12495776822491335859 tw12655090680262717353 tw13363920402393470843 tw13388196984033454729 tw13531793247957981458 tw13770902614780859274 tw14226072285035501882 tw14415462971973876534 tw14749279989784812436 tw15328143784277819620 tw16669300574094294318 tw16963928935399048220 tw17585282192011919752 tw17711428553896689475 tw17729220046189598723 tw17764990109149682921 tw2591083079006532637 tw3240263765817721354 tw3461600270912043650 tw3609550553695876084 tw4034692294687707001 tw4959670474658239133 tw5450050802492258863 tw5660799590722776570 tw6106197437634811107 tw6540811876357992550 tw7318160993009284296 tw7880635833416089503 tw823422626176137298 tw852080345456468440 tw8643300034627554073 tw9192559461921132051 tw9230708449586907805 tw9374060823311826365 tw9379769250304983727 tw9480619254891124875
end PySem.W.Fast
set_option maxRecDepth 100000 in
set_option maxHeartbeats 0 in
theorem PySem.Challenge.cw_twigmap_k42_takes_holds : PySem.Challenge.rw_twigmap_k42_takes.Holds := by
 w_on;o_law;k_head;(case hw=>w_witness2)
 k_fill
 refine Tw.walk (l:=PySem.Challenge.rw_twigmap_k42_takes) Z Z (λw h Y=>PySem.W.kIn_of Y) ?qFun
 case qFun=>
  intro w mg fa h KX G hmg;refine' Tw.JR KX G hmg (Tw.Mv KX G ?a1 ?l1 ?c1 ?k1 (λ_ _ _ _ _ _ us hl=>match us,hl with | [_],_=>rfl)) (Tw.Mv KX G ?a2 ?l2 ?c2 ?k2 (λ_ _ _ _ _ _ us hl=>match us,hl with | [_],_=>rfl)) (Tw.Mv KX G ?a3 ?l3 ?c3 ?k3 (λ_ _ _ _ _ _ us hl=>match us,hl with | [_,_],_=>rfl)) (Tw.Mv KX G ?a4 ?l4 ?c4 ?k4 (λ_ _ _ _ _ _ us hl=>match us,hl with | [_],_=>rfl)) (Tw.Mv KX G ?a5 ?l5 ?c5 ?k5 (λ_ _ _ _ _ _ us hl=>match us,hl with | [_],_=>rfl)) (Tw.Mv KX G ?a6 ?l6 ?c6 ?k6 (λ_ _ _ _ _ _ us hl=>match us,hl with | [_,_],_=>rfl)) (Tw.Mv KX G ?a7 ?l7 ?c7 ?k7 (λ_ _ _ _ _ _ us hl=>match us,hl with | [_,_],_=>rfl)) (Tw.Mv KX G ?a8 ?l8 ?c8 ?k8 (λ_ _ _ _ _ _ us hl=>match us,hl with | [_],_=>rfl)) (Tw.Mv KX G ?a9 ?l9 ?c9 ?k9 (λ_ _ _ _ _ _ us hl=>match us,hl with | [_],_=>rfl)) (Tw.Mv KX G ?A0 ?A1 ?A2 ?A3 (λ_ _ _ _ _ _ us hl=>match us,hl with | [_],_=>rfl)) (Tw.Mv KX G ?A4 ?A5 ?A6 ?A7 (λ_ _ _ _ _ _ us hl=>match us,hl with | [_],_=>rfl)) (Tw.Mv KX G ?A8 ?A9 ?Aa ?Ab (λ_ _ _ _ _ _ us hl=>match us,hl with | [_],_=>rfl)) (Tw.Mv KX G ?Ac ?Ad ?Ae ?Af (λ_ _ _ _ _ _ us hl=>match us,hl with | [_],_=>rfl)) (Tw.Mv KX G ?Ag ?Ah ?Ai ?Aj (λ_ _ _ _ _ _ us hl=>match us,hl with | [_,_],_=>rfl)) (Tw.Mv KX G ?Ak ?Al ?Am ?An (λ_ _ _ _ _ _ us hl=>match us,hl with | [_,_,_],_=>rfl)) (Tw.Mv KX G ?Ao ?Ap ?Aq ?Ar (λ_ _ _ _ _ _ us hl=>match us,hl with | [_,_],_=>rfl)) (Tw.Mv KX G ?As ?At ?Au ?Av (λ_ _ _ _ _ _ us hl=>match us,hl with | [_,_,_],_=>rfl)) (Tw.Mv KX G ?Aw ?Ax ?Ay ?Az (λ_ _ _ _ _ _ us hl=>match us,hl with | [_,_,_],_=>rfl)) (Tw.Mv KX G ?B0 ?B1 ?B2 ?B3 (λ_ _ _ _ _ _ us hl=>match us,hl with | [_,_,_],_=>rfl)) (Tw.Mv KX G ?B4 ?B5 ?B6 ?B7 (λ_ _ _ _ _ _ us hl=>match us,hl with | [_,_],_=>rfl)) (Tw.Mv KX G ?B8 ?B9 ?Ba ?Bb (λ_ _ _ _ _ _ us hl=>match us,hl with | [_],_=>rfl)) (Tw.Mv KX G ?Bc ?Bd ?Be ?Bf (λ_ _ _ _ _ _ us hl=>match us,hl with | [_,_],_=>rfl)) (Tw.Mv KX G ?Bg ?Bh ?Bi ?Bj (λ_ _ _ _ _ _ us hl=>match us,hl with | [_,_],_=>rfl)) (Tw.Mv KX G ?Bk ?Bl ?Bm ?Bn (λ_ _ _ _ _ _ us hl=>match us,hl with | [_,_],_=>rfl)) (Tw.Mv KX G ?Bo ?Bp ?Bq ?Br (λ_ _ _ _ _ _ us hl=>match us,hl with | [_,_,_],_=>rfl)) (Tw.Mv KX G ?Bs ?Bt ?Bu ?Bv (λ_ _ _ _ _ _ us hl=>match us,hl with | [_,_],_=>rfl)) (Tw.Mv KX G ?Bw ?Bx ?By ?Bz (λ_ _ _ _ _ _ us hl=>match us,hl with | [_,_,_,_],_=>rfl)) (Tw.Mv KX G ?C0 ?C1 ?C2 ?C3 (λ_ _ _ _ _ _ us hl=>match us,hl with | [_,_,_],_=>rfl)) (Tw.Mv KX G ?C4 ?C5 ?C6 ?C7 (λ_ _ _ _ _ _ us hl=>match us,hl with | [_,_],_=>rfl)) (Tw.Mv KX G ?C8 ?C9 ?Ca ?Cb (λ_ _ _ _ _ _ us hl=>match us,hl with | [_,_],_=>rfl)) (Tw.Mv KX G ?Cc ?Cd ?Ce ?Cf (λ_ _ _ _ _ _ us hl=>match us,hl with | [_,_,_],_=>rfl)) (Tw.Mv KX G ?Cg ?Ch ?Ci ?Cj (λ_ _ _ _ _ _ us hl=>match us,hl with | [_,_],_=>rfl)) (Tw.Mv KX G ?Ck ?Cl ?Cm ?Cn (λ_ _ _ _ _ _ us hl=>match us,hl with | [_],_=>rfl)) (Tw.Mv KX G ?Co ?Cp ?Cq ?Cr (λ_ _ _ _ _ _ us hl=>match us,hl with | [_],_=>rfl)) (Tw.Mv KX G ?Cs ?Ct ?Cu ?Cv (λ_ _ _ _ _ _ us hl=>match us,hl with | [_,_,_,_],_=>rfl)) (Tw.Mv KX G ?Cw ?Cx ?Cy ?Cz (λ_ _ _ _ _ _ us hl=>match us,hl with | [_,_,_,_],_=>rfl)) (Tw.Mv KX G ?D0 ?D1 ?D2 ?D3 (λ_ _ _ _ _ _ us hl=>match us,hl with | [_,_,_],_=>rfl)) (Tw.Mv KX G ?D4 ?D5 ?D6 ?D7 (λ_ _ _ _ _ _ us hl=>match us,hl with | [_,_,_],_=>rfl)) (Tw.Mv KX G ?D8 ?D9 ?Da ?Db (λ_ _ _ _ _ _ us hl=>match us,hl with | [_],_=>rfl)) (Tw.Mv KX G ?Dc ?Dd ?De ?Df (λ_ _ _ _ _ _ us hl=>match us,hl with | [_,_],_=>rfl)) (Tw.Mv KX G ?Dg ?Dh ?Di ?Dj (λ_ _ _ _ _ _ us hl=>match us,hl with | [_,_],_=>rfl)) (Tw.Mv KX G ?Dk ?Dl ?Dm ?Dn (λ_ _ _ _ _ _ us hl=>match us,hl with | [_,_],_=>rfl)) (Tw.Mv KX G ?Do ?Dp ?Dq ?Dr (λ_ _ _ _ _ _ us hl=>match us,hl with | [_],_=>rfl)) (Tw.Mv KX G ?Ds ?Dt ?Du ?Dv (λ_ _ _ _ _ _ us hl=>match us,hl with | [_,_],_=>rfl)) (Tw.Mv KX G ?Dw ?Dx ?Dy ?Dz (λ_ _ _ _ _ _ us hl=>match us,hl with | [_],_=>rfl)) (Tw.Mv KX G ?E0 ?E1 ?E2 ?E3 (λ_ _ _ _ _ _ us hl=>match us,hl with | [_],_=>rfl)) (Tw.Mv KX G ?E4 ?E5 ?E6 ?E7 (λ_ _ _ _ _ _ us hl=>match us,hl with | [_,_],_=>rfl)) (Tw.Mv KX G ?E8 ?E9 ?Ea ?Eb (λ_ _ _ _ _ _ us hl=>match us,hl with | [_,_,_],_=>rfl)) (Tw.Mv KX G ?Ec ?Ed ?Ee ?Ef (λ_ _ _ _ _ _ us hl=>match us,hl with | [_,_],_=>rfl)) (Tw.Mv KX G ?Eg ?Eh ?Ei ?Ej (λ_ _ _ _ _ _ us hl=>match us,hl with | [_,_],_=>rfl)) (Tw.Mv KX G ?Ek ?El ?Em ?En (λ_ _ _ _ _ _ us hl=>match us,hl with | [_],_=>rfl)) (Tw.Mv KX G ?Eo ?Ep ?Eq ?Er (λ_ _ _ _ _ _ us hl=>match us,hl with | [_,_],_=>rfl)) (Tw.Mv KX G ?Es ?Et ?Eu ?Ev (λ_ _ _ _ _ _ us hl=>match us,hl with | [_,_],_=>rfl)) (Tw.Mv KX G ?Ew ?Ex ?Ey ?Ez (λ_ _ _ _ _ _ us hl=>match us,hl with | [_,_],_=>rfl)) (Tw.Mv KX G ?F0 ?F1 ?F2 ?F3 (λ_ _ _ _ _ _ us hl=>match us,hl with | [_,_,_],_=>rfl)) (Tw.Mv KX G ?F4 ?F5 ?F6 ?F7 (λ_ _ _ _ _ _ us hl=>match us,hl with | [_,_],_=>rfl)) ?F8 ?F9 ?Fa ?Fb ?z1 ?z2 ?z3 ?z4 ?z5 ?z6 ?z7 ?z8 ?z9 ?Fc ?Fd ?Fe ?Ff ?Fg ?Fh ?Fi ?Fj ?Fk ?Fl ?Fm ?Fn ?Fo ?Fp ?Fq ?Fr ?Fs (Tw.MU ?Ft ?Fu ?Fv ?Fw ?Fx (λ_ _ _ _ _ _ us hl=>match us,hl with | [_],_=>rfl)) (Tw.MU ?Fy ?Fz ?G0 ?G1 ?G2 (λ_ _ _ _ _ _ us hl=>match us,hl with | [_,_,_],_=>rfl)) (Tw.N3 ?G3 ?G4 ?G5 ?G6 ?G7 ?G8) (Tw.Nz ?G9 ?Ga ?Gb ?Gc ?Gd (λ_ _ _ _ _ _ us hl=>match us,hl with | [_,_],_=>rfl)) (Tw.Nz ?Ge ?Gf ?Gg ?Gh ?Gi (λ_ _ _ _ _ _ us hl=>match us,hl with | [_,_],_=>rfl)) (Tw.Nz ?Gj ?Gk ?Gl ?Gm ?Gn (λ_ _ _ _ _ _ us hl=>match us,hl with | [_,_,_],_=>rfl)) (Tw.Nz ?Go ?Gp ?Gq ?Gr ?Gs (λ_ _ _ _ _ _ us hl=>match us,hl with | [_,_],_=>rfl)) (Tw.Nz ?Gt ?Gu ?Gv ?Gw ?Gx (λ_ _ _ _ _ _ us hl=>match us,hl with | [_,_],_=>rfl)) (Tw.Nz ?Gy ?Gz ?H0 ?H1 ?H2 (λ_ _ _ _ _ _ us hl=>match us,hl with | [_,_],_=>rfl)) (Tw.Nz ?H3 ?H4 ?H5 ?H6 ?H7 (λ_ _ _ _ _ _ us hl=>match us,hl with | [_,_],_=>rfl)) (Tw.Nz ?H8 ?H9 ?Ha ?Hb ?Hc (λ_ _ _ _ _ _ us hl=>match us,hl with | [_,_],_=>rfl)) (Tw.Nz ?Hd ?He ?Hf ?Hg ?Hh (λ_ _ _ _ _ _ us hl=>match us,hl with | [_,_],_=>rfl)) (Tw.Nz ?Hi ?Hj ?Hk ?Hl ?Hm (λ_ _ _ _ _ _ us hl=>match us,hl with | [_,_],_=>rfl)) (Tw.Nz ?Hn ?Ho ?Hp ?Hq ?Hr (λ_ _ _ _ _ _ us hl=>match us,hl with | [_,_,_],_=>rfl)) (Tw.Nz ?Hs ?Ht ?Hu ?Hv ?Hw (λ_ _ _ _ _ _ us hl=>match us,hl with | [_,_],_=>rfl)) (Tw.Nz ?Hx ?Hy ?Hz ?I0 ?I1 (λ_ _ _ _ _ _ us hl=>match us,hl with | [_,_],_=>rfl)) (Tw.Nz ?I2 ?I3 ?I4 ?I5 ?I6 (λ_ _ _ _ _ _ us hl=>match us,hl with | [_,_,_],_=>rfl)) (Tw.Nz ?I7 ?I8 ?I9 ?Ia ?Ib (λ_ _ _ _ _ _ us hl=>match us,hl with | [_,_,_],_=>rfl)) (Tw.Nz ?Ic ?Id ?Ie ?If ?Ig (λ_ _ _ _ _ _ us hl=>match us,hl with | [_,_,_],_=>rfl)) (Tw.Nz ?Ih ?Ii ?Ij ?Ik ?Il (λ_ _ _ _ _ _ us hl=>match us,hl with | [_,_],_=>rfl)) (Tw.Nz ?Im ?In ?Io ?Ip ?Iq (λ_ _ _ _ _ _ us hl=>match us,hl with | [_,_,_],_=>rfl)) (Tw.Nz ?Ir ?Is ?It ?Iu ?Iv (λ_ _ _ _ _ _ us hl=>match us,hl with | [_,_],_=>rfl)) (Tw.Nz ?Iw ?Ix ?Iy ?Iz ?J0 (λ_ _ _ _ _ _ us hl=>match us,hl with | [_,_],_=>rfl)) (Tw.Nz ?J1 ?J2 ?J3 ?J4 ?J5 (λ_ _ _ _ _ _ us hl=>match us,hl with | [_,_],_=>rfl)) (Tw.Nz ?J6 ?J7 ?J8 ?J9 ?Ja (λ_ _ _ _ _ _ us hl=>match us,hl with | [_,_,_],_=>rfl)) (Tw.Nz ?Jb ?Jc ?Jd ?Je ?Jf (λ_ _ _ _ _ _ us hl=>match us,hl with | [_,_],_=>rfl)) (Tw.Nz ?Jg ?Jh ?Ji ?Jj ?Jk (λ_ _ _ _ _ _ us hl=>match us,hl with | [_,_],_=>rfl)) (Tw.Nz ?Jl ?Jm ?Jn ?Jo ?Jp (λ_ _ _ _ _ _ us hl=>match us,hl with | [_],_=>rfl)) (Tw.Nz ?Jq ?Jr ?Js ?Jt ?Ju (λ_ _ _ _ _ _ us hl=>match us,hl with | [_],_=>rfl)) ?Jv ?Jw ?Jx ?Jy ?Jz ?K0 ?K1 ?K2 ?K3 ?K4 ?K5 ?K6 ?K7 ?K8 ?K9 ?Ka ?Kb ?Kc ?Kd ?Ke ?Kf ?Kg ?Kh ?Ki ?Kj ?Kk ?Kl ?Km ?Kn ?Ko ?Kp ?Kq ?Kr ?Ks ?Kt ?Ku ?Kv ?Kw ?Kx ?Ky ?Kz
  (case Jv|Jw|Jx|Jy|Jz|Ft|Fy|G3|G9|Ge|Gj|Go|Gt|Gy|H3|H8|Hd|Hi|Hn|Hs|Hx|I2|I7|Ic|Ih|Im|Ir|Iw|J1|J6|Jb|Jg|Jl|Jq=>k_is)
  (case Ku|Kv=>kernel_rfl)
  (case Kz=>kit_is)
  all_goals try k_is
  all_goals try k_is
