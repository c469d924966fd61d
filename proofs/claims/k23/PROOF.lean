import PyProof.Rows.All
import Wide.All
import OpenK.AllK
import Wide.FinOn
import Lean
import PyProof.EqAt
import PyProof.EqKinds
import PyProof.TupleCall
import PyProof.NsDelKeeps
import PyProof.ExcBaseAll.ValueError
import KE.KIsAll
import PyProof.ExcArgsOwn
import PyProof.ExcAttrAll.ValueError
import PyProof.NeKinds
import KE.KLam
import PyProof.Rows.SumAny
import PyProof.ListMulRoad
import PyProof.FactsAll.tuple
import KE.KDictList
import PyProof.Rows.SortWalk
import KE.KEqDict
import KE.KRevIter
import PyProof.InstStoreFacts
import PyProof.ExcClass3
import PyProof.WalkInts
import PyProof.SeqI3
import KE.KSortTup
import KE.KFind
import PySem.Challenge.RW_twigmap_k23_refused_of_the_shelf
open PySem renaming wpAny_bind→aa,wpAny_pure→ad,wpAny_mono→ae,wpAny_holding→af,wpAny_Call_Name_kw→ag,wpAny_standAt→ah,Value→ai,Addr→aj,Shared→al,Program→am,FuncData→ao,mainGlobals→ap,sizeLine→aq,starEach→ar,World→aw,Around→ax,bootBuiltins→ay,compareOp→az,model→aA,wpAny→aB,Stmt→aC,Heap→aD,Scope→aE,swapsWith→aF,backTo→aG,codeAny→aH,eval→aI,Obj→aJ,Pos→aK
universe u
def aM{p:Prop}[Decidable p](h:¬p):decide p=false:=decide_eq_false h
def aO{p:Prop}[Decidable p](h:p):decide p=true:=decide_eq_true h
def aP{c:Prop}{h:Decidable c}(n:¬c){α:Sort u}{t e:α}:(ite c t e)=e:=if_neg n
def aQ{c:Prop}{h:Decidable c}(n:c){α:Sort u}{t e:α}:(ite c t e)=t:=if_pos n
set_option Elab.async false
set_option linter.all false
set_option maxRecDepth 100000
set_option maxHeartbeats 8000000
open PySem.W renaming Frag->zZ,nsIn->zP,findIn->zD,mroIn->zE,mg_of->zB,kitOne->yW,keepIn->yX,tabIn->yS,mg_none_of->yB,typeIn->yM,Looks->yG,fnOf->yK,CodeHd->xZ,kia_one->xQ,codeIn->xW,kla_obj->xK,emptyDict->wX,callWith_K->wI,instObj->wR,hasDictIn->wJ,tabObj->wL,plainGet->vX,isFn->wT,hideAll->vY,excIn->wM,kla_fn->vP,methodCall_KW->uA,envX->wF,looks_findIn->uB,looks_mroIn->uD,of_hideAll->uJ,lookIn->vM,plainOver->uN,any_some->uP,makesIn->uR,OpenLaw->uS,hideAll_none->sQ,plainGet_of->sT,looks_clsIn->sV,hideAll_get->sW,callWith_K0->sX,methodObj->tH,kat_cons->tK,takerIn->sC,kat_yes->sD,noTabs->sH,kat_no->sI,kat_go->sJ,KdlSrc->tM,InstAt->tN,WalkO->tU,cellsFrom_some->rK,looks_typeIn->rQ,tail_of_in->rV
open List renaming getD_eq_getElem?_getD->zT,getElem?_eq_getElem->zU,length_map->zX,mem_cons_of_mem->zI,mem_cons_self->zK,size_toArray->zL,all_eq_true->zN,getElem?_map->zH,mem_of_getElem?->yU,length_append->yZ,mem_singleton->yY,getElem?_eq_some_iff->yH,mem_map->zO,range->zV,mem_cons->zF,map_map->zJ,take_of_length_le->yF,mem_append_right->yE,mem_append->yQ,map_append->yR,take_add_one->yI,length_cons->yJ,map_cons->yP,getElem?_append_right->xB,getElem?_append_left->wZ,mem_append_left->xM,mem_filterMap->xU,mem_range->yC,length_singleton->xA,lookup_cons->xP,exists_mem_of_length_pos->vR,eq_nil_of_length_eq_zero->vS,pairwise_cons->wW,getElem_mem->xD,find?_cons->xE,toArray->xR,all_map->xS,flatMap_cons->wP,not_mem_nil->wQ,lookup->xT,mem_filter->wS,length->xL,find?_eq_none->vU,nodup_cons->wK,getElem?_eq_none->vF,cons_lt_cons_iff->vG,pairwise_append->vH,ne_nil_of_length_pos->uE,drop_eq_getElem_cons->uF,length_pos_iff->vI,pairwise_singleton->uH,append_nil->vZ,length_range->vC,length_filter_le->uC,any_cons->wA,not_lt_nil->vL,map_congr_left->uK,getElem_of_mem->uL,filterMap_cons->uM,map_nil->wB,erase_sublist->uO,replicate->vO,mem_of_find?_eq_some->sL,mem_flatMap->uT,filter_cons->uU,cons_append->uV,getElem?_set_self->sP,eq_nil_or_concat->sR,concat_eq_append->sS,getElem?_set_ne->sY,toList_toArray->tE,length_reverse->tF,filter_append->tJ,all_cons->uZ,filter_congr->tL,eraseIdx_eq_take_drop_succ->qY,nil_lt_cons->sE,mem_toArray->sF,mem_reverse->sG,dropLast_concat_getLast->qZ,sum_append->tO,of_mem_zip->tP,foldl_cons->tQ,find?_some->tR,all_append->tS,sum_cons->tW,getLast_eq_getElem->rR,singleton_sublist->rS,take_append_drop->rW,mem_of_mem_erase->rX,Sublist->tZ
open PySem.Heap renaming get?_push_of_some->zQ,lt_size->zW,get?_push_size->yO,get?_update_other->yD,get?_update_self->wV,size_push->vQ,SameBut->wG,get?_none_of_le->uI,get?_update_ne->tG
open Bool renaming false_ne_true->zS,and_eq_true->zR,eq_iff_iff->xG,false_eq_true->vV,eq_false_iff->vD,false_and->uY,true_and->vA,not_eq_true'->sB
open Nat renaming le_refl->zY,le_of_ble_eq_true->zA,ne_of_lt->zM,lt_of_lt_of_le->yN,le_trans->zC,lt_or_ge->yV,zero_le->yT,lt_succ_self->xV,lt_of_le_of_lt->xJ,le_of_lt->xX,ne_of_gt->xH,lt_irrefl->wY,le_succ->xI,succ->xY,lt_succ_of_lt->vW,le_of_eq->wC,le_succ_of_le->uQ,le_of_not_lt->uX,not_lt->wD,sub_lt_sub_left->tI,add_le_add->tV,sub_le->vB
open PySem.F renaming plainAttrs_list->yL,type_list_append->xN,slot_list_append->xO,plain_max_loop->wH,slot_tuple_mul->uG,type_list_clear->sM,slot_list_clear->sN,entry_max_loop->sO,excBase_ValueError->qX,store_ValueError->rA,args_tuple_mul_2->rB,args_tuple_add_2->rC,type_list_index->rD,slot_tuple_rmul->rE,slot_list_index->rF,plain_list_iadd->rG,entry_tuple_mul->rH,entry_tuple_add->rJ,slot_tuple_add->rL,slot_int_rmul->rO,slot_dict_pop->rP
open Option renaming map_eq_some_iff->yA,some->zG,isSome_iff_exists->sK,map_some->uW,bind_eq_some_iff->rM,none->tY
open Array renaming getElem?_eq_some_iff->wO,getElem?_eq_getElem->vE,length_toList->vT,append_assoc->vJ,toList_append->sZ,toList->tX,getElem?_toList->rT,toArray_toList->rY,mem_toList_iff->rZ
open PySem.Str renaming ofString->wU
open Int renaming emod_lt_of_pos->vK,emod_nonneg->vN,toNat->wE,fdiv_eq_ediv_of_nonneg->rN
local macro_rules|`(tactic|exists $e,*)=>`(tactic|refine ⟨$e,*, ?_⟩)
def Z{α:Sort u}{a:α}:a=a:=rfl
local macro_rules|`(∅)=>`(by lia)
local macro_rules|`(nofun)=>`(by lia (splits:=8))
local macro_rules|`(tactic|let $d:letDecl)=>let n:=d.raw[0];let l(s:Lean.Syntax)k:Lean.Syntax:=.node .none `Lean.Parser.Tactic.rcasesPatLo #[.node .none `Lean.Parser.Tactic.rcasesPatMed #[Lean.mkNullNode #[.node .none k s.getArgs]],Lean.mkNullNode];if n.getKind== ``Lean.Parser.Term.letPatDecl then let m:Lean.TSyntax `Lean.Parser.Tactic.rcasesPatMed:=⟨(n[0].rewriteBottomUp λs=>match s.getKind with|`ident=>l (Lean.mkNullNode #[s]) `Lean.Parser.Tactic.rcasesPat.one|`Lean.Parser.Term.hole=>l s `Lean.Parser.Tactic.rcasesPat.ignore|`Lean.Parser.Term.anonymousCtor=>l s `Lean.Parser.Tactic.rcasesPat.tuple|_=>s)[0]⟩;`(tactic|obtain $m:rcasesPatMed:=$(⟨n[4]⟩)) else `(tactic|have $d:letDecl)
abbrev ja:=PySem.Value->PySem.Shared->Prop
abbrev jb:=PySem.Str->Option PySem.Value
abbrev jc:=Option PySem.Value
abbrev jd:=List PySem.Value
abbrev zEa:List PySem.Str:=["self","number"]
abbrev zEb:List PySem.Str:=["_law_twigs","_law_number"]
abbrev zEc:List PySem.Str:=["_law_well_here","_law_state"]
abbrev zEd:List PySem.Str:=["_law_found","_law_due"]
abbrev zEe:List PySem.Str:=["self","numbers"]
abbrev zEf:List PySem.Str:=["_law_well_here","_law_many"]
abbrev zEg:List PySem.Str:=["_law_well_here","_law_twigs","_law_holds","_law_grid_here"]
abbrev zEh:List PySem.Str:=["_law_well_here","_law_some"]
abbrev zEi:List PySem.Str:=["self"]
abbrev zEj:List PySem.Str:=["_law_twigs","_law_holds","_law_number"]
abbrev zEk:List PySem.Str:=["_law_twigs","_law_numbers","_law_high"]
abbrev zEl:List PySem.Str:=["_law_well_here","_law_grid_here","_law_block"]
abbrev zEm:List PySem.Str:=["_law_well_here","_law_leaves","_law_stems"]
abbrev zEn:List PySem.Str:=["_law_well_here","_law_state","_law_block"]
abbrev zEo:List PySem.Str:=["_law_shelf","_law_twigs","_law_holds"]
abbrev zEp:List PySem.Str:=["thing","room"]
abbrev zEq:List PySem.Str:=["self","number","numbers"]
abbrev zEr:List PySem.Str:=["_law_one","_law_other"]
abbrev zEs:List PySem.Str:=["_law_holds","_law_numbers"]
abbrev zEt:List PySem.Str:=["self","number","rows"]
abbrev zEu:List PySem.Str:=["rows"]
abbrev zEv:List PySem.Str:=["self","things","label"]
abbrev zEw:List PySem.Str:=["_law_call_here"]
abbrev zEx:List PySem.Str:=["self","things","tag"]
abbrev zEy:List PySem.Str:=["_law_shelf","_law_number","_law_wrong_here"]
abbrev zEz:List PySem.Str:=["self","stem","branches"]
abbrev zE0:List PySem.Str:=["_law_shelf","_law_way","_law_one","_law_wrong_here","_law_bad"]
abbrev zE1:List PySem.Str:=["label","following"]
abbrev zE2:List PySem.Str:=["_law_script","_law_k"]
abbrev zE3:List PySem.Str:=["_law_shelf","_law_number","_law_bad"]
abbrev zE4:List PySem.Str:=["thing"]
abbrev zE5:List PySem.Str:=["one","other"]
abbrev zE6:List PySem.Str:=["_law_key"]
abbrev zE7:List PySem.Str:=["self","number","twig"]
abbrev zE8:List PySem.Str:=["_law_well_here"]
abbrev zE9:List PySem.Str:=["self","rows"]
abbrev zFa:List PySem.Str:=["_law_shelf","_law_handed"]
abbrev zFb:List PySem.Str:=["twig"]
abbrev zFc:List PySem.Str:=["number"]
abbrev zFd:List PySem.Str:=["key"]
abbrev zFe:List PySem.Str:=["_law_rows"]
abbrev zFf:List PySem.Str:=["_law_script"]
abbrev jo:=List Nat
abbrev jq:=List PySem.Str
abbrev js:=List (aj×aJ)
abbrev ju:=List aj
abbrev jv:=Option aj
abbrev jw:=List Int
abbrev jx:=List PySem.Expr
abbrev jz:=Array ai
abbrev jA:=List PySem.Env
abbrev jB:=Array Nat
abbrev jC:=List (PySem.Str×aj)
abbrev jI:=List (PySem.Str×ai)
abbrev jK:=List (PySem.Str×Nat)
abbrev jL:=List aC
abbrev jM:=Option Nat
abbrev jO:=List (Int×Int×Int)
abbrev jQ:=List Bool
namespace L2
open PySem PySem.Spec PyProof.Rows
abbrev ZW:=Sum Int Str
abbrev jE:=List ZW
def Ox:ZW->ai->Bool
 | .inl k,v=>Value.isInt k v
 | .inr x,v=>Value.isStrOf x v
def Dk(w:aw):ZW->Int
 | .inl k=>hashInt k
 | .inr x=>hashStr w x
def Qo:∀{k:ZW}{v:ai},Ox k v=true->(∃ i t,k=Sum.inl i/\v=Value.int i t)\/(∃ x t,k=Sum.inr x/\v=Value.str x t)
 | .inl i,v,h=>by
  let⟨t,e⟩:=Value.isInt_shape (k:=i) (v:=v) h;exact .inl ⟨i,t,Z,e⟩
 | .inr x,v,h=>by
  let⟨t,e⟩:=Value.isStrOf_shape (x:=x) (v:=v) h;exact .inr ⟨x,t,Z,e⟩
def ZJY(i:Int)(t:Tok):Ox (.inl i) (.int i t)=true:=by simp[Ox,Value.isInt]
def ZJg(x:Str)(t:Tok):Ox (.inr x) (.str x t)=true:=by simp[Ox,Value.isStrOf]
def ZN7(a b:Int):decide ((Sum.inl a:ZW)=Sum.inl b)=(a==b):=by
 by_cases e:a=b
 ·subst e;simp
 ·let h:¬ (Sum.inl a:ZW)=Sum.inl b:=λq=>e (Sum.inl.inj q);rw[aM h];exact(beq_eq_false_iff_ne.mpr e).symm
def ZOy(a b:Str):decide ((Sum.inr a:ZW)=Sum.inr b)=decide (a=b):=by
 by_cases e:a=b
 ·subst e;simp
 ·let h:¬ (Sum.inr a:ZW)=Sum.inr b:=λq=>e (Sum.inr.inj q);rw[aM h,aM e]
def C5(a:Int)(b:Str):decide ((Sum.inl a:ZW)=Sum.inr b)=false:=aM (λq=>nomatch q)
def BV(a:Str)(b:Int):decide ((Sum.inr a:ZW)=Sum.inl b)=false:=aM (λq=>nomatch q)
def UO(c:am)(w:aw):PySem.KeyKind c w ZW where
 is:=Ox
 hash:=Dk w
 inj:=λv a b g f=>by
  rcases Qo g with ⟨i,t,rfl,rfl⟩ | ⟨x,t,rfl,rfl⟩
  ·rcases Qo f with ⟨j,u,rfl,e⟩ | ⟨y,u,rfl,e⟩
   ·injection e with e1 _;rw[e1]
   ·exact nomatch e
  ·rcases Qo f with ⟨j,u,rfl,e⟩ | ⟨y,u,rfl,e⟩
   ·exact nomatch e
   ·injection e with e1 _;rw[e1]
 byValue:=λk v h=>by
  rcases Qo h with ⟨i,t,rfl,rfl⟩ | ⟨x,t,rfl,rfl⟩ <;> rfl
 pyHash:=λd h=>by
  rcases Qo d with ⟨i,t,rfl,rfl⟩ | ⟨x,t,rfl,rfl⟩
  ·exact wpAny_pyHash_int h
  ·exact wpAny_pyHash_str h
 eqBool:=λl d h=>by
  rcases Qo l with ⟨i,t,rfl,rfl⟩ | ⟨x,t,rfl,rfl⟩
  ·rcases Qo d with ⟨j,u,rfl,rfl⟩ | ⟨y,u,rfl,rfl⟩
   ·rw[ZN7] at h;exact wpAny_eqBool_int h
   ·rw[C5] at h;exact SeqAt.EqAt.int_str i t y u _ _ _ _ h
  ·rcases Qo d with ⟨j,u,rfl,rfl⟩ | ⟨y,u,rfl,rfl⟩
   ·rw[BV] at h;exact SeqAt.EqAt.str_int x t j u _ _ _ _ h
   ·rw[ZOy] at h;exact wpAny_eqBool_str h
 «strs» :=λk x t v h=>by
  rcases Qo h with ⟨i,u,rfl,e⟩ | ⟨y,u,rfl,e⟩
  ·exact nomatch e
  ·injection e with e1 _;subst e1;cases v <;> rfl
def ZGJ(a:am)(w:aw)(i:Int)(t:Tok):(UO a w).is (.inl i) (.int i t)=true:=ZJY i t
def BN(a:am)(w:aw)(x:Str)(t:Tok):(UO a w).is (.inr x) (.str x t)=true:=ZJg x t
inductive V where
 | non | bl (b:Bool) | int (i:Int) | str (x:Str) | byt (b:Array UInt8) | flt (b:UInt64) | ref (a:aj) | ty (n:String)
 deriving DecidableEq
abbrev je:=List V
abbrev jf:=Option V
def ZY:V->ai->Prop
 | .non,u=>u=Value.none
 | .bl b,u=>u=Value.bool b
 | .int i,u=>∃ t,u=Value.int i t
 | .str x,u=>∃ t,u=Value.str x t
 | .byt b,u=>∃ t,u=Value.bytes b t
 | .flt b,u=>∃ t,u=Value.float b t
 | .ref a,u=>u=Value.ref a
 | .ty n,u=>u=Value.type n
abbrev ZR:je->jd->Prop:=Paired ZY
def ZR.length{b:je}{a:jd}(r:ZR b a):b.length=a.length:=Paired.length r
def ZR.get:∀{b:je}{a:jd}{i:Nat}{x:V},ZR b a->b[i]? = some x->∃ u,a[i]? = some u/\ZY x u
 | _,_,_,_,.nil,e=>by simp at e
 | _,_,0,_,.cons r _,e=>by simp at e;subst e;exact⟨_,Z,r⟩
 | _,_,i+1,x,.cons _ t,e=>by
  let⟨u,c,d⟩:=ZR.get (i:=i) (x:=x) t (by simpa using e)
  exact⟨u,by simpa using c,d⟩
def ZR.set{x:V}{u:ai}(r:ZY x u):∀{b:je}{a:jd}(i:Nat),ZR b a->ZR (b.set i x) (a.set i u)
 | _,_,_,.nil=>.nil
 | _,_,0,.cons _ t=>.cons r t
 | _,_,i+1,.cons q t=>.cons q (ZR.set r i t)
def ZR.append:∀{c d:je}{a b:jd},ZR c a->ZR d b->ZR (c++d) (a++b):=by intro _ _ _ _ h g;induction h with
 | nil=>exact g
 | cons r _ e=>exact .cons r e
def ZR.take:∀{b:je}{a:jd}(n:Nat),ZR b a->ZR (b.take n) (a.take n)
 | _,_,0,_=>.nil
 | _,_,_+1,.nil=>.nil
 | _,_,n+1,.cons r t=>.cons r (ZR.take n t)
def ZR.drop:∀{b:je}{a:jd}(n:Nat),ZR b a->ZR (b.drop n) (a.drop n)
 | _,_,0,r=>r
 | _,_,_+1,.nil=>.nil
 | _,_,n+1,.cons _ t=>ZR.drop n t
def Yu:jf->jc->Prop
 | some v,some u=>ZY v u
 | none,none=>True
 | _,_=>False
def KV{a:Type}:List (a×V)->List (a×ai)->Prop:=Paired fun(p:a×V)(q:a×ai)=>p.1=q.1/\ZY p.2 q.2
def kV:ZW->V
 | .inl i=>.int i
 | .inr x=>.str x
inductive HO where
 | lst (xs:je)
 | tup (xs:je)
 | dK (kvs:List (ZW×V)) | dT (kvs:List (jE×V))
 | set (S:Int->Bool) (n:Nat)
 | ins (C dx:aj) (fs:List (Str×V))
 | own (x:aj)
 | xd (fs:List (Str×V))
 | met (f x:aj)
 | rng (lo hi:Int)
 | frz (o:aJ) (u:HO)
 | tbl (ps:jz)
 | ext (φ:aD->Prop)
abbrev Hp:=aj->Option HO
def upd(H:Hp)(a:aj)(o:HO):Hp:=λb=>if b=a then some o else H b
def ZO{H:Hp}{a:aj}{o:HO}:upd H a o a=some o:=by unfold upd;rw[aQ rfl]
def ZU{H:Hp}{a b:aj}{o:HO}(h:b≠a):upd H a o b=H b:=by unfold upd;rw[aP h]
def M5{H:Hp}{a:aj}{o u:HO}:upd (upd H a o) a u=upd H a u:=by
 funext b;unfold upd;split <;> rfl
def ZE{H:Hp}{a b:aj}{o u:HO}(h:H a=some o)(c:H b=some u)(d:o≠u:=by intro z;cases z):a≠b:=by
 intro e;subst e;rw[h] at c;exact d (zG.inj c)
def Za{H:Hp}{a b:aj}{o:HO}(h:H a=some o)(c:H b=none):a≠b:=by
 intro e;subst e;rw[h] at c;cases c
section
variable(P:am)(w:aw)
def Zk(H:Hp)(h:aD)(a:aj):HO->Prop
 | .lst c=>c.length<=aq/\∃(b:jd)(n:Nat),ZR c b/\h.get? a=some { cls:=.type "list",data:=.seq b.toArray n }
 | .tup c=>c.length<=aq/\∃ b:jd,ZR c b/\IsTup h a b.toArray
 | .dK kvs=>kvs.length<=aq/\(a==sysModules)=false/\∃ l,KV kvs l/\h.DictOf (UO P w) a l
 | .dT kvs=>kvs.length<=aq/\(a==sysModules)=false/\∃ c:List (jE×aj×ai),
   Paired (fun(p:jE×V)(q:jE×aj×ai)=>p.1=q.1/\H q.2.1=some (.tup (p.1.map kV))/\ZY p.2 q.2.2) kvs c /\
   ∃ o i m,h.get? a=some o/\o.ExactDict/\o.data=.dict i m/\i.toList=c.map (entryOfKey (tupleKind (UO P w)))/\(c.map (·.1)).Nodup
 | .set S n=>h.SetOf (intKind P w) a S n
 | .ins C g e=>H g=some (.own a)/\e.length<=1000/\g≠a/\h.get? a=some (wR C g) /\
   ∃ d,h.Ns1 g d/\(∀ f,Yu (e.lookup f) (d f))/\PySem.Within d (e.map (·.1))
 | .own _=>∃ o,h.get? a=some o
 | .xd e=>∃ d,h.Ns1 a d/\∀ f,Yu (e.lookup f) (d f)
 | .rng lo r=>∃ t u v,h.get? a=some { cls:=.type "range",data:=.fields #[.int lo t,.int r u,.int 1 v] }
 | .frz o u=>h.get? a=some o/\Zk H h a u
 | .tbl ps=>h.get? a=some { cls:=.none,data:=.fields ps }
 | .met f x=>h.get? a=some (tH (.ref f) (.ref x))
 | .ext φ=>φ h/\(∃ o,h.get? a=some o)/\∀ j k:aD,φ j->(∀ o,j.get? a=some o->k.get? a=some o)->φ k
def YW(H:Hp)(h:aD):Prop:=∀ a o,H a=some o->Zk P w H h a o
end
section
variable{P:am}{w:aw}{H H':Hp}{h h':aD}{a:aj}{o:HO}
def Zk.lt(x:Zk P w H h a o):a<h.objs.size:=by
 cases o with
 | lst d=>let⟨_,_,_,_,e⟩:=x;exact zW e
 | tup d=>let⟨_,_,_,p⟩:=x;exact p.lt
 | dK b=>let⟨_,_,_,_,o,_,_,e,_⟩:=x;exact zW e
 | dT b=>let⟨_,_,_,_,o,_,_,e,_⟩:=x;exact zW e
 | set S n=>let⟨o,_,_,_,e,_⟩:=x;exact zW e
 | ins C g c=>let⟨_,_,_,e,_⟩:=x;exact zW e
 | own y=>let⟨_,e⟩:=x;exact zW e
 | xd c=>let⟨_,⟨_,_,_,e,_⟩,_⟩:=x;exact zW e
 | rng j i=>let⟨_,_,_,e⟩:=x;exact zW e
 | frz k u=>let⟨e,_⟩:=x;exact zW e
 | tbl l=>exact zW (show h.get? a=some _ from x)
 | met f y=>exact zW (show h.get? a=some _ from x)
 | ext m=>let⟨_,⟨_,e⟩,_⟩:=x;exact zW e
def Paired.mapP{e g:Type}{F G:e->g->Prop}:∀{c:List e}{d:List g},Paired F c d->(∀ a b,F a b->G a b)->Paired G c d:=by intro _ _ h f;induction h with
 | nil=>exact .nil
 | cons r _ i=>exact .cons (f _ _ r) i
def Zk.stay(x:Zk P w H h a o)(k:∀ b u,(b=a\/H b=some (.own a))->h.get? b=some u->h'.get? b=some u)(I:∀ b,H b=some (.own a)->H' b=some (.own a))(J:∀ b m,H b=some (.tup m)->H' b=some (.tup m)):Zk P w H' h' a o:=by
 induction o with
 | lst m=>let⟨z,l,n,r,e⟩:=x;exact⟨z,l,n,r,k _ _ (.inl rfl) e⟩
 | tup m=>let⟨z,l,r,g,e,c⟩:=x;exact⟨z,l,r,g,k _ _ (.inl rfl) e,c⟩
 | dK s=>let⟨z,y,M,r,g,j,i,e,c⟩:=x;exact⟨z,y,M,r,g,j,i,k _ _ (.inl rfl) e,c⟩
 | dT s=>
  let⟨z,y,m,r,g,j,i,e,c⟩:=x;exact⟨z,y,m,Paired.mapP r λp q z=>⟨z.1,J _ _ z.2.1,z.2.2⟩,g,j,i,k _ _ (.inl rfl) e,c⟩
 | set S n=>let⟨g,j,i,t,e,c⟩:=x;exact⟨g,j,i,t,k _ _ (.inl rfl) e,c⟩
 | ins C N G=>
  let⟨d,z,L,e,A,⟨B,j,i,F,c⟩,r⟩:=x;exact⟨I _ d,z,L,k _ _ (.inl rfl) e,A,⟨B,j,i,k _ _ (.inr d) F,c⟩,r⟩
 | own y=>let⟨g,e⟩:=x;exact⟨g,k _ _ (.inl rfl) e⟩
 | xd G=>let⟨A,⟨B,j,i,e,c⟩,r⟩:=x;exact⟨A,⟨B,j,i,k _ _ (.inl rfl) e,c⟩,r⟩
 | rng Q O=>let⟨t,u,v,e⟩:=x;exact⟨t,u,v,k _ _ (.inl rfl) e⟩
 | frz g u K=>let⟨e,q⟩:=x;exact⟨k _ _ (.inl rfl) e,K q⟩
 | tbl D=>
  let e:h.get? a=some { cls:=.none,data:=.fields D }:=x;show h'.get? a=some { cls:=.none,data:=.fields D };exact k a _ (.inl rfl) e
 | met f y=>
  let e:h.get? a=some (tH (.ref f) (.ref y)):=x;show h'.get? a=some (tH (.ref f) (.ref y));exact k a _ (.inl rfl) e
 | ext R=>let⟨p,⟨o,e⟩,E⟩:=x;exact⟨E _ _ p λo q=>k _ _ (.inl rfl) q,⟨o,k _ _ (.inl rfl) e⟩,E⟩
def YW.lt(x:YW P w H h)(e:H a=some o):a<h.objs.size:=(x a o e).lt
def YW.fresh(x:YW P w H h)(e:h.objs.size<=a):H a=none:=by
 cases q:H a with
 | none=>rfl
 | some u=>exact absurd (yN (x.lt q) e) (wY _)
def YW.kept(x:YW P w H h)(k:∀ b u,h.get? b=some u->h'.get? b=some u):YW P w H h':=λa o e=>
 (x a o e).stay (λb u _ q=>k b u q) (λ_ q=>q) λ_ _ q=>q
def YW.laid(x:YW P w H h)(k:∀ b u,h.get? b=some u->h'.get? b=some u)(i:h.objs.size<=a)(d:Zk P w (upd H a o) h' a o):YW P w (upd H a o) h':=λb u e=>by
 let g:=x.fresh i;by_cases f:b=a
 ·subst f;rw[ZO] at e;cases e;exact d
 ·rw[ZU f] at e;exact(x b u e).stay (λc v _ q=>k c v q) (λc q=>by rw[ZU (Za q g)];exact q) λc j q=>by rw[ZU (Za q g)];exact q
end
def Rd(H:Hp)(a:aj)(u:HO):Prop:=H a=some u\/∃ o,H a=some (.frz o u)
def Rd.of{H:Hp}{a:aj}{u:HO}(h:H a=some u):Rd H a u:=.inl h
def Rd.ok{P:am}{w:aw}{H:Hp}{h:aD}{a:aj}{u:HO}(r:Rd H a u)(x:YW P w H h):Zk P w H h a u:=by
 rcases r with r | ⟨o,r⟩
 ·exact x a u r
 ·let⟨_,q⟩:=x a _ r;exact q
def MF:Option HO->Prop
 | some (.lst _)=>True
 | some (.dK _)=>True
 | some (.dT _)=>True
 | some (.set _ _)=>True
 | some (.ins _ _ _)=>True
 | some (.ext _)=>True
 | _=>False
section
variable{P:am}{w:aw}{H:Hp}{h h':aD}{x e:aj}{o':HO}
def YW.write(t:YW P w H h)(j:MF (H x))(o:e=x\/H e=some (.own x))(k:∀ b u,b≠e->h.get? b=some u->h'.get? b=some u)(m:∃ u,h'.get? e=some u)(n:Zk P w (upd H x o') h' x o'):YW P w (upd H x o') h':=λb u q=>by
 let d:∀ c y,H c=some (.own y)->c≠x:=λc y r z=>by subst z;rw[r] at j;exact j
 let f:∀ c l,H c=some (.tup l)->c≠x:=λc l r z=>by subst z;rw[r] at j;exact j
 by_cases g:b=x
 ·subst g;rw[ZO] at q;cases q;exact n
 ·rw[ZU g] at q;by_cases a:b=e
  ·let p:H b=some (.own x):=by
    rcases o with z | z
    ·exact absurd (a.trans z) g
    ·rw[a];exact z
   rw[q] at p;cases p;let⟨v,s⟩:=m;exact⟨v,by rw[a];exact s⟩
  ·refine(t b u q).stay (λc v i r=>k c v ?_ r) (λc r=>by rw[ZU (d c b r)];exact r) λc l r=>by rw[ZU (f c l r)];exact r
   rcases i with rfl | i
   ·exact a
   ·rintro rfl;rcases o with z | z
    ·exact d c b i z
    ·rw[i] at z;cases z;exact g Z
end
structure Un(fs ex:ju)(H H':Hp)(h h':aD):Prop where
 keep:∀ b o,h.get? b=some o->H b=none->b∉fs->b∉ex->h'.get? b=some o
 slot:∀ b o,h.get? b=some o->H b=none->b∈fs->b∉ex->∃ sl,h'.get? b=some { o with slots:=sl }
 free:∀ b o,h.get? b=some o->H b=none->b∉ex->H' b=none
 there:∀ b o,h.get? b=some o->b∉ex->∃ o',h'.get? b=some o'
 tups:∀ b xs,H b=some (.tup xs)->H' b=some (.tup xs)
 frzs:∀ b o u,H b=some (.frz o u)->H' b=some (.frz o u)
 tbls:∀ b ps,H b=some (.tbl ps)->∃ more,H' b=some (.tbl (ps++more))
section
variable{fs fs' ex ex':ju}{H H1 H2:Hp}{h h1 h2 h':aD}{a x e:aj}{o:HO}
def Un.any(u:Un fs ex H H1 h h1){b:aj}{c:aJ}(q:h.get? b=some c)(n:H b=none)(f:b∉ex):∃ g,h1.get? b=some { c with slots:=g }:=by
 by_cases d:b∈fs
 ·exact u.slot b c q n d f
 ·exact⟨c.slots,u.keep b c q n d f⟩
def Un.kept(k:∀ b u,h.get? b=some u->h'.get? b=some u):Un fs ex H H h h':=
 ⟨λb c q _ _ _=>k b c q,λb c q _ _ _=>⟨c.slots,k b c q⟩,λ_ _ _ n _=>n,λb c q _=>⟨c,k b c q⟩,λ_ _ q=>q,λ_ _ _ q=>q,λ_ d q=>⟨#[],by rw[q];simp⟩⟩
def Un.refl:Un fs ex H H h h:=Un.kept λ_ _ q=>q
def Un.laid(k:∀ b u,h.get? b=some u->h'.get? b=some u)(d:h.objs.size<=a)(c:H a=none):Un fs ex H (upd H a o) h h' where
 keep:=λb u q _ _ _=>k b u q
 slot:=λb u q _ _ _=>⟨u.slots,k b u q⟩
 free:=λb u q n _=>by rw[ZU (zM (yN (zW q) d))];exact n
 there:=λb u q _=>⟨u,k b u q⟩
 tups:=λb f q=>by rw[ZU (Za q c)];exact q
 frzs:=λb u f q=>by rw[ZU (Za q c)];exact q
 tbls:=λb g q=>⟨#[],by rw[ZU (Za q c),q];simp⟩
def Un.write(d:MF (H x))(l:e=x\/H e=some (.own x))(k:∀ b u,b≠e->h.get? b=some u->h'.get? b=some u)(f:∃ u,h'.get? e=some u):Un fs ex H (upd H x o) h h':=by
 let j:∀ b,H b=none->b≠x:=λb n z=>by subst z;rw[n] at d;exact d
 let i:∀ b,H b=none->b≠e:=λb n z=>by
  subst z;rcases l with r | r
  ·exact j b n r
  ·rw[n] at r;cases r
 let g:∀ b u,H b=some u->¬ MF (some u)->b≠x:=λb u q m z=>by subst z;rw[q] at d;exact m d
 refine⟨λb u q n _ _=>k b u (i b n) q,λb u q n _ _=>⟨u.slots,k b u (i b n) q⟩,λb u q n _=>by rw[ZU (j b n)];exact n,λb u q _=>?_,
  λb p q=>by rw[ZU (g b _ q λz=>z)];exact q,λb u p q=>by rw[ZU (g b _ q λz=>z)];exact q,λb s q=>⟨#[],by rw[ZU (g b _ q λz=>z),q];simp⟩⟩
 by_cases c:b=e
 ·subst c;exact f
 ·exact⟨u,k b u c q⟩
end
def Mi(h:aD)(H:Hp):List Addr:=(zV h.objs.size).filter λa=>(H a).isSome
def UA(h:aD)(H:Hp):Heap:=vY h (Mi h H)
def Fp(h:aD)(H:Hp):(UA h H).objs.size=h.objs.size:=PySem.W.hideAll_size _ _
def Hi{h:aD}{H:Hp}{b:aj}{o:aJ}(e:h.get? b=some o)(n:H b=none):(UA h H).get? b=some o:=
 sW _ e λa=>by
  let q:(H b).isSome=true:=(wS.mp a).2;rw[n] at q;simp at q
def GU{h:aD}{H:Hp}{b:aj}{o:aJ}(e:(UA h H).get? b=some o):h.get? b=some o/\H b=none:=by
 let a:h.get? b=some o:=uJ (Mi h H) e;exists a
 cases q:H b with
 | none=>rfl
 | some x=>
  let c:b∈Mi h H:=wS.mpr ⟨yC.mpr (zW a),by simp[q]⟩
  let z:(UA h H).get? b=none:=sQ (Mi h H) c;rw[z] at e;cases e
def BX(g h:aD)(L:aj):js:=(zV h.objs.size).filterMap λa=>if a=L\/(g.get? a).isSome=true then none else (h.get? a).map λo=>(a,o)
def rest(g h:aD)(L d:aj):js:=(BX g h L).filter λp=>decide (p.1≠d)
structure Mod(K:zZ)(mg:jb)(jX:aD):Prop where
 kin:K.In jX
 glob:jX.Ns ap mg
 blt:∃ mb,jX.Ns builtinsNs mb/\∀ x:Str,x ≠ "__name__"->mb x=ay x
 nolimit:jX.NoLimit
structure Cx where
 prog:am
 w:aw
 K:zZ
 mg:jb
 base:aD
 A:ax
 N:jq
 s₀:al
 H₀:Hp
 env:Env
 outer:jA
 stack:jA
 ex:ju
 fn:Str->Bool
 calm:Bool
 pn:js
 xe:ja
def frs(l:jA):List Addr:=l.filterMap (·.frame)
abbrev Cx.fs(X:Cx):List Addr:=frs X.outer
def Mc(a:aE)(x:Str):Prop:=a.names.lookup x=some .local\/a.names.lookup x=some .cell\/a.names.lookup x=some .free
def NO(a:aE)(x:Str):Prop:=a.names.lookup x=some .local\/a.names.lookup x=some .cell
def ZQk(a:Env)(h:aD)(m:jb)(x:Str)(u:ai):Prop:=
 (a.kindOf x=some .local/\m x=some u)\/((a.kindOf x=some .cell\/a.kindOf x=some .free)/\∃ c,a.cells.lookup x=some c/\h.IsCell c (some u))
structure Cx.Ok(X:Cx):Prop where
 mod:Mod X.K X.mg X.base
 kind:X.env.scope.kind=.function
 glob:X.env.globals=ap
 blt:X.env.builtins=builtinsNs
 above:X.s₀.heap.objs.size<=X.env.locals
 inj:∀ x y c,X.env.cells.lookup x=some c->X.env.cells.lookup y=some c->x=y
 has:∀ x,(X.env.kindOf x=some .cell\/X.env.kindOf x=some .free)->∃ c,X.env.cells.lookup x=some c
 cab:∀ x c,X.fn x=true->X.env.cells.lookup x=some c->X.s₀.heap.objs.size<=c
 hd:X.calm=true->X.A.handled=none
 frames:X.A.frames=some X.stack
 stk:X.stack=X.outer\/(X.stack=X.env::X.outer/\X.env.frame=some X.env.locals)
 exf:∀ b∈X.ex,b≠X.env.locals/\∀ x c,X.env.cells.lookup x=some c->c≠b
 bs:∀ b o,X.base.get? b=some o->X.s₀.heap.get? b=some o/\X.H₀ b=none
 bsz:X.base.objs.size<=X.s₀.heap.objs.size
 noex:∀ b o,X.base.get? b=some o->b∉X.ex
 exfs:∀ b∈X.ex,b∉X.fs
 funs:X.s₀.heap.FunFrames X.base X.outer
 frf:∀ b∈X.fs,X.H₀ b=none
structure ZI(X:Cx)(jW:js)(σ:List (jf))(H:Hp)(s:al):Prop where
 ok:X.Ok
 os:s.os=X.s₀.os
 bare:AllBare s.gens
 base:Un X.fs X.ex X.H₀ H X.s₀.heap s.heap
 loc:∃ m,s.heap.Ns X.env.locals m/\∀(i:Nat)(x:Str)(v:V),X.N[i]? = some x->σ[i]? = some (some v)->Mc X.env.scope x->∃ u,ZY v u/\ZQk X.env s.heap m x u
 cell:∀ x c,X.env.cells.lookup x=some c->∃ v,s.heap.IsCell c v
 free:H X.env.locals=none
 freeC:∀ x c,X.env.cells.lookup x=some c->H c=none
 pin:∀ p∈X.pn++jW,s.heap.get? p.1=some p.2/\H p.1=none/\p.1≠X.env.locals/\p.1∉X.fs/\∀ v,p.2.data≠.cell v
 hok:YW X.prog X.w H s.heap
 len:σ.length=X.N.length
section
variable{X:Cx}{jW:js}{σ:List (jf)}{H H':Hp}{s:al}{h':aD}
def Cx.Ok.nofr(c:X.Ok){b:aj}{o:aJ}(e:X.base.get? b=some o):b∉X.fs:=λa=>by
 have:=(c.funs.mem a).1;rw[e] at this;cases this
def ZI.bs(I:ZI X jW σ H s):∀ b o,X.base.get? b=some o->s.heap.get? b=some o/\H b=none:=λb o e=>
 ⟨I.base.keep b o (I.ok.bs b o e).1 (I.ok.bs b o e).2 (I.ok.nofr e) (I.ok.noex b o e),I.base.free b o (I.ok.bs b o e).1 (I.ok.bs b o e).2 (I.ok.noex b o e)⟩
def ZI.bk(I:ZI X jW σ H s):∀ b o,X.base.get? b=some o->s.heap.get? b=some o:=λb o e=>(I.bs b o e).1
def ZI.mod(I:ZI X jW σ H s):Mod X.K X.mg X.base:=I.ok.mod
def ZI.kIn(I:ZI X jW σ H s):X.K.In s.heap:=I.ok.mod.kin.keeps I.bk
def ZI.lt(I:ZI X jW σ H s):X.env.locals<s.heap.objs.size:=let ⟨_,hn,_⟩:=I.loc;hn.lt
def ZI.sz(I:ZI X jW σ H s):X.s₀.heap.objs.size<=s.heap.objs.size:=zC I.ok.above (xX I.lt)
def ZI.nofs(I:ZI X jW σ H s){a:aj}(h:s.heap.objs.size<=a):a∉X.fs:=λb=>by
 let⟨_,o,c,_⟩:=I.ok.funs.mem b;exact absurd (yN (zW c) (zC I.sz h)) (wY _)
def ZI.cne(I:ZI X jW σ H s):∀ x c,X.env.cells.lookup x=some c->c≠X.env.locals:=λx c e z=>by
 let⟨v,o,f,d⟩:=I.cell x c e;let⟨m,⟨i,h,g,b,a,_⟩,_⟩:=I.loc;rw[z,b] at f;cases f;rw[a] at d;cases d
def ZI.funs(I:ZI X jW σ H s):s.heap.FunFrames X.base X.outer:=by
 let a:∀(l:jA),(∀ b∈frs l,b∈X.fs)->X.s₀.heap.FunFrames X.base l->s.heap.FunFrames X.base l:=by
  intro l
  induction l with
  | nil=>intro _ _;trivial
  | cons h r q=>
   intro g k;let⟨j,⟨L,o,f,m,n,i⟩,p⟩:=k;let c:L∈X.fs:=g L (by unfold frs;rw[uM,f];exact zK)
   let⟨t,e⟩:=I.base.slot L o n (I.ok.frf L c) c λz=>I.ok.exfs L z c;exact⟨j,⟨L,_,f,m,e,i⟩,q (λb d=>g b (by unfold frs;rw[uM,f];exact zI _ d)) p⟩
 exact a X.outer (λ_ d=>d) I.ok.funs
def ZI.stack(I:ZI X jW σ H s):s.heap.FunFrames X.base X.stack:=by
 rcases I.ok.stk with e | ⟨e,a⟩
 ·rw[e];exact I.funs
 ·rw[e];let⟨m,b,_⟩:=I.loc;refine .cons (by rw[I.ok.kind];decide) a b ?_ I.funs
  exact uI (zC I.ok.bsz I.ok.above)
def ZI.stkSub(I:ZI X jW σ H s):∀ b∈frs X.stack,b∈X.env.locals::X.fs:=λb a=>by
 rcases I.ok.stk with e | ⟨e,c⟩
 ·rw[e] at a;exact zI _ a
 ·rw[e] at a;unfold frs at a;rw[uM,c] at a;exact a
def ZI.stkFree(I:ZI X jW σ H s):∀ b∈frs X.stack,H b=none:=λb a=>by
 rcases zF.mp (I.stkSub b a) with e | a
 ·rw[e];exact I.free
 ·let⟨_,o,c,_⟩:=I.ok.funs.mem a;exact I.base.free b o c (I.ok.frf b a) λz=>I.ok.exfs b z a
def ZI.step{g':Array GenState}{t':Nat}{d':Drawn}{ch:ju}(I:ZI X jW σ H s)(h:∀ b∈ch,(b∈X.ex\/X.s₀.heap.objs.size<=b)/\b≠X.env.locals/\(∀ x c,X.env.cells.lookup x=some c->c≠b)/\∀ p∈X.pn++jW,p.1≠b)(j:∀ b o,b≠X.env.locals->b∉X.fs->b∉ch->s.heap.get? b=some o->H b=none->h'.get? b=some o)(B:∀ b o,b≠X.env.locals->b∈X.fs->b∉ch->s.heap.get? b=some o->H b=none->∃ S,h'.get? b=some { o with slots:=S })(f:∀ b o,b∉ch->s.heap.get? b=some o->H b=none->H' b=none)(E:∀ b o,b∉ch->s.heap.get? b=some o->∃ M,h'.get? b=some M)(O:∀ b C,H b=some (.tup C)->H' b=some (.tup C))(J:∀ b o u,H b=some (.frz o u)->H' b=some (.frz o u))(N:∀ b P,H b=some (.tbl P)->∃ K,H' b=some (.tbl (P++K)))(ns:∀ m,s.heap.Ns X.env.locals m->h'.Ns X.env.locals m)(R:YW X.prog X.w H' h')(hg:AllBare g'):
  ZI X jW σ H' { s with heap:=h',gens:=g',drawn:=d',toks:=t' }:=by
 let L:∀ b o,X.s₀.heap.get? b=some o->b≠X.env.locals:=λb o e=>zM (yN (zW e) I.ok.above);let A:∀ b o,X.s₀.heap.get? b=some o->b∉X.ex->b∉ch:=λb o e a D=>by
  rcases(h b D).1 with z | z
  ·exact a z
  ·exact absurd (yN (zW e) z) (wY _)
 let g:∀ x c,X.env.cells.lookup x=some c->∀ v,s.heap.IsCell c v->h'.IsCell c v:=λx c e v ⟨o,F,Q⟩=>by
  let t:c∉ch:=λz=>(h c z).2.2.1 x c e Z;by_cases U:c∈X.fs
  ·let⟨S,q⟩:=B c o (I.cne x c e) U t F (I.freeC x c e);exact⟨_,q,Q⟩
  ·exact⟨o,j c o (I.cne x c e) U t F (I.freeC x c e),Q⟩
 refine⟨I.ok,I.os,hg,⟨λb o e n D a=>?_,λb o e n D a=>?_,λb o e n a=>?_,λb o e a=>?_,λb C e=>O b C (I.base.tups b C e),λb o C e=>J b o C (I.base.frzs b o C e),λb P e=>?_⟩,?_,λx c e=>?_,?_,λx c e=>?_,λp V=>?_,R,I.len⟩
 ·exact j b o (L b o e) D (A b o e a) (I.base.keep b o e n D a) (I.base.free b o e n a)
 ·let⟨S,y⟩:=I.base.slot b o e n D a;let⟨T,G⟩:=B b _ (L b o e) D (A b o e a) y (I.base.free b o e n a);exact⟨T,G⟩
 ·let⟨M,y⟩:=I.base.there b o e a;exact f b M (A b o e a) y (I.base.free b o e n a)
 ·let⟨M,y⟩:=I.base.there b o e a;exact E b M (A b o e a) y
 ·let⟨m1,y⟩:=I.base.tbls b P e;let⟨m2,G⟩:=N b _ y;exact⟨m1++m2,by rw[G,vJ]⟩
 ·let⟨m,hn,hl⟩:=I.loc;exists m,ns m hn;intro i x v y G e3;let⟨u,r,l⟩:=hl i x v y G e3;exists u,r;rcases l with l | ⟨k,c,e,z⟩
  ·exact .inl l
  ·exact .inr ⟨k,c,e,g x c e _ z⟩
 ·let⟨v,z⟩:=I.cell x c e;exact⟨v,g x c e v z⟩
 ·let⟨m,⟨o,_,_,F,_⟩,_⟩:=I.loc;exact f _ o (λz=>(h _ z).2.1 Z) F I.free
 ·let⟨v,o,F,Q⟩:=I.cell x c e;exact f c o (λz=>(h c z).2.2.1 x c e Z) F (I.freeC x c e)
 ·let⟨e,n,W,Y,d⟩:=I.pin p V;let t:p.1∉ch:=λz=>(h p.1 z).2.2.2 p V Z;exact⟨j p.1 p.2 W Y t e n,f p.1 p.2 t e n,W,Y,d⟩
def ZI.un{t':Nat}(I:ZI X jW σ H s)(u:Un X.fs [] H H' s.heap h')(g:YW X.prog X.w H' h'):ZI X jW σ H' { s with heap:=h',toks:=t' }:=by
 let⟨m,⟨o,p,l,h,r⟩,_⟩:=id I.loc;let⟨v,i⟩:=u.any h I.free (by simp)
 exact I.step (g':=s.gens) (d':=s.drawn) (ch:=[]) (λ_ z=>nomatch z) (λb o _ f _ e n=>u.keep b o e n f (by simp)) (λb o _ f _ e n=>u.slot b o e n f (by simp)) (λb o _ e n=>u.free b o e n (by simp)) (λb o _ e=>u.there b o e (by simp)) u.tups u.frzs u.tbls (λq j=>by
  let⟨t,d,c,a,k⟩:=j;rw[h] at a;cases a;exact⟨_,d,c,i,k⟩) g I.bare
def ZI.call{g':Array GenState}{t':Nat}{d':Drawn}{ch:ju}(I:ZI X jW σ H s)(u:Un (frs X.stack) ch H H' s.heap h')(j:YW X.prog X.w H' h')(q:AllBare g')(d:∀ b∈ch,(b∈X.ex\/X.s₀.heap.objs.size<=b)/\b≠X.env.locals/\(∀ x c,X.env.cells.lookup x=some c->c≠b)/\∀ p∈X.pn++jW,p.1≠b):
  ZI X jW σ H' { s with heap:=h',gens:=g',drawn:=d',toks:=t' }:=by
 let⟨m,⟨o,A,y,k,r⟩,_⟩:=id I.loc;let⟨D,i⟩:=u.any k I.free λz=>(d _ z).2.1 Z;exact I.step (ch:=ch) d (λb o i l a e n=>u.keep b o e n (λz=>(zF.mp (I.stkSub b z)).elim i l) a) (λb o _ _ a e n=>u.any e n a) (λb o a e n=>u.free b o e n a) (λb o a e=>u.there b o e a) u.tups u.frzs u.tbls (λB t=>by
  let⟨C,h,g,f,v⟩:=t;rw[k] at f;cases f;exact⟨_,h,g,i,v⟩) j q
def ZI.turned{t':Nat}{it:aj}(I:ZI X jW σ H s)(k:∀ b o,b≠it->s.heap.get? b=some o->h'.get? b=some o)(y:H it=none)(f:it≠X.env.locals)(i:it∈X.ex\/X.s₀.heap.objs.size<=it)(j:∀ x c,X.env.cells.lookup x=some c->c≠it)(l:∀ p∈X.pn++jW,p.1≠it):ZI X jW σ H { s with heap:=h',toks:=t' }:=by
 let d:∀ b u,H b=some u->b≠it:=λb u e z=>by rw[z,y] at e;cases e
 refine I.step (g':=s.gens) (d':=s.drawn) (ch:=[it]) (λb t=>?_) (λb o _ _ a e _=>k b o (λz=>a (by simp[z])) e) (λb o _ _ a e _=>⟨o.slots,k b o (λz=>a (by simp[z])) e⟩) (λ_ _ _ _ n=>n)
  (λb o a e=>⟨o,k b o (λz=>a (by simp[z])) e⟩) (λ_ _ e=>e) (λ_ _ _ e=>e) (λb B e=>⟨#[],by rw[e];simp⟩) (λm w=>?_) (λb u e=>?_) I.bare
 ·let e:b=it:=by simpa using t
  subst e;exact⟨i,f,j,l⟩
 ·let⟨o,h,g,A,r⟩:=w;exact⟨o,h,g,k _ o (Ne.symm f) A,r⟩
 ·refine(I.hok b u e).stay (λc v a q=>k c v ?_ q) (λ_ q=>q) λ_ _ q=>q;rcases a with z | z
  ·rw[z];exact d b u e
  ·exact d c _ z
def ZI.tok(I:ZI X jW σ H s)(t:Nat):ZI X jW σ H { s with toks:=t }:=I.un (h':=s.heap) (t':=t) Un.refl I.hok
def ZI.kept{t':Nat}(I:ZI X jW σ H s)(k:∀ b u,s.heap.get? b=some u->h'.get? b=some u):ZI X jW σ H { s with heap:=h',toks:=t' }:=I.un (Un.kept k) (I.hok.kept k)
def ZI.laid{a:aj}{o:HO}{t':Nat}(I:ZI X jW σ H s)(k:∀ b u,s.heap.get? b=some u->h'.get? b=some u)(c:s.heap.objs.size<=a)(d:Zk X.prog X.w (upd H a o) h' a o):
  ZI X jW σ (upd H a o) { s with heap:=h',toks:=t' }:=I.un (Un.laid k c (I.hok.fresh c)) (I.hok.laid k c d)
def ZI.write{x e:aj}{o:HO}{g:Nat}(I:ZI X jW σ H s)(f:MF (H x))(d:e=x\/H e=some (.own x))(k:∀ b u,b≠e->s.heap.get? b=some u->h'.get? b=some u)(a:∃ u,h'.get? e=some u)(c:Zk X.prog X.w (upd H x o) h' x o):ZI X jW σ (upd H x o) { s with heap:=h',toks:=g }:=I.un (Un.write f d k a) (I.hok.write f d k a c)
def ZI.pins_of{a:js}(I:ZI X jW σ H s)(h:∀ p∈a,s.heap.get? p.1=some p.2/\H p.1=none/\p.1≠X.env.locals/\p.1∉X.fs/\∀ v,p.2.data≠.cell v):ZI X a σ H s:=
 ⟨I.ok,I.os,I.bare,I.base,I.loc,I.cell,I.free,I.freeC,λp b=>(yQ.mp b).elim (λz=>I.pin p (xM _ z)) (h p),I.hok,I.len⟩
def Kp{N:jq}(e:N.Nodup){i j:Nat}{x:Str}(a:N[i]? = some x)(b:N[j]? = some x):i=j:=by
 let⟨f,c⟩:=yH.mp a;let⟨g,d⟩:=yH.mp b;exact(List.getElem_inj e).mp (c.trans d.symm)
def EB{M:Model}{A:ax}{E:ja}{i:Nat}{x:Str}{v:V}{u:ai}{Q:Unit->al->Prop}(I:ZI X jW σ H s)(hN:X.N.Nodup)(T:X.N[i]? = some x)(B:NO X.env.scope x)(r:ZY v u)(h:∀ s',ZI X jW (σ.set i (some v)) H s'->(∃ a,wG a s.heap s'.heap/\(a=X.env.locals\/X.env.cells.lookup x=some a))->Q () s')(hf:X.fn x=true\/X.env.scope.names.lookup x=some .local:=by first | exact .inl rfl | exact .inr rfl | assumption):aB M A (storeName X.env x u) Q E s:=by
 let⟨m,hn,hl⟩:=id I.loc;let S:(X.env.scope.kind==.class || (X.env.scope.kind==.module&&X.env.locals != X.env.globals))=false:=by rw[I.ok.kind];rfl
 let F:i<σ.length:=by rw[I.len];exact(yH.mp T).1
 let J:=I.cne;let l:∀{a:aj}{h':aD},(∃ o,s.heap.get? a=some o/\H a=none)->wG a s.heap h'->YW X.prog X.w H h':=fun{a h'} ha f b ob e=>by
  let⟨_,_,C⟩:=ha;refine(I.hok b ob e).stay (λc w' t q=>(f.2 c ?_).trans q) (λ_ q=>q) λ_ _ q=>q;rintro rfl;rcases t with rfl | t
  ·rw[C] at e;cases e
  ·rw[C] at t;cases t
 rcases B with G | G
 ·refine wpAny_storeName_local G hn (λh' a0 f=>?_) S;let⟨oL,_,_,a1,_⟩:=id hn;refine h _ ⟨I.ok,I.os,I.bare,⟨λb o e n K B=>?_,λb o e n K B=>?_,I.base.free,λb o e B=>?_,I.base.tups,I.base.frzs,I.base.tbls⟩,⟨_,a0,λj y v' g D e3=>?_⟩,λy c e=>?_,I.free,I.freeC,λp hp=>?_,l ⟨oL,a1,I.free⟩ f,by simpa using I.len⟩ ⟨_,f,.inl Z⟩
  ·exact(f.2 b (zM (yN (zW e) I.ok.above))).trans (I.base.keep b o e n K B)
  ·let⟨sl,g⟩:=I.base.slot b o e n K B;exact⟨sl,(f.2 b (zM (yN (zW e) I.ok.above))).trans g⟩
  ·let⟨o',g⟩:=I.base.there b o e B;exact⟨o',(f.2 b (zM (yN (zW e) I.ok.above))).trans g⟩
  ·by_cases O:j=i
   ·subst O;rw[T] at g;cases g;rw[sP F] at D;cases D;exact⟨u,r,.inl ⟨G,by simp⟩⟩
   ·rw[sY (Ne.symm O)] at D;let⟨u',r',q⟩:=hl j y v' g D e3;exists u',r';rcases q with ⟨k,e⟩ | ⟨k,c,e,z⟩
    ·refine .inl ⟨k,?_⟩;have:y≠x:=λe=>O (Kp hN g (e ▸ T));simp[this,e]
    ·exact .inr ⟨k,c,e,z.sameBut f (J y c e)⟩
  ·let⟨w',z⟩:=I.cell y c e;exact⟨w',z.sameBut f (J y c e)⟩
  ·let⟨e,n,ne,nf,d⟩:=I.pin p hp;exact⟨(f.2 p.1 ne).trans e,n,ne,nf,d⟩
 ·let L:X.fn x=true:=by
   rcases hf with z | z
   ·exact z
   ·rw[z] at G;cases G
  let⟨c,t⟩:=I.ok.has x (.inl G);let⟨w',z⟩:=I.cell x c t;refine wpAny_storeName_cell I.ok.kind G t z (λh' P f=>?_);let⟨oc,U,W⟩:=id z;refine h { s with heap:=h' } ⟨I.ok,I.os,I.bare,⟨λb o e n K B=>?_,λb o e n K B=>?_,I.base.free,λb o e B=>?_,I.base.tups,I.base.frzs,I.base.tbls⟩,⟨m,hn.sameBut f (Ne.symm (J x c t)),λj y v' g D e3=>?_⟩,λy Y e=>?_,I.free,I.freeC,λp hp=>?_,l ⟨oc,U,I.freeC x c t⟩ f,by simpa using I.len⟩ ⟨c,f,.inr t⟩
  ·exact(f.2 b (zM (yN (zW e) (I.ok.cab x c L t)))).trans (I.base.keep b o e n K B)
  ·let⟨sl,g⟩:=I.base.slot b o e n K B;exact⟨sl,(f.2 b (zM (yN (zW e) (I.ok.cab x c L t)))).trans g⟩
  ·let⟨o',g⟩:=I.base.there b o e B;exact⟨o',(f.2 b (zM (yN (zW e) (I.ok.cab x c L t)))).trans g⟩
  ·by_cases O:j=i
   ·subst O;rw[T] at g;cases g;rw[sP F] at D;cases D;exact⟨u,r,.inr ⟨.inl G,c,t,P⟩⟩
   ·rw[sY (Ne.symm O)] at D;let⟨u',r',q⟩:=hl j y v' g D e3;exists u',r';rcases q with q | ⟨k,Y,e,z'⟩
    ·exact .inl q
    ·refine .inr ⟨k,Y,e,z'.sameBut f ?_⟩;rintro rfl;exact O (Kp hN g (I.ok.inj _ _ _ e t ▸ T))
  ·by_cases R:Y=c
   ·subst R;exact⟨_,P⟩
   ·let⟨w2,z2⟩:=I.cell y Y e;exact⟨w2,z2.sameBut f R⟩
  ·let⟨e,n,ne,nf,d⟩:=I.pin p hp;refine⟨(f.2 p.1 ?_).trans e,n,ne,nf,d⟩;intro q;rw[q,U] at e;let q':oc=p.2:=zG.inj e;exact d w' (by rw[<-q'];exact W)
def Lf{M:Model}{A:ax}{E:ja}{i:Nat}{x:Str}{v:V}{u:ai}{Q:Unit->al->Prop}(I:ZI X jW σ H s)(c:X.N.Nodup)(e:X.N[i]? = some x)(f:NO X.env.scope x)(r:ZY v u)(h:∀ a,ZI X jW (σ.set i (some v)) H a->Q () a)(d:X.fn x=true\/X.env.scope.names.lookup x=some .local:=by first | exact .inl rfl | exact .inr rfl | assumption):aB M A (storeName X.env x u) Q E s:=
 EB I c e f r (λa b _=>h a b) d
def ZI.call'{s':al}{ch:ju}(I:ZI X jW σ H s)(i:s'.os=s.os)(u:Un (frs X.stack) ch H H' s.heap s'.heap)(d:YW X.prog X.w H' s'.heap)(h:AllBare s'.gens)(a:∀ b∈ch,(b∈X.ex\/X.s₀.heap.objs.size<=b)/\b≠X.env.locals/\(∀ x c,X.env.cells.lookup x=some c->c≠b)/\∀ p∈X.pn++jW,p.1≠b):ZI X jW σ H' s':=by
 let⟨h',g,f,k,j⟩:=s';let e:j=s.os:=i;subst e;exact I.call (g':=g) (t':=k) (d':=f) u d h a
end
abbrev XK:=ai->jv->Hp->Prop
abbrev St:=List (jf)
abbrev VK:=V->Hp->Prop
abbrev TE:=St->Hp->VK->Prop
abbrev TT:=St->Hp->(Bool->Hp->Prop)->Prop
abbrev TA:=St->Hp->(je->Hp->Prop)->Prop
structure Yf where
 nx:St->Hp->Prop
 rt:VK
 bk:St->Hp->Prop:=λ_ _=>False
 ct:St->Hp->Prop:=λ_ _=>False
abbrev TS:=Yf->St->Hp->Prop
def EP(X:Cx)(a:js)(d:St)(Q:VK)(u:ai)(c:al):Prop:=∃ v b,ZI X a d b c/\ZY v u/\Q v b
def TP(X:Cx)(a:js)(e:St)(Q:Bool->Hp->Prop)(b:Bool)(d:al):Prop:=∃ c,ZI X a e c d/\Q b c
def AP(X:Cx)(a:js)(f:St)(Q:je->Hp->Prop)(e:jd)(d:al):Prop:=∃ c b,ZI X a f b d/\ZR c e/\Q c b
def SP(X:Cx)(b:js)(D:Yf)(f:Flow)(d:al):Prop:=
 match f with
 | .next=>∃ a c,ZI X b a c d/\D.nx a c
 | .brk=>∃ a c,ZI X b a c d/\D.bk a c
 | .cont=>∃ a c,ZI X b a c d/\D.ct a c
 | .ret u=>∃ v a c,ZI X b a c d/\ZY v u/\D.rt v c
def PE(X:Cx)(e:Expr)(t:TE):Prop:=
 ∀(a:js)(s:al)(b:St)(H:Hp)(Q:VK),ZI X a b H s->t b H Q->aB (aA X.prog X.w) X.A (aI e X.env) (EP X a b Q) X.xe s
def PT(X:Cx)(e:Expr)(t:TT):Prop:=
 ∀(a:js)(s:al)(b:St)(H:Hp)(Q:Bool->Hp->Prop),ZI X a b H s->t b H Q->aB (aA X.prog X.w) X.A (isTrue e X.env (aI e X.env)) (TP X a b Q) X.xe s
def PW(X:Cx)(e:Expr)(t:TT):Prop:=
 ∀(b:Sem ai)(a:js)(s:al)(c:St)(H:Hp)(Q:Bool->Hp->Prop),ZI X a c H s->t c H Q->aB (aA X.prog X.w) X.A (isTrue e X.env b) (TP X a c Q) X.xe s
def PW.pt{X:Cx}{e:Expr}{t:TT}(h:PW X e t):PT X e t:=h _
def PA(X:Cx)(d:jx)(t:TA):Prop:=
 ∀(b:aK)(a:js)(s:al)(c:St)(H:Hp)(Q:je->Hp->Prop),ZI X a c H s->t c H Q->aB (aA X.prog X.w) X.A (spliced (aG b (ar d X.env))) (AP X a c Q) X.xe s
def PS(X:Cx)(c:aC)(t:TS):Prop:=
 ∀(a:js)(s:al)(b:St)(H:Hp)(D:Yf),ZI X a b H s->t D b H->aB (aA X.prog X.w) X.A (exec c X.env) (SP X a D) X.xe s
def Wf(X:Cx)(c:jL)(t:TS):Prop:=
 ∀(a:js)(s:al)(b:St)(H:Hp)(D:Yf),ZI X a b H s->t D b H->aB (aA X.prog X.w) X.A (execs c X.env) (SP X a D) X.xe s
def Z5{c:Type}{t:Sem c}{Q b:c->al->Prop}{M:Model}{A:ax}{E:ja}{s:al}(h:aB M A t Q E s)(d:∀ a s,Q a s->b a s):aB M A t b E s:=ae h d λ_ _ x=>x
def YO{d g i:Type}{t:Sem d}{a b c:d->al->g->i->Prop}{e:d->al->Prop}{M:Model}{A:ax}{E:ja}{s:al}(h:aB M A t (λv s=>∃ x H,a v s x H/\b v s x H/\c v s x H) E s)(f:∀ v s x H,a v s x H->b v s x H->c v s x H->e v s):aB M A t e E s:=Z5 h (by rintro v s ⟨x,H,p,q,r⟩;exact f v s x H p q r)
variable{X:Cx}
section
inductive Y7(i:Nat)(a:L2.St)(H:Hp)(Q:VK):Prop
 |mk(v:_)(_:a[i]? = some (some v))(_:Q v H)
def tC(v:V):TE:=λ_ H Q=>Q v H
def EC{i:Nat}{x:Str}{k:aK}(o:X.N[i]? = some x)(w:Mc X.env.scope x)(j:(x==("__debug__" : Str))=false:=by decide)(g:(x==("__classdict__" : Str))=false:=by decide):PE X (.Name x k) (Y7 i):=by
 intro f s y H Q I h;let⟨v,e,h⟩:=h;let⟨m,t,p⟩:=I.loc;let⟨u,r,l⟩:=p i x v o e w;let b:EP X f y Q u s:=⟨v,H,I,r,h⟩;rcases l with ⟨d,q⟩ | ⟨d,c,n,a⟩
 ·exact wpAny_Name (wpAny_loadName_local I.ok.kind d t q b) j
 ·rcases d with d | d
  ·exact wpAny_Name (wpAny_loadName_cell I.ok.kind d n a b) j
  ·exact wpAny_Name (wpAny_loadName_free I.ok.kind d n a b g) j
def ZJ{i j a}:PE X (.Constant (.int i) j a) (tC (.int i)):=λ_ _ _ H _ I h=>wpAny_Constant_int ⟨.int i,H,I.tok _,⟨_,Z⟩,h⟩
def Vw{b j a}:PE X (.Constant (.bool b) j a) (tC (.bl b)):=λ_ _ _ H _ I h=>Constant_bool ⟨.bl b,H,I,Z,h⟩
def P1{j a}:PE X (.Constant .none j a) (tC .non):=λ_ _ _ H _ I h=>Constant_none ⟨.non,H,I,Z,h⟩
def Yk{x j a}:PE X (.Constant (.str x) j a) (tC (.str x)):=λ_ _ _ H _ I h=>Calls.Constant_str ⟨.str x,H,I.tok _,⟨_,Z⟩,h⟩
def Gl(X:Cx)(x:Str):Prop:=X.env.kindOf x=some .globalImplicit
def Q1{E:ja}{a:js}{s:al}{f:St}{H:Hp}{x:Str}{u:ai}{b:aK}{Q:ja}(I:ZI X a f H s)(d:Gl X x)(e:X.mg x=some u)(h:Q u s)(c:(x==("__debug__" : Str))=false:=by decide):aB (aA X.prog X.w) X.A (aI (.Name x b) X.env) Q E s:=
 Calls.Name_function_global I.ok.kind d (Calls.loadGlobal_global (by rw[I.ok.glob];exact I.mod.glob.keeps I.bk) e h) c
def Pq{E:ja}{a:js}{s:al}{k:St}{H:Hp}{x:Str}{u:ai}{b:aK}{Q:ja}(I:ZI X a k H s)(f:Gl X x)(g:X.mg x=none)(j:ay x=some u)(h:Q u s)(i:x ≠ "__name__" :=by decide)(e:(x==("__debug__" : Str))=false:=by decide):aB (aA X.prog X.w) X.A (aI (.Name x b) X.env) Q E s:=by
 let⟨l,c,d⟩:=I.mod.blt;exact Calls.Name_function_global I.ok.kind f (Calls.loadGlobal_builtin (by rw[I.ok.glob];exact I.mod.glob.keeps I.bk) g (by rw[I.ok.blt];exact c.keeps I.bk) ((d x i).trans j) h) e
def Wn{x:Str}{v:V}{u:ai}{a:aK}(c:Gl X x)(d:X.mg x=some u)(r:ZY v u)(b:(x==("__debug__" : Str))=false:=by decide):PE X (.Name x a) (tC v):=
 λ_ _ _ H _ I h=>Q1 I c d ⟨v,H,I,r,h⟩ b
def Xi{x:Str}{v:V}{u:ai}{a:aK}(c:Gl X x)(d:X.mg x=none)(f:ay x=some u)(r:ZY v u)(e:x ≠ "__name__" :=by decide)(b:(x==("__debug__" : Str))=false:=by decide):PE X (.Name x a) (tC v):=
 λ_ _ _ H _ I h=>Pq I c d f ⟨v,H,I,r,h⟩ e b
variable{a b:Expr}{ta tb:TE}{pos:aK}
def PC(X:Cx)(g:CmpOp)(a b:Expr)(t:TE):Prop:=
 ∀(c:js)(s:al)(f:St)(H:Hp)(Q:VK),ZI X c f H s->t f H Q ->
  aB (aA X.prog X.w) X.A (aI a X.env) (λv d=>aB (aA X.prog X.w) X.A (aI b X.env) (λu e=>aB (aA X.prog X.w) X.A (az g v u) (EP X c f Q) X.xe e) X.xe d) X.xe s
def Gp(b:Expr){c:CmpOp}(h:c≠.In)(f:c≠.NotIn):behindInMarks c b=false:=by
 let d:(c==CmpOp.In)=false:=by cases c <;> first | rfl | exact absurd rfl h
 let e:(c==CmpOp.NotIn)=false:=by cases c <;> first | rfl | exact absurd rfl f
 cases b <;> simp[behindInMarks,d,e]
def Ax(ta:TE):TE:=λd H Q=>ta d H λx c=>Q (.bl (decide (x=.non))) c
def Bl(ta:TE):TE:=λd H Q=>ta d H λx c=>Q (.bl (!decide (x=.non))) c
def ZY.none_iff{x:V}{v:ai}(r:ZY x v):(v==Value.none)=decide (x=.non):=by
 cases x with
 | non=>cases r;rfl
 | bl _=>cases r;rfl
 | int _=>let⟨t,rfl⟩:=r;rfl
 | str _=>let⟨t,rfl⟩:=r;rfl
 | byt _=>let⟨t,rfl⟩:=r;rfl
 | flt _=>let⟨t,rfl⟩:=r;rfl
 | ref _=>cases r;rfl
 | ty _=>cases r;rfl
def Mm{j d}(g:PE X a ta):PC X .Is a (.Constant .none j d) (Ax ta):=by
 intro c s l H Q I h;refine YO (g c s l H _ I h) λv m x e f k i=>?_;exact Constant_none (is_none_gen ⟨.bl _,e,f,by rw[k.none_iff];rfl,i⟩)
def Ld{j d}(g:PE X a ta):PC X .IsNot a (.Constant .none j d) (Bl ta):=by
 intro c s l H Q I h;refine YO (g c s l H _ I h) λv m x e f k i=>?_;exact Constant_none (isnot_none_gen ⟨.bl _,e,f,by rw[k.none_iff];rfl,i⟩)
def tB(t:TE):TT:=λe H Q=>t e H λx d=>∃ c,x=.bl c/\Q c d
def Bq{d:CmpOp}{t:TE}(h:PC X d a b t)(e:behindInMarks d b=false:=by first | exact Gp _ (by decide) (by decide) | rfl):PE X (.Compare a [d] [b] pos) t:=λc s g H Q I f=>wpAny_Compare1 (h c s g H Q I f) e
def Qq{g:CmpOp}{t:TE}(h:PC X g a b t)(f:behindInMarks g b=false:=by first | exact Gp _ (by decide) (by decide) | rfl):PT X (.Compare a [g] [b] pos) (tB t):=by
 intro e s o H Q I l;refine wpAny_isTrue_Compare1 (Z5 (h e s o H _ I l) λv p f=>Z5 f λu r k=>YO k λc w x i j n m=>?_) f;let⟨d,rfl,q⟩:=m;cases n;exact wpAny_truthy_bool ⟨i,j,q⟩
def YU{e:Expr}{t:TE}(h:PE X e t)(j:∀ c,isTrue e X.env c=(do let v<-c;standAt e.pos;holding [v] (truthy v)):=by intro _;rfl):PT X e (tB t):=by
 intro f s n H Q I k;refine isTrue_plain (YO (h f s n H _ I k) λv o x g i m l=>?_) (j _);let⟨d,rfl,q⟩:=l;cases m;exact wpAny_truthy_bool ⟨g,i,q⟩
variable{tA tB':TT}{rest:jx}
def BU(t u:TT):TT:=λe H Q=>t e H λc d=>if c=true then u e d Q else Q false d
def Ac(t u:TT):TT:=λe H Q=>t e H λc d=>if c=true then Q true d else u e d Q
def Fh(t:TT):TT:=λe H Q=>t e H λc d=>Q (!c) d
def P3(f:PT X a tA):PW X (.BoolOp .And [a] pos) tA:=by
 intro j d s g H Q I h;refine isTrue_and (Z5 (f d s g H Q I h) λc i e=>?_)
 cases c with
 | true=>exact isTrue_and_nil e
 | false=>exact e
def Up(f:PT X a tA):PW X (.BoolOp .Or [a] pos) tA:=by
 intro j d s g H Q I h;refine isTrue_or (Z5 (f d s g H Q I h) λc i e=>?_)
 cases c with
 | false=>exact isTrue_or_nil e
 | true=>exact e
def Px(j:PT X a tA)(k:PW X (.BoolOp .And (b::rest) pos) tB'):PW X (.BoolOp .And (a::b::rest) pos) (BU tA tB'):=by
 intro m d s i H Q I h;refine isTrue_and (Z5 (j d s i H _ I h) ?_);rintro c l ⟨e,f,g⟩
 cases c with
 | true=>exact k m d l i e Q f g
 | false=>exact⟨e,f,g⟩
def Vh(j:PT X a tA)(k:PW X (.BoolOp .Or (b::rest) pos) tB'):PW X (.BoolOp .Or (a::b::rest) pos) (Ac tA tB'):=by
 intro m d s i H Q I h;refine isTrue_or (Z5 (j d s i H _ I h) ?_);rintro c l ⟨e,f,g⟩
 cases c with
 | true=>exact⟨e,f,g⟩
 | false=>exact k m d l i e Q f g
def Xj(f:PT X a tA):PT X (.UnaryOp .Not a pos) (Fh tA):=by
 intro d s g H Q I h;exact isTrue_not (f d s g H (λc e=>Q (!c) e) I h)
inductive OE(tb:TE)(e:L2.St)(Q:VK)(x:V)(d:Hp):Prop
 |mk(c:_)(_:x=.bl c)(_:if c=true then tb e d Q else Q (.bl false) d)
def ZPc(ta tb:TE):TE:=λc H Q=>ta c H λx d=>OE tb c Q x d
inductive MU(tb:TE)(e:L2.St)(Q:VK)(x:V)(d:Hp):Prop
 |mk(c:_)(_:x=.bl c)(_:if c=true then Q (.bl true) d else tb e d Q)
def Ei(ta tb:TE):TE:=λc H Q=>ta c H λx d=>MU tb c Q x d
inductive Oz(Q:VK)(x:V)(d:Hp):Prop
 |mk(c:_)(_:x=.bl c)(_:Q (.bl (!c)) d)
def ZPF(ta:TE):TE:=λd H Q=>ta d H λx c=>Oz Q x c
def OZ{e}{t:TE}(h:PE X a t):PE X (.BoolOp e [a] pos) t:=λc s f H Q I d=>BoolOp_one (h c s f H Q I d)
def Q2(j:PE X a ta)(k:PE X (.BoolOp .And (b::rest) pos) tb):PE X (.BoolOp .And (a::b::rest) pos) (ZPc ta tb):=by
 intro d s i H Q I h;refine BoolOp_and (YO (j d s i H _ I h) λv m x f g l e=>?_);let⟨c,rfl,e⟩:=e;cases l;refine wpAny_truthy_bool ?_
 cases c with
 | true=>exact k d m i f Q g e
 | false=>exact⟨.bl false,f,g,Z,e⟩
def ZP1(j:PE X a ta)(k:PE X (.BoolOp .Or (b::rest) pos) tb):PE X (.BoolOp .Or (a::b::rest) pos) (Ei ta tb):=by
 intro d s i H Q I h;refine BoolOp_or (YO (j d s i H _ I h) λv m x f g l e=>?_);let⟨c,rfl,e⟩:=e;cases l;refine wpAny_truthy_bool ?_
 cases c with
 | false=>exact k d m i f Q g e
 | true=>exact⟨.bl true,f,g,Z,e⟩
def FG(i:PE X a ta):PE X (.UnaryOp .Not a pos) (ZPF ta):=by
 intro d s k H Q I h;refine UnaryOp_ (YO (i d s k H _ I h) λv l x f g j e=>?_);let⟨c,rfl,e⟩:=e;cases j;exact not_of (wpAny_truthy_bool ⟨.bl (!c),f,g,Z,e⟩)
end
def ZM(K:zZ)(H:Hp)(a:aj)(c:je):Prop:=
 Rd H a (.lst c) \/
  ∃(o:aJ)(b:jz)(n:Nat),K.lookup a=some o/\o.cls=.type "list" /\ o.dict=none/\o.data=.seq b n/\b.size<=aq/\ZR c b.toList
def Zh(K:zZ)(H:Hp)(a:aj)(c:je):Prop:=
 Rd H a (.tup c) \/
  ∃(o:aJ)(b:jz)(n:Nat),K.lookup a=some o/\o.cls=.type "tuple" /\ o.data=.seq b n/\b.size<=aq/\ZR c b.toList
def ZQT:ai->jf
 | .none=>some .non
 | .bool b=>some (.bl b)
 | .int i _=>some (.int i)
 | .str x _=>some (.str x)
 | .bytes b _=>some (.byt b)
 | .float b _=>some (.flt b)
 | .ref a=>some (.ref a)
 | .type n=>some (.ty n)
 | _=>none
def ZY.abs{x:V}{u:ai}(r:ZY x u):ZQT u=some x:=by
 cases x with
 | non=>cases r;rfl
 | bl _=>cases r;rfl
 | int _=>let⟨t,rfl⟩:=r;rfl
 | str _=>let⟨t,rfl⟩:=r;rfl
 | byt _=>let⟨t,rfl⟩:=r;rfl
 | flt _=>let⟨t,rfl⟩:=r;rfl
 | ref _=>cases r;rfl
 | ty _=>cases r;rfl
def ZY.inj{x y:V}{u:ai}(r:ZY x u)(q:ZY y u):x=y:=zG.inj (r.abs.symm.trans q.abs)
def ZR.inj:∀{c a:je}{b:jd},ZR c b->ZR a b->c=a:=by intro _ a _ h g;induction h generalizing a with
 | nil=>cases g;rfl
 | cons r _ d=>cases g with
  | cons e f=>rw[r.inj e,d f]
section
variable{jW:js}{σ:St}{H:Hp}{s:al}{a:aj}{xs ys:je}
def ZM.of{K:zZ}(h:H a=some (.lst xs)):ZM K H a xs:=.inl (.inl h)
def Zh.of{K:zZ}(h:H a=some (.tup xs)):Zh K H a xs:=.inl (.inl h)
def ZI.list(I:ZI X jW σ H s)(h:ZM X.K H a xs):∃ b:jd,ZR xs b/\PlainL s.heap a b.toArray/\xs.length<=sizeLine:=by
 rcases h with h | ⟨o,b,n,f,c,d,g,i,r⟩
 ·let⟨z,b,n,r,e⟩:=h.ok I.hok;exact⟨b,r,⟨_,n,e,Z,Z,Z⟩,z⟩
 ·exists b.toList,r,⟨o,n,I.kIn a o f,c,d,by simpa using g⟩
  let e:=r.length;simp only[vT] at e
  lia
def ZI.tuple(I:ZI X jW σ H s)(h:Zh X.K H a xs):∃ b:jd,ZR xs b/\IsTup s.heap a b.toArray/\xs.length<=sizeLine:=by
 rcases h with h | ⟨o,b,n,d,c,f,g,r⟩
 ·let⟨z,b,r,p⟩:=h.ok I.hok;exact⟨b,r,p,z⟩
 ·exists b.toList,r,⟨o,I.kIn a o d,c,n,by simpa using f⟩
  let e:=r.length;simp only[vT] at e
  lia
def ZI.list_inj(I:ZI X jW σ H s)(h:ZM X.K H a xs)(i:ZM X.K H a ys):xs=ys:=by
 let⟨c,r,⟨o,n,e,_,_,d⟩,_⟩:=I.list h;let⟨b,j,⟨l,k,g,_,_,f⟩,_⟩:=I.list i;rw[e] at g;cases g;rw[d] at f;injection f with d1 _;have:c=b:=by simpa using congrArg tX d1
 subst this;exact r.inj j
def ZI.tuple_inj(I:ZI X jW σ H s)(h:Zh X.K H a xs)(i:Zh X.K H a ys):xs=ys:=by
 let⟨c,r,⟨o,e,_,n,d⟩,_⟩:=I.tuple h;let⟨b,j,⟨l,g,_,k,f⟩,_⟩:=I.tuple i;rw[e] at g;cases g;rw[d] at f;injection f with d1 _;have:c=b:=by simpa using congrArg tX d1
 subst this;exact r.inj j
end
abbrev Cx.wish(X:Cx)(E:ja):Cx:={ X with xe:=E }
abbrev Cx.nox(X:Cx):Cx:=X.wish λ_ _=>False
def Cx.Ok.wish{X:Cx}(a:X.Ok)(E:ja):(X.wish E).Ok:=
 ⟨a.mod,a.kind,a.glob,a.blt,a.above,a.inj,a.has,a.cab,a.hd,a.frames,a.stk,a.exf,a.bs,a.bsz,a.noex,a.exfs,a.funs,a.frf⟩
def Cx.Ok.unwish{X:Cx}{E:ja}(a:(X.wish E).Ok):X.Ok:=
 ⟨a.mod,a.kind,a.glob,a.blt,a.above,a.inj,a.has,a.cab,a.hd,a.frames,a.stk,a.exf,a.bs,a.bsz,a.noex,a.exfs,a.funs,a.frf⟩
section
variable{jW:js}{σ:St}{H:Hp}{s:al}{E:ja}
def ZI.wish(I:ZI X jW σ H s)(E:ja):ZI (X.wish E) jW σ H s:=⟨I.ok.wish E,I.os,I.bare,I.base,I.loc,I.cell,I.free,I.freeC,I.pin,I.hok,I.len⟩
def ZI.unwish(I:ZI (X.wish E) jW σ H s):ZI X jW σ H s:=⟨I.ok.unwish,I.os,I.bare,I.base,I.loc,I.cell,I.free,I.freeC,I.pin,I.hok,I.len⟩
def SP.unwish{D:Yf}{f:Flow}{c:al}(h:SP (X.wish E) jW D f c):SP X jW D f c:=by
 cases f with
 | next=>let⟨a,b,I,q⟩:=h;exact⟨a,b,I.unwish,q⟩
 | brk=>let⟨a,b,I,q⟩:=h;exact⟨a,b,I.unwish,q⟩
 | cont=>let⟨a,b,I,q⟩:=h;exact⟨a,b,I.unwish,q⟩
 | ret u=>let⟨v,a,b,I,r,q⟩:=h;exact⟨v,a,b,I.unwish,r,q⟩
def Wf.nox{a:jL}{t:TS}(h:Wf X.nox a t):Wf X a t:=λjW s σ H D I b=>
 ae (h jW s σ H D (I.wish _) b) (λ_ _ q=>q.unwish) λ_ _ z=>False.elim z
end
section
variable{st:aC}{rest:jL}{t u:TS}{e:Expr}{te:TE}{pos:aK}
def FP:TS:=λD a H=>D.nx a H
def Hh(t u:TS):TS:=λD a H=>t { D with nx:=u D } a H
def Zt:Wf X [] FP:=λ_ _ a H _ I h=>wpAny_execs_nil ⟨a,H,I,h⟩
def ZP(g:PS X st t)(i:Wf X rest u):Wf X (st::rest) (Hh t u):=by
 intro a s k H D I h;refine wpAny_execs_cons (Z5 (g a s k H { D with nx:=u D } I h) λf j q=>?_)
 cases f with
 | next=>
  let⟨b,c,d,q⟩:=q;exact i a j b c D d q
 | ret v=>exact q
 | brk=>exact q
 | cont=>exact q
def ZV(b:PS X st t):Wf X [st] t:=by
 intro a s c H D I h;refine wpAny_execs_cons (Z5 (b a s c H D I h) λf d q=>?_)
 cases f with
 | next=>exact wpAny_execs_nil q
 | ret v=>exact q
 | brk=>exact q
 | cont=>exact q
def ZI.quiet{a:js}{b:St}{H:Hp}{s:al}(I:ZI X a b H s):interactive X.env=false:=by simp[interactive,I.ok.kind]
def ZPf(te:TE):TS:=λD a H=>te a H λ_ b=>D.nx a b
def WB(f:PE X e te)(g:aF e none pos.line X.env=pure false:=by rfl):PS X (.Expr e pos) (ZPf te):=by
 intro a s b H D I h;exact wpAny_Expr_any (YO (f a s b H _ I h) λv k x c d j i=>⟨b,c,d,i⟩) I.quiet g
def Hu(te:TE):TS:=λD a H=>te a H D.rt
def Zl(f:PE X e te):PS X (.Return (some e) pos) (Hu te):=by
 intro a s b H D I h;exact wpAny_Return_some (YO (f a s b H _ I h) λv j x c d i g=>⟨x,b,c,d,i,g⟩)
def AY:TS:=λD _ H=>D.rt .non H
def ZMl:PS X (.Return none pos) AY:=λ_ _ a H _ I h=>wpAny_Return_none ⟨.non,a,H,I,Z,h⟩
def Ga(c:TT)(t u:TS):TS:=λD a H=>c a H λb d=>if b=true then t D a d else u D a d
def Zo{c:Expr}{a b:jL}{m:TT}(p:PT X c m)(n:Wf X a t)(o:Wf X b u):PS X (.If c a b pos) (Ga m t u):=by
 intro f s g H D I h;refine wpAny_If (Z5 (p f s g H _ I h) ?_);rintro d l ⟨i,j,k⟩
 cases d with
 | true=>exact n f l g i D j k
 | false=>exact o f l g i D j k
def Ah:TS:=λ_ _ _=>False
def Xa{a:jL}:Wf X a Ah:=λ_ _ _ _ _ _ h=>h.elim
end
abbrev TG:=V->St->Hp->(St->Hp->Prop)->Prop
abbrev NR:=je->St->Hp->(St->Hp->Prop)->Prop
def PG(X:Cx)(a:Expr)(t:TG):Prop:=
 ∀(b:js)(s:al)(e:St)(H:Hp)(v:V)(u:ai)(Q:St->Hp->Prop),ZI X b e H s->ZY v u->t v e H Q ->
  aB (aA X.prog X.w) X.A (assign a X.env u) (λ_ f=>∃ c d,ZI X b c d f/\Q c d) X.xe s
def LG(X:Cx)(h:jx)(t:NR):Prop:=
 ∀(a:js)(s:al)(f:St)(H:Hp)(e:je)(d:jd)(Q:St->Hp->Prop),ZI X a f H s->ZR e d->t e f H Q ->
  aB (aA X.prog X.w) X.A (assignInOrder ((assignEach h X.env).map (·.2)) d) (λ_ g=>∃ b c,ZI X a b c g/\Q b c) X.xe s
abbrev Ka:=V->V->V->Hp->(Hp->Prop)->Prop
def HQ(X:Cx)(t:Ka):Prop:=
 ∀(a:js)(s:al)(e:St)(H:Hp)(o i v:V)(d c u:ai)(Q:Hp->Prop),ZI X a e H s->ZY o d->ZY i c->ZY v u->t o i v H Q ->
  aB (aA X.prog X.w) X.A (setItem d c u) (λ_ f=>∃ b,ZI X a e b f/\Q b) X.xe s
section
variable{pos:aK}
def U0(i:Nat):TG:=λv a H Q=>Q (a.set i (some v)) H
def Qr{i:Nat}{x:Str}(c:X.N.Nodup)(e:X.N[i]? = some x)(f:NO X.env.scope x)(d:X.fn x=true\/X.env.scope.names.lookup x=some .local:=by first | exact .inl rfl | exact .inr rfl | assumption):PG X (.Name x pos) (U0 i):=by
 intro a s j H v u Q I r h;exact wpAny_assign_Name (Lf I c e f r (λg b=>⟨_,H,b,h⟩) d)
def Yc(i:Nat){x:Str}(a:X.N.Nodup)(c:X.N[i]? = some x:=by rfl)(d:NO X.env.scope x:=by exact Or.inl Z)(b:X.fn x=true\/X.env.scope.names.lookup x=some .local:=by first | exact .inl rfl | exact .inr rfl | assumption):PG X (.Name x pos) (U0 i):=Qr a c d b
def HJ:NR:=λa b H Q=>a=[]/\Q b H
inductive QF(t:TG)(u:NR)(c:je)(d:L2.St)(H:Hp)(Q:L2.St->Hp->Prop):Prop
 |mk(v r:_)(_:c=v::r)(_:t v d H λa b=>u r a b Q)
def Pf:LG X [] HJ:=by
 intro a s b H d c Q I r h;let⟨e,h⟩:=h;subst e;cases r;exact assignInOrder_nil ⟨b,H,I,h⟩
def Y9{e:Expr}{b:jx}{t:TG}{u:NR}(i:PG X e t)(j:LG X b u)(k:(assignEach (e::b) X.env).map (·.2)=assign e X.env::(assignEach b X.env).map (·.2):=by rfl):LG X (e::b) (QF t u):=by
 intro a s o H w p Q I r h;let⟨v,q,g,h⟩:=h;subst g
 cases r with
 | cons r m=>
  rw[k];refine assignInOrder_cons (Z5 (i a s o H _ _ _ I r h) ?_);rintro _ n ⟨c,d,f,l⟩;exact j a n c d _ _ Q f m l
inductive N9(K:zZ)(n:Nat)(t:NR)(v:V)(c:L2.St)(H:Hp)(Q:L2.St->Hp->Prop):Prop
 |mk(a b:_)(_:v=.ref a)(_:Zh K H a b)(_:b.length=n)(_:t b c H Q)
def Pg{d:jx}{k:Nat}{t:NR}{n:Nat}(q:X.calm=true)(h:LG X d t)(x:(assignEach d X.env).length=n:=by rfl)(f:(assignEach d X.env).findIdx? (·.1)=none:=by rfl):PG X (.Tuple d k pos) (N9 X.K n t):=by
 intro c s j H v u Q I r g;let⟨a,C,m,y,w,g⟩:=g;subst m;cases r;let⟨B,i,z,D⟩:=I.tuple y;refine assign_Tuple_tuple (I.ok.hd q) z (by simp[x,<-w,i.length]) f λp A=>?_
 let l:ZI X c j H { s with heap:=p }:=I.kept (t':=s.toks) λb o e=>A b o (zM (zW e)) e;exact h c _ j H C _ Q l (by simpa using i) g
def ZQl(f e:TE)(t:Ka):TG:=λv a H Q=>f a H λo b=>e a b λi c=>t o i v c λd=>Q a d
def IU{o i:Expr}{f e:TE}{t:Ka}(w:PE X o f)(q:PE X i e)(z:HQ X t)(p:∀ v,assign (.Subscript o i pos) X.env v=(do
   let b<-holding [v] (aI o X.env)
   let c<-holding [v,b] (aI i X.env)
   standAt pos
   holding [v,b,c] (setItem b c v)
   release [v,b,c] []):=by intro _;rfl):PG X (.Subscript o i pos) (ZQl f e t):=by
 intro a s d H v u Q I r h;rw[p];refine aa (af (YO (w a s d H _ I h) λb F x g l D A=>?_));refine aa (af (YO (q a F d g _ l A) λc G y j m E B=>?_));refine aa (ah (aa (af (Z5 (z a G d j x y v b c u _ m D E r B) ?_))));rintro _ J ⟨k,n,C⟩;exact wpAny_release ⟨d,k,n,C⟩
def Ks(c:TE)(g:TG):TS:=λD a H=>c a H λx b=>g x a b D.nx
def Qx{b e:Expr}{c:TE}{g:TG}(k:PE X e c)(l:PG X b g)(m:swapsWithSole [b] e pos.line X.env=pure false:=by rfl)(n:swappedStores [b] e X.env=pure none:=by rfl)(j:(assignEach [b] X.env).map (·.2)=[assign b X.env]:=by rfl):PS X (.Assign [b] e pos) (Ks c g):=by
 intro a s d H D I h;refine wpAny_Assign_stores (YO (k a s d H _ I h) λv r x f i p o=>?_) m n;rw[j];exact Z5 (l a r d f x v _ i p o) λ_ t q=>q
def V3{i:Nat}{x:Str}{e:Expr}{c:TE}{a:aK}(j:X.N.Nodup)(m:X.N[i]? = some x)(o:NO X.env.scope x)(k:PE X e c)(n:aF e (some (.Name x a)) pos.line X.env=pure false:=by rfl)(l:X.fn x=true\/X.env.scope.names.lookup x=some .local:=by first | exact .inl rfl | exact .inr rfl | assumption):
  PS X (.Assign [.Name x a] e pos) (Ks c (U0 i)):=by
 intro b s r H D I h;refine wpAny_Assign_Name (YO (k b s r H _ I h) λv t y d f q p=>?_) n;exact Lf f j m o q (λu g=>⟨_,d,g,p⟩) l
def Zx(i:Nat){x:Str}{e:Expr}{b:TE}{a:aK}(c:X.N.Nodup)(d:PE X e b)(g:X.N[i]? = some x:=by rfl)(j:NO X.env.scope x:=by exact Or.inl Z)(h:aF e (some (.Name x a)) pos.line X.env=pure false:=by rfl)(f:X.fn x=true\/X.env.scope.names.lookup x=some .local:=by first | exact .inl rfl | exact .inr rfl | assumption):
  PS X (.Assign [.Name x a] e pos) (Ks b (U0 i)):=V3 c g j d h f
inductive Oc(c:TT)(h:TS)(D:Yf)(a:L2.St)(H:Hp):Prop
 |mk(W:Nat->St->Hp->Prop)(_:∃ m,W m a H)(_:∀ m a H,W m a H->c a H λb f=>if b=true then ∃ N:St->Hp->Prop,(∀ d e,N d e->∃ g,g<m/\W g d e)/\h { D with nx:=N,ct:=N,bk:=D.nx } a f else D.nx a f)
def N2{c:Expr}{g:jL}{F:TT}{E:TS}(C:PassesOwn (aA X.prog X.w) X.A X.env X.xe)(K:PT X c F)(J:Wf X g E):PS X (.While c g [] pos) (Oc F E):=by
 intro a s S H D I h;let⟨W,⟨L,Q⟩,j⟩:=h;refine wpAny_While (codeAny_whileLoop (λn M=>∃ k u,ZI X a k u M/\W n k u) ?_ L ⟨S,H,I,Q⟩);rintro n O ⟨e,x,G,R⟩;refine wpAny_passesOwn C (Z5 (K a O e x _ G (j n e x R)) ?_);rintro b P ⟨y,z,l⟩
 cases b with
 | true=>
  let⟨N,B,l⟩:=l;rw[aQ rfl];refine wpAny_passesOwn C (Z5 (J a P e y _ z l) λf T m=>?_)
  cases f with
  | next=>
   let⟨d,i,o,r⟩:=m;let⟨q,p,t⟩:=B d i r;exact⟨q,p,d,i,o,t⟩
  | cont=>
   let⟨d,i,o,r⟩:=m;let⟨q,p,t⟩:=B d i r;exact⟨q,p,d,i,o,t⟩
  | brk=>exact m
  | ret v=>exact m
 | false=>
  rw[aP zS];exact wpAny_execs_nil ⟨e,y,z,l⟩
end
structure It where
 go:Nat->Hp->Prop
 yld:Nat->Hp->V->Hp->Prop
 stop:Nat->Hp->Prop
def VU(X:Cx)(a:js)(H:Hp)(b:aj):Prop:=
 H b=none/\b≠X.env.locals/\b∉X.fs/\(b∈X.ex\/X.s₀.heap.objs.size<=b)/\(∀ x c,X.env.cells.lookup x=some c->c≠b)/\∀ p∈X.pn++a,p.1≠b
def ZI.fpOk{X:Cx}{a:js}{i:St}{H f:Hp}{s:al}{b:aj}(I:ZI X a i H s)(d:s.heap.objs.size<=b)(g:f b=none):VU X a f b:=by
 refine⟨g,xH (yN I.lt d),I.nofs d,.inr (zC I.sz d),λx c e z=>?_,λp h z=>?_⟩
 ·let⟨v,q⟩:=I.cell x c e;exact absurd (yN q.lt (by rw[z];exact d)) (wY _)
 ·exact absurd (yN (zW (I.pin p h).1) (by rw[z];exact d)) (wY _)
structure US(P:am)(w:aw)(K:zZ)(tg:Expr)(J:It)(fp:ju)(it:aj)(tn:Nat->aD->Prop):Prop where
 mem:it∈fp
 obj:∀ i h,tn i h->∀ b∈fp,∃ o,h.get? b=some o/\∀ v,o.data≠.cell v
 keep:∀ i h h',tn i h->(∀ b∈fp,∀ o,h.get? b=some o->h'.get? b=some o)->tn i h'
 item:∀(X:Cx),X.prog=P->X.w=w->X.K=K->X.calm=true->∀(i:Nat)(jW:js)(s:al)(σ:St)(H:Hp)(E:ja),ZI X jW σ H s->(∀ b∈fp,VU X jW H b)->tn i s.heap->J.go i H ->
  aB (aA P w) X.A (pyNext (.ref it)) (λr s1=>∃ u,r=some u /\
   aB (aA P w) X.A (letOwnedTupleGo tg (.ref it) u) (λ_ s2=>∃ x H',ZI X jW σ H' s2/\ZY x u/\J.yld i H x H'/\tn (i+1) s2.heap/\∀ b∈fp,H' b=none) E s1) E s
 done:∀(X:Cx),X.prog=P->X.w=w->X.K=K->X.calm=true->∀(i:Nat)(jW:js)(s:al)(σ:St)(H:Hp)(E:ja),ZI X jW σ H s->(∀ b∈fp,VU X jW H b)->tn i s.heap->J.stop i H ->
  aB (aA P w) X.A (pyNext (.ref it)) (λr s1=>r=none/\ZI X jW σ H s1) E s
 self:∀(A:ax)(i:Nat)(s:al)(Q:ja)(E:ja),tn i s.heap->Q (.ref it) s->aB (aA P w) A (pyIter (.ref it)) Q E s
abbrev TI:=St->Hp->(It->Hp->Prop)->Prop
def Fm(X:Cx)(a:js)(j:St)(i:Expr)(R:It->Hp->Prop)(d:ai)(g:al):Prop:=
 ∃(f:aj)(e:ju)(h:Nat->aD->Prop)(J:It)(c:Hp),d=.ref f/\ZI X a j c g/\US X.prog X.w X.K i J e f h/\h 0 g.heap/\(∀ b∈e,VU X a c b)/\R J c
def PI(X:Cx)(e b:Expr)(f:TI):Prop:=
 ∀(a:js)(s:al)(c:St)(H:Hp)(R:It->Hp->Prop),ZI X a c H s->f c H R ->
  aB (aA X.prog X.w) X.A (aI b X.env) (λv d=>aB (aA X.prog X.w) X.A (pyIter v) (Fm X a c e R) X.xe d) X.xe s
def LK{M:Model}{A:ax}{E:ja}{s:al}{c:Expr}{b:aj}{u:ai}{o:aJ}{n:String}{d:jz}{Q:Unit->al->Prop}(i:s.heap.get? b=some o)(e:o.cls=.type n)(f:o.data=.fields d)(g:["enumerate","zip","dict_itemiterator","dict_reverseitemiterator","odict_iterator","itertools.zip_longest","itertools.pairwise"].contains n=false)(a:Q () s):aB M A (letOwnedTupleGo c (.ref b) u) Q E s:=by
 unfold letOwnedTupleGo;cases c <;> first
  | exact ad a
  | (cases u <;> first
    | exact ad a
    | (refine aa (wpAny_load i ?_);rw[e,f];show aB M A (if (["enumerate","zip","dict_itemiterator","dict_reverseitemiterator","odict_iterator","itertools.zip_longest","itertools.pairwise"].contains n&&d[0]? == some (rawInt _))=true then _ else _) Q E s;rw[aP (by intro h;rw[g,uY] at h;cases h)];exact ad a))
def MY(K:zZ)(a:aj):It:=
 ⟨λi H=>∃ b x,ZM K H a b/\b[i]? = some x,λi H x c=>c=H/\∀ b,ZM K H a b->b[i]? = some x,λi H=>∃ b,ZM K H a b/\b.length<=i⟩
def MW(K:zZ)(a:aj):It:=
 ⟨λi H=>∃ b x,Zh K H a b/\b[i]? = some x,λi H x c=>c=H/\∀ b,Zh K H a b->b[i]? = some x,λi H=>∃ b,Zh K H a b/\b.length<=i⟩
def OT(b:Int)(n:Nat):It:=⟨λi _=>i<n,λi H x a=>a=H/\x=.int (b+i),λi _=>n<=i⟩
def Ai{P:am}{w:aw}{K:zZ}{tg:Expr}(a l:aj):US P w K tg (MY K a) [l] l (λi h=>h.IsListIter l a i) where
 mem:=by simp
 obj:=λi h f b j=>by
  let e:b=l:=by simpa using j
  subst e;let⟨o,e,c,d⟩:=f;exact⟨o,e,λv z=>by rw[d] at z;cases z⟩
 keep:=λi h n f k=>f.at λo e=>k l (by simp) o e
 item:=by
  intro X F J D O i g s Q H E I q f G;subst F J D;let⟨xs,x,r,L⟩:=G;let⟨M,N,p,Y⟩:=I.list r;let⟨u,U,ru⟩:=N.get L;let⟨t,y,T,A,B,C⟩:=q l (by simp)
  refine wpAny_pyNext_list_item f p.isList (x:=u) (by simpa using U) λn m sb=>?_
  let R:ZI X g Q H { s with heap:=n }:=I.turned (t':=s.toks) (λb o j e=>(sb.2 b j).trans e) t y A B C;let⟨o,e,c,d⟩:=id m;exact⟨u,Z,LK (s:={ s with heap:=n }) e c d (by decide) ⟨x,H,R,ru,⟨Z,λys V=>by rw[I.list_inj V r];exact L⟩,m,λb j=>(q b j).1⟩⟩
 done:=by
  intro X F J D O i g s Q H E I q f G;subst F J D;let⟨xs,r,L⟩:=G;let⟨M,N,p,Y⟩:=I.list r;let⟨t,y,T,A,B,C⟩:=q l (by simp)
  let hl:=N.length;exact wpAny_pyNext_list_end (I.ok.hd O) f p.isList (by simp;lia) λn S=>⟨Z,I.turned (t':=s.toks) (λb o j e=>S b o j e) t y A B C⟩
 self:=λ_ _ _ _ _ f h=>wpAny_pyIter_listiter f h
def Dl{P:am}{w:aw}{K:zZ}{tg:Expr}(a l:aj):US P w K tg (MW K a) [l] l (λi h=>h.IsTupleIter l a i) where
 mem:=by simp
 obj:=λi h f b j=>by
  let e:b=l:=by simpa using j
  subst e;let⟨o,e,c,d⟩:=f;exact⟨o,e,λv z=>by rw[d] at z;cases z⟩
 keep:=λi h q f k=>f.at λo e=>k l (by simp) o e
 item:=by
  intro X G L F O i g s Q H E I r f J;subst G L F;let⟨xs,x,t,M⟩:=J;let⟨m,N,p,Y⟩:=I.tuple t;let⟨u,U,ru⟩:=N.get M;let⟨y,A,T,B,C,D⟩:=r l (by simp)
  refine wpAny_pyNext_tuple_item f (show s.heap.IsTuple a m.toArray from p) (x:=u) (by simpa using U) λq n sb=>?_
  let R:ZI X g Q H { s with heap:=q }:=I.turned (t':=s.toks) (λb o j e=>(sb.2 b j).trans e) y A B C D;let⟨o,e,c,d⟩:=id n;exact⟨u,Z,LK (s:={ s with heap:=q }) e c d (by decide) ⟨x,H,R,ru,⟨Z,λys V=>by rw[I.tuple_inj V t];exact M⟩,n,λb j=>(r b j).1⟩⟩
 done:=by
  intro X G L F O i g s Q H E I r f J;subst G L F;let⟨xs,t,M⟩:=J;let⟨m,N,p,Y⟩:=I.tuple t;let⟨y,A,T,B,C,D⟩:=r l (by simp)
  let hl:=N.length;exact wpAny_pyNext_tuple_end (I.ok.hd O) f (show s.heap.IsTuple a m.toArray from p) (by simp;lia) λq S=>⟨Z,I.turned (t':=s.toks) (λb o j e=>S b o j e) y A B C D⟩
 self:=λ_ _ _ _ _ f h=>wpAny_pyIter_tupleiter f h
def Eu{P:am}{w:aw}{K:zZ}{Q:Expr}(c:aj)(m:Int)(n:Nat):US P w K Q (OT m n) [c] c (λi h=>IsRangeIter h c (m+(i:Nat) * 1) ((n:Int)-(i:Nat)) 1) where
 mem:=by simp
 obj:=λi h a b f=>by
  let e:b=c:=by simpa using f
  subst e;exact⟨_,a,λv z=>by
   let R:Data.fields _=Data.cell v:=z;cases R⟩
 keep:=λi h j a k=>k c (by simp) _ a
 item:=by
  intro X A D y B i d s G H E I l a C;subst A D y;let⟨p,q,M,r,u,x⟩:=l c (by simp)
  let W:=Walks.range (prog:=X.prog) (w:=X.w) (I.ok.hd B) c m 1 n;refine W.item i s _ _ C a λv j F N g O=>?_;let⟨t,rfl⟩:=N;let J:ZI X d G H { s with heap:=j,toks:=F }:=I.turned (λb o f e=>O b o (by simpa using f) e) p q r u x
  refine⟨_,Z,LK (s:={ s with heap:=j,toks:=F }) (n:= "range_iterator") g Z Z (by decide) ⟨.int (m+i),H,J,⟨t,?_⟩,⟨Z,Z⟩,g,λb f=>(l b f).1⟩⟩
  rw[Int.mul_one]
 done:=by
  intro X A D y B i d s G H E I l a C;subst A D y;let⟨p,q,M,r,u,x⟩:=l c (by simp)
  exact wpAny_pyNext_range_end (I.ok.hd B) a (by have:n<=i:=C;lia) λj L=>⟨Z,I.turned (t':=s.toks) (λb o f e=>L b o f e) p q r u x⟩
 self:=λ_ _ _ _ _ a h=>wpAny_pyIter_rangeiter a h
section
variable{tg:Expr}
inductive Oh(K:zZ)(R:It->Hp->Prop)(x:V)(b:Hp):Prop
 |mk(a:_)(_:x=.ref a)(_:∃ c,ZM K b a c)(_:R (MY K a) b)
def ZPo(K:zZ)(b:TE):TI:=λc H R=>b c H λx a=>Oh K R x a
inductive Ny(K:zZ)(R:It->Hp->Prop)(x:V)(b:Hp):Prop
 |mk(a:_)(_:x=.ref a)(_:∃ c,Zh K b a c)(_:R (MW K a) b)
def Cj(K:zZ)(b:TE):TI:=λc H R=>b c H λx a=>Ny K R x a
def VN{l:Expr}{g:TE}(k:PE X l g):PI X tg l (ZPo X.K g):=by
 intro c s u H R I h;refine YO (k c s u H _ I h) λv f x i d t r=>?_;let⟨a,e,⟨z,m⟩,q⟩:=r;subst e;cases t;let⟨n,y,p,w⟩:=d.list m;refine wpAny_pyIter_list p.isList ?_;refine⟨f.heap.objs.size,[f.heap.objs.size],_,_,i,Z,d.kept (t':=f.toks) λb o e=>zQ _ e,Ai a _,⟨_,yO _ Z,Z,Z⟩,λb j=>?_,q⟩;let e:b=f.heap.objs.size:=by simpa using j
 subst e;exact d.fpOk (zY _) (d.hok.fresh (zY _))
def Lx{l:Expr}{i:TE}(m:PE X l i):PI X tg l (Cj X.K i):=by
 intro c s u H R I h;refine YO (m c s u H _ I h) λv d x j f t r=>?_;let⟨a,e,⟨z,n⟩,q⟩:=r;subst e;cases t;let⟨g,y,p,w⟩:=f.tuple n;refine wpAny_pyIter_tuple (show d.heap.IsTuple a g.toArray from p) ?_;refine⟨d.heap.objs.size,[d.heap.objs.size],_,_,j,Z,f.kept (t':=d.toks) λb o e=>zQ _ e,Dl a _,⟨_,yO _ Z,Z,Z⟩,λb k=>?_,q⟩;let e:b=d.heap.objs.size:=by simpa using k
 subst e;exact f.fpOk (zY _) (f.hok.fresh (zY _))
def FM{d:js}{h:St}{H:Hp}{s:al}{R:It->Hp->Prop}{E:ja}{a c:Int}{t u v:Tok}{g:Nat}(I:ZI X d h H s)(k : -(2 ^ 62)<=a)(l:a<2 ^ 62)(m : -(2 ^ 62)<=c)(n:c<2 ^ 62)(q:R (OT a (c-a).toNat) H):aB (aA X.prog X.w) X.A (pyIter (.ref s.heap.objs.size)) (Fm X d h tg R) E { s with heap:=s.heap.push { cls:=.type "range",data:=.fields #[.int a t,.int c u,.int 1 v] },toks:=g }:=by
 refine wpAny_pyIter_range (IsRange.new ..) (small_one k l m n) ?_;let f:ZI X d h H { s with heap:=s.heap.push { cls:=.type "range",data:=.fields #[.int a t,.int c u,.int 1 v] },toks:=g }:=I.kept λb o e=>zQ _ e;refine⟨(s.heap.push { cls:=.type "range",data:=.fields #[.int a t,.int c u,.int 1 v] }).objs.size,[(s.heap.push { cls:=.type "range",data:=.fields #[.int a t,.int c u,.int 1 v] }).objs.size],_,_,H,Z,
  f.kept (t':=g) λb o e=>zQ _ e,Eu _ a (c-a).toNat,?_,λb p=>?_,q⟩
 ·let i:a+((0:Nat):Int) * 1=a:=by simp
  let j:(((c-a).toNat:Nat):Int)-((0:Nat):Int)=Builtin.Range.rangeSize a c 1:=by rw[rangeSize_one];split <;> lia
  show IsRangeIter _ _ (a+((0:Nat):Int) * 1) ((((c-a).toNat:Nat):Int)-((0:Nat):Int)) 1;rw[i,j];exact yO _ Z
 ·let e:b=(s.heap.push { cls:=.type "range",data:=.fields #[.int a t,.int c u,.int 1 v] }).objs.size:=by simpa using p
  subst e;exact f.fpOk (zY _) (f.hok.fresh (zY _))
inductive OJ(R:It->Hp->Prop)(b:je)(a:Hp):Prop
 |mk(j:Int)(_:b=[.int j])(_ : -(2 ^ 62)<=j)(_:j<2 ^ 62)(_:R (OT 0 j.toNat) a)
def B2(b:TA):TI:=λd H R=>b d H λc a=>OJ R c a
inductive OO(R:It->Hp->Prop)(b:je)(a:Hp):Prop
 |mk(i j:Int)(_:b=[.int i,.int j])(_ : -(2 ^ 62)<=i/\i<2 ^ 62 /\ -(2 ^ 62)<=j/\j<2 ^ 62)(_:R (OT i (j-i).toNat) a)
def ZPX(b:TA):TI:=λd H R=>b d H λc a=>OO R c a
def OP{a:Expr}{f:TA}{p c:aK}(k:Gl X "range")(l:X.mg "range" = none)(i:PA X [a] f)(m:ar [a] X.env=[(false,aI a X.env)]:=by rfl):PI X tg (.Call (.Name "range" p) [a] [] c) (B2 f):=by
 intro b s v H R I h;refine Call_ (Pq I k l boot_range (PyProof.Rows.callWith_type1 (YO (i c b s v H _ I h) λy x z w g o d=>?_) m rfl));let⟨j,e,d,n,q⟩:=d;subst e
 cases o with
 | cons r u=>
  cases u;let⟨t,rfl⟩:=r;exact call_range_1 (FM g ∅ ∅ d n (by simpa using q))
def N7{a b:Expr}{l:TA}{p f:aK}(o:Gl X "range")(u:X.mg "range" = none)(n:PA X [a,b] l)(v:ar [a,b] X.env=[(false,aI a X.env),(false,aI b X.env)]:=by rfl)(c:ar [b] X.env=[(false,aI b X.env)]:=by rfl):
  PI X tg (.Call (.Name "range" p) [a,b] [] f) (ZPX l):=by
 intro d s B H R I h;refine Call_ (Pq I o u boot_range (PyProof.Rows.callWith_type1 (YO (n f d s B H _ I h) λF D G C m A g=>?_) (by rw[v,c]) (by rw[c];rfl)))
 let⟨i,j,e,⟨g,w,x,y⟩,q⟩:=g;subst e
 cases A with
 | cons r k=>
  cases k with
  | cons z k=>
   cases k;let⟨t,rfl⟩:=r;let⟨E,rfl⟩:=z;exact call_range_2 (FM m g w x y q)
def ZQX(k:TI)(g:TG)(j:TS):TS:=λD a H=>k a H λJ f=>∃ W:Nat->Nat->St->Hp->Prop,(∃ m,W 0 m a f)/\∀ i m a H,W i m a H ->
 (J.stop i H/\D.nx a H)\/(J.go i H/\∃ N:St->Hp->Prop,(∀ c b,N c b->∃ e,e<m/\W (i+1) e c b)/\∀ x b,J.yld i H x b->g x a b λd h=>j { D with nx:=N,ct:=N,bk:=D.nx } d h)
def NA(a:ju)(h:aD):js:=a.filterMap λb=>(h.get? b).map λo=>(b,o)
def Nf{a:ju}{h:aD}{b:aj}{o:aJ}(c:b∈a)(e:h.get? b=some o):(b,o)∈NA a h:=xU.mpr ⟨b,c,by rw[e];rfl⟩
def ZKO{a:ju}{h:aD}{p:aj×aJ}(f:p∈NA a h):p.1∈a/\h.get? p.1=some p.2:=by
 let⟨b,d,e⟩:=xU.mp f
 cases q:h.get? b with
 | none=>rw[q] at e;cases e
 | some o=>
  rw[q] at e;let c:(b,o)=p:=zG.inj e;subst c;exact⟨d,q⟩
def ZI.pinned{a:js}{h:St}{H:Hp}{s:al}{c:ju}(I:ZI X a h H s)(l:∀ b∈c,VU X a H b)(m:∀ b∈c,∃ o,s.heap.get? b=some o/\∀ v,o.data≠.cell v):ZI X (a++NA c s.heap) h H s:=
 I.pins_of λp n=>(yQ.mp n).elim (λz=>I.pin p (yE _ z)) λz=>by
  let⟨g,e⟩:=ZKO z;let⟨i,j,k,_⟩:=l p.1 g;let⟨o,f,d⟩:=m p.1 g;rw[e] at f;cases f;exact⟨e,i,j,k,d⟩
def ZI.unpinned{a d:js}{b:St}{H:Hp}{s:al}(I:ZI X (a++d) b H s):ZI X a b H s:=I.pins_of λp c=>I.pin p (yE _ (xM _ c))
def VM{q:Expr}{C:jL}{wi:TI}{g:TG}{tb:TS}{Y:aK}(L:PassesOwn (aA X.prog X.w) X.A X.env X.xe)(hc:X.calm=true)(hi:PI X tg q wi)(hg:PG X tg g)(p:Wf X C tb)(hs:∀ x,foldedSetIterable q X.env x=pure x:=by intro _;rfl):PS X (.For tg q C [] Y) (ZQX wi g tb):=by
 intro a s σ H D I h;refine wpAny_For (Z5 (hi a s σ H _ I h) λv s1 h1=>Z5 h1 λa2 s2 h2=>?_) hs;let⟨it,G,tn,J,H2,e,I2,T,a0,f2,W,⟨m0,w0⟩,Q⟩:=h2;subst e;let t:∀{B:Hp},(∀ b∈G,B b=none)->∀ b∈G,VU X a B b:=λhn b p=>⟨hn b p,(f2 b p).2⟩;refine codeAny_forLoop_any (λn s'=>∃ i y B,ZI X a y B s'/\tn i s'.heap/\(∀ b∈G,B b=none)/\W i n y B) ?_ m0 ⟨0,σ,H2,I2,a0,λb p=>(f2 b p).1,w0⟩;rintro n s3 ⟨i,z,R,I3,O,K,w3⟩;rcases Q i n z R w3 with ⟨P,qn⟩ | ⟨go,N,hN,step⟩
 ·refine wpAny_passesOwn L (Z5 (T.done X rfl rfl rfl hc i a s3 z R X.xe I3 (t K) O P) ?_);rintro r s4 ⟨V,I4⟩;subst V;exact wpAny_execs_nil ⟨z,R,I4,qn⟩
 ·refine wpAny_passesOwn L (Z5 (T.item X rfl rfl rfl hc i a s3 z R X.xe I3 (t K) O go) ?_);rintro r s4 ⟨u,V,h4⟩;subst V;refine wpAny_passesOwn L (Z5 h4 ?_);rintro _ s5 ⟨x,H5,I5,r5,y5,F,U⟩;let S:=I5.pinned (t U) (T.obj _ _ F);refine wpAny_passesOwn L (Z5 (hg _ s5 z H5 x u _ S r5 (step x H5 y5)) ?_);rintro _ s6 ⟨a1,H6,I6,q6⟩;refine wpAny_passesOwn L (Z5 (p _ s6 a1 H6 _ I6 q6) λf s7 E=>?_);let l:∀{c:St}{j:Hp},ZI X (a++NA G s5.heap) c j s7->N c j->∃ m,m<n/\∃ i y B,ZI X a y B s7/\tn i s7.heap/\(∀ b∈G,B b=none)/\W i m y B:=fun{c j} k M=>by
   let⟨m',hm,w7⟩:=hN c j M;refine⟨m',hm,i+1,c,j,k.unpinned,T.keep _ _ _ F λb p o e=>(k.pin (b,o) (yE _ (yE _ (Nf p e)))).1,λb p=>?_,w7⟩;let⟨o,e,d⟩:=T.obj _ _ F b p;exact(k.pin (b,o) (yE _ (yE _ (Nf p e)))).2.1
  cases f with
  | next=>let⟨c,j,k,M⟩:=E;exact l k M
  | cont=>let⟨c,j,k,M⟩:=E;exact l k M
  | brk=>let⟨c,j,k,E⟩:=E;exact⟨c,j,k.unpinned,E⟩
  | ret v=>let⟨x7,c,j,k,r7,E⟩:=E;exact⟨x7,c,j,k.unpinned,r7,E⟩
end
def Qt{K:zZ}{a:aj}{xs:je}{g:TG}{n:TS}{D:Yf}{b:St}{H:Hp}(c:Nat->St->Hp->Prop)(o:c 0 b H)(t:∀ i b H,i<=xs.length->c i b H->ZM K H a xs)(u:∀ i x b H,xs[i]? = some x->c i b H->g x b H λh k=>n { D with nx:=c (i+1),ct:=c (i+1),bk:=D.nx } h k)(r:∀ b H,c xs.length b H->D.nx b H):
  ∃ W:Nat->Nat->St->Hp->Prop,(∃ m,W 0 m b H)/\∀ i m b H,W i m b H ->
   ((MY K a).stop i H/\D.nx b H)\/((MY K a).go i H/\∃ N:St->Hp->Prop,(∀ f d,N f d->∃ l,l<m/\W (i+1) l f d)/\∀ x d,(MY K a).yld i H x d->g x b d λh k=>n { D with nx:=N,ct:=N,bk:=D.nx } h k):=by
 exists λi m b H=>m=xs.length-i/\i<=xs.length/\c i b H,⟨xs.length,by simp,yT _,o⟩
 rintro i m b H ⟨rfl,s,p⟩;let q:=t i b H s p;by_cases j:i<xs.length
 ·refine .inr ⟨⟨xs,xs[i],q,by simp[j]⟩,c (i+1),λf d v=>⟨xs.length-(i+1),by exact tI ‹_› (xV _),Z,j,v⟩,λx d y=>?_⟩
  let⟨e,y⟩:=y;subst e;exact u i x b _ (y xs q) p
 ·let e:i=xs.length:=∅
  subst e;exact .inl ⟨⟨xs,q,zY _⟩,r b H p⟩
def ZNE{K:zZ}{a:aj}{xs:je}{g:TG}{n:TS}{D:Yf}{b:St}{H:Hp}(c:Nat->St->Hp->Prop)(o:c 0 b H)(t:∀ i b H,i<=xs.length->c i b H->Zh K H a xs)(u:∀ i x b H,xs[i]? = some x->c i b H->g x b H λh k=>n { D with nx:=c (i+1),ct:=c (i+1),bk:=D.nx } h k)(r:∀ b H,c xs.length b H->D.nx b H):
  ∃ W:Nat->Nat->St->Hp->Prop,(∃ m,W 0 m b H)/\∀ i m b H,W i m b H ->
   ((MW K a).stop i H/\D.nx b H)\/((MW K a).go i H/\∃ N:St->Hp->Prop,(∀ f d,N f d->∃ l,l<m/\W (i+1) l f d)/\∀ x d,(MW K a).yld i H x d->g x b d λh k=>n { D with nx:=N,ct:=N,bk:=D.nx } h k):=by
 exists λi m b H=>m=xs.length-i/\i<=xs.length/\c i b H,⟨xs.length,by simp,yT _,o⟩
 rintro i m b H ⟨rfl,s,p⟩;let q:=t i b H s p;by_cases j:i<xs.length
 ·refine .inr ⟨⟨xs,xs[i],q,by simp[j]⟩,c (i+1),λf d v=>⟨xs.length-(i+1),∅,Z,j,v⟩,λx d y=>?_⟩
  let⟨e,y⟩:=y;subst e;exact u i x b _ (y xs q) p
 ·let e:i=xs.length:=∅
  subst e;exact .inl ⟨⟨xs,q,zY _⟩,r b H p⟩
def Pv{lo:Int}{n:Nat}{g:TG}{l:TS}{D:Yf}{a:St}{H:Hp}(c:Nat->St->Hp->Prop)(o:c 0 a H)(r:∀ i a H,i<n->c i a H->g (.int (lo+i)) a H λh j=>l { D with nx:=c (i+1),ct:=c (i+1),bk:=D.nx } h j)(q:∀ a H,c n a H->D.nx a H):
  ∃ W:Nat->Nat->St->Hp->Prop,(∃ m,W 0 m a H)/\∀ i m a H,W i m a H ->
   ((OT lo n).stop i H/\D.nx a H)\/((OT lo n).go i H/\∃ N:St->Hp->Prop,(∀ f b,N f b->∃ k,k<m/\W (i+1) k f b)/\∀ x b,(OT lo n).yld i H x b->g x a b λh j=>l { D with nx:=N,ct:=N,bk:=D.nx } h j):=by
 exists λi m a H=>m=n-i/\i<=n/\c i a H,⟨n,by simp,yT _,o⟩
 rintro i m a H ⟨rfl,t,p⟩;by_cases d:i<n
 ·refine .inr ⟨d,c (i+1),λf b s=>⟨n-(i+1),by exact tI ‹_› (xV _),Z,d,s⟩,λx b y=>?_⟩
  let⟨e,y⟩:=y;subst e y;exact r i a _ d p
 ·let e:i=n:=∅
  subst e;exact .inl ⟨zY _,q a H p⟩
abbrev R2:=V->V->Hp->VK->Prop
def XI(X:Cx)(f:ai->ai->Sem ai)(r:R2):Prop:=
 ∀(a:js)(s:al)(b:St)(H:Hp)(x y:V)(v u:ai)(Q:VK),ZI X a b H s->ZY x v->ZY y u->r x y H Q ->
  aB (aA X.prog X.w) X.A (f v u) (EP X a b Q) X.xe s
def KS(X:Cx)(f:ai->Sem ai)(r:V->Hp->VK->Prop):Prop:=
 ∀(a:js)(s:al)(b:St)(H:Hp)(x:V)(v:ai)(Q:VK),ZI X a b H s->ZY x v->r x H Q ->
  aB (aA X.prog X.w) X.A (f v) (EP X a b Q) X.xe s
def Vf(X:Cx)(f:ai)(r:je->Hp->VK->Prop):Prop:=
 ∀(a:js)(s:al)(d:St)(H:Hp)(c:je)(b:jd)(Q:VK),ZI X a d H s->ZR c b->r c H Q ->
  aB (aA X.prog X.w) X.A (call f b) (EP X a d Q) X.xe s
def Q0(r:R2)(d e:TE):TE:=λa H Q=>d a H λx b=>e a b λy c=>r x y c Q
def tUn(r:V->Hp->VK->Prop)(b:TE):TE:=λc H Q=>b c H λx a=>r x a Q
inductive rI(C:Int->Int->Prop)(g:Int->Int->V)(x y:V)(H:Hp)(Q:VK):Prop
 |mk(i j:_)(_:x=.int i)(_:y=.int j)(_:C i j)(_:Q (g i j) H)
inductive P9(g:Int->Int->V)(x y:V)(H:Hp)(Q:VK):Prop
 |mk(i j:_)(_:x=.int i)(_:y=.int j)(_:Q (g i j) H)
inductive rU(g:Int->V)(x:V)(H:Hp)(Q:VK):Prop
 |mk(i:_)(_:x=.int i)(_:Q (g i) H)
section
variable{a b c:Expr}{ta tb tc:TE}{pos:aK}
def K7(o:PE X a ta)(p:PE X b tb){d:js}{s:al}{g:St}{H:Hp}{R:V->V->Hp->Prop}(I:ZI X d g H s)(h:ta g H λx l=>tb g l λy e=>R x y e){Q:ja}{f:ai->ai->Sem ai}(q:∀ v u k x y e,ZI X d g e k->ZY x v->ZY y u->R x y e->aB (aA X.prog X.w) X.A (f v u) Q X.xe k):
  aB (aA X.prog X.w) X.A (aI a X.env) (λv i=>aB (aA X.prog X.w) X.A (aI b X.env) (λu j=>aB (aA X.prog X.w) X.A (f v u) Q X.xe j) X.xe i) X.xe s:=by
 refine YO (o d s g H _ I h) λv C x l m z r=>?_;refine YO (p d C g l _ m r) λu k y e n B t=>?_;exact q v u k x y e n z B t
def Z1{e:Operator}{r:R2}(k:XI X (binaryOp e) r)(i:PE X a ta)(j:PE X b tb):PE X (.BinOp a e b pos) (Q0 r ta tb):=by
 intro d s o H Q I h;exact wpAny_BinOp (K7 i j I h λv u n x y f g l m q=>k d n o f x y v u Q g l m q)
def Q6{e:UnaryOp}{r:V->Hp->VK->Prop}(k:KS X (unaryOp e) r)(j:PE X a ta):PE X (.UnaryOp e a pos) (tUn r ta):=by
 intro d s f H Q I h;exact UnaryOp_ (YO (j d s f H _ I h) λv n x g i m l=>k d n f g x v Q i m l)
def N3{f:ai->ai->Sem ai}{C:Int->Int->Prop}{g:Int->Int->Int}(d:∀ (i j:Int) (t u:Tok) (s:al) (Q:ja) (E:ja),C i j->Q (.int (g i j) s.toks) { s with toks:=s.toks+1 }->aB (aA X.prog X.w) X.A (f (.int i t) (.int j u)) Q E s):
  XI X f (rI C λi j=>.int (g i j)):=by
 intro e s o H x y v u Q I l m h;let⟨i,j,rfl,rfl,k,q⟩:=h;let⟨t,rfl⟩:=l;let⟨n,rfl⟩:=m;exact d i j t n s _ _ k ⟨.int (g i j),H,I.tok _,⟨_,Z⟩,q⟩
def F5{f:ai->ai->Sem ai}{g:Int->Int->Int}(d:∀ (i j:Int) (t u:Tok) (s:al) (Q:ja) (E:ja),Q (.int (g i j) s.toks) { s with toks:=s.toks+1 }->aB (aA X.prog X.w) X.A (f (.int i t) (.int j u)) Q E s):
  XI X f (P9 λi j=>.int (g i j)):=by
 intro e s n H x y v u Q I k l h;let⟨i,j,rfl,rfl,q⟩:=h;let⟨t,rfl⟩:=k;let⟨m,rfl⟩:=l;exact d i j t m s _ _ ⟨.int (g i j),H,I.tok _,⟨_,Z⟩,q⟩
def Mf{f:ai->ai->Sem ai}{g:Int->Int->Bool}(d:∀ (i j:Int) (t u:Tok) (s:al) (Q:ja) (E:ja),Q (.bool (g i j)) s->aB (aA X.prog X.w) X.A (f (.int i t) (.int j u)) Q E s):
  XI X f (P9 λi j=>.bl (g i j)):=by
 intro e s n H x y v u Q I k l h;let⟨i,j,rfl,rfl,q⟩:=h;let⟨t,rfl⟩:=k;let⟨m,rfl⟩:=l;exact d i j t m s _ _ ⟨.bl (g i j),H,I,Z,q⟩
def ZQd(i j:Int):Prop:=0<j/\j<1073741824
def B1(i j:Int):Prop:=0<=j/\j<=1000000/\i.natAbs<2 ^ 64
def PH(i j:Int):Prop:=(-(2 ^ 64)<i/\i<2 ^ 64)\/(-(2 ^ 64)<j/\j<2 ^ 64)
def PH.ok{i j:Int}(h:PH i j):IntMulOk i j:=by
 rcases h with ⟨d,e⟩ | ⟨d,e⟩
 ·exact .of_left (intBits_le_64 d e)
 ·exact .of_right (intBits_le_64 d e)
def WJ:XI X (binaryOp .Add) (P9 λi j=>.int (i+j)):=F5 λ_ _ _ _ _ _ _ q=>add_int q
def Ql:XI X (binaryOp .Sub) (P9 λi j=>.int (i-j)):=F5 λ_ _ _ _ _ _ _ q=>sub_int q
def ON:XI X (binaryOp .Mult) (rI PH λi j=>.int (i * j)):=N3 λ_ _ _ _ _ _ _ d q=>mul_int q d.ok
def IA:XI X (binaryOp .FloorDiv) (rI ZQd λi j=>.int (i / j)):=N3 λi j _ _ _ _ _ d q=>by
 let e:(0:Int)<j:=d.1;let f:j<1073741824:=d.2;exact floordiv_int ∅ (by rw[rN i ∅];exact q) (.inl (PyProof.noPylong_small ∅))
def QS:XI X (binaryOp .Mod) (rI (λ_ j=>0<j) λi j=>.int (i % j)):=N3 λi j _ _ _ _ _ d q=>by
 let e:(0:Int)<j:=d;exact mod_int' ∅ (by rw[Int.fmod_eq_emod_of_nonneg i ∅];exact q)
def KA:XI X (binaryOp .Pow) (rI B1 λi j=>.int (i ^ j.toNat)):=N3 λ_ _ _ _ _ _ _ d q=>pow_int_small d.1 d.2.1 d.2.2 q
def B4{f:ai->Sem ai}{g:Int->Int}(d:∀ (i:Int) (t:Tok) (s:al) (Q:ja) (E:ja),Q (.int (g i) s.toks) { s with toks:=s.toks+1 }->aB (aA X.prog X.w) X.A (f (.int i t)) Q E s):
  KS X f (rU λi=>.int (g i)):=by
 intro e s k H x v Q I j h;let⟨i,rfl,q⟩:=h;let⟨t,rfl⟩:=j;exact d i t s _ _ ⟨.int (g i),H,I.tok _,⟨_,Z⟩,q⟩
def Pi:KS X (unaryOp .USub) (rU λi=>.int (-i)):=B4 λ_ _ _ _ _ q=>neg_int q
end
def GG:V->V->Bool
 | .non,.non=>true | .non,.int _=>true | .int _,.non=>true | .non,.bl _=>true | .bl _,.non=>true | .non,.str _=>true | .str _,.non=>true
 | .int _,.int _=>true | .bl _,.bl _=>true | .str _,.str _=>true | .byt _,.byt _=>true
 | .int _,.str _=>true | .str _,.int _=>true | .bl _,.str _=>true | .str _,.bl _=>true
 | _,_=>false
def rEq:R2:=λx y H Q=>GG x y=true/\Q (.bl (decide (x=y))) H
def BA:R2:=λx y H Q=>GG x y=true/\Q (.bl (!decide (x=y))) H
def Fd{i j:Int}:decide (V.int i=V.int j)=(i==j):=by
 rw[xG];simp
def HZ{i j:Bool}:decide (V.bl i=V.bl j)=(i==j):=by
 rw[xG];simp
def F9{i j:Str}:decide (V.str i=V.str j)=(i==j):=by
 rw[xG];simp
def FE{i j:Array UInt8}:decide (V.byt i=V.byt j)=(i.toList==j.toList):=by
 rw[xG];cases i;cases j;simp
section
variable{a b c:Expr}{ta tb tc:TE}{pos:aK}
def Yz{d:js}{g:St}{H:Hp}{s:al}{Q:VK}{k f:Bool}(I:ZI X d g H s)(q:Q (.bl k) H)(e:k=f):EP X d g Q (.bool f) s:=by
 subst e;exact⟨.bl k,H,I,Z,q⟩
def Y1:XI X (az .Eq) rEq:=by
 intro k s l H x y v u Q I g d h;let⟨f,q⟩:=h
 cases x with
 | non=>
  cases g
  cases y with
  | non=>cases d;exact PySem.EqNone.eq_none_none (Yz I q (by simp))
  | bl j=>cases d;exact PySem.EqNone.eq_none_bool (Yz I q (by simp))
  | int j=>let⟨e,rfl⟩:=d;exact PySem.EqNone.eq_none_int (Yz I q (by simp))
  | str j=>let⟨e,rfl⟩:=d;exact PySem.EqNone.eq_none_str (Yz I q (by simp))
  | _=>exact absurd (show false=true from f) zS
 | bl i=>
  cases g
  cases y with
  | non=>cases d;exact PySem.EqNone.eq_bool_none (Yz I q (by simp))
  | bl j=>cases d;exact eq_bool (Yz I q HZ)
  | str j=>let⟨e,rfl⟩:=d;exact PySem.EqMixed.eq_bool_str (Yz I q (by simp))
  | _=>exact absurd (show false=true from f) zS
 | int i=>
  let⟨t,rfl⟩:=g
  cases y with
  | non=>cases d;exact PySem.EqNone.eq_int_none (Yz I q (by simp))
  | int j=>let⟨e,rfl⟩:=d;exact eq_int (Yz I q Fd)
  | str j=>let⟨e,rfl⟩:=d;exact PySem.EqMixed.eq_int_str (Yz I q (by simp))
  | _=>exact absurd (show false=true from f) zS
 | str i=>
  let⟨t,rfl⟩:=g
  cases y with
  | non=>cases d;exact PySem.EqNone.eq_str_none (Yz I q (by simp))
  | bl j=>cases d;exact PySem.EqMixed.eq_str_bool (Yz I q (by simp))
  | int j=>let⟨e,rfl⟩:=d;exact PySem.EqMixed.eq_str_int (Yz I q (by simp))
  | str j=>let⟨e,rfl⟩:=d;exact eq_str (Yz I q F9)
  | _=>exact absurd (show false=true from f) zS
 | byt i=>
  let⟨t,rfl⟩:=g
  cases y with
  | byt j=>let⟨e,rfl⟩:=d;exact PySem.W.eq_bytes (Yz I q FE)
  | _=>exact absurd (show false=true from f) zS
 | _=>cases y <;> exact absurd (show false=true from f) zS
def Qs:XI X (az .NotEq) BA:=by
 intro k s l H x y v u Q I g d h;let⟨f,q⟩:=h
 cases x with
 | non=>
  cases g
  cases y with
  | non=>cases d;exact PySem.EqNone.ne_none_none (Yz I q (by simp))
  | bl j=>cases d;exact PySem.EqNone.ne_none_bool (Yz I q (by simp))
  | int j=>let⟨e,rfl⟩:=d;exact PySem.EqNone.ne_none_int (Yz I q (by simp))
  | str j=>let⟨e,rfl⟩:=d;exact PySem.EqNone.ne_none_str (Yz I q (by simp))
  | _=>exact absurd (show false=true from f) zS
 | bl i=>
  cases g
  cases y with
  | non=>cases d;exact PySem.EqNone.ne_bool_none (Yz I q (by simp))
  | bl j=>cases d;exact ne_bool (Yz I q (congrArg not HZ))
  | str j=>let⟨e,rfl⟩:=d;exact PySem.EqMixed.ne_bool_str (Yz I q (by simp))
  | _=>exact absurd (show false=true from f) zS
 | int i=>
  let⟨t,rfl⟩:=g
  cases y with
  | non=>cases d;exact PySem.EqNone.ne_int_none (Yz I q (by simp))
  | int j=>let⟨e,rfl⟩:=d;exact ne_int (Yz I q (congrArg not Fd))
  | str j=>let⟨e,rfl⟩:=d;exact PySem.EqMixed.ne_int_str (Yz I q (by simp))
  | _=>exact absurd (show false=true from f) zS
 | str i=>
  let⟨t,rfl⟩:=g
  cases y with
  | non=>cases d;exact PySem.EqNone.ne_str_none (Yz I q (by simp))
  | bl j=>cases d;exact PySem.EqMixed.ne_str_bool (Yz I q (by simp))
  | int j=>let⟨e,rfl⟩:=d;exact PySem.EqMixed.ne_str_int (Yz I q (by simp))
  | str j=>let⟨e,rfl⟩:=d;exact ne_str (Yz I q (congrArg not F9))
  | _=>exact absurd (show false=true from f) zS
 | byt i=>
  let⟨t,rfl⟩:=g
  cases y with
  | byt j=>let⟨e,rfl⟩:=d;exact PySem.W.ne_bytes (Yz I q (congrArg not FE))
  | _=>exact absurd (show false=true from f) zS
 | _=>cases y <;> exact absurd (show false=true from f) zS
def ND:XI X (az .Lt) (P9 λi j=>.bl (decide (i<j))):=Mf λ_ _ _ _ _ _ _ q=>lt_int q
def QE:XI X (az .LtE) (P9 λi j=>.bl (decide (i<=j))):=Mf λ_ _ _ _ _ _ _ q=>le_int q
def PQ:XI X (az .Gt) (P9 λi j=>.bl (decide (j<i))):=Mf λ_ _ _ _ _ _ _ q=>gt_int q
def ZPm:XI X (az .GtE) (P9 λi j=>.bl (decide (j<=i))):=Mf λ_ _ _ _ _ _ _ q=>ge_int q
def Zz(b:Expr){d:CmpOp}(h:d≠.In:=by decide)(g:d≠.NotIn:=by decide):behindInMarks d b=false:=by
 let e:(d==CmpOp.In)=false:=by cases d <;> first | rfl | exact absurd rfl h
 let f:(d==CmpOp.NotIn)=false:=by cases d <;> first | rfl | exact absurd rfl g
 cases b <;> simp[behindInMarks,e,f]
def Vz{e:CmpOp}{r:R2}(l:XI X (az e) r)(i:PE X a ta)(j:PE X b tb)(k:behindInMarks e b=false):PE X (.Compare a [e] [b] pos) (Q0 r ta tb):=by
 intro d s p H Q I h;exact wpAny_Compare1 (K7 i j I h λv u o x y f g m n q=>l d o p f x y v u Q g m n q) k
inductive Op(Q:Bool->Hp->Prop)(x:V)(d:Hp):Prop
 |mk(k:_)(_:x=.bl k)(_:Q k d)
def Iz(t:TE):TT:=λe H Q=>t e H λx d=>Op Q x d
def YI{f:CmpOp}{r:R2}(w:XI X (az f) r)(p:PE X a ta)(q:PE X b tb)(t:behindInMarks f b=false):PT X (.Compare a [f] [b] pos) (Iz (Q0 r ta tb)):=by
 intro d s g H Q I h;refine wpAny_isTrue_Compare1 (YO (p d s g H _ I h) λv G x i m D A=>YO (q d G g i _ m A) λu J y j n E B=>
  Z5 (w d J g j x y v u _ n D E B) λc K ⟨z,l,o,F,k,e,C⟩=>?_) t
 subst e;cases F;exact wpAny_truthy_bool ⟨l,o,C⟩
inductive Pe(f:R2)(tc:TE)(h:L2.St)(Q:VK)(y z:V)(d:Hp):Prop
 |mk(k:_)(_:z=.bl k)(_:if k=true then tc h d λg e=>f y g e Q else Q (.bl false) d)
def HR(r h:R2)(ta tb tc:TE):TE:=λd H Q=>ta d H λx e=>tb d e λy f=>r x y f λz g=>Pe h tc d Q y z g
def ZK3{l g:CmpOp}{r p:R2}(K:XI X (az l) r)(j:XI X (az g) p)(E:PE X a ta)(F:PE X b tb)(G:PE X c tc)(J:lastMarks [l,g] [b,c]=false:=by with_unfolding_all rfl):PE X (.Compare a [l,g] [b,c] pos) (HR r p ta tb tc):=by
 intro f s i H Q I h;refine Compare_chain (YO (E f s i H _ I h) λv S x t B O L=>chain_link (YO (F f S i t _ B L) λu T y w C q M=>
  Z5 (K f T i w x y v u _ C O q M) λd U ⟨z,m,n,P,k,e,o⟩=>?_)) J
 subst e;cases P;refine wpAny_truthy_bool ?_
 cases k with
 | false=>exact ite_ff ⟨.bl false,m,n,Z,o⟩
 | true=>exact ite_tt (chain_last (YO (G f U i m _ n o) λW V Y A D R N=>j f V i A y Y u W Q D q R N))
def Mo{l g:CmpOp}{r p:R2}(O:XI X (az l) r)(j:XI X (az g) p)(K:PE X a ta)(L:PE X b tb)(M:PE X c tc)(N:lastMarks [l,g] [b,c]=false:=by with_unfolding_all rfl):PT X (.Compare a [l,g] [b,c] pos) (Iz (HR r p ta tb tc)):=by
 intro f s i H Q I h;refine isTrue_chain (YO (K f s i H _ I h) λv s1 x t C V R=>test_link (YO (L f s1 i t _ C R) λu s2 y w D q S=>
  Z5 (O f s2 i w x y v u _ D V q S) λd s3 ⟨z,m,n,W,k,e,o⟩=>?_)) N
 subst e;cases W;refine wpAny_truthy_bool ?_
 cases k with
 | false=>
  let⟨k',G,P⟩:=o;cases G;exact ite_ff ⟨m,n,P⟩
 | true=>
  refine ite_tt (test_last (YO (M f s3 i m _ n o) λw' s4 z' A E Y T=>Z5 (j f s4 i A y z' u w' _ E q Y T) λd' s5 ⟨z2,B,F,r5,k2,J,U⟩=>?_));subst J;cases r5;exact wpAny_truthy_bool ⟨B,F,U⟩
def NB:(aq:Nat)<2 ^ 63:=by rw[sizeLine_eq];decide
inductive Vs(x y:V)(H:Hp)(Q:VK):Prop
 |mk(i j:_)(_:x=.str i)(_:y=.str j)(_:i.length+j.length<=aq)(_:Q (.str (i++j)) H)
def Jd:XI X (binaryOp .Add) (Vs):=by
 intro d s m H x y v u Q I f g h;let⟨i,j,rfl,rfl,e,q⟩:=h;let⟨t,rfl⟩:=f;let⟨k,rfl⟩:=g;exact add_str (λk l=>⟨.str (i++j),H,I.tok _,⟨_,Z⟩,q⟩) e
def V5{x:V}{d:jd}(r:ZR [x] d):∃ u,d=[u]/\ZY x u:=by
 cases r with
 | cons e f=>cases f;exact⟨_,Z,e⟩
def LU{x y:V}{d:jd}(r:ZR [x,y] d):∃ u e,d=[u,e]/\ZY x u/\ZY y e:=by
 cases r with
 | cons f g=>
  cases g with
  | cons h i=>cases i;exact⟨_,_,Z,f,h⟩
inductive Uz(d:je)(H:Hp)(Q:VK):Prop
 |mk(i:_)(_:d=[.int i])(_:Q (.int (if i<0 then -i else i)) H)
def KN:Vf X (.builtin "abs") (Uz):=by
 intro d s j H g f Q I r h;let⟨i,rfl,q⟩:=h;let⟨u,rfl,t,rfl⟩:=V5 r;exact call_abs_int λu e=>⟨.int (if i<0 then -i else i),H,I.tok _,⟨_,Z⟩,q⟩
inductive UX(d:je)(H:Hp)(Q:VK):Prop
 |mk(i j:_)(_:d=[.int i,.int j])(_:Q (.int (if j > i then j else i)) H)
def EX(f:X.calm=true):Vf X (.builtin "max") (UX):=by
 intro e s v H p n Q I r h;let⟨i,j,rfl,q⟩:=h;let⟨u,o,rfl,⟨t,rfl⟩,⟨l,rfl⟩⟩:=LU r;refine max_two_ints (I.ok.hd f) λg m k=>⟨_,H,I.kept k,?_,q⟩;by_cases d:j > i
 ·rw[aQ d,aQ d];exact⟨_,Z⟩
 ·rw[aP d,aP d];exact⟨_,Z⟩
inductive UV(d:je)(H:Hp)(Q:VK):Prop
 |mk(i j:_)(_:d=[.int i,.int j])(_:Q (.int (if j<i then j else i)) H)
def Eo(f:X.calm=true):Vf X (.builtin "min") (UV):=by
 intro e s v H p n Q I r h;let⟨i,j,rfl,q⟩:=h;let⟨u,o,rfl,⟨t,rfl⟩,⟨l,rfl⟩⟩:=LU r;refine min_two_ints (I.ok.hd f) λg m k=>⟨_,H,I.kept k,?_,q⟩;by_cases d:j<i
 ·rw[aQ d,aQ d];exact⟨_,Z⟩
 ·rw[aP d,aP d];exact⟨_,Z⟩
def GV:Vf X (.type "int") (λd H Q=>(∃ i,d=[.int i]/\Q (.int i) H)\/∃ k,d=[.bl k]/\Q (.int (if k then 1 else 0)) H):=by
 intro e s j H d g Q I r h;rcases h with ⟨i,rfl,q⟩ | ⟨k,rfl,q⟩
 ·let⟨u,rfl,t,rfl⟩:=V5 r;exact call_int_int ⟨.int i,H,I,⟨_,Z⟩,q⟩
 ·let⟨u,rfl,f⟩:=V5 r;cases f;exact call_int_bool ⟨.int (if k then 1 else 0),H,I.tok _,⟨_,Z⟩,q⟩
end
structure UM(h:aD)(x dx C:aj)(mA:jb):Prop where
 obj:h.get? x=some (wR C dx)
 ns:h.Ns1 dx mA
 ne:dx≠x
def Gh{h:aD}{d:aj}{g:jb}(n:h.Ns1 d g):∃ i,h.get? d=some i/\∀ b,vM b i=some (g b):=by
 let⟨o,f,s,p,k,l,_,m⟩:=n;exists o,p;intro b;let e:=m b;unfold nsFind findBy at e;rw[<-Array.find?_toList] at e;unfold vM;rw[k];dsimp only;split
 ·rename_i y q
  rw[q] at e;exact congrArg some e
 ·rename_i q
  rw[q] at e;let a:f.toList.any (·.refKey)=false:=by
   rw[List.any_eq_false];intro y r;let⟨z,t,c⟩:=l y (rZ.mp r);simp[DictEntry.refKey,c]
  let j:¬ f.toList.any (·.refKey)=true:=by rw[a];exact zS
  rw[aP j];exact congrArg some e
def UM.look{h:aD}{x c C:aj}{d:jb}(I:UM h x c C d):∃ b,tN h x (wR C c) C (some b)/\∀ a,vM a b=some (d a):=
 let ⟨b,ho,hl⟩:=Gh I.ns
 ⟨b,⟨I.obj,rfl,rfl,ho⟩,hl⟩
section
variable{prog:am}{w:aw}{A:ax}{E:ja}{s:al}{K:zZ}{x dx C f:aj}{mA:jb}{name:Str}{v:ai}
def Er{a:Bool}{Q:ja}(X:K.In s.heap)(I:UM s.heap x dx C mA)(d:vX K C name=true)(e:wJ K C=true)(c:zD K (.ref C) name=some none)(i:mA name=some v)(b:PySem.W.handedIn v=true)(h:Q v { s with toks:=s.toks+1 }):
  aB (aA prog w) A (getAttr (.ref x) name a) Q E s:=by
 let⟨j,J,g⟩:=I.look;exact PySem.W.get_value X J (sT d).1 (PySem.W.findObj_own e c Z (by rw[g,i])) b h
def AE{i:Sem Bool}{Q:ai×jd->al->Prop}(X:K.In s.heap)(I:UM s.heap x dx C mA)(a:vX K C name=true)(b:zD K (.ref C) name=some (some (.ref f)))(d:wT K (.ref f)=true)(e:mA name=none)(h:Q (.ref f,[.ref x]) s):
  aB (aA prog w) A (getMethod (.ref x) name i) Q E s:=by
 let⟨g,J,c⟩:=I.look;exact PySem.W.method_fn X J (sT a).1 (sT a).2 b (beq_iff_eq.mp d) (by show (vM name g).map (·.isSome)=some false;rw[c,e];rfl) h
def ZNN{l:jq}{Q:Unit->al->Prop}(X:K.In s.heap)(I:UM s.heap x dx C mA)(t:zD K (.ref C) "__setattr__" = some (some (.builtin "object.__setattr__")))(q:uN K C=true)(z:sC K C name=some none)(p:wJ K C=true)(B:PySem.Within mA l)(u:l.length<=aq)(h:∀ e,UM e x dx C (λy=>if y=name then some v else mA y)->wG dx s.heap e->Q () { s with heap:=e,toks:=s.toks+2 }):
  aB (aA prog w) A (setAttr (.ref x) name v) Q E s:=by
 let⟨L,J,G⟩:=I.look;refine PySem.W.set_plain X J t (PySem.W.osa_open (s:={ s with toks:=s.toks+1 }) (r:=none) X J q z λb=>?_);let⟨F,o,i⟩:=uP p;let D:s.heap.get? x=some ⟨.ref C,some dx,.plain,#[]⟩:=I.obj;refine aa (ad (aa (aa (wpAny_loadPart D (aa (yG.here (s:={ s with toks:=s.toks+1 }) (sV X o) ?_))))));rw[i];refine ad (a:=some dx) (aa (ad (aa ?_)));refine wpAny_nsSet1 (s:={ s with toks:=s.toks+1 }) I.ns λe c d=>?_;let⟨H,n,m,k,j,g⟩:=c.count (PySem.Within.cons name v B);refine aa (wpAny_lookBehind k (by rw[j];exact pastItsLine_dict (zC g (by rw[yJ];lia))) ?_)
 exact ad (h _ ⟨(d.2 _ (Ne.symm I.ne)).trans I.obj,c,I.ne⟩ d)
def AH{R:Result->al->Prop}{c:jd}{b:jI}(X:K.In s.heap)(j:uR K C=true)(i:zD K (.ref C) "__init__" = some (some (.ref f)))(e:yM K (.ref f)=some (.type "function"))(h:aH (aA prog w) (A.under (.builtin "type.__call__" ⟨.ref C::c,b⟩)) (.call (.ref f) ⟨.ref (s.heap.objs.size+1)::c,b⟩) (PySem.W.InitBack (s.heap.objs.size+1) R)
   { s with heap:=(s.heap.push wX).push (wR C s.heap.objs.size) }):
  aH (aA prog w) A (.call (.ref C) ⟨c,b⟩) R s:=by
 let⟨k,g,d,t,l⟩:=s;exact PySem.W.make_core (PySem.W.makes_of X j) (uB X i) (λa=>PySem.W.bind_fn X a e) (.inl rfl) h
end
def XU(f:Str)(v:V):List (Str×V)->List (Str×V)
 | []=>[(f,v)]
 | (g,x)::r=>if g=f then (g,v)::r else (g,x)::XU f v r
def Im(f g:Str)(v:V):∀ c:List (Str×V),(XU f v c).lookup g=if g=f then some v else c.lookup g
 | []=>by
  show xT g [(f,v)]=_;by_cases h:g=f
  ·let a:(g==f)=true:=beq_iff_eq.mpr h;simp only[xT,a,aQ h]
  ·let a:(g==f)=false:=beq_eq_false_iff_ne.mpr h;simp only[xT,a,aP h]
 | (k,x)::r=>by
  let d:=Im f g v r;rw[show XU f v ((k,x)::r)=(if k=f then (k,v)::r else (k,x)::XU f v r) from rfl]
  by_cases b:k=f
  ·rw[aQ b];by_cases h:g=k
   ·let a:(g==k)=true:=beq_iff_eq.mpr h;simp only[xT,a,aQ (h.trans b)]
   ·let a:(g==k)=false:=beq_eq_false_iff_ne.mpr h;simp only[xT,a,aP (λe:g=f=>h (e.trans b.symm))]
  ·rw[aP b];by_cases h:g=k
   ·let a:(g==k)=true:=beq_iff_eq.mpr h;simp only[xT,a,aP (λe:g=f=>b (h.symm.trans e))]
   ·let a:(g==k)=false:=beq_eq_false_iff_ne.mpr h;simp only[xT,a];exact d
def IK(f:Str)(v:V):∀ a:List (Str×V),f∈(XU f v a).map (·.1)/\∀ g,g∈a.map (·.1)->g∈(XU f v a).map (·.1)
 | []=>⟨by simp[XU],λg h=>by simp at h⟩
 | (k,x)::r=>by
  let⟨c,d⟩:=IK f v r;rw[show XU f v ((k,x)::r)=(if k=f then (k,v)::r else (k,x)::XU f v r) from rfl]
  by_cases b:k=f
  ·rw[aQ b];subst b;exact⟨by simp,λg h=>by simpa using h⟩
  ·rw[aP b];refine⟨?_,λg h=>?_⟩
   ·rw[yP];exact zI _ c
   ·rw[yP] at h⊢;rcases zF.mp h with e | e
    ·exact zF.mpr (.inl e)
    ·exact zI _ (d g e)
def HV(f:Str)(v:V):∀ a:List (Str×V),(XU f v a).length<=a.length+1
 | []=>by simp[XU]
 | (k,x)::r=>by
  let c:=HV f v r;rw[show XU f v ((k,x)::r)=(if k=f then (k,v)::r else (k,x)::XU f v r) from rfl]
  by_cases b:k=f
  ·rw[aQ b,yJ,yJ];lia
  ·rw[aP b,yJ,yJ];lia
def Yu.some_of{v:V}{o:jc}(r:Yu (some v) o):∃ u,o=some u/\ZY v u:=by
 cases o with
 | none=>exact(show False from r).elim
 | some u=>exact⟨u,Z,r⟩
def Yu.none_of{o:jc}(r:Yu none o):o=none:=by
 cases o with
 | none=>rfl
 | some u=>exact(show False from r).elim
def HM{v:V}{u:ai}(r:ZY v u):PySem.W.handedIn u=true:=by
 cases v with
 | non=>cases(show u=Value.none from r);rfl
 | bl b=>cases(show u=Value.bool b from r);rfl
 | int i=>let⟨t,e⟩:=(show ∃ t,u=Value.int i t from r);cases e;rfl
 | str x=>let⟨t,e⟩:=(show ∃ t,u=Value.str x t from r);cases e;rfl
 | byt b=>let⟨t,e⟩:=(show ∃ t,u=Value.bytes b t from r);cases e;rfl
 | flt b=>let⟨t,e⟩:=(show ∃ t,u=Value.float b t from r);cases e;rfl
 | ref a=>cases(show u=Value.ref a from r);rfl
 | ty n=>cases(show u=Value.type n from r);rfl
section
variable{P:am}{w:aw}{H H':Hp}{h h':aD}{a C dx:aj}{fs fs':List (Str×V)}
def LR(c:YW P w H h)(e:H a=some (.ins C dx fs)):∃ b,UM h a dx C b/\(∀ f,Yu (fs.lookup f) (b f))/\PySem.Within b (fs.map (·.1))/\fs.length<=1000/\H dx=some (.own a):=by
 let⟨d,z,g,i,b,n,r,q⟩:=(show Zk P w H h a (.ins C dx fs) from c a _ e);exact⟨b,⟨i,n,g⟩,r,q,z,d⟩
end
structure Vk(K:zZ)(C:aj):Prop where
 pg:vX K C Str.empty=true
 hd:wJ K C=true
 po:uN K C=true
 sa:zD K (.ref C) "__setattr__" = some (some (.builtin "object.__setattr__"))
def Vk.get{K:zZ}{C:aj}(c:Vk K C)(f:Str):vX K C f=true:=c.pg
def YJ(K:zZ)(C:aj)(f:Str):Prop:=zD K (.ref C) f=some none
def YJ.taker{K:zZ}{C:aj}{f:Str}(n:YJ K C f):sC K C f=some none:=by
 unfold sC;rw[show zD K (.ref C) f=some none from n];rfl
structure UL(K:zZ)(C:aj)(m:Str)(f:aj):Prop where
 at_:zD K (.ref C) m=some (some (.ref f))
 fn:wT K (.ref f)=true
 kp:yX K (.ref f)=true
section
variable{jW:js}{σ:St}{H:Hp}{s:al}{a C dx:aj}{fs:List (Str×V)}{f:Str}{v:V}{A:ax}{E:ja}
def Iw{b:Bool}{Q:ja}(I:ZI X jW σ H s)(e:H a=some (.ins C dx fs))(c:Vk X.K C)(n:YJ X.K C f)(l:fs.lookup f=some v)(h:∀ u g,ZI X jW σ H g->ZY v u->Q u g):aB (aA X.prog X.w) A (getAttr (.ref a) f b) Q E s:=by
 let⟨j,O,r,_,_,_⟩:=LR I.hok e;let⟨u,i,d⟩:=Yu.some_of (v:=v) (o:=j f) (by rw[<-l];exact r f)
 exact Er I.kIn O (c.get f) c.hd n i (HM d) (h u _ (I.tok _) d)
def Ll{m:Str}{g:aj}{i:Sem Bool}{Q:ai×jd->al->Prop}(I:ZI X jW σ H s)(e:H a=some (.ins C dx fs))(c:Vk X.K C)(k:UL X.K C m g)(l:fs.lookup m=none)(h:Q (.ref g,[.ref a]) s):aB (aA X.prog X.w) A (getMethod (.ref a) m i) Q E s:=by
 let⟨d,O,r,_,_,_⟩:=LR I.hok e;let b:d m=none:=Yu.none_of (by rw[<-l];exact r m)
 exact AE I.kIn O (c.get m) k.at_ k.fn b h
def Ii{y:V}{u:ai}{Q:Unit->al->Prop}(I:ZI X jW σ H s)(e:H a=some (.ins C dx fs))(c:Vk X.K C)(n:YJ X.K C f)(J:fs.length<1000)(F:ZY y u)(h:∀ k,ZI X jW σ (upd H a (.ins C dx (XU f y fs))) k->Q () k):aB (aA X.prog X.w) A (setAttr (.ref a) f u) Q E s:=by
 let⟨j,O,r,l,_,i⟩:=LR I.hok e;let D:(fs.map (·.1)).length<=sizeLine:=by rw[zX,sizeLine_eq];lia
 refine ZNN I.kIn O c.sa c.po n.taker c.hd l D λm d G=>h _ ?_;let t:∃ o,m.get? dx=some o:=let ⟨o,_,_,e',_⟩:=d.ns;⟨o,e'⟩;refine I.write (x:=a) (e:=dx) (by rw[e];exact True.intro) (.inr i) (λb q p z=>(G.2 b p).trans z) t ?_
 refine⟨by rw[ZU O.ne];exact i,?_,O.ne,d.obj,_,d.ns,λg=>?_,λg B=>?_⟩
 ·have:=HV f y fs;lia
 ·show Yu ((XU f y fs).lookup g) (if g=f then some u else j g)
  rw[Im];by_cases q:g=f
  ·rw[aQ q,aQ q];exact F
  ·rw[aP q,aP q];exact r g
 ·by_cases q:g=f
  ·rw[q];exact(IK f y fs).1
  ·refine(IK f y fs).2 g (l g λz=>B ?_);show (if g=f then some u else j g)=none
   rw[aP q];exact z
def ZI.made(I:ZI X jW σ H s):ZI X jW σ (upd (upd H s.heap.objs.size (.own (s.heap.objs.size+1))) (s.heap.objs.size+1) (.ins C s.heap.objs.size []))
  { s with heap:=(s.heap.push wX).push (wR C s.heap.objs.size) }:=by
 let c:(s.heap.push wX).get? s.heap.objs.size=some wX:=yO s.heap Z;let h:((s.heap.push wX).push (wR C s.heap.objs.size)).get? (s.heap.objs.size+1)=some (wR C s.heap.objs.size):=by
  have:=yO (s.heap.push wX) (o:=wR C s.heap.objs.size) Z
  rwa [vQ] at this
 let i:(s.heap.push wX).Ns s.heap.objs.size (λ_=>none):=⟨wX,#[],_,c,Z,(λe j=>absurd j (by simp)),λ_=>rfl⟩
 let g:=I.laid (a:=s.heap.objs.size) (o:=.own (s.heap.objs.size+1)) (h':=s.heap.push wX) (t':=s.toks) (λb u q=>zQ _ q) (zY _) ⟨_,c⟩;refine g.laid (a:=s.heap.objs.size+1) (o:=.ins C s.heap.objs.size []) (t':=s.toks) (λb u q=>zQ _ q) (wC (vQ _ _)) ?_;let d:s.heap.objs.size≠s.heap.objs.size+1:=zM (xV _);refine⟨by rw[ZU d,ZO],yT _,d,h,λ_=>none,(Heap.Ns1.of_empty i).at λo q=>zQ _ q,λ_=>True.intro,λy k=>absurd Z k⟩
def GJ{c:am}{w:aw}{b:Env}{e:Expr}{f:Str}{g:aK}{s:al}{Q:ja}(i:attributeBase e f b (aI e b)=aI e b)(h:aB (aA c w) A (aI e b) (λo d=>aB (aA c w) A (getAttr o f true) Q E d) E s):aB (aA c w) A (aI (.Attribute e f g) b) Q E s:=
 Attribute_any_ h (by rw[arm_eval_Attribute,i])
end
inductive ML(K:zZ)(f:Str)(Q:VK)(x:V)(b:Hp):Prop
 |mk(a C d c v:_)(_:x=.ref a)(_:b a=some (.ins C d c))(_:Vk K C)(_:YJ K C f)(_:c.lookup f=some v)(_:Q v b)
def ZQU(K:zZ)(b:TE)(f:Str):TE:=λc H Q=>b c H λx a=>ML K f Q x a
inductive Nw(K:zZ)(f:Str)(D:Yf)(e:L2.St)(y x:V)(c:Hp):Prop
 |mk(a C d b:_)(_:x=.ref a)(_:c a=some (.ins C d b))(_:Vk K C)(_:YJ K C f)(_:b.length<1000)(_:D.nx e (upd c a (.ins C d (XU f y b))))
def B9(K:zZ)(d e:TE)(f:Str):TS:=λD a H=>e a H λy b=>d a b λx c=>Nw K f D a y x c
def G5(X:Cx)(c:Operator)(rd:V->V->Hp->VK->Prop):Prop:=
 ∀(a:js)(s:al)(b:St)(H:Hp)(x y:V)(u v:ai)(Q:VK),ZI X a b H s->ZY x u->ZY y v->rd x y H Q->aB (aA X.prog X.w) X.A (inplaceOp c u v) (EP X a b Q) X.xe s
inductive QX(K:zZ)(k:TE)(rd:V->V->Hp->VK->Prop)(f:Str)(D:Yf)(h:L2.St)(x:V)(d:Hp):Prop
 |mk(a C j g v:_)(_:x=.ref a)(_:d a=some (.ins C j g))(_:Vk K C)(_:YJ K C f)(_:g.lookup f=some v)(_:k h d λy i=>rd v y i λz e=>∃ c b,e a=some (.ins C c b)/\b.length<1000/\D.nx h (upd e a (.ins C c (XU f z b))))
def ZNw(K:zZ)(c d:TE)(rd:V->V->Hp->VK->Prop)(f:Str):TS:=λD a H=>c a H λx b=>QX K d rd f D a x b
section
variable{o e value:Expr}{f:Str}{pos pos' tpos:aK}{ta tv:TE}
def WC(p:PE X e ta)(m:attributeBase e f X.env (aI e X.env)=aI e X.env):PE X (.Attribute e f pos) (ZQU X.K ta f):=by
 intro b s w H Q I h;refine GJ m (Z5 (p b s w H _ I h) ?_);rintro u A ⟨x,d,g,t,a,C,y,z,v,k,j,c,n,l,q⟩;subst k;obtain rfl:u=Value.ref a:=t;exact Iw g j c n l λD B i r=>⟨v,d,i,r,q⟩
def Pb(r:PE X o ta)(v:PE X value tv)(t:aF value (some (.Attribute o f pos')) pos.line X.env=pure false):PS X (.Assign [.Attribute o f pos'] value pos) (B9 X.K ta tv f):=by
 intro b s d H D I h;refine plainObj_wpAny_Assign_Attribute (YO (v b s d H _ I h) λu E y g i B q=>Z5 (r b E d g _ i q) λw L ⟨x,F,j,A,a,C,G,J,p,m,c,n,l,z⟩=>?_) t;subst p;obtain rfl:w=Value.ref a:=A;exact Ii j m c n l B λM k=>⟨d,_,k,z⟩
def Gu{j:Operator}{rd:V->V->Hp->VK->Prop}(J:PE X o ta)(L:PE X value tv)(i:G5 X j rd):PS X (.AugAssign (.Attribute o f tpos) j value pos) (ZNw X.K ta tv rd f):=by
 intro b s d H D I h;refine wpAny_AugAssign_AttributeAny (Z5 (J b s d H _ I h) ?_);rintro N s1 ⟨x,k,p,R,a,C,dx,fs,v,F,E,c,n,l,q⟩;subst F;obtain rfl:N=Value.ref a:=R;refine Iw p E c n l λu U r Q=>YO (L b U d k _ r q) λY W y m t S O=>Z5 (i b W d m v y u Y _ t Q S O) ?_;rintro w4 s4 ⟨z,H3,w,T,B,G,g,M,P⟩;exact Ii w g c n M T λs5 A=>⟨d,_,A,P⟩
inductive Kz(x y:V)(H:Hp)(Q:VK):Prop
 |mk(i j:_)(_:x=.int i)(_:y=.int j)(_:Q (.int (i-j)) H)
def Fw:G5 X .Sub Kz:=by
 rintro a s g H x y u v Q I c d ⟨i,j,rfl,rfl,q⟩;let⟨t,rfl⟩:=(show ∃ t,u=Value.int i t from c);let⟨b,rfl⟩:=(show ∃ b,v=Value.int j b from d);exact PyProof.Rows.isub_int ⟨.int (i-j),H,I.tok _,⟨_,Z⟩,q⟩
end
section
variable{jW:js}{σ:St}{H:Hp}{s:al}{A:ax}{E Q:ja}{c:ai}{b:Bool}
inductive XV(K:zZ)(H:Hp):V->ai->Prop where
 | non:XV K H .non (.type "NoneType")
 | bl (x:Bool):XV K H (.bl x) (.type "bool")
 | int (i:Int):XV K H (.int i) (.type "int")
 | str (x:Str):XV K H (.str x) (.type "str")
 | flt (x:UInt64):XV K H (.flt x) (.type "float")
 | lst {a:aj} {xs:je} (e:H a=some (.lst xs)):XV K H (.ref a) (.type "list")
 | frz {a:aj} {o:aJ} {xs:je} (e:H a=some (.frz o (.lst xs))):XV K H (.ref a) (.type "list")
 | tup {a:aj} {xs:je} (e:H a=some (.tup xs)):XV K H (.ref a) (.type "tuple")
 | dK {a:aj} {kvs:List (ZW×V)} (e:H a=some (.dK kvs)):XV K H (.ref a) (.type "dict")
 | dT {a:aj} {kvs:List (jE×V)} (e:H a=some (.dT kvs)):XV K H (.ref a) (.type "dict")
 | ins {a C dx:aj} {fs:List (Str×V)} (e:H a=some (.ins C dx fs)) (cl:Vk K C) (ha:zD K (.ref C) "__class__" = some (some (.builtin "object.__class__")))
   (hn:PySem.W.specialIn K (.builtin "object.__class__") "__get__" = some (some (.builtin "getset_descriptor.__get__"))) (htk:PySem.W.takesIn K (.builtin "object.__class__")=some true)
   (hm:zE K C (.type "object")=some true):XV K H (.ref a) (.ref C)
def ZJT{x:V}{u t:ai}(I:ZI X jW σ H s)(f:ZY x u)(N:XV X.K H x t)(e:yW X.K t c=some b)(h:∀ M,Q (.bool b) { s with toks:=M }):
  aB (aA X.prog X.w) A (call (.builtin "isinstance") [u,c]) Q E s:=by
 cases N with
 | non=>cases(show u=Value.none from f);exact xQ PySem.W.kitx_none I.kIn True.intro e (λz=>nomatch z) h
 | bl y=>cases(show u=Value.bool y from f);exact xQ PySem.W.kitx_bool I.kIn True.intro e (λz=>nomatch z) h
 | int i=>let⟨t,q⟩:=(show ∃ t,u=Value.int i t from f);cases q;exact xQ PySem.W.kitx_int I.kIn True.intro e (λz=>nomatch z) h
 | str y=>let⟨t,q⟩:=(show ∃ t,u=Value.str y t from f);cases q;exact xQ PySem.W.kitx_str I.kIn True.intro e (λz=>nomatch z) h
 | flt y=>let⟨t,q⟩:=(show ∃ t,u=Value.float y t from f);cases q;exact xQ PySem.W.kitx_float I.kIn True.intro e (λz=>nomatch z) h
 | @lst a k d=>
  cases(show u=Value.ref a from f);let⟨_,_,n,_,g⟩:=(show Zk X.prog X.w H s.heap a (.lst k) from I.hok a _ d);exact xQ PySem.W.kitx_list I.kIn ⟨_,g,Z⟩ e (λz=>nomatch z) h
 | @frz a L k d=>
  cases(show u=Value.ref a from f);let⟨_,_,_,n,_,g⟩:=(show Zk X.prog X.w H s.heap a (.frz L (.lst k)) from I.hok a _ d);exact xQ PySem.W.kitx_list I.kIn ⟨_,g,Z⟩ e (λz=>nomatch z) h
 | @tup a k d=>
  cases(show u=Value.ref a from f);let⟨_,_,_,p⟩:=(show Zk X.prog X.w H s.heap a (.tup k) from I.hok a _ d);let⟨o,g,l,_⟩:=p;exact xQ PySem.W.kitx_tuple I.kIn ⟨o,g,l⟩ e (λz=>nomatch z) h
 | @dK a j d=>
  cases(show u=Value.ref a from f);let⟨_,_,U,_,p⟩:=(show Zk X.prog X.w H s.heap a (.dK j) from I.hok a _ d);let⟨o,B,v,g,l,_⟩:=p;exact xQ PySem.W.kitx_dict I.kIn ⟨o,g,l.1⟩ e (λz=>nomatch z) h
 | @dT a j d=>
  cases(show u=Value.ref a from f);let⟨_,_,k,_,o,B,v,g,l,_⟩:=(show Zk X.prog X.w H s.heap a (.dT j) from I.hok a _ d);exact xQ PySem.W.kitx_dict I.kIn ⟨o,g,l.1⟩ e (λz=>nomatch z) h
 | @ins a C P R d r D G m F=>
  cases(show u=Value.ref a from f);let⟨S,O,_⟩:=LR I.hok d;let⟨T,J,_⟩:=O.look;exact xQ (PySem.W.kitx_own (r.get _) r.hd D G m F) I.kIn J e (λz=>nomatch z) h
end
structure Zc(k:Nat)(A:ax):Prop where
 hd:A.handled=none
 dp:A.depth+3 * k+5<recursionLimit
 un:A.units+16 * k+200<cLine
def Zc.mono{j k:Nat}{A:ax}(r:Zc k A)(h:j<=k):Zc j A:=⟨r.hd,by have:=r.dp;lia,by have:=r.un;lia⟩
def Zc.to{j:Nat}{A:ax}(r:Zc j A)(k:Nat)(h:k<=j:=by decide):Zc k A:=r.mono h
def Zc.deeper{k:Nat}{A:ax}(r:Zc (k+1) A)(a:Env):Zc k (A.deeper a):=
 ⟨r.hd,by have:=r.dp;show A.depth+1+3 * k+5<_;lia,by have:=r.un;show A.units+3+16 * k+200<_;lia⟩
def Zc.in1{k:Nat}{A:ax}(r:Zc (k+1) A):Zc k A.in1:=
 ⟨r.hd,by have:=r.dp;show A.depth+3 * k+5<_;lia,by have:=r.un;show A.units+1+16 * k+200<_;lia⟩
def BG{A:ax}{C:aj}{b:jd}{a:jI}:(A.under (.builtin "type.__call__" ⟨.ref C::b,a⟩)).depth=A.depth+1:=by
 first | rfl | simp[Around.under,Code.weight,Code.isCreation,Code.isGuard,Code.isCaller,Code.frames,Code.isFrame,guardIds]
def ZH0{A:ax}{C:aj}{b:jd}{a:jI}:(A.under (.builtin "type.__call__" ⟨.ref C::b,a⟩)).units=A.units+1:=by
 first | rfl | simp[Around.under,Code.cUnits,Code.frames,Code.isFrame]
def Zc.make{k:Nat}{A:ax}(r:Zc (k+1) A)(C:aj)(b:jd)(a:jI):Zc k (A.under (.builtin "type.__call__" ⟨.ref C::b,a⟩)):=
 ⟨r.hd,by have:=r.dp;rw[BG];lia,by have:=r.un;rw[ZH0];lia⟩
def Zc.depth{k:Nat}{A:ax}(r:Zc k A):A.depth<recursionLimit:=by have:=r.dp;lia
def Zc.units{k:Nat}{A:ax}(r:Zc k A):A.units+64<cLine:=by have:=r.un;lia
def Zc.units0{k:Nat}{A:ax}(r:Zc k A):A.units<cLine:=by have:=r.un;lia
def Y0:TA:=λ_ H Q=>Q [] H
def Z9(d:TE)(e:TA):TA:=λa H Q=>d a H λx b=>e a b λf c=>Q (x::f) c
section
variable{e:Expr}{es:jx}{te:TE}{t:TA}{pos:aK}
def Zw:PA X [] Y0:=λ_ _ _ _ H Q I h=>Calls.spliced_nil ⟨[],H,I,.nil,h⟩
def Zj(i:PE X e te)(j:PA X es t)(k:ar (e::es) X.env=(false,aI e X.env)::ar es X.env:=by rfl):PA X (e::es) (Z9 te t):=by
 intro pos a s b H Q I h;rw[k];show aB _ _ (spliced ((false,aI e X.env)::aG pos (ar es X.env))) _ _ s;refine Calls.spliced_cons (YO (i a s b H _ I h) λu p x c f n l=>?_);exact YO (j pos a p b c _ f l) λv r q d g o m=>⟨x::q,d,g,.cons n o,m⟩
def GL(t:TA):TE:=λc H Q=>t c H λb a=>b.length<=aq/\∀ p,a p=none->Q (.ref p) (upd a p (.tup b))
def VF(t:TA):TE:=λc H Q=>t c H λb a=>b.length<=aq/\∀ p,a p=none->Q (.ref p) (upd a p (.lst b))
def Yg{k}(h:PA X es t):PE X (.Tuple es k pos) (GL t):=by
 intro a s m H Q I i;refine wpAny_Tuple_spliced (Z5 (h pos a s m H _ I i) λj c ⟨l,d,f,r,z,q⟩=>⟨by rw[<-r.length];exact z,?_⟩)
 let g:d c.heap.objs.size=none:=f.hok.fresh (zY _);refine⟨.ref c.heap.objs.size,upd d c.heap.objs.size (.tup l),f.laid (t':=c.toks) (λb u e=>zQ _ e) (zY _) ?_,Z,q _ g⟩;exact⟨z,j,r,⟨_,yO _ Z,Z,_,Z⟩⟩
def Yp(h:PA X es t):PE X (.List es pos) (VF t):=by
 intro a s l H Q I i;refine wpAny_List_spliced (Z5 (h pos a s l H _ I i) λj c ⟨k,d,f,r,z,q⟩=>⟨by rw[<-r.length];exact z,?_⟩)
 let g:d c.heap.objs.size=none:=f.hok.fresh (zY _);refine⟨.ref c.heap.objs.size,upd d c.heap.objs.size (.lst k),f.laid (t':=c.toks) (λb u e=>zQ _ e) (zY _) ?_,Z,q _ g⟩;exact⟨z,j,0,r,yO _ Z⟩
end
abbrev Sp:=je->Hp->VK->XK->Prop
abbrev Wu:=jA->Hp->al->XK->ja
structure Wy(P:am)(w:aw)(K:zZ)(mg:jb)(jX:aD)(A:ax)(outer:jA)(s:al)(H:Hp):Prop where
 frames:A.frames=some outer
 mod:Mod K mg jX
 bs:∀ b o,jX.get? b=some o->s.heap.get? b=some o/\H b=none
 bsz:jX.objs.size<=s.heap.objs.size
 funs:s.heap.FunFrames jX outer
 frf:∀ b∈frs outer,H b=none
 hok:YW P w H s.heap
 bare:AllBare s.gens
def CE(a:jA)(P:am)(w:aw)(H:Hp)(s:al)(Q:VK)(u:ai)(b:al):Prop:=
 ∃ v c,b.os=s.os/\AllBare b.gens/\Un (frs a) [] H c s.heap b.heap/\YW P w c b.heap/\ZY v u/\Q v c
def CR(c:Wu)(a:jA)(P:am)(w:aw)(H:Hp)(s:al)(Q:VK)(E:XK)(r:Result)(b:al):Prop:=
 match r with
 | .ok (.ret u)=>CE a P w H s Q u b
 | .ok _=>False
 | .error e=>c a H s E e b
structure ZH(P:am)(w:aw)(K:zZ)(mg:jb)(jX:aD)(CX:Wu)(k:Nat)(f:aj)(fd:ao)(ps:jq)(sp:Sp):Prop where
 len:∀ vs H Q E,sp vs H Q E->vs.length=ps.length
 run:∀(A:ax)(outer:jA)(s:al)(H:Hp)(args:Args)(us:jd)(vs:je)(Q:VK)(E:XK),Zc k A->Wy P w K mg jX A outer s H->BindsTo s fd args (ps.zip us)->ZR vs us->sp vs H Q E ->
  aH (aA P w) A (.call (.ref f) args) (CR CX outer P w H s Q E) s
def ZH.imp{P:am}{w:aw}{K:zZ}{i:jb}{a:aD}{e:Wu}{k:Nat}{f:aj}{g:ao}{j:jq}{l d:Sp}(F:ZH P w K i a e k f g j l)(h:∀ c H Q E,d c H Q E->l c H Q E):ZH P w K i a e k f g j d:=
 ⟨λc H Q E q=>F.len c H Q E (h _ _ _ _ q),λA b s H args t c Q E o n m r p=>F.run A b s H args t c Q E o n m r (h _ _ _ _ p)⟩
def Wy.make{P:am}{w:aw}{K:zZ}{c:jb}{b:aD}{A:ax}{a:jA}{s:al}{H:Hp}(e:Wy P w K c b A a s H)(C:aj)(f:jd)(d:jI):
  Wy P w K c b (A.under (.builtin "type.__call__" ⟨.ref C::f,d⟩)) a s H:=⟨by first | exact e.frames | (simpa [Around.under,Code.envs,Code.isFrame,pushEnvs] using e.frames),e.mod,e.bs,e.bsz,e.funs,e.frf,e.hok,e.bare⟩
section
variable{jW:js}{σ:St}{H:Hp}{s s':al}
def ZI.env0(I:ZI X jW σ H s):Wy X.prog X.w X.K X.mg X.base X.A X.stack s H:=
 ⟨I.ok.frames,I.ok.mod,I.bs,zC I.ok.bsz I.sz,I.stack,I.stkFree,I.hok,I.bare⟩
def ZI.after{Q:VK}{u:ai}(I:ZI X jW σ H s)(h:CE X.stack X.prog X.w H s Q u s'):EP X jW σ Q u s':=by
 let⟨v,f,j,a,k,c,r,q⟩:=h;let⟨i,g,d,t,e⟩:=s';obtain rfl:e=s.os:=j;exact⟨v,f,I.call (h':=i) (g':=g) (d':=d) (t':=t) (ch:=[]) k c a (λb z=>absurd z (by simp)),r,q⟩
end
def OI(c:Sp)(a:je)(E:XK)(t:TA):TE:=λe H Q=>t e H λd b=>c (d++a) b Q E
inductive OV(C:aj)(m:Str)(g:Sp)(b:je)(E:XK)(t:TA)(i:L2.St)(Q:VK)(x:V)(c:Hp):Prop
 |mk(a f d:_)(_:x=.ref a)(_:c a=some (.ins C f d))(_:d.lookup m=none)(_:t i c λh e=>g (x::(h++b)) e Q E)
def Lc(C:aj)(m:Str)(d:Sp)(a:je)(E:XK)(e:TE)(t:TA):TE:=λb H Q=>e b H λx c=>OV C m d a E t b Q x c
def Lh(C:aj)(e:Sp)(c:je)(E:XK)(t:TA):TE:=λg H Q=>t g H λf b=>∀ x a,b x=none->b a=none->a≠x ->
 e (.ref x::(f++c)) (upd (upd b a (.own x)) x (.ins C a [])) (λv d=>v=.non/\Q (.ref x) d) E
def YB(K:zZ)(d:ao)(c:jq)(b:jd):Prop:=
 ∀(s:al)(a:jd),K.In s.heap->(a++b).length=c.length->BindsTo s d ⟨a,[]⟩ (c.zip (a++b))
def YB.all{K:zZ}{c:ao}{b:jq}(h:∀ a:jd,a.length=b.length->bindArgs c ⟨a,[]⟩=pure (b.zip a)):YB K c b []:=λs a _ d=>by
 rw[vZ] at d⊢;exact .of_eq (h a d)
def Vl(c:Wu)(X:Cx)(E:XK):Prop:=∀(a:js)(d:St)(H:Hp)(s:al)(e:ai)(b:al),ZI X a d H s->c X.stack H s E e b->X.xe e b
section
variable{CX:Wu}{k:Nat}{f C:aj}{fd:ao}{ps:jq}{sp:Sp}{jm:je}{ds:jd}{E:XK}{x m:Str}{p pos jj:aK}{e o:Expr}{es:jx}{ta:TE}{t:TA}
def KJ{a:js}{c:St}{H:Hp}{s:al}{Q:VK}{us:jd}{vs:je}(F:ZH X.prog X.w X.K X.mg X.base CX k f fd ps sp)(n:Zc k X.A)(i:YB X.K fd ps ds)(j:ZR jm ds)(q:Vl CX X E)(I:ZI X a c H s)(r:ZR vs us)(h:sp (vs++jm) H Q E):aB (aA X.prog X.w) X.A (call (.ref f) us) (EP X a c Q) X.xe s:=by
 let d:ZR (vs++jm) (us++ds):=r.append j;let l:(us++ds).length=ps.length:=by rw[<-d.length];exact F.len _ _ _ _ h
 refine wpAny_call (codeAny_mono (F.run X.A X.stack s H ⟨us,[]⟩ (us++ds) (vs++jm) Q E n I.env0 (i s us I.kIn l) d h) λr v b=>?_)
 cases r with
 | error e=>exact q a c H s e v I b
 | ok g=>
  cases g with
  | ret u=>exact I.after b
  | next=>exact False.elim b
  | brk=>exact False.elim b
  | cont=>exact False.elim b
def Ge(F:ZH X.prog X.w X.K X.mg X.base CX k f fd ps sp)(y:Zc k X.A)(n:Gl X x)(v:X.mg x=some (.ref f))(u:yX X.K (.ref f)=true)(i:YB X.K fd ps ds)(j:ZR jm ds)(z:Vl CX X E)(g:PA X (e::es) t)(b:(x==("__debug__" : Str))=false:=by decide)(l:ar (e::es) X.env=(false,aI e X.env)::ar es X.env:=by rfl)(c:(aG pos (ar es X.env)).any (·.1)=false:=by rfl):
  PE X (.Call (.Name x p) (e::es) [] pos) (OI sp jm E t):=by
 intro a s B H Q I h;refine ag (Q1 I n v ?_ b);refine wI (h₀:=X.base) I.ok.mod.kin u (YO (g pos a s B H _ I h) λJ G L D d r q=>⟨d.kIn,?_⟩) l c;exact KJ F y i j z d r q
def Bf{v:Sem Bool}(M:PE X o ta)(c:Vk X.K C)(n:UL X.K C m f)(F:ZH X.prog X.w X.K X.mg X.base CX k f fd ps sp)(N:Zc k X.A)(J:YB X.K fd ps ds)(L:ZR jm ds)(P:Vl CX X E)(G:PA X (e::es) t)(g:ar (e::es) X.env=(false,aI e X.env)::ar es X.env:=by rfl)(d:(aG pos (ar es X.env)).any (·.1)=false:=by rfl)(O:aI (.Call (.Attribute o m jj) (e::es) [] pos) X.env=(do
   let ov<-aI o X.env
   standAt jj.atName
   let (f,first)<-holding [ov] (getMethod ov m v)
   callWith pos f first (aG pos (ar (e::es) X.env)) (backToKw pos (keywordEach [] X.env))):=by rfl):
  PE X (.Call (.Attribute o m jj) (e::es) [] pos) (Lc C m sp jm E ta t):=by
 intro b s y H Q I h;refine uA (pl:=v) (Z5 (M b s y H _ I h) λu T ⟨x,z,i,S,a,dx,fs,D,B,l,q⟩=>?_) O;subst D;obtain rfl:u=Value.ref a:=S;refine Ll i B c n l ?_;refine wI (first:=[.ref a]) (h₀:=X.base) I.ok.mod.kin n.kp (YO (G pos b T y z _ i q) λU s2 V Y j r R=>⟨j.kIn,?_⟩) g d
 exact KJ (us:=.ref a::U) (vs:=.ref a::V) F N J L P j (.cons rfl r) R
def Ci{i:Sem Bool}(y:PE X o ta)(c:Vk X.K C)(g:UL X.K C m f)(F:ZH X.prog X.w X.K X.mg X.base CX k f fd ps sp)(z:Zc k X.A)(r:YB X.K fd ps ds)(v:ZR jm ds)(D:Vl CX X E)(B:aI (.Call (.Attribute o m jj) [] [] pos) X.env=(do
   let ov<-aI o X.env
   standAt jj.atName
   let (f,first)<-holding [ov] (getMethod ov m i)
   callWith pos f first (aG pos (ar [] X.env)) (backToKw pos (keywordEach [] X.env))):=by rfl):
  PE X (.Call (.Attribute o m jj) [] [] pos) (Lc C m sp jm E ta Y0):=by
 intro b s J H Q I h;refine uA (pl:=i) (Z5 (y b s J H _ I h) λu O ⟨x,L,d,G,a,M,N,n,j,l,q⟩=>?_) B;subst n;obtain rfl:u=Value.ref a:=G;refine Ll d j c g l ?_;exact sX (first:=[.ref a]) d.kIn g.kp (KJ (us:=[.ref a]) (vs:=[.ref a]) F z r v D d (.cons rfl .nil) q)
structure Mk(K:zZ)(C f:aj):Prop where
 makes:uR K C=true
 init:zD K (.ref C) "__init__" = some (some (.ref f))
 fn:wT K (.ref f)=true
 kp:yX K (.ref C)=true
def Io{b:js}{i:St}{H:Hp}{s:al}{Q:VK}{us:jd}{g:je}(M:Mk X.K C f)(F:ZH X.prog X.w X.K X.mg X.base CX k f fd ps sp)(L:Zc (k+1) X.A)(D:YB X.K fd ps ds)(G:ZR jm ds)(N:Vl CX X E)(I:ZI X b i H s)(r:ZR g us)(h:∀ x d,H x=none->H d=none->d≠x->sp (.ref x::(g++jm)) (upd (upd H d (.own x)) x (.ins C d [])) (λv q=>v=.non/\Q (.ref x) q) E):
  aB (aA X.prog X.w) X.A (call (.ref C) us) (EP X b i Q) X.xe s:=by
 let j:=h (s.heap.objs.size+1) s.heap.objs.size (I.hok.fresh (xI _)) (I.hok.fresh (zY _)) (zM (xV _));let c:=ZI.made (C:=C) I;let l:ZR (V.ref (s.heap.objs.size+1)::(g++jm)) (Value.ref (s.heap.objs.size+1)::(us++ds)):=.cons Z (r.append G);let J:(Value.ref (s.heap.objs.size+1)::us++ds).length=ps.length:=by
  let e:=l.length;rw[F.len _ _ _ _ j] at e;exact e.symm
 refine wpAny_call (AH (f:=f) I.kIn M.makes M.init (beq_iff_eq.mp M.fn) (codeAny_mono (F.run _ X.stack _ _ ⟨Value.ref (s.heap.objs.size+1)::us,[]⟩ (Value.ref (s.heap.objs.size+1)::(us++ds)) _ _ E (L.make C us [])
  (c.env0.make C us []) (D _ (Value.ref (s.heap.objs.size+1)::us) c.kIn J) l j) λr R a=>?_))
 cases r with
 | error e=>exact N b i _ _ e R c a
 | ok B=>
  cases B with
  | ret u=>
   let⟨v,n,y,P,z,O⟩:=c.after a;subst z;exact⟨P,⟨V.ref (s.heap.objs.size+1),n,y,Z,O⟩⟩
  | next=>exact False.elim a
  | brk=>exact False.elim a
  | cont=>exact False.elim a
def CF(M:Mk X.K C f)(F:ZH X.prog X.w X.K X.mg X.base CX k f fd ps sp)(v:Zc (k+1) X.A)(n:Gl X x)(u:X.mg x=some (.ref C))(i:YB X.K fd ps ds)(j:ZR jm ds)(y:Vl CX X E)(g:PA X (e::es) t)(b:(x==("__debug__" : Str))=false:=by decide)(l:ar (e::es) X.env=(false,aI e X.env)::ar es X.env:=by rfl)(c:(aG pos (ar es X.env)).any (·.1)=false:=by rfl):
  PE X (.Call (.Name x p) (e::es) [] pos) (Lh C sp jm E t):=by
 intro a s z H Q I h;refine ag (Q1 I n u ?_ b);refine wI (h₀:=X.base) I.ok.mod.kin M.kp (YO (g pos a s z H _ I h) λG D J B d r q=>⟨d.kIn,?_⟩) l c;exact Io M F v i j y d r q
def Cq(M:Mk X.K C f)(F:ZH X.prog X.w X.K X.mg X.base CX k f fd ps sp)(j:Zc (k+1) X.A)(g:Gl X x)(i:X.mg x=some (.ref C))(c:YB X.K fd ps ds)(d:ZR jm ds)(l:Vl CX X E)(a:(x==("__debug__" : Str))=false:=by decide):PE X (.Call (.Name x p) [] [] pos) (Lh C sp jm E Y0):=by
 intro b s n H Q I h;refine ag (Q1 I g i ?_ a);exact sX I.kIn M.kp (Io (us:=[]) M F j c d l I .nil h)
end
def PK(X:Cx)(b:List Keyword)(t:TA):Prop:=
 ∀(c:aK)(a:js)(s:al)(d:St)(H:Hp)(Q:je->Hp->Prop),ZI X a d H s->t d H Q->aB (aA X.prog X.w) X.A (evalAll ((backToKw c (keywordEach b X.env)).map (·.2))) (AP X a d Q) X.xe s
section
variable{CX:Wu}{k:Nat}{f C:aj}{fd:ao}{ps ks:jq}{sp:Sp}{E:XK}{x m:Str}{p pos jj kpos:aK}{e o:Expr}{es:jx}{kws:List Keyword}{te ta:TE}{t tk:TA}{nm:Option Str}
def AL:PK X [] Y0:=λ_ _ _ _ H Q I h=>wpAny_evalAll_nil ⟨[],H,I,.nil,h⟩
def By(j:PE X e te)(l:PK X kws t):PK X (⟨nm,e,kpos⟩::kws) (Z9 te t):=by
 intro pos a s b H Q I h;show aB _ _ (evalAll ((do let v<-aI e X.env;standAt pos;pure v)::(backToKw pos (keywordEach kws X.env)).map (·.2))) _ _ s
 refine wpAny_evalAll_cons (aa (YO (j a s b H _ I h) λu y x c g r n=>aa (ah (ad ?_))));exact YO (l pos a y b c _ g n) λB A z d i w q=>⟨x::z,d,i,.cons r w,q⟩
variable{g:jd->jd->jd}{gV:je->je->je}
end
structure ZB(N P:jq)(sc:aE):Prop where
 kind:sc.kind=.function
 co:sc.isCoroutine=false
 gen:sc.isGenerator=false
 nd:N.Nodup
 pre:N.take P.length=P
 par:∀ x∈P,sc.names.lookup x=some .local\/sc.names.lookup x=some .cell
 nofree:∀ y∈sc.names,y.2≠.free
def YA{N P:jq}{a:aE}(b:a.kind=.function:=by rfl)(c:a.isCoroutine=false:=by rfl)(d:a.isGenerator=false:=by rfl)(e:N.Nodup:=by decide +kernel)(f:N.take P.length=P:=by rfl)(g:∀ x∈P,a.names.lookup x=some .local\/a.names.lookup x=some .cell:=by decide +kernel)(h:∀ y∈a.names,y.2≠.free:=by decide +kernel):ZB N P a:=⟨b,c,d,e,f,g,h⟩
def EL{kindOf:Str->Option NameKind}{x:Str}:∀{a:jI}{m:jb},(∀ v,(x,v)∉a)->bindL kindOf a m x=m x
 | [],_,_=>rfl
 | (n,v)::r,m,h=>by
  unfold bindL;rw[EL λw b=>h w (zI _ b)];split
  ·have:x≠n:=by rintro rfl;exact h v zK
   simp[this]
  ·rfl
def EI{kindOf:Str->Option NameKind}{x:Str}:∀{a:jI}{m:jb},(∀ v,(x,v)∉a)->bindC kindOf a m x=m x
 | [],_,_=>rfl
 | (n,v)::r,m,h=>by
  unfold bindC;rw[EI λw b=>h w (zI _ b)];split
  ·rfl
  ·have:x≠n:=by rintro rfl;exact h v zK
   simp[this]
def Il{kindOf:Str->Option NameKind}{x:Str}{v:ai}:∀{P:jq}{a:jd}{i:Nat}{m:jb},P.Nodup->P[i]? = some x->a[i]? = some v->kindOf x=some .local ->
  bindL kindOf (P.zip a) m x=some v
 | [],_,_,_,_,h,_,_=>by simp at h
 | _::_,[],_,_,_,_,h,_=>by simp at h
 | p::P,w::a,0,m,nd,h1,h2,hk=>by
  simp at h1 h2;subst h1;subst h2;show bindL kindOf ((p,w)::P.zip a) m p=_;unfold bindL;rw[EL λv b=>(wK.mp nd).1 (tP b).1,aQ hk];simp
 | p::P,w::a,i+1,m,nd,h1,h2,hk=>by
  show bindL kindOf ((p,w)::P.zip a) m x=_;unfold bindL;exact Il (i:=i) (wK.mp nd).2 (by simpa using h1) (by simpa using h2) hk
def Gz{kindOf:Str->Option NameKind}{x:Str}{v:ai}:∀{P:jq}{a:jd}{i:Nat}{m:jb},P.Nodup->P[i]? = some x->a[i]? = some v->kindOf x≠some .local ->
  bindC kindOf (P.zip a) m x=some v
 | [],_,_,_,_,h,_,_=>by simp at h
 | _::_,[],_,_,_,_,h,_=>by simp at h
 | p::P,w::a,0,m,nd,h1,h2,hk=>by
  simp at h1 h2;subst h1;subst h2;show bindC kindOf ((p,w)::P.zip a) m p=_;unfold bindC;rw[EI λv b=>(wK.mp nd).1 (tP b).1,aP hk];simp
 | p::P,w::a,i+1,m,nd,h1,h2,hk=>by
  show bindC kindOf ((p,w)::P.zip a) m x=_;unfold bindC;exact Gz (i:=i) (wK.mp nd).2 (by simpa using h1) (by simpa using h2) hk
def start(N:jq)(a:je):St:=a.map some++vO (N.length-a.length) none
def Vn(CX:Wu)(P:am)(w:aw)(K:zZ)(mg:jb)(jX:aD)(N:jq)(qual:Str)(scope:aE)(f:aj)(cd:ai)(A:ax)(outer:jA)(s:al)(H:Hp)(E:XK):Cx where
 prog:=P
 w:=w
 K:=K
 mg:=mg
 base:=jX
 A:=A.deeper (envOfC qual scope s.heap.objs.size f cd)
 N:=N
 s₀:=s
 H₀:=H
 env:=envOfC qual scope s.heap.objs.size f cd
 outer:=outer
 stack:=envOfC qual scope s.heap.objs.size f cd::outer
 ex:=[]
 calm:=true
 fn:=λ_=>true
 pn:=[]
 xe:=λe s'=>aB (aA P w) (A.deeper (envOfC qual scope s.heap.objs.size f cd)) (leaving (envOfC qual scope s.heap.objs.size f cd) e) (λ_ s''=>CX outer H s E e s'') (λe' s''=>CX outer H s E e' s'') s'
def Hq{a:aE}{n:Nat}{x:Str}(h:a.names.lookup x=some .cell):∃ c,(cellsFrom n a.names []).lookup x=some c:=by
 let q:=rK a.names n [] (.inl h);exact sK.mp q
def ZJv{Q:Wu}{P:am}{w:aw}{K:zZ}{M:jb}{m:aD}{N C:jq}{j:Str}{d:aE}{f:aj}{I:ai}{A:ax}{g:jA}{s U:al}{H:Hp}{E:XK}{O:jd}{D:je}(S:ZB N C d)(Y:A.handled=none)(o:Wy P w K M m A g s H)(hl:D.length=C.length)(r:ZR D O)(x:InCallC s s.heap.objs.size (bindL (envOfC j d s.heap.objs.size f I).kindOf (C.zip O) λ_=>none) (cellsFrom (s.heap.objs.size+1) d.names []) (bindC (envOfC j d s.heap.objs.size f I).kindOf (C.zip O) λ_=>none) U):
  ZI (Vn Q P w K M m N j d f I A g s H E) [] (start N D) H U:=by
 let a0:C.length<=N.length:=by have:=congrArg xL S.pre;rw[List.length_take] at this;lia
 let⟨J,tk,rfl,R⟩:=x.done;let B:∀ b:aj,b∉(Vn Q P w K M m N j d f I A g s H E).ex:=λb z=>absurd (show b∈([]:ju) from z) (by simp)
 refine⟨⟨o.mod,S.kind,Z,Z,zY _,λy z c J l=>?_,λy t=>?_,λy c _ h=>?_,λ_=>Y,Around.frames_deeper o.frames,.inr ⟨Z,Z⟩,λb z=>absurd z (B b),o.bs,o.bsz,λb _ _=>B b,λb z=>absurd z (B b),o.funs,o.frf⟩,
  Z,o.bare,Un.kept R,⟨_,x.toInCall.ns,λi y v J l h3=>?_⟩,λy c h=>⟨_,x.cell y c h⟩,o.hok.fresh (zY _),λy c h=>?_,λp F=>absurd (show p∈([]:js) from F) (by simp),o.hok.kept R,?_⟩
 ·exact name_of_addr x.apart (PySem.mem_of_lookup J) (PySem.mem_of_lookup l)
 ·let t:d.names.lookup y=some .cell\/d.names.lookup y=some .free:=t;rcases t with t | t
  ·exact Hq t
  ·exact absurd Z (S.nofree _ (PySem.mem_of_lookup t))
 ·exact xX (x.above y c (PySem.mem_of_lookup h))
 ·let L:i<D.length:=by
   unfold start at l;by_cases L:i<D.length
   ·exact L
   ·rw[xB (by simpa using L)] at l
    rw[List.getElem?_replicate] at l;split at l <;> cases l
  let X:D[i]? = some v:=by
   unfold start at l;rw[wZ (by simpa using L),zH] at l
   cases e:D[i]? with
   | none=>rw[e] at l;cases l
   | some a=>rw[e] at l;cases l;rfl
  let⟨u,T,rv⟩:=r.get X;let F:C[i]? = some y:=by
   rw[<-S.pre,List.getElem?_take_of_lt ∅];exact J
  let G:C.Nodup:=by rw[<-S.pre];exact S.nd.sublist (List.take_sublist _ _)
  exists u,rv;rcases S.par y (yU F) with k | k
  ·exact .inl ⟨k,Il G F T k⟩
  ·let⟨c,e⟩:=Hq (n:=s.heap.objs.size+1) k;refine .inr ⟨.inl k,c,e,?_⟩;let q:=x.cell y c e;rw[Gz G F T (by show d.names.lookup y≠_;rw[k];decide)] at q
   exact q
 ·exact o.hok.fresh (xX (x.above y c (PySem.mem_of_lookup h)))
 ·unfold start;show _=N.length;rw[yZ,zX,List.length_replicate]
  lia
def KM{R:Wu}{P:am}{w:aw}{K:zZ}{T:jb}{h:aD}{k:Nat}{f:aj}{z d:Str}{i:Arguments}{j:jL}{a:aE}{dV kV F pm g ct oc:ai}{an od:jv}{a1:Array (jc)}{N U:jq}{sp:Sp}(lk:K.lookup f=some ⟨oc,od,.func (yK z d i j a dV kV F pm an g ct),a1⟩)(X:xW K g d=true)(S:ZB N U a)(O:∀ l H Q E,sp l H Q E->l.length=U.length)(B:∀ (A:ax) (c:jA) (s:al) (H:Hp) (l:je) (Q:VK) (E:XK),Zc k (A.deeper (envOfC d a s.heap.objs.size f g))->sp l H Q E ->
   ∃ t,Wf (Vn R P w K T h N d a f g A c s H E) j t/\t { nx:=λ_ p=>Q .non p,rt:=Q } (start N l) H):
  ZH P w K T h R (k+1) f (yK z d i j a dV kV F pm an g ct) U sp:=by
 exists O;intro A c s H args us l Q E Y G hb r M;let hl:=O _ _ _ _ M;let KX:K.In s.heap:=G.mod.kin.keeps λb o e=>(G.bs b o e).1;let a0:s.heap.NoLimit:=G.mod.nolimit.keeps λb o e=>(G.bs b o e).1;let C:∀ y∈U.zip us,a.names.lookup y.1=some .local\/(a.names.lookup y.1=some .cell/\((cellsFrom (s.heap.objs.size+1) a.names []).lookup y.1).isSome=true):=λ⟨n,v⟩ hy=>by
  rcases S.par n (tP hy).1 with q | q
  ·exact .inl q
  ·exact .inr ⟨q,rK _ _ _ (.inl q)⟩
 refine codeAny_call_function Y.depth (KX _ _ lk) Z S.co S.gen Z (PySem.W.codeRec_of KX X) (hb _ _ _ _ ?_);refine wpAny_newFunctionEnv_cells S.kind C λa2 he s1 x=>?_;subst he;refine⟨a0.keeps x.toInCall.keep,codeAny_func ?_⟩;let⟨t,ht,hq⟩:=B A c s H l Q E (Y.deeper _) M;let I:ZI (Vn R P w K T h N d a f g A c s H E) [] (start N l) H s1:=ZJv S Y.hd G hl r x;refine ae (ht [] s1 (start N l) H _ I hq) (λfl s' D=>?_) λe s' D=>D;let L:∀{m:St}{p:Hp}{v:V}{u:ai},ZI (Vn R P w K T h N d a f g A c s H E) [] m p s'->ZY v u->Q v p->CE c P w H s Q u s':=
  fun{m p v u} J rv q=>⟨v,p,J.os,J.bare,J.base,J.hok,rv,q⟩
 cases fl with
 | ret u=>
  let⟨v,m,p,J,rv,q⟩:=D;exact L J rv q
 | next=>
  let⟨m,p,J,q⟩:=D;exact L (v:=V.non) (u:=Value.none) J Z q
 | brk=>
  let⟨_,_,_,q⟩:=D;exact False.elim q
 | cont=>
  let⟨_,_,_,q⟩:=D;exact False.elim q
section
variable{x:Str}{p pos:aK}{e:Expr}{es:jx}{t:TA}{id T:String}{r:je->Hp->VK->Prop}
def Ff(r:je->Hp->VK->Prop)(t:TA):TE:=λc H Q=>t c H λb a=>r b a Q
def Zq(j:Vf X (.builtin id) r)(l:Gl X x)(m:X.mg x=none)(o:ay x=some (.builtin id))(i:PA X (e::es) t)(n:x ≠ "__name__" :=by decide)(b:(x==("__debug__" : Str))=false:=by decide)(k:ar (e::es) X.env=(false,aI e X.env)::ar es X.env:=by rfl)(c:(aG pos (ar es X.env)).any (·.1)=false:=by rfl):PE X (.Call (.Name x p) (e::es) [] pos) (Ff r t):=by
 intro a s d H Q I h;refine ag (Pq I l m o ?_ n b);exact PyProof.Rows.callWith_builtin1 (YO (i pos a s d H _ I h) λw v y f g u q=>j a v d f y w Q g u q) k c
def Vy(j:Vf X (.type T) r)(l:Gl X x)(m:X.mg x=none)(o:ay x=some (.type T))(i:PA X (e::es) t)(n:x ≠ "__name__" :=by decide)(b:(x==("__debug__" : Str))=false:=by decide)(k:ar (e::es) X.env=(false,aI e X.env)::ar es X.env:=by rfl)(c:(aG pos (ar es X.env)).any (·.1)=false:=by rfl):PE X (.Call (.Name x p) (e::es) [] pos) (Ff r t):=by
 intro a s d H Q I h;refine ag (Pq I l m o ?_ n b);exact PyProof.Rows.callWith_type1 (YO (i pos a s d H _ I h) λw v y f g u q=>j a v d f y w Q g u q) k c
end
end L2
variable{X:L2.Cx}{prog P:am}{w:aw}{A:ax}{E:ja}{s:al}{K:zZ}{mg:jb}{f:aj}{fd:ao}{jX:aD}
namespace HT
open PySem PyProof.Rows
def rcLt_int(A:ax)(s:al)(a:Int)(t:Tok)(c:Int)(u:Tok)(b:am)(w:aw)(E Q:ja)(h:Q (.bool (decide (a<c))) s):
  aB (aA b w) A (richCompare .Lt (.int a t) (.int c u)) Q E s:=
 (PyProof.Rows.lt_int h:aB (aA b w) A (az .Lt (.int a t) (.int c u)) Q E s)
section
open PySem.SeqAt
open PySem.AutoSeq1 (wpAny_loadPart')
open PySem.MeetsSeq PySem.MeetsSeq2 PySem.MeetsSeq3
end
def cat_tup{t b:aj}{d a:jd}{Q:ja}(C:IsTup s.heap t d.toArray)(B:IsTup s.heap b a.toArray)(u:d≠[])(y:a=[]->Q (.ref t) s)(z:a≠[]->Q (.ref s.heap.objs.size) { s with heap:=s.heap.push { cls:=.type "tuple",data:=.seq (d++a).toArray } })(m:d.length+a.length<=aq):aB (aA prog w) A (binaryOp .Add (.ref t) (.ref b)) Q E s:=by
 let⟨⟨cls,p,data,x⟩,j,q,n,r⟩:=id C;let⟨⟨o,f,l,i⟩,c,g,v,h⟩:=id B;simp only at q r g h;subst q r g h;let e:d.toArray++a.toArray=(d++a).toArray:=by simp
 by_cases k:a=[]
 ·exact concat_meets ⟨_,j,Z⟩ ⟨_,c,Z⟩ noFill_tuple_add seq_tuple_add rL rJ (rC _ _)
   (tuple_addW1 t b d.toArray a.toArray n v p f x i (by simpa using u) (by simp[k])) ⟨j,c,y k⟩
 ·refine concat_meets ⟨_,j,Z⟩ ⟨_,c,Z⟩ noFill_tuple_add seq_tuple_add rL rJ (rC _ _)
   (tuple_addW2 t b d.toArray a.toArray n v p f x i (by simpa using u) (by simpa using k) (by rw[zL,zL];exact m)) ⟨j,c,?_⟩
  rw[e];exact z k
end HT
namespace L2
open PySem PySem.Spec PyProof.Rows
abbrev TO:=St->Hp->(Option Int->Hp->Prop)->Prop
def IX{a:jw}:∀{b:jd},ZR (a.map V.int) b->IntsAre b a:=by
 induction a with
 | nil=>intro b r;rw[wB] at r;cases r;exact .nil
 | cons n a c=>
  intro b r;rw[yP] at r
  cases r with
  | cons d f=>
   let⟨t,e⟩:=d;subst e;exact .cons n t (c f)
section
variable{e:Expr}{te:TE}{lo hi:Option Expr}{tl th:TO}{pos p2:aK}
inductive N5(K:zZ)(x y:V)(H:Hp)(Q:VK):Prop
 |mk(a b d c:_)(_:x=.ref a)(_:y=.ref b)(_:Zh K H a d)(_:Zh K H b c)(_:d≠[])(_:d.length+c.length<=aq)(_:c=[]->Q (.ref a) H)(_:c≠[]->∀ p,H p=none->Q (.ref p) (upd H p (.tup (d++c))))
def ZR.nil_iff{b:je}{a:jd}(r:ZR b a):a=[] ↔ b=[]:=by
 cases r with
 | nil=>simp
 | cons _ _=>simp
def Du:XI X (binaryOp .Add) (N5 X.K):=by
 intro i s E H x y v u Q I t A h;let⟨a,b,B,C,rfl,rfl,j,k,l,f,p,r⟩:=h;cases t;cases A;let⟨m,d,n,_⟩:=I.tuple j;let⟨g,c,p2,_⟩:=I.tuple k;refine HT.cat_tup n p2 (λz=>l (d.nil_iff.mp z)) (λz=>⟨.ref a,H,I,Z,p (c.nil_iff.mp z)⟩) (λz=>?_) (by rw[<-d.length,<-c.length];exact f)
 refine⟨.ref s.heap.objs.size,_,I.laid (t':=s.toks) (o:=.tup (B++C)) (λb D q=>zQ _ q) (zY _) ?_,Z,r (λw=>z (c.nil_iff.mpr w)) _ (I.hok.fresh (zY _))⟩;exact⟨by rw[yZ];exact f,_,d.append c,IsTup.new _ _⟩
end
def QM(n:Nat)(i:Int):jM:=if 0<=i then (if i<n then some i.toNat else none) else if -(n:Int)<=i then some (i+n).toNat else none
def X8{b:Type}(a:List b)(i:Int):Option b:=(QM a.length i).bind λj=>a[j]?
def Gk{n:Nat}{i:Int}{j:Nat}(h:QM n i=some j):seqIndex? i n=some j/\j<n /\ -(n:Int)<=i/\i<n:=by
 unfold QM at h;by_cases b:0<=i
 ·rw[aQ b] at h;by_cases a:i<n
  ·rw[aQ a] at h;let e:i.toNat=j:=zG.inj h;exact⟨by rw[seqIndex_of b a,e],∅,∅,a⟩
  ·rw[aP a] at h;cases h
 ·rw[aP b] at h;by_cases a : -(n:Int)<=i
  ·rw[aQ a] at h;let e:(i+n).toNat=j:=zG.inj h;exact⟨by rw[seqIndex_neg ∅ a,e],∅,a,∅⟩
  ·rw[aP a] at h;cases h
def Jc{b:Type}{a:List b}{i:Int}{v:b}(h:X8 a i=some v):∃ j,seqIndex? i a.length=some j/\a[j]? = some v/\j<a.length /\ -(a.length:Int)<=i/\i<a.length:=by
 unfold X8 at h
 cases e:QM a.length i with
 | none=>rw[e] at h;cases h
 | some j=>
  rw[e] at h;let⟨c,d,f,g⟩:=Gk e;exact⟨j,c,h,d,f,g⟩
def X1{b:Type}{a:List b}{j:Nat}{v:b}(h:a[j]? = some v):X8 a (j:Int)=some v:=by
 let c:j<a.length:=(yH.mp h).1;let e:QM a.length (j:Int)=some j:=by
  unfold QM;rw[aQ ∅,aQ ∅];simp
 unfold X8;rw[e];exact h
def Jt{b:Type}(a:List b)(v:b):X8 (a++[v]) (-1)=some v:=by
 let c:(a++[v]).length=a.length+1:=by simp
 let e:QM (a++[v]).length (-1)=some a.length:=by
  unfold QM;rw[c,aP (by decide),aQ ∅]
  congr 1
  lia
 unfold X8;rw[e];show (a++[v])[a.length]? = some v;simp
def MS(b:Expr):Prop:=∀ o i,subscripted b false o i=operate [o,i] (getItem o i)
def Qb(X:Cx)(r:R2):Prop:=
 ∀(c a:Expr)(b:js)(s:al)(d:St)(H:Hp)(x y:V)(v u:ai)(Q:VK),ZI X b d H s->ZY x v->ZY y u->r x y H Q ->
  subscripted a false v u=operate [v,u] (getItem v u)->aB (aA X.prog X.w) X.A (subscriptTail c a v u) (EP X b d Q) X.xe s
def ES(X:Cx)(id:String)(r:V->je->Hp->VK->Prop):Prop:=
 ∀(a:js)(s:al)(d:St)(H:Hp)(x:V)(c:je)(v:ai)(b:jd)(Q:VK),ZI X a d H s->ZY x v->ZR c b->r x c H Q ->
  aB (aA X.prog X.w) X.A (call (.builtin id) (v::b)) (EP X a d Q) X.xe s
section
variable{a b:Expr}{ta tb:TE}{pos:aK}
def Qb.or{r g:R2}(h:Qb X r)(l:Qb X g):Qb X (λx y H Q=>r x y H Q\/g x y H Q):=by
 intro d c e s k H x y v u Q I i j q f;rcases q with q | q
 ·exact h d c e s k H x y v u Q I i j q f
 ·exact l d c e s k H x y v u Q I i j q f
def UZ{r:R2}(i:Qb X r)(f:PE X a ta)(g:PE X b tb)(j:MS b):PE X (.Subscript a b pos) (Q0 r ta tb):=by
 intro c s n H Q I h;exact Subscript_ (K7 f g I h λv u m x y d e k l q=>i a b c m n d x y v u Q e k l q (j _ _))
inductive MP(K:zZ)(x y:V)(H:Hp)(Q:VK):Prop
 |mk(p c i v:_)(_:x=.ref p)(_:y=.int i)(_:ZM K H p c)(_:X8 c i=some v)(_:Q v H)
inductive PJ(K:zZ)(x y:V)(H:Hp)(Q:VK):Prop
 |mk(p c i v:_)(_:x=.ref p)(_:y=.int i)(_:Zh K H p c)(_:X8 c i=some v)(_:Q v H)
inductive Ni(x y:V)(H:Hp)(Q:VK):Prop
 |mk(z i c:_)(_:x=.str z)(_:y=.int i)(_:z.length<=aq)(_:X8 z.cps.toList i=some c)(_:Q (.str ⟨#[c]⟩) H)
def YF:Qb X (MP X.K):=by
 intro n m c s C H x y v u Q I M N h B;let⟨p,T,i,z,rfl,rfl,L,G,q⟩:=h;cases M;let⟨t,rfl⟩:=N;let⟨g,r,k,S⟩:=I.list L;let⟨j,e,D,P,E,F⟩:=Jc G;let⟨w,o,l⟩:=r.get D;let J:=r.length;let R:=NB;let d:EP X c C Q w s:=⟨z,H,I,l,q⟩;by_cases A:0<=i
 ·let f:i.toNat=j:=by
   rw[seqIndex_of A F] at e;exact zG.inj e
  exact item_listR k.isList A ∅ (by rw[f];simpa using o) d B
 ·let f:(i+(g.toArray.size:Int)).toNat=j:=by
   rw[seqIndex_neg ∅ E] at e
   rw[zL,<-J];exact zG.inj e
  exact subscriptTail_builtinR (x:=w) k.isList.typeIs slot_list_getitem.lookup
   (wpAny_getItem_list_neg (Q:=λr O=>r=w/\EP X c C Q r O) k.isList ∅ (by rw[zL] <;> lia) ∅ (by rw[f];simpa using o) ⟨rfl,d⟩) B
def QK:Qb X (PJ X.K):=by
 intro g f c s l H x y v u Q I F G h D;let⟨p,R,i,z,rfl,rfl,C,A,q⟩:=h;cases F;let⟨t,rfl⟩:=G;let⟨E,r,k,P⟩:=I.tuple C;let⟨j,n,o,L,M,N⟩:=Jc A;let⟨w,m,e⟩:=r.get o;let B:=r.length;let O:=NB;let d:EP X c l Q w s:=⟨z,H,I,e,q⟩;exact subscriptTail_builtinR (x:=w) k.typeIs slot_tuple_getitem.lookup
  (getItem_tuple (j:=j) (Q:=λr J=>r=w/\EP X c l Q r J) k ∅ ∅ (by rw[zL,<-B];exact n) (by simpa using m) ⟨rfl,d⟩) D
def Bt:Qb X Ni:=by
 intro e d g s G H x y v u Q I A B h w;let⟨z,i,c,rfl,rfl,E,p,q⟩:=h;let⟨t,rfl⟩:=A;let⟨F,rfl⟩:=B;let⟨j,f,m,C,n,o⟩:=Jc p;let r:z.cps.toList.length=z.length:=by simp[Str.length]
 rw[r] at f n o;let D:=NB;exact tail_any (typeIs_str s z t) slot_str_getitem.lookup (getItem_str (c:=c) (by
  let k:decide (i < -(2 ^ 63:Int))=false:=aM ∅
  let l:decide (i ≥ 2 ^ 63)=false:=aM ∅
  rw[k,l,Bool.or_false]) (by rw[f];simpa using m) ⟨.str ⟨#[c]⟩,H,I.tok _,⟨_,Z⟩,q⟩) w
def Pc(K:zZ):R2:=λx y H Q=>MP K x y H Q\/PJ K x y H Q\/Ni x y H Q
def Ip:Qb X (Pc X.K):=YF.or (QK.or Bt)
def pxT{X:Cx}{a b:Expr}{ta tb:TE}{pos:aK}(K:zZ)(c:PE X a ta)(d:PE X b tb)(f:MS b:=by exact λ_ _=>rfl)(e:Qb X (PJ K):=by exact QK):PE X (.Subscript a b pos) (Q0 (PJ K) ta tb):=UZ e c d f
def Zs{X:Cx}{a b:Expr}{ta tb:TE}{pos:aK}(K:zZ)(c:PE X a ta)(d:PE X b tb)(f:MS b:=by exact λ_ _=>rfl)(e:Qb X (Pc K):=by exact Ip):PE X (.Subscript a b pos) (Q0 (Pc K) ta tb):=UZ e c d f
def ZIO(c:jd)(n j:Nat)(u:ai):Obj.mapSeq (·.setIfInBounds j u) { cls:=.type "list",data:=.seq c.toArray n }={ cls:=.type "list",data:=.seq (c.set j u).toArray n }:=by
 simp[Obj.mapSeq]
def ZI.lst{d:js}{g:St}{H:Hp}{s:al}{p:aj}{f:je}(I:ZI X d g H s)(h:H p=some (.lst f)):
  ∃(c:jd)(n:Nat),ZR f c/\s.heap.get? p=some { cls:=.type "list",data:=.seq c.toArray n }/\f.length<=sizeLine:=by
 let⟨z,c,n,r,e⟩:=I.hok p _ h;exact⟨c,n,r,e,z⟩
def ZI.lstUpd{d:js}{l:St}{H:Hp}{s:al}{p:aj}{w j:je}{g c:jd}{n i:Nat}{f:aJ->aJ}(I:ZI X d l H s)(h:H p=some (.lst w))(o:s.heap.get? p=some { cls:=.type "list",data:=.seq g.toArray n })(k:f { cls:=.type "list",data:=.seq g.toArray n }={ cls:=.type "list",data:=.seq c.toArray i })(r:ZR j c)(v:j.length<=aq)(t:Nat):
  ZI X d l (upd H p (.lst j)) { s with heap:=s.heap.update p f,toks:=t }:=by
 let e:(s.heap.update p f).get? p=some { cls:=.type "list",data:=.seq c.toArray i }:=by
  rw[wV f o (by rw[k] <;> rfl),k]
 refine I.write (x:=p) (e:=p) (by rw[h];trivial) (.inl rfl) (λb u m q=>(yD _ _ (Ne.symm m)).trans q) ⟨_,e⟩ ?_
 exact⟨v,c,i,r,e⟩
inductive Np(o i v:V)(H:Hp)(Q:Hp->Prop):Prop
 |mk(p c k j:_)(_:o=.ref p)(_:i=.int k)(_:H p=some (.lst c))(_:QM c.length k=some j)(_:Q (upd H p (.lst (c.set j v))))
def K1:HQ X Np:=by
 intro d s G H o i v M L u Q I D C E h;let⟨p,F,k,j,rfl,rfl,z,A,q⟩:=h;cases D;let⟨t,rfl⟩:=C;let⟨c,n,r,l,B⟩:=I.lst z;let⟨e,J,x,y⟩:=Gk A;let g:=r.length;let K:=NB;let m:ZI X d G (upd H p (.lst (F.set j v))) { s with heap:=s.heap.update p (Obj.mapSeq (·.setIfInBounds j u)) }:=
  I.lstUpd z l (ZIO c n j u) (r.set E j) (by rw[List.length_set];exact B) s.toks
 by_cases w:0<=k
 ·let f:k.toNat=j:=by
   rw[seqIndex_of w y] at e;exact zG.inj e
  exact PySem.W.ki_setAt l w ∅ (by rw[zL,<-g];exact y) (by rw[f];exact⟨_,m,q⟩)
 ·let f:(k+(c.toArray.size:Int)).toNat=j:=by
   rw[seqIndex_neg ∅ x] at e
   rw[zL,<-g];exact zG.inj e
  exact PySem.W.ki_setBack l ∅ (by rw[zL,<-g];exact x) ∅ (by rw[f];exact⟨_,m,q⟩)
def PZ:V->Bool
 | .non=>true
 | .bl _=>true
 | .int _=>true
 | .str _=>true
 | _=>false
def UJ:V->V->Bool
 | .non,.non=>true
 | .bl a,.bl b=>a==b
 | .bl a,.int b=>(if a then 1 else 0)==b
 | .int a,.bl b=>a==(if b then 1 else 0)
 | .int a,.int b=>a==b
 | .str a,.str b=>a==b
 | _,_=>false
def MN{A:ax}{s:al}{y x:V}{u v:ai}(f:ZY y u)(c:ZY x v)(g:PZ y=true)(e:PZ x=true):SeqAt.EqAt A s u v (UJ y x):=by
 cases y with
 | non=>
  cases f
  cases x with
  | non=>cases c;exact SeqAt.EqAt.same _
  | bl b=>cases c;exact SeqAt.EqAt.none_bool b
  | int b=>let⟨t,rfl⟩:=c;exact SeqAt.EqAt.none_int b t
  | str b=>let⟨t,rfl⟩:=c;exact SeqAt.EqAt.none_str b t
  | _=>exact absurd (show false=true from e) zS
 | bl a=>
  cases f
  cases x with
  | non=>cases c;exact SeqAt.EqAt.bool_none a
  | bl b=>cases c;exact SeqAt.EqAt.bool_bool a b
  | int b=>let⟨t,rfl⟩:=c;exact SeqAt.EqAt.bool_int a b t
  | str b=>let⟨t,rfl⟩:=c;exact SeqAt.EqAt.bool_str a b t
  | _=>exact absurd (show false=true from e) zS
 | int a=>
  let⟨d,rfl⟩:=f
  cases x with
  | non=>cases c;exact SeqAt.EqAt.int_none a d
  | bl b=>cases c;exact SeqAt.EqAt.int_bool a d b
  | int b=>let⟨t,rfl⟩:=c;exact SeqAt.EqAt.int_int a d b t
  | str b=>let⟨t,rfl⟩:=c;exact SeqAt.EqAt.int_str a d b t
  | _=>exact absurd (show false=true from e) zS
 | str a=>
  let⟨d,rfl⟩:=f
  cases x with
  | non=>cases c;exact SeqAt.EqAt.str_none a d
  | bl b=>cases c;exact SeqAt.EqAt.str_bool a d b
  | int b=>let⟨t,rfl⟩:=c;exact SeqAt.EqAt.str_int a d b t
  | str b=>let⟨t,rfl⟩:=c;exact SeqAt.EqAt.str_str a d b t
  | _=>exact absurd (show false=true from e) zS
 | _=>exact absurd (show false=true from g) zS
def PN(x:V)(u:ai):Bool:=match u with
 | .none=>UJ .non x
 | .bool b=>UJ (.bl b) x
 | .int i _=>UJ (.int i) x
 | .str z _=>UJ (.str z) x
 | _=>false
def GC{x y:V}{u:ai}(r:ZY y u)(f:PZ y=true):PN x u=UJ y x:=by
 cases y with
 | non=>cases r;rfl
 | bl b=>cases r;rfl
 | int i=>let⟨t,rfl⟩:=r;rfl
 | str z=>let⟨t,rfl⟩:=r;rfl
 | _=>exact absurd (show false=true from f) zS
def Jj{x:V}:∀{c:je}{d:jd},ZR c d->c.all PZ=true->d.any (PN x)=c.any λy=>UJ y x
 | _,_,.nil,_=>rfl
 | y::c,u::d,.cons r t,f=>by
  rw[uZ,zR] at f;rw[wA,wA,GC r f.1,Jj t f.2]
def IG{A:ax}{s:al}{x:V}{v:ai}(h:ZY x v)(g:PZ x=true):∀{e:je}{d:jd},ZR e d->e.all PZ=true->∀ u∈d,SeqAt.EqAt A s u v (PN x u)
 | _,_,.nil,_=>λu c=>by cases c
 | y::e,u::d,.cons r t,f=>λi c=>by
  rw[uZ,zR] at f;rcases zF.mp c with rfl | c
  ·rw[GC r f.1];exact MN r h f.1 g
  ·exact IG h g t f.2 i c
def P6(x:V)(c:je):Bool:=c.any λy=>UJ y x
inductive JX(K:zZ)(d:Bool)(x y:V)(H:Hp)(Q:VK):Prop
 |mk(p c:_)(_:y=.ref p)(_:ZM K H p c\/Zh K H p c)(_:PZ x=true)(_:c.all PZ=true)(_:Q (.bl (if d then !P6 x c else P6 x c)) H)
def Ih:XI X (az .In) (JX X.K false):=by
 intro j s o H x y v u Q I k m h;let⟨p,n,rfl,d,i,e,q⟩:=h;cases m;rcases d with d | d
 ·let⟨c,r,g,l⟩:=I.list d;refine SeqAt.in_listAt (PN x) g.isList (λw f=>IG k i r e w (by simpa using f)) ⟨.bl _,H,I,Z,?_⟩
  rw[show c.toArray.any (PN x)=c.any (PN x) by simp,Jj r e]
  exact q
 ·let⟨c,r,g,l⟩:=I.tuple d;refine SeqAt.in_tupleAt (PN x) g (λw f=>IG k i r e w (by simpa using f)) ⟨.bl _,H,I,Z,?_⟩
  rw[show c.toArray.any (PN x)=c.any (PN x) by simp,Jj r e]
  exact q
inductive Wp(d:zZ)(e:je)(H:Hp)(Q:VK):Prop
 |mk(p c:_)(_:e=[.ref p])(_:ZM d H p c\/Zh d H p c)(_:Q (.int c.length) H)
def WK:Vf X (.builtin "len") (Wp X.K):=by
 intro i s t H o n Q I r h;let⟨p,j,rfl,d,q⟩:=h;let⟨u,rfl,l⟩:=V5 r;cases l;let m:=NB;rcases d with d | d
 ·let⟨e,g,f,k⟩:=I.list d;let c:=g.length;exact Calls.call_len_list f.isList (by simp only[zL] <;> lia) ⟨.int j.length,H,I.tok _,⟨s.toks+1,by rw[zL,c]⟩,q⟩
 ·let⟨e,g,f,k⟩:=I.tuple d;let c:=g.length;exact len_tuple f (by simp only[zL] <;> lia) ⟨.int j.length,H,I.tok _,⟨s.toks+1,by rw[zL,c]⟩,q⟩
inductive Wt(c:je)(H:Hp)(Q:VK):Prop
 |mk(z:_)(_:c=[.str z])(_:z.length<=aq)(_:Q (.int z.length) H)
def BR:Vf X (.builtin "len") (Wt):=by
 intro c s i H g f Q I r h;let⟨z,rfl,e,q⟩:=h;let⟨u,rfl,t,rfl⟩:=V5 r;let d:=NB;exact len_str ∅ ⟨.int z.length,H,I.tok _,⟨_,Z⟩,q⟩
inductive VA(d:zZ)(e:je)(H:Hp)(Q:VK):Prop
 |mk(p c:_)(_:e=[.ref p])(_:ZM d H p c\/Zh d H p c)(_:∀ l,H l=none->Q (.ref l) (upd H l (.lst c)))
def Q9:Vf X (.type "list") (VA X.K):=by
 intro t s D H F E Q I r h;let⟨p,A,rfl,k,q⟩:=h;let⟨u,rfl,C⟩:=V5 r;cases C;let i:∀(c:jd),ZR A c->A.length<=aq->∀(d:aD)(f:Nat),(∀ b B,s.heap.get? b=some B->d.get? b=some B) ->
   d.get? s.heap.objs.size=some { cls:=.type "list",dict:=none,data:=.seq c.toArray f,slots:=#[] }->EP X t D Q (.ref s.heap.objs.size) { s with heap:=d }:=λc g l d f m e=>
  ⟨.ref s.heap.objs.size,_,I.laid (t':=s.toks) m (zY _) (show Zk X.prog X.w _ d _ (.lst A) from ⟨l,c,f,g,e⟩),rfl,q _ (I.hok.fresh (zY _))⟩
 rcases k with k | k
 ·let⟨c,g,z,l⟩:=I.list k;let j:=g.length;let⟨o,y,v,n,x⟩:=z.isList;exact call_list_seq p (.inl rfl) y v x (λd f m e=>i c g l d f m e) (by simp only[zL] <;> lia)
 ·let⟨c,g,z,l⟩:=I.tuple k;let j:=g.length;let⟨o,y,v,n,x⟩:=z;exact call_list_seq p (.inr rfl) y v x (λd f m e=>i c g l d f m e) (by simp only[zL] <;> lia)
inductive WV(d:zZ)(e:je)(H:Hp)(Q:VK):Prop
 |mk(p c:_)(_:e=[.ref p])(_:(ZM d H p c/\∀ l,H l=none->Q (.ref l) (upd H l (.tup c)))\/(Zh d H p c/\Q (.ref p) H))
def NS:Vf X (.type "tuple") (WV X.K):=by
 intro c s t H A z Q I r h;let⟨p,n,rfl,h⟩:=h;let⟨u,rfl,y⟩:=V5 r;cases y;rcases h with ⟨g,q⟩ | ⟨g,q⟩
 ·let⟨d,j,i,m⟩:=I.list g;let l:=j.length;refine call_tuple_list i.isList (λf x=>?_) (by simp only[zL] <;> lia)
  let k:ZI X c t H { s with heap:=f }:=I.kept (t':=s.toks) x;let v:ZI X c t (upd H f.objs.size (.tup n)) { s with heap:=f.push { cls:=.type "tuple",data:=.seq d.toArray } }:=
   k.laid (t':=s.toks) (λb o e=>zQ _ e) (zY _) (show Zk X.prog X.w _ _ _ (.tup n) from ⟨m,d,j,IsTup.new _ _⟩)
  exact⟨.ref f.objs.size,_,v,Z,q _ (k.hok.fresh (zY _))⟩
 ·let⟨d,j,i,m⟩:=I.tuple g;exact call_tuple_same i ⟨.ref p,H,I,Z,q⟩
def KP(K:zZ)(T:String)(x:V)(H:Hp):Prop:=match x with
 | .str _=>T = "str"
 | .int _=>T = "int"
 | .ref p=>(T = "list" /\ ∃ d,ZM K H p d)\/(T = "tuple" /\ ∃ o,K.lookup p=some o/\o.cls=.type "tuple" /\ o.dict=none) \/
   (T = "dict" /\ ((∃ c,H p=some (.dK c))\/∃ c,H p=some (.dT c)))\/(T = "set" /\ ∃ S n,H p=some (.set S n))
 | _=>False
def Gm{g:js}{A:St}{H:Hp}{s:al}{T:String}{x:V}{v:ai}(I:ZI X g A H s)(r:ZY x v)(h:KP X.K T x H):
  s.TypeIs v T/\∀ a,v=.ref a->∃ m,s.heap.get? a=some m/\m.dict=none:=by
 cases x with
 | str z=>
  let⟨t,rfl⟩:=r;cases(show T = "str" from h);exact⟨typeIs_str s z t,λ_ e=>nomatch e⟩
 | int i=>
  let⟨t,rfl⟩:=r;cases(show T = "int" from h);exact⟨typeIs_int s i t,λ_ e=>nomatch e⟩
 | ref p=>
  cases r;rcases h with ⟨rfl,B,w⟩ | ⟨rfl,o,d,u,k⟩ | ⟨rfl,d⟩ | ⟨rfl,S,n,d⟩
  ·let⟨y,_,q,_⟩:=I.list w;exists q.isList.typeIs;intro a e;cases e;let⟨o,n,e,c,k,_⟩:=q;exact⟨o,e,k⟩
  ·exists ⟨o,I.kIn p o d,u⟩;intro a e;cases e;exact⟨o,I.kIn _ o d,k⟩
  ·let z:∃ o,s.heap.get? p=some o/\o.ExactDict:=by
    rcases d with ⟨l,d⟩ | ⟨l,d⟩
    ·let⟨_,_,_,_,o,_,_,e,f,_⟩:=I.hok p _ d;exact⟨o,e,f⟩
    ·let⟨_,_,_,_,o,_,_,e,f,_⟩:=I.hok p _ d;exact⟨o,e,f⟩
   let⟨o,e,f⟩:=z;exists ⟨o,e,f.1⟩;intro a j;cases j;exact⟨o,e,f.2.1⟩
  ·let⟨o,_,_,_,e,f,_⟩:=I.hok p _ d;exists ⟨o,e,f.1⟩;intro a j;cases j;exact⟨o,e,f.2.1⟩
 | _=>exact False.elim h
def ZQR(K:zZ)(T:String)(r:V->je->Hp->VK->Prop)(d:TE):TE:=λe H Q=>d e H λx c=>KP K T x c/\r x [] c Q
def Lg(K:zZ)(T:String)(r:V->je->Hp->VK->Prop)(f:TE)(t:TA):TE:=λd H Q=>f d H λx c=>KP K T x c/\t d c λg e=>r x g e Q
variable{o e:Expr}{es:jx}{to:TE}{t:TA}{name:Str}{jj ji:aK}{T id:String}{r:V->je->Hp->VK->Prop}
def Mb(w:PlainAttrs T)(g:Slot T name id)(i:typeOf (.builtin id)=pure (.type "method_descriptor"))(q:ES X id r)(u:PE X o to)(d:attributeBase o name X.env (aI o X.env)=aI o X.env:=by rfl)(f:(jj.endLine==ji.line)=true:=by rfl):PE X (.Call (.Attribute o name jj) [] [] ji) (ZQR X.K T r to):=by
 intro c s l H Q I h;refine wpAny_Call_method0_late d f (Z5 (u c s l H _ I h) ?_);rintro v z ⟨x,m,j,k,A,y⟩;let⟨n,p⟩:=Gm j k A;exact⟨T,id,w,g,i,n,p,Calls.callWith_builtin Z (PySem.evalArgs_none (q c z l m x [] v [] Q j k .nil y))⟩
def V6(E:PlainAttrs T)(j:Slot T name id)(k:typeOf (.builtin id)=pure (.type "method_descriptor"))(B:ES X id r)(C:PE X o to)(A:PA X (e::es) t)(f:attributeBase o name X.env (aI o X.env)=aI o X.env:=by rfl)(i:((aG ji (ar (e::es) X.env)).all (λx=>!x.1)&&(backToKw ji (keywordEach [] X.env)).all (λx=>x.1.isSome)
   && decide ((e::es).length+([]:List Keyword).length+(if ([]:List Keyword).isEmpty then 0 else 1)<30))=true:=by rfl)(g:(jj.endLine==ji.line)=true:=by rfl)(D:ar (e::es) X.env=(false,aI e X.env)::ar es X.env:=by rfl)(d:(aG ji (ar es X.env)).any (·.1)=false:=by rfl):
  PE X (.Call (.Attribute o name jj) (e::es) [] ji) (Lg X.K T r to t):=by
 intro c s l H Q I h;refine wpAny_Call_method_late f i g Z (Z5 (C c s l H _ I h) ?_);rintro v L ⟨x,q,m,p,N,F⟩;let⟨y,z⟩:=Gm m p N;exists T,id,E,j,k,y,z;let n:=A ji c L l q _ m F;rw[D] at n⊢;refine Calls.callWith_builtin (by show (false || (aG ji (ar es X.env)).any (·.1))=false;rw[d] <;> rfl) (Calls.evalArgs_plain ?_)
 exact YO n λO M P u w J G=>B c M l u x P v O Q w p J G
end
def Ow(X:Cx)(id:String)(r:V->je->Hp->VK->Prop):Prop:=
 ∀(a:js)(s:al)(d:St)(H:Hp)(x:V)(c:je)(v:ai)(b:jd)(Q:VK),ZI X a d H s->ZY x v->ZR c b->r x c H Q ->
  aB (aA X.prog X.w) X.A (call (.builtin id) (v::b)) (EP X a d Q) X.xe s
def ZR.one:∀{x:V}{a:jd},ZR [x] a->∃ u,a=[u]/\ZY x u:=λh=>by cases h with | cons r n=>cases n;exact⟨_,Z,r⟩
def ZR.zero:∀{a:jd},ZR [] a->a=[]
 | _,.nil=>rfl
def ZR.dropLast{b:je}{a:jd}(h:ZR b a):ZR b.dropLast a.dropLast:=by
 induction h with
 | nil=>exact .nil
 | cons r t c=>
  cases t with
  | nil=>exact .nil
  | cons q d=>exact .cons r c
def ZHp{d:Type}(l:List d):l.eraseIdx (l.length-1)=l.dropLast:=by
 induction l with
 | nil=>rfl
 | cons a r c=>
  cases r with
  | nil=>rfl
  | cons b r=>
   let e:(a::b::r).length-1=((b::r).length-1)+1:=by
    let f:(a::b::r).length=r.length+2:=rfl;let g:(b::r).length=r.length+1:=rfl
    lia
   rw[e,List.eraseIdx_cons_succ,c]
   all_goals rfl
section
variable{jW:js}{σ:St}{H:Hp}{l b:aj}{xs ys zs:je}
def ZI.lset{a its':jd}{n:Nat}{f:jz->jz}{k:Nat}(I:ZI X jW σ H s)(c:H l=some (.lst xs))(e:s.heap.get? l=some { cls:=.type "list",data:=.seq a.toArray n })(g:f a.toArray=its'.toArray)(i:ZR ys its')(j:ys.length<=aq):
  ZI X jW σ (upd H l (.lst ys)) { s with heap:=s.heap.update l (Obj.mapSeq f),toks:=k }:=by
 let q:=PySem.IsL.update e f;rw[g] at q;refine I.write (x:=l) (e:=l) (by rw[c];exact trivial) (.inl rfl) (λm u d h=>(yD s.heap (Obj.mapSeq f) (Ne.symm d)).trans h) ⟨_,q⟩ ?_
 exact⟨j,its',_,i,q⟩
def ZI.lnew{a:jd}{t':Nat}(I:ZI X jW σ H s)(c:ZR ys a)(d:ys.length<=aq):
  ZI X jW σ (upd H s.heap.objs.size (.lst ys)) { s with heap:=s.heap.push { cls:=.type "list",data:=.seq a.toArray },toks:=t' }:=
 I.laid (λ_ _ q=>zQ _ q) (zY _) ⟨d,a,0,c,yO _ rfl⟩
def ZI.fresh(I:ZI X jW σ H s):H s.heap.objs.size=none:=I.hok.fresh (zY _)
def ZI.lstM(I:ZI X jW σ H s)(c:H l=some (.lst xs)):xs.length<=aq/\∃(a:jd)(n:Nat),ZR xs a/\xs.length=a.length/\s.heap.get? l=some { cls:=.type "list",data:=.seq a.toArray n }:=by
 let⟨z,a,n,r,e⟩:=I.hok l _ c;exact⟨z,a,n,r,r.length,e⟩
end
inductive Ph(x:V)(b:je)(H:Hp)(Q:VK):Prop
 |mk(l a y:_)(_:x=.ref l)(_:b=[y])(_:H l=some (.lst a))(_:a.length<aq)(_:Q .non (upd H l (.lst (a++[y]))))
def Uo:Ow X "list.append" Ph:=by
 intro c s p H x m v k Q I g f h;let⟨l,o,y,rfl,rfl,b,j,q⟩:=h;cases g;let⟨u,rfl,d⟩:=f.one;let⟨z,a,n,r,i,e⟩:=I.lstM b;refine call_meets F.slot_list_append ⟨_,e,Z⟩ F.entry_list_append (F.args_list_append_2 _ _) (PySem.list_append l a.toArray n u (by rw[zL];lia)) ⟨e,?_⟩
 refine⟨.non,_,I.lset (its':=a++[u]) b e (by simp) (r.append (.cons d .nil)) ?_,Z,q⟩
 rw[yZ,xA]
 lia
inductive JR(x:V)(b:je)(H:Hp)(Q:VK):Prop
 |mk(l a y:_)(_:x=.ref l)(_:b=[])(_:H l=some (.lst a))(_:a[a.length-1]? = some y)(_:Q y (upd H l (.lst a.dropLast)))
def Bn:Ow X "list.pop" JR:=by
 intro f s A H x t v p Q I o m h;let⟨l,w,y,rfl,rfl,d,j,q⟩:=h;cases o;let b:=m.zero;subst b;let⟨z,a,n,r,g,e⟩:=I.lstM d;let⟨u,i,k⟩:=r.get j;let c:a.toArray[a.toArray.size-1]? = some u:=by
  show a.toArray[a.length-1]? = some u;rw[<-rT,<-g];exact i
 refine call_meets F.slot_list_pop ⟨_,e,Z⟩ F.entry_list_pop (F.args_list_pop_1 _) (MeetsSeq.list_pop_last l a.toArray n u c (by rw[zL];lia)) ⟨e,?_⟩
 refine⟨y,_,I.lset (its':=a.dropLast) d e ?_ r.dropLast ?_,k,q⟩
 ·show a.toArray.eraseIdxIfInBounds (a.toArray.size-1)=a.dropLast.toArray;rw[zL,List.eraseIdxIfInBounds_toArray,ZHp]
 ·rw[List.length_dropLast]
  lia
inductive Oj(x:V)(a:je)(H:Hp)(Q:VK):Prop
 |mk(l b:_)(_:x=.ref l)(_:a=[])(_:H l=some (.lst b))(_:Q .non (upd H l (.lst [])))
def JQ:Ow X "list.clear" Oj:=by
 intro d s o H x k v j Q I g f h;let⟨l,m,rfl,rfl,c,q⟩:=h;cases g;let a:=f.zero;subst a;let⟨z,b,n,r,i,e⟩:=I.lstM c;refine call_meets F.slot_list_clear ⟨_,e,Z⟩ F.entry_list_clear (F.args_list_clear_1 _) (AutoSeq1.list_clear_list_0 l b.toArray n (by rw[zL];lia)) ⟨e,?_⟩
 exact⟨.non,_,I.lset (its':=[]) (ys:=[]) c e Z .nil (yT _),Z,q⟩
inductive IY(x y:V)(H:Hp)(Q:VK):Prop
 |mk(l b a c:_)(_:x=.ref l)(_:y=.ref b)(_:H l=some (.lst a))(_:H b=some (.lst c))(_:a.length+c.length<=aq)(_:∀ p,H p=none->Q (.ref p) (upd H p (.lst (a++c))))
def P4:XI X (binaryOp .Add) IY:=by
 intro d s E H x y v u Q I o p h;let⟨l,b,B,D,rfl,rfl,j,i,w,q⟩:=h;cases o;cases p;let⟨z,c,n,r,t,e⟩:=I.lstM j;let⟨C,a,A,m,k,f⟩:=I.lstM i;refine PySem.P.add_list e f ?_ (by rw[zL,zL];lia)
 let g:c.toArray++a.toArray=(c++a).toArray:=by simp
 rw[g];exact⟨.ref _,_,I.lnew (t':=s.toks) (r.append m) (by rw[yZ];lia),Z,q _ I.fresh⟩
end L2
namespace Att
open PySem PySem.W PySem.Calls PyProof.Rows
def Aa{P:Params}{h:aD}:∀(c:jw)(d:jd),WellAll P h d (c.map WData.int)->IntsAre d c:=by
 intro c
 induction c with
 | nil=>
  intro d w;rw[wB] at w;cases w;exact .nil
 | cons n c e=>
  intro d w;rw[yP] at w
  cases w with
  | cons a b=>
   cases a;exact .cons _ _ (e _ b)
def CO{l:OpenLaw}{n:Nat}(v:l.most=some n){P:Params}{h:aD}{args:List WData}{e:jd}(c:l.row.toRowW.claim.pre args=true)(m:WellAll P h e args):
  ∃ a p b,e=[Value.ref a]/\args=[WData.list (b.map WData.int)]/\h.get? a=some { cls:=.type "list",data:=.seq p.toArray }/\IntsAre p b/\b.length<=n:=by
 let k:WShape.hasAll [] args [.list .int]=true:=(pre_splitW c).1;let o:l.pre.holds [] { args:=args }=true:=(pre_splitW c).2;let⟨d,r,rfl,s,t⟩:=hasAllW_cons k;obtain rfl:=hasAllW_nil t;let⟨A,rfl,u⟩:=hasW_list s;let⟨b,rfl⟩:=items_int u;let g:b.length<=n:=by
  unfold OpenLaw.pre at o;let i:(WTm.not (.lt (.lit (.int (n:Int))) (.len (.arg 0)))).holds [] { args:=[.list (b.map .int)] }=true:=by
   let i:=(holds_andW o).1;rw[v] at i;exact i
  let j:=condW_of i (w_not (w_lt w_lit (w_len_list (w_arg rfl))));rw[zX] at j;refine uX λq=>?_;let x:(n:Int)<((b.length:Nat):Int):=∅
  first
   | (rw[aO x] at j;exact absurd j (by decide))
   | (simp at j;lia)
 cases m with
 | cons y z=>
  cases z
  cases y with
  | list w f=>exact⟨_,_,b,Z,Z,w,Aa b _ f,g⟩
def AN(l:OpenLaw)(args:List WData):l.row.toRowW.claim.post args (.bool true) args=true:=
 postW_of (r:=l.row.toRowW) (X:=(true==true))
  (show WShape.has [] (.bool true) .bool=true by first | rfl | decide | simp[WShape.has,WShape.arms,WShape.armsAll])
  (show (WTm.eq .res (.lit (.bool true))).value [] { args:=args,res:=some (.bool true),after:=args }=some (.bool (true==true)) from w_eq_bool (w_res rfl) w_lit) rfl
def attach_call{l:OpenLaw}{n:Nat}{q:am}{c:jq}{E:(jb)->aD->Prop}{F:aw->aD->Prop}{d:DefRec}(S:l.most=some n)(z:d.params.defaults=[])(j:∀ (w:aw) (e b:al) (u C:jb) (k:aj) (o:aJ) (D t g:ai) (a:aj) (i:jd) (v:jw),
   Ground q c [] E w e u C b.heap->F w b.heap ->
   b.heap.get? k=some o->o.data=.func (docDef d.name d.params d.body d.scope D t g)->b.heap.CodeRec t d.name->u d.name=some (.ref k) ->
   b.heap.get? a=some { cls:=.type "list",data:=.seq i.toArray }->IntsAre i v->v.length<=n->b.gens=#[] ->
   aH (aA l.prog w) callerA (.call (.ref k) ⟨[.ref a],[]⟩) (λr x=>r=.ok (.ret (.bool true))/\OldK b.heap x.heap/\x.os=b.os/\AllBare x.gens) b):
  WalkO q c E F l.row.toRowW d [] (λf i=>PySem.call f i):=by
 intro w e b u C G Y k o D t g K kV T O y H A P args J W s I V B Q;obtain rfl:K=.none:=Dflts.none H z;obtain rfl:kV=.none:=Dflts.noKw H;let⟨a,i,v,rfl,rfl,p,h,m⟩:=CO S s B;refine enter_call (codeAny_mono (j w e b u C k o D t g a i v G Y T (fd_plain O) y A p h m P) λr x U=>?_);let⟨rfl,L,M,N⟩:=U;exact⟨.inl ⟨.bool true,.bool true,[],Z,λ_=>rfl,.bool true,AN l _,λ_=>⟨List.Pairwise.nil,λ_ R=>(nomatch R)⟩⟩,L,M,N⟩
section
variable{K:Frag}
def ZQL(h:aD)(L d:aj):js:=(zV h.objs.size).filterMap λa=>if a=L\/a=d then none else (h.get? a).map λo=>(a,o)
end
end Att
namespace L2
open PySem PySem.Spec PyProof.Rows
def Ls:∀{b:jd}{a:jw},IntsAre b a->ZR (a.map V.int) b:=by intro _ _ h;induction h with
 | nil=>exact .nil
 | cons n t _ c=>exact .cons ⟨t,Z⟩ c
def Ji(H:Hp):Prop:=∀ b,H b=none\/∃ o a,H b=some (.frz o (.lst a))
def Aw{P:am}{w:aw}{K:zZ}{M mb:jb}{CX:Wu}{k:Nat}{S a:aj}{fd:ao}{x:Str}{sp:Sp}{c:al}{y:jd}{N:jw}(KX:K.In c.heap)(G:c.heap.Ns ap M)(g:c.heap.Ns builtinsNs mb)(U:∀ x:Str,x ≠ "__name__"->mb x=ay x)(E:c.heap.NoLimit)(hg:c.gens=#[])(Q:c.heap.get? a=some { cls:=.type "list",data:=.seq y.toArray })(hi:IntsAre y N)(hl:N.length<=aq)(hr:Zc k callerA)(F:∀ i:aD,K.In i->i.Ns ap M->ZH P w K M i CX k S fd [x] sp)(t:∀ (s:al) (u:ai),BindsTo s fd ⟨[u],[]⟩ [(x,u)])(Y:∀ H:Hp,Ji H->ZM K H a (N.map V.int)->sp [.ref a] H (λv _=>v=.bl true) λ_ _ _=>False)(T:∀ H e j,CX [] H c (λ_ _ _=>False) e j->False):
  aH (aA P w) callerA (.call (.ref S) ⟨[.ref a],[]⟩) (λr j=>r=.ok (.ret (.bool true))/\OldK c.heap j.heap/\j.os=c.os/\AllBare j.gens) c:=by
 let rv:=Ls hi;let L:=hi.length;let p:∀ H:Hp,Ji H->ZM K H a (N.map V.int)->YW P w H c.heap->(∀ b,H b≠none->b=a)->(H a≠none->K.lookup a=none) ->
   aH (aA P w) callerA (.call (.ref S) ⟨[.ref a],[]⟩) (λr j=>r=.ok (.ret (.bool true))/\OldK c.heap j.heap/\j.os=c.os/\AllBare j.gens) c:=by
  intro H hO hS I hA hK;let f:∀{b:aj}{o:aJ},c.heap.get? b=some o->H b=none->(UA c.heap H).get? b=some o:=λe n=>Hi e n;let a0:∀{b:aj}{o:aJ}{C:Array DictEntry}{B:Nat},c.heap.get? b=some o->o.data=.dict C B->H b=none:=fun{b o C B} e d=>by
   cases q:H b with
   | none=>rfl
   | some u=>
    let R:b=a:=hA b (by rw[q];simp)
    subst R;rw[Q] at e;cases e;let d':Data.seq y.toArray _=Data.dict C B:=d;cases d'
  let l:∀{b:aj}{m:jb},c.heap.Ns b m->(UA c.heap H).Ns b m:=fun{b m} ⟨o,C,B,e,d,r⟩=>⟨o,C,B,f e (a0 e d),d,r⟩;let D:K.In (UA c.heap H):=λb o e=>f (KX b o e) (by
   cases q:H b with
   | none=>rfl
   | some u=>
    let R:b=a:=hA b (by rw[q];simp)
    subst R;rw[hK (by rw[q];simp)] at e;cases e)
  let hM:Mod K M (UA c.heap H):=⟨D,l G,⟨mb,l g,U⟩,let ⟨mc,h1,h2⟩:=E;⟨mc,l h1,h2⟩⟩;let e0:Wy P w K M (UA c.heap H) callerA [] c H:=⟨Z,hM,λb o e=>GU e,wC (Fp _ _),trivial,λb g=>absurd (show b∈([]:ju) from g) (by simp),I,.of_eq hg⟩
  refine codeAny_mono ((F _ D (l G)).run callerA [] c H ⟨[.ref a],[]⟩ [.ref a] [.ref a] _ _ hr e0 (t c (.ref a)) (.cons rfl .nil) (Y H hO hS)) λr j h=>?_
  cases r with
  | error e=>exact(T H e j h).elim
  | ok fl=>
   cases fl with
   | next=>exact False.elim h
   | brk=>exact False.elim h
   | cont=>exact False.elim h
   | ret u=>
    let⟨v,H',os,A,un,J,r',q⟩:=h;let q':v=.bl true:=q;subst q';obtain rfl:u=Value.bool true:=r';refine⟨Z,OldK.of_keep λb o e=>?_,os,A⟩
    cases q:H b with
    | none=>exact un.keep b o e q (by intro z;exact absurd (show b∈([]:ju) from z) (by simp)) (by simp)
    | some u=>
     rcases hO b with z | ⟨ob,xs,z⟩
     ·rw[q] at z;cases z
     ·let z2:=un.frzs b ob _ z;let⟨e1,_⟩:=I b _ z;let⟨e2,_⟩:=J b _ z2;rw[e] at e1;cases e1;exact e2
 cases X:K.lookup a with
 | some o=>
  let e:=KX a o X;rw[Q] at e;cases e;refine p (λ_=>none) (λ_=>.inl Z) (.inr ⟨_,y.toArray,_,X,rfl,rfl,rfl,by rw[zL,L];exact hl,by simpa using rv⟩) (λb u z=>by let O:(none:Option HO)=some u:=z;cases O) (λb z=>absurd Z z) λz=>absurd Z z
 | none=>
  refine p (λb=>if b=a then some (.frz { cls:=.type "list",data:=.seq y.toArray } (.lst (N.map V.int))) else none) (λb=>?_) (.inl (.inr ⟨{ cls:=.type "list",data:=.seq y.toArray },aQ rfl⟩)) (λb u z=>?_) (λb z=>?_) λ_=>X
  ·by_cases g:b=a
   ·exact .inr ⟨_,_,aQ g⟩
   ·exact .inl (aP g)
  ·by_cases g:b=a
   ·let O:=(aQ g).symm.trans z;cases O;subst g;exact⟨Q,by rw[zX];exact hl,y,_,rv,Q⟩
   ·let O:=(aP g).symm.trans z;cases O
  ·by_cases g:b=a
   ·exact g
   ·exact absurd (aP g) z
abbrev KOf{K:zZ}{h:aD}(_:K.In h):zZ:=K
def ZPe{l:uS}{n k:Nat}{q:am}{loose:jq}{XP:(jb)->aD->Prop}{YP:aw->aD->Prop}{d:DefRec}{K:Params->zZ}{CX:aw->Wu}{sp:aw->Sp}{x:Str}(hn:l.most=some n)(hn2:n<=aq)(hdf:d.params.defaults=[])(hr:Zc k callerA)(hY:∀ (w:aw) (h:aD),YP w h->(K w.params).In h)(F:∀ (w:aw) (m:jb) (t:aj) (h:aD),(K w.params).In h->h.Ns ap m->m d.name=some (.ref t) ->
   ∃ z:ao,(∀ (s:al) (u:ai),BindsTo s z ⟨[u],[]⟩ [(x,u)]) /\
    ∀ c:aD,(K w.params).In c->c.Ns ap m->ZH l.prog w (K w.params) m c (CX w) k t z [x] (sp w))(hsp:∀ (w:aw) (H:Hp) (a:aj) (y:jw),y.length<=n->Ji H->ZM (K w.params) H a (y.map V.int)->sp w [.ref a] H (λv _=>v=.bl true) λ_ _ _=>False)(hCX:∀ (w:aw) (H:Hp) (s:al) (e:ai) (B:al),CX w [] H s (λ_ _ _=>False) e B->False):
  tU q loose XP YP l.row.toRowW d [] (λf E=>PySem.call f E):=by
 refine Att.attach_call hn hdf λw D r m U t o X Q I a E y G Y S R O A p j i P=>?_;let C:=hY w _ Y;let⟨z,N,J⟩:=F w m t _ C G.T.g A;exact Aw C G.T.g G.T.b G.T.builtins G.T.nolimit P p j (zC i hn2) hr J N (λH L M=>hsp w H a y i L M) λH e B=>hCX w H r e B
def Xy(s:aC)(j:Nat):Stmt:=match s with
 | .ClassDef _ _ _ a _ _ _ _ _ _ _=>a.getD j (.Pass ⟨0,0,0,0⟩)
 | _=>.Pass ⟨0,0,0,0⟩
def Ve(s:aC):Arguments:=match s with
 | .FunctionDef _ a _ _ _ _ _ _ _ _=>a
 | _=>{ posonlyargs:=[],args:=[],vararg:=none,kwonlyargs:=[],kw_defaults:=[],kwarg:=none,defaults:=[] }
def Xz(s:aC):List Stmt:=match s with
 | .FunctionDef _ _ b _ _ _ _ _ _ _=>b
 | _=>[]
def Zf(s:aC):Scope:=match s with
 | .FunctionDef _ _ _ _ _ _ a _ _ _=>a
 | _=>{ kind:=.function,names:=[],isGenerator:=false,isCoroutine:=false }
abbrev Zd:Wu:=λ_ _ _ _ _ _=>False
abbrev E0:XK:=λ_ _ _=>False
def XJ{X:Cx}:Vl Zd X E0:=λ_ _ _ _ _ _ _ h=>h.elim
structure Zn(K:zZ)(x qual:Str)(st:aC)(f:aj)(fd:ao):Prop where
 ex:∃(oc:ai)(od:jv)(kV doc pm:ai)(an:jv)(cdv ct:ai)(osl:Array (jc)),
  fd=yK x qual (Ve st) (Xz st) (Zf st) .none kV doc pm an cdv ct/\K.lookup f=some ⟨oc,od,.func fd,osl⟩/\xW K cdv qual=true
 kp:yX K (.ref f)=true
def Zn.ok{x b:Str}{g:aC}{f:aj}{o:ao}{N m:jq}{k:Nat}{n:Sp}(F:Zn K x b g f o)(S:ZB N m (Zf g))(l:∀ e H Q E,n e H Q E->e.length=m.length)(d:∀ (c:ai) (A:ax) (a:jA) (s:al) (H:Hp) (e:je) (Q:VK) (E:XK),Zc k (A.deeper (envOfC b (Zf g) s.heap.objs.size f c))->n e H Q E ->
   let X:=(Vn Zd P w K mg jX N b (Zf g) f c A a s H E).nox;∃ t,Wf X (Xz g) t/\t { nx:=λ_ p=>Q .non p,rt:=Q } (start N e) H):ZH P w K mg jX Zd (k+1) f o m n:=by
 let⟨B,C,kV,r,D,z,c,ct,y,rfl,v,i⟩:=F.ex;refine KM v i S l λA a s H e Q E u j=>?_;let⟨t,h,q⟩:=d c A a s H e Q E u j;exact⟨t,h.nox,q⟩
def Zn.ko{x a:Str}{g:aC}{f:aj}{m:ao}{N j:jq}{k:Nat}{l:Sp}(F:Zn K x a g f m)(S:ZB N j (Zf g))(b:∀ (e:ai) (A:ax) (c:jA) (s:al) (H:Hp) (d:je) (Q:VK) (E:XK),Zc k (A.deeper (envOfC a (Zf g) s.heap.objs.size f e))->l d H Q E ->
   let X:=(Vn Zd P w K mg jX N a (Zf g) f e A c s H E).nox;∃ t,Wf X (Xz g) t/\t { nx:=λ_ n=>Q .non n,rt:=Q } (start N d) H)(i:∀ d H Q E,l d H Q E->d.length=j.length:=by intro d _ _ _ h;cases h;(try subst d);rfl):ZH P w K mg jX Zd (k+1) f m j l:=F.ok S i b
def Zn.binds{x a:Str}{d:aC}{f:aj}{k:ao}{i:jq}(F:Zn K x a d f k)(h:∀ (kV c g:ai) (e:jv) (b ct:ai) (j:jd),j.length=i.length->bindArgs (yK x a (Ve d) (Xz d) (Zf d) .none kV c g e b ct) ⟨j,[]⟩=pure (i.zip j)):YB K k i []:=by
 let⟨o,p,kV,c,g,e,b,ct,m,rfl,n,l⟩:=F.ex;exact .all (h kV c g e b ct)
def VP{x a:Str}{st:aC}{f:aj}{i:ai}{j g:jv}{e:Array (jc)}{kV d h b ct:ai}(l:K.lookup f=some ⟨i,j,.func (yK x a (Ve st) (Xz st) (Zf st) .none kV d h g b ct),e⟩)(c:xW K b a=true)(k:yX K (.ref f)=true):Zn K x a st f (yK x a (Ve st) (Xz st) (Zf st) .none kV d h g b ct):=⟨⟨i,j,kV,d,h,g,b,ct,e,Z,l,c⟩,k⟩
def UC{A:ax}{k:Nat}(a:Zc k A):A.units+1<cLine:=xJ (Nat.add_le_add_left (by decide:1<=64) _) a.units
def Ye{n:Nat}(h:n<=1000):n<sizeLine:=xJ h (by decide)
def pv(i:Nat){x:Str}{b:aK}(c:X.N[i]? = some x:=by rfl)(e:Mc X.env.scope x:=by first | exact Or.inl rfl | exact Or.inr (Or.inl rfl) | exact Or.inr (Or.inr rfl))(d:(x==("__debug__" : Str))=false:=by decide)(a:(x==("__classdict__" : Str))=false:=by decide):PE X (.Name x b) (Y7 i):=EC c e d a
def Zm{A B:Prop}(h:B):if false=true then A else B:=by
 rw[aP zS];exact h
def Z3{A B:Prop}(h:A):if true=true then A else B:=by
 rw[aQ rfl];exact h
def X7{c A B:Prop}[Decidable c](a:c->A)(b:¬ c->B):if c then A else B:=by
 by_cases h:c
 ·rw[aQ h];exact a h
 ·rw[aP h];exact b h
def NM{c A B:Prop}[Decidable c](a:c)(h:B):if (!decide c)=true then A else B:=by
 rw[aO a];exact Zm h
def ZD(H a:Hp):Prop:=∀ b o,H b=some o->a b=some o
def ZD.refl(H:Hp):ZD H H:=λ_ _ h=>h
def ZD.trans{H d e:Hp}(a:ZD H d)(b:ZD d e):ZD H e:=λc o h=>b c o (a c o h)
def ZD.free{H a:Hp}(e:ZD H a){l:aj}(h:a l=tY):H l=tY:=by
 cases q:H l with
 | none=>rfl
 | some o=>
  rw[e l o q] at h;cases h
def ZD.seq{K:zZ}{H b:Hp}{a:aj}{c:je}(e:ZD H b)(h:ZM K H a c):ZM K b a c:=by
 rcases h with (h | ⟨o,h⟩) | h
 ·exact .inl (.inl (e _ _ h))
 ·exact .inl (.inr ⟨o,e _ _ h⟩)
 ·exact .inr h
section
variable{R:Result->al->Prop}
def GQ{elt target iter:Expr}{ifs:jx}{scope:aE}{pos:aK}{it acc:ai}{env:Env}(I:Nat->al->Prop)(turn:∀ n s,I n s->aB (aA prog w) A (pyNext it) (λr d=>match r with
   | none=>R (.ok .next) d
   | some v=>aB (aA prog w) A (letOwnedTupleGo target it v) (λ_ j=>aB (aA prog w) A (assign target env v) (λ_ k=>
     aB (aA prog w) A (forIn ifs true λc r=>if r=true then do let y<-isTrue c env (aI c env);pure (ForInStep.yield y) else pure (ForInStep.yield r)) (λy f=>
      if y=true then aB (aA prog w) A (aI elt env) (λx l=>
       aB (aA prog w) A (call (.builtin "list.append") [acc,x]) (λ_ o=>∃ m,m<n/\I m o) (notedBy (aA prog w) A env λe b=>R (.error e) b) l) (notedBy (aA prog w) A env λe b=>R (.error e) b) f
      else ∃ m,m<n/\I m f) (notedBy (aA prog w) A env λe b=>R (.error e) b) k) (notedBy (aA prog w) A env λe b=>R (.error e) b) j) (notedBy (aA prog w) A env λe b=>R (.error e) b) d) (notedBy (aA prog w) A env λe b=>R (.error e) b) s)(n:Nat)(h:I n s):
  aH (aA prog w) A (.compLoop (.ListComp elt [⟨target,iter,ifs,0⟩] scope pos) 0 it acc env) R s:=by
 refine codeAny_loop Z I (λn s z=>?_) n h;show aB _ A ((compTurn (.ListComp elt [⟨target,iter,ifs,0⟩] scope pos) 0 it acc env).onRaise (λx=>do noteFrame x env;theTreesLotGoes x)) _ _ s
 refine wpAny_noted ?_;rw[compTurn_list];refine aa (ah (aa (ae (turn n s z) (λr d g=>?_) λ_ _ a=>a)))
 cases r with
 | none=>exact ad g
 | some v=>
  refine aa (ae g (λ_ j p=>?_) λ_ _ a=>a);refine aa (ae p (λ_ k q=>aa (ae q (λy f i=>?_) λ_ _ a=>a)) λ_ _ a=>a)
  cases y with
  | false=>exact ad ⟨Z,i⟩
  | true=>
   exact aa (aa (ae i (λx l t=>aa (ae t (λ_ o u=>ad (ad ⟨Z,u⟩)) λ_ _ a=>a)) λ_ _ a=>a))
end
def WA(b:Env)(l:List (Str×NameKind)):jC->jC:=λa=>l.foldl (λa p=>if p.2==.free then (p.1,(b.cells.lookup p.1).getD 0)::a else a) a
def ME(a:Env)(l:List (Str×NameKind)):Prop:=∀ p∈l,p.2=.free->∃ c,a.cells.lookup p.1=some c
def Jr{b:Env}{d:aE}(h:ME b d.names):closureFor d b=pure (WA b d.names []):=by
 let i:∀(l:List (Str×NameKind))(f:jC),ME b l->(forIn l f λx r=>if (x.2==.free)=true then do let a<-cellOf b x.1;pure (ForInStep.yield ((x.1,a)::r)) else pure (ForInStep.yield r):Sem (jC))=pure (WA b l f):=by
  intro l
  induction l with
  | nil=>intro f _;rfl
  | cons p r n=>
   intro f j;let e:WA b (p::r) f=WA b r (if p.2==.free then (p.1,(b.cells.lookup p.1).getD 0)::f else f):=rfl
   rw[List.forIn_cons,e]
   cases o:(p.2==NameKind.free) with
   | true=>
    let⟨c,m⟩:=j p zK (eq_of_beq o);let g:cellOf b p.1=pure c:=by unfold cellOf;rw[m]
    simp only[if_true,g,pure_bind];rw[n _ λq k=>j q (zI _ k),m];rfl
   | false=>
    simp only[vV,if_false,pure_bind];exact n _ λq k=>j q (zI _ k)
 have:=i d.names [] h;simpa [closureFor] using this
def FC{a:Env}:∀{l:List (Str×NameKind)}{b:jC}{x:Str}{c:aj},ME a l->(WA a l b).lookup x=some c->b.lookup x=some c\/a.cells.lookup x=some c
 | [],_,_,_,_,h=>.inl h
 | p::r,b,x,c,hf,h=>by
  let i:(WA a r (if p.2==.free then (p.1,(a.cells.lookup p.1).getD 0)::b else b)).lookup x=some c:=h
  rcases FC (λq j=>hf q (zI _ j)) i with q | q
  ·cases f:(p.2==NameKind.free) with
   | true=>
    rw[f,aQ rfl,xP] at q
    cases e:x==p.1 with
    | true=>
     rw[e] at q;let⟨d,g⟩:=hf p zK (eq_of_beq f);refine .inr ?_;rw[eq_of_beq e,g];rw[g] at q;exact q
    | false=>
     rw[e] at q;exact .inl q
   | false=>
    rw[f,aP zS] at q;exact .inl q
  ·exact .inr q
def Fu{a:Env}{x:Str}:∀{l:List (Str×NameKind)}{b:jC},(b.lookup x).isSome=true->((WA a l b).lookup x).isSome=true
 | [],_,h=>h
 | p::r,b,h=>by
  show ((WA a r (if p.2==.free then (p.1,(a.cells.lookup p.1).getD 0)::b else b)).lookup x).isSome=true
  refine Fu ?_
  cases c:(p.2==NameKind.free) with
  | true=>
   rw[aQ rfl,xP]
   cases e:x==p.1 with
   | true=>rfl
   | false=>exact h
  | false=>rw[aP zS];exact h
def FU{a:Env}{x:Str}:∀{l:List (Str×NameKind)}{b:jC},(x,NameKind.free)∈l->((WA a l b).lookup x).isSome=true
 | [],_,h=>by cases h
 | p::r,b,h=>by
  show ((WA a r (if p.2==.free then (p.1,(a.cells.lookup p.1).getD 0)::b else b)).lookup x).isSome=true
  rcases zF.mp h with e | h
  ·subst e;refine Fu ?_;show (xT x ((x,(a.cells.lookup x).getD 0)::b)).isSome=true;rw[xP,beq_self_eq_true];rfl
  ·exact FU h
def Ya(a:Env)(b:jC):Prop:=∀ x c,b.lookup x=some c->a.cells.lookup x=some c
def Ya.get{a:Env}{b:jC}{x:Str}{c:aj}(h:Ya a b)(e:b.lookup x=some c):a.cells.lookup x=some c:=h x c e
def Id{a:Env}{l:List (Str×NameKind)}(h:ME a l):Ya a (WA a l []):=λx c e=>by
 rcases FC h e with q | q
 ·cases q
 ·exact q
def EK{env:Env}:∀{names:List (Str×NameKind)}{x:Str},names.lookup x=some .free ->
  (names.map fun(n,k)=>if (k==NameKind.free&&env.scope.kind==.function&&env.kindOf n==some .cell) then (n,NameKind.cell) else (n,k)).lookup x=some .cell \/
  (names.map fun(n,k)=>if (k==NameKind.free&&env.scope.kind==.function&&env.kindOf n==some .cell) then (n,NameKind.cell) else (n,k)).lookup x=some .free
 | [],_,h=>by simp at h
 | (n,k)::r,x,h=>by
  rw[xP] at h;simp only[yP]
  cases a:x==n with
  | true=>
   rw[a] at h;cases h;split
   ·exact .inl (by rw[xP,a])
   ·exact .inr (by rw[xP,a])
  | false=>
   rw[a] at h;let b:=EK (env:=env) h;split
   ·rw[xP,a];exact b
   ·rw[xP,a];exact b
def EY{env:Env}:∀{names:List (Str×NameKind)}{x:Str},(∀ y∈names,y.2≠.cell) ->
  ((names.map fun(n,k)=>if (k==NameKind.free&&env.scope.kind==.function&&env.kindOf n==some .cell) then (n,NameKind.cell) else (n,k)).lookup x=some .cell \/
  (names.map fun(n,k)=>if (k==NameKind.free&&env.scope.kind==.function&&env.kindOf n==some .cell) then (n,NameKind.cell) else (n,k)).lookup x=some .free)->(x,NameKind.free)∈names
 | [],_,_,h=>by simp at h
 | (n,k)::r,x,hc,h=>by
  let e:∀ y∈r,y.2≠.cell:=λy f=>hc y (zI _ f);simp only[yP] at h
  cases b:x==n with
  | true=>
   let c:=eq_of_beq b;subst c;by_cases a:k=.free
   ·subst a;exact zK
   ·let d:(k==NameKind.free)=false:=by simpa using a
    simp only[d,uY,vV,if_false,xP,beq_self_eq_true] at h;rcases h with h | h
    ·exact absurd (zG.inj h) (hc _ zK)
    ·exact absurd (zG.inj h) a
  | false=>
   refine zI _ (EY (env:=env) e ?_);split at h
   ·simpa only [xP,b] using h
   ·simpa only [xP,b] using h
def YG(X:Cx)(a:aE):jo->jq->Prop
 | [],[]=>True
 | i::is,y::ys=>X.N[i]? = some y/\(X.env.kindOf y=some .cell\/X.env.kindOf y=some .free)/\a.names.lookup y=some .free/\YG X a is ys
 | _,_=>False
def YG.len{X:Cx}{a:aE}:∀{b:jo}{c:jq},YG X a b c->b.length=c.length
 | [],[],_=>rfl
 | _::_,_::_,h=>congrArg (· + 1) h.2.2.2.len
def YG.get{X:Cx}{a:aE}:∀{b:jo}{c:jq}{j:Nat}{y:Str},YG X a b c->c[j]? = some y ->
  ∃ i,b[j]? = some i/\X.N[i]? = some y/\(X.env.kindOf y=some .cell\/X.env.kindOf y=some .free)/\a.names.lookup y=some .free
 | [],[],_,_,_,h=>by simp at h
 | i::_,z::_,0,y,f,h=>by
  simp at h;subst h;exact⟨i,Z,f.1,f.2.1,f.2.2.1⟩
 | _::b,_::c,j+1,y,f,h=>by
  let⟨i,e,r⟩:=YG.get (j:=j) f.2.2.2 (by simpa using h)
  exact⟨i,by simpa using e,r⟩
def Ys(X:Cx)(N:jq)(a:aE)(b:jC)(C:aj)(s:al)(H:Hp)(c:ju)(E:ja):Cx where
 prog:=X.prog
 w:=X.w
 K:=X.K
 mg:=X.mg
 base:=X.base
 A:=X.A
 N:=N
 s₀:=s
 H₀:=H
 env:=compEnvC a b C X.env
 outer:=X.stack
 stack:=X.stack
 ex:=c
 fn:=λ_=>false
 calm:=X.calm
 pn:=[]
 xe:=E
def Ho(b:St)(a:jo):St:=none::a.map λi=>(b[i]?).join
def NJ(b:St)(a:jo)(x:V):St:=some x::a.map λi=>(b[i]?).join
def Pj(X:Cx)(b:jx)(e:TT):Prop:=
 ∀(a:js)(s:al)(d:St)(H:Hp)(Q:Bool->Hp->Prop),ZI X a d H s->e d H Q ->
  aB (aA X.prog X.w) X.A (forIn b true λc r=>if r=true then do let ok<-isTrue c X.env (aI c X.env);pure (ForInStep.yield ok) else pure (ForInStep.yield r)) (TP X a d Q) X.xe s
def JB:TT:=λ_ H Q=>Q true H
def UY{X:Cx}:Pj X [] JB:=λ_ _ _ H _ I h=>wpAny_tests_nil ⟨H,I,h⟩
def Js{X:Cx}{c:Expr}{t:TT}(h:PT X c t):Pj X [c] t:=λa s d H Q I b=>wpAny_tests_one (h a s d H Q I b)
def VO(J:It)(j:St)(h:jo)(l:TT)(k:TE)(e:Hp)(Q:VK):Prop:=
 ∀ D,e D=none->∃ W:Nat->Nat->Hp->Prop,(∃ m,W 0 m (upd e D (.lst [])))/\∀ i m H,W i m H ->
  (J.stop i H/\Q (.ref D) H)\/(J.go i H/\∀ x d,J.yld i H x d->l (NJ j h x) d λc f=>
   if c=true then k (NJ j h x) f λy g=>∃ b a,g D=some (.lst b)/\b.length<aq/\a<m/\W (i+1) a (upd g D (.lst (b++[y])))
   else ∃ a,a<m/\W (i+1) a f)
def Km(f:TI)(c:jo)(e:TT)(d:TE):TE:=λa H Q=>f a H λJ b=>VO J a c e d b Q
section
variable{jW:js}{σ:St}{H:Hp}
def Dc{b:jo}{j:Nat}{v:V}(h:(b.map λi=>(σ[i]?).join)[j]? = some (some v)):∃ i,b[j]? = some i/\σ[i]? = some (some v):=by
 rw[zH] at h
 cases e:b[j]? with
 | none=>rw[e] at h;cases h
 | some i=>
  rw[e] at h;let a:(σ[i]?).join=some v:=zG.inj h;exists i,Z
  cases q:σ[i]? with
  | none=>rw[q] at a;cases a
  | some o=>
   rw[q] at a
   cases o with
   | none=>cases a
   | some z=>cases a;rfl
def NV(a:Env)(l:List (Str×NameKind)):Bool:=l.all λp=>!(p.2==.free) || a.kindOf p.1==some .cell || a.kindOf p.1==some .free
def JG{X:Cx}{l:List (Str×NameKind)}(a:X.Ok)(h:NV X.env l=true):ME X.env l:=λp c b=>by
 let q:=zN.mp h p c;rw[b] at q;let d:(X.env.kindOf p.1==some .cell || X.env.kindOf p.1==some .free)=true:=by simpa using q
 rcases Bool.or_eq_true_iff.mp d with q | q
 ·exact a.has p.1 (.inl (eq_of_beq q))
 ·exact a.has p.1 (.inr (eq_of_beq q))
def OX(a:aE)(x:Str):Bool:=a.kind==.function&&a.names.lookup x==some .local&&a.names.all (λp=>!(p.2==.cell))&&a.names.all (λp=>!(p.2==.local) || a.names.lookup p.1==some .local)
structure PF(scope:aE)(x:Str):Prop where
 kind:scope.kind=.function
 own:scope.names.lookup x=some .local
 cell:∀ y∈scope.names,y.2≠.cell
 names:∀ y∈scope.names,y.2=.local->scope.names.lookup y.1=some .local
def MC{a:aE}{x:Str}(h:OX a x=true):PF a x:=by
 unfold OX at h;rw[zR,zR,zR] at h;let⟨⟨⟨c,d⟩,e⟩,f⟩:=h;refine⟨eq_of_beq c,eq_of_beq d,λy b z=>?_,λy b z=>?_⟩
 ·have:=zN.mp e y b;rw[z] at this;cases this
 ·have:=zN.mp f y b;rw[z] at this;let q:(a.names.lookup y.1==some NameKind.local)=true:=by simpa using this
  exact eq_of_beq q
def KQ{a:aE}{b:Env}(d:∀ y∈a.names,y.2≠.cell)(y:Str)(h:(relabel a b).names.lookup y=some .cell\/(relabel a b).names.lookup y=some .free):∃ c,(WA b a.names []).lookup y=some c:=
 sK.mp (FU (EY d h))
def Fc(i:Nat)(t:TE):TS:=λD σ H=>t σ H λv a=>D.nx (σ.set i (some v)) a
end
def Mx(b:jq)(c:St)(a:jo):St:=b.map (λ_=>(none:jf))++a.map λi=>(c[i]?).join
def LQ(J:It)(k:Nat)(g:TG)(p:St)(n:jo)(s:TT)(r:TE)(h:Hp)(Q:VK):Prop:=
 ∀ D,h D=none->∃ W:Nat->Nat->Hp->Prop,(∃ m,W 0 m (upd h D (.lst [])))/\∀ i m H,W i m H ->
  (J.stop i H/\Q (.ref D) H)\/(J.go i H/\∀ x f,J.yld i H x f->∀ o:St,o.length=k->g x (o++n.map λi=>(p[i]?).join) f λa q=>(∃ d:St,d.length=k/\a=d++n.map λi=>(p[i]?).join)/\s a q λc j=>
   if c=true then r a j λy l=>∃ e b,l D=some (.lst e)/\e.length<aq/\b<m/\W (i+1) b (upd l D (.lst (e++[y])))
   else ∃ b,b<m/\W (i+1) b j)
def Fq(k:Nat)(g:TG)(f:TI)(c:jo)(e:TT)(d:TE):TE:=λa H Q=>f a H λJ b=>LQ J k g a c e d b Q
section
variable{jW:js}{σ:St}{H:Hp}
def Gq{xs J:jq}{G:jo}{a:aE}{K:jC}{fp:ju}{E:ja}{g:aD}{D C n tk:Nat}{m:jb}(I:ZI X jW σ H s)(M:∀ b∈fp,VU X jW H b/\b<s.heap.objs.size)(f:Ya X.env K)(A:a.kind=.function)(t:∀ y,((relabel a X.env).names.lookup y=some .cell\/(relabel a X.env).names.lookup y=some .free)->∃ c,K.lookup y=some c)(fo:YG X a G J)(L:s.heap.objs.size<=D)(Q:s.heap.objs.size<=C)(R:D≠C)(S:g.Ns C m)(k:∀ b o,s.heap.get? b=some o->g.get? b=some o)(hd:g.get? D=some { cls:=.type "list",data:=.seq ([]:jd).toArray n }):
  ZI (Ys X (xs++J) a K C s H fp E) [] (Mx xs σ G) (upd H D (.lst [])) { s with heap:=g,toks:=tk }:=by
 let d:∀ y c,K.lookup y=some c->c<s.heap.objs.size:=λy c e=>by
  let⟨v,q⟩:=I.cell y c (f.get e);exact q.lt
 refine⟨⟨I.ok.mod,A,I.ok.glob,I.ok.blt,Q,λy z c h1 h2=>I.ok.inj y z c (f.get h1) (f.get h2),t,λy c h _=>absurd h (by simp[Ys]),I.ok.hd,I.ok.frames,.inl Z,λb F=>⟨?_,λy c e=>?_⟩,I.bs,zC I.ok.bsz I.sz,λb o e F=>?_,λb F z=>?_,I.stack,I.stkFree⟩,
  Z,I.bare,Un.laid k L (I.hok.fresh L),⟨m,S,λj y v e1 Y B=>?_⟩,λy c e=>?_,?_,λy c e=>?_,λp hp=>absurd (show p∈([]:js) from hp) (by simp),I.hok.laid k L ?_,?_⟩
 ·exact zM (yN (M b F).2 Q)
 ·exact(M b F).1.2.2.2.2.1 y c (f.get e)
 ·let⟨_,_,_,z,_⟩:=(M b F).1;rcases z with z | z
  ·exact I.ok.noex b o e z
  ·exact absurd (yN (zW (I.ok.bs b o e).1) z) (wY _)
 ·let⟨_,z1,z2,_⟩:=(M b F).1;rcases zF.mp (I.stkSub b z) with q | q
  ·exact z1 q
  ·exact z2 q
 ·by_cases N:j<xs.length
  ·exfalso
   let B:(xs.map (λ_=>(none:jf))++G.map λi=>(σ[i]?).join)[j]? = some (some v):=Y;rw[wZ (by rw[zX];exact N),zH,zU N] at B
   cases B
  ·let W:(xs++J)[j]? = some y:=e1;let O:J[j-xs.length]? = some y:=by rw[xB (uX N)] at W;exact W
   let B:(xs.map (λ_=>(none:jf))++G.map λi=>(σ[i]?).join)[j]? = some (some v):=Y;let P:(G.map λi=>(σ[i]?).join)[j-xs.length]? = some (some v):=by
    rw[xB (by rw[zX];exact uX N),zX] at B
    exact B
   let⟨i,q1,q2⟩:=Dc P;let⟨i',p1,p2,w,U⟩:=fo.get O;rw[q1] at p1;cases p1;let p4:(relabel a X.env).names.lookup y=some .cell\/(relabel a X.env).names.lookup y=some .free:=EK U;let⟨c,p5⟩:=t y p4;let⟨m0,a0,hl⟩:=I.loc;let⟨u,r,l⟩:=hl i y v p2 q2 (.inr w);refine⟨u,r,.inr ⟨p4,c,p5,?_⟩⟩;rcases l with ⟨l1,_⟩ | ⟨_,c',l2,l3⟩
   ·rcases w with w | w
    ·rw[l1] at w;cases w
    ·rw[l1] at w;cases w
   ·rw[f.get p5] at l2;cases l2;let⟨o,T,x⟩:=l3;exact⟨o,k _ _ T,x⟩
 ·let⟨v,o,T,x⟩:=I.cell y c (f.get e);exact⟨v,o,k _ _ T,x⟩
 ·show upd H D (.lst []) C=none;rw[ZU (Ne.symm R)];exact I.hok.fresh Q
 ·show upd H D (.lst []) c=none;rw[ZU (zM (yN (d y c e) L))];exact I.freeC y c (f.get e)
 ·exact⟨yT _,[],n,.nil,hd⟩
 ·show (Mx xs σ G).length=(xs++J).length;unfold Mx;rw[yZ,zX,zX,fo.len,yZ]
def Gy(k:Nat)(c:jo)(σ a:St):Prop:=∃ b:St,b.length=k/\a=b++c.map λi=>(σ[i]?).join
inductive Kf(Y:Cx)(k:Nat)(f:jo)(σ:St)(g:Nat->aD->Prop)(e:ju)(W:Nat->Nat->Hp->Prop)(n:Nat)(d:al):Prop
 |mk(i:Nat)(a:St)(c:Hp):ZI Y [] a c d->Gy k f σ a->g i d.heap->(∀ b∈e,c b=none)->W i n c->Kf Y k f σ g e W n d
def Ir{elt iter tg:Expr}{xs:jq}{g:TG}{ifs:jx}{scope:aE}{cl:jC}{pos:aK}{ix:jo}{ys:jq}{tt:TT}{te:TE}{it:aj}{fp:ju}{tn:Nat->aD->Prop}{J:It}{Q:VK}{E:ja}{RR:ai->aj->Result->al->Prop}(hc:X.calm=true)(hg:∀ C s H fp E,PG (Ys X (xs++ys) scope cl C s H fp E) tg g)(ht:∀ C s H fp E,Pj (Ys X (xs++ys) scope cl C s H fp E) ifs tt)(he:∀ C s H fp E,PE (Ys X (xs++ys) scope cl C s H fp E) elt te)(sub:Ya X.env cl)(jk:scope.kind=.function)(jn:∀ y∈scope.names,y.2≠.cell)(hhas:∀ y,((relabel scope X.env).names.lookup y=some .cell\/(relabel scope X.env).names.lookup y=some .free)->∃ c,cl.lookup y=some c)(fo:YG X scope ix ys)(I:ZI X jW σ H s)(T:US X.prog X.w X.K tg J fp it tn)(st:tn 0 s.heap)(hf:∀ b∈fp,VU X jW H b)(q:LQ J xs.length g σ ix tt te H Q)(hRR:∀ D C s' H' m,s.heap.objs.size<=C->ZI X jW σ H' s'->VU X jW H' C->s'.heap.Ns C m->Q (.ref D) H'->RR (.ref D) C (.ok .next) s'):
  aB (aA X.prog X.w) X.A (newList []) (λacc s₃=>aB (aA X.prog X.w) X.A (newFunctionEnv scope X.env.globals cl [] X.env.qual none .none (some X.env)) (λcenv s₄=>
   aH (aA X.prog X.w) X.A (.compStart (.ListComp elt [⟨tg,iter,ifs,0⟩] scope pos) 0 (.ref it) acc { cenv with scope:=relabel scope X.env }) (RR acc cenv.locals) s₄) E s₃) E s:=by
 refine wpAny_newObj_type (wpAny_newFunctionEnv jn (by intro y hy;simp at hy) (λh₁ hns₁ hsb₁=>?_) jk)
 dsimp only at hns₁ hsb₁⊢;generalize hH2:s.heap.push { cls:=.type "list",dict:=none,data:=.seq ([]:jd).toArray }=H2 at hns₁ hsb₁⊢;let hC:H2.objs.size=s.heap.objs.size+1:=by rw[<-hH2,vQ]
 let hDC:s.heap.objs.size≠H2.objs.size:=by rw[hC];exact zM (xV _)
 let hCle:s.heap.objs.size<=H2.objs.size:=by rw[hC];exact xI _
 let below:∀ b,b<s.heap.objs.size->b≠H2.objs.size/\b≠s.heap.objs.size:=λb hb=>⟨by rw[hC];exact zM (vW hb),zM hb⟩
 let old:∀ b o,s.heap.get? b=some o->h₁.get? b=some o:=λb o e=>hsb₁.extBut b o (below b (zW e)).1 (zQ _ (hH2 ▸ zQ _ e));let hacc:∃ n,h₁.get? s.heap.objs.size=some { cls:=.type "list",data:=.seq ([]:jd).toArray n }:=⟨_,hsb₁.extBut _ _ hDC (zQ _ (hH2 ▸ yO _ rfl))⟩;let⟨nD,hacc⟩:=hacc;let hf':∀ b∈fp,VU X jW H b/\b<s.heap.objs.size:=λb hb=>⟨hf b hb,by let⟨o,e,_⟩:=T.obj 0 _ st b hb;exact zW e⟩
 let hDn:H s.heap.objs.size=none:=I.hok.fresh (zY _);let⟨W,⟨m0,w0⟩,turn⟩:=q _ hDn;generalize hE:notedBy (aA X.prog X.w) X.A (compEnvC scope cl H2.objs.size X.env) (λe s'=>RR (.ref s.heap.objs.size) H2.objs.size (.error e) s')=EE;let I0:ZI (Ys X (xs++ys) scope cl H2.objs.size s H fp EE) [] (Mx xs σ ix) (upd H s.heap.objs.size (.lst [])) { s with heap:=h₁,toks:=s.toks+([]:jI).length }:=
  Gq I hf' sub jk hhas fo (zY _) hCle hDC hns₁ old hacc
 let st1:tn 0 h₁:=T.keep _ _ _ st λb _ o e=>old b o e;let fr1:∀ b∈fp,upd H s.heap.objs.size (.lst []) b=none:=λb hb=>by rw[ZU (below b (hf' b hb).2).2];exact(hf b hb).1
 let stat:∀{H':Hp},(∀ b∈fp,H' b=none)->∀ b∈fp,VU (Ys X (xs++ys) scope cl H2.objs.size s H fp EE) [] H' b:=λhn b hb=>
  ⟨hn b hb,(I0.ok.exf b hb).1,I0.ok.exfs b hb,.inl hb,(I0.ok.exf b hb).2,λp hp=>absurd (show p∈([]:js) from hp) (by simp)⟩
 let loop:∀ s₃:al,s₃={ s with heap:=h₁,toks:=s.toks+([]:jI).length } ->
   aH (aA X.prog X.w) X.A (.compLoop (.ListComp elt [⟨tg,iter,ifs,0⟩] scope pos) 0 (.ref it) (.ref s.heap.objs.size) (compEnvC scope cl H2.objs.size X.env)) (RR (.ref s.heap.objs.size) H2.objs.size) s₃:=by
  rintro s₃ rfl;refine GQ (Kf (Ys X (xs++ys) scope cl H2.objs.size s H fp EE) xs.length ix σ tn fp W) ?_ m0 ⟨0,_,_,I0,⟨_,zX _,Z⟩,st1,fr1,w0⟩;rintro n s3 ⟨i,σ3,H3,I3,⟨o3,ho3,hσ3⟩,st3,fr3,w3⟩;rw[hE];rcases turn i n H3 w3 with ⟨stop,qn⟩ | ⟨go,step⟩
  ·refine Z5 (T.done (Ys X (xs++ys) scope cl H2.objs.size s H fp EE) Z Z Z hc i [] s3 σ3 H3 EE I3 (stat fr3) st3 stop) ?_;rintro r s4 ⟨hr,I4⟩;subst hr;let⟨m4,hn4,_⟩:=I4.loc;let Ix:ZI X jW σ H3 s4:=I.call' (s':=s4) (ch:=fp) I4.os I4.base I4.hok I4.bare λb hb=>by
    let⟨_,z1,_,z3,z4,z5⟩:=hf b hb;exact⟨z3,z1,z4,z5⟩
   exact hRR _ _ s4 H3 m4 hCle Ix (I.fpOk hCle I4.free) hn4 qn
  ·refine Z5 (T.item (Ys X (xs++ys) scope cl H2.objs.size s H fp EE) Z Z Z hc i [] s3 σ3 H3 EE I3 (stat fr3) st3 go) ?_;rintro r s4 ⟨u,hr,h4⟩;subst hr;refine Z5 h4 ?_;rintro _ s5 ⟨xv,H5,I5,r5,y5,st5,fr5⟩;let I5':=I5.pinned (stat fr5) (T.obj _ _ st5);let again:∀{σ7:St}{H7:Hp}{s7:al}{m':Nat},ZI (Ys X (xs++ys) scope cl H2.objs.size s H fp EE) ([]++NA fp s5.heap) σ7 H7 s7->Gy xs.length ix σ σ7->m'<n->W (i+1) m' H7 ->
     ∃ m,m<n/\Kf (Ys X (xs++ys) scope cl H2.objs.size s H fp EE) xs.length ix σ tn fp W m s7:=fun{σ7 H7 s7 m'} I7 e7 hm w7=>by
    refine⟨m',hm,.mk (i+1) σ7 H7 I7.unpinned e7 (T.keep _ _ _ st5 λb hb o e=>(I7.pin (b,o) (yE _ (yE _ (Nf hb e)))).1) (λb hb=>?_) w7⟩;let⟨o,e,d⟩:=T.obj _ _ st5 b hb;exact(I7.pin (b,o) (yE _ (yE _ (Nf hb e)))).2.1
   let stp:=step xv _ y5 o3 ho3;rw[<-hσ3] at stp;refine Z5 (hg _ _ _ _ _ _ s5 σ3 H5 xv u _ I5' r5 stp) ?_;rintro _ s6 ⟨σ6,H6,I6,e6,q6⟩;refine Z5 (ht _ _ _ _ _ _ s6 _ _ _ I6 q6) ?_;rintro ok s7 ⟨H7,I7,q7⟩
   cases ok with
   | false=>
    rw[aP zS] at q7⊢;let⟨m',hm,w7⟩:=q7;exact again I7 e6 hm w7
   | true=>
    rw[aQ rfl] at q7⊢;refine Z5 (he _ _ _ _ _ _ s7 _ _ _ I7 q7) ?_;rintro y s8 ⟨yv,H8,I8,r8,ys8,m',e8,z8,hm,w8⟩;refine Z5 (Uo _ s8 _ H8 (.ref s.heap.objs.size) [yv] (.ref s.heap.objs.size) [y] (λ_ H9=>W (i+1) m' H9) I8 Z (.cons r8 .nil) ⟨_,ys8,yv,Z,Z,e8,z8,w8⟩) ?_;rintro _ s9 ⟨_,H9,I9,_,w9⟩;exact again I9 e6 hm w9
 exact codeAny_compStart_list (loop _ Z) (T.self _ 0 _ _ _ st1 (loop _ rfl))
def ZKy{f c t:Expr}(j:jq)(x:Str){g:TG}{i:jx}{a:aE}{p:aK}{G:TI}{z:TT}{y:TE}(u:jo)(k:jq)(hc:X.calm=true)(hg:∀ C s H d E,PG (Ys X (j++k) a (WA X.env a.names []) C s H d E) t g)(hi:PI X t c G)(ht:∀ C s H d E,Pj (Ys X (j++k) a (WA X.env a.names []) C s H d E) i z)(he:∀ C s H d E,PE (Ys X (j++k) a (WA X.env a.names []) C s H d E) f y)(W:YG X a u k)(hk:NV X.env a.names=true:=by rfl)(n:OX a x=true:=by rfl)(hs:∀ x,foldedSetIterable c X.env x=pure x:=by intro _;rfl):
  PE X (.ListComp f [⟨t,c,i,0⟩] a p) (Fq j.length g G u z y):=by
 intro jW s σ H Q I h;let B:=MC n;let F:=JG I.ok hk;rw[eval_ListComp];refine wpAny_comprehension_free (use:=none) Z hs (Jr F) B.kind B.names (Z5 (hi jW s σ H _ I h) λv s1 Y=>Z5 Y λa0 s2 h2=>?_);let⟨it,d,tn,J,H2,e,L,T,r,P,q2⟩:=h2;subst e;refine Ir (RR:=λl C=>compPost (aA X.prog X.w) X.A X.xe none (EP X jW σ Q) l C) hc hg ht he (Id F) B.kind B.cell (KQ B.cell) W L T r P q2 ?_;intro D C s' K m hC M V hn q;refine⟨m,hn,λh' sb=>⟨.ref D,K,?_,Z,q⟩⟩;let⟨N,O,_,R,S,U⟩:=V;exact M.turned (t':=s'.toks) (λb o n e=>(sb.2 b n).trans e) N O R S U
def Fa{f d u:Expr}(G:jq)(x:Str){g:TG}{y:Str}{p:aK}{j:jx}{c:aE}{l k:aK}{wi:TI}{tt:TT}{te:TE}{i:Nat}(ix:jo)(K:jq)(hN:X.N.Nodup)(O:X.N[i]? = some y)(Y:X.env.scope.names.lookup y=some .local)(hc:X.calm=true)(hg:∀ C s H n E,PG (Ys X (G++K) c (WA X.env c.names []) C s H n E) u g)(hi:PI X u d wi)(ht:∀ C s H n E,Pj (Ys X (G++K) c (WA X.env c.names []) C s H n E) j tt)(he:∀ C s H n E,PE (Ys X (G++K) c (WA X.env c.names []) C s H n E) f te)(fo:YG X c ix K)(P:aF (.ListComp f [⟨u,d,j,0⟩] c l) (some (.Name y p)) k.line X.env=pure true:=by rfl)(hk:NV X.env c.names=true:=by rfl)(M:OX c x=true:=by rfl)(hs:∀ x,foldedSetIterable d X.env x=pure x:=by intro _;rfl):
  PS X (.Assign [.Name y p] (.ListComp f [⟨u,d,j,0⟩] c l) k) (Fc i (Fq G.length g wi ix tt te)):=by
 intro jW s σ H D I h;let B:=MC M;let F:=JG I.ok hk;rw[exec_Assign_Name_used _ _ _ _ P];refine aa (ah (aa ?_));show aB _ X.A (do let _<-comprehension (.ListComp f [⟨u,d,j,0⟩] c l) c X.env _ (newList []) false (aI d X.env) (some (assign (.Name y p) X.env))) _ _ s
 refine aa (ae (wpAny_comprehension_free (use:=some (assign (.Name y p) X.env)) (Q:=λ_ t=>SP X jW D .next t) rfl hs (Jr F) B.kind B.names
  (Z5 (hi jW s σ H _ I h) λv s1 h1=>Z5 h1 λa0 s2 h2=>?_)) (λ_ t hq=>ad (ad hq)) λ_ _ e=>e)
 let⟨it,n,tn,J,H2,e,I2,T,S,f2,q2⟩:=h2;subst e;refine Ir (RR:=λL C=>compPost (aA X.prog X.w) X.A X.xe (some (assign (.Name y p) X.env)) (λ_ t=>SP X jW D .next t) L C) hc hg ht he (Id F) B.kind B.cell (KQ B.cell) fo I2 T S f2 q2 ?_;intro U C t H' m hC Ix fC hn q;let⟨f0,V,_,f3,W,f5⟩:=fC;show aB _ X.A (assign (.Name y p) X.env (.ref U)) _ _ _;refine wpAny_assign_Name (EB Ix hN O (.inl Y) (v:=.ref U) Z (λs3 I3 ⟨a,sb,r⟩=>?_) (.inr Y));let ne:C≠a:=by
  rcases r with r | r
  ·rw[r];exact V
  ·exact λz=>W y a r z.symm
 refine⟨m,hn.sameBut sb ne,λh' R=>⟨_,H',?_,q⟩⟩;exact I3.turned (t':=s3.toks) (λb o M e=>(R.2 b M).trans e) f0 V f3 W f5
def KG(K:zZ):TG:=N9 K 2 (QF (U0 0) (QF (U0 1) HJ))
def ZNf{x y:Str}{h i a:aK}{k:Nat}(g:X.calm=true)(b:X.N.Nodup)(e:X.N[0]? = some x)(f:X.N[1]? = some y)(c:X.env.scope.names.lookup x=some .local)(d:X.env.scope.names.lookup y=some .local):PG X (.Tuple [.Name x h,.Name y i] k a) (KG X.K):=
 Pg g (Y9 (Qr b e (.inl c) (.inr c)) (Y9 (Qr b f (.inl d) (.inr d)) Pf))
def ZKW{x:Str}{q:jq}{p:jo}{a:aE}{g:jC}{l:ju}{E:ja}{d:aD}{D C n z:Nat}{m:jb}(I:ZI X jW σ H s)(w:∀ b∈l,VU X jW H b/\b<s.heap.objs.size)(j:Ya X.env g)(e:a.kind=.function)(f:∀ y,((relabel a X.env).names.lookup y=some .cell\/(relabel a X.env).names.lookup y=some .free)->∃ c,g.lookup y=some c)(r:YG X a p q)(u:s.heap.objs.size<=D)(t:s.heap.objs.size<=C)(h:D≠C)(i:d.Ns C m)(k:∀ b o,s.heap.get? b=some o->d.get? b=some o)(v:d.get? D=some { cls:=.type "list",data:=.seq ([]:jd).toArray n }):
  ZI (Ys X (x::q) a g C s H l E) [] (Ho σ p) (upd H D (.lst [])) { s with heap:=d,toks:=z }:=
 Gq (xs:=[x]) I w j e f r u t h i k v
def VO.toT{J:It}{a:jo}{c:TT}{b:TE}{Q:VK}(h:VO J σ a c b H Q):LQ J 1 (U0 0) σ a c b H Q:=λD f=>by
 let⟨W,e,j⟩:=h D f;refine⟨W,e,λi m H k=>(j i m H k).imp id λq=>⟨q.1,λx d y l g=>?_⟩⟩;let⟨_,rfl⟩:=List.length_eq_one_iff.mp g;exact⟨⟨[some x],Z,Z⟩,q.2 x d y⟩
inductive MX(c:TI)(σ:L2.St)(H:Hp)(K:It->Hp->Prop):Prop
 |mk(b:It->Hp->Prop)(_:c σ H b)(_:∀ J a,b J a->K J a)
def PI.more{i g:Expr}{j:TI}(h:PI X i g j):PI X i g (MX j):=λjW s σ H R I ⟨l,n,f⟩=>
 ae (h jW s σ H l I n) (λ_ _ z=>ae z (by rintro _ _ ⟨o,m,p,J,k,a,b,c,d,e,r⟩;exact⟨o,m,p,J,k,a,b,c,d,e,f _ _ r⟩) λ_ _ z=>z) λ_ _ z=>z
def Qy{c b:Expr}{x:Str}{o:aK}{d:jx}{a:aE}{l:aK}{r:TI}{q:TT}{p:TE}(k:jo)(e:jq)(u:X.calm=true)(w:PI X (.Name x o) b r)(B:∀ C s H f E,Pj (Ys X (x::e) a (WA X.env a.names []) C s H f E) d q)(v:∀ C s H f E,PE (Ys X (x::e) a (WA X.env a.names []) C s H f E) c p)(t:YG X a k e)(y:NV X.env a.names=true:=by rfl)(m:OX a x=true:=by rfl)(j:(x::e).Nodup:=by decide +kernel)(A:∀ x,foldedSetIterable b X.env x=pure x:=by intro _;rfl):
  PE X (.ListComp c [⟨.Name x o,b,d,0⟩] a l) (Km r k q p):=by
 intro jW s σ H Q I h;let n:(relabel a X.env).names.lookup x=some .local:=lookup_relabel_local (MC m).own;exact ZKy [x] x (g:=U0 0) k e u (λ_ _ _ _ _=>Qr (i:=0) j Z (Or.inl n) (Or.inr n)) (PI.more w) B v t y m A jW s σ H Q I ⟨_,h,λ_ _ z=>VO.toT z⟩
def LY{d b:Expr}{x y:Str}{p t:aK}{e:jx}{a:aE}{f c:aK}{w:TI}{v:TT}{u:TE}{i:Nat}(o:jo)(j:jq)(B:X.N.Nodup)(l:X.N[i]? = some y)(O:X.env.scope.names.lookup y=some .local)(F:X.calm=true)(J:PI X (.Name x p) b w)(M:∀ C s H k E,Pj (Ys X (x::j) a (WA X.env a.names []) C s H k E) e v)(G:∀ C s H k E,PE (Ys X (x::j) a (WA X.env a.names []) C s H k E) d u)(A:YG X a o j)(n:aF (.ListComp d [⟨.Name x p,b,e,0⟩] a f) (some (.Name y t)) c.line X.env=pure true:=by rfl)(K:NV X.env a.names=true:=by rfl)(q:OX a x=true:=by rfl)(m:(x::j).Nodup:=by decide +kernel)(L:∀ x,foldedSetIterable b X.env x=pure x:=by intro _;rfl):
  PS X (.Assign [.Name y t] (.ListComp d [⟨.Name x p,b,e,0⟩] a f) c) (Fc i (Km w o v u)):=by
 intro jW s σ H D I h;let r:(relabel a X.env).names.lookup x=some .local:=lookup_relabel_local (MC q).own;exact Fa [x] x (g:=U0 0) o j B l O F (λ_ _ _ _ _=>Qr (i:=0) m Z (Or.inl r) (Or.inr r)) (PI.more J) M G A n K q L jW s σ H D I ⟨_,h,λ_ _ z=>VO.toT z⟩
end
end L2
local macro_rules|`(tactic|lia)=>`(tactic|first|assumption|exact xJ ‹_› ‹_›|exact yN ‹_› ‹_›|exact zC ‹_› ‹_›|exact zC ‹_› (zA rfl)|exact yN ‹_› (zA rfl)|exact xJ ‹_› (zA rfl)|exact zC (zC ‹_› ‹_›) (zA rfl)|exact zC (wC ‹_›) (zC ‹_› (zA rfl))|exact zC (wC (Eq.symm ‹_›)) (zC ‹_› (zA rfl))|exact xX ‹_›|exact Nat.pos_of_ne_zero ‹_›|exact uQ ‹_›|exact Nat.succ_le_succ ‹_›|exact zA rfl|exact zY _|exact Nat.le_add_right _ _|exact Nat.le_add_left _ _|exact vB _ _|exact Int.natCast_nonneg _|exact Nat.lt_of_not_le ‹_›|exact uX ‹_›|exact Int.lt_of_not_ge ‹_›|exact Int.not_lt.mp ‹_›|exact tI ‹_› (xV _)|exact Nat.lt_of_lt_of_eq ‹_› (Eq.symm ‹_›)|exact Nat.lt_of_lt_of_eq ‹_› ‹_›|exact Eq.symm (Nat.succ_pred_eq_of_ne_zero ‹_›)|exact Nat.add_sub_of_le ‹_›|exact Nat.add_lt_of_lt_sub' ‹_›|exact Int.ofNat_lt.mpr ‹_›|exact xJ (Nat.le_add_right _ _) ‹_›|exact zC (Nat.min_le_right _ _) (vB _ _)|exact zC (Nat.min_le_right _ _) (zC (vB _ _) ‹_›)|exact zC (vB _ _) ‹_›|exact Nat.le_sub_of_add_le' ‹_›|exact Nat.le_sub_of_add_le ‹_›|exact Int.le_trans ‹_› ‹_›|exact xJ (wC ‹_›) ‹_›|lia (splits:=8))
namespace L2
open PySem PySem.Spec PyProof.Rows
inductive JT(K:zZ)(a:je)(H:Hp)(Q:VK):Prop
 |mk(x n t b:_)(_:a=[x,.ty n])(_:XV K H x t)(_:yW K t (.type n)=some b)(_:Q (.bl b) H)
def Xs:Vf X (.builtin "isinstance") (JT X.K):=by
 intro a s l H k j Q I r h;let⟨x,n,t,b,rfl,g,e,q⟩:=h;let⟨u,i,rfl,d,c⟩:=LU r;cases(show i=Value.type n from c);exact ZJT I d g e λf=>⟨.bl b,H,I.tok f,Z,q⟩
def Ib{K:zZ}:yW K (.type "bool") (.type "bool")=some true:=by kernel_rfl
def NW{K:zZ}:yW K (.type "int") (.type "bool")=some false:=by kernel_rfl
def G0{K:zZ}:yW K (.type "str") (.type "bool")=some false:=by kernel_rfl
def FH{K:zZ}:yW K (.type "tuple") (.type "bool")=some false:=by kernel_rfl
def Oi{K:zZ}:yW K (.type "int") (.type "int")=some true:=by kernel_rfl
def K8{K:zZ}:yW K (.type "str") (.type "int")=some false:=by kernel_rfl
def JA{K:zZ}:yW K (.type "tuple") (.type "int")=some false:=by kernel_rfl
def kit_is'{K:zZ}:yW K (.type "int") (.type "str")=some false:=by kernel_rfl
def N0{K:zZ}:yW K (.type "str") (.type "str")=some true:=by kernel_rfl
def IJ{K:zZ}:yW K (.type "tuple") (.type "str")=some false:=by kernel_rfl
def BI{K:zZ}:yW K (.type "int") (.type "tuple")=some false:=by kernel_rfl
def ZOi{K:zZ}:yW K (.type "str") (.type "tuple")=some false:=by kernel_rfl
def M7{K:zZ}:yW K (.type "tuple") (.type "tuple")=some true:=by kernel_rfl
def Yx:ay "isinstance" = some (.builtin "isinstance"):=by decide +kernel
def Mt:ay "all" = some (.builtin "all"):=by decide +kernel
def Oo:ay "max" = some (.builtin "max"):=by decide +kernel
def ZN4:ay "min" = some (.builtin "min"):=by decide +kernel
def L0:ay "abs" = some (.builtin "abs"):=by decide +kernel
def Xu:ay "len" = some (.builtin "len"):=by decide +kernel
def P2:ay "bool" = some (.type "bool"):=by decide +kernel
def Qw:ay "int" = some (.type "int"):=by decide +kernel
def NC:ay "str" = some (.type "str"):=by decide +kernel
def QZ:ay "tuple" = some (.type "tuple"):=by decide +kernel
def QD:ay "list" = some (.type "list"):=by decide +kernel
inductive UF(x y:V)(H:Hp)(Q:VK):Prop
 |mk(i j:_)(_:x=.str i)(_:y=.str j)(_:Q (.bl (!decide (j.cps.toList<i.cps.toList))) H)
def GZ:XI X (az .LtE) (UF):=by
 intro a s e H x y v u Q I b c h;let⟨i,j,rfl,rfl,q⟩:=h;let⟨t,rfl⟩:=b;let⟨d,rfl⟩:=c;exact PySem.P.le_str (Yz I q (by simp))
inductive UP(a:zZ)(x y:V)(H:Hp)(Q:VK):Prop
 |mk(p b c:_)(_:x=.ref p)(_:y=.ref b)(_:ZM a H p c)(_:ZM a H b [])(_:Q (.bl c.isEmpty) H)
def MA(f:X.A.units<cLine):XI X (az .Eq) (UP X.K):=by
 intro l s G H x y v u Q I B C h;let⟨p,b,D,rfl,rfl,c,o,q⟩:=h;cases B;cases C;let⟨d,w,i,E⟩:=I.list c;let⟨a,z,k,F⟩:=I.list o;let g:=w.length;let t:=z.length;let n:a=[]:=vS (by rw[<-t];rfl)
 subst n
 cases D with
 | nil=>
  let m:d=[]:=vS (by rw[<-g];rfl)
  subst m;exact PySem.SeqAt.eq_listAt (e:=λ_=>true) i.isList k.isList Z f (λj c _=>absurd c (by simp)) (Yz I q (by simp))
 | cons x r=>exact PySem.SeqAt.eq_list_lengthsAt i.isList k.isList (by simp;intro e;subst e;simp at g) f (Yz I q Z)
def ZPG(i j:Int):Prop:=0<j/\j.natAbs.log2<9000
def ZMb:XI X (binaryOp .FloorDiv) (rI ZPG λi j=>.int (i / j)):=N3 λi j _ _ _ _ _ a q=>by
 let b:(0:Int)<j:=a.1;exact floordiv_int ∅ (by rw[rN i ∅];exact q) (.inl (PyProof.noPylong_of_log2 a.2))
inductive Q7(a:zZ)(b:je)(H:Hp)(Q:VK):Prop
 |mk(p:aj)(bs:jQ)(_:b=[.ref p])(_:ZM a H p (bs.map V.bl))(_:Q (.bl (bs.all id)) H)
def Mj(B:X.calm=true):Vf X (.builtin "all") (Q7 X.K):=by
 intro t s W H V U Q I r h;let⟨p,bs,rfl,F,q⟩:=h;let⟨u,rfl,J⟩:=V5 r;cases J;let⟨a,w,j,S⟩:=I.list F;let n:=w.length;let f:p<s.heap.objs.size:=by let⟨_,e,_⟩:=j.isList;exact zW e
 let g:p≠s.heap.objs.size:=zM f;let C:=I.ok.hd B;let M:∀(i:Nat)(v:ai),a.toArray[i]? = some v->v=.bool (bs.getD i true):=λi v G=>by
  let c:a[i]? = some v:=by simpa using G
  let R:i<a.length:=(yH.mp c).1;let m:i<bs.length:=by rw[zX] at n;lia
  let⟨u,k,d⟩:=w.get (i:=i) (x:=.bl bs[i]) (by rw[zH,zU m];rfl)
  rw[c] at k;cases k;rw[show v=Value.bool bs[i] from d,zT,zU m];rfl
 refine call_all_walk (wpAny_pyIter_list j.isList ?_);refine⟨_,_,_,_,_,_,(λi=>bs.getD i true),Z,Walks.list (A:=X.A.in1) C s.heap.objs.size p g a.toArray,⟨⟨_,yO _ Z,Z,Z⟩,j.isList.push _⟩,λi v T O N y z=>?_,λP L D=>?_⟩
 ·rw[M i v y];exact wpAny_truthy_bool z
 ·let e:(zV a.toArray.size).all (λi=>bs.getD i true)=bs.all id:=by
   rw[zL,<-n,zX];let d:bs.all id=((zV bs.length).map λi=>bs.getD i true).all id:=by rw[range_getD]
   rw[d,xS];rfl
  rw[e];refine⟨.bl (bs.all id),H,I.kept (t':=L) λb o l=>D b o ?_ (zQ _ l),Z,q⟩;intro E;exact absurd (zW l) (by rw[yY.mp E];exact wY _)
def QG(b:Int)(l:jw):Int:=l.foldl (λa c=>if c > a then c else a) b
def Nv(d:Int):jw->Int
 | []=>d
 | x::r=>QG x r
section
variable{R:Result->al->Prop}
def ZI6(hh:A.handled=none){I l S:aj}{f:jd}{d:jw}{kw:jI}(y:S≠I)(U:S≠l)(Y:l≠I)(hi:IntsAre f d):
  ∀(k j:Nat)(s:al)(b:Int)(n:Tok)(c:Nat),f.length-j=k->j<=f.length->s.heap.IsListIter I l j->s.heap.IsList l f.toArray->s.heap.get? S=some { cls:=.type "list",dict:=none,data:=.seq #[.int b n,.int b n] c,slots:=#[] } ->
   (∀ t H N,(∀ a o,a≠I->a≠S->s.heap.get? a=some o->H.get? a=some o)->R (.ok (.ret (.int (QG b (d.drop j)) t))) { s with heap:=H,toks:=N }) ->
   aH (aA prog w) A (.builtin "max.loop" ⟨[.ref I,.none,.ref S],kw⟩) R s:=by
 let nm:(toString "max" ++ toString ".loop" : String) = "max.loop" :=by decide
 let W:=Walks.list (prog:=prog) (w:=w) (A:=A.in1) hh I l Y f.toArray;let p:=IntsAre.length hi;intro k
 induction k with
 | zero=>
  intro j s b n c hk hj st X J L;let E:j=f.toArray.size:=by rw[zL];lia
  refine codeAny_builtin sO ?_;rw[Around.under_plainId wH _];show aB _ A.in1 (seqItems? (.ref S) >>= _) _ _ s;refine aa (wpAny_seqItems J Z ?_);show aB _ A.in1 (tryCatch (pyNext (.ref I)) _ >>= _) _ _ s;refine aa (wpAny_tryCatch (W.done s _ _ (by rw[<-E];exact⟨st,X⟩) λH N g=>?_))
  let h:=g S _ (by simpa using y) J
  show aB _ A.in1 (updateSeq S (λ_=>#[]) >>= _) _ _ _;refine aa (wpAny_updateSeq h Z (aa (wpAny_letGo (ad ?_))));let q:=L n (H.update S (Obj.mapSeq λ_=>#[])) N λa o z D e=>(yD _ _ (Ne.symm D)).trans (g a o (by simpa using z) e)
  rw[List.drop_eq_nil_of_le (by rw[<-p];rw[zL] at E;lia)] at q
  exact q
 | succ k ih=>
  intro j s b n c hk hj st X J L;let E:j<f.toArray.size:=by rw[zL];lia
  refine codeAny_builtin sO ?_;rw[Around.under_plainId wH _];show aB _ A.in1 (seqItems? (.ref S) >>= _) _ _ s;refine aa (wpAny_seqItems J Z ?_);show aB _ A.in1 (tryCatch (pyNext (.ref I)) _ >>= _) _ _ s;refine aa (wpAny_tryCatch (W.item j s _ _ E ⟨st,X⟩ λv H N hP m g=>?_));let h:=g S _ (by simpa using y) J
  let K:j<d.length:=by rw[<-p];rw[zL] at E;exact E
  obtain⟨O,hv⟩:∃ t,v=.int d[j] t:=by
   let r:ZR (d.map V.int) f:=Ls hi;let⟨u,e1,t,G⟩:=r.get (i:=j) (x:=.int d[j]) (by rw[zH,zU K];rfl)
   let T:f[j]? = some v:=by simpa using hP
   rw[T] at e1;cases e1;exact⟨t,G⟩
  subst hv;let hd:d.drop j=d[j]::d.drop (j+1):=uF K;show aB _ A.in1 (tryCatch (holding [_,_] (richCompare .Gt (.int d[j] O) (.int b n) >>= _)) _ >>= _) _ _ _;refine aa (wpAny_tryCatch (af (aa (CmpOf.ints_gt (P:=λi v=>(i=0/\v=.int d[j] O)\/(i=1/\v=.int b n)) (λi=>if i=0 then d[j] else b) (λi v hv=>?_) 0 1 _ _ _ _ _ (.inl ⟨rfl,rfl⟩) (.inr ⟨rfl,rfl⟩) ?_))))
  ·rcases hv with ⟨rfl,rfl⟩ | ⟨rfl,rfl⟩
   ·exact⟨O,Z⟩
   ·exact⟨n,Z⟩
  refine aa (af (wpAny_truthy_bool (aa (wpAny_letGo (ad ?_)))));by_cases D:d[j] > b
  ·simp only[aQ,D,decide_true,Nat.one_ne_zero,if_false,↓reduceIte];refine aa (wpAny_updateSeq h Z (aa (wpAny_letGo ?_)));rw[nm];refine ad ⟨plainId_quiet wH _,ih (j+1) _ d[j] O _ ∅ ∅ ?_ ?_ (wV _ h rfl) λt Q C B=>?_⟩
   ·let⟨o,e,r⟩:=m.1;exact⟨o,(yD _ _ y).trans e,r⟩
   ·let⟨o,e,r⟩:=m.2;exact⟨o,(yD _ _ U).trans e,r⟩
   ·let q:=L t Q C λa o z M e=>B a o z M ((yD _ _ (Ne.symm M)).trans (g a o (by simpa using z) e))
    rw[hd] at q;let G:QG b (d[j]::d.drop (j+1))=QG d[j] (d.drop (j+1)):=by unfold QG;rw[tQ,aQ D]
    rw[G] at q;exact q
  ·simp only[D,decide_false,Nat.one_ne_zero,if_false,vV,↓reduceIte];refine aa (wpAny_letGo ?_);rw[nm];refine ad ⟨plainId_quiet wH _,ih (j+1) _ b n c ∅ ∅ m.1 m.2 h λt Q C B=>?_⟩
   let q:=L t Q C λa o z M e=>B a o z M (g a o (by simpa using z) e)
   rw[hd] at q;let G:QG b (d[j]::d.drop (j+1))=QG b (d.drop (j+1)):=by unfold QG;rw[tQ,aP D]
   rw[G] at q;exact q
end
def ZKC(a v:ai):argsOk "max" ⟨[a],[(wU "default",v)]⟩:=by unfold argsOk;kernel_rfl
def C8(hc:X.calm=true){g:js}{Y:St}{H:Hp}{s:al}{Q:VK}{l:aj}{p:jw}{d:Int}{M:Tok}(I:ZI X g Y H s)(hq:ZM X.K H l (p.map V.int))(q:Q (.int (Nv d p)) H):
  aB (aA X.prog X.w) X.A (call (.builtin "max") [.ref l] [(wU "default",.int d M)]) (EP X g Y Q) X.xe s:=by
 let nm:(toString "max" ++ toString ".loop" : String) = "max.loop" :=by decide
 let⟨b,rv,T,hz⟩:=I.list hq;let hi:IntsAre b p:=IX rv;let c:=IntsAre.length hi;let hh:=I.ok.hd hc;let E:l<s.heap.objs.size:=by let⟨_,e,_⟩:=T.isList;exact zW e
 refine PyProof.Rows.kmk_tree PySem.F.kind_max PySem.F.plain_max PySem.F.entry_max (ZKC _ _) ?_;show aB _ X.A.in1 (Builtin.Builtins.bindParams "max" ["key","default"] 0 ⟨[],[(wU "default",.int d M)]⟩ >>= _) _ _ s;refine aa (wpAny_of_eq (show Builtin.Builtins.bindParams "max" ["key","default"] 0 ⟨[],[(wU "default",.int d M)]⟩=pure [none,some (.int d M)] from rfl) ?_);refine aa (ad (aa (wpAny_pyIter_list T.isList (aa (wpAny_newList ?_ (yT _))))));rw[nm];let n:(s.heap.push { cls:=.type "list_iterator",data:=.fields #[.ref l,.int 0 0] }).objs.size=s.heap.objs.size+1:=vQ ..;let D:l≠s.heap.objs.size:=zM E;let m:(s.heap.push { cls:=.type "list_iterator",data:=.fields #[.ref l,.int 0 0] }).objs.size≠s.heap.objs.size:=by rw[n];exact xH (xV _)
 let C:(s.heap.push { cls:=.type "list_iterator",data:=.fields #[.ref l,.int 0 0] }).objs.size≠l:=by rw[n];exact xH (vW E)
 generalize hS:(s.heap.push { cls:=.type "list_iterator",data:=.fields #[.ref l,.int 0 0] }).objs.size=S at *;let R:∀ a o,s.heap.get? a=some o->((s.heap.push { cls:=.type "list_iterator",data:=.fields #[.ref l,.int 0 0] }).push { cls:=.type "list",data:=.seq ([]:jd).toArray }).get? a=some o:=λa o e=>zQ _ (zQ _ e);let gI:((s.heap.push { cls:=.type "list_iterator",data:=.fields #[.ref l,.int 0 0] }).push { cls:=.type "list",data:=.seq ([]:jd).toArray }).IsListIter s.heap.objs.size l 0:=⟨_,zQ _ (yO _ rfl),Z,Z⟩;let gL:((s.heap.push { cls:=.type "list_iterator",data:=.fields #[.ref l,.int 0 0] }).push { cls:=.type "list",data:=.seq ([]:jd).toArray }).IsList l b.toArray:=(T.isList.push _).push _;let gS:((s.heap.push { cls:=.type "list_iterator",data:=.fields #[.ref l,.int 0 0] }).push { cls:=.type "list",data:=.seq ([]:jd).toArray }).get? S=some { cls:=.type "list",dict:=none,data:=.seq #[] 0,slots:=#[] }:=by
  rw[<-hS];exact yO _ Z
 generalize ((s.heap.push { cls:=.type "list_iterator",data:=.fields #[.ref l,.int 0 0] }).push { cls:=.type "list",data:=.seq ([]:jd).toArray })=h2 at *;refine ad ⟨plainId_quiet wH _,?_⟩;let W:=Walks.list (prog:=X.prog) (w:=X.w) (A:=X.A.in1) hh s.heap.objs.size l D b.toArray;refine codeAny_builtin sO ?_;rw[Around.under_plainId wH _];show aB _ X.A.in1 (seqItems? (.ref S) >>= _) _ _ _;refine aa (wpAny_seqItems gS Z ?_);show aB _ X.A.in1 (tryCatch (pyNext (.ref s.heap.objs.size)) _ >>= _) _ _ _;let nS:∀ a o,s.heap.get? a=some o->a≠S:=λa o e z=>by
  let h:=zW e;rw[z,n] at h;exact absurd h (wD.mpr (xI _))
 let f:∀{y:aD}{J:Nat}{v:Int}{t:Tok},(∀ a o,a≠s.heap.objs.size->a≠S->h2.get? a=some o->y.get? a=some o)->v=Nv d p->EP X g Y Q (.int v t) { s with heap:=y,toks:=J }:=fun{y J v t} k e=>by
  subst e;exact⟨.int (Nv d p),H,I.kept (t':=J) λa o e=>k a o (zM (zW e)) (nS a o e) (R a o e),⟨t,Z⟩,q⟩
 cases p with
 | nil=>
  let z:b=[]:=vS c;subst z;refine aa (wpAny_tryCatch (W.done _ _ _ ⟨gI,gL⟩ λy J j=>?_));show aB _ X.A.in1 (rule _ >>= _) _ _ _;refine aa (wpAny_rule (ad ?_));exact f (λa o L P e=>j a o (by simpa using L) e) Z
 | cons x r=>
  let zl:0<b.toArray.size:=by rw[zL,c];exact Nat.succ_pos _
  refine aa (wpAny_tryCatch (W.item 0 _ _ _ zl ⟨gI,gL⟩ λv y J hP G j=>?_));let B:=j S _ (by simpa using m) gS
  obtain⟨U,hv⟩:∃ t,v=.int x t:=by
   let⟨u,e1,t,e2⟩:=rv.get (i:=0) (x:=.int x) Z;let N:b[0]? = some v:=by simpa using hP
   rw[N] at e1;cases e1;exact⟨t,e2⟩
  subst hv;show aB _ X.A.in1 (updateSeq S (λ_=>#[.int x U,.int x U]) >>= _) _ _ _;refine aa (wpAny_updateSeq B Z ?_);rw[nm];refine ad ⟨plainId_quiet wH _,ZI6 hh m C D hi _ 1 _ x U _ Z (by rw[c];exact Nat.succ_le_succ (yT _)) ?_ ?_ (wV _ B rfl) λt h3 a0 O=>?_⟩
  ·let⟨o,e,r⟩:=G.1;exact⟨o,(yD _ _ m).trans e,r⟩
  ·let⟨o,e,r⟩:=G.2;exact⟨o,(yD _ _ C).trans e,r⟩
  ·exact f (λa o L P e=>O a o L P ((yD _ _ (Ne.symm P)).trans (j a o (by simpa using L) e))) Z
def ZP5(t f:TA)(K:zZ):TE:=λc H Q=>t c H λg e=>f c e λh a=>∃(l:aj)(b:jw)(d:Int),g=[.ref l]/\h=[.int d]/\ZM K a l (b.map V.int)/\Q (.int (Nv d b)) a
def D0{p a g:aK}{e f:Expr}{t i:TA}(x:X.calm=true)(z:Gl X "max")(B:X.mg "max" = none)(w:PA X [e] t)(A:PK X [⟨some (wU "default"),f,g⟩] i)(y:aG a (ar [e] X.env)=(false,aI e X.env)::aG a (ar [] X.env):=by rfl)(b:(aG a (ar [e] X.env)).any (·.1)=false:=by rfl):
  PE X (.Call (.Name "max" p) [e] [⟨some (wU "default"),f,g⟩] a) (ZP5 t i X.K):=by
 intro c s j H Q I h;refine ag (Pq I z B Oo (callWith_kw (YO (w a c s j H _ I h) λP G R k m r q=>?_) y b));refine Z5 (A a c G j k _ m q) ?_;rintro S M ⟨T,J,n,F,l,L,d,o,v,C,D⟩;subst o v;let⟨u,rfl,E⟩:=V5 r;let⟨O,rfl,N,rfl⟩:=V5 F;cases E;exact C8 x n C D
def Fj(x:Str):It:=⟨λi _=>i<x.cps.size,λi H v a=>a=H/\∃ c,x.cps[i]? = some c/\v=.str ⟨#[c]⟩,λi _=>i=x.cps.size⟩
def Fr{P:am}{w:aw}{K:zZ}{tg:Expr}(ty:String)(hty:["enumerate","zip","dict_itemiterator","dict_reverseitemiterator","odict_iterator","itertools.zip_longest","itertools.pairwise"].contains ty=false)(x:Str)(t:Tok)(it:aj)(W:∀ A:ax,A.handled=none->Walks P w A it [it] [it] x.cps.size (SignAt x) (λi h=>h.IsStrIter it ty x t i))(self:∀ (A:ax) (i:Nat) (s:al) (Q:ja) (E:ja),s.heap.IsStrIter it ty x t i->Q (.ref it) s->aB (aA P w) A (pyIter (.ref it)) Q E s):
  US P w K tg (Fj x) [it] it (λi h=>h.IsStrIter it ty x t i) where
 mem:=by simp
 obj:=λi h st b hb=>by
  let e:b=it:=by simpa using hb
  subst e;let⟨o,e,c,d⟩:=st;exact⟨o,e,λv z=>by rw[d] at z;cases z⟩
 keep:=λi h h' ⟨o,e,r⟩ k=>⟨o,k it (by simp) o e,r⟩
 item:=by
  intro X hP hw hK hc i jW s σ H E I hf st hg;subst hP hw hK;let⟨f0,f1,f2,f3,f4,f5⟩:=hf it (by simp)
  refine(W X.A (I.ok.hd hc)).item i s _ _ hg st λv h' tk hv st' kk=>?_;let⟨c,u,hx,rfl⟩:=hv;let I1:ZI X jW σ H { s with heap:=h',toks:=tk }:=I.turned (λb o hb e=>kk b o (by simpa using hb) e) f0 f1 f3 f4 f5
  let⟨o,e,cl,d⟩:=id st';exact⟨_,Z,LK (s:={ s with heap:=h',toks:=tk }) e cl d hty ⟨.str ⟨#[c]⟩,H,I1,⟨u,Z⟩,⟨Z,c,hx,Z⟩,st',λb hb=>(hf b hb).1⟩⟩
 done:=by
  intro X hP hw hK hc i jW s σ H E I hf st hg;subst hP hw hK;let⟨f0,f1,f2,f3,f4,f5⟩:=hf it (by simp)
  let hi:i=x.cps.size:=hg;subst hi;exact(W X.A (I.ok.hd hc)).done s _ _ st λh' tk kk=>⟨Z,I.turned (λb o hb e=>kk b o (by simpa using hb) e) f0 f1 f3 f4 f5⟩
 self:=self
section
variable{tg:Expr}
inductive N1(R:It->Hp->Prop)(v:V)(a:Hp):Prop
 |mk(x:_)(_:v=.str x)(_:R (Fj x) a)
def ZQb(b:TE):TI:=λc H R=>b c H λv a=>N1 R v a
def Ae{l:Expr}{n:TE}(r:PE X l n):PI X tg l (ZQb n):=by
 intro a s w H R I h;refine Z5 (r a s w H _ I h) ?_;rintro v c ⟨z,f,d,u,x,e,q⟩;subst e;let⟨t,rfl⟩:=u;let k:∀ b∈[c.heap.objs.size],VU X a f b:=λb p=>by
  rw[yY.mp p];exact d.fpOk (zY _) (d.hok.fresh (zY _))
 cases m:x.cps.all (· < 128)
 ·exact wpAny_pyIter_wide m ⟨c.heap.objs.size,[c.heap.objs.size],_,_,f,Z,d.kept (t':=c.toks) λb o e=>zQ _ e,
   Fr "str_iterator" (by decide) x t _ (λA g=>Walks.strWide g _ x t) (λA i s Q E j h=>wpAny_pyIter_striter_wide j h),⟨_,yO _ Z,Z,Z⟩,k,q⟩
 ·exact wpAny_pyIter_ascii m ⟨c.heap.objs.size,[c.heap.objs.size],_,_,f,Z,d.kept (t':=c.toks) λb o e=>zQ _ e,
   Fr "str_ascii_iterator" (by decide) x t _ (λA g=>Walks.strAscii g _ x t) (λA i s Q E j h=>wpAny_pyIter_striter_ascii j h),⟨_,yO _ Z,Z,Z⟩,k,q⟩
end
section
variable{σ:St}{H:Hp}{ix:jo}{te:TE}{Q:VK}
def Ui{J:It}{n:Nat}(d:Nat->V->Prop)(c:aj->Nat->je->Hp->Prop)(z:n<aq)(k:∀ D i a H,i<n->c D i a H->J.go i H)(t:∀ D i a H x g,i<n->c D i a H->J.yld i H x g->g=H/\d i x)(f:∀ D a H,c D n a H->J.stop n H)(q:∀ D,H D=none->c D 0 [] (upd H D (.lst [])))(step:∀ D i a H x,H D=some (.lst a)->a.length<=i->i<n->d i x->c D i a H->∀ R:VK,(∀ y h,h D=some (.lst a)->c D (i+1) (a++[y]) (upd h D (.lst (a++[y])))->R y h)->te (NJ σ ix x) H R)(j:∀ D a H,H D=some (.lst a)->c D n a H->Q (.ref D) H):VO J σ ix JB te H Q:=by
 intro D r;exists λi m H=>m=n-i/\i<=n/\∃ a,H D=some (.lst a)/\a.length<=i/\c D i a H,⟨n,rfl,yT _,[],ZO,zY _,q D r⟩;rintro i m H ⟨rfl,w,a,e,s,p⟩;by_cases b:i<n
 ·refine .inr ⟨k D i a H b p,λx g y=>?_⟩;let⟨rfl,u⟩:=t D i a H x g b p y;unfold JB;dsimp only;rw[aQ rfl];refine step D i a _ x e s b u p _ λy h o v=>?_;exact⟨a,n-(i+1),o,∅,∅,Z,b,a++[y],ZO,by rw[yZ,xA];lia,v⟩
 ·let l:i=n:=∅
  subst l;exact .inl ⟨f D a H p,j D a H e p⟩
def ZGb{J:It}{n:Nat}{s:TT}(c:Nat->V->Prop)(d:V->Bool)(f:aj->Nat->je->Hp->Prop)(C:n<aq)(l:∀ D i a H,i<n->f D i a H->J.go i H)(z:∀ D i a H x j,i<n->f D i a H->J.yld i H x j->j=H/\c i x)(g:∀ D a H,f D n a H->J.stop n H)(u:∀ D,H D=none->f D 0 [] (upd H D (.lst [])))(h:∀ D i a H x,i<n->c i x->f D i a H->∀ R:Bool->Hp->Prop,R (d x) H->s (NJ σ ix x) H R)(q:∀ D i a H x,H D=some (.lst a)->i<n->c i x->d x=true->f D i a H->f D (i+1) (a++[x]) (upd H D (.lst (a++[x]))))(A:∀ D i a H x,H D=some (.lst a)->i<n->c i x->d x=false->f D i a H->f D (i+1) a H)(k:∀ D a H,H D=some (.lst a)->f D n a H->Q (.ref D) H):VO J σ ix s (Y7 0) H Q:=by
 intro D v;exists λi m H=>m=n-i/\i<=n/\∃ a,H D=some (.lst a)/\a.length<=i/\f D i a H,⟨n,rfl,yT _,[],ZO,zY _,u D v⟩;rintro i m H ⟨rfl,B,a,e,w,p⟩;by_cases b:i<n
 ·refine .inr ⟨l D i a H b p,λx j y=>?_⟩;let⟨rfl,o⟩:=z D i a H x j b p y;refine h D i a _ x b o p _ ?_
  cases r:d x with
  | true=>
   rw[aQ rfl];exact⟨x,Z,a,n-(i+1),e,∅,∅,Z,b,a++[x],ZO,by rw[yZ,xA];lia,q D i a _ x e b o r p⟩
  | false=>
   rw[aP zS];exact⟨n-(i+1),∅,Z,b,a,e,uQ w,A D i a _ x e b o r p⟩
 ·let t:i=n:=∅
  subst t;exact .inl ⟨g D a H p,k D a H e p⟩
end
def Zk.there{P:am}{w:aw}{H:Hp}{h:aD}{a:aj}:∀{o:HO},Zk P w H h a o->∃ b,h.get? a=some b:=by
 intro o x
 induction o with
 | lst l=>let⟨z,j,n,r,e⟩:=x;exact⟨_,e⟩
 | tup l=>let⟨z,j,r,b,e,c⟩:=x;exact⟨_,e⟩
 | dK k=>let⟨z,y,G,r,b,i,g,e,c⟩:=x;exact⟨_,e⟩
 | dT k=>let⟨z,y,l,r,b,i,g,e,c⟩:=x;exact⟨_,e⟩
 | set S n=>let⟨b,i,g,t,e,c⟩:=x;exact⟨_,e⟩
 | ins C p m=>let⟨d,z,D,e,_⟩:=x;exact⟨_,e⟩
 | own y=>exact x
 | xd m=>let⟨B,⟨E,i,g,e,c⟩,r⟩:=x;exact⟨_,e⟩
 | rng A q=>let⟨t,u,v,e⟩:=x;exact⟨_,e⟩
 | frz b u s=>exact⟨_,x.1⟩
 | tbl F=>exact⟨_,x⟩
 | met f y=>exact⟨_,x⟩
 | ext I=>exact x.2.1
def YW.there{P:am}{w:aw}{H:Hp}{h:aD}{a:aj}(x:YW P w H h)(n:H a≠none):∃ b,h.get? a=some b:=by
 cases e:H a with
 | none=>exact absurd e n
 | some o=>exact Zk.there (x a o e)
def YW.keptT{P:am}{w:aw}{H:Hp}{h d:aD}(x:YW P w H h)(k:∀ b u,h.get? b=some u->H b≠none->d.get? b=some u):YW P w H d:=λa o e=>
 (x a o e).stay (λb u c q=>k b u q (by
  rcases c with rfl | c
  ·rw[e];exact λz=>nomatch z
  ·rw[c];exact λz=>nomatch z)) (λ_ q=>q) λ_ _ q=>q
section
variable{jW:js}{σ:St}{H H':Hp}{s':al}{E:XK}
def ZI.noloc(I:ZI X jW σ H s):X.s₀.heap.get? X.env.locals=none:=uI I.ok.above
def IF(I:ZI X jW σ H s):∀ b∈frs X.stack,∀ o,s.heap.get? b=some o->∀ a,o.data≠.fields a:=λb c o q a z=>by
 let⟨_,f,e,d⟩:=I.stack.mem c;rw[q] at e;cases e;exact d a z
end
end L2
namespace L2
open PySem PySem.Spec PySem.W PyProof.Rows
def WR(x C:aj)(h:aD):Prop:=∃ o,h.get? x=some o/\o.cls=.ref C
def WR.ty{x C:aj}{h:aD}(I:WR x C h)(M:Model):Looks M h (typeOf (.ref x)) (.ref C):=by
 let⟨o,e,c⟩:=I;rw[<-c];exact Looks.andThen (Looks.ld e) Looks.now
structure Wc(K:Frag)(C:aj):Prop where
 ga:findIn K (.ref C) "__getattribute__" = some (some (.builtin "BaseException.__getattribute__"))
 hk:findIn K (.ref C) "__getattr__" = some none
 mB:mroIn K C (.type "BaseException")=some true
 mO:mroIn K C (.type "object")=some true
 ca:findIn K (.ref C) "__class__" = some (some (.builtin "object.__class__"))
 hn:specialIn K (.builtin "object.__class__") "__get__" = some (some (.builtin "getset_descriptor.__get__"))
 tk:takesIn K (.builtin "object.__class__")=some true
section
variable{K:Frag}{x C:aj}
def ZJF{f:ai}{Q:Unit->al->Prop}(X:K.In s.heap)(I:WR x C s.heap)(a:mroIn K C (.type "BaseException")=some true)(b:Q () s):
  aB (aA prog w) A (checkBuiltinCall "BaseException.__getattribute__" ⟨[.ref x,f],[]⟩) Q E s:=by
 let⟨h,g,d,t,k⟩:=s;let c:builtinKind "BaseException.__getattribute__" = some .slot:=by decide +kernel
 let e:splitId "BaseException.__getattribute__" = some ("BaseException","__getattribute__"):=by decide +kernel
 let i:=I.ty (aA prog w);let j:=looks_mroIn (M:=aA prog w) X a;simp only[checkBuiltinCall,c,e];refine aa ?_;unfold isInstance
 repeat lk
 exact b
def ZJ5{b:Str}{i:Tok}{r:Builtin.ObjectAttr.Found}{Q:Fin->al->Prop}(X:K.In s.heap)(I:WR x C s.heap)(e:Looks (aA prog w) s.heap (Builtin.ObjectAttr.find (.ref x) (.ref C) b) r)(h:match r with
   | .value v=>Q (.done (.ret v)) s
   | .bind g a=>aB (aA prog w) A (call g [a,.ref x,.ref C]) (λv c=>Q (.done (.ret v)) c) E s
   | .missing=>False):aB (aA prog w) A (Builtin.«object.__getattribute__» ⟨[.ref x,.str b i],[]⟩) Q E s:=by
 let⟨j,g,d,t,k⟩:=s;let f:=I.ty (aA prog w);unfold Builtin.«object.__getattribute__»;refine aa (ad ?_);refine aa (ad ?_);refine aa (f.at ?_);refine aa (e.at ?_)
 cases r with
 | value v=>exact ad h
 | bind g a=>
  show aB _ _ (holding [a] (call g [a,.ref x,.ref C]) >>= ret) _ _ _;exact aa (af (ae h (λv c z=>ad z) λ_ _ z=>z))
 | missing=>exact h.elim
def Fe{c:Str}{r:Builtin.ObjectAttr.Found}{b f:Bool}{k:Tok}{Q:ja}(X:K.In s.heap)(I:WR x C s.heap)(e:Wc K C)(l:Looks (aA prog w) s.heap (Builtin.ObjectAttr.find (.ref x) (.ref C) c) r)(h:match r with
   | .value v=>handedIn v=true/\Q v s
   | .bind g a=>aB (aA prog w) A.in1 (call g [a,.ref x,.ref C]) (λv j=>handedIn v=true/\Q v j) (λ_ _=>False) s
   | .missing=>False):aB (aA prog w) A (getAttrBy (.ref x) (.str c k) f b) Q E s:=by
 let i:=F.excAttr_ValueError;let m:=I.ty (aA prog w);let n:=looks_findIn (M:=aA prog w) X e.ga;let o:=looks_findIn (M:=aA prog w) X e.hk;let p:(Value.builtin "BaseException.__getattribute__" == Value.builtin "object.__getattribute__")=false:=by decide +kernel
 let⟨q,g,d,t,u⟩:=s;unfold getAttrBy;refine af (aa (m.at (aa (n.at ?_))));show aB _ _ (if (true&&(Value.builtin "BaseException.__getattribute__" == Value.builtin "object.__getattribute__"))=true then _ else getAttrByItsOwn (.ref x) (.str c k) (.ref C) (.builtin "BaseException.__getattribute__") f b) _ _ _
 rw[p,aP (by decide)]
 unfold getAttrByItsOwn hookBefore;refine aa (o.at ?_);refine aa (wpAny_attempt (af ?_));unfold callGetattribute;rw[aP (by cases b <;> decide)]
 unfold boundAndCalled;rw[i.ga.bind (.ref x)];refine aa (ad ?_);refine wpAny_call (codeAny_call_builtin i.ga.plain F.entry_bexc_ga (ZJF X I e.mB (ZJ5 X I l ?_)))
 cases r with
 | value v=>exact handed_on h.1 h.2
 | bind g a=>exact ae h (λv j z=>handed_on z.1 z.2) λ_ _ z=>z.elim
 | missing=>exact h.elim
def Cm{R:Result->al->Prop}{b:ai}(X:K.In s.heap)(I:WR x C s.heap)(e:Wc K C)(h:R (.ok (.ret (.ref C))) s):
  aH (aA prog w) A (.call (.builtin "getset_descriptor.__get__") ⟨[.builtin "object.__class__",.ref x,b],[]⟩) R s:=by
 let⟨f,d,c,j,a⟩:=s;let g:=I.ty (aA prog w);let i:=looks_mroIn (M:=aA prog w) X e.mO;refine codeAny_call_builtin KF.slot_gs.plain KF.entry_gs ?_;refine KF.slot_gs.check _ _ _ _ _ _ _ _ KF.type_class (KF.args_gs _ _ _) ?_;unfold Builtin.«getset_descriptor.__get__»;unfold Builtin.Getset_descriptor.descrGet;rw[dga_obj];refine aa (ad ?_);unfold Builtin.Getset_descriptor.descrGetter;unfold Builtin.Getset_descriptor.descrCheckInstance;unfold Builtin.Getset_descriptor.descrNameAndClass;unfold isInstance;simp only[KF.owner_class]
 repeat lk
 exists Code.quiet_builtin _ (by decide +kernel)
 refine codeAny_builtin KF.entry_class ?_;unfold Builtin.«object.__class__»;unfold shownTypeOf
 repeat lk
 exact h
def C1(X:K.In s.heap)(e:Wc K C)(M:Model):Looks M s.heap (Builtin.ObjectAttr.find (.ref x) (.ref C) "__class__") (.bind (.builtin "getset_descriptor.__get__") (.builtin "object.__class__")):=by
 let a:=looks_findIn (M:=M) X e.ca;let b:=looks_specialIn (M:=M) X e.hn;let c:=looks_takesIn (M:=M) X e.tk;refine Looks.andThen a (Looks.andThen b ?_);exact Looks.andThen (show Looks M s.heap (Builtin.ObjectAttr.dataDescriptor? (some (.builtin "object.__class__")) (some (.builtin "getset_descriptor.__get__"))) (some (_,_)) from Looks.andThen c Looks.now) (Looks.tag Looks.now)
end
def Wc.cls{K:Frag}{C:aj}(e:Wc K C):∃ g d c k,K.lookup C=some ⟨g,d,.cls c,k⟩:=by
 let⟨c,h,_⟩:=rM.mp e.mB;unfold clsIn at h;split at h
 ·rename_i f i a b j
  exact⟨f,i,a,b,j⟩
 ·cases h
def ZLG{K:Frag}{x C:aj}(e:Wc K C):KitX K (.ref x) (.ref C) (WR x C) where
 ty:=λM _ _ I=>I.ty M
 it:=λ_ _ X _=>by
  let⟨i,d,g,m,b⟩:=e.cls;intro p t r v k q;unfold isType loadHead;let z:=k _ _ (X _ _ b);exact aa (wpAny_loadPart z (ad q))
 ne:=λh f u l n m X a=>by
  let⟨i,d,g,o,b⟩:=e.cls
  cases q:(Value.ref C==Value.ref f) with
  | false=>rfl
  | true=>
   let j:C=f:=Value.ref.inj (eq_of_beq q);rw[<-j,X _ _ b] at a;cases a
 ca:=fun{c w A E Q s} X I k=>by
  unfold getAttr? getAttrBy?;refine aa (wpAny_mkText (aa (wpAny_attempt ?_)));refine Fe (s:={ s with toks:=s.toks+1 }) X I e (C1 (s:={ s with toks:=s.toks+1 }) X e _) ?_;exact wpAny_call (Cm (s:={ s with toks:=s.toks+1 }) X I e ⟨Z,ad k⟩)
end L2
namespace L2
open PySem PySem.Spec PyProof.Rows
def Cx.held(X:Cx)(a:aj)(E:ja):Cx:={ X with A:=X.A.mark (some (.ref a)),calm:=false,xe:=E }
section
variable{jW:js}{σ:St}{H H':Hp}{s':al}{ea:aj}
def ZI.held(I:ZI X jW σ H s)(ea:aj)(E:ja):ZI (X.held ea E) jW σ H s:=
 ⟨⟨I.ok.mod,I.ok.kind,I.ok.glob,I.ok.blt,I.ok.above,I.ok.inj,I.ok.has,I.ok.cab,λz=>absurd z zS,I.ok.frames,I.ok.stk,I.ok.exf,I.ok.bs,I.ok.bsz,I.ok.noex,I.ok.exfs,I.ok.funs,I.ok.frf⟩,
  I.os,I.bare,I.base,I.loc,I.cell,I.free,I.freeC,I.pin,I.hok,I.len⟩
def ZI.unheld(a:X.Ok)(I:ZI (X.held ea E) jW σ H s):ZI X jW σ H s:=⟨a,I.os,I.bare,I.base,I.loc,I.cell,I.free,I.freeC,I.pin,I.hok,I.len⟩
def ZI.track{a:aj}{o:HO}(I:ZI X jW σ H s)(l:X.s₀.heap.get? a=none)(t:a≠X.env.locals)(m:∀ x c,X.env.cells.lookup x=some c->c≠a)(y:∀ p∈X.pn++jW,p.1≠a)(v:H a=none)(h:Zk X.prog X.w (upd H a o) s.heap a o):ZI X jW σ (upd H a o) s:=by
 let g:∀{b:aj}{u:HO},H b=some u->b≠a:=fun{b u} e z=>by rw[z,v] at e;cases e
 refine⟨I.ok,I.os,I.bare,⟨I.base.keep,I.base.slot,λb i q n A=>?_,I.base.there,λb k q=>?_,λb i u q=>?_,λb B q=>?_⟩,I.loc,I.cell,?_,λx c e=>?_,λp d=>?_,λb u e=>?_,I.len⟩
 ·rw[ZU (λz=>by rw[z,l] at q;cases q)]
  exact I.base.free b i q n A
 ·let e:=I.base.tups b k q;rw[ZU (g e)];exact e
 ·let e:=I.base.frzs b i u q;rw[ZU (g e)];exact e
 ·let⟨f,e⟩:=I.base.tbls b B q;exact⟨f,by rw[ZU (g e)];exact e⟩
 ·rw[ZU (Ne.symm t)];exact I.free
 ·rw[ZU (m x c e)];exact I.freeC x c e
 ·let⟨e,n,r⟩:=I.pin p d;exact⟨e,by rw[ZU (y p d)];exact n,r⟩
 ·by_cases j:b=a
  ·subst j;rw[ZO] at e;cases e;exact h
  ·rw[ZU j] at e;exact(I.hok b u e).stay (λ_ _ _ q=>q) (λc q=>by rw[ZU (g q)];exact q) λc k q=>by rw[ZU (g q)];exact q
def ZI.goes{i:Nat}{n:Str}{M:Model}{A:ax}{Q:Unit->al->Prop}{D:aK}(I:ZI X jW σ H s)(O:X.N.Nodup)(F:X.N[i]? = some n)(f:X.env.scope.names.lookup n=some .local)(h:∀ s',ZI X jW (σ.set i none) H s'->Q () s'):aB M A (do bindName X.env n .none;unbindBehindTheSuite X.env n D) Q E s:=by
 let⟨m,G,P⟩:=id I.loc;let r:(X.env.scope.kind==.class || (X.env.scope.kind==.module&&X.env.locals != X.env.globals))=false:=by rw[I.ok.kind];rfl
 let t:i<σ.length:=by rw[I.len];exact(yH.mp F).1
 refine wpAny_nameGoes_keeps f G r λh' v C a=>h _ ?_;let⟨oL,_,_,R,_⟩:=id G;let g:∀ b o,X.s₀.heap.get? b=some o->b≠X.env.locals:=λb o e=>zM (yN (zW e) I.ok.above);refine⟨I.ok,I.os,I.bare,⟨λb o e n x f=>?_,λb o e n x f=>?_,I.base.free,λb o e f=>?_,I.base.tups,I.base.frzs,I.base.tbls⟩,⟨_,C,λj y v' l u L=>?_⟩,λy c e=>?_,I.free,I.freeC,λp S=>?_,λb V e=>?_,by simpa using I.len⟩
 ·exact(a.2 b (g b o e)).trans (I.base.keep b o e n x f)
 ·let⟨Y,l⟩:=I.base.slot b o e n x f;exact⟨Y,(a.2 b (g b o e)).trans l⟩
 ·let⟨U,l⟩:=I.base.there b o e f;exact⟨U,(a.2 b (g b o e)).trans l⟩
 ·by_cases B:j=i
  ·subst B;rw[sP t] at u;cases u
  ·rw[sY (Ne.symm B)] at u;let⟨u',W,q⟩:=P j y v' l u L;exists u',W;rcases q with ⟨k,e⟩ | ⟨k,c,e,z⟩
   ·refine .inl ⟨k,?_⟩;have:y≠n:=λe=>B (Kp O l (e ▸ F));simp[this,e]
   ·exact .inr ⟨k,c,e,z.sameBut a (I.cne y c e)⟩
 ·let⟨K,z⟩:=I.cell y c e;exact⟨K,z.sameBut a (I.cne y c e)⟩
 ·let⟨e,n,J,T,d⟩:=I.pin p S;exact⟨(a.2 p.1 J).trans e,n,J,T,d⟩
 ·refine(I.hok b V e).stay (λc K w q=>(a.2 c ?_).trans q) (λ_ q=>q) λ_ _ q=>q;rintro rfl;rcases w with rfl | w
  ·rw[I.free] at e;cases e
  ·rw[I.free] at w;cases w
end
section
variable{x C CB:aj}
def Kh{b:Bool}{Q:Bool->al->Prop}(X:K.In s.heap)(I:WR x C s.heap)(o:yM K (.ref CB)=some (.type "type"))(c:zE K CB (.type "BaseException")=some true)(l:zE K C (.ref CB)=some b)(h:Q b s):aB (aA prog w) A (excMatches (.ref x) (.ref CB)) Q E s:=by
 let⟨m,g,d,t,H⟩:=s;let v:=I.ty (aA prog w);let y:=uD (M:=aA prog w) X c;let z:=uD (M:=aA prog w) X l;let e:=rQ (M:=aA prog w) X o;let f:=tc_notTuple;let B:yG (aA prog w) m (isType (.ref CB)) true:=by
  let⟨j,a,_⟩:=rM.mp c;unfold PySem.W.clsIn at a;split at a
  ·rename_i F G i p n
   intro r D u J k q;unfold isType loadHead;exact aa (wpAny_loadPart (k _ _ (X _ _ n)) (ad q))
  ·cases a
 unfold excMatches isInstance isExcClass;refine aa (aa (e.at ?_));rw[f];refine ad ?_;rw[aP zS];refine aa (ad ?_);simp only[List.forIn_cons,List.forIn_nil]
 cases b with
 | true=>
  repeat (first | lk | wp_step)
  all_goals first | exact h | trace_state
 | false=>
  repeat (first | lk | wp_step)
  all_goals first | exact h | trace_state
end
end L2
namespace Tw
open PySem
inductive KT where
 | int (i:Int)
 | str (x:Str)
 | tup (l:List KT)
abbrev jp:=List KT
abbrev jP:=Option KT
mutual
def KT.depth:KT->Nat
 | .int _=>0
 | .str _=>0
 | .tup l=>1+jU l
def jU:jp->Nat
 | []=>0
 | t::r=>max t.depth (jU r)
end
mutual
def KT.size:KT->Nat
 | .int _=>1
 | .str _=>1
 | .tup l=>1+sizeL l
def sizeL:jp->Nat
 | []=>0
 | t::r=>t.size+sizeL r
end
def QH(c:Nat):Bool:=decide (32<=c)&&decide (c<=126)
def Ot(x:Str):Bool:=decide (x.length<=40)&&x.cps.toList.all QH
mutual
def KT.fits:KT->Nat->Bool
 | .int i,_=>decide (i.natAbs<10 ^ 60)
 | .str x,_=>Ot x
 | .tup l,r=>decide (0<r)&&(decide (l.length<=4)&&fitsL l (r-1))
def fitsL:jp->Nat->Bool
 | [],_=>true
 | t::l,r=>t.fits r&&fitsL l r
end
def Nh(r:Nat):∀ l:jp,fitsL l r=l.all λt=>t.fits r
 | []=>by simp[fitsL]
 | t::l=>by rw[fitsL,uZ,Nh r l]
mutual
def P7:∀(t:KT)(r:Nat),t.fits r=true->t.depth<=r
 | .int _,r,_=>by rw[KT.depth];exact yT _
 | .str _,r,_=>by rw[KT.depth];exact yT _
 | .tup l,r,h=>by
  rw[KT.fits,zR,zR] at h;let⟨h1,_,h3⟩:=h;let h1':0<r:=of_decide_eq_true h1;have:=fitsL_depth l (r-1) h3;rw[KT.depth]
  lia
def fitsL_depth:∀(l:jp)(r:Nat),fitsL l r=true->jU l<=r
 | [],r,_=>by rw[jU];exact yT _
 | t::l,r,h=>by
  rw[fitsL,zR] at h;let a:=P7 t r h.1;let b:=fitsL_depth l r h.2;rw[jU]
  lia
end
mutual
def K3:∀(t:KT)(r q:Nat),t.fits r=true->t.depth<=q->t.fits q=true
 | .int _,r,q,h,_=>by rw[KT.fits] at h⊢;exact h
 | .str _,r,q,h,_=>by rw[KT.fits] at h⊢;exact h
 | .tup l,r,q,h,hd=>by
  rw[KT.fits,zR,zR] at h⊢;let⟨h1,h2,h3⟩:=h;rw[KT.depth] at hd;exact⟨aO ∅,h2,fitsL_more l (r-1) (q-1) h3 ∅⟩
def fitsL_more:∀(l:jp)(r q:Nat),fitsL l r=true->jU l<=q->fitsL l q=true
 | [],r,q,_,_=>by rw[fitsL]
 | t::l,r,q,h,hd=>by
  rw[fitsL,zR] at h⊢;rw[jU] at hd;exact⟨K3 t r q h.1 ∅,fitsL_more l r q h.2 ∅⟩
end
def KT.things:KT->jp
 | .tup l=>l
 | _=>[]
def below(l:jp):jp:=l.flatMap KT.things
mutual
def KT.eqb:KT->KT->Bool
 | .int i,.int j=>i==j
 | .str x,.str y=>x==y
 | .tup l,.tup m=>jT l m
 | _,_=>false
def jT:jp->jp->Bool
 | [],[]=>true
 | a::l,b::m=>a.eqb b&&jT l m
 | _,_=>false
end
mutual
def KT.plt:KT->KT->Bool
 | .int i,.int j=>decide (i<j)
 | .str x,.str y=>decide (x.cps.toList<y.cps.toList)
 | .tup l,.tup m=>pltL l m
 | _,_=>false
def pltL:jp->jp->Bool
 | [],[]=>false
 | [],_::_=>true
 | _::_,[]=>false
 | a::l,b::m=>if a.eqb b=true then pltL l m else a.plt b
end
mutual
def KT.cmp:KT->KT->Bool
 | .int _,.int _=>true
 | .str _,.str _=>true
 | .tup l,.tup m=>cmpL l m
 | _,_=>false
def cmpL:jp->jp->Bool
 | [],_=>true
 | _::_,[]=>true
 | a::l,b::m=>if a.eqb b=true then cmpL l m else a.cmp b
end
def KT.kind:KT->Nat
 | .int _=>0
 | .str _=>1
 | .tup _=>2
mutual
def KT.lt:KT->KT->Bool
 | .int i,.int j=>decide (i<j)
 | .int _,.str _=>true
 | .int _,.tup _=>true
 | .str _,.int _=>false
 | .str x,.str y=>decide (x.cps.toList<y.cps.toList)
 | .str _,.tup _=>true
 | .tup _,.int _=>false
 | .tup _,.str _=>false
 | .tup l,.tup m=>ltL l m
def ltL:jp->jp->Bool
 | [],[]=>false
 | [],_::_=>true
 | _::_,[]=>false
 | a::l,b::m=>if a.eqb b=true then ltL l m else a.lt b
end
mutual
def KT.st:KT->KT
 | .int i=>.tup [.int 0,.int i]
 | .str x=>.tup [.int 1,.str x]
 | .tup l=>.tup [.int 2,.tup (stL l)]
def stL:jp->jp
 | []=>[]
 | t::l=>t.st::stL l
end
def Hr:∀ l:jp,stL l=l.map KT.st
 | []=>by rw[stL];rfl
 | t::l=>by rw[stL,Hr l];rfl
mutual
def Ln:∀(a b:KT),a.eqb b=true->a=b
 | .int i,.int j,h=>by rw[KT.eqb] at h;rw[eq_of_beq h]
 | .str x,.str y,h=>by rw[KT.eqb] at h;rw[eq_of_beq h]
 | .tup l,.tup m,h=>by rw[KT.eqb] at h;rw[eqbL_eq l m h]
 | .int _,.str _,h=>by simp[KT.eqb] at h
 | .int _,.tup _,h=>by simp[KT.eqb] at h
 | .str _,.int _,h=>by simp[KT.eqb] at h
 | .str _,.tup _,h=>by simp[KT.eqb] at h
 | .tup _,.int _,h=>by simp[KT.eqb] at h
 | .tup _,.str _,h=>by simp[KT.eqb] at h
def eqbL_eq:∀(l m:jp),jT l m=true->l=m
 | [],[],_=>rfl
 | a::l,b::m,h=>by
  rw[jT,zR] at h;rw[Ln a b h.1,eqbL_eq l m h.2]
 | [],_::_,h=>by simp[jT] at h
 | _::_,[],h=>by simp[jT] at h
end
mutual
def MO:∀ a:KT,a.eqb a=true
 | .int i=>by rw[KT.eqb];exact beq_self_eq_true i
 | .str x=>by rw[KT.eqb];exact beq_self_eq_true x
 | .tup l=>by rw[KT.eqb];exact eqbL_self l
def eqbL_self:∀ l:jp,jT l l=true
 | []=>by rw[jT]
 | a::l=>by rw[jT,MO a,eqbL_self l];rfl
end
def XM{a b:KT}:a.eqb b=true ↔ a=b:=⟨Ln a b,λe=>by rw[e];exact MO b⟩
mutual
def F2:∀ a b:KT,a.st.eqb b.st=a.eqb b
 | .int i,.int j=>by simp[KT.st,KT.eqb,jT]
 | .str x,.str y=>by simp[KT.st,KT.eqb,jT]
 | .tup l,.tup m=>by simp[KT.st,KT.eqb,jT,eqbL_st l m]
 | .int _,.str _=>by simp[KT.st,KT.eqb,jT]
 | .int _,.tup _=>by simp[KT.st,KT.eqb,jT]
 | .str _,.int _=>by simp[KT.st,KT.eqb,jT]
 | .str _,.tup _=>by simp[KT.st,KT.eqb,jT]
 | .tup _,.int _=>by simp[KT.st,KT.eqb,jT]
 | .tup _,.str _=>by simp[KT.st,KT.eqb,jT]
def eqbL_st:∀ l m:jp,jT (stL l) (stL m)=jT l m
 | [],[]=>by simp[stL,jT]
 | a::l,b::m=>by simp[stL,jT,F2 a b,eqbL_st l m]
 | [],_::_=>by simp[stL,jT]
 | _::_,[]=>by simp[stL,jT]
end
def Fb:∀ l:jp,ltL l l=false
 | []=>by rw[ltL]
 | a::l=>by rw[ltL,MO a,aQ rfl,Fb l]
def FN{l m:jp}(h:jT l m=true):ltL l m=false:=by
 rw[eqbL_eq l m h];exact Fb m
mutual
def Hy:∀ a b:KT,a.st.cmp b.st=true
 | .int i,.int j=>by simp[KT.st,KT.eqb,KT.cmp,cmpL]
 | .str x,.str y=>by simp[KT.st,KT.eqb,KT.cmp,cmpL]
 | .tup l,.tup m=>by simp[KT.st,KT.eqb,KT.cmp,cmpL,cmpL_st l m]
 | .int _,.str _=>by simp[KT.st,KT.eqb,KT.cmp,cmpL]
 | .int _,.tup _=>by simp[KT.st,KT.eqb,KT.cmp,cmpL]
 | .str _,.int _=>by simp[KT.st,KT.eqb,KT.cmp,cmpL]
 | .str _,.tup _=>by simp[KT.st,KT.eqb,KT.cmp,cmpL]
 | .tup _,.int _=>by simp[KT.st,KT.eqb,KT.cmp,cmpL]
 | .tup _,.str _=>by simp[KT.st,KT.eqb,KT.cmp,cmpL]
def cmpL_st:∀ l m:jp,cmpL (stL l) (stL m)=true
 | [],_=>by simp[stL,cmpL]
 | _::_,[]=>by simp[stL,cmpL]
 | a::l,b::m=>by
  rw[stL,stL,cmpL,cmpL_st l m,Hy a b];split <;> rfl
end
mutual
def Iq:∀ a b:KT,a.st.plt b.st=a.lt b
 | .int i,.int j=>by
  simp only[KT.st,KT.eqb,KT.plt,pltL,KT.lt,beq_self_eq_true,if_true];by_cases h:i=j
  ·subst h;simp
  ·simp[h]
 | .str x,.str y=>by
  simp only[KT.st,KT.eqb,KT.plt,pltL,KT.lt,beq_self_eq_true,if_true];by_cases h:x=y
  ·subst h;simp
  ·simp[h]
 | .tup l,.tup m=>by
  simp only[KT.st,KT.eqb,KT.plt,pltL,KT.lt,beq_self_eq_true,if_true,eqbL_st,pltL_st l m]
  cases h:jT l m with
  | true=>rw[aQ rfl,FN h]
  | false=>rw[aP zS]
 | .int _,.str _=>by simp[KT.st,KT.eqb,KT.plt,pltL,KT.lt]
 | .int _,.tup _=>by simp[KT.st,KT.eqb,KT.plt,pltL,KT.lt]
 | .str _,.int _=>by simp[KT.st,KT.eqb,KT.plt,pltL,KT.lt]
 | .str _,.tup _=>by simp[KT.st,KT.eqb,KT.plt,pltL,KT.lt]
 | .tup _,.int _=>by simp[KT.st,KT.eqb,KT.plt,pltL,KT.lt]
 | .tup _,.str _=>by simp[KT.st,KT.eqb,KT.plt,pltL,KT.lt]
def pltL_st:∀ l m:jp,pltL (stL l) (stL m)=ltL l m
 | [],[]=>by simp[stL,pltL,ltL]
 | [],_::_=>by simp[stL,pltL,ltL]
 | _::_,[]=>by simp[stL,pltL,ltL]
 | a::l,b::m=>by rw[stL,stL,pltL,ltL,F2 a b,pltL_st l m,Iq a b]
end
mutual
def Gf:∀ t:KT,t.st.depth<=2 * t.depth+1
 | .int i=>by simp[KT.st,KT.depth,jU]
 | .str x=>by simp[KT.st,KT.depth,jU]
 | .tup l=>by
  have:=depthL_st l;simp only[KT.st,KT.depth,jU]
  lia
def depthL_st:∀ l:jp,jU (stL l)<=2 * jU l+1
 | []=>by simp[stL,jU]
 | t::l=>by
  let a:=Gf t;let b:=depthL_st l;rw[stL,jU,jU]
  lia
end
def Ij{l:jp}(a:l.length<=4)(b:fitsL l 2=true):(KT.tup l).fits 3=true:=by
 rw[KT.fits,zR,zR];exact⟨Z,aO a,b⟩
def ZNX{x:Str}(a:x.cps.size<=40)(b:x.cps.toList.all QH=true):Ot x=true:=by
 unfold Ot;rw[zR];exact⟨aO a,b⟩
inductive TG where
 | int (i:Int)
 | str (x:Str)
 | tup (l:List TG)
 | odd (n:String)
mutual
def TG.fits:TG->Nat->Bool
 | .int i,_=>decide (i.natAbs<10 ^ 60)
 | .str x,_=>Ot x
 | .tup l,r=>decide (0<r)&&(decide (l.length<=4)&&gfitsL l (r-1))
 | .odd _,_=>false
def gfitsL:List TG->Nat->Bool
 | [],_=>true
 | t::l,r=>t.fits r&&gfitsL l r
end
end Tw
namespace Tw
open PySem PySem.Spec L2
structure ZC(P:am)(w:aw)(K:zZ)(mg:jb)(jX:aD)(k:Nat)(x:Str)(ps:jq)(sp:Sp):Prop where
 ex:∃ f fd,ZH P w K mg jX Zd k f fd ps sp/\YB K fd ps []/\yX K (.ref f)=true/\mg x=some (.ref f)
def Zr{X:Cx}{k:Nat}{x:Str}{q:jq}{h:Sp}{e:Expr}{a:jx}{t:TA}{p c:aK}(D:ZC X.prog X.w X.K X.mg X.base k x q h)(n:Zc k X.A)(i:PA X (e::a) t)(l:Gl X x:=by rfl)(d:(x==("__debug__" : Str))=false:=by decide)(j:ar (e::a) X.env=(false,aI e X.env)::ar a X.env:=by rfl)(g:(aG c (ar a X.env)).any (·.1)=false:=by rfl):
  PE X (.Call (.Name x p) (e::a) [] c) (OI h [] E0 t):=by
 let⟨f,r,F,b,o,m⟩:=D.ex;exact Ge F n l m o b .nil XJ i d j g
mutual
def ZG(H:Hp):KT->V->Prop
 | .int i,v=>v=.int i
 | .str x,v=>v=.str x
 | .tup l,v=>∃ a vs,v=.ref a/\H a=some (.tup vs)/\jR H l vs
def jR(H:Hp):jp->je->Prop
 | [],vs=>vs=[]
 | t::l,vs=>∃ v r,vs=v::r/\ZG H t v/\jR H l r
end
def Yb(H c:Hp):Prop:=∀ b a,H b=some (.tup a)->c b=some (.tup a)
mutual
def ZG.mono{H H':Hp}(m:Yb H H'):∀(t:KT)(v:V),ZG H t v->ZG H' t v
 | .int _,_,h=>by rw[ZG] at h⊢;exact h
 | .str _,_,h=>by rw[ZG] at h⊢;exact h
 | .tup l,_,h=>by
  rw[ZG] at h⊢;let⟨a,vs,e,h1,h2⟩:=h;exact⟨a,vs,e,m a vs h1,jR.mono m l vs h2⟩
def jR.mono{H H':Hp}(m:Yb H H'):∀(l:jp)(vs:je),jR H l vs->jR H' l vs
 | [],_,h=>by rw[jR] at h⊢;exact h
 | t::l,_,h=>by
  rw[jR] at h⊢;let⟨v,r,e,h1,h2⟩:=h;exact⟨v,r,e,ZG.mono m t v h1,jR.mono m l r h2⟩
end
def jR.nil{H:Hp}:jR H [] []:=by rw[jR]
def jR.cons{H:Hp}{t:KT}{l:jp}{v:V}{r:je}(h:ZG H t v)(a:jR H l r):jR H (t::l) (v::r):=by
 rw[jR];exact⟨v,r,Z,h,a⟩
def ZG.tup{H:Hp}{a:aj}{b:je}{l:jp}(e:H a=some (.tup b))(h:jR H l b):ZG H (.tup l) (.ref a):=by
 rw[ZG];exact⟨a,b,Z,e,h⟩
def ZG.int{H:Hp}(i:Int):ZG H (.int i) (.int i):=by rw[ZG]
def ZG.str{H:Hp}(x:Str):ZG H (.str x) (.str x):=by rw[ZG]
def jR.append{H:Hp}:∀{l m:jp}{a b:je},jR H l a->jR H m b->jR H (l++m) (a++b)
 | [],m,a,b,h,g=>by rw[jR] at h;subst h;exact g
 | t::l,m,a,b,h,g=>by
  rw[jR] at h;let⟨v,r,rfl,c,d⟩:=h;exact .cons c (d.append g)
def jR.length{H:Hp}:∀{l:jp}{a:je},jR H l a->l.length=a.length
 | [],a,h=>by rw[jR] at h;subst h;rfl
 | t::l,a,h=>by
  rw[jR] at h;let⟨v,r,rfl,_,b⟩:=h;rw[yJ,yJ,b.length]
def jR.get{H:Hp}:∀{l:jp}{a:je}{i:Nat}{v:V},jR H l a->a[i]? = some v->∃ t,l[i]? = some t/\ZG H t v
 | [],a,i,v,h,e=>by rw[jR] at h;subst h;simp at e
 | t::l,a,0,v,h,e=>by
  rw[jR] at h;let⟨j,r,rfl,d,_⟩:=h;simp at e;subst e;exact⟨t,Z,d⟩
 | t::l,a,i+1,v,h,e=>by
  rw[jR] at h;let⟨j,r,rfl,_,f⟩:=h;let⟨g,b,c⟩:=f.get (i:=i) (by simpa using e)
  exact⟨g,by simpa using b,c⟩
def KT.ty:KT->ai
 | .int _=>.type "int"
 | .str _=>.type "str"
 | .tup _=>.type "tuple"
def ZG.ty{H:Hp}{K:zZ}{t:KT}{v:V}(h:ZG H t v):XV K H v t.ty:=by
 cases t with
 | int i=>rw[ZG] at h;subst h;exact .int i
 | str x=>rw[ZG] at h;subst h;exact .str x
 | tup l=>rw[ZG] at h;let⟨a,b,rfl,e,_⟩:=h;exact .tup e
def ZF(p:aj)(H a:Hp):Prop:=∀ b o,H b=some o->b≠p->a b=some o
def ZF.refl(p:aj)(H:Hp):ZF p H H:=λ_ _ h _=>h
def ZF.trans{p:aj}{H d e:Hp}(a:ZF p H d)(b:ZF p d e):ZF p H e:=λc o h n=>b c o (a c o h n) n
def ZF.upd{p:aj}{H b:Hp}{o:HO}(a:ZF p H b):ZF p H (L2.upd b p o):=λc u h n=>by rw[ZU n];exact a c u h n
def ZF.of{p:aj}{H b:Hp}(a:ZD H b):ZF p H b:=λc o h _=>a c o h
def ZF.tups{p:aj}{H c:Hp}{d:je}(a:ZF p H c)(h:H p=some (.lst d)):Yb H c:=λb f e=>a b _ e (ZE e h)
def ZD.tups{H c:Hp}(a:ZD H c):Yb H c:=λb d e=>a b _ e
def ZG.sm{H a:Hp}{t:KT}{v:V}(h:ZG H t v)(s:ZD H a):ZG a t v:=h.mono (ZD.tups s) _ _
def jR.sm{H a:Hp}{t:jp}{v:je}(h:jR H t v)(s:ZD H a):jR a t v:=h.mono (ZD.tups s) _ _
def ZX{H:Hp}{p:aj}(h:H p=none)(o:HO):ZD H (L2.upd H p o):=λb u q=>by rw[ZU (Za q h)];exact q
structure ZN(H:Hp)(p:aj):Prop where
 ex:∃ a b c d:Int,H p=some (.lst [.int a,.int b,.int c,.int d])/\0<=a/\a<2147483647/\0<=c/\0<=d
def ZN.same{H f:Hp}{p:aj}(w:ZN H p)(s:ZD H f):ZN f p:=by
 let⟨a,b,c,d,e,r⟩:=w.ex;exact⟨a,b,c,d,s p _ e,r⟩
def ZN.some{H:Hp}{p:aj}(w:ZN H p):∃ f,H p=zG (.lst f):=by
 let⟨a,b,c,d,e,r⟩:=w.ex;exact⟨_,e⟩
def ZF.tupsW{p:aj}{H b:Hp}(a:ZF p H b)(w:ZN H p):Yb H b:=by
 let⟨c,e⟩:=w.some;exact a.tups e
def HC(m:Int):Prop:=0<m/\m.natAbs.log2<9000
inductive UH(K:zZ)(d:je)(H:Hp)(Q:VK)(_:XK):Prop
 |mk(a:aj)(c:jw)(k:Int)(_:d=[.ref a,.int k])(_:ZM K H a (c.map V.int))(_:c.length<=63)(_:0<=k)(_:k<=1000)(_:∀(p:aj)(b:Hp),H p=none->ZD H b->ZN b p->Q (.ref p) b)
inductive YK(b:je)(H:Hp)(Q:VK)(_:XK):Prop
 |mk(p:aj)(m:Int)(_:b=[.ref p,.int m])(_:ZN H p)(_:HC m)(_:∀(r:Int)(a:Hp),0<=r->r<m->ZN a p->ZF p H a->Q (.int r) a)
inductive Y4(n:Nat)(b:je)(H:Hp)(Q:VK)(_:XK):Prop
 |mk(v:V)(t:KT)(r q:Nat)(_:b=[v,.int (r:Int)])(_:ZG H t v)(_:t.fits q=true)(_:r<n)(_:∀ a,ZD H a->Q (.bl (t.fits r)) a)
inductive Vi(a:je)(H:Hp)(Q:VK)(_:XK):Prop
 |mk(i:Int)(_:a=[.int i])(_:Q (.bl (decide (i.natAbs<10 ^ 60))) H)
inductive WW(a:je)(H:Hp)(Q:VK)(_:XK):Prop
 |mk(c:Nat)(_:a=[.str ⟨#[c]⟩])(_:Q (.bl (QH c)) H)
def nn{n:Nat}(h:n<=1000):n<=sizeLine:=xX (Ye h)
def Zu{n:Nat}(h:Nat.ble n 1000=true:=by rfl):n<=sizeLine:=nn (zA h)
def Jl{x y:V}{i:Int}(a:0<=i)(b:i<2):∃ v,X8 [x,y] i=some v/\(v=x\/v=y):=by
 rcases(show i=0\/i=1 by lia) with e | e
 ·subst e;exact⟨x,Z,.inl Z⟩
 ·subst e;exact⟨y,Z,.inr Z⟩
def LP{b:Type}{xs:List b}{i:Int}(c:0<=i)(d:i<(xs.length:Int)):∃ v,X8 xs i=some v/\v∈xs:=by
 let a:i.toNat<xs.length:=∅
 let e:i=((i.toNat:Nat):Int):=∅
 rw[e];exact⟨xs[i.toNat],X1 (zU a),xD a⟩
def Wh{m:Int}(a:0<m)(b:m.natAbs<2 ^ 250):HC m:=by
 exists a;have:m.natAbs.log2<250:=(Nat.log2_lt ∅).mpr b
 lia
def BK{i j:Int}(h:V.int i=V.int j):i=j:=by injection h
def ZLp(c:Nat):((!decide ([c]<[32])) && !decide ([126]<[c]))=QH c:=by
 unfold QH;let a:([c]<[32]) ↔ c<32:=by simp[vG]
 let b:([126]<[c]) ↔ 126<c:=by simp[vG]
 rw[xG];simp only[zR,sB,decide_eq_false_iff_not,decide_eq_true_eq,a,b]
 lia
def ZOn(i:Int):decide ((if i<0 then -i else i)<10 ^ (60:Int).toNat)=decide (i.natAbs<10 ^ 60):=by
 let e:((10:Int) ^ (60:Int).toNat)=((10 ^ 60:Nat):Int):=by decide +kernel
 rw[e];generalize (10 ^ 60:Nat)=N;apply decide_eq_decide.mpr;split <;> lia
end Tw
namespace Tw
open PySem
def Gw:∀(l m:jo),l<m->¬ m<l
 | [],[],h,_=>absurd h (vL _)
 | [],_::_,_,h=>absurd h (vL _)
 | _::_,[],h,_=>absurd h (vL _)
 | a::l,b::m,h,c=>by
  rw[vG] at h c;rcases h with h | ⟨rfl,h⟩
  ·rcases c with c | ⟨rfl,c⟩
   ·lia
   ·lia
  ·rcases c with c | ⟨_,c⟩
   ·lia
   ·exact Gw l m h c
def FO:∀(l m:jo),¬ l<m->¬ m<l->l=m
 | [],[],_,_=>rfl
 | [],_::_,h,_=>absurd (sE _ _) h
 | _::_,[],_,h=>absurd (sE _ _) h
 | a::l,b::m,h,h'=>by
  rw[vG] at h h';let e:a=b:=by
   rcases Nat.lt_trichotomy a b with c | c | c
   ·exact absurd (.inl c) h
   ·exact c
   ·exact absurd (.inl c) h'
  subst e;rw[FO l m (λz=>h (.inr ⟨rfl,z⟩)) λz=>h' (.inr ⟨rfl,z⟩)]
def F8:∀(l m k:jo),l<m->m<k->l<k
 | _,_,[],_,h=>absurd h (vL _)
 | [],_,_::_,_,_=>sE _ _
 | _::_,[],_,h,_=>absurd h (vL _)
 | a::l,b::m,c::k,h,d=>by
  rw[vG] at h d⊢;rcases h with h | ⟨rfl,h⟩
  ·rcases d with d | ⟨rfl,d⟩
   ·exact .inl (Nat.lt_trans h d)
   ·exact .inl h
  ·rcases d with d | ⟨rfl,d⟩
   ·exact .inl d
   ·exact .inr ⟨Z,F8 l m k h d⟩
def eqb_comm'(a b:KT):a.eqb b=b.eqb a:=by
 rw[xG,XM,XM];exact eq_comm
mutual
def Nk:∀(a b:KT),a.lt b=true->b.lt a=false
 | .int i,.int j,h=>by rw[KT.lt] at h⊢;have:=of_decide_eq_true h;exact aM ∅
 | .int _,.str _,_=>by rw[KT.lt]
 | .int _,.tup _,_=>by rw[KT.lt]
 | .str _,.int _,h=>by rw[KT.lt] at h;cases h
 | .str x,.str y,h=>by rw[KT.lt] at h⊢;exact aM (Gw _ _ (of_decide_eq_true h))
 | .str _,.tup _,_=>by rw[KT.lt]
 | .tup _,.int _,h=>by rw[KT.lt] at h;cases h
 | .tup _,.str _,h=>by rw[KT.lt] at h;cases h
 | .tup l,.tup m,h=>by rw[KT.lt] at h⊢;exact ltL_asym l m h
def ltL_asym:∀(l m:jp),ltL l m=true->ltL m l=false
 | [],[],h=>by rw[ltL] at h;cases h
 | [],_::_,_=>by rw[ltL]
 | _::_,[],h=>by rw[ltL] at h;cases h
 | a::l,b::m,h=>by
  rw[ltL] at h⊢;rw[eqb_comm' b a]
  cases e:a.eqb b with
  | true=>rw[e,aQ rfl] at h;rw[aQ rfl];exact ltL_asym l m h
  | false=>rw[e,aP zS] at h;rw[aP zS];exact Nk a b h
end
mutual
def HP:∀(a b:KT),a.lt b=false->b.lt a=false->a=b
 | .int i,.int j,h,h'=>by rw[KT.lt] at h h';have:=of_decide_eq_false h;have:=of_decide_eq_false h';rw[show i=j by lia]
 | .int _,.str _,h,_=>by rw[KT.lt] at h;cases h
 | .int _,.tup _,h,_=>by rw[KT.lt] at h;cases h
 | .str _,.int _,_,h=>by rw[KT.lt] at h;cases h
 | .str x,.str y,h,h'=>by
  rw[KT.lt] at h h';let e:=FO _ _ (of_decide_eq_false h) (of_decide_eq_false h');let⟨⟨x⟩⟩:=x;let⟨⟨y⟩⟩:=y;dsimp only at e;rw[e]
 | .str _,.tup _,h,_=>by rw[KT.lt] at h;cases h
 | .tup _,.int _,_,h=>by rw[KT.lt] at h;cases h
 | .tup _,.str _,_,h=>by rw[KT.lt] at h;cases h
 | .tup l,.tup m,h,h'=>by rw[KT.lt] at h h';rw[ltL_total l m h h']
def ltL_total:∀(l m:jp),ltL l m=false->ltL m l=false->l=m
 | [],[],_,_=>rfl
 | [],_::_,h,_=>by rw[ltL] at h;cases h
 | _::_,[],_,h=>by rw[ltL] at h;cases h
 | a::l,b::m,h,h'=>by
  rw[ltL] at h h';rw[eqb_comm' b a] at h'
  cases e:a.eqb b with
  | true=>rw[e,aQ rfl] at h h';rw[XM.mp e,ltL_total l m h h']
  | false=>
   rw[e,aP zS] at h h';have:=HP a b h h';rw[this,MO] at e;cases e
end
def Ml(a:KT):a.lt a=false:=by
 cases h:a.lt a with
 | false=>rfl
 | true=>have:=Nk a a h;rw[h] at this;cases this
mutual
def lt_trans':∀(a b c:KT),a.lt b=true->b.lt c=true->a.lt c=true
 | .int i,.int j,.int k,h,h'=>by rw[KT.lt] at h h'⊢;have:=of_decide_eq_true h;have:=of_decide_eq_true h';exact aO ∅
 | .int _,_,.str _,_,_=>by rw[KT.lt]
 | .int _,_,.tup _,_,_=>by rw[KT.lt]
 | .str _,_,.tup _,_,_=>by rw[KT.lt]
 | .int _,.str _,.int _,_,h=>by rw[KT.lt] at h;cases h
 | .int _,.tup _,.int _,_,h=>by rw[KT.lt] at h;cases h
 | .str _,.int _,_,h,_=>by rw[KT.lt] at h;cases h
 | .str x,.str y,.str z,h,h'=>by rw[KT.lt] at h h'⊢;exact aO (F8 _ _ _ (of_decide_eq_true h) (of_decide_eq_true h'))
 | .str _,.str _,.int _,_,h=>by rw[KT.lt] at h;cases h
 | .str _,.tup _,.str _,_,h=>by rw[KT.lt] at h;cases h
 | .str _,.tup _,.int _,_,h=>by rw[KT.lt] at h;cases h
 | .tup _,.int _,_,h,_=>by rw[KT.lt] at h;cases h
 | .tup _,.str _,_,h,_=>by rw[KT.lt] at h;cases h
 | .tup l,.tup m,.tup k,h,h'=>by rw[KT.lt] at h h'⊢;exact ltL_trans l m k h h'
 | .tup _,.tup _,.int _,_,h=>by rw[KT.lt] at h;cases h
 | .tup _,.tup _,.str _,_,h=>by rw[KT.lt] at h;cases h
def ltL_trans:∀(l m k:jp),ltL l m=true->ltL m k=true->ltL l k=true
 | _,[],[],_,h=>by rw[ltL] at h;cases h
 | _,_::_,[],_,h=>by rw[ltL] at h;cases h
 | [],_,_::_,_,_=>by rw[ltL]
 | _::_,[],_::_,h,_=>by rw[ltL] at h;cases h
 | a::l,b::m,c::k,h,h'=>by
  rw[ltL] at h h'⊢
  cases e:a.eqb b with
  | true=>
   rw[e,aQ rfl] at h;let ab:=XM.mp e;subst ab
   cases e2:a.eqb c with
   | true=>rw[e2,aQ rfl] at h';rw[aQ rfl];exact ltL_trans l m k h h'
   | false=>rw[e2,aP zS] at h';rw[aP zS];exact h'
  | false=>
   rw[e,aP zS] at h
   cases e2:b.eqb c with
   | true=>
    let bc:=XM.mp e2;subst bc;rw[e,aP zS];exact h
   | false=>
    rw[e2,aP zS] at h';let ac:=lt_trans' a b c h h'
    cases e3:a.eqb c with
    | true=>
     have:=XM.mp e3;subst this;rw[Ml] at ac;cases ac
    | false=>rw[aP zS];exact ac
end
def le_trans'{a b c:KT}(f:b.lt a=false)(d:c.lt b=false):c.lt a=false:=by
 cases h:c.lt a with
 | false=>rfl
 | true=>
  cases e:a.lt b with
  | true=>rw[lt_trans' c a b h e] at d;cases d
  | false=>rw[HP a b e f,d] at h;cases h
end Tw
namespace Tw
open PySem PySem.Spec L2 PyProof.Rows
mutual
def Zb(h:aD):KT->ai->Prop
 | .int i,v=>∃ t,v=.int i t
 | .str x,v=>∃ t,v=.str x t
 | .tup l,v=>∃(a:aj)(its:jd),v=.ref a/\IsTup h a its.toArray/\jS h l its
def jS(h:aD):jp->jd->Prop
 | [],vs=>vs=[]
 | t::l,vs=>∃ v r,vs=v::r/\Zb h t v/\jS h l r
end
section
variable{jW:js}{σ:L2.St}{H:Hp}
mutual
def Mv(I:ZI X jW σ H s):∀(t:KT)(x:V)(v:ai),ZG H t x->ZY x v->Zb s.heap t v
 | .int i,x,v,h,r=>by
  rw[ZG] at h;subst h;rw[Zb];exact r
 | .str y,x,v,h,r=>by
  rw[ZG] at h;subst h;rw[Zb];exact r
 | .tup l,x,v,h,r=>by
  rw[ZG] at h;let⟨a,vs,rfl,e,hk⟩:=h;let⟨its,rv,pl,_⟩:=I.tuple (Zh.of e);rw[Zb];exact⟨a,its,r,pl,kvals_of I l vs its hk rv⟩
def kvals_of(I:ZI X jW σ H s):∀(l:jp)(vs:je)(us:jd),jR H l vs->ZR vs us->jS s.heap l us
 | [],vs,us,h,r=>by
  rw[jR] at h;subst h;rw[jS];cases r;rfl
 | t::l,vs,us,h,r=>by
  rw[jR] at h;let⟨v,q,rfl,h1,h2⟩:=h
  cases r with
  | cons r1 r2=>
   rw[jS];exact⟨_,_,Z,Mv I t v _ h1 r1,kvals_of I l q _ h2 r2⟩
end
end
def ZIe{h:aD}{a:aj}{c b:jd}(x:IsTup h a c.toArray)(y:IsTup h a b.toArray):c=b:=by
 let⟨o,e,_,n,d⟩:=x;let⟨j,g,_,i,f⟩:=y;rw[e] at g;cases g;rw[d] at f;injection f with d1 _;simpa using congrArg tX d1
mutual
def Zb.inj{h:aD}:∀(a b:KT)(v:ai),Zb h a v->Zb h b v->a.eqb b=true
 | .int i,b,v,x,y=>by
  rw[Zb] at x;let⟨t,rfl⟩:=x
  cases b with
  | int j=>rw[Zb] at y;let⟨u,e⟩:=y;injection e with e _;rw[KT.eqb,e];exact beq_self_eq_true j
  | str z=>rw[Zb] at y;let⟨u,e⟩:=y;cases e
  | tup m=>rw[Zb] at y;let⟨_,_,e,_⟩:=y;cases e
 | .str w,b,v,x,y=>by
  rw[Zb] at x;let⟨t,rfl⟩:=x
  cases b with
  | int j=>rw[Zb] at y;let⟨u,e⟩:=y;cases e
  | str z=>rw[Zb] at y;let⟨u,e⟩:=y;injection e with e _;rw[KT.eqb,e];exact beq_self_eq_true z
  | tup m=>rw[Zb] at y;let⟨_,_,e,_⟩:=y;cases e
 | .tup l,b,v,x,y=>by
  rw[Zb] at x;let⟨p,its,rfl,px,kx⟩:=x
  cases b with
  | int j=>rw[Zb] at y;let⟨u,e⟩:=y;cases e
  | str z=>rw[Zb] at y;let⟨u,e⟩:=y;cases e
  | tup m=>
   rw[Zb] at y;let⟨q,its',e,py,ky⟩:=y;cases e;cases ZIe px py;rw[KT.eqb];exact jS.inj l m its kx ky
def jS.inj{h:aD}:∀(l m:jp)(us:jd),jS h l us->jS h m us->jT l m=true
 | [],m,us,x,y=>by
  rw[jS] at x;subst x
  cases m with
  | nil=>rw[jT]
  | cons b m=>rw[jS] at y;let⟨_,_,e,_⟩:=y;cases e
 | a::l,m,us,x,y=>by
  rw[jS] at x;let⟨v,r,rfl,x1,x2⟩:=x
  cases m with
  | nil=>rw[jS] at y;cases y
  | cons b m=>
   rw[jS] at y;let⟨v',r',e,y1,y2⟩:=y;injection e with e1 e2;subst e1 e2;rw[jT,Zb.inj a b v x1 y1,jS.inj l m r x2 y2];rfl
end
def jS.length{h:aD}:∀{l:jp}{b:jd},jS h l b->l.length=b.length
 | [],b,x=>by rw[jS] at x;subst x;rfl
 | a::l,b,x=>by
  rw[jS] at x;let⟨v,r,rfl,_,c⟩:=x;rw[yJ,yJ,c.length]
def jS.get{h:aD}:∀{l:jp}{b:jd}{j:Nat}{u:ai},jS h l b->b[j]? = some u->∃ t,l[j]? = some t/\Zb h t u
 | [],b,j,u,x,e=>by rw[jS] at x;subst x;simp at e
 | a::l,b,0,u,x,e=>by
  rw[jS] at x;let⟨v,r,rfl,f,_⟩:=x;simp at e;subst e;exact⟨a,Z,f⟩
 | a::l,b,j+1,u,x,e=>by
  rw[jS] at x;let⟨v,r,rfl,_,g⟩:=x;let⟨t,c,d⟩:=g.get (j:=j) (by simpa using e)
  exact⟨t,by simpa using c,d⟩
def NH:∀{l:jp}{t:KT},t∈l->t.depth<=jU l
 | [],_,h=>by cases h
 | u::l,t,h=>by
  rw[jU];rcases zF.mp h with e | h
  ·subst e;lia
  ·have:=NH h;lia
def Hw:∀(l m:jp),((zV (min l.length m.length)).all (λj=>(l.getD j (.int 0)).eqb (m.getD j (.int 0)))&&l.length==m.length)=jT l m
 | [],[]=>by simp[jT]
 | [],_::_=>by simp[jT]
 | _::_,[]=>by simp[jT]
 | a::l,b::m=>by
  let c:=Hw l m;let e:min (a::l).length (b::m).length=min l.length m.length+1:=by simp only[yJ];lia
  rw[e,List.range_succ_eq_map,uZ,xS,jT,<-c,Bool.and_assoc];simp[Function.comp_def]
def JP{s:al}:∀(n:Nat)(a b:KT)(A:ax)(v u:ai),a.depth<=n->Zb s.heap a v->Zb s.heap b u->A.units+a.depth<cLine->SeqAt.EqAt A s v u (a.eqb b)
 | n,.int i,b,A,v,u,_,x,y,o=>by
  rw[Zb] at x;let⟨t,rfl⟩:=x;let d:A.units<cLine:=∅
  cases b with
  | int j=>rw[Zb] at y;let⟨g,rfl⟩:=y;rw[KT.eqb];exact SeqAt.EqAt.int_int i t j g
  | str z=>rw[Zb] at y;let⟨g,rfl⟩:=y;rw[show (KT.int i).eqb (.str z)=false by simp[KT.eqb]];exact SeqAt.EqAt.int_str i t z g
  | tup m=>rw[Zb] at y;let⟨p,f,rfl,k,_⟩:=y;rw[show (KT.int i).eqb (.tup m)=false by simp[KT.eqb]];exact SeqAt.EqAt.int_tuple i t k d
 | n,.str w,b,A,v,u,_,x,y,o=>by
  rw[Zb] at x;let⟨t,rfl⟩:=x;let d:A.units<cLine:=∅
  cases b with
  | int j=>rw[Zb] at y;let⟨g,rfl⟩:=y;rw[show (KT.str w).eqb (.int j)=false by simp[KT.eqb]];exact SeqAt.EqAt.str_int w t j g
  | str z=>rw[Zb] at y;let⟨g,rfl⟩:=y;rw[KT.eqb];exact SeqAt.EqAt.str_str w t z g
  | tup m=>rw[Zb] at y;let⟨p,f,rfl,k,_⟩:=y;rw[show (KT.str w).eqb (.tup m)=false by simp[KT.eqb]];exact SeqAt.EqAt.str_tuple w t k d
 | 0,.tup l,b,A,v,u,C,x,y,o=>by
  rw[KT.depth] at C
  lia
 | n+1,.tup l,b,A,v,u,C,x,y,o=>by
  let U:=x;rw[Zb] at x;let⟨p,f,rfl,D,G⟩:=x;rw[KT.depth] at C o;let d:A.units<cLine:=∅
  cases b with
  | int j=>rw[Zb] at y;let⟨g,rfl⟩:=y;rw[show (KT.tup l).eqb (.int j)=false by simp[KT.eqb]];exact SeqAt.EqAt.tuple_int j g D d
  | str z=>rw[Zb] at y;let⟨g,rfl⟩:=y;rw[show (KT.tup l).eqb (.str z)=false by simp[KT.eqb]];exact SeqAt.EqAt.tuple_str z g D d
  | tup m=>
   let V:=y;rw[Zb] at y;let⟨q,c,rfl,k,H⟩:=y;by_cases h:p=q
   ·subst h;rw[Zb.inj _ _ _ U V];exact SeqAt.EqAt.same _
   ·let S:=G.length;let T:=H.length;let I:=SeqAt.RcAt.tuples (A:=A) (s:=s) (e:=λj=>(l.getD j (.int 0)).eqb (m.getD j (.int 0))) D k d (λj O P=>by
     let r:j<f.length:=by simpa using O
     let B:j<c.length:=by simpa using P
     let⟨E,F,Q⟩:=G.get (j:=j) (u:=f[j]) (by simp[r])
     let⟨J,K,R⟩:=H.get (j:=j) (u:=c[j]) (by simp[B])
     let W:=NH (yU F);let M:l.getD j (.int 0)=E:=by rw[zT,F];rfl
     let N:m.getD j (.int 0)=J:=by rw[zT,K];rfl
     have:=JP n E J A.in1 f[j] c[j] ∅ Q R (by show A.units+1+E.depth<cLine;lia)
     show SeqAt.EqAt A.in1 s _ _ ((l.getD j (.int 0)).eqb (m.getD j (.int 0)));rw[M,N];simpa using this)
    let L:((zV (min f.toArray.size c.toArray.size)).all (λj=>(l.getD j (.int 0)).eqb (m.getD j (.int 0)))&&f.toArray.size==c.toArray.size)=(KT.tup l).eqb (.tup m):=by
     rw[zL,zL,<-S,<-T,KT.eqb];exact Hw l m
    rw[L] at I;exact .of_refs h I
def Y6(o:Bool)(a b:KT):Bool:=bif o then !b.plt a else a.plt b
def Q3(o:Bool)(l m:jp):Bool:=bif o then !pltL m l else pltL l m
def Cv{o:Bool}{a c:KT}{l m:jp}:Q3 o (a::l) (c::m)=if a.eqb c=true then Q3 o l m else Y6 o a c:=by
 unfold Q3 Y6;rw[pltL,pltL,eqb_comm' c a];cases o <;> cases a.eqb c <;> rfl
def Ep{o:Bool}{l m:jp}{i j:Nat}(h:l=[]\/m=[])(e:l.length+j=m.length+i):Q3 o l m=bif o then decide (i<=j) else decide (i<j):=by
 rcases h with rfl | rfl
 ·cases m <;> cases o <;> simp[Q3,pltL] at e⊢ <;> lia
 ·cases l <;> cases o <;> simp[Q3,pltL] at e⊢ <;> lia
def Mz(o:Bool)(A:ax)(s:al)(v u:ai)(b:Bool):Prop:=
 ∀(a:am)(w:aw)(E:ja)(Q:ja),Q (.bool b) s->aB (aA a w) A (richCompare (bif o then .LtE else .Lt) v u) Q E s
section
open PySem.SeqAt
open PySem.AutoSeq1 (wpAny_loadPart')
open PySem.MeetsSeq PySem.MeetsSeq2 PySem.MeetsSeq3
inductive FD(c:aD)(d:jp)(n m:Nat)(G:jp->jp->Prop)(rest:List (ai×ai)):Prop
 |mk(e f:jd)(a b:jp):rest=e.zip f->jS c a e->jS c b f->(∀ x∈a,x∈d)->cmpL a b=true->a.length+m=b.length+n->G a b->FD c d n m G rest
def ZD7(o:Bool)(l b:aj)(f e:jz)(n n2:Nat)(dd K:jv)(sl O:Array (jc))(D J:jp):
  Meets ((bif o then Builtin.«tuple.__le__» else Builtin.«tuple.__lt__») ⟨[.ref l,.ref b],[]⟩)
   (λA R s=>s.heap.get? l=some { cls:=.type "tuple",dict:=dd,data:=.seq f n,slots:=sl }/\s.heap.get? b=some { cls:=.type "tuple",dict:=K,data:=.seq e n2,slots:=O } /\
    jS s.heap D f.toList/\jS s.heap J e.toList/\cmpL D J=true /\
    (∀ x y v u,x∈D->Zb s.heap x v->Zb s.heap y u->EqAt A.in1 s v u (x.eqb y))/\(∀ x y v u,x∈D->Zb s.heap x v->Zb s.heap y u->x.cmp y=true->Mz o A.in1 s v u (Y6 o x y)) /\
    R (.ok (.ret (.bool (Q3 o D J)))) s):=by
 let P:=@Cv o;let Q:=@Ep o;generalize Q3 o=F at P Q⊢;cases o
 all_goals
  dsimp only[cond_true,cond_false];refine .of_wp λC w A R s h=>?_;let⟨L,g,d,Y,X⟩:=s;let⟨hl,hb,S,T,hc,hE,hL,h⟩:=h;let f2:=AutoSeq1.sub_tuple_tuple;let z1:f.size=D.length:=by rw[S.length];simp
  let z2:e.size=J.length:=by rw[T.length];simp
  wp_walk using wpAny_loadPart' hl,wpAny_loadPart' hb,wpAny_forIn_list _ (λrest b N=>b.1=none/\N=⟨L,g,d,Y,X⟩/\FD L D f.size e.size (λa b=>R (.ok (.ret (.bool (F a b)))) ⟨L,g,d,Y,X⟩) rest) _
  case turn=>
   rintro⟨y,x⟩ rest b N ⟨E,rfl,vs,ws,q,r,p,i,j,t,k,m,B⟩
   cases q with
   | nil=>rw[jS] at i;subst i;rw[List.zip_nil_left] at p;cases p
   | cons a q=>
    cases r with
    | nil=>rw[jS] at j;subst j;rw[List.zip_nil_right] at p;cases p
    | cons c r=>
     rw[jS] at i j;let⟨v,vr,rfl,V,H⟩:=i;let⟨u,ur,rfl,W,I⟩:=j;rw[List.zip_cons_cons] at p;injection p with hyx hrest;injection hyx with hy M;subst hy M;rw[P] at B;rw[cmpL] at k;simp only[yJ] at m;let he:=hE a c y x (t a zK) V W;refine aa (he C w _ _ ?_)
     cases U:a.eqb c with
     | true=>
      rw[U,aQ rfl] at B k
      wp_walk
      exact⟨Z,Z,_,_,_,_,hrest,H,I,λz p=>t z (zI _ p),k,∅,B⟩
     | false=>
      rw[U,aP zS] at B k;let G:=hL a c y x (t a zK) V W k C w;dsimp only[cond_true,cond_false] at G
      wp_walk using G
      exact⟨_,Z,by simpa using B⟩
  case fin=>
   rintro⟨b1,b2⟩ N ⟨E,rfl,vs,ws,q,r,p,i,j,t,k,m,B⟩;simp only at E;subst E;rw[Q (by
    cases q with
    | nil=>exact .inl Z
    | cons a q=>
     cases r with
     | nil=>exact .inr Z
     | cons c r=>
      rw[jS] at i j;let⟨v,vr,rfl,_,_⟩:=i;let⟨u,ur,rfl,_,_⟩:=j;rw[List.zip_cons_cons] at p;cases p) m] at B
   wp_walk
   exact⟨_,Z,by simpa [Builtin.Tuple.tupleCompareSizes] using B⟩
  case h=>
   exact⟨Z,Z,f.toList,e.toList,D,J,Z,S,T,λ_ M=>M,hc,∅,h⟩
end
def GT(o:Bool){s:al}:∀(n:Nat)(a b:KT)(A:ax)(v u:ai),a.depth<=n->Zb s.heap a v->Zb s.heap b u->a.cmp b=true->A.units+a.depth<cLine->Mz o A s v u (Y6 o a b)
 | n,.int i,b,A,v,u,_,x,y,d,H=>by
  rw[Zb] at x;let⟨t,rfl⟩:=x
  cases b with
  | int j=>
   rw[Zb] at y;let⟨D,rfl⟩:=y;unfold Y6;rw[KT.plt,KT.plt];intro c w E Q h;cases o
   ·exact HT.rcLt_int A s i t j D c w E Q h
   ·exact(le_int (by rw[show decide (i<=j) = !decide (j<i) by by_cases z:j<i <;> simp[z] <;> lia];exact h):aB (aA c w) A (az .LtE (.int i t) (.int j D)) Q E s)
  | str z=>simp[KT.cmp] at d
  | tup m=>simp[KT.cmp] at d
 | n,.str w,b,A,v,u,_,x,y,d,H=>by
  rw[Zb] at x;let⟨t,rfl⟩:=x
  cases b with
  | int j=>simp[KT.cmp] at d
  | str z=>
   rw[Zb] at y;let⟨D,rfl⟩:=y;unfold Y6;rw[KT.plt,KT.plt];intro c w' E Q h;cases o
   ·exact(lt_str h:aB (aA c w') A (az .Lt (.str w t) (.str z D)) Q E s)
   ·exact(PySem.P.le_str h:aB (aA c w') A (az .LtE (.str w t) (.str z D)) Q E s)
  | tup m=>simp[KT.cmp] at d
 | 0,.tup l,b,A,v,u,K,x,y,d,H=>by
  rw[KT.depth] at K
  lia
 | n+1,.tup l,b,A,v,u,K,x,y,d,H=>by
  rw[Zb] at x;let⟨p,M,rfl,px,kx⟩:=x;rw[KT.depth] at K H;let B:A.units<cLine:=∅
  cases b with
  | int j=>simp[KT.cmp] at d
  | str z=>simp[KT.cmp] at d
  | tup m=>
   rw[Zb] at y;let⟨q,C,rfl,py,ky⟩:=y;rw[KT.cmp] at d;let e:Y6 o (.tup l) (.tup m)=Q3 o l m:=by
    unfold Y6 Q3;rw[KT.plt,KT.plt]
   rw[e];intro c w E Q h;let⟨⟨cls,dd,data,sl⟩,G,k,R,Y⟩:=id px;let⟨⟨V,J,I,U⟩,f,g,S,r⟩:=id py;simp only at k Y g r;subst k Y g r;let W:∀ x y v u,x∈l->Zb s.heap x v->Zb s.heap y u->SeqAt.EqAt A.in1 s v u (x.eqb y):=λx y v u L N O=>by
    let d1:=NH L;exact JP x.depth x y A.in1 v u (zY _) N O (by show A.units+1+x.depth<cLine;lia)
   let X:∀ x y v u,x∈l->Zb s.heap x v->Zb s.heap y u->x.cmp y=true->Mz o A.in1 s v u (Y6 o x y):=λx y v u L N O k3=>by
    let d1:=NH L;exact GT o n x y A.in1 v u ∅ N O k3 (by show A.units+1+x.depth<cLine;lia)
   let T:=ZD7 o p q M.toArray C.toArray R S dd J sl U l m;cases o
   ·exact richCompare_meets_room (op:=.Lt) ⟨_,G,Z⟩ ⟨_,f,Z⟩ PySem.F.slot_tuple_lt PySem.F.entry_tuple_lt (PySem.F.args_tuple_lt_2 _ _) T ⟨G,f,kx,ky,d,W,X,(λx=>nomatch x),h⟩ B
   ·exact richCompare_meets_room (op:=.LtE) ⟨_,G,Z⟩ ⟨_,f,Z⟩ PySem.F.slot_tuple_le PySem.F.entry_tuple_le (PySem.F.args_tuple_le_2 _ _) T ⟨G,f,kx,ky,d,W,X,(λx=>nomatch x),h⟩ B
def HX{s:al}(n:Nat)(a b:KT)(A:ax)(v u:ai):a.depth<=n->Zb s.heap a v->Zb s.heap b u->a.cmp b=true->A.units+a.depth<cLine->Mz false A s v u (a.plt b):=GT false n a b A v u
def Zc.key{k:Nat}{A:ax}(r:Zc k A){n:Nat}(h:n<=200):A.units+n<cLine:=by have:=r.un;lia
inductive Ky(x y:V)(H:Hp)(Q:VK):Prop
 |mk(a b:_)(_:ZG H a x)(_:ZG H b y)(_:a.cmp b=true)(_:a.depth<=200)(_:Q (.bl (a.plt b)) H)
def GP{k:Nat}(i:Zc k X.A):XI X (az .Lt) Ky:=by
 intro c s m H x y v u Q I j l h;let⟨a,b,d,e,f,g,q⟩:=h;exact HX a.depth a b X.A v u (zY _) (Mv I a x v d j) (Mv I b y u e l) f (Zc.key i g) X.prog X.w X.xe _ ⟨.bl _,H,I,Z,q⟩
end Tw
namespace L2
open PySem PySem.Spec PyProof.Rows
def ZI.big{a:js}{b:St}{H:Hp}{s:al}(I:ZI X a b H s):sysModules<s.heap.objs.size:=by
 let h:ap<s.heap.objs.size:=(I.mod.glob.keeps I.bk).lt;exact Nat.lt_trans (by decide) h
def AD{P:am}{w:aw}{H:Hp}(h:aD)(a:sysModules<h.objs.size):Zk P w H (h.push { cls:=.type "dict",data:=.dict #[] }) h.objs.size (.dK []):=
 ⟨yT _,beq_eq_false_iff_ne.mpr (Ne.symm (zM a)),[],.nil,Heap.DictOf.new h⟩
def C0:TE:=λ_ H Q=>∀ p,H p=none->Q (.ref p) (upd H p (.dK []))
def Kq{b:aK}:PE X (.Dict [] [] b) C0:=λc s d H Q I h=>
 wpAny_Dict_empty ⟨.ref s.heap.objs.size,_,I.laid (a:=s.heap.objs.size) (o:=.dK []) (t':=s.toks) (λ_ _ q=>zQ _ q) (zY _) (AD s.heap I.big),rfl,h _ (I.hok.fresh (zY _))⟩
def cV:V->ai
 | .ty n=>.type n
 | .ref a=>.ref a
 | _=>.none
def Fv:V->Bool
 | .ty _=>true
 | .ref _=>true
 | _=>false
def AB{c:V}{u:ai}(r:ZY c u)(h:Fv c=true):u=cV c:=by
 cases c with
 | ty n=>exact r
 | ref a=>exact r
 | _=>cases h
def Nb{K:zZ}{b:aD}{v:jb}{x:Str}{C:aj}{d:jd}{a:String}(c:K.In b)(E:v x=some (.ref C))(q:wM K C d a=true):OwnCls x C d a v b:=by
 exists E;unfold wM at q;split at q
 ·rename_i B k y G
  split at q
  ·rename_i R A p r s t n u m o
   rw[zR,zR,zR,zR,zR] at q;let⟨⟨⟨⟨⟨J,L⟩,M⟩,N⟩,i⟩,O⟩:=q;cases eq_of_beq J;cases eq_of_beq L;let e:k.hasDel=false:=by simpa using M
   let f:=eq_of_beq O;let⟨I,bs,H,w,P,F,Q,j,z,g,D⟩:=k;dsimp only at m e i f;subst m e;let h:y=#[p,r,s,t,some (.builtin a),u]:=by
    let⟨l⟩:=y;simp only at o;rw[o]
   subst h;exists A,w,I,P,bs,F,Q,j,z,g,B,p,r,s,t,u,b.nsMap w,c _ _ G;exact⟨.of_isNs (PySem.W.isNs_of_in c i),PySem.W.nsMap_none_of_in c i f,rV c N⟩
  ·cases q
 ·cases q
def NZ{P:am}{w:aw}{K:zZ}{h:jb}{d:aD}{g:Wu}{N:jq}{c:Str}{a:aE}{f:aj}{e:ai}{A:ax}{b:jA}{s:al}{H:Hp}{E:XK}:
  PassesOwn (aA (Vn g P w K h d N c a f e A b s H E).prog (Vn g P w K h d N c a f e A b s H E).w) (Vn g P w K h d N c a f e A b s H E).A (Vn g P w K h d N c a f e A b s H E).env (Vn g P w K h d N c a f e A b s H E).xe:=by
 show PassesOwn (aA P w) (A.deeper (envOfC c a s.heap.objs.size f e)) (envOfC c a s.heap.objs.size f e) _
 passes_own
def PM:Expr->Bool
 | .Starred _ _=>false
 | _=>true
def Wo{e:Expr}{b:jx}{a:Env}(h:PM e=true):ar (e::b) a=(false,aI e a)::ar b a:=by
 cases e <;> first | rfl | cases h
def Vo{X:Cx}{e:Expr}{a:jx}{b:TE}{t:TA}(c:PE X e b)(d:PA X a t)(h:PM e=true:=by rfl):PA X (e::a) (Z9 b t):=Zj c d (Wo h)
def ZT{X:Cx}{e:Expr}{a:TE}(b:PE X e a)(h:PM e=true:=by rfl):PA X [e] (Z9 a Y0):=Zj b Zw (Wo h)
def Ze{X:Cx}{e d:Expr}{b a:TE}(f:PE X e b)(g:PE X d a)(h:PM e=true:=by rfl)(c:PM d=true:=by rfl):PA X [e,d] (Z9 b (Z9 a Y0)):=Zj f (ZT g c) (Wo h)
def MM{X:Cx}{a b c:Expr}{d e f:TE}(g:PE X a d)(i:PE X b e)(j:PE X c f)(h:[a,b,c].all PM=true:=by rfl):PA X [a,b,c] (Z9 d (Z9 e (Z9 f Y0))):=
 (Zj g (Zj i (Zj j Zw (Wo (zN.mp h c (by simp)))) (Wo (zN.mp h b (by simp)))) (Wo (zN.mp h a (by simp))))
def Pu{X:Cx}{a b c d:Expr}{e f g i:TE}(j:PE X a e)(k:PE X b f)(l:PE X c g)(m:PE X d i)(h:[a,b,c,d].all PM=true:=by rfl):PA X [a,b,c,d] (Z9 e (Z9 f (Z9 g (Z9 i Y0)))):=
 (Zj j (Zj k (Zj l (Zj m Zw (Wo (zN.mp h d (by simp)))) (Wo (zN.mp h c (by simp)))) (Wo (zN.mp h b (by simp)))) (Wo (zN.mp h a (by simp))))
def CG{X:Cx}{a b c d e:Expr}{f g i j k:TE}(l:PE X a f)(m:PE X b g)(n:PE X c i)(o:PE X d j)(p:PE X e k)(h:[a,b,c,d,e].all PM=true:=by rfl):PA X [a,b,c,d,e] (Z9 f (Z9 g (Z9 i (Z9 j (Z9 k Y0))))):=
 (Zj l (Zj m (Zj n (Zj o (Zj p Zw (Wo (zN.mp h e (by simp)))) (Wo (zN.mp h d (by simp)))) (Wo (zN.mp h c (by simp)))) (Wo (zN.mp h b (by simp)))) (Wo (zN.mp h a (by simp))))
def pa6{X:Cx}{a b c d e f:Expr}{g i j k l m:TE}(n:PE X a g)(o:PE X b i)(p:PE X c j)(q:PE X d k)(r:PE X e l)(s:PE X f m)(h:[a,b,c,d,e,f].all PM=true:=by rfl):PA X [a,b,c,d,e,f] (Z9 g (Z9 i (Z9 j (Z9 k (Z9 l (Z9 m Y0)))))):=
 (Zj n (Zj o (Zj p (Zj q (Zj r (Zj s Zw (Wo (zN.mp h f (by simp)))) (Wo (zN.mp h e (by simp)))) (Wo (zN.mp h d (by simp)))) (Wo (zN.mp h c (by simp)))) (Wo (zN.mp h b (by simp)))) (Wo (zN.mp h a (by simp))))
end L2
namespace Tw
open PySem PySem.Spec L2
def Em(N:aj->Prop)(H:Hp)(n:String)(v:V):Prop:=
 (n = "bool" /\ ∃ b,v=.bl b)\/(n = "NoneType" /\ v=.non)\/(n = "list" /\ ∃ a d,v=.ref a/\H a=some (.lst d)/\¬ N a)\/(n = "dict" /\ ∃ a c,v=.ref a/\H a=some (.dK c)/\¬ N a)
mutual
def Y3(N:aj->Prop)(H:Hp):TG->V->Prop
 | .int i,v=>v=.int i
 | .str x,v=>v=.str x
 | .tup l,v=>∃ a vs,v=.ref a/\H a=some (.tup vs)/\jV N H l vs
 | .odd n,v=>Em N H n v
def jV(N:aj->Prop)(H:Hp):List TG->je->Prop
 | [],vs=>vs=[]
 | t::l,vs=>∃ v r,vs=v::r/\Y3 N H t v/\jV N H l r
end
structure OB(N:aj->Prop)(H H':Hp):Prop where
 tup:Yb H H'
 rest:∀ b o,H b=some o->¬ N b->H' b=some o
mutual
def Y3.mono{N:aj->Prop}{H H':Hp}(m:OB N H H'):∀(t:TG)(v:V),Y3 N H t v->Y3 N H' t v
 | .int _,_,h=>by rw[Y3] at h⊢;exact h
 | .str _,_,h=>by rw[Y3] at h⊢;exact h
 | .tup l,_,h=>by
  rw[Y3] at h⊢;let⟨a,vs,e,h1,h2⟩:=h;exact⟨a,vs,e,m.tup a vs h1,jV.mono m l vs h2⟩
 | .odd n,_,h=>by
  rw[Y3] at h⊢;rcases h with h | h | ⟨e,a,xs,e1,e2,e3⟩ | ⟨e,a,xs,e1,e2,e3⟩
  ·exact .inl h
  ·exact .inr (.inl h)
  ·exact .inr (.inr (.inl ⟨e,a,xs,e1,m.rest _ _ e2 e3,e3⟩))
  ·exact .inr (.inr (.inr ⟨e,a,xs,e1,m.rest _ _ e2 e3,e3⟩))
def jV.mono{N:aj->Prop}{H H':Hp}(m:OB N H H'):∀(l:List TG)(vs:je),jV N H l vs->jV N H' l vs
 | [],_,h=>by rw[jV] at h⊢;exact h
 | t::l,_,h=>by
  rw[jV] at h⊢;let⟨v,r,e,h1,h2⟩:=h;exact⟨v,r,e,Y3.mono m t v h1,jV.mono m l r h2⟩
end
mutual
def Y3.less{N N':aj->Prop}{H:Hp}(m:∀ b,N' b->N b):∀(t:TG)(v:V),Y3 N H t v->Y3 N' H t v
 | .int _,_,h=>by rw[Y3] at h⊢;exact h
 | .str _,_,h=>by rw[Y3] at h⊢;exact h
 | .tup l,_,h=>by
  rw[Y3] at h⊢;let⟨a,vs,e,h1,h2⟩:=h;exact⟨a,vs,e,h1,jV.less m l vs h2⟩
 | .odd n,_,h=>by
  rw[Y3] at h⊢;rcases h with h | h | ⟨e,a,xs,e1,e2,e3⟩ | ⟨e,a,xs,e1,e2,e3⟩
  ·exact .inl h
  ·exact .inr (.inl h)
  ·exact .inr (.inr (.inl ⟨e,a,xs,e1,e2,λz=>e3 (m a z)⟩))
  ·exact .inr (.inr (.inr ⟨e,a,xs,e1,e2,λz=>e3 (m a z)⟩))
def jV.less{N N':aj->Prop}{H:Hp}(m:∀ b,N' b->N b):∀(l:List TG)(vs:je),jV N H l vs->jV N' H l vs
 | [],_,h=>by rw[jV] at h⊢;exact h
 | t::l,_,h=>by
  rw[jV] at h⊢;let⟨v,r,e,h1,h2⟩:=h;exact⟨v,r,e,Y3.less m t v h1,jV.less m l r h2⟩
end
end Tw
namespace L2
open PySem PySem.Spec PyProof.Rows
abbrev XH(a:aj)(o:aJ):HO:=.ext λh=>h.get? a=some o
def Mu{P:am}{w:aw}{H:Hp}{h:aD}{a:aj}{o:aJ}(e:h.get? a=some o):Zk P w H h a (XH a o):=⟨e,⟨o,e⟩,λ_ _ b k=>k o b⟩
def YW.obj{P:am}{w:aw}{H:Hp}{h:aD}{a:aj}{o:aJ}(x:YW P w H h)(e:H a=some (XH a o)):h.get? a=some o:=(x a _ e).1
def unT(a:ju)(H:Hp):Hp:=λb=>if b∈a then none else H b
def reT(c:ju)(H a:Hp):Hp:=λb=>if b∈c then H b else a b
def Qg{a:ju}{H:Hp}{b:aj}(h:b∈a):unT a H b=none:=aQ h
def V9{a:ju}{H:Hp}{b:aj}(h:b∉a):unT a H b=H b:=aP h
def Nu{a:ju}{H c:Hp}{b:aj}(h:b∈a):reT a H c b=H b:=aQ h
def UB{c:ju}{H a:Hp}{b:aj}(h:b∉c):reT c H a b=a b:=aP h
def Le{a:ju}{H:Hp}{b:aj}{o:HO}(e:unT a H b=some o):b∉a/\H b=some o:=by
 by_cases h:b∈a
 ·rw[Qg h] at e;cases e
 ·rw[V9 h] at e;exact⟨h,e⟩
def OR{a:ju}{H:Hp}{b:aj}(e:H b=none):unT a H b=none:=by
 by_cases h:b∈a
 ·exact Qg h
 ·rw[V9 h];exact e
section
variable{H H2:Hp}{h h':aD}{cs fs ex:ju}
def YW.unT(d:YW P w H h)(f:∀ c∈cs,∃ o,H c=some (XH c o)):YW P w (L2.unT cs H) h:=λa o e=>by
 let⟨n,e⟩:=Le e;refine(d a o e).stay (λ_ _ _ q=>q) (λc q=>?_) λc i q=>?_
 ·rw[V9 λz=>?_];exact q;let⟨g,b⟩:=f c z;rw[q] at b;cases b
 ·rw[V9 λz=>?_];exact q;let⟨g,b⟩:=f c z;rw[q] at b;cases b
def YW.reT(d:YW P w H2 h)(f:∀ c∈cs,H2 c=none)(j:∀ c∈cs,∃ o,H c=some (XH c o)/\h.get? c=some o):YW P w (L2.reT cs H H2) h:=λa o e=>by
 by_cases b:a∈cs
 ·rw[Nu b] at e;let⟨k,g,i⟩:=j a b;rw[g] at e;cases e;exact Mu i
 ·rw[UB b] at e;refine(d a o e).stay (λ_ _ _ q=>q) (λc q=>?_) λc l q=>?_
  ·rw[UB λz=>?_];exact q;rw[f c z] at q;cases q
  ·rw[UB λz=>?_];exact q;rw[f c z] at q;cases q
def Eg{g:Hp}(u:Un fs ex H g h h')(i:YW P w H h)(e:YW P w g h')(m:∀ c∈cs,∃ o,H c=some (XH c o)/\g c=some (XH c o)):Un fs ex (unT cs H) (unT cs g) h h':=by
 let a:∀ b∈cs,∀ o,h.get? b=some o->h'.get? b=some o:=λb d o q=>by
  let⟨s,k,l⟩:=m b d;let j:=i.obj k;rw[q] at j;cases j;exact e.obj l
 refine⟨λb o q n d f=>?_,λb o q n d f=>?_,λb o q n f=>?_,u.there,λb r q=>?_,λb o v q=>?_,λb p q=>?_⟩
 ·by_cases z:b∈cs
  ·exact a b z o q
  ·rw[V9 z] at n;exact u.keep b o q n d f
 ·by_cases z:b∈cs
  ·exact⟨o.slots,a b z o q⟩
  ·rw[V9 z] at n;exact u.slot b o q n d f
 ·by_cases z:b∈cs
  ·exact Qg z
  ·rw[V9 z] at n⊢;exact u.free b o q n f
 ·let⟨z,q⟩:=Le q;rw[V9 z];exact u.tups b r q
 ·let⟨z,q⟩:=Le q;rw[V9 z];exact u.frzs b o v q
 ·let⟨z,q⟩:=Le q;rw[V9 z];exact u.tbls b p q
def Go(u:Un fs ex (unT cs H) H2 h h')(d:∀ c∈cs,∃ o,H c=some (XH c o)):Un fs ex H (reT cs H H2) h h':=by
 let g:∀{b},H b=none->b∉cs:=fun{b} n z=>by
  let⟨o,e⟩:=d b z;rw[n] at e;cases e
 refine⟨λb o q n f a=>u.keep b o q (OR n) f a,λb o q n f a=>u.slot b o q (OR n) f a,λb o q n a=>?_,u.there,λb k q=>?_,λb o v q=>?_,λb j q=>?_⟩
 ·rw[UB (g n)];exact u.free b o q (OR n) a
 ·let z:b∉cs:=λz=>by
   let⟨i,e⟩:=d b z;rw[q] at e;cases e
  rw[UB z];exact u.tups b k (by rw[V9 z];exact q)
 ·let z:b∉cs:=λz=>by
   let⟨i,e⟩:=d b z;rw[q] at e;cases e
  rw[UB z];exact u.frzs b o v (by rw[V9 z];exact q)
 ·let z:b∉cs:=λz=>by
   let⟨i,e⟩:=d b z;rw[q] at e;cases e
  rw[UB z];exact u.tbls b j (by rw[V9 z];exact q)
end
structure VT(H:Hp)(cl:jC)(N:jq)(ws:je):Prop where
 len:ws.length=N.length
 val:∀(i:Nat)(x:Str)(v:V),N[i]? = some x->ws[i]? = some v->∃ c o u,cl.lookup x=some c/\c∈cl.map (·.2)/\H c=some (XH c o)/\o.data=.cell (some u)/\ZY v u
 all:∀ c∈cl.map (·.2),∃ o v,H c=some (XH c o)/\o.data=.cell v
inductive Y2(o:aJ)(q:Str):Prop
 |mk(a t:_)(_:o.data=.fields a)(_:a[1]? = some (.str q t))
def BY(H:Hp)(q:Str)(e:jz):Prop:=TriplesOk e.toList/\∀ b d,PySem.codeAmong b e.toList=some d->∃ a c,d=.ref a/\H a=some (XH a c)/\Y2 c q
inductive ZQ(H:Hp)(P:aj)(q:Str):Prop
 |mk(a:_)(_:H P=some (.tbl a))(_:BY H q a)
def Gb{a b:Int}{t u:Tok}{c:ai}:∀(l:jd),TriplesOk l->TriplesOk (l++[.int a t,.int b u,c])
 | [],_=>trivial
 | .int _ _::.int _ _::_::r,h=>Gb r h
def EU{e:aK}{a b:Int}{t u:Tok}{c f:ai}:∀(l:jd),TriplesOk l->PySem.codeAmong e (l++[.int a t,.int b u,c])=some f->PySem.codeAmong e l=some f\/f=c
 | [],_,h=>by
  unfold PySem.codeAmong at h;simp only[List.nil_append] at h;split at h
  ·cases h;exact .inr Z
  ·simp[PySem.codeAmong] at h
 | .int i _::.int j _::d::r,hT,h=>by
  simp only[uV] at h;unfold PySem.codeAmong at h⊢;split at h
  ·rename_i q
   rw[aQ q];exact .inl h
  ·rename_i q
   rw[aP q];exact EU r hT h
def Nr(P:aj)(c:Arguments)(g:Expr)(d:aE)(a:Str)(k:jC):TE:=λ_ H Q=>
 ZQ H P a/\∀(e:Hp)(f h:aj)(j:aJ)(l i:ai),Y2 j a->e f=some (XH f (xK "<lambda>" a c g d k l h i))->e h=some (XH h j) ->
  (∀ b o,b≠P->H b=some o->e b=some o)->ZQ e P a->(∀ b,b=f\/b=h\/b=P\/e b=H b)->Q (.ref f) e
def MT{X:Cx}{P c:aj}{f:Arguments}{l:Expr}{g:aE}{cl:jC}{j:aK}(y:X.env.code=.ref c)(C:xZ X.base c P)(hb:X.base.BuiltinsAt X.mg P)(S:defaultsOf f X.env=([],[]))(R:closureFor g X.env=pure cl):PE X (.Lambda f l g j) (Nr P f l g (X.env.qual ++ "<lambda>") cl):=by
 intro a8 s σ H Q I h;let⟨⟨B,v,N,hA⟩,h⟩:=h;let gP:s.heap.get? P=some (wL B):=I.hok P _ v;let nb:∀{b o},X.base.get? b=some o->b≠P:=fun{b o} e z=>by
  have:=(I.bs b o e).2;rw[z,v] at this;cases this
 let a3:ap≠P:=by
  let⟨o,es,ep,e,_⟩:=I.mod.glob;exact nb e
 let hg:s.heap.Ns ap X.mg:=I.mod.glob.keeps I.bk;let O:s.heap.BuiltinsAt X.mg P:=by
  let⟨bm,o,b1,b2,b3,b4,b5,r⟩:=hb;exact⟨bm,o,b1,b2,b3,b4,I.bk _ _ b5,r⟩
 refine PySem.W.kla_eval S ?_
 cases hf:PySem.codeAmong j B.toList with
 | none=>
  refine PySem.W.kla_makeFunction R I.ok.glob hg y (C.keeps I.bk) gP N hf a3 O λk m i tk hx F T U a6=>?_;let⟨a7,D,vs,t,L,a4,hd,hv⟩:=U;cases L;let kp:∀ b o,b≠P->s.heap.get? b=some o->(i.push (xK "<lambda>" (X.env.qual ++ "<lambda>") f l g cl ((X.mg "__name__").getD .none) k m)).get? b=some o:=λb o n e=>zQ _ (hx b o n e);let sz:s.heap.objs.size<=i.objs.size:=xX (xJ F T);let nc:H k=none:=I.hok.fresh F;let Y:H i.objs.size=none:=I.hok.fresh sz;let cP:k≠P:=λz=>by rw[z,v] at nc;cases nc
  let fP:i.objs.size≠P:=λz=>by rw[z,v] at Y;cases Y
  let fc:i.objs.size≠k:=xH T
  let' ps':Array Value:=B++#[rawInt j.line,rawInt j.col,.ref k]
  let' fo:Obj:=xK "<lambda>" (X.env.qual ++ "<lambda>") f l g cl ((X.mg "__name__").getD .none) k m
  let' H1:Hp:=upd (upd (upd H P (.tbl ps')) k (XH k D)) i.objs.size (XH i.objs.size fo)
  let e1:H1 i.objs.size=some (XH i.objs.size fo):=ZO;let L:H1 k=some (XH k D):=by show upd _ _ _ _=_;rw[ZU fc.symm];exact ZO
  let e3:H1 P=some (.tbl ps'):=by show upd _ _ _ _=_;rw[ZU fP.symm,ZU cP.symm];exact ZO
  let e4:∀ b,b≠P->b≠k->b≠i.objs.size->H1 b=H b:=λb n1 n2 n3=>by show upd _ _ _ _=_;rw[ZU n3,ZU n2,ZU n1]
  let x:∀ b o,b≠P->H b=some o->H1 b=some o:=λb o n e=>by
   rw[e4 b n (Za e nc) (Za e Y)];exact e
  let gc:(i.push fo).get? k=some D:=zQ _ a4;let gf:(i.push fo).get? i.objs.size=some fo:=yO _ Z;let M:(i.push fo).get? P=some (wL ps'):=zQ _ a6;let a5:YW X.prog X.w H1 (i.push fo):=λb u e=>by
   by_cases z1:b=i.objs.size
   ·subst z1;rw[e1] at e;cases e;exact Mu gf
   by_cases z2:b=k
   ·subst z2;rw[L] at e;cases e;exact Mu gc
   by_cases K:b=P
   ·subst K;rw[e3] at e;cases e;exact M
   rw[e4 b K z2 z1] at e;refine(I.hok b u e).stay (λa ob A q=>kp a ob ?_ q) (λa q=>x a _ ?_ q) λa xs q=>x a _ ?_ q
   ·rcases A with rfl | A
    ·exact K
    ·intro z;rw[z,v] at A;cases A
   ·intro z;rw[z,v] at q;cases q
   ·intro z;rw[z,v] at q;cases q
  let un:Un X.fs [] H H1 s.heap (i.push fo):=by
   let G:∀ b,H b=none->b≠P:=λb n z=>by rw[z,v] at n;cases n
   refine⟨λb o q n _ _=>kp b o (G b n) q,λb o q n _ _=>⟨o.slots,kp b o (G b n) q⟩,λb o q n _=>?_,λb o q _=>?_,λb xs q=>x b _ ?_ q,λb o u q=>x b _ ?_ q,λb qs q=>?_⟩
   ·rw[e4 b (G b n) (zM (yN (zW q) F)) (zM (yN (zW q) sz))];exact n
   ·by_cases z:b=P
    ·exact⟨_,by rw[z];exact M⟩
    ·exact⟨o,kp b o z q⟩
   ·intro z;rw[z,v] at q;cases q
   ·intro z;rw[z,v] at q;cases q
   ·by_cases z:b=P
    ·subst z;rw[v] at q;cases q;exact⟨_,e3⟩
    ·exact⟨#[],by rw[x b _ z q];simp⟩
  refine⟨.ref i.objs.size,H1,I.un (t':=tk) un a5,Z,h H1 i.objs.size k D _ m ⟨vs,t,hd,hv⟩ e1 L x ⟨ps',e3,?_,λp J A=>?_⟩ λb=>?_⟩
  ·show TriplesOk (B++#[rawInt j.line,rawInt j.col,.ref k]).toList;rw[sZ];exact Gb _ N
  ·let a0:PySem.codeAmong p (B.toList++[rawInt j.line,rawInt j.col,.ref k])=some J:=by
    have:ps'.toList=B.toList++[rawInt j.line,rawInt j.col,.ref k]:=by show (B++#[rawInt j.line,rawInt j.col,.ref k]).toList=_;rw[sZ]
    rw[<-this];exact A
   rcases EU _ N a0 with z | z
   ·let⟨d,E,y1,y2,y3⟩:=hA p J z;exact⟨d,E,y1,x _ _ (λz=>by rw[z,v] at y2;cases y2) y2,y3⟩
   ·exact⟨k,D,z,L,vs,t,hd,hv⟩
  ·by_cases z1:b=i.objs.size
   ·exact .inl z1
   by_cases z2:b=k
   ·exact .inr (.inl z2)
   by_cases K:b=P
   ·exact .inr (.inr (.inl K))
   exact .inr (.inr (.inr (e4 b K z2 z1)))
 | some J=>
  let⟨k,D,rfl,a1,a2⟩:=hA j J hf;refine PySem.W.kla_makeFunctionHit R I.ok.glob hg y (C.keeps I.bk) gP N hf O λm i tk hk V=>?_;let Y:H i.objs.size=none:=I.hok.fresh V;let x:∀ b o,H b=some o->upd H i.objs.size (XH i.objs.size (xK "<lambda>" (X.env.qual ++ "<lambda>") f l g cl ((X.mg "__name__").getD .none) k m)) b=some o:=λb o e=>by rw[ZU (Za e Y)];exact e
  refine⟨.ref i.objs.size,_,I.laid (t':=tk) (a:=i.objs.size) (o:=XH i.objs.size (xK "<lambda>" (X.env.qual ++ "<lambda>") f l g cl ((X.mg "__name__").getD .none) k m)) (λb o e=>zQ _ (hk b o e)) V (Mu (yO _ rfl)),Z,
   h _ i.objs.size k D _ m a2 ZO (x _ _ a1) (λb o _ e=>x b o e) ⟨B,x _ _ v,N,λp J A=>?_⟩ λb=>?_⟩
  ·let⟨d,E,y1,y2,y3⟩:=hA p J A;exact⟨d,E,y1,x _ _ y2,y3⟩
  ·by_cases z:b=i.objs.size
   ·exact .inl z
   ·exact .inr (.inr (.inr (ZU z)))
inductive Q5(k:Sp)(d:jC)(N h:jq)(m:L2.St)(Q:VK)(l:je)(e:Hp):Prop
 |mk(f:je)(_:f.length=N.length)(_:∀(i:Nat)(x:Str)(v:V),N[i]? = some x->f[i]? = some v->∃ j:Nat,h[j]? = some x/\m[j]? = some (some v))(_:∀ a:Hp,unT (d.map (·.2)) a=e->(∀ b,b∉d.map (·.2)->a b=e b)->(∀ b o,e b=some o->a b=some o)->VT a d N f->k l a (λv g=>(∀ c∈d.map (·.2),g c=a c)/\Q v (unT (d.map (·.2)) g)) E0)
def MB(e:Sp)(d:jC)(N c:jq)(t:TA):TE:=λa H Q=>t a H λf b=>Q5 e d N c a Q f b
def MD{X:Cx}{k:Nat}{f:aj}{fd:ao}{ps:jq}{sp:Sp}{x:Str}{p L:aK}{e:Expr}{P:jx}{t:TA}{cl:jC}{N:jq}(F:ZH X.prog X.w X.K X.mg X.base Zd k f fd ps sp)(hr:Zc k X.A)(hg:Gl X x)(hm:X.mg x=some (.ref f))(hk:yX X.K (.ref f)=true)(D:YB X.K fd ps [])(ha:PA X (e::P) t)(R:∀ y c,cl.lookup y=some c->X.env.cells.lookup y=some c)(U:∀ c∈cl.map (·.2),∃ y,cl.lookup y=some c)(hN:∀ y∈N,X.env.scope.names.lookup y=some .cell/\∃ c,cl.lookup y=some c)(a5:∀ y,X.fn y=true)(a4:(x==("__debug__" : Str))=false:=by decide)(he:ar (e::P) X.env=(false,aI e X.env)::ar P X.env:=by rfl)(a8:(aG L (ar P X.env)).any (·.1)=false:=by rfl):
  PE X (.Call (.Name x p) (e::P) [] L) (MB sp cl N X.N t):=by
 intro a0 s σ H Q I h;refine ag (Q1 I hg hm ?_ a4);refine wI (h₀:=X.base) I.ok.mod.kin hk (YO (ha L a0 s σ H _ I h) λus M vs E C r q=>⟨C.kIn,?_⟩) he a8;let⟨ws,hl,hw,q⟩:=q
 let' cs := cl.map (·.2)
 let' Hv:Hp:=λb=>(M.heap.get? b).map (XH b)
 let l:∀ c∈cs,∃ y o v,cl.lookup y=some c/\X.env.cells.lookup y=some c/\M.heap.get? c=some o/\o.data=.cell v/\Hv c=some (XH c o)/\E c=none:=λc B=>by
  let⟨y,e⟩:=U c B;let J:=R y c e;let⟨v,o,g,d⟩:=C.cell y c J;exact⟨y,o,v,e,J,g,d,by show Option.map _ _=_;rw[g];rfl,C.freeC y c J⟩
 let V:YW X.prog X.w (reT cs Hv E) M.heap:=C.hok.reT (λc B=>by
  let⟨y,o,v,_,_,g,d,a,n⟩:=l c B;exact n) λc B=>by
  let⟨y,o,v,_,_,g,d,a,n⟩:=l c B;exact⟨o,a,g⟩
 let hi:∀ c∈cs,X.s₀.heap.objs.size<=c:=λc B=>by
  let⟨y,o,v,_,J,_⟩:=l c B;exact C.ok.cab y c (a5 y) J
 let e0:Wy X.prog X.w X.K X.mg X.base X.A X.stack M (reT cs Hv E):=by
  let z:=C.env0;refine⟨z.frames,z.mod,λb o e=>⟨(z.bs b o e).1,?_⟩,z.bsz,z.funs,λb D=>?_,V,z.bare⟩
  ·rw[UB λw=>?_];exact(z.bs b o e).2;exact absurd (zW e) (wD.mpr (zC C.ok.bsz (hi b w)))
  ·rw[UB λw=>?_];exact z.frf b D;rcases zF.mp (C.stkSub b D) with y | y
   ·let⟨y',o,v,_,J,_⟩:=l b w;exact C.cne y' b J y
   ·let⟨_,o',g,_⟩:=C.ok.funs.mem y;exact absurd (zW g) (wD.mpr (hi b w))
 let eU:unT cs (reT cs Hv E)=E:=by
  funext b
  by_cases D:b∈cs
  ·rw[Qg D];let⟨y,o,v,_,_,g,d,a,n⟩:=l b D;exact n.symm
  ·rw[V9 D,UB D]
 let CA:VT (reT cs Hv E) cl N ws:=⟨hl,λi y v h1 h2=>by
  let⟨j,hj,a9⟩:=hw i y v h1 h2;let⟨kc,c,ec⟩:=hN y (yU h1);let⟨m,_,a7⟩:=C.loc;let⟨u,ru,lk⟩:=a7 j y v hj a9 (.inr (.inl kc));let a3:=R y c ec;let S:c∈cs:=by
   obtain⟨p,hp,e⟩:∃ p∈cl,p.2=c:=⟨(y,c),PySem.mem_of_lookup ec,Z⟩;exact zO.mpr ⟨p,hp,e⟩
  rcases lk with ⟨kl,_⟩ | ⟨_,c2,e2,o,g,d⟩
  ·have:X.env.scope.names.lookup y=some .local:=kl;rw[kc] at this;cases this
  ·rw[a3] at e2;cases e2;exact⟨c,o,u,ec,S,by rw[Nu S];show Option.map _ _=_;rw[g];rfl,d,ru⟩,λc B=>by
  let⟨y,o,v,_,_,g,d,a,n⟩:=l c B;exact⟨o,v,by rw[Nu B];exact a,d⟩⟩
 let q2:=q (reT cs Hv E) eU (λb D=>UB D) (λb o e=>by
  rw[UB λw=>?_];exact e;let⟨y,o',v,_,_,g,d,a,n⟩:=l b w;rw[n] at e;cases e) CA
 let r2:ZR (vs++[]) (us++[]):=r.append .nil;let a6:(us++[]).length=ps.length:=by rw[<-r2.length,vZ];exact F.len _ _ _ _ q2
 refine wpAny_call (codeAny_mono (F.run X.A X.stack M (reT cs Hv E) ⟨us,[]⟩ (us++[]) vs _ E0 hr e0 (D M us C.kIn a6) (by rw[vZ];exact r) q2) λrr s' Y=>?_)
 cases rr with
 | error ev=>exact Y.elim
 | ok fl=>
  cases fl with
  | ret u=>
   let⟨v,H2,os,O,un,G,rv,a1,q3⟩:=Y;let T:∀ c∈cs,∃ o,reT cs Hv E c=some (XH c o)/\H2 c=some (XH c o):=λc B=>by
    let⟨y,o,v,_,_,g,d,a,n⟩:=l c B;let z:reT cs Hv E c=some (XH c o):=by rw[Nu B];exact a
    exact⟨o,z,by rw[a1 c B];exact z⟩
   let a2:=Eg un V G T;rw[eU] at a2;exact C.after ⟨v,unT cs H2,os,O,a2,G.unT (λc B=>by
    let⟨o,_,z⟩:=T c B;exact⟨o,z⟩),rv,q3⟩
  | next=>exact False.elim Y
  | brk=>exact False.elim Y
  | cont=>exact False.elim Y
section
variable{κ:Type}[DecidableEq κ]
def YR(a:List (κ×V))(k:κ):jf:=(a.find? λb=>decide (b.1=k)).map (·.2)
def YX(a:List (κ×V))(k:κ)(v:V):List (κ×V):=
 if (a.any λb=>decide (b.1=k))=true then a.map (λb=>if b.1=k then (b.1,v) else b) else a++[(k,v)]
def Wq(a:List (κ×V))(k:κ):List (κ×V):=a.filter λb=>decide (b.1≠k)
def Ux{p:κ×V}{r:List (κ×V)}{k:κ}(e:p.1=k):YR (p::r) k=some p.2:=by simp[YR,xE,e]
def Ub{p:κ×V}{r:List (κ×V)}{k:κ}(e:¬ p.1=k):YR (p::r) k=YR r k:=by simp[YR,xE,e]
def NQ(k:κ):∀ a:List (κ×V),(a.any λb=>decide (b.1=k))=(YR a k).isSome
 | []=>rfl
 | p::r=>by
  rw[wA];by_cases e:p.1=k
  ·simp only[Ux e,aO e,Bool.true_or,Option.isSome_some]
  ·rw[Ub e,aM e,Bool.false_or];exact NQ k r
def Gc(k j:κ)(y:V):∀ a:List (κ×V),YR (a.map λb=>if b.1=k then (b.1,y) else b) j=(YR a j).map λx=>if j=k then y else x
 | []=>rfl
 | p::r=>by
  let c:=Gc k j y r;rw[yP];by_cases h:p.1=k
  ·rw[aQ h];by_cases e:p.1=j
   ·rw[Ux (p:=(p.1,y)) e,Ux e,uW,aQ (e.symm.trans h)]
   ·rw[Ub (p:=(p.1,y)) e,Ub e,c]
  ·rw[aP h];by_cases e:p.1=j
   ·rw[Ux (p:=p) e,Ux e,uW,aP (λz=>h (e.trans z))]
   ·rw[Ub (p:=p) e,Ub e,c]
def GX(k j:κ)(y:V):∀ a:List (κ×V),YR a k=none->YR (a++[(k,y)]) j=if j=k then some y else YR a j
 | [],_=>by
  by_cases e:k=j
  ·rw[aQ e.symm];exact Ux (p:=(k,y)) e
  ·rw[aP (λz=>e z.symm)];exact Ub (p:=(k,y)) e
 | p::r,hn=>by
  rw[uV];let b:¬ p.1=k:=λz=>by rw[Ux z] at hn;cases hn
  rw[Ub b] at hn;let c:=GX k j y r hn;by_cases e:p.1=j
  ·rw[Ux e,Ux e,aP (λz=>b (e.trans z))]
  ·rw[Ub e,Ub e,c]
def Nn(b:List (κ×V))(k j:κ)(y:V):YR (YX b k y) j=if j=k then some y else YR b j:=by
 unfold YX;by_cases a:(b.any λd=>decide (d.1=k))=true
 ·rw[aQ a,Gc];rw[NQ] at a;by_cases e:j=k
  ·let⟨x,c⟩:=sK.mp a;rw[aQ e,e,c,uW,aQ rfl]
  ·rw[aP e]
   cases YR b j with
   | none=>rfl
   | some x=>rw[uW,aP e]
 ·rw[aP a];refine GX k j y b ?_;rw[NQ] at a
  cases q:YR b k with
  | none=>rfl
  | some x=>rw[q] at a;exact(a Z).elim
def EM(a:List (κ×V))(k:κ)(v:V):(YX a k v).length<=a.length+1:=by
 unfold YX;split
 ·rw[zX];lia
 ·rw[yZ,yJ,List.length_nil];lia
def Hx{a:List (κ×V)}{k:κ}(v:V)(h:YR a k=none):YX a k v=a++[(k,v)]:=by
 unfold YX;rw[NQ,h];exact aP (by decide)
def Yu.isSome_eq{o:jf}{u:jc}(r:Yu o u):o.isSome=u.isSome:=by
 cases o with
 | none=>cases u with
  | none=>rfl
  | some _=>exact(show False from r).elim
 | some _=>cases u with
  | none=>exact(show False from r).elim
  | some _=>rfl
def KV.val{a:List (κ×V)}{g:List (κ×ai)}(r:KV a g)(k:κ):Yu (YR a k) (valueAt g k):=by
 unfold KV at r
 induction r with
 | nil=>exact True.intro
 | @cons p q l d h t j=>
  let⟨f,i⟩:=h;by_cases e:p.1=k
  ·let c:q.1=k:=f.symm.trans e;let b:valueAt (q::d) k=some q.2:=by simp[valueAt,xE,c]
   rw[Ux e,b];exact i
  ·let c:¬ q.1=k:=λz=>e (f.trans z);let b:valueAt (q::d) k=valueAt d k:=by simp[valueAt,xE,c]
   rw[Ub e,b];exact j
def KV.any{a:List (κ×V)}{c:List (κ×ai)}(r:KV a c)(k:κ):(a.any λb=>decide (b.1=k))=c.any λb=>decide (b.1=k):=by
 unfold KV at r
 induction r with
 | nil=>rfl
 | cons h t d=>rw[wA,wA,d,h.1]
def KV.repl{b:List (κ×V)}{d:List (κ×ai)}(r:KV b d)(k:κ){y:V}{u:ai}(i:ZY y u):
  KV (b.map λa=>if a.1=k then (a.1,y) else a) (d.map λa=>if a.1=k then (a.1,u) else a):=by
 unfold KV at r⊢
 induction r with
 | nil=>exact .nil
 | @cons p q j l h t g=>
  rw[yP,yP];refine .cons ?_ g;let⟨c,f⟩:=h;by_cases e:p.1=k
  ·rw[aQ e,aQ (c.symm.trans e)];exact⟨c,i⟩
  ·rw[aP e,aP (λz=>e (c.trans z))];exact⟨c,f⟩
def KV.put{a:List (κ×V)}{b:List (κ×ai)}(r:KV a b)(k:κ){y:V}{u:ai}(c:ZY y u):KV (YX a k y) (stored b k u):=by
 unfold YX stored;rw[r.any k];by_cases e:(b.any λd=>decide (d.1=k))=true
 ·rw[aQ e,aQ e];exact r.repl k c
 ·rw[aP e,aP e];exact Paired.snoc r ⟨Z,c⟩
def KV.drop{c:List (κ×V)}{g:List (κ×ai)}(r:KV c g)(k:κ):KV (Wq c k) (without g k):=by
 unfold KV at r⊢;unfold Wq without
 induction r with
 | nil=>exact .nil
 | @cons p q l m h t f=>
  let⟨d,j⟩:=h;rw[uU,uU];by_cases e:p.1=k
  ·let a:¬ decide (p.1≠k)=true:=by simp[e]
   let b:¬ decide (q.1≠k)=true:=by simp[d.symm.trans e]
   rw[aP a,aP b];exact f
  ·let i:¬ q.1=k:=λz=>e (d.trans z);let a:decide (p.1≠k)=true:=by simp[e]
   let b:decide (q.1≠k)=true:=by simp[i]
   rw[aQ a,aQ b];exact .cons ⟨d,j⟩ f
def KV.keys{a:List (κ×V)}{b:List (κ×ai)}(r:KV a b):a.map (·.1)=b.map (·.1):=by
 unfold KV at r
 induction r with
 | nil=>rfl
 | cons h t c=>rw[yP,yP,c,h.1]
def KV.length{a:List (κ×V)}{b:List (κ×ai)}(r:KV a b):a.length=b.length:=Paired.length r
def Dj(a:List (κ×V))(k:κ):(Wq a k).length<=a.length:=uC _ _
end
def Nq{P:am}{w:aw}{k:ZW}{u:ai}(r:ZY (kV k) u):(UO P w).is k u=true:=by
 cases k with
 | inl i=>let⟨t,e⟩:=(show ∃ t,u=Value.int i t from r);subst e;exact ZGJ P w i t
 | inr x=>let⟨t,e⟩:=(show ∃ t,u=Value.str x t from r);subst e;exact BN P w x t
def Ig{P:am}{w:aw}:∀{a:jE}{b:jd},ZR (a.map kV) b->ItemsAre (UO P w) a b
 | [],_,r=>by rw[wB] at r;cases r;exact .nil
 | k::a,_,r=>by
  rw[yP] at r
  cases r with
  | cons h t=>exact .cons (Nq h) (Ig t)
abbrev KT(H:Hp):List (jE×V)->List (jE×aj×ai)->Prop:=Paired λp q=>p.1=q.1/\H q.2.1=some (.tup (p.1.map kV))/\ZY p.2 q.2.2
def KT.val{H:Hp}{a:List (jE×V)}{g:List (jE×aj×ai)}(r:KT H a g)(k:jE):Yu (YR a k) ((atKey g k).map (·.2)):=by
 induction r with
 | nil=>exact True.intro
 | @cons p q l d h t j=>
  let⟨f,_,i⟩:=h;by_cases e:p.1=k
  ·let c:q.1=k:=f.symm.trans e;let b:atKey (q::d) k=some q.2:=by simp[atKey,xE,c]
   rw[Ux e,b];exact i
  ·let c:¬ q.1=k:=λz=>e (f.trans z);let b:atKey (q::d) k=atKey d k:=by simp[atKey,xE,c]
   rw[Ub e,b];exact j
def KT.repl{H:Hp}{a:List (jE×V)}{f:List (jE×aj×ai)}(r:KT H a f)(k:jE){y:V}{u:ai}(j:ZY y u):
  KT H (a.map λc=>if c.1=k then (c.1,y) else c) (f.map (putAt k u)):=by
 induction r with
 | nil=>exact .nil
 | @cons p q l m h t i=>
  rw[yP,yP];refine .cons ?_ i;let⟨b,d,g⟩:=h;unfold putAt;by_cases e:p.1=k
  ·rw[aQ e,aQ (b.symm.trans e)];exact⟨b,d,j⟩
  ·rw[aP e,aP (λz=>e (b.trans z))];exact⟨b,d,g⟩
def KT.put{H:Hp}{a:List (jE×V)}{c:List (jE×aj×ai)}(r:KT H a c)(k:jE){b:aj}{y:V}{u:ai}(f:H b=some (.tup (k.map kV)))(d:ZY y u):
  KT H (YX a k y) (storedH c k b u):=by
 let e:(a.any λg=>decide (g.1=k))=(atKey c k).isSome:=by
  rw[NQ,(r.val k).isSome_eq,Option.isSome_map]
 unfold YX storedH;rw[e];by_cases q:(atKey c k).isSome=true
 ·rw[aQ q,aQ q];exact r.repl k d
 ·rw[aP q,aP q];exact Paired.snoc r ⟨Z,f,d⟩
def KT.keeps{H c:Hp}{a:List (jE×V)}{d:List (jE×aj×ai)}(r:KT H a d)(f:∀ b e,H b=some (.tup e)->c b=some (.tup e)):KT c a d:=
 Paired.mapP r λ_ _ z=>⟨z.1,f _ _ z.2.1,z.2.2⟩
section
variable{H:Hp}{h:aD}{a:aj}
def FV{u:HO}(b:YW P w H h)(e:Rd H a u):Zk P w H h a u:=e.ok b
def Na{b:List (ZW×V)}(d:YW P w H h)(e:Rd H a (.dK b)):b.length<=aq/\(a==sysModules)=false/\∃ c,KV b c/\h.DictOf (UO P w) a c:=
 show Zk P w H h a (.dK b) from FV d e
def JJ{b:List (ZW×V)}(d:YW P w H h)(e:H a=some (.dK b)):b.length<=aq/\(a==sysModules)=false/\∃ c,KV b c/\h.DictOf (UO P w) a c:=Na d (.inl e)
def LX{c:jE}(i:YW P w H h)(e:H a=some (.tup (c.map kV))):(tupleKind (UO P w)).is h c a:=by
 let⟨_,b,r,o,d,f,n,g⟩:=(show Zk P w H h a (.tup (c.map kV)) from i a _ e);exact⟨o,b.toArray,n,d,f,g,by simpa using Ig r⟩
def MH{b:List (jE×V)}(i:YW P w H h)(e:Rd H a (.dT b)):b.length<=aq/\(a==sysModules)=false /\
  ∃ d,KT H b d/\h.DictOfH (tupleKind (UO P w)) a d:=by
 let⟨z,y,d,r,o,k,j,n,s,u,v,A⟩:=(show Zk P w H h a (.dT b) from FV i e);refine⟨z,y,d,r,o,k,j,n,s,u,v,λx c=>?_,A⟩;let f:∀{l:List (jE×V)}{m:List (jE×aj×ai)},KT H l m->∀ x∈m,(tupleKind (UO P w)).is h x.1 x.2.1:=by
  intro l m q
  induction q with
  | nil=>intro x c;exact nomatch c
  | @cons p q C D g t B=>
   intro x c;rcases zF.mp c with e | c
   ·subst e;exact LX i (by rw[<-g.1];exact g.2.1)
   ·exact B x c
 exact f r x c
def Cd{b:List (jE×V)}(d:YW P w H h)(e:H a=some (.dT b)):b.length<=aq/\(a==sysModules)=false /\
  ∃ c,KT H b c/\h.DictOfH (tupleKind (UO P w)) a c:=MH d (.inl e)
end
def YD(H:Hp)(a:aj)(y:V)(r:jf):Prop:=
 (∃ c k,Rd H a (.dK c)/\y=kV k/\r=YR c k)\/∃ c k b,Rd H a (.dT c)/\y=.ref b/\H b=some (.tup (k.map kV))/\r=YR c k
def Wz(H:Hp)(a:aj)(y v:V)(d:Hp):Prop:=
 (∃ c k,H a=some (.dK c)/\y=kV k/\c.length<aq/\d=upd H a (.dK (YX c k v))) \/
 ∃ c k b,H a=some (.dT c)/\y=.ref b/\H b=some (.tup (k.map kV))/\c.length<aq/\d=upd H a (.dT (YX c k v))
def YD.k{H:Hp}{a:aj}{b:List (ZW×V)}{k:ZW}(e:H a=some (.dK b)):YD H a (kV k) (YR b k):=.inl ⟨b,k,.inl e,Z,Z⟩
def Wz.k{H:Hp}{a:aj}{b:List (ZW×V)}{k:ZW}{v:V}(e:H a=some (.dK b))(c:b.length<aq):Wz H a (kV k) v (upd H a (.dK (YX b k v))):=.inl ⟨b,k,e,Z,c,Z⟩
section
variable{jW:js}{σ:St}{H:Hp}{a:aj}{y v:V}{u r:ai}{o:jf}
def BP{Q:ja}(F:A.units+1<cLine)(I:ZI X jW σ H s)(g:YD H a y (some v))(t:ZY y u)(h:∀ f x,ZI X jW σ H x->ZY v f->Q f x):
  aB (aA X.prog X.w) A (getItem (.ref a) u) Q E s:=by
 rcases g with ⟨q,k,e,j,l⟩ | ⟨q,k,b,e,j,B,l⟩
 ·subst j;let⟨z,C,G,c,i⟩:=Na I.hok e;let⟨f,n,d⟩:=Yu.some_of (v:=v) (o:=valueAt G k) (by rw[l];exact c.val k)
  exact wpAny_getItem_of (Nq t) i.mapOf n (h f _ (I.tok _) d)
 ·subst j;cases(show u=Value.ref b from t);let⟨z,C,J,c,i⟩:=MH I.hok e;let⟨f,n,d⟩:=Yu.some_of (v:=v) (o:=(atKey J k).map (·.2)) (by rw[l];exact c.val k)
  let⟨p,D,m⟩:=yA.mp n;refine wpAny_getItem_heap (tupleKind_room_in1 F) (LX I.hok B) i D ?_;rw[m];exact h f _ (I.tok _) d
def C6{Q:ja}(t:A.units+1<cLine)(I:ZI X jW σ H s)(g:YD H a y o)(m:ZY y u)(h:∀ n,ZI X jW σ H n->Q (.bool (!o.isSome)) n):
  aB (aA X.prog X.w) A (az .NotIn u (.ref a)) Q E s:=by
 rcases g with ⟨j,k,e,f,l⟩ | ⟨j,k,b,e,f,p,l⟩
 ·subst f;let⟨z,i,x,c,d⟩:=Na I.hok e;refine wpAny_notIn_of (Nq m) i d.mapOf ?_;rw[<-(c.val k).isSome_eq,<-l];exact h _ (I.tok _)
 ·subst f;cases(show u=Value.ref b from m);let⟨z,i,B,c,d⟩:=MH I.hok e;refine wpAny_notIn_heap (tupleKind_room_in1 t) (LX I.hok p) i d ?_;let q:=(c.val k).isSome_eq;rw[Option.isSome_map] at q;rw[<-q,<-l];exact h _ (I.tok _)
def Kj{c:aD}{k:Nat}{f:HO}(I:ZI X jW σ H s)(j:MF (H a))(i:wG a s.heap c)(h:∃ q,c.get? a=some q)(d:Zk X.prog X.w (upd H a f) c a f):
  ZI X jW σ (upd H a f) { s with heap:=c,toks:=k }:=
 I.write (x:=a) (e:=a) j (.inl rfl) (λb q g z=>(i.2 b g).trans z) h d
def FJ{P:am}{w:aw}{f:Hp}{e:aD}{b:List (ZW×V)}{d:List (ZW×ai)}(z:b.length<=aq)(h:(a==sysModules)=false)(c:KV b d)(g:e.DictOf (UO P w) a d):
  Zk P w f e a (.dK b):=⟨z,h,d,c,g⟩
def ZJn{D:Hp}{Q:Unit->al->Prop}(V:A.units+1<cLine)(I:ZI X jW σ H s)(g:Wz H a y v D)(L:ZY y u)(K:ZY v r)(h:∀ M,ZI X jW σ D M->Q () M):
  aB (aA X.prog X.w) A (setItem (.ref a) u r) Q E s:=by
 rcases g with ⟨d,k,e,p,l,n⟩ | ⟨d,k,b,e,p,F,l,n⟩
 ·subst p n;let⟨z,t,W,f,m⟩:=JJ I.hok e;let C:W.length<=sizeLine:=by rw[<-f.length];exact z
  let x:(YX d k v).length<=sizeLine:=by have:=EM d k v;lia
  refine wpAny_setItem_pairs (hsz:=C) (Nq L) m λJ i B=>h _ ?_;let U:∃ q,J.get? a=some q:=let ⟨q,_,_,j,_⟩:=i;⟨q,j⟩;exact Kj I (by rw[e];exact True.intro) B U (FJ x t (f.put k K) i)
 ·subst p n;cases(show u=Value.ref b from L);let⟨z,t,Y,f,m⟩:=Cd I.hok e;let C:Y.length<=sizeLine:=by rw[<-Paired.length f];exact z
  let x:(YX d k v).length<=sizeLine:=by have:=EM d k v;lia
  refine wpAny_setItem_heap (hsz:=C) (tupleKind_room_in1 V) (LX I.hok F) m λJ i B=>h _ ?_;let⟨q,O,N,j,P,R,S,_,T⟩:=i;refine Kj I (by rw[e];exact True.intro) B ⟨q,j⟩ ⟨x,t,_,(f.put k F K).keeps λc ys G=>?_,q,O,N,j,P,R,S,T⟩
  rw[ZU (ZE G e (λz=>nomatch z))];exact G
end
section
variable{jW:js}{σ:St}{H:Hp}{a:aj}{kvs:List (ZW×V)}{k:ZW}{u:ai}
def ZPs{v:V}{b:jd}{Q:ja}(I:ZI X jW σ H s)(e:H a=some (.dK kvs))(j:ZY (kV k) u)(l:YR kvs k=some v)(n:b=[]\/∃ x,b=[x])(h:∀ f p,ZI X jW σ (upd H a (.dK (Wq kvs k))) p->ZY v f->Q f p):aB (aA X.prog X.w) A (call (.builtin "dict.pop") (.ref a::u::b)) Q E s:=by
 let⟨z,C,r,c,m⟩:=JJ I.hok e;let⟨f,K,g⟩:=Yu.some_of (v:=v) (o:=valueAt r k) (by rw[<-l];exact c.val k)
 let G:(keyPart u).isSome=true:=by
  cases k with
  | inl i=>let⟨t,q⟩:=(show ∃ t,u=Value.int i t from j);subst q;rfl
  | inr x=>let⟨t,q⟩:=(show ∃ t,u=Value.str x t from j);subst q;rfl
 let B:argsOk "dict.pop" ⟨.ref a::u::b,[]⟩:=by
  rcases n with q | ⟨x,q⟩
  ·subst q;exact PySem.F.args_dict_pop_2 _ _
  ·subst q;exact PySem.F.args_dict_pop_3 _ _ _
 refine call_meetsIn rP m.typeIs PySem.F.entry_dict_pop B (meets_dict_pop_there (UO X.prog X.w) a (Nq j) b n G)
  ⟨r,f,m,by rw[<-c.length];exact z,K,λy d J=>h f _ ?_ g⟩
 let D:∃ q,y.get? a=some q:=let ⟨q,_,_,hq,_⟩:=d;⟨q,hq⟩;exact Kj I (by rw[e];exact True.intro) J D (FJ (zC (Dj kvs k) z) C (c.drop k) d)
def Bh{Q:ja}(I:ZI X jW σ H s)(e:Rd H a (.dK kvs))(h:∀ t c,ZI X jW σ H c->Q (.int kvs.length t) c):aB (aA X.prog X.w) A (call (.builtin "len") [.ref a]) Q E s:=by
 let⟨z,f,g,b,d⟩:=Na I.hok e;refine call_len_dict f d (by rw[<-b.length];rw[sizeLine_eq] at z;lia (splits:=8)) ?_
 rw[<-b.length];exact h _ _ (I.tok _)
end
def He(i:Expr):Prop:=∀ b a,subscripted i false b a=operate [b,a] (getItem b a)
def ZNc{a:am}{w:aw}{A:ax}{E:ja}{s:al}{j:Env}{c b:Expr}{n:aK}{T id:String}{Q:ja}(q:typeLookup (.type T) "__getitem__" = pure (some (.builtin id)))(t:He b)(h:aB (aA a w) A (aI c j) (λo f=>aB (aA a w) A (aI b j) (λi d=>d.TypeIs o T/\aB (aA a w) A (getItem o i) Q E d) E f) E s):
  aB (aA a w) A (aI (.Subscript c b n) j) Q E s:=by
 refine Subscript_ (ae h (λo f l=>ae l (λi d e=>?_) λ_ _ x=>x) λ_ _ x=>x);let⟨p,e⟩:=e;unfold subscriptTail;refine aa ?_;rw[getitemInPython_of_ne p.not_modules];refine aa (wpAny_specialOf p q ?_);let k:aB (aA a w) A (subscripted b false o i) (λr g=>aB (aA a w) A (letTemporaryGo c o r >>= λ_=>pure r) Q E g) E d:=by
  rw[t o i];exact wpAny_operating (ae e (λr g m=>aa (wpAny_letTemporaryGo (ad m))) λ_ _ x=>x)
 first
  | exact ad (aa k)
  | exact aa (ad (aa k))
  | exact aa k
def ZGO{X:Cx}{c:js}{h:St}{H:Hp}{s:al}{a:aj}{y:V}{o:jf}(I:ZI X c h H s)(g:YD H a y o):s.TypeIs (.ref a) "dict" :=by
 rcases g with ⟨f,k,e,_,_⟩ | ⟨f,k,b,e,_,_,_⟩
 ·let⟨_,_,i,_,d⟩:=Na I.hok e;exact d.typeIs
 ·let⟨_,_,j,_,d⟩:=MH I.hok e;exact d.typeIs
inductive Oe(Q:VK)(x y:V)(b:Hp):Prop
 |mk(a v:_)(_:x=.ref a)(_:YD b a y (some v))(_:Q v b)
def ZPP(d e:TE):TE:=λa H Q=>d a H λx b=>e a b λy c=>Oe Q x y c
inductive Qc(Q:VK)(y x:V)(b:Hp):Prop
 |mk(a o:_)(_:x=.ref a)(_:YD b a y o)(_:Q (.bl (!o.isSome)) b)
def Cw(e d:TE):TE:=λa H Q=>e a H λy b=>d a b λx c=>Qc Q y x c
inductive Od(D:Yf)(d:L2.St)(v x y:V)(c:Hp):Prop
 |mk(a b:_)(_:x=.ref a)(_:Wz c a y v b)(_:D.nx d b)
def ZPz(e g f:TE):TS:=λD a H=>f a H λv b=>e a b λx c=>g a c λy d=>Od D a v x y d
section
variable{o i e value:Expr}{pos pos' tpos:aK}{td ty tv:TE}
def Vg(t:X.A.units+1<cLine)(q:PE X o td)(p:PE X i ty)(r:He i:=by exact λ_ _=>rfl):PE X (.Subscript o i pos) (ZPP td ty):=by
 intro b s f H Q I h;refine ZNc PySem.F.slot_dict_getitem.lookup r (YO (q b s f H _ I h) λu D x j l B w=>Z5 (p b D f j _ l w) ?_);rintro E G ⟨y,k,d,C,a,v,n,g,z⟩;subst n;obtain rfl:u=Value.ref a:=B;exact⟨ZGO d g,BP t d g C λK J m c=>⟨v,k,m,c,z⟩⟩
def J7(q:X.A.units+1<cLine)(n:PE X i ty)(p:PE X o td):PC X .NotIn i o (Cw ty td):=by
 intro b s c H Q I h;refine YO (n b s c H _ I h) λC B y d j z t=>Z5 (p b B c d _ j t) ?_;rintro u D ⟨x,f,k,w,a,r,m,g,v⟩;subst m;obtain rfl:u=Value.ref a:=w;exact C6 q k g z λE l=>⟨.bl (!r.isSome),f,l,Z,v⟩
def NG(z:X.A.units+1<cLine)(t:PE X o td)(q:PE X i ty)(B:PE X value tv)(w:aF value (some (.Subscript o i pos')) pos.line X.env=pure false):
  PS X (.Assign [.Subscript o i pos'] value pos) (ZPz td ty tv):=by
 intro b s c H D I h;refine wpAny_Assign_Subscript (YO (B b s c H _ I h) λr L v d k G C=>YO (t b L c d _ k C) λu M x f l J E=>Z5 (q b M c f _ l E) λO P ⟨y,N,m,K,a,j,p,g,F⟩=>?_) w;subst p;obtain rfl:u=Value.ref a:=J;exact ZJn z m g K G λQ n=>⟨c,j,n,F⟩
end
section
variable{pos:aK}
end
structure M1(X:Cx)(o:Expr)(m:Str)(jj:aK)(e:Expr)(ji:aK):Prop where
 base:attributeBase o m X.env (aI o X.env)=aI o X.env
 few:((aG ji (ar [e] X.env)).all (λx=>!x.1)&&(backToKw ji (keywordEach [] X.env)).all (λx=>x.1.isSome)
  && decide (([e]:jx).length+([]:List Keyword).length+(if ([]:List Keyword).isEmpty then 0 else 1)<30))=true
 line:(jj.endLine==ji.line)=true
 trees:aG ji (ar [e] X.env)=[(false,aI e X.env)]
def Hb(H:Hp)(a:aj):Prop:=(∃ b,Rd H a (.dK b))\/∃ b,Rd H a (.dT b)
def Bo{X:Cx}{g:js}{l:St}{H:Hp}{s:al}{a:aj}(I:ZI X g l H s)(d:Hb H a):
  s.TypeIs (.ref a) "dict" /\ (∀ b,Value.ref a=.ref b->∃ c,s.heap.get? b=some c/\c.dict=none)/\(a==sysModules)=false:=by
 rcases d with ⟨k,e⟩ | ⟨k,e⟩
 ·let⟨_,j,m,_,f⟩:=Na I.hok e;refine⟨f.typeIs,λb q=>?_,j⟩;cases q;let⟨c,_,_,h,i,_⟩:=f;exact⟨c,h,i.2.1⟩
 ·let⟨_,j,n,_,f⟩:=MH I.hok e;refine⟨f.typeIs,λb q=>?_,j⟩;cases q;let⟨c,_,_,h,i,_⟩:=f;exact⟨c,h,i.2.1⟩
section
variable{jW:js}{σ:St}{H:Hp}{a:aj}{y d:V}{u r:ai}{o:jf}
end
inductive Q8(e:TE)(f:L2.St)(Q:VK)(x:V)(c:Hp):Prop
 |mk(a:_)(_:x=.ref a)(_:Hb c a)(_:e f c λy d=>∃ b k v,d a=some (.dK b)/\y=kV k/\YR b k=some v/\Q v (upd d a (.dK (Wq b k))))
def ZOm(c d:TE):TE:=λa H Q=>c a H λx b=>Q8 d a Q x b
section
variable{o e f:Expr}{jj ji:aK}{td ty tx:TE}
def DZ(z:PE X o td)(w:PE X e ty)(m:M1 X o "pop" jj e ji):PE X (.Call (.Attribute o "pop" jj) [e] [] ji) (ZOm td ty):=by
 intro b s i H Q I h;refine wpAny_Call_method m.base m.few m.line PySem.F.plainAttrs_dict rP PySem.F.type_dict_pop (Z5 (z b s i H _ I h) ?_);rintro u G ⟨x,j,g,D,a,r,d,B⟩;subst r;obtain rfl:u=Value.ref a:=D;let⟨J,K,_⟩:=Bo g d;exists J,K;rw[m.trees];refine Calls.callWith_builtin Z (Calls.evalArgs_plain (Calls.spliced_cons (Z5 (w b G i j _ g B) λM N ⟨y,L,n,E,A,k,v,q,t,l,C⟩=>Calls.spliced_nil ?_)));subst t;exact ZPs n q E l (.inl rfl) λP O p c=>⟨v,_,p,c,C⟩
end
section
variable{jW:js}{σ:St}{H:Hp}{a:aj}{kvs:List (ZW×V)}
end
section
variable{jW:js}{σ:St}{H:Hp}{a:aj}{y:V}{u:ai}
end
inductive UQ(c:je)(H:Hp)(Q:VK):Prop
 |mk(a b:_)(_:c=[V.ref a])(_:H a=some (.dK b))(_:Q (.int b.length) H)
def J0:Vf X (.builtin "len") (UQ):=by
 intro c s k H j i Q I r h;let⟨a,b,rfl,e,q⟩:=h;let⟨u,rfl,f⟩:=V5 r;cases f;exact Bh I (.inl e) λt g d=>⟨.int b.length,H,d,⟨t,Z⟩,q⟩
section
variable{κ:Type}[DecidableEq κ]
def LM{a:List (κ×V)}{k:κ}{v:V}(h:YR a k=some v):k∈a.map (·.1):=by
 let q:(a.any λc=>decide (c.1=k))=true:=by
  rw[NQ,h]
  all_goals rfl
 let⟨p,b,e⟩:=List.any_eq_true.mp q;exact zO.mpr ⟨p,b,of_decide_eq_true e⟩
def ZI3{p:κ×V}{r:List (κ×V)}{k:κ}(e:p.1=k):Wq (p::r) k=Wq r k:=by
 unfold Wq;rw[uU,aP (by simp[e])]
def Bc{p:κ×V}{r:List (κ×V)}{k:κ}(e:¬ p.1=k):Wq (p::r) k=p::Wq r k:=by
 unfold Wq;rw[uU,aQ (by simp[e])]
end
end L2
namespace Tw
open PySem PySem.Spec L2
variable{jg jh CS CT CH CK CP CB:aj}
def top(i:Nat):Stmt:=PySem.Challenge.pw_twigmap_k23_refused_of_the_shelf.main.body.getD i (.Pass ⟨0,0,0,0⟩)
abbrev IT:Stmt:=top 12
abbrev KC:Stmt:=top 13
abbrev MQ:Stmt:=top 14
abbrev KO:Stmt:=top 15
abbrev Jx:Stmt:=top 16
abbrev Jk:Stmt:=top 17
abbrev La:Stmt:=top 18
abbrev Jq:Stmt:=top 28
abbrev J9:Stmt:=top 29
abbrev Kl:Stmt:=top 30
abbrev Ja:Stmt:=top 31
abbrev K0:Stmt:=top 32
abbrev Jp:Stmt:=top 33
abbrev JS:Stmt:=top 36
abbrev KR:Stmt:=top 38
abbrev IP:Stmt:=top 39
abbrev LI:Stmt:=top 40
abbrev Kb:Stmt:=top 41
abbrev Lu:Stmt:=top 42
abbrev KK:Stmt:=top 43
abbrev IB:Stmt:=top 44
abbrev JM:Stmt:=top 45
abbrev KH:Stmt:=top 46
abbrev Jb:Stmt:=top 47
abbrev JY:Stmt:=top 48
abbrev JO:Stmt:=top 50
abbrev J1:Stmt:=top 51
abbrev Jh:Stmt:=top 52
abbrev JL:Stmt:=top 53
abbrev IN:Stmt:=top 54
abbrev IQ:Stmt:=top 56
abbrev Jo:Stmt:=top 57
abbrev K5:Stmt:=top 58
abbrev V4:Stmt:=top 59
abbrev KB:Stmt:=top 60
abbrev Jz:Stmt:=top 61
abbrev KW:Stmt:=top 62
abbrev Po:Stmt:=top 63
abbrev Uv:Stmt:=top 64
abbrev JK:Stmt:=top 65
abbrev PX:Stmt:=top 66
structure YY(mg:jb):Prop where
 isi:mg "isinstance" = none
 bool:mg "bool" = none
 int:mg "int" = none
 str:mg "str" = none
 tuple:mg "tuple" = none
 list:mg "list" = none
 len:mg "len" = none
 all:mg "all" = none
 abs:mg "abs" = none
 max:mg "max" = none
 min:mg "min" = none
 range:mg "range" = none
 sorted:mg "sorted" = none
 ValueError:mg "ValueError" = none
 sum:mg "sum" = none
 signs:∃ t,mg "MOST_SIGNS" = some (.int 40 t)
 things:∃ t,mg "MOST_THINGS" = some (.int 4 t)
 deep:∃ t,mg "MOST_DEEP" = some (.int 3 t)
 rows:∃ t,mg "MOST_ROWS" = some (.int 4 t)
 few:∃ t,mg "FEWEST_BRANCHES" = some (.int 2 t)
 most:∃ t,mg "MOST_BRANCHES" = some (.int 4 t)
 height:∃ t,mg "HEIGHT" = some (.int 0 t)
 least:∃ t,mg "LEAST" = some (.int 1 t)
 greatest:∃ t,mg "GREATEST" = some (.int 2 t)
 many:∃ t,mg "MANY" = some (.int 3 t)
def QU:ZB ["_law_well_here","_law_many","_law_found","_law_first","_law_second"] zEf (Zf IP):=YA
def ZNS(F:Zn K "_law_pull" "_law_pull" IP f fd):ZH P w K mg jX Zd 1 f fd zEf YK:=by
 refine F.ok QU (λz H Q E h=>?_) (λy A q s H z Q E G h=>?_)
 ·let⟨p,m,rfl,_⟩:=h;rfl
 let⟨p,m,rfl,W,⟨g,l⟩,k⟩:=h;let⟨a,b,c,d,n,i,j,r,D⟩:=W.ex;let o:=QU.nd;intro B;refine⟨_,ZP (Zo (YI Y1 (UZ YF (pv 0) ZJ (λ_ _=>rfl)) ZJ (Zz _)) (ZV (Zl ZJ)) Zt)
  (ZP (Qx (Z1 Ql (UZ YF (pv 0) ZJ (λ_ _=>rfl)) ZJ) (IU (pv 0) ZJ K1))
  (ZP (Zo (YI PQ (UZ YF (pv 0) ZJ (λ_ _=>rfl)) ZJ (Zz _))
   (ZP (Zx 2 o (Z1 QS (UZ YF (pv 0) ZJ (λ_ _=>rfl)) (pv 1)))
   (ZP (Qx (Z1 ZMb (UZ YF (pv 0) ZJ (λ_ _=>rfl)) (pv 1)) (IU (pv 0) ZJ K1))
   (ZV (Zl (pv 2))))) Zt)
  (ZP (Qx (Z1 WJ (UZ YF (pv 0) ZJ (λ_ _=>rfl)) ZJ) (IU (pv 0) ZJ K1))
  (ZP (Zx 3 o (Z1 QS (Z1 ON (Z1 WJ (UZ YF (pv 0) ZJ (λ_ _=>rfl)) ZJ) (Z1 WJ ZJ (Z1 ON ZJ (UZ YF (pv 0) ZJ (λ_ _=>rfl))))) ZJ))
  (ZP (Zx 4 o (Z1 QS (Z1 ON (Z1 WJ (Z1 IA (pv 3) ZJ) ZJ) (Z1 WJ (Z1 QS (pv 3) ZJ) ZJ)) ZJ))
  (ZV (Zl (Z1 QS (Z1 IA (pv 4) ZJ) (pv 1))))))))),?_⟩
 exists _,Z,p,_,_,_,Z,Z,ZM.of n,Z,Z,_,Z;refine X7 (λ_=>?_) (λu=>?_)
 ·exact k 0 H (Int.le_refl 0) g W (ZF.refl p H)
 let C:d≠0:=λe=>u (aO (by rw[e]))
 exists _,Z,p,_,_,_,Z,Z,ZM.of n,Z,_,_,Z,Z,_,Z,p,_,_,_,Z,Z,n,Z;exists _,Z,p,_,_,_,Z,Z,ZM.of ZO,Z,_,_,Z,Z,_,Z;refine X7 (λv=>?_) (λv=>?_)
 ·exists _,Z,p,_,_,_,Z,Z,ZM.of ZO,Z,_,Z,_,_,Z,Z,g;exists _,Z,p,_,_,_,Z,Z,ZM.of ZO,Z,_,Z,_,_,Z,Z,⟨g,l⟩,_,Z,p,_,_,_,Z,Z,ZO,Z;exists _,Z;refine k (c % m) _ (vN _ ∅) (vK _ g) ⟨a,b,c / m,d-1,ZO,i,j,Int.ediv_nonneg r ∅,∅⟩ (ZF.refl p H).upd.upd
 ·exists _,Z,p,_,_,_,Z,Z,ZM.of ZO,Z,_,_,Z,Z,_,Z,p,_,_,_,Z,Z,ZO,Z;exists _,Z,p,_,_,_,Z,Z,ZM.of ZO,Z,_,_,Z,Z,_,Z,p,_,_,_,Z,Z,ZM.of ZO,Z,_,_,Z,Z,.inl ⟨by decide,by decide⟩,_,_,Z,Z,_,_,Z,Z,.inl ⟨∅,∅⟩,_,_,Z,Z,(by show (0:Int)<2147483629;decide)
  generalize t:(a+1) * (48271+7919 * (b+1)) % 2147483629=x;let I:0<=x:=by rw[<-t];exact vN _ (by decide)
  let J:x<2147483629:=by rw[<-t];exact vK _ (by decide)
  exists _,Z,_,_,Z,Z,⟨by decide,by decide⟩,_,_,Z,Z,_,Z,_,_,Z,Z,(by show (0:Int)<1009;decide),_,_,Z,Z,_,_,Z,Z,.inl ⟨∅,∅⟩,_,_,Z,Z,(by show (0:Int)<1000000007;decide)
  exists _,Z,_,_,Z,Z,⟨by decide,by decide⟩,_,Z,_,_,Z,Z,g
  exact k _ _ (vN _ ∅) (vK _ g) ⟨a,b+1,c,d-1,ZO,i,j,r,∅⟩ (ZF.refl p H).upd.upd
abbrev ZP9:jq:=["_law_script","_law_k","_law_left","_law_cell","_law_digits"]
def Qe:ZB ZP9 zE2 (Zf KR):=YA
def BM(F:Zn K "_law_well" "_law_well" KR f fd)(T:YY mg):ZH P w K mg jX Zd 1 f fd zE2 (UH K):=by
 refine F.ok Qe (λvs H Q E h=>?_) (λX A L s H vs Q E hr h=>?_)
 ·let⟨a,g,k,rfl,_⟩:=h;rfl
 let⟨a,g,k,rfl,u,hn,k0,k1,q⟩:=h;let J:=Qe.nd;intro Xc;refine⟨_,ZP (Zx 2 J (UZ YF (Yp (Zj ZJ (Zj ZJ Zw))) (Vy GV rfl T.int Qw (Zj (Vz Y1 (pv 1) ZJ (Zz _)) Zw)) (λ_ _=>rfl)))
  (ZP (Zx 3 J (UZ YF (Z1 P4 (Vy Q9 rfl T.list QD (Zj (pv 0) Zw)) (Yp (Zj ZJ Zw))) (Z1 QS (pv 1) (Zq (EX rfl) rfl T.max Oo (Zj ZJ (Zj (Zq WK rfl T.len Xu (Zj (pv 0) Zw)) Zw)))) (λ_ _=>rfl)))
  (ZP (Zx 4 J (Z1 ON (Zq KN rfl T.abs L0 (Zj (pv 3) Zw)) (Vy GV rfl T.int Qw (Zj (Q2 (Vz ZPm (Zq KN rfl T.abs L0 (Zj (pv 3) Zw)) (Z1 KA ZJ ZJ) (Zz _)) (OZ (Vz ND (pv 1) (Zq WK rfl T.len Xu (Zj (pv 0) Zw)) (Zz _)))) Zw))))
  (ZV (Zl (Yp (Zj (Z1 QS (pv 3) ZJ) (Zj (Z1 ON ZJ (pv 1)) (Zj (pv 4) (Zj (pv 2) Zw))))))))),?_⟩
 exists (by show 2<=aq;decide)
 intro l1 v;let O:=ZX v (.lst [V.int 240,V.int 2400]);refine⟨_,Z,Z,.inr ⟨_,Z,?_⟩⟩;obtain⟨lv,t,D⟩:∃ z:Int,X8 [V.int 240,V.int 2400] (if decide (V.int k=V.int 0)=true then 1 else 0)=some (.int z)/\0<=z:=by
  split
  ·exact⟨2400,Z,by decide⟩
  ·exact⟨240,Z,by decide⟩
 exists l1,_,_,_,Z,Z,ZM.of ZO,t;exists _,Z,a,_,Z,.inl (O.seq u);intro S y;let g2:=O.trans (ZX y (.lst (g.map V.int)));exists (by show 1<=aq;decide)
 intro U n;let g3:=g2.trans (ZX n (.lst [V.int 0]));let I:S≠U:=Za ZO n;exists S,U,_,_,Z,Z,(by rw[ZU I];exact ZO),ZO,(by rw[zX];exact nn (by show g.length+1<=1000;lia))
 intro l4 B;let p:=g3.trans (ZX B (.lst (g.map V.int++[V.int 0])));exists _,Z,_,Z,a,_,Z,.inl (p.seq u),_,_,Z;let C:(g.map V.int).length=g.length:=zX _;generalize R:(if (((g.map V.int).length:Nat):Int) > 1 then (((g.map V.int).length:Nat):Int) else 1)=M
 let M1:1<=M/\M<=(g.length:Int)+1:=by
  rw[C] at R;rw[<-R];split <;> lia
 exists _,_,Z,Z,by lia
 let i0:0<=k % M:=vN _ ∅
 let i1:k % M<M:=vK _ ∅
 let⟨Y,r,G⟩:=LP (xs:=g.map V.int++[V.int 0]) i0 (by rw[yZ,zX,xA];lia)
 obtain⟨c,rfl⟩:∃ z:Int,Y=.int z:=by
  rcases yQ.mp G with m | m
  ·let⟨z,_,e⟩:=zO.mp m;exact⟨z,e.symm⟩
  ·exact⟨0,yY.mp m⟩
 exists l4,_,_,_,Z,Z,ZM.of ZO,r;let l:∀ b:Bool,0<=(if c<0 then -c else c) * (if b=true then 1 else 0):=λb=>by
  cases b
  ·simp
  ·simp;split <;> lia
 let N:∀(x:Int)(b:Bool),PH x (if b=true then 1 else 0):=λx b=>.inr (by cases b <;> exact⟨by decide,by decide⟩)
 let j:∀(z:Int)(o:Hp),0<=z->ZD H o->∀ i,o i=none->Q (.ref i) (upd o i (.lst [.int (c % 2147483647),.int (1000 * k),.int z,.int lv])):=λz o z0 W i d=>
  q i _ (W.free d) (W.trans (ZX d _)) ⟨_,_,_,_,ZO,vN _ (by decide),vK _ (by decide),z0,D⟩
 exists _,Z,_,Z,_,Z,_,Z,_,_,Z,Z,⟨by decide,by decide,by decide⟩,_,_,Z,Z,_,Z
 refine X7 (λ_=>?_) (λ_=>?_)
 ·refine⟨_,Z,_,Z,a,_,Z,.inl (p.seq u),_,_,Z,Z,.inr ⟨_,Z,_,_,Z,Z,N _ _,?_⟩⟩;exists _,Z,_,_,Z,Z,(by show (0:Int)<2147483647;decide),_,Z,_,_,Z,Z,.inl ⟨by decide,by decide⟩,_,Z,_,Z,(by show 4<=aq;decide)
  intro i d;exact j _ _ (l _) p i d
 ·refine .inr ⟨_,Z,_,_,Z,Z,N _ false,?_⟩;exists _,Z,_,_,Z,Z,(by show (0:Int)<2147483647;decide),_,Z,_,_,Z,Z,.inl ⟨by decide,by decide⟩,_,Z,_,Z,(by show 4<=aq;decide)
  intro i d;exact j _ _ (l false) p i d
structure Zp(K:zZ)(mg:jb)(x:Str)(st:aC)(ps:jq):Prop where
 ex:∃ f fd,Zn K x x st f fd/\YB K fd ps []/\mg x=some (.ref f)
def Zp.of{P:am}{w:aw}{K:zZ}{d:jb}{a:aD}{x:Str}{i:aC}{e:jq}{k:Nat}{g:Sp}(L:Zp K d x i e)(h:∀ f c,Zn K x x i f c->ZH P w K d a Zd k f c e g):ZC P w K d a k x e g:=by
 let⟨f,c,F,b,m⟩:=L.ex;exact⟨f,c,h f c F,b,F.kp,m⟩
def Mw{K:zZ}{h:aD}{p:jb}{x:Str}{e:aC}{n:jq}{f:aj}{t g:jv}{u:Array (jc)}{s kV q m o ct:ai}(X:K.In h)(G:h.Ns ap p)(a:zP K ap x=some (some (.ref f)))(l:K.lookup f=some ⟨s,t,.func (yK x x (Ve e) (Xz e) (Zf e) .none kV q m g o ct),u⟩)(c:xW K o x=true)(k:yX K (.ref f)=true)(r:∀ (kV j m:ai) (g:jv) (i ct:ai) (b:jd),b.length=n.length->bindArgs (yK x x (Ve e) (Xz e) (Zf e) .none kV j m g i ct) ⟨b,[]⟩=pure (n.zip b):=by first | exact(λ_ _ _ _ _ _ b d=>match b,d with | [_],_=>rfl) | exact(λ_ _ _ _ _ _ b d=>match b,d with | [_,_],_=>rfl) | exact(λ_ _ _ _ _ _ b d=>match b,d with | [_,_,_],_=>rfl) | exact(λ_ _ _ _ _ _ b d=>match b,d with | [_,_,_,_],_=>rfl) | exact(λ_ _ _ _ _ _ b d=>match b,d with | [_,_,_,_,_],_=>rfl)):Zp K p x e n:=
 ⟨f,_,VP (st:=e) l c k,(VP (st:=e) l c k).binds r,zB X G a⟩
inductive UG(n:Nat)(c:je)(H:Hp)(Q:VK)(_:XK):Prop
 |mk(v:V)(t:KT)(q:Nat)(_:c=[v])(_:ZG H t v)(_:t.fits q=true)(_:t.depth<n)(_:∀(b:V)(a:Hp),ZG a t.st b->ZD H a->Q b a)
inductive Yi(d:je)(H:Hp)(Q:VK)(_:XK):Prop
 |mk(v u:V)(a b:KT)(_:d=[v,u])(_:ZG H a v)(_:ZG H b u)(_:a.fits 3=true)(_:b.fits 3=true)(_:∀ c,ZD H c->Q (.bl (a.lt b)) c)
def ZH2:ZB zFd zFd (Zf La):=YA
def ZMT{k:Nat}:ZH P w K mg jX Zd k f fd zFd (UG 0):=by
 let c:∀ a H Q E,¬ UG 0 a H Q E:=λa H Q E h=>by
  let⟨v,t,q,_,_,_,d,_⟩:=h
  lia
 exact⟨λa H Q E h=>absurd h (c a H Q E),λA b s H args e a Q E _ _ _ _ h=>absurd h (c a H Q E)⟩
def BC{n:Nat}(F:Zn K "standing" "standing" La f fd)(T:YY mg)(DS:ZC P w K mg jX (n+1) "standing" zFd (UG n)):ZH P w K mg jX Zd (n+2) f fd zFd (UG (n+1)):=by
 refine F.ok ZH2 (λg H Q E h=>?_) (λa2 A a1 s H g Q E hr h=>?_)
 ·let⟨v,t,q,rfl,_⟩:=h;rfl
 let⟨v,t,q,rfl,d,hq,hn,k⟩:=h;intro Xc;refine⟨_,ZP (Zo (YU (Zq Xs rfl T.isi Yx (Zj (pv 0) (Zj (Xi (v:=.ty "int") rfl T.int Qw rfl) Zw)))) (ZV (Zl (Yg (Zj ZJ (Zj (pv 0) Zw))))) Zt)
  (ZP (Zo (YU (Zq Xs rfl T.isi Yx (Zj (pv 0) (Zj (Xi (v:=.ty "str") rfl T.str NC rfl) Zw)))) (ZV (Zl (Yg (Zj ZJ (Zj (pv 0) Zw))))) Zt)
  (ZV (Zl (Yg (Zj ZJ (Zj (Vy NS rfl T.tuple QZ (Zj (Qy [] [] rfl (Lx (pv 0)) (λ_ _ _ _ _=>UY) (λ_ _ _ _ _=>Zr DS hr (Zj (pv 0) Zw)) trivial) Zw)) Zw)))))),?_⟩
 cases t with
 | int i=>
  let N:v=.int i:=by rw[ZG] at d;exact d
  subst N;refine⟨_,Z,_,_,_,_,Z,d.ty,Oi,_,Z,Z3 ?_⟩;exists _,Z,(by show 2<=aq;decide)
  intro p U;refine k _ _ ?_ (ZX U _);rw[KT.st];exact .tup ZO (.cons (.int 0) (.cons (.int i) .nil))
 | str x=>
  let N:v=.str x:=by rw[ZG] at d;exact d
  subst N;refine⟨_,Z,_,_,_,_,Z,d.ty,K8,_,Z,Zm ?_⟩;refine⟨_,Z,_,_,_,_,Z,d.ty,N0,_,Z,Z3 ?_⟩;exists _,Z,(by show 2<=aq;decide)
  intro p U;refine k _ _ ?_ (ZX U _);rw[KT.st];exact .tup ZO (.cons (.int 1) (.cons (.str x) .nil))
 | tup l=>
  let C:=d;rw[ZG] at C;let⟨a,g,rfl,I,G⟩:=C;let hl:=G.length;rw[KT.fits,zR,zR] at hq;let⟨a6,X,B⟩:=hq;let a5:l.length<=4:=of_decide_eq_true X;rw[KT.depth] at hn;refine⟨_,Z,_,_,_,_,Z,d.ty,JA,_,Z,Zm ?_⟩;refine⟨_,Z,_,_,_,_,Z,d.ty,IJ,_,Z,Zm ?_⟩;exists _,Z,a,Z,⟨g,Zh.of I⟩;refine Ui (n:=g.length) (λi z=>g[i]? = some z) (λD i m r=>ZD H r/\H D=none/\jR r ((l.take i).map KT.st) m) (Ye ∅)
   (λD i m r S j=>⟨g,g[i],Zh.of (j.1 _ _ I),by simp[S]⟩) (λD i m r z u S j hy=>⟨hy.1,hy.2 g (Zh.of (j.1 _ _ I))⟩) (λD m r j=>⟨g,Zh.of (j.1 _ _ I),zY _⟩)
   (λD hD=>⟨ZX hD _,hD,.nil⟩) (λD i m r z M a4 S hz j R hR=>?_) (λD m r M j=>?_)
  ·let⟨L,nD,c⟩:=j;let⟨t,J,kt⟩:=G.get hz;let mt:=yU J;let Y:t.fits (q-1)=true:=by
    rw[Nh] at B;exact zN.mp B t mt
   let a3:=NH mt;exists _,Z,z,t,q-1,Z,kt.sm L,Y,by lia
   intro v' u k4 s4;let y:=s4 D _ M;let tD:Yb u (upd u D (.lst (m++[v']))):=(ZF.refl D u).upd.tups y;refine hR v' u y ⟨λb o e=>by rw[ZU (Za e nD)];exact s4 b o (L b o e),nD,?_⟩
   rw[yI,J,yR];exact((c.sm s4).append (.cons k4 .nil)).mono tD _ _
  ·let⟨L,nD,c⟩:=j;let J:l.take g.length=l:=yF ∅
   rw[J] at c;let a0:=c.length;rw[zX] at a0;refine⟨D,m,Z,.inl ⟨ZM.of M,λp1 V=>?_⟩⟩;let g1:=ZX V (.tup m);exists (by show 2<=aq;decide)
   intro p2 W;let O:=ZX W (.tup [.int 2,.ref p1]);refine k _ _ ?_ ((L.trans g1).trans O);rw[KT.st,Hr];exact .tup ZO (.cons (.int 2) (.cons (.tup (O _ _ ZO) (c.sm (g1.trans O))) .nil))
def GO(T:YY mg)(L:Zp K mg "standing" La zFd):∀ n:Nat,ZC P w K mg jX (n+1) "standing" zFd (UG n)
 | 0=>L.of λ_ _ _=>ZMT
 | n+1=>L.of λ_ _ F=>BC F T (GO T L n)
def Af:ZB zE5 zE5 (Zf Jk):=YA
def ZKT(F:Zn K "ahead" "ahead" Jk f fd)(e:ZC P w K mg jX 6 "standing" zFd (UG 5)):ZH P w K mg jX Zd 7 f fd zE5 Yi:=by
 refine F.ok Af (λt H Q E h=>?_) (λn A d s H t Q E c h=>?_)
 ·let⟨v,u,a,b,rfl,_⟩:=h;rfl
 let⟨v,u,a,b,rfl,o,p,g,i,k⟩:=h;intro y;exists _,ZV (Zl (Vz (GP c) (Zr e c (Zj (pv 0) Zw)) (Zr e c (Zj (pv 1) Zw)) (Zz _)));let z:=P7 a 3 g;let B:=P7 b 3 i;let C:=Gf a;exists _,Z,v,a,3,Z,o,g,by lia
 intro D x q j;exists _,Z,u,b,3,Z,p.sm j,i,by lia
 intro G m r l;exists a.st,b.st,q.sm l,r,Hy a b,by lia
 rw[Iq];exact k m (j.trans l)
mutual
def KT.wide:KT->Nat->Bool
 | .int _,_=>true
 | .str _,_=>true
 | .tup l,r=>decide (0<r)&&(decide (l.length<=100)&&wideL l (r-1))
def wideL:jp->Nat->Bool
 | [],_=>true
 | t::l,r=>t.wide r&&wideL l r
end
def NT:∀(l:jp)(r:Nat),wideL l r=l.all (·.wide r)
 | [],r=>by rw[wideL];rfl
 | t::l,r=>by rw[wideL,NT l r];rfl
mutual
def MV:∀(t:KT)(r:Nat),t.fits r=true->t.wide r=true
 | .int _,_,_=>by rw[KT.wide]
 | .str _,_,_=>by rw[KT.wide]
 | .tup l,r,h=>by
  rw[KT.fits,zR,zR] at h;rw[KT.wide,zR,zR];have:=of_decide_eq_true h.2.1;exact⟨h.1,aO ∅,wideL_of l (r-1) h.2.2⟩
def wideL_of:∀(l:jp)(r:Nat),fitsL l r=true->wideL l r=true
 | [],_,_=>by rw[wideL]
 | t::l,r,h=>by
  rw[fitsL,zR] at h;rw[wideL,zR];exact⟨MV t r h.1,wideL_of l r h.2⟩
end
inductive YE(n:Nat)(b:je)(H:Hp)(Q:VK)(_:XK):Prop
 |mk(v u:V)(t:KT)(r:Nat)(_:b=[v,u])(_:ZG H t v)(_:ZG H t u)(_:t.wide r=true)(_:r<n)(_:∀ a,ZD H a->Q (.bl true) a)
def Ju{d:Sp}{k:Nat}{e:jq}(c:∀ a H Q E,¬ d a H Q E):ZH P w K mg jX Zd k f fd e d:=
 ⟨λa H Q E h=>absurd h (c a H Q E),λA b s H args g a Q E _ _ _ _ h=>absurd h (c a H Q E)⟩
def Bb:ZB zEd zEd (Zf Lu):=YA
def Ez{n:Nat}(F:Zn K "_law_alike" "_law_alike" Lu f fd)(T:YY mg)(DA:ZC P w K mg jX (n+1) "_law_alike" zEd (YE n)):
  ZH P w K mg jX Zd (n+2) f fd zEd (YE (n+1)):=by
 refine F.ok Bb (λd H Q E h=>?_) (λa3 A a1 s H d Q E hr h=>?_)
 ·let⟨v,u,t,r,rfl,_⟩:=h;rfl
 let⟨v,u,t,r,rfl,q,p,hf,hn,k⟩:=h;intro Xc;refine⟨_,ZP (Zo (YU (Zq Xs rfl T.isi Yx (Zj (pv 1) (Zj (Xi (v:=.ty "tuple") rfl T.tuple QZ rfl) Zw))))
   (ZP (Zo (PW.pt (Vh (Xj (YU (Zq Xs rfl T.isi Yx (Zj (pv 0) (Zj (Xi (v:=.ty "tuple") rfl T.tuple QZ rfl) Zw)))))
    (Up (YI Qs (Zq WK rfl T.len Xu (Zj (pv 0) Zw)) (Zq WK rfl T.len Xu (Zj (pv 1) Zw)) (Zz _))))) (ZV (Zl Vw)) Zt)
   (ZV (Zl (Zq (Mj rfl) rfl T.all Mt (Zj (Qy [0,1] zEd rfl (OP rfl T.range (Zj (Zq WK rfl T.len Xu (Zj (pv 1) Zw)) Zw)) (λ_ _ _ _ _=>UY)
    (λ_ _ _ _ _=>Zr DA hr (Zj (Zs K (pv 1) (pv 0)) (Zj (Zs K (pv 2) (pv 0)) Zw))) ⟨rfl,.inl rfl,rfl,rfl,.inl rfl,rfl,trivial⟩) Zw))))) Zt)
  (ZP (Zo (YU (Zq Xs rfl T.isi Yx (Zj (pv 1) (Zj (Xi (v:=.ty "str") rfl T.str NC rfl) Zw))))
   (ZV (Zl (Q2 (Zq Xs rfl T.isi Yx (Zj (pv 0) (Zj (Xi (v:=.ty "str") rfl T.str NC rfl) Zw))) (OZ (Vz Y1 (pv 0) (pv 1) (Zz _)))))) Zt)
  (ZV (Zl (Q2 (Zq Xs rfl T.isi Yx (Zj (pv 0) (Zj (Xi (v:=.ty "int") rfl T.int Qw rfl) Zw)))
   (Q2 (FG (Zq Xs rfl T.isi Yx (Zj (pv 0) (Zj (Xi (v:=.ty "bool") rfl T.bool P2 rfl) Zw)))) (OZ (Vz Y1 (pv 0) (pv 1) (Zz _)))))))),?_⟩
 cases t with
 | int i=>
  let U:v=.int i:=by rw[ZG] at q;exact q
  let S:u=.int i:=by rw[ZG] at p;exact p
  subst U S;refine⟨_,Z,_,_,_,_,Z,.int i,BI,_,Z,Zm ?_⟩;refine⟨_,Z,_,_,_,_,Z,.int i,kit_is',_,Z,Zm ?_⟩;refine⟨_,Z,_,_,_,_,Z,.int i,Oi,_,Z,Z3 ?_⟩;refine⟨_,Z,_,_,_,_,Z,.int i,NW,_,Z,_,Z,Z3 ?_⟩;exists _,Z,_,Z,Z;rw[aO rfl];exact k H (ZD.refl H)
 | str x=>
  let U:v=.str x:=by rw[ZG] at q;exact q
  let S:u=.str x:=by rw[ZG] at p;exact p
  subst U S;refine⟨_,Z,_,_,_,_,Z,.str x,ZOi,_,Z,Zm ?_⟩;refine⟨_,Z,_,_,_,_,Z,.str x,N0,_,Z,Z3 ?_⟩;refine⟨_,Z,_,_,_,_,Z,.str x,N0,_,Z,Z3 ?_⟩;exists _,Z,_,Z,Z;rw[aO rfl];exact k H (ZD.refl H)
 | tup l=>
  rw[ZG] at q p;let⟨a,d,rfl,N,G⟩:=q;let⟨b,c,rfl,I,C⟩:=p;let hl:=G.length;let a5:=C.length;rw[KT.wide,zR,zR] at hf;let⟨f0,f1,f2⟩:=hf;let r0:=of_decide_eq_true f0;let l4:=of_decide_eq_true f1;let ty:XV K H (.ref a) (.type "tuple"):=.tup N;let a2:XV K H (.ref b) (.type "tuple"):=.tup I;let a0:c.length=d.length:=nofun
  refine⟨_,Z,_,_,_,_,Z,a2,M7,_,Z,Z3 ?_⟩;refine⟨_,Z,_,_,_,_,Z,ty,M7,_,Z,Zm ?_⟩;refine⟨_,Z,a,d,Z,.inr (Zh.of N),_,Z,b,c,Z,.inr (Zh.of I),Z,_,Z,NM (by rw[a0]) ?_⟩
  exists _,Z,b,c,Z,.inr (Zh.of I),_,Z,nofun,nofun
  rw[Int.toNat_natCast];refine Ui (n:=c.length) (λi x=>x=.int (0+(i:Int))) (λD i y j=>ZD H j/\H D=none/\y=(vO i true).map V.bl) (Ye nofun)
   (λD i y j J _=>J) (λD i y j x H4 J _ hy=>hy) (λD y j _=>zY _) (λD hD=>⟨ZX hD _,hD,Z⟩) (λD i y j x M a4 J hx W R hR=>?_) (λD y j M W=>?_)
  ·subst hx;let⟨m,nD,rfl⟩:=W;let X:i<d.length:=nofun
   let B:d[i]? = some d[i]:=by simp[X]
   let z:c[i]? = some c[i]:=by simp[J]
   let⟨t,et,kt⟩:=G.get B;let⟨L,g,Y⟩:=C.get z;let O:L=t:=by rw[et] at g;injection g with g;exact g.symm
   subst O;let ft:L.wide (r-1)=true:=by rw[NT] at f2;exact zN.mp f2 L (yU et)
   let av:X8 d (0+(i:Int))=some d[i]:=by rw[Int.zero_add];exact X1 B
   let au:X8 c (0+(i:Int))=some c[i]:=by rw[Int.zero_add];exact X1 z
   refine⟨_,Z,_,Z,.inr (.inl ⟨a,d,_,_,rfl,rfl,Zh.of (m _ _ N),av,_,rfl,_,rfl,.inr (.inl ⟨b,c,_,_,rfl,rfl,Zh.of (m _ _ I),au,d[i],c[i],L,r-1,rfl,kt.sm m,Y.sm m,ft,nofun,λH4 s4=>?_⟩)⟩)⟩
   refine hR _ H4 (s4 D _ M) ⟨λb o e=>by rw[ZU (Za e nD)];exact s4 b o (m b o e),nD,?_⟩
   rw[List.replicate_succ'];simp
  ·let⟨m,nD,rfl⟩:=W;exists D,_,Z,ZM.of M;let e:(vO c.length true).all id=true:=by simp
   rw[e];exact k j m
def Fx(T:YY mg)(L:Zp K mg "_law_alike" Lu zEd):∀ n:Nat,ZC P w K mg jX (n+1) "_law_alike" zEd (YE n)
 | 0=>L.of λ_ _ _=>Ju λb H Q E h=>by let⟨v,u,t,r,_,_,_,_,a,_⟩:=h;lia
 | n+1=>L.of λ_ _ F=>Ez F T (Fx T L n)
mutual
def KT.rk:KT->KT
 | .int i=>.tup [.int 0,.int i,.str "",.tup []]
 | .str x=>.tup [.int 1,.int 0,.str x,.tup []]
 | .tup l=>.tup [.int 2,.int 0,.str "",.tup (rkL l)]
def rkL:jp->jp
 | []=>[]
 | t::l=>t.rk::rkL l
end
def Fi:∀ l:jp,rkL l=l.map KT.rk
 | []=>by rw[rkL];rfl
 | t::l=>by rw[rkL,Fi l];rfl
mutual
def GD:∀ a b:KT,a.rk.eqb b.rk=a.eqb b
 | .int i,.int j=>by simp[KT.rk,KT.eqb,jT]
 | .str x,.str y=>by simp[KT.rk,KT.eqb,jT]
 | .tup l,.tup m=>by simp[KT.rk,KT.eqb,jT,eqbL_rk l m]
 | .int _,.str _=>by simp[KT.rk,KT.eqb,jT]
 | .int _,.tup _=>by simp[KT.rk,KT.eqb,jT]
 | .str _,.int _=>by simp[KT.rk,KT.eqb,jT]
 | .str _,.tup _=>by simp[KT.rk,KT.eqb,jT]
 | .tup _,.int _=>by simp[KT.rk,KT.eqb,jT]
 | .tup _,.str _=>by simp[KT.rk,KT.eqb,jT]
def eqbL_rk:∀ l m:jp,jT (rkL l) (rkL m)=jT l m
 | [],[]=>by simp[rkL,jT]
 | a::l,b::m=>by simp[rkL,jT,GD a b,eqbL_rk l m]
 | [],_::_=>by simp[rkL,jT]
 | _::_,[]=>by simp[rkL,jT]
end
mutual
def GH:∀ a b:KT,a.rk.cmp b.rk=true
 | .int i,.int j=>by simp[KT.rk,KT.eqb,KT.cmp,cmpL,jT]
 | .str x,.str y=>by simp[KT.rk,KT.eqb,KT.cmp,cmpL,jT]
 | .tup l,.tup m=>by simp[KT.rk,KT.eqb,KT.cmp,cmpL,cmpL_rk l m]
 | .int _,.str _=>by simp[KT.rk,KT.eqb,KT.cmp,cmpL]
 | .int _,.tup _=>by simp[KT.rk,KT.eqb,KT.cmp,cmpL]
 | .str _,.int _=>by simp[KT.rk,KT.eqb,KT.cmp,cmpL]
 | .str _,.tup _=>by simp[KT.rk,KT.eqb,KT.cmp,cmpL]
 | .tup _,.int _=>by simp[KT.rk,KT.eqb,KT.cmp,cmpL]
 | .tup _,.str _=>by simp[KT.rk,KT.eqb,KT.cmp,cmpL]
def cmpL_rk:∀ l m:jp,cmpL (rkL l) (rkL m)=true
 | [],_=>by simp[rkL,cmpL]
 | _::_,[]=>by simp[rkL,cmpL]
 | a::l,b::m=>by
  rw[rkL,rkL,cmpL,cmpL_rk l m,GH a b];split <;> rfl
end
mutual
def GF:∀ a b:KT,a.rk.plt b.rk=a.lt b
 | .int i,.int j=>by
  simp only[KT.rk,KT.eqb,KT.plt,pltL,jT,KT.lt,beq_self_eq_true,if_true];by_cases h:i=j
  ·subst h;simp
  ·simp[h]
 | .str x,.str y=>by
  simp only[KT.rk,KT.eqb,KT.plt,pltL,jT,KT.lt,beq_self_eq_true,if_true];by_cases h:x=y
  ·subst h;simp
  ·simp[h]
 | .tup l,.tup m=>by
  simp only[KT.rk,KT.eqb,KT.plt,pltL,KT.lt,beq_self_eq_true,if_true,eqbL_rk,pltL_rk l m]
  cases h:jT l m with
  | true=>rw[aQ rfl,FN h]
  | false=>rw[aP zS]
 | .int _,.str _=>by simp[KT.rk,KT.eqb,KT.plt,pltL,KT.lt]
 | .int _,.tup _=>by simp[KT.rk,KT.eqb,KT.plt,pltL,KT.lt]
 | .str _,.int _=>by simp[KT.rk,KT.eqb,KT.plt,pltL,KT.lt]
 | .str _,.tup _=>by simp[KT.rk,KT.eqb,KT.plt,pltL,KT.lt]
 | .tup _,.int _=>by simp[KT.rk,KT.eqb,KT.plt,pltL,KT.lt]
 | .tup _,.str _=>by simp[KT.rk,KT.eqb,KT.plt,pltL,KT.lt]
def pltL_rk:∀ l m:jp,pltL (rkL l) (rkL m)=ltL l m
 | [],[]=>by simp[rkL,pltL,ltL]
 | [],_::_=>by simp[rkL,pltL,ltL]
 | _::_,[]=>by simp[rkL,pltL,ltL]
 | a::l,b::m=>by rw[rkL,rkL,pltL,ltL,GD a b,pltL_rk l m,GF a b]
end
mutual
def Fn:∀ t:KT,t.rk.depth<=2 * t.depth+2
 | .int i=>by simp[KT.rk,KT.depth,jU]
 | .str x=>by simp[KT.rk,KT.depth,jU]
 | .tup l=>by
  have:=depthL_rk l;simp only[KT.rk,KT.depth,jU]
  lia
def depthL_rk:∀ l:jp,jU (rkL l)<=2 * jU l+2
 | []=>by simp[rkL,jU]
 | t::l=>by
  let a:=Fn t;let b:=depthL_rk l;rw[rkL,jU,jU]
  lia
end
inductive VW(n:Nat)(c:je)(H:Hp)(Q:VK)(_:XK):Prop
 |mk(v:V)(t:KT)(q:Nat)(_:c=[v])(_:ZG H t v)(_:t.fits q=true)(_:t.depth<n)(_:∀(b:V)(a:Hp),ZG a t.rk b->ZD H a->Q b a)
def DJ:ZB zE6 zE6 (Zf LI):=YA
def BW{n:Nat}(F:Zn K "_law_rank" "_law_rank" LI f fd)(T:YY mg)(DS:ZC P w K mg jX (n+1) "_law_rank" zE6 (VW n)):ZH P w K mg jX Zd (n+2) f fd zE6 (VW (n+1)):=by
 refine F.ko DJ λa5 A a4 s H j Q E hr h=>?_;let⟨v,t,q,rfl,d,hq,hn,k⟩:=h;intro Xc;refine⟨_,ZP (Zo (YU (Zq Xs rfl T.isi Yx (Ze (pv 0) (Xi (v:=.ty "int") rfl T.int Qw rfl)))) (ZV (Zl (Yg (Pu ZJ (pv 0) Yk (Yg Zw))))) Zt)
  (ZP (Zo (YU (Zq Xs rfl T.isi Yx (Ze (pv 0) (Xi (v:=.ty "str") rfl T.str NC rfl)))) (ZV (Zl (Yg (Pu ZJ ZJ (pv 0) (Yg Zw))))) Zt)
  (ZV (Zl (Yg (Pu ZJ ZJ Yk (Vy NS rfl T.tuple QZ (ZT (Qy [] [] rfl (Lx (pv 0)) (λ_ _ _ _ _=>UY) (λ_ _ _ _ _=>Zr DS hr (ZT (pv 0))) trivial)))))))),?_⟩
 cases t with
 | int i=>
  let O:v=.int i:=by rw[ZG] at d;exact d
  subst O;refine⟨_,Z,_,_,_,_,Z,d.ty,Oi,_,Z,Z3 ?_⟩;refine⟨_,Z,(by show 0<=aq;decide),λp0 V=>⟨(by show 4<=aq;decide),λp X=>?_⟩⟩
  let S:=ZX V (.tup []);let r:=ZX X (.tup [.int 0,.int i,.str "",.ref p0]);refine k _ _ ?_ (S.trans r);rw[KT.rk];exact .tup ZO (.cons (.int 0) (.cons (.int i) (.cons (.str _) (.cons (.tup (r _ _ ZO) .nil) .nil))))
 | str x=>
  let O:v=.str x:=by rw[ZG] at d;exact d
  subst O;refine⟨_,Z,_,_,_,_,Z,d.ty,K8,_,Z,Zm ?_⟩;refine⟨_,Z,_,_,_,_,Z,d.ty,N0,_,Z,Z3 ?_⟩;refine⟨_,Z,(by show 0<=aq;decide),λp0 V=>⟨(by show 4<=aq;decide),λp X=>?_⟩⟩
  let S:=ZX V (.tup []);let r:=ZX X (.tup [.int 1,.int 0,.str x,.ref p0]);refine k _ _ ?_ (S.trans r);rw[KT.rk];exact .tup ZO (.cons (.int 1) (.cons (.int 0) (.cons (.str x) (.cons (.tup (r _ _ ZO) .nil) .nil))))
 | tup l=>
  let G:=d;rw[ZG] at G;let⟨a,j,rfl,J,I⟩:=G;let hl:=I.length;rw[KT.fits,zR,zR] at hq;let⟨a9,a1,C⟩:=hq;let a8:l.length<=4:=of_decide_eq_true a1;rw[KT.depth] at hn;refine⟨_,Z,_,_,_,_,Z,d.ty,JA,_,Z,Zm ?_⟩;refine⟨_,Z,_,_,_,_,Z,d.ty,IJ,_,Z,Zm ?_⟩;exists _,Z,a,Z,⟨j,Zh.of J⟩;refine Ui (n:=j.length) (λi z=>j[i]? = some z) (λD i m u=>ZD H u/\H D=none/\jR u ((l.take i).map KT.rk) m) (Ye ∅)
   (λD i m u W g=>⟨j,j[i],Zh.of (g.1 _ _ J),by simp[W]⟩) (λD i m u z y W g hy=>⟨hy.1,hy.2 j (Zh.of (g.1 _ _ J))⟩) (λD m u g=>⟨j,Zh.of (g.1 _ _ J),zY _⟩)
   (λD hD=>⟨ZX hD _,hD,.nil⟩) (λD i m u z N a7 W hz g R hR=>?_) (λD m u N g=>?_)
  ·let⟨M,nD,c⟩:=g;let⟨t,L,kt⟩:=I.get hz;let mt:=yU L;let a2:t.fits (q-1)=true:=by
    rw[Nh] at C;exact zN.mp C t mt
   let a6:=NH mt;exists _,Z,z,t,q-1,Z,kt.sm M,a2,by lia
   intro v' y k4 s4;let B:=s4 D _ N;let tD:Yb y (upd y D (.lst (m++[v']))):=(ZF.refl D y).upd.tups B;refine hR v' y B ⟨λb o e=>by rw[ZU (Za e nD)];exact s4 b o (M b o e),nD,?_⟩
   rw[yI,L,yR];exact((c.sm s4).append (.cons k4 .nil)).mono tD _ _
  ·let⟨M,nD,c⟩:=g;let L:l.take j.length=l:=yF ∅
   rw[L] at c;let a3:=c.length;rw[zX] at a3;refine⟨D,m,Z,.inl ⟨ZM.of N,λp1 Y=>?_⟩⟩;let r:=ZX Y (.tup m);exists (by show 4<=aq;decide)
   intro p2 a0;let U:=ZX a0 (.tup [.int 2,.int 0,.str "",.ref p1]);refine k _ _ ?_ ((M.trans r).trans U);rw[KT.rk,Fi];exact .tup ZO (.cons (.int 2) (.cons (.int 0) (.cons (.str _) (.cons (.tup (U _ _ ZO) (c.sm (r.trans U))) .nil))))
def Ik(T:YY mg)(L:Zp K mg "_law_rank" LI zE6):∀ n:Nat,ZC P w K mg jX (n+1) "_law_rank" zE6 (VW n)
 | 0=>L.of λ_ _ _=>Ju λb H Q E h=>by let⟨v,t,q,_,_,_,a,_⟩:=h;lia
 | n+1=>L.of λ_ _ F=>BW F T (Ik T L n)
def Bs:ZB zEr zEr (Zf Kb):=YA
def E7(F:Zn K "_law_less" "_law_less" Kb f fd)(e:ZC P w K mg jX 6 "_law_rank" zE6 (VW 5)):ZH P w K mg jX Zd 7 f fd zEr Yi:=by
 refine F.ko Bs λn A d s H G Q E c h=>?_;let⟨v,u,a,b,rfl,o,p,g,i,k⟩:=h;intro x;exists _,ZV (Zl (Vz (GP c) (Zr e c (ZT (pv 0))) (Zr e c (ZT (pv 1))) (Zz _)));let y:=P7 a 3 g;let z:=P7 b 3 i;let B:=Fn a;exists _,Z,v,a,3,Z,o,g,by lia
 intro C t q j;exists _,Z,u,b,3,Z,p.sm j,i,by lia
 intro D m r l;exists a.rk,b.rk,q.sm l,r,GH a b,by lia
 rw[GF];exact k m (j.trans l)
end Tw
namespace L2
open PySem PySem.Spec PyProof.Rows
inductive PV(b:zZ)(c:je)(H:Hp)(Q:VK):Prop
 |mk(p:aj)(a:jw)(_:c=[.ref p])(_:ZM b H p (a.map V.int))(_:Q (.int a.sum) H)
def AJ(g:X.calm=true):Vf X (.builtin "sum") (PV X.K):=by
 intro d s A H z y Q I r h;let⟨p,c,rfl,j,q⟩:=h;let⟨u,rfl,m⟩:=V5 r;cases m;let⟨k,n,l,x⟩:=I.list j;let a:=IX n;let⟨v,e⟩:=a.allInts.items;let b:=l.isList;rw[e] at b;let f:v.toList.map (·.1)=c:=by
  rw[<-nums_intItems,<-e];exact a.numsOf
 refine sum_intListG (I.ok.hd g) b λw t o i=>⟨.int c.sum,H,I.kept (t':=t) i,⟨o,?_⟩,q⟩;rw[preSum_eq,yF (by simp),f]
end L2
namespace Tw
open PySem PySem.Spec L2 PyProof.Rows
variable{jg jh CS CT CH CK CP CB:aj}
def ZN8:ay "sum" = some (.builtin "sum"):=by decide +kernel
structure Yo where
 h:Int
 lo:KT
 hi:KT
 m:Int
abbrev jJ:=List Yo
def Yo.d:Yo:=⟨0,.int 0,.int 0,0⟩
def Yo.kt(L:Yo):KT:=.tup [.int L.h,L.lo,L.hi,.int L.m]
inductive Yr(H:Hp)(L:Yo)(u:V):Prop
 |mk(a c b:_)(_:u=.ref a)(_:H a=some (.tup [.int L.h,c,b,.int L.m]))(_:ZG H L.lo c)(_:ZG H L.hi b)
def Yr.mono{H d:Hp}{L:Yo}{u:V}(x:Yr H L u)(m:Yb H d):Yr d L u:=by
 let⟨a,c,b,e,f,g,h⟩:=x;exact⟨a,c,b,e,m _ _ f,g.mono m _ _,h.mono m _ _⟩
def Yr.key{H:Hp}{L:Yo}{u:V}(x:Yr H L u):ZG H L.kt u:=by
 let⟨a,f,e,rfl,b,c,d⟩:=x;exact .tup b (.cons (.int _) (.cons c (.cons d (.cons (.int _) .nil))))
def Ym(H:Hp)(a:jJ)(b:je):Prop:=b.length=a.length/\∀ i u,b[i]? = some u->Yr H (a.getD i .d) u
def Ym.mono{H a:Hp}{b:jJ}{c:je}(x:Ym H b c)(m:Yb H a):Ym a b c:=⟨x.1,λi u e=>(x.2 i u e).mono m⟩
def Yo.fit(L:Yo):Prop:=L.lo.fits 3=true/\L.hi.fits 3=true
def Qm(a b:Yo):Bool:=(a.h==b.h)&&a.hi.lt b.lo
def Lq(a:jJ):Bool:=(zV (a.length-1)).all λj=>Qm (a.getD j .d) (a.getD (j+1) .d)
def over(a:jJ):Option Yo:=if 2<=a.length/\a.length<=4/\Lq a=true then some ⟨(a.getD 0 .d).h+1,(a.getD 0 .d).lo,(a.getD (a.length-1) .d).hi,(a.map Yo.m).sum⟩ else none
def Jv{a:jJ}(h:¬ (2<=a.length/\a.length<=4)):over a=none:=aP λz=>h ⟨z.1,z.2.1⟩
def ZNr{a:jJ}{i:Nat}(b:i+1<a.length)(h:Qm (a.getD i .d) (a.getD (i+1) .d)=false):over a=none:=aP λz=>by
 have:=zN.mp z.2.2 i (yC.mpr ∅)
 rw[h] at this;cases this
def Ek{ls:jJ}(a:2<=ls.length)(b:ls.length<=4)(h:∀ j,j<ls.length-1->Qm (ls.getD j .d) (ls.getD (j+1) .d)=true):over ls=some ⟨(ls.getD 0 .d).h+1,(ls.getD 0 .d).lo,(ls.getD (ls.length-1) .d).hi,(ls.map Yo.m).sum⟩:=
 aQ ⟨a,b,zN.mpr λj c=>h j (yC.mp c)⟩
inductive UU(d:je)(H:Hp)(Q:VK)(_:XK):Prop
 |mk(v u:V)(a b:Yo)(_:d=[v,u])(_:Yr H a v)(_:Yr H b u)(_:a.fit)(_:b.fit)(_:∀ c,ZD H c->Q (.bl (Qm a b)) c)
def Cb:ZB zE1 zE1 (Zf Jp):=YA
def Ch(F:Zn K "stand_side_by_side" "stand_side_by_side" Jp f fd)(T:YY mg)(r:ZC P w K mg jX 7 "ahead" zE5 Yi):ZH P w K mg jX Zd 8 f fd zE1 UU:=by
 refine F.ko Cb λB A l s H X Q E J h=>?_;let⟨v,u,a,b,rfl,G,I,C,D,k⟩:=h;let⟨U,o⟩:=T.height;let⟨V,N⟩:=T.least;let⟨W,O⟩:=T.greatest;let⟨p,x,c,rfl,m,L,i⟩:=G;let⟨q,d,y,rfl,n,j,M⟩:=I;intro S;refine⟨_,ZV (Zl (Q2 (Vz Y1 (Zs K (pv 0) (Wn (v:=.int 0) rfl o ⟨_,rfl⟩)) (Zs K (pv 1) (Wn (v:=.int 0) rfl o ⟨_,rfl⟩)) (Zz _))
  (OZ (Zr r J (Ze (Zs K (pv 0) (Wn (v:=.int 2) rfl O ⟨_,rfl⟩)) (Zs K (pv 1) (Wn (v:=.int 1) rfl N ⟨_,rfl⟩))))))),?_⟩
 refine⟨_,Z,.inr (.inl ⟨p,_,_,.int a.h,rfl,rfl,Zh.of m,rfl,?_⟩)⟩;refine⟨_,Z,.inr (.inl ⟨q,_,_,.int b.h,rfl,rfl,Zh.of n,rfl,rfl,_,rfl,?_⟩)⟩;by_cases g:a.h=b.h
 ·rw[aO (by rw[g])]
  refine Z3 ?_;refine⟨_,Z,.inr (.inl ⟨p,_,_,c,rfl,rfl,Zh.of m,rfl,?_⟩)⟩;refine⟨_,Z,.inr (.inl ⟨q,_,_,d,rfl,rfl,Zh.of n,rfl,c,d,a.hi,b.lo,rfl,i,j,C.2,D.1,λt R=>?_⟩)⟩;let e:a.hi.lt b.lo=Qm a b:=by unfold Qm;rw[g,beq_self_eq_true,vA]
  rw[e];exact k t R
 ·rw[aM (λz=>g (BK z))];refine Zm ?_;let e:false=Qm a b:=by unfold Qm;rw[beq_eq_false_iff_ne.mpr g,uY]
  rw[e];exact k H (ZD.refl H)
abbrev Qd:jd:=[.type "ValueError",.type "Exception",.type "BaseException",.type "object"]
def ZE6:ay "ValueError" = some (.type "ValueError"):=by decide +kernel
inductive Vc(CS:aj)(e:je)(H:Hp)(Q:VK)(E:XK):Prop
 |mk(l:aj)(c:je)(b:jJ)(_:e=[.ref l])(_:H l=some (.lst c))(_:Ym H b c)(_:∀ i,(b.getD i .d).fit)(_:c.length<=100)(_:∀ a,ZD H a->(over b=none->E (.ref CS) none a)/\∀ L v,over b=some L->ZG a L.kt v->Q v a)
abbrev C2:jq:=["labels","at","many"]
def QI:ZB C2 ["labels"] (Zf K0):=YA
end Tw
namespace L2
open PySem PySem.Spec PyProof.Rows
def E9:fillsNumberSlot (.type "tuple") "mul" = pure false:=
 PySem.fillsNumberSlot_seq (id:= "tuple.__mul__") (r:=some (.builtin "tuple.__rmul__")) uG.lookup (by decide +kernel) rE.lookup (by decide +kernel)
def Am:seqRepeat? (.type "tuple")=pure (some (.builtin "tuple.__mul__")):=by
 unfold seqRepeat?;rw[PySem.seqSlot_of (T:= "tuple") (name:= "__mul__") (id:= "tuple.__mul__") uG.lookup (by decide +kernel),PySem.seqSlot_of (T:= "tuple") (name:= "__rmul__") (id:= "tuple.__rmul__") rE.lookup (by decide +kernel)]
 rfl
def C4(a:Int)(t:Tok)(l:aj)(b:jz)(n:Nat)(e:jv)(f:Array (jc)):
  Meets (Builtin.«int.__rmul__» ⟨[.int a t,.ref l],[]⟩) (λ_ R s=>s.heap.get? l=some { cls:=.type "tuple",dict:=e,data:=.seq b n,slots:=f }/\R (.ok (.ret Value.notImplemented)) s):=
 .of_wp λc w A R s h=>by let⟨j,g,d,m,k⟩:=s;let⟨i,h⟩:=h;wp_walk;exact⟨_,Z,h⟩
def Bv(u:Tok)(l:aj)(a:jz)(n:Nat)(c:jv)(e:Array (jc)):
  Meets (Builtin.«tuple.__mul__» ⟨[.ref l,.int 1 u],[]⟩) (λ_ R s=>s.heap.get? l=some { cls:=.type "tuple",dict:=c,data:=.seq a n,slots:=e }/\R (.ok (.ret (.ref l))) s):=
 .of_wp λb w A R s h=>by
  let⟨i,g,d,k,j⟩:=s;let⟨f,h⟩:=h;unfold Builtin.«tuple.__mul__»
  wp_walk
  exact⟨_,Z,h⟩
def Be(u:Tok)(l:aj)(x:ai)(n:Nat)(b:jv)(c:Array (jc)):
  Meets (Builtin.«tuple.__mul__» ⟨[.ref l,.int 0 u],[]⟩) (λ_ R s=>s.heap.get? l=some { cls:=.type "tuple",dict:=b,data:=.seq #[x] n,slots:=c }/\R (.ok (.ret (.ref s.heap.objs.size))) { s with heap:=s.heap.push { cls:=.type "tuple",data:=.seq #[] } }):=
 .of_wp λa w A R s h=>by
  let⟨f,g,d,j,i⟩:=s;let⟨e,h⟩:=h;unfold Builtin.«tuple.__mul__»
  wp_walk
  exact⟨_,Z,h⟩
inductive MI(K:zZ)(x y:V)(H:Hp)(Q:VK):Prop
 |mk(a:aj)(v:V)(n:Int)(_:x=.ref a)(_:y=.int n)(_:Zh K H a [v])(_:n=1/\Q (.ref a) H\/n=0/\∀ p,H p=none->Q (.ref p) (upd H p (.tup [])))
def Ev:XI X (binaryOp .Mult) (MI X.K):=by
 intro i s E H x y v u Q I A B h;let⟨a,z,n,rfl,rfl,k,l⟩:=h;cases A;let⟨t,rfl⟩:=B;let⟨p,w,r,_⟩:=I.tuple k;let⟨D,rfl,_⟩:=V5 w;let⟨⟨cls,e,data,f⟩,c,d,m,g⟩:=id r;simp only at d g;subst d g;refine wpAny_binaryOp_repeat_ref (T:= "tuple") (U:= "int") (by decide) ⟨_,c,Z⟩ (λC=>typeIs_int C n t) E9 PySem.F.fills_int_mul rO Am PySem.F.slot_int_index.lookup
  (call_meets rO (typeIs_int s n t) PySem.F.entry_int_rmul (PySem.F.args_int_rmul_2 _ _) (C4 n t a _ m e f) ⟨c,rfl,⟨_,c,rfl⟩,?_⟩)
 rcases l with ⟨rfl,q⟩ | ⟨rfl,q⟩
 ·exact call_meets uG ⟨_,c,Z⟩ rH (rB _ _) (Bv t a _ m e f) ⟨c,⟨.ref a,H,I,Z,q⟩⟩
 ·refine call_meets uG ⟨_,c,Z⟩ rH (rB _ _) (Be t a _ m e f) ⟨c,?_⟩;let j:=I.laid (a:=s.heap.objs.size) (o:=.tup []) (h':=s.heap.push { cls:=.type "tuple",data:=.seq #[] }) (t':=s.toks) (λb u q=>zQ _ q) (zY _)
   ⟨yT _,[],.nil,_,yO _ rfl,rfl,0,rfl⟩
  exact⟨.ref s.heap.objs.size,_,j,Z,q _ (I.hok.fresh (zY _))⟩
inductive Us(x y:V)(H:Hp)(Q:VK):Prop
 |mk(i n:_)(_:x=.str i)(_:y=.int n)(_:i.length=1)(_:n=1/\Q (.str i) H\/n=0/\Q (.str "") H)
def Bm:XI X (binaryOp .Mult) (Us):=by
 intro b s g H x y v u Q I d e h;let⟨i,n,rfl,rfl,a,c⟩:=h;let⟨t,rfl⟩:=d;let⟨f,rfl⟩:=e;rcases c with ⟨rfl,q⟩ | ⟨rfl,q⟩
 ·refine PySem.P.mul_str ?_ (λ_ _=>?_) (λ_ _=>?_) ?_
  ·decide
  ·rw[a];decide
  ·rw[a];decide
  ·rw[aP (by decide),aQ (by simp)]
   exact⟨.str i,H,I,⟨t,Z⟩,q⟩
 ·refine PySem.P.mul_str ?_ (λz _=>?_) (λz _=>?_) ?_
  ·decide
  ·first | exact absurd z (by decide) | (rw[a];decide)
  ·first | exact absurd z (by decide) | (rw[a];decide)
  ·rw[aQ (by decide)]
   exact⟨yT _,⟨.str "",H,I.tok _,⟨_,Z⟩,q⟩⟩
end L2
namespace Tw
open PySem PySem.Spec L2
variable{jg jh CS CT CH CK CP CB:aj}
def YS:Str:= "!#$&()*+,-./0123456789:;<=>?@ABCDEFGHIJKLMNOPQRSTUVWXYZ"
def IZ:YS.cps.toList.length=55:=by decide +kernel
def Dv:YS.cps.toList.all QH=true:=by decide +kernel
def FK{i:Int}(a:0<=i)(b:i<55):∃ c,X8 YS.cps.toList i=some c/\QH c=true:=by
 let⟨c,e,m⟩:=LP (xs:=YS.cps.toList) a (by rw[IZ];exact b)
 exact⟨c,e,zN.mp Dv c m⟩
def Z0(x:Str)(i:Nat):Prop:=x.cps.size<=i/\x.cps.toList.all QH=true
def Z0.ok{x:Str}{i:Nat}(h:Z0 x i)(a:i<=40):Ot x=true:=ZNX (zC h.1 a) h.2
def Z0.cat{x y:Str}{i j:Nat}(h:Z0 x i)(g:Z0 y j):Z0 (x++y) (i+j):=by
 let e:(x++y).cps=x.cps++y.cps:=rfl;exists ?_
 ·rw[e,Array.size_append];exact tV h.1 g.1
 ·rw[e,sZ,tS,h.2,g.2];rfl
def Z0.one{c:Nat}(h:QH c=true):Z0 ⟨#[c]⟩ 1:=⟨zY _,by simp[h]⟩
def Z0.k:Z0 "k" 1:=by unfold Z0;decide +kernel
def Z0.a:Z0 "a" 1:=by unfold Z0;decide +kernel
def Z0.e:Z0 "" 0:=by unfold Z0;decide +kernel
def NI{n:Int}(h:n.natAbs<10 ^ 60)(r:Nat):(KT.int n).fits r=true:=by rw[KT.fits];exact aO h
def M2{x:Str}{i:Nat}(h:Z0 x i)(a:i<=40)(r:Nat):(KT.str x).fits r=true:=by rw[KT.fits];exact h.ok a
def ZNg{n:Int}(h:n.natAbs<10 ^ 60):(KT.tup [.str "",.int n]).fits 3=true:=Ij (zA Z) (by
 rw[fitsL,fitsL,fitsL,NI h 2,M2 Z0.e (by decide) 2];rfl)
def ZJa{n:Int}(h:n.natAbs<10 ^ 60):(KT.tup [.str "",.int n,.int 0]).fits 3=true:=Ij (zA Z) (by
 rw[fitsL,fitsL,fitsL,fitsL,NI h 2,M2 Z0.e (by decide) 2,NI (n:=0) (by decide) 2];rfl)
def Gn{n:Int}(a : -10000<=n)(b:n<=10000):n.natAbs<10 ^ 60:=xJ (show n.natAbs<=10000 by lia) (by decide)
def ZLJ:YS.cps.toList.Pairwise (· < ·):=by decide +kernel
def HY{i j:Int}{c d:Nat}(l:0<=i)(h:i<j)(m:j<55)(e:X8 YS.cps.toList i=some c)(f:X8 YS.cps.toList j=some d):c<d:=by
 obtain⟨a,rfl⟩:∃ a:Nat,i=(a:Int):=⟨i.toNat,∅⟩
 obtain⟨b,rfl⟩:∃ b:Nat,j=(b:Int):=⟨j.toNat,∅⟩
 let g:a<YS.cps.toList.length:=by rw[IZ];lia
 let k:b<YS.cps.toList.length:=by rw[IZ];lia
 rw[X1 (zU g)] at e;rw[X1 (zU k)] at f;cases e;cases f;exact List.pairwise_iff_getElem.mp ZLJ a b g k ∅
inductive GK:KT->Nat->Int->Prop
 | int (sz:Int):GK (.int (sz-700)) 0 sz
 | str {x:Str} {sz:Int} {c1 c2:Nat} {tl:jo} (h:x.cps.toList=107::c1::c2::tl) (h1:X8 YS.cps.toList (sz / 50)=some c1) (h2:X8 YS.cps.toList (sz % 50)=some c2):GK (.str x) 1 sz
 | tup (sz:Int) (l:jp):GK (.tup (.str ""::.int sz::l)) 2 sz
def ZPk{a b:KT}{c d:Nat}{s r:Int}(m:GK a c s)(f:GK b d r)(q:c<=d)(h:s<r)(p:0<=s)(t:r<=1280):a.lt b=true:=by
 cases m with
 | int=>
  cases f with
  | int=>rw[KT.lt];exact aO ∅
  | str=>rw[KT.lt]
  | tup=>rw[KT.lt]
 | str i e j=>
  cases f with
  | int=>lia
  | str k g l=>
   rw[KT.lt,i,k];refine aO ?_;refine List.Lex.cons ?_;rcases(show s / 50<r / 50\/(s / 50=r / 50/\s % 50<r % 50) by lia) with z | ⟨n,o⟩
   ·exact List.Lex.rel (HY ∅ z ∅ e g)
   ·rw[n,g] at e;cases e;exact List.Lex.cons (List.Lex.rel (HY ∅ o ∅ j l))
  | tup=>rw[KT.lt]
 | tup=>
  cases f with
  | int=>lia
  | str=>lia
  | tup=>
   rw[KT.lt,ltL,aQ (by rw[KT.eqb];exact beq_self_eq_true _),ltL,aP (by rw[KT.eqb];simp;lia),KT.lt]
   exact aO h
def cls(o a:Int)(i:Nat):Nat:=if (i:Int)<o then 0 else if (i:Int)<o+a then 1 else 2
def E5(o a:Int)(i:Nat)(h:0<=a):cls o a i<=cls o a (i+1):=by
 unfold cls;split
 ·split <;> (try split) <;> lia
 ·split
  ·rw[aP ∅]
   split <;> lia
  ·rw[aP ∅,aP ∅]
   exact zY _
def GI(o f:Int)(i:Nat)(e:Int)(d:jp):Prop:=d.Pairwise (λa b=>a.lt b=true)/\∀ t∈d,∃ c s,GK t c s/\c<=cls o f i/\0<=s/\s<=e
def AR{o f:Int}{i:Nat}{k d:Int}{n:jp}{t:KT}(u:0<=f)(h:GI o f i k n)(y:k<d)(p:d<=1280)(w:0<=k)(m:GK t (cls o f i) d):GI o f (i+1) d (n++[t]):=by
 refine⟨?_,λx e=>?_⟩
 ·rw[vH];exists h.1,uH _ _;intro a q b r;rw[yY.mp r];let⟨c,s,g,l,j,v⟩:=h.2 a q;exact ZPk g m l ∅ j p
 ·have:=E5 o f i u;rcases yQ.mp e with e | e
  ·let⟨c,s,g,l,j,v⟩:=h.2 x e;exact⟨c,s,g,∅,j,∅⟩
  ·rw[yY.mp e];exact⟨_,d,m,this,∅,Int.le_refl _⟩
inductive UR(g:je)(H:Hp)(Q:VK)(_:XK):Prop
 |mk(p:aj)(_:g=[.ref p])(_:ZN H p)(_:∀(D:aj)(e:je)(d:jp)(c:Hp),ZF p H c->ZN c p->H D=none->c D=some (.lst e)->jR c d e->(∀ t∈d,t.fits 3=true)->e.length=64->d.Pairwise (λa b=>a.lt b=true)->Q (.ref D) c)
abbrev ZPq:jq:=["_law_well_here","_law_signs","_law_found","_law_size","_law_one","_law_two","_law_j"]
def QW:ZB ZPq zE8 (Zf KK):=YA
def ZMp(F:Zn K "_law_grid" "_law_grid" KK f fd)(T:YY mg)(DP:ZC P w K mg jX 1 "_law_pull" zEf YK):ZH P w K mg jX Zd 2 f fd zE8 UR:=by
 refine F.ko QW λc9 A c0 s H vs Q E hr h=>?_;let⟨p,rfl,W,k⟩:=h;let M:=QW.nd;intro Xc;refine⟨_,ZP (Zx 1 M Yk)
  (ZP (Zx 2 M (Yp Zw))
  (ZP (Zx 3 M ZJ)
  (ZP (Zx 4 M (Zr DP hr (Ze (pv 0) ZJ)))
  (ZP (Zx 5 M (Z1 WJ (pv 4) (Zr DP hr (Ze (pv 0) (Z1 Ql ZJ (pv 4))))))
  (ZP (VM PassesOwn.never rfl (OP rfl T.range (ZT ZJ)) (Yc 6 M)
   (ZP (Zx 3 M (Z1 WJ (Z1 WJ (pv 3) ZJ) (Zr DP hr (Ze (pv 0) ZJ))))
   (ZV (Zo (YI ND (pv 6) (pv 4) (Zz _))
    (ZV (WB (V6 yL xO xN Uo (pv 2) (ZT (Z1 Ql (pv 3) ZJ)))))
    (ZV (Zo (YI ND (pv 6) (pv 5) (Zz _))
     (ZV (WB (V6 yL xO xN Uo (pv 2) (ZT (Z1 Jd (Z1 Jd (Z1 Jd Yk (Zs K (pv 1) (Z1 IA (pv 3) ZJ))) (Zs K (pv 1) (Z1 QS (pv 3) ZJ))) (Z1 Bm Yk (Z1 QS (pv 6) ZJ)))))))
     (ZV (WB (V6 yL xO xN Uo (pv 2) (ZT (Z1 Du (Yg (Ze Yk (pv 3))) (Z1 Ev (Yg (ZT ZJ)) (Z1 QS (pv 6) ZJ)))))))))))))
  (ZV (Zl (pv 2)))))))),?_⟩
 exists (by show 0<=aq;decide)
 intro D nD;let g0:=ZX nD (.lst []);let W0:=W.same g0;let y:D≠p:=by let⟨xs,e⟩:=W.some;exact(Za e nD).symm
 exists _,Z,p,65,Z,W0,Wh (by decide) (by decide)
 intro o H1 o0 o1 W1 s1;exists _,Z,_,Z,_,Z,_,_,Z,Z,p,_,Z,W1,Wh nofun (xJ (show (65-o).natAbs<=65 from nofun) (by decide))
 intro B H2 c6 e0 W2 s2;exists _,_,Z,Z;let a3:H2 D=some (.lst []):=s2 D _ (s1 D _ ZO y) y;let c5:ZF p H H2:=((ZF.of g0).trans s1).trans s2;refine⟨64,Z,by decide,by decide,Pv (n:=64) (λi σ C=>∃(l:Int)(x:jf)(j:je)(N:jp),σ=[some (.ref p),some (.str YS),some (.ref D),some (.int l),some (.int o),some (.int (o+B)),x]/\0<=l/\l<=20 * i/\ZF p H C/\ZN C p/\C D=some (.lst j)/\jR C N j/\(∀ t∈N,t.fits 3=true)/\j.length=i/\GI o B i l N)
  ⟨0,none,[],[],Z,by decide,by decide,c5,W2,a3,.nil,λt ht=>absurd ht (by simp),Z,.nil,λt ht=>absurd ht (by simp)⟩ ?_ ?_⟩
 ·rintro i σ C hi ⟨l,x,j,N,rfl,z0,z1,s3,W3,I,kU,fU,lU,gU⟩;refine⟨_,Z,_,_,Z,Z,_,Z,p,20,Z,W3,Wh (by decide) (by decide),λr S r0 r1 W4 s4=>⟨_,_,Z,Z,?_⟩⟩
  let c4:ZF p H S:=s3.trans s4;let g:=s4 D _ I y;let a7:=kU.mono (s4.tupsW W3) _ _;obtain⟨d,a5,c7,c8⟩:∃ d:Int,l+1+r=d/\0<=d/\d<=20 * (i+1:Nat):=⟨_,Z,nofun,nofun⟩
  let a2:l<d:=nofun
  show U0 3 (V.int (l+1+r)) _ _ _;rw[a5];let m:∀(v:V)(t:KT)(q:Hp),ZD S q->ZG q t v->t.fits 3=true->GK t (cls o B i) d->∃(l:Int)(x:jf)(R:je)(O:jp),[some (V.ref p),some (.str YS),some (.ref D),some (.int d),some (.int o),some (.int (o+B)),some (.int (0+(i:Int)))]=[some (.ref p),some (.str YS),some (.ref D),some (.int l),some (.int o),some (.int (o+B)),x]/\0<=l/\l<=20 * (i+1:Nat)/\ZF p H (upd q D (.lst (j++[v])))/\ZN (upd q D (.lst (j++[v]))) p/\upd q D (.lst (j++[v])) D=some (.lst R)/\jR (upd q D (.lst (j++[v]))) O R/\(∀ t∈O,t.fits 3=true)/\R.length=i+1/\GI o B (i+1) l O:=λv t q s5 kv fv a6=>by
   let a4:=s5 _ _ g;let tD:Yb q (upd q D (.lst (j++[v]))):=(ZF.refl D q).upd.tups a4;refine⟨d,_,j++[v],N++[t],Z,c7,c8,λb u e n=>?_,?_,ZO,((a7.sm s5).append (.cons kv .nil)).mono tD _ _,λz hz=>?_,by simp[lU],AR c6 gU a2 nofun z0 a6⟩
   ·rw[ZU (Za e nD)];exact s5 b u (c4 b u e n)
   ·let⟨a1,b1,c1,d1,hw,rr⟩:=(W4.same s5).ex;exact⟨a1,b1,c1,d1,by rw[ZU (Ne.symm y)];exact hw,rr⟩
   ·rcases yQ.mp hz with h | h
    ·exact fU z h
    ·rw[yY.mp h];exact fv
  let U:d.natAbs<10 ^ 60:=Gn nofun nofun
  let X:(d-700).natAbs<10 ^ 60:=Gn nofun nofun
  exists _,Z,_,Z,_,_,Z,Z,_,Z;refine X7 (λc=>?_) (λc=>?_)
  ·exists _,Z,.inl ⟨Z,_,ZM.of g⟩,_,Z,_,_,Z,Z,D,j,_,Z,Z,g,Ye nofun
   exact m _ (.int (d-700)) S (ZD.refl _) (.int _) (NI X 3) (by rw[show cls o B i=0 from aQ (by have:=of_decide_eq_true c;lia (splits:=8))];exact .int _)
  exists _,Z,_,Z,_,_,Z,Z,_,Z;refine X7 (λc2=>?_) (λc2=>?_)
  ·let Y:cls o B i=1:=by unfold cls;rw[aP (by have:=of_decide_eq_false (vD.mpr c);lia (splits:=8)),aQ (by have:=of_decide_eq_true c2;lia (splits:=8))]
   let⟨c1,J,a8⟩:=FK (i:=d / 50) nofun nofun
   let⟨c3,L,a9⟩:=FK (i:=d % 50) nofun nofun
   exists _,Z,.inl ⟨Z,_,ZM.of g⟩,_,Z,_,Z,_,_,Z,Z,⟨by decide,by decide⟩
   refine .inr (.inr ⟨YS,_,c1,rfl,rfl,(by decide +kernel),J,_,_,rfl,rfl,(by show 2<=aq;decide),?_⟩)
   refine⟨_,Z,_,Z,_,_,Z,Z,(show (0:Int)<50 by decide),.inr (.inr ⟨YS,_,c3,rfl,rfl,(by decide +kernel),L,_,_,rfl,rfl,(by show 3<=aq;decide),?_⟩)⟩
   let tx:Z0 (("k" : Str)++⟨#[c1]⟩++⟨#[c3]⟩) 3:=(Z0.k.cat (.one a8)).cat (.one a9);rcases(show ((0:Int)+(i:Int)) % 2=1\/((0:Int)+(i:Int)) % 2=0 from nofun) with G | G
   ·refine⟨_,Z,_,_,Z,Z,(show (0:Int)<2 by decide),_,_,Z,Z,(by decide +kernel),.inl ⟨G,?_⟩⟩
    exists _,_,Z,Z,nn (zC (tV tx.1 Z0.a.1) (by decide)),D,j,_,Z,Z,g,Ye nofun
    exact m _ (.str _) S (ZD.refl _) (.str _) (M2 (tx.cat .a) (by decide) 3) (by rw[Y];exact .str (tl:=[97]) Z J L)
   ·refine⟨_,Z,_,_,Z,Z,(show (0:Int)<2 by decide),_,_,Z,Z,(by decide +kernel),.inr ⟨G,?_⟩⟩
    exists _,_,Z,Z,nn (zC (tV tx.1 Z0.e.1) (by decide)),D,j,_,Z,Z,g,Ye nofun
    exact m _ (.str _) S (ZD.refl _) (.str _) (M2 (tx.cat .e) (by decide) 3) (by rw[Y];exact .str (tl:=[]) Z J L)
  ·let Y:cls o B i=2:=by unfold cls;rw[aP (by have:=of_decide_eq_false (vD.mpr c);lia (splits:=8)),aP (by have:=of_decide_eq_false (vD.mpr c2);lia (splits:=8))]
   exists _,Z,.inl ⟨Z,_,ZM.of g⟩,_,Z,Zu;intro t1 n1;let g1:=ZX n1 (.tup [.str "",.int d]);exists Zu;intro t2 n2;let g2:=ZX n2 (.tup [.int 0]);let a0:=g1.trans g2;rcases(show ((0:Int)+(i:Int)) % 2=1\/((0:Int)+(i:Int)) % 2=0 from nofun) with G | G
   ·refine⟨_,Z,_,_,Z,Z,(show (0:Int)<2 by decide),t2,.int 0,_,Z,Z,Zh.of ZO,.inl ⟨G,?_⟩⟩
    exists t1,t2,_,_,Z,Z,Zh.of (g2 _ _ ZO),Zh.of ZO,(by simp),Zu,(λz=>absurd z (by simp))
    intro _ t3 n3;let g3:=ZX n3 (.tup ([.str "",.int d]++[.int 0]));let gA:=a0.trans g3;exists D,j,_,Z,Z,gA _ _ g,Ye nofun
    exact m _ (.tup [.str "",.int d,.int 0]) _ gA (.tup ZO (.cons (.str _) (.cons (.int _) (.cons (.int _) .nil)))) (ZJa U) (by rw[Y];exact .tup _ _)
   ·refine⟨_,Z,_,_,Z,Z,(show (0:Int)<2 by decide),t2,.int 0,_,Z,Z,Zh.of ZO,.inr ⟨G,λt3 n3=>?_⟩⟩
    let g3:=ZX n3 (.tup []);let gA:=a0.trans g3;refine⟨t1,t3,_,_,Z,Z,Zh.of (g3 _ _ (g2 _ _ ZO)),Zh.of ZO,(by simp),Zu,(λ_=>?_),λz=>absurd Z z⟩
    exists D,j,_,Z,Z,gA _ _ g,Ye nofun
    exact m _ (.tup [.str "",.int d]) _ gA (.tup (g3 _ _ (g2 _ _ ZO)) (.cons (.str _) (.cons (.int _) .nil))) (ZNg U) (by rw[Y];exact .tup _ _)
 ·rintro σ C ⟨l,x,j,N,rfl,z0,z1,s3,W3,I,kU,fU,lU,gU⟩;exact⟨_,Z,k D j N C s3 W3 nD I kU fU lU gU.1⟩
def Nj{H:Hp}{L:Yo}{u:V}(h:ZG H L.kt u):Yr H L u:=by
 unfold Yo.kt at h;rw[ZG] at h;let⟨a,q,rfl,e,b⟩:=h;rw[jR] at b;let⟨o,k,rfl,c,b⟩:=b;rw[jR] at b;let⟨i,l,rfl,f,b⟩:=b;rw[jR] at b;let⟨j,m,rfl,g,b⟩:=b;rw[jR] at b;let⟨p,n,rfl,d,b⟩:=b;rw[jR] at b;subst b;rw[ZG] at c d;subst c d;exact⟨a,i,j,Z,e,f,g⟩
def ZPW:Yo.d.fit:=⟨NI (n:=0) (by decide) 3,NI (n:=0) (by decide) 3⟩
def GW(H:Hp)(b:jp)(c:je):Prop:=c.length=b.length/\∀ i u,c[i]? = some u->∃ a d e,u=.ref a/\H a=some (.tup [d,e])/\ZG H (b.getD i (.int 0)) d
def M8(a:jp):KT:=.tup [.int 0,a.getD 0 (.int 0),a.getD (a.length-1) (.int 0),.int a.length]
def ZMo{a:je}{u:V}(h:a[a.length-1]? = some u):X8 a (-1)=some u:=by
 let b:a≠[]:=λz=>by rw[z] at h;simp at h
 let e:a=a.dropLast++[u]:=by
  let c:a.getLast b=u:=by
   rw[rR];exact(yH.mp h).2
  rw[<-c,qZ]
 rw[e];exact Jt _ _
inductive Xv(d:je)(H:Hp)(Q:VK)(_:XK):Prop
 |mk(l:aj)(b:je)(c:jp)(_:d=[.ref l])(_:H l=some (.lst b))(_:GW H c b)(_:0<b.length)(_:∀(a:Hp)(v:V),ZD H a->ZG a (M8 c) v->Q v a)
def ZJZ:ZB zEu zEu (Zf Ja):=YA
def ZHy(F:Zn K "label_of_rows" "label_of_rows" Ja f fd)(T:YY mg):ZH P w K mg jX Zd 1 f fd zEu Xv:=by
 refine F.ko ZJZ λq A i s H L Q E I h=>?_;let⟨l,c,J,rfl,e,d,u,k⟩:=h;intro C;refine⟨_,ZV (Zl (Yg (Pu ZJ (Zs K (Zs K (pv 0) ZJ) ZJ)
  (Zs K (Zs K (pv 0) (Q6 Pi ZJ)) ZJ) (Zq WK rfl T.len Xu (ZT (pv 0)))))),?_⟩
 let m:c[0]? = some c[0]:=zU u;let n:c[c.length-1]? = some (c[c.length-1]'∅):=zU ∅
 let⟨a,o,D,r,z,x⟩:=d.2 0 _ m;let⟨b,bk,G,t,B,y⟩:=d.2 _ _ n;rw[r] at m;rw[t] at n;refine⟨_,Z,.inl ⟨l,c,_,.ref a,Z,Z,ZM.of e,X1 (j:=0) m,.inr (.inl ⟨a,_,_,o,rfl,rfl,Zh.of z,rfl,?_⟩)⟩⟩;refine⟨_,Z,1,Z,.inl ⟨l,c,_,.ref b,Z,Z,ZM.of e,ZMo n,.inr (.inl ⟨b,_,_,bk,rfl,rfl,Zh.of B,rfl,?_⟩)⟩⟩;exists _,Z,l,c,Z,.inl (ZM.of e),Zu;intro p v;let g:=ZX v (.tup [.int 0,o,bk,.int c.length]);refine k _ _ g ?_;unfold M8;rw[<-d.1];exact .tup ZO (.cons (.int _) (.cons (x.sm g) (.cons (y.sm g) (.cons (.int _) .nil))))
abbrev WD:=KT×KT
abbrev jF:=List WD
def Ia(r:WD):KT:=.tup [r.1,r.2]
def XW(a:jF):jp:=a.map Ia
def WD.fit(r:WD):Prop:=r.1.fits 3=true/\r.2.fits 3=true
def ZMx{H:Hp}{b c:aj}{d:V}(e:H b=some (.tup []))(g:H c=some (.tup [.int 1,.str "a"]))(a:d∈[V.int 0,.int 1,.str "v",.str "",.ref b,.ref c]):∃ t:KT,ZG H t d/\t.fits 3=true:=by
 simp only[zF,wQ,or_false] at a;rcases a with rfl | rfl | rfl | rfl | rfl | rfl
 ·exact⟨.int 0,.int _,by decide +kernel⟩
 ·exact⟨.int 1,.int _,by decide +kernel⟩
 ·exact⟨.str "v",.str _,by decide +kernel⟩
 ·exact⟨.str "",.str _,by decide +kernel⟩
 ·exact⟨.tup [],.tup e .nil,by decide +kernel⟩
 ·exact⟨.tup [.int 1,.str "a"],.tup g (.cons (.int _) (.cons (.str _) .nil)),by decide +kernel⟩
inductive Xf(h:je)(H:Hp)(Q:VK)(_:XK):Prop
 |mk(p d:aj)(b:Int)(e:je)(gt:jp)(_:h=[.ref p,.ref d,.int b])(_:ZN H p)(_:d≠p)(_:H d=some (.lst e))(_:jR H gt e)(_:∀ t∈gt,t.fits 3=true)(_:e.length=64)(_:0<=b)(_:b<16)(_:∀(D:aj)(c:je)(g:jF)(a:Hp),ZF p H a->ZN a p->H D=none->a D=some (.lst c)->jR a (XW g) c->(∀ r∈g,r.fit)->(g.map (·.1)).Sublist gt->0<c.length->c.length<=4->Q (.ref D) a)
abbrev Ao:jq:=["_law_well_here","_law_grid_here","_law_block","_law_rows","_law_j"]
def WP:ZB Ao zEl (Zf IB):=YA
def AV(F:Zn K "_law_leaf_rows" "_law_leaf_rows" IB f fd)(T:YY mg)(DP:ZC P w K mg jX 1 "_law_pull" zEf YK):ZH P w K mg jX Zd 2 f fd zEl Xf:=by
 refine F.ko WP λc7 A c6 s H vs Q E hr h=>?_;let⟨p,N,b,X,gt,rfl,W,a0,hg,kg,fg,lg,b0,b1,k⟩:=h;let nd:=WP.nd;let a9:=hr.units0;intro Xc;refine⟨_,ZP (Zx 3 nd (Yp Zw))
  (ZP (VM PassesOwn.never rfl (OP rfl T.range (ZT ZJ)) (Yc 4 nd)
   (ZV (Zo (YI PQ (Zr DP hr (Ze (pv 0) ZJ)) ZJ (Zz _))
    (ZV (WB (V6 yL xO xN Uo (pv 3) (ZT (Yg (Vo (Zs K (pv 1) (Z1 WJ (Z1 ON ZJ (pv 2)) (pv 4)))
     (ZT (Zs K (Yp (pa6 ZJ ZJ Yk Yk (Yg Zw) (Yg (Ze ZJ Yk)))) (Zr DP hr (Ze (pv 0) ZJ)))))))))) Zt)))
  (ZP (Zo (YI (MA a9) (pv 3) (Yp Zw) (Zz _))
   (ZV (WB (V6 yL xO xN Uo (pv 3) (ZT (Yg (Ze (Zs K (pv 1) (Z1 WJ (Z1 ON ZJ (pv 2)) (Zr DP hr (Ze (pv 0) ZJ)))) Yk)))))) Zt)
  (ZV (Zl (pv 3))))),?_⟩
 let B:∀{g:Hp}{D:aj}{o:HO},ZN g p->D≠p->ZN (upd g D o) p:=fun{g D o} W5 n=>by
  let⟨a1,b1,c1,d1,hw,rr⟩:=W5.ex;exact⟨a1,b1,c1,d1,by rw[ZU (Ne.symm n)];exact hw,rr⟩
 exists (by show 0<=aq;decide)
 intro D Y;let g0:=ZX Y (.lst []);let m:D≠p:=by let⟨xs,e⟩:=W.some;exact(Za e Y).symm
 let c8:N≠D:=Za hg Y;let a6:∀(H':Hp)(j:Nat),ZF p H H'->j<64->∃(v:V)(t:KT),X8 X (j:Int)=some v/\ZG H' t v/\t.fits 3=true/\gt[j]? = some t:=λH' j s' hj=>by
  let hv:X[j]? = some (X[j]'∅):=zU ∅
  let⟨t,et,kt⟩:=kg.get hv;exact⟨_,t,X1 hv,kt.mono (s'.tupsW W) _ _,fg t (yU et),et⟩
 refine⟨4,Z,by decide,by decide,Pv (n:=4) (λi σ S=>∃(x:jf)(y:je)(G:jF),σ=[some (.ref p),some (.ref N),some (.int b),some (.ref D),x]/\ZF p H S/\ZN S p/\S D=some (.lst y)/\jR S (XW G) y/\(∀ r∈G,r.fit)/\(G.map (·.1)).Sublist ((gt.drop (4 * b.toNat)).take i)/\y.length<=i)
  ⟨none,[],[],Z,ZF.of g0,W.same g0,ZO,.nil,(λt ht=>absurd ht (by simp)),List.nil_sublist _,zY _⟩ ?_ ?_⟩
 ·rintro i σ S hi ⟨x,y,G,rfl,s3,W3,J,kU,fU,sU,lU⟩;refine⟨_,Z,p,3,Z,W3,Wh (by decide) (by decide),λr H4 r0 r1 I s4=>⟨_,_,Z,Z,_,Z,?_⟩⟩
  let O:=s3.trans s4;let a:=s4 D _ J m;let a5:=kU.mono (s4.tupsW W3) _ _;refine X7 (λc=>?_) (λc=>?_)
  ·let ej:(4:Int) * b+(0+(i:Int))=((4 * b.toNat+i:Nat):Int):=∅
   let⟨v,t,av,kv,fv,et⟩:=a6 H4 (4 * b.toNat+i) O ∅
   let a4:H4 N=some (.lst X):=O N _ hg a0;refine⟨_,Z,.inl ⟨Z,_,ZM.of a⟩,_,Z,_,Z,_,_,Z,Z,.inl ⟨by decide,by decide⟩,_,Z,_,_,Z,Z,.inl ⟨N,X,_,v,Z,Z,ZM.of a4,(by rw[ej];exact av),?_⟩⟩
   exists Zu;intro t1 n1;let M:=ZX n1 (.tup []);exists Zu;intro t2 n2;let g2:=ZX n2 (.tup [.int 1,.str "a"]);exists Zu;intro L nL;let g3:=ZX nL (.lst [.int 0,.int 1,.str "v",.str "",.ref t1,.ref t2]);let gA:=(M.trans g2).trans g3;let c4:L≠p:=by let⟨xs,e⟩:=(I.same (M.trans g2)).some;exact(Za e nL).symm
   exists _,Z,p,6,Z,I.same gA,Wh (by decide) (by decide)
   intro q g q0 q1 W5 U;let⟨vv,ev,mv⟩:=LP (xs:=[V.int 0,.int 1,.str "v",.str "",.ref t1,.ref t2]) q0 q1;refine .inl ⟨L,_,_,vv,Z,Z,ZM.of (U L _ ZO c4),ev,Zu,λR nR=>?_⟩;let C:=ZX nR (.tup [v,vv]);let a3:∀ b o,H4 b=some o->b≠p->upd g R (.tup [v,vv]) b=some o:=λb o e n=>C b o (U b o (gA b o e) n);let a7:Yb H4 (upd g R (.tup [v,vv])):=λb ys e=>ZD.tups C b ys (U.tupsW (I.same gA) b ys (ZD.tups gA b ys e));let l:=a3 D _ a m;let c2:t1≠p:=by let⟨xs,e⟩:=I.some;exact(Za e n1).symm
   let c3:t2≠p:=by let⟨xs,e⟩:=(I.same M).some;exact(Za e n2).symm
   let⟨tv,c0,a8⟩:=ZMx (H:=upd g R (.tup [v,vv])) (C _ _ (U _ _ (g3 _ _ (g2 _ _ ZO)) c2)) (C _ _ (U _ _ (g3 _ _ ZO) c3)) mv;exists D,y,_,Z,Z,l,Ye ∅
   let tD:Yb (upd g R (.tup [v,vv])) (upd (upd g R (.tup [v,vv])) D (.lst (y++[.ref R]))):=(ZF.refl D _).upd.tups l;refine⟨_,y++[.ref R],G++[(t,tv)],Z,λb o e n=>?_,B (W5.same C) m,ZO,?_,λz hz=>?_,?_,by simp;lia⟩
   ·rw[ZU (Za e Y)];exact a3 b o (O b o e n) n
   ·let e1:XW (G++[(t,tv)])=XW G++[Ia (t,tv)]:=by unfold XW;rw[yR];rfl
    rw[e1];exact((a5.mono a7 _ _).mono tD _ _).append (.cons (.tup (tD _ _ ZO) (.cons ((kv.mono a7 _ _).mono tD _ _) (.cons (c0.mono tD _ _) .nil))) .nil)
   ·rcases yQ.mp hz with h | h
    ·exact fU z h
    ·rw[yY.mp h];exact⟨fv,a8⟩
   ·let e2:(gt.drop (4 * b.toNat))[i]? = some t:=by rw[List.getElem?_drop];exact et
    rw[yR,yI,e2];exact sU.append (tZ.refl _)
  ·exact⟨_,y,G,Z,O,I,a,a5,fU,sU.trans (by rw[yI];exact List.sublist_append_left _ _),∅⟩
 ·rintro σ S ⟨x,y,G,rfl,s3,W3,J,kU,fU,sU,lU⟩;exists _,Z,(by show 0<=aq;decide)
  intro d c5;let M:=ZX c5 (.lst []);exists D,d,y,Z,Z,ZM.of (M _ _ J),ZM.of ZO,_,Z;let I:=W3.same M;let s4:ZF p H (upd S d (.lst [])):=s3.trans (ZF.of M);let a:=M _ _ J
  cases y with
  | cons u ur=>
   refine Zm ⟨_,Z,?_⟩;exact k D _ G _ s4 I Y a (kU.sm M) fU ((sU.trans (List.take_sublist _ _)).trans (List.drop_sublist _ _)) (by simp) lU
  | nil=>
   refine Z3 ?_;let a4:upd S d (.lst []) N=some (.lst X):=s4 N _ hg a0;refine⟨_,Z,.inl ⟨Z,_,ZM.of a⟩,_,Z,_,Z,_,_,Z,Z,.inl ⟨by decide,by decide⟩,_,Z,p,4,Z,I,Wh (by decide) (by decide),λr g r0 r1 W5 U=>⟨_,_,Z,Z,?_⟩⟩
   let a2:=s4.trans U;let ej:(4:Int) * b+r=((4 * b.toNat+r.toNat:Nat):Int):=∅
   let⟨v,t,av,kv,fv,et⟩:=a6 g (4 * b.toNat+r.toNat) a2 ∅
   refine .inl ⟨N,X,_,v,Z,Z,ZM.of (a2 N _ hg a0),(by rw[ej];exact av),Zu,λR nR=>?_⟩
   let C:=ZX nR (.tup [v,.str "w"]);let l:=C _ _ (U D _ a m);exists D,[],_,Z,Z,l,Ye (by decide)
   let tD:Yb (upd g R (.tup [v,.str "w"])) (upd (upd g R (.tup [v,.str "w"])) D (.lst ([]++[.ref R]))):=(ZF.refl D _).upd.tups l;refine⟨_,Z,k D [.ref R] [(t,.str "w")] _ (λb o e n=>?_) (B (W5.same C) m) Y ZO ?_ (λz hz=>?_) (rS.mpr (yU et)) (by simp) (by simp)⟩
   ·rw[ZU (Za e Y)];exact C b o (a2 b o e n)
   ·exact .cons (.tup (tD _ _ ZO) (.cons ((kv.sm C).mono tD _ _) (.cons (.str _) .nil))) .nil
   ·rw[yY.mp hz];exact⟨fv,show (KT.str "w").fits 3=true by decide +kernel⟩
inductive VL(b:je)(H:Hp)(Q:VK)(_:XK):Prop
 |mk(i:Int)(_:b=[.int i,.int i])(_:∀ a,ZD H a->Q (.bl true) a)
def ZM6:ZB zEd zEd (Zf JO):=YA
def B8(F:Zn K "_law_count" "_law_count" JO f fd)(T:YY mg):ZH P w K mg jX Zd 1 f fd zEd VL:=by
 refine F.ok ZM6 (λc H Q E h=>?_) (λb A a s H c Q E e h=>?_)
 ·let⟨i,rfl,_⟩:=h;rfl
 let⟨i,rfl,k⟩:=h;intro d;refine⟨_,ZV (Zl (Q2 (Zq Xs rfl T.isi Yx (Zj (pv 0) (Zj (Xi (v:=.ty "int") rfl T.int Qw rfl) Zw)))
   (Q2 (FG (Zq Xs rfl T.isi Yx (Zj (pv 0) (Zj (Xi (v:=.ty "bool") rfl T.bool P2 rfl) Zw)))) (OZ (Vz Y1 (pv 0) (pv 1) (Zz _)))))),?_⟩
 refine⟨_,Z,_,_,_,_,Z,.int i,Oi,_,Z,Z3 ?_⟩;refine⟨_,Z,_,_,_,_,Z,.int i,NW,_,Z,_,Z,Z3 ?_⟩;exists _,Z,_,Z,Z;rw[aO rfl];exact k H (ZD.refl H)
inductive YZ(c:je)(H:Hp)(Q:VK)(_:XK):Prop
 |mk(p l:aj)(a:je)(_:c=[.ref p,.ref l])(_:ZN H p)(_:l≠p)(_:H l=some (.lst a))(_:0<a.length)(_:a.length<=900)(_:∀(x:V)(b:Hp),ZF p H b->ZN b p->x∈a->Q x b)
def BE:ZB zEh zEh (Zf IQ):=YA
def An(F:Zn K "_law_picked" "_law_picked" IQ f fd)(T:YY mg)(e:ZC P w K mg jX 1 "_law_pull" zEf YK):ZH P w K mg jX Zd 2 f fd zEh YZ:=by
 refine F.ko BE λj A b s H B Q E n h=>?_;let⟨p,l,a,rfl,W,q,c,y,z,k⟩:=h;intro v;exists _,ZV (Zl (Zs K (pv 1) (Zr e n (Ze (pv 0) (Zq WK rfl T.len Xu (Zj (pv 1) Zw))))));exists _,Z,_,Z,_,Z,l,a,Z,.inl (ZM.of c),p,(a.length:Int),Z,W,Wh ∅ (xJ (show ((a.length:Int)).natAbs<=900 by lia) (by decide))
 intro r g t u i d;let⟨x,m,o⟩:=LP (xs:=a) t u;exact .inl ⟨l,a,r,x,Z,Z,ZM.of (d l _ c q),m,k x g d i o⟩
inductive Xl(g:je)(H:Hp)(Q:VK)(_:XK):Prop
 |mk(d l:aj)(b:List (ZW×V))(c:jw)(e:Int->Int)(_:g=[.ref d,.ref l])(_:H d=some (.dK b))(_:H l=some (.lst (c.map V.int)))(_:∀ n∈c,YR b (.inl n)=some (.int (e n)))(_:∀ n,c.find? (λm=>decide (e m=0))=some n->∀(t:aj)(a:Hp),ZD H a->a t=some (.tup [.str "held",.int n])->Q (.ref t) a)(_:c.find? (λm=>decide (e m=0))=none->∀ a:Hp,ZD H a->Q .non a)
def Vx:ZB ["_law_holds","_law_numbers","_law_number"] zEs (Zf IN):=YA
def Nl{b:Type}{p:b->Bool}{x:b}:∀{l:List b}{i:Nat},(l.take i).find? p=none->l[i]? = some x->(p x=true->l.find? p=some x)/\(p x=false->(l.take (i+1)).find? p=none)
 | [],i,_,e=>by simp at e
 | a::l,0,_,e=>by
  simp at e;subst e;exact⟨λh=>by simp[xE,h],λh=>by simp[xE,h]⟩
 | a::l,i+1,h,e=>by
  simp only[List.take_succ_cons,xE] at h⊢
  cases c:p a with
  | true=>rw[c] at h;simp at h
  | false=>
   rw[c] at h;have:=Nl (l:=l) (i:=i) (p:=p) h (by simpa using e)
   simpa using this
def ZJ2(F:Zn K "_law_unheld" "_law_unheld" IN f fd)(T:YY mg):ZH P w K mg jX Zd 1 f fd zEs Xl:=by
 refine F.ko Vx λz A r s H Y Q E L h=>?_;let⟨d,l,S,q,g,rfl,I,y,N,O,R⟩:=h;let U:=Vx.nd;let M:=UC L;intro X;refine⟨_,ZP (VM PassesOwn.never rfl (VN (pv 1)) (Yc 2 U)
   (ZV (Zo (YI Y1 (Vg M (pv 0) (pv 2)) ZJ (Zz _)) (ZV (Zl (Yg (Ze Yk (pv 2))))) Zt)))
  (ZV (Zl P1)),?_⟩
 refine⟨_,Z,l,Z,⟨_,ZM.of y⟩,Qt (K:=K) (a:=l) (xs:=q.map V.int) (λi p e=>∃ x:jf,p=[some (.ref d),some (.ref l),x]/\ZD H e/\(q.take i).find? (λm=>decide (g m=0))=none) ⟨_,Z,ZD.refl H,Z⟩ (λi p e _ G=>by let⟨_,_,b,_⟩:=G;exact ZM.of (b _ _ y)) ?_ ?_⟩
 ·rintro i u p e j ⟨x,rfl,b,o⟩;obtain⟨n,v,rfl⟩:∃ n,q[i]? = some n/\V.int n=u:=by
   rw[zH] at j;exact yA.mp j
  let J:YD e d (.int n) (some (.int (g n))):=N n (yU v) ▸ YD.k (k:=Sum.inl n) (b _ _ I);let⟨C,D⟩:=Nl o v;exists _,Z,_,Z,d,.int (g n),Z,J;exists Z,_,Z;let B:decide (V.int (g n)=V.int 0)=decide (g n=0):=by simp
  rw[B]
  cases c:decide (g n=0) with
  | true=>exact Z3 ⟨_,Z,Zu,λt W=>O n (C c) t _ (b.trans (ZX W _)) ZO⟩
  | false=>exact Zm ⟨_,Z,b,D c⟩
 ·rintro p e ⟨x,rfl,b,o⟩;rw[yF (by simp)] at o
  exact R o e b
end Tw
namespace L2
open PySem PySem.Spec PyProof.Rows
section
variable{T:String}{r d:aj}{n:Nat}{P:Nat->ai->Prop}{OK:aD->Prop}
def Bk{R:Result->al->Prop}(K:tM prog w T r d n P OK)(l:A.handled=none)(h:OK s.heap)(S:aj)(g:S≠r)(f:S≠d)(c:Nat)(k:s.heap.get? S=some { cls:=.type "list",data:=.seq #[] c })(j:∀ e p a i,(∀ b o,b≠S->s.heap.get? b=some o->e.get? b=some o)->e.get? S=some { cls:=.type "list",dict:=none,data:=.seq a i,slots:=#[] }->ItemsOf P a n->R (.ok (.ret (.ref S))) { s with heap:=e,toks:=p })(m:n<=aq):
  aH (aA prog w) A (.builtin "list.__iadd__" ⟨[.ref S,.ref r],[]⟩) R s:=by
 refine codeAny_builtin PySem.F.entry_list_iadd ?_;rw[Around.under_plainId rG _];exact PySem.W.kdl_extend (R:=R) K l h S g f (.ref S) c k j m
def ZGN{Q:jd->al->Prop}(K:tM prog w T r d n P OK)(q:A.handled=none)(j:OK s.heap)(u:n<=aq)(m:∀ f k a,(∀ b o,s.heap.get? b=some o->f.get? b=some o)->s.heap.objs.size<f.objs.size->ItemsOf P a n->Q a.toList { s with heap:=f,toks:=k }):aB (aA prog w) A (collect (.ref r)) Q E s:=by
 let i:=K.there _ j;unfold collect;refine aa (wpAny_runValue (codeAny_builtin PySem.F.entry_proto_collect ?_));rw[Around.under_plainId PySem.F.plain_proto_collect _];show aB _ A.in1 (newList [] >>= λl=>again (.builtin "list.__iadd__" ⟨[l,.ref r],[]⟩)) _ _ s;refine aa (wpAny_newObj_type ?_);let p:(s.heap.push { cls:=.type "list",data:=.seq ([]:jd).toArray }).get? s.heap.objs.size=some { cls:=.type "list",data:=.seq #[] 0 }:=yO _ Z;refine ad ⟨plainId_quiet rG _,Bk (s:={ s with heap:=s.heap.push { cls:=.type "list",data:=.seq ([]:jd).toArray } }) K q (K.keep _ _ j λb _ o e=>zQ _ e) s.heap.objs.size (xH i.1) (xH i.2) _ p (λf k c v t g h=>?_) u⟩;show aB _ A (load s.heap.objs.size >>= _) _ _ _;refine aa (wpAny_load g ?_);exact ad (m f k c (λb o e=>t b o (zM (zW e)) (zQ _ e)) (zW g) h)
def ZH6{Q:ja}{ns:jw}(K:tM prog w T r d n P OK)(I:A.handled=none)(t:OK s.heap)(J:n<=aq)(F:∀ f,ItemsOf P f n->IntsAre f.toList ns)(q:n<64)(L:ns.Pairwise (· <= ·))(G:∀ p x a g c,(∀ b o,s.heap.get? b=some o->p.get? b=some o)->s.heap.objs.size<=a->IntsAre g ns->p.get? a=some { cls:=.type "list",data:=.seq g.toArray c }->Q (.ref a) { s with heap:=p,toks:=x }):
  aB (aA prog w) A (call (.builtin "sorted") [.ref r]) Q E s:=by
 refine Calls.call_function_entry kind_sorted plain_sorted entry_sorted (args_sorted1 _) ?_;unfold Builtin.«sorted»;refine aa (m:=checkCount "sorted" 1 1 _) (ad ?_);refine aa (ZGN K I t J λj x f M u h=>?_);let D:=F f h;let k:f.toList.length<64:=by rw[vT,h.1];exact q
 refine aa (wpAny_newList ?_ (hsz:=xX (Ye ∅)))
 let i:(j.push (seqObj "list" f.toList.toArray 0)).get? j.objs.size=some (seqObj "list" f.toList.toArray 0):=yO _ Z;refine aa (af (wpAny_call_entry slot_list_sort ⟨_,i,rfl⟩ entry_list_sort (list_sort_tree i D k λg v y z B=>⟨_,Z,?_⟩) (args_list_sort _)));refine ad ⟨_,Z,?_⟩;let e:v=ns:=List.Perm.eq_of_pairwise (le:=(· <= ·)) (λa b _ _ j C=>Int.le_antisymm j C) B L z;subst e;let⟨c,H⟩:=sortedHeap_at (vs:=f.toList) (out:=g) i;refine G _ x j.objs.size g.toList c (λb o e=>?_) (xX u) y (by rw[rY];exact H)
 let l:=M b o e;rw[sortedHeap_old (zM (zW l)) (by rw[size_push'];exact vW (zW l))]
 exact zQ _ l
end
def Ab:∀{c:List (ZW×V)}{g:List (ZW×ai)}{d:jw},KV c g->c.map (·.1)=d.map Sum.inl->∀ b:jd,b.length=g.length->(∀(i:Nat)(v:ai),b[i]? = some v->∃(k:ZW)(x:ai),g[i]? = some (k,x)/\Ox k v=true)->IntsAre b d:=by
 intro c g d h e b l p;let f:=KV.keys h;rw[e] at f;clear e h
 induction g generalizing d b with
 | nil=>
  cases b with
  | nil=>
   cases d with
   | nil=>exact .nil
   | cons _ _=>simp at f
  | cons _ _=>simp at l
 | cons q r y=>
  cases b with
  | nil=>simp at l
  | cons a b=>
   cases d with
   | nil=>simp at f
   | cons n d=>
    simp only[yP,List.cons.injEq] at f;let⟨k,x,o,u⟩:=p 0 a Z;simp only[List.getElem?_cons_zero,zG.injEq] at o;subst o;let j:Sum.inl n=k:=f.1;subst j;obtain⟨i,t,m,s⟩ | ⟨i,t,m,s⟩:=Qo u
    ·cases m;subst s;exact .cons _ _ (y b (by simpa using l) (λi v w=>by simpa using p (i+1) v (by simpa using w)) f.2)
    ·cases m
def As:∀{b:jd}{a:jw},IntsAre b a->ZR (a.map V.int) b:=λh=>Ls h
def nn'{n:Nat}(h:n<64):n<=sizeLine:=xX (Ye ∅)
def PO:ay "sorted" = some (.builtin "sorted"):=by decide +kernel
inductive OG(d:je)(H:Hp)(Q:VK):Prop
 |mk(a:aj)(b:List (ZW×V))(c:jw)(_:d=[.ref a])(_:H a=some (.dK b))(_:b.map (·.1)=c.map Sum.inl)(_:c.Pairwise (· <= ·))(_:c.length<64)(_:∀ p,H p=none->Q (.ref p) (upd H p (.lst (c.map V.int))))
def Pz(D:X.calm=true):Vf X (.builtin "sorted") OG:=by
 intro t s T H S R Q I r h;let⟨a,g,j,rfl,C,l,F,f,q⟩:=h;let⟨u,rfl,K⟩:=V5 r;cases K;let⟨z,J,M,n,A⟩:=JJ I.hok C;let O:j.length=g.length:=by have:=congrArg xL l;simpa using this.symm
 let P:=KV.length n;let⟨x,y⟩:=A.dictAt;refine ZH6 (ns:=j) (PySem.W.kdl_dict (knd:=UO X.prog X.w) (kvs:=M) (ep:=x) J) (I.ok.hd D) y ∅ (λd b=>Ab n l d.toList (by rw[vT];exact b.1) λi v e=>?_) ∅ F λN L p k c G m B E=>?_
 ·exact b.2 i v (by rw[<-rT];exact e)
 ·exact⟨.ref p,_,I.laid (a:=p) (o:=.lst (j.map V.int)) (t':=L) G m ⟨by rw[zX];exact nn' f,k,c,As B,E⟩,Z,q p (I.hok.fresh m)⟩
section
variable{jW:js}{σ:St}{H:Hp}
end
def ZMm:typeLookup (.type "list_reverseiterator") "__len__" = pure none:=by rw[typeLookup_type,builtinLookup_eq_fast];kernel_rfl
def ZKX:typeLookup (.type "list_reverseiterator") "__length_hint__" = pure (some (.builtin "list_reverseiterator.__length_hint__")):=by rw[typeLookup_type,builtinLookup_eq_fast];kernel_rfl
def Bg:isSubtype (.type "list_reverseiterator") (.type "list_reverseiterator")=pure true:=by rw[isSubtype_type];kernel_rfl
def BT{r:aj}{Q:Bool->al->Prop}(d:s.TypeIs (.ref r) "list_reverseiterator")(h:Q false s):aB (aA prog w) A (Builtin.List.listLengthHint (.ref r)) Q E s:=by
 unfold Builtin.List.listLengthHint;refine aa (wpAny_specialOf d ZMm ?_)
 wp_delta
 refine wpAny_ite_split (λa=>absurd a (by decide +kernel)) (λ_=>?_)
 refine wpAny_ite_split (λa=>absurd a (by decide)) (λ_=>?_)
 refine aa (wpAny_specialOf d ZKX ?_);generalize c:("list_reverseiterator.__length_hint__" : String)=e
 wp_delta
 rw[show splitId e=some ("list_reverseiterator","__length_hint__") from by subst c;decide +kernel]
 subst c;refine aa (wpAny_isInstance (T:= "list_reverseiterator") (b:=true) d Bg ?_);refine wpAny_ite_split (λa=>absurd a (by decide)) (λ_=>?_)
 refine wpAny_ite_split (λ_=>?_) (λa=>absurd (by decide +kernel) a)
 refine wpAny_ite_split (λa=>absurd a (by decide)) (λ_=>?_)
 exact ad h
def ZGj{l d:aj}{items:jz}{Q:ja}(hh:A.handled=none)(J:s.heap.IsRevIter d l ((items.size:Int)-1))(hl:s.heap.IsList l items)(L:l≠d)(hn:items.size<=aq)(Y:∀ D B a C,(∀ b o,b≠d->s.heap.get? b=some o->D.get? b=some o)->D.get? s.heap.objs.size=some { cls:=.type "list",dict:=none,data:=.seq a C,slots:=#[] }->ItemsOf (λi v=>items[items.size-1-i]? = some v) a items.size->Q (.ref s.heap.objs.size) { s with heap:=D,toks:=B }):
  aB (aA prog w) A (call (.type "list") [.ref d]) Q E s:=by
 let⟨oi,n,P⟩:=id J;let⟨ol,p,R⟩:=id hl;let N:=zW n;let O:=zW p;refine callType_codes (Q₁:=λx m=>x=.ref s.heap.objs.size/\m={ s with heap:=s.heap.push { cls:=.type "list",data:=.seq #[] } }) PySem.F.called_list (PySem.F.typeCall_list_1 _) PySem.F.entry_list_init
  (code_list_new _ ⟨rfl,rfl⟩) λx m u=>?_
 let⟨rfl,rfl⟩:=u;let z:(s.heap.push { cls:=.type "list",data:=.seq #[] }).get? s.heap.objs.size=some { cls:=.type "list",data:=.seq #[] }:=yO _ Z;exists ⟨_,z,Z⟩,PySem.F.args_list_init_2 _ _;show aB _ _ (do let old<-Builtin.List.listItems (.ref s.heap.objs.size);Builtin.List.listUpdate (.ref s.heap.objs.size) (λ_=>#[]);letGo old.toList.reverse;Builtin.List.listExtendWith (.ref s.heap.objs.size) (.ref d) .none) _ _ _
 refine aa ?_;unfold Builtin.List.listItems;refine aa (wpAny_seqItems z Z (ad ?_));show aB _ _ (updateSeq s.heap.objs.size (λ_=>#[]) >>= λ_=>letGo (#[]:jz).toList.reverse >>= λ_=>Builtin.List.listExtendWith (.ref s.heap.objs.size) (.ref d) .none) _ _ _;refine aa (wpAny_updateSeq z Z ?_);let g:=wV (Obj.mapSeq (λ_=>(#[]:jz))) z Z;let k:∀ b o,s.heap.get? b=some o->((s.heap.push { cls:=.type "list",data:=.seq #[] }).update s.heap.objs.size (Obj.mapSeq (λ_=>(#[]:jz)))).get? b=some o:=
  λb o e=>(yD _ _ (Ne.symm (zM (zW e)))).trans (zQ _ e)
 refine aa (wpAny_letGo ?_);generalize (s.heap.push { cls:=.type "list",data:=.seq #[] }).update s.heap.objs.size (Obj.mapSeq (λ_=>(#[]:jz)))=S at g k⊢;let c:S.IsRevIter d l ((items.size:Int)-1):=⟨oi,k _ _ n,P⟩;let K:S.IsList l items:=⟨ol,k _ _ p,R⟩;let q:s.heap.objs.size≠d:=xH N;let H:s.heap.objs.size≠l:=xH O;let M:∀(h:aD)(f B:Nat),h.IsRevIter d l ((items.size:Int)-1)->h.IsList l items->(∀ b o,s.heap.get? b=some o->h.get? b=some o) ->
   h.get? s.heap.objs.size=some { cls:=.type "list",data:=.seq #[] f }->aH (aA prog w) A.in1 (.builtin "list.extend.loop" ⟨[.ref s.heap.objs.size,.ref d,.none],[]⟩) (wants (λr y=>r=Value.none/\Q (.ref s.heap.objs.size) y) E) { s with heap:=h,toks:=B }:=by
  intro h f B k1 k2 k3 k4;refine codeAny_extend_loopS (A:=A.in1) (Walks.listRev (A:=A.in1.in1) hh d l L items).toS hn s.heap.objs.size (by simp[q,H]) .none items.size 0 _ #[] f Z (yT _) ⟨yT _,by simpa using k1,k2⟩ k4 (ItemsOf.nil _) λV a C U G t=>?_
  rw[Moved.eq_with U];refine⟨Z,Y V.heap V.toks a C (λb o hb e=>U.heap b o (λj=>?_) (k3 b o e)) G t⟩;rcases zF.mp j with W | j
  ·exact absurd (zW e) (by rw[W];exact wY _)
  ·exact hb (yY.mp j)
 unfold Builtin.List.listExtendWith;refine aa (wpAny_typeOf (T:= "list_reverseiterator") c.typeIs ?_);let X:Builtin.List.listSameRef (.ref s.heap.objs.size) (.ref d)=false:=by simp[Builtin.List.listSameRef,q]
 simp only[X,show (Value.type "list_reverseiterator" == Value.type "list")=false from rfl,show (Value.type "list_reverseiterator" == Value.type "tuple")=false from rfl,Bool.or_false,vV,if_false];refine aa (wpAny_pyIter_revIter c ?_);refine aa (af (BT c.typeIs ?_));refine wpAny_ite_split (λI=>absurd I (by decide)) (λ_=>ad ⟨plainId_quiet PySem.F.plain_extend_loop _,M _ _ _ c K k g⟩)
def B7:ay "reversed" = some (.type "reversed"):=by decide +kernel
def ZIq{b:jd}:∀{a:jz},ItemsOf (λi v=>b.toArray[b.toArray.size-1-i]? = some v) a b.toArray.size->a.toList=b.reverse:=by
 intro a h;refine List.ext_getElem? λi=>?_;let d:a.size=b.length:=by simpa using h.1
 by_cases c:i<b.length
 ·let e:a.toList[i]? = some a[i]:=by simp[d,c]
  let f:=h.2 i a[i] (by simp[d,c])
  rw[e,List.getElem?_reverse c,<-f];simp
 ·rw[vF (by simp;lia),vF (by simp;lia)]
inductive Ur(K:zZ)(Q:VK)(x:V)(a:Hp):Prop
 |mk(l b:_)(_:x=.ref l)(_:ZM K a l b)(_:∀ q,a q=none->Q (.ref q) (upd a q (.lst b.reverse)))
def ZLH(K:zZ)(b:TE):TE:=λc H Q=>b c H λx a=>Ur K Q x a
def ZR.rev:∀{c:je}{b:jd},ZR c b->ZR c.reverse b.reverse:=by
 intro c b r
 induction r with
 | nil=>exact .nil
 | cons a r d=>rw[List.reverse_cons,List.reverse_cons];exact d.append (.cons a .nil)
def CW{e:Expr}{B:TE}{V t p f:aK}(E:X.calm=true)(F:PE X e B)(G:Gl X "list")(L:Gl X "reversed")(S:X.mg "list" = none)(T:X.mg "reversed" = none)(k:ar [.Call (.Name "reversed" t) [e] [] f] X.env=(false,aI (.Call (.Name "reversed" t) [e] [] f) X.env)::ar [] X.env:=by rfl)(m:ar [e] X.env=(false,aI e X.env)::ar [] X.env:=by rfl):
  PE X (.Call (.Name "list" V) [.Call (.Name "reversed" t) [e] [] f] [] p) (ZLH X.K B):=by
 intro n s σ H Q I h;refine ag (Pq I G S QD ?_);refine PyProof.Rows.callWith_type1 ?_ k Z;rw[k];refine Calls.spliced_cons (ag (Pq I L T B7 ?_));refine PyProof.Rows.callWith_type1 ?_ m Z;rw[m];refine Calls.spliced_cons (Z5 (F n s σ H _ I h) λu g ⟨x,H1,r,Y,l,xs,D,J,q⟩=>Calls.spliced_nil ?_);subst D;cases Y;let⟨d,z,W,M⟩:=r.list J;let y:=W.isList;let ll:=z.length;let⟨U,j,v⟩:=id y;refine call_reversed_list y (Calls.spliced_nil ?_);let R:=zW j;refine ZGj (s:={ g with heap:=g.heap.push (revObj l ((d.toArray.size:Int)-1)) }) (items:=d.toArray) (r.ok.hd E) ⟨_,yO _ Z,Z,Z⟩ ⟨U,zQ _ j,v⟩ (zM R) (by simp;lia) λh' tk i c N O P=>?_
 let A:(g.heap.push (revObj l ((d.toArray.size:Int)-1))).objs.size=g.heap.objs.size+1:=vQ _ _;let C:i.toList=d.reverse:=ZIq P;refine⟨.ref (g.heap.push (revObj l ((d.toArray.size:Int)-1))).objs.size,_,r.laid (a:=(g.heap.push (revObj l ((d.toArray.size:Int)-1))).objs.size) (o:=.lst xs.reverse) (t':=tk) (λb o w=>N b o (zM (zW w)) (zQ _ w)) (by rw[A];exact xI _) ⟨by rw[tF];exact M,i.toList,c,by rw[C];exact ZR.rev z,by rw[rY];exact O⟩,Z,q _ (r.hok.fresh (by rw[A];exact xI _))⟩
inductive Uq(a:zZ)(x y:V)(H:Hp)(Q:VK):Prop
 |mk(p b c:_)(_:x=.ref p)(_:y=.ref b)(_:ZM a H p c)(_:ZM a H b [])(_:Q (.bl (!c.isEmpty)) H)
def ZKV(f:X.A.units<cLine):XI X (az .NotEq) (Uq X.K):=by
 intro l s J H x y v u Q I C D h;let⟨p,b,E,rfl,rfl,c,o,q⟩:=h;cases C;cases D;let⟨d,z,i,F⟩:=I.list c;let⟨a,B,k,G⟩:=I.list o;let g:=z.length;let t:=B.length;let n:a=[]:=vS (by rw[<-t];rfl)
 subst n
 cases E with
 | nil=>
  let m:d=[]:=vS (by rw[<-g];rfl)
  subst m;exact PySem.SeqAt.RcNeAt.lists (e:=λ_=>true) i.isList k.isList Z f (λj c _=>absurd c (by simp)) X.prog X.w X.xe _ (Yz I q (by simp))
 | cons x r=>exact PySem.SeqAt.RcNeAt.lists_lengths i.isList k.isList (by simp;intro e;subst e;simp at g) f X.prog X.w X.xe _ (Yz I q Z)
end L2
namespace Tw
open PySem PySem.Spec L2 PyProof.Rows
variable{jg jh CS CT CH CK CP CB:aj}
structure ZZ where
 h:Nat
 rows:jF
 bs:jo
abbrev jr:=List ZZ
def ZZ.d:ZZ:=⟨0,[],[]⟩
def gd(a:jr)(i:Nat):ZZ:=a.getD i .d
def Wx{a:jr}{i:Nat}(h:i<a.length):a[i]? = some (gd a i):=by
 unfold gd;rw[zT,zU h];rfl
structure XX(gt:jp)(ts:jr)(i:Nat)(t:ZZ):Prop where
 ne:t.rows≠[]
 up:(t.rows.map (·.1)).Pairwise λa b=>a.lt b=true
 inn:∀ r∈t.rows,r.1∈gt/\r.fit
 leaf:t.h=0->t.bs=[]/\t.rows.length<=4
 stem:t.h≠0->2<=t.bs.length/\t.bs.length<=4/\(∀ b∈t.bs,b<i/\(gd ts b).h+1=t.h)/\t.rows=t.bs.flatMap λb=>(gd ts b).rows
def WF(gt:jp)(a:jr):Prop:=∀ i t,a[i]? = some t->XX gt a i t
def Jy:∀{gt l:jp},gt.Pairwise (λa b=>a.lt b=true)->l.Pairwise (λa b=>a.lt b=true)->(∀ x∈l,x∈gt)->l.length<=gt.length
 | [],[],_,_,_=>zY _
 | [],x::_,_,_,h=>absurd (h x zK) (by simp)
 | g::gt,l,hg,hl,h=>by
  let c:=wW.mp hg;by_cases j:g∈l
  ·cases l with
   | nil=>simp at j
   | cons x l=>
    let d:=wW.mp hl;let n:x=g:=by
     rcases zF.mp j with e | e
     ·exact e.symm
     ·rcases zF.mp (h x zK) with i | i
      ·exact i
      ·let k:=d.1 g e;let m:=c.1 x i;have:=Nk _ _ k;rw[m] at this;cases this
    have:l.length<=gt.length:=Jy c.2 d.2 λy f=>by
     rcases zF.mp (h y (zI _ f)) with e | e
     ·have:=d.1 y f;rw[n,e] at this;let z:=Nk _ _ this;rw[this] at z;cases z
     ·exact e
    rw[yJ,yJ]
    lia
  ·have:l.length<=gt.length:=Jy c.2 hl λy f=>by
    rcases zF.mp (h y f) with e | e
    ·exact absurd (e ▸ f) j
    ·exact e
   rw[yJ]
   lia
def XX.len{gt:jp}{f:jr}{i:Nat}{t:ZZ}(h:XX gt f i t)(c:gt.Pairwise λa b=>a.lt b=true):t.rows.length<=gt.length:=by
 have:=Jy c h.up λx e=>by
  let⟨r,d,rfl⟩:=zO.mp e;exact(h.inn r d).1
 rwa [zX] at this
def kindOf(t:ZZ):Str:=if t.h=0 then "leaf" else "stem"
inductive LC(H:Hp)(t:ZZ)(v:V):Prop
 |mk(d c a:_)(_:v=.ref d)(_:H d=some (.tup [.str (kindOf t),.ref c]))(_:H c=some (.lst a))(_:t.h=0->jR H (XW t.rows) a)(_:t.h≠0->a=t.bs.map λb=>V.int (b:Nat))
structure Lv(ts:jr)(lv:jo):Prop where
 lt:∀ i∈lv,i<ts.length
 cl:∀ i∈lv,∀ b∈(gd ts i).bs,b∈lv
 up:lv.Pairwise (· < ·)
def Vp(H:Hp)(c:jr)(b:jo)(a:List (ZW×V)):Prop:=a.map (·.1)=b.map (λi:Nat=>(Sum.inl (i:Int):ZW))/\∀ i:Nat,i∈b->∃ v,YR a (Sum.inl (i:Int))=some v/\LC H (gd c i) v
def LC.same{H a:Hp}{t:ZZ}{v:V}(h:LC H t v)(s:ZD H a):LC a t v:=by
 let⟨i,g,j,b,c,d,e,f⟩:=h;exact⟨i,g,j,b,s _ _ c,s _ _ d,λz=>(e z).sm s,f⟩
def Vp.same{H b:Hp}{d:jr}{c:jo}{a:List (ZW×V)}(h:Vp H d c a)(s:ZD H b):Vp b d c a:=⟨h.1,λi t=>by
 let⟨v,e,f⟩:=h.2 i t;exact⟨v,e,f.same s⟩⟩
def QQ(c:jr)(a:jo):jF:=a.reverse.flatMap λb=>(gd c b).rows
def Om(c:jr)(a:jo):Nat:=(a.map λb=>5 ^ (gd c b).h).sum
def Ie{a:jr}{gt:jp}(c:WF gt a):∀{l:jo},(∀ b∈l,b<a.length)->l.length<=(l.flatMap λb=>(gd a b).rows).length
 | [],_=>zY _
 | b::l,h=>by
  let f:=Ie c (l:=l) λx e=>h x (zI _ e);let d:=c b _ (Wx (h b zK));have:1<=(gd a b).rows.length:=vI.mpr d.ne;rw[wP,yZ,yJ]
  lia
def Cf{l:jo}{c:Nat}(f:Nat->Nat):(∀ b∈l,f b=c)->(l.map f).sum=l.length * c:=by
 induction l with
 | nil=>intro _;simp
 | cons b l d=>
  intro h;rw[yP,tW,d (λx a=>h x (zI _ a)),h b zK,yJ,Nat.succ_mul]
  lia
def Ca{a:jr}{l:jo}{b:Nat}:Om a l<Om a (l++[b]):=by
 unfold Om;rw[yR,tO];have:0<5 ^ (gd a b).h:=Nat.pow_pos (by decide)
 simp
 try lia
def Es{a:jr}{gt:jp}{l:jo}{b:Nat}(m:WF gt a)(i:b<a.length)(k:(gd a b).h≠0):Om a (l++(gd a b).bs.reverse)<Om a (l++[b]):=by
 let⟨o,f,g,_⟩:=(m b _ (Wx i)).stem k;unfold Om;rw[yR,tO,yR,tO];let e:((gd a b).bs.reverse.map λb=>5 ^ (gd a b).h).sum=(gd a b).bs.length * 5 ^ ((gd a b).h-1):=by
  have:=Cf (l:=(gd a b).bs.reverse) (c:=5 ^ ((gd a b).h-1)) (λb=>5 ^ (gd a b).h) λc j=>by
   have:=(g c (sG.mp j)).2;show 5 ^ (gd a c).h=_
   congr 1
   lia
  rw[this,tF]
 rw[e];let d:5 ^ (gd a b).h=5 * 5 ^ ((gd a b).h-1):=by
  have:(gd a b).h=((gd a b).h-1)+1:=∅
  rw[this,Nat.pow_succ,Nat.mul_comm];simp
 let n:0<5 ^ ((gd a b).h-1):=Nat.pow_pos (by decide)
 simp only[yP,wB,tW,List.sum_nil,Nat.add_zero];rw[d];have:(gd a b).bs.length * 5 ^ ((gd a b).h-1)<=4 * 5 ^ ((gd a b).h-1):=Nat.mul_le_mul_right _ f
 lia
def Qa{H c:Hp}{a:aj}{o:HO}(s:ZD H c)(n:H a=none):ZD H (upd c a o):=λb u e=>by rw[ZU (Za e n)];exact s b u e
abbrev iN(l:jo):je:=l.map λb=>V.int (b:Nat)
def Iv(a b:jF):XW (a++b)=XW a++XW b:=yR
structure Xr(gt:jp)(H:Hp)(d:aj)(ts:jr)(lv:jo)(kvs:List (ZW×V)):Prop where
 dict:H d=some (.dK kvs)
 tws:Vp H ts lv kvs
 lv:Lv ts lv
 wf:WF gt ts
 len:gt.length=64
 up:gt.Pairwise λa b=>a.lt b=true
def Xr.same{gt:jp}{H b:Hp}{d:aj}{e:jr}{c:jo}{a:List (ZW×V)}(h:Xr gt H d e c a)(s:ZD H b):Xr gt b d e c a:=⟨s _ _ h.dict,h.tws.same s,h.lv,h.wf,h.len,h.up⟩
def Xr.at_{gt:jp}{H:Hp}{d:aj}{b:jr}{c:jo}{a:List (ZW×V)}(h:Xr gt H d b c a){i:Nat}(e:i∈c):XX gt b i (gd b i):=h.wf i _ (Wx (h.lv.lt i e))
def Xr.get{gt:jp}{H:Hp}{d:aj}{a:jr}{j:jo}{g:List (ZW×V)}(h:Xr gt H d a j g){i:Nat}(q:i∈j):∃ e c b,YD H d (.int (i:Nat)) (some (.ref e))/\H e=some (.tup [.str (kindOf (gd a i)),.ref c])/\H c=some (.lst b)/\((gd a i).h=0->jR H (XW (gd a i).rows) b)/\((gd a i).h≠0->b=iN (gd a i).bs):=by
 let⟨v,l,e,c,b,rfl,m,n,o,p⟩:=h.tws.2 i q;exact⟨e,c,b,l ▸ YD.k (k:=Sum.inl (i:Int)) h.dict,m,n,o,p⟩
inductive WX(gt:jp)(h:je)(H:Hp)(Q:VK)(_:XK):Prop
 |mk(d:aj)(n:Nat)(e:jr)(c:jo)(b:List (ZW×V))(_:h=[.ref d,.int n])(_:Xr gt H d e c b)(_:n∈c)(_:∀(a:Hp)(D:aj)(g:je),ZD H a->H D=none->a D=some (.lst g)->jR a (XW (gd e n).rows) g->Q (.ref D) a)
abbrev ZMc:jq:=["_law_twigs","_law_number","_law_todo","_law_found","_law_kind","_law_what"]
def Vm:ZB ZMc zEb (Zf JM):=YA
def ZI8{gt:jp}(F:Zn K "_law_rows_of" "_law_rows_of" JM f fd)(T:YY mg)(Tr:mg "reversed" = none):ZH P w K mg jX Zd 1 f fd zEb (WX gt):=by
 refine F.ko Vm λa6 A a5 s H vs Q E hr h=>?_;let⟨d,n,i,lv,a7,rfl,L,hn,k⟩:=h;let W:=Vm.nd;let hu:=UC hr;intro Xc;refine⟨_,ZP (Zx 2 W (Yp (ZT (pv 1)))) (ZP (Zx 3 W (Yp Zw))
  (ZP (N2 PassesOwn.never (YI (ZKV hr.units0) (pv 2) (Yp Zw) (Zz _))
   (ZP (Qx (Vg hu (pv 0) (Mb yL PySem.F.slot_list_pop PySem.F.type_list_pop Bn (pv 2))) (Pg rfl (Y9 (Yc 4 W) (Y9 (Yc 5 W) Pf))))
   (ZV (Zo (YI Y1 (pv 4) Yk (Zz _))
    (ZV (Zx 3 W (Z1 P4 (pv 3) (Vy Q9 rfl T.list QD (ZT (pv 5))))))
    (ZV (Zx 2 W (Z1 P4 (pv 2) (CW rfl (pv 5) rfl rfl T.list Tr))))))))
  (ZV (Zl (pv 3))))),?_⟩
 refine⟨_,Z,Zu,λj x=>⟨Zu,λq p=>?_⟩⟩;let y:j≠q:=λz=>by rw[<-z,ZO] at p;cases p
 let M:H q=none:=by rw[ZU (Ne.symm y)] at p;exact p
 let a4:=(L.at_ hn).len L.up;rw[L.len] at a4;refine⟨λm σ H'=>∃(j q:aj)(g:jo)(a:jF)(B:je)(k4 k5:jf),m=Om i g/\σ=[some (.ref d),some (.int n),some (.ref j),some (.ref q),k4,k5]/\ZD H H'/\H j=none/\H q=none/\j≠q/\H' j=some (.lst (iN g))/\H' q=some (.lst B)/\jR H' (XW a) B/\(∀ b∈g,b∈lv)/\a++QQ i g=(gd i n).rows,
  ⟨_,j,q,[n],[],[],none,none,Z,Z,Qa (ZX x _) M,x,M,y,by rw[ZU y];exact ZO,ZO,.nil,λb S=>by rw[yY.mp S];exact hn,by simp[QQ]⟩,?_⟩
 rintro m σ H1 ⟨j,q,g,a,B,k4,k5,rfl,rfl,s1,x,p,y,a0,a3,hk,S,I⟩;exists _,Z,Zu;intro e0 a2;let g0:=ZX a2 (.lst []);exists j,e0,iN g,Z,Z,ZM.of (g0 _ _ a0),ZM.of ZO,_,Z;let t:=g0 _ _ a0;let v:=g0 _ _ a3;let D:=hk.sm g0;let s2:=s1.trans g0;generalize upd H1 e0 (.lst [])=R at t v D s2⊢;let lf:a.length+(QQ i g).length=(gd i n).rows.length:=by rw[<-yZ,I]
 let lt:g.length<=(QQ i g).length:=by
  have:=Ie L.wf (l:=g.reverse) λb h=>L.lv.lt b (S b (sG.mp h))
  rwa [tF] at this
 rcases sR g with z | ⟨rest,b,z⟩
 ·subst z;refine Zm ?_;let e1:a=(gd i n).rows:=by simpa [QQ] using I
  rw[e1] at D;exact⟨_,Z,k R q B s2 p v D⟩
 ·rw[sS] at z;subst z;let a1:(!(iN (rest++[b])).isEmpty)=true:=by simp[iN]
  rw[a1];refine Z3 ⟨_,λ_ _ z=>z,?_⟩;let bl:b∈lv:=S b (by simp)
  let eI:iN (rest++[b])=iN rest++[.int (b:Nat)]:=by simp[iN]
  exists _,Z,_,Z,.inl ⟨Z,_,ZM.of t⟩,j,iN (rest++[b]),.int (b:Nat),Z,Z,t,by rw[eI];simp
  let u:upd R j (.lst (iN (rest++[b])).dropLast) j=some (.lst (iN rest)):=by rw[ZO,eI,List.dropLast_concat]
  let r:upd R j (.lst (iN (rest++[b])).dropLast) q=some (.lst B):=by rw[ZU (Ne.symm y)];exact v
  let X:ZD H (upd R j (.lst (iN (rest++[b])).dropLast)):=Qa s2 x;let G:jR (upd R j (.lst (iN (rest++[b])).dropLast)) (XW a) B:=D.mono (λc xs e=>by rw[ZU (ZE e t)];exact e) _ _
  generalize upd R j (.lst (iN (rest++[b])).dropLast)=H3 at u r X G⊢;let⟨tp,tl,Y,g1,e2,e3,e4,e5⟩:=(L.same X).get bl;let er:QQ i (rest++[b])=(gd i b).rows++QQ i rest:=by simp[QQ]
  let lr:(QQ i (rest++[b])).length=(gd i b).rows.length+(QQ i rest).length:=by rw[er,yZ]
  let a8:B.length=a.length:=by have:=G.length;rw[<-this];exact zX _
  exists d,.ref tp,Z,g1,tp,_,Z,Zh.of e2,Z,_,_,Z,_,_,Z,Z;exists _,Z,Z,_,Z;by_cases U:(gd i b).h=0
  ·let ek:decide (V.str (kindOf (gd i b))=V.str "leaf")=true:=aO (by unfold kindOf;rw[aQ U])
   rw[ek];let kk:=e4 U;let lw:Y.length=(gd i b).rows.length:=by have:=kk.length;rw[<-this];exact zX _
   refine Z3 ⟨_,Z,_,Z,tl,Y,Z,.inl (ZM.of e3),λq1 n1=>?_⟩;let C:=ZX n1 (.lst Y);exists q,q1,B,Y,Z,Z,C _ _ r,ZO,xX (Ye ∅)
   intro q2 J;let g5:=ZX J (.lst (B++Y));let o:=C.trans g5;let O:=ZD.free (X.trans C) J;let tq:j≠q2:=λz=>by rw[<-z,C _ _ u] at J;cases J
   exists _,Ca,j,q2,rest,a++(gd i b).rows,B++Y,_,_,Z,Z,X.trans o,x,O,tq,o _ _ u,ZO,?_,λc N=>S c (xM _ N)
   ·rw[Iv];exact(G.sm o).append (kk.sm o)
   ·rw[List.append_assoc,<-er];exact I
  ·let ek:decide (V.str (kindOf (gd i b))=V.str "leaf")=false:=aM (by unfold kindOf;rw[aP U];decide)
   rw[ek];let ew:=e5 U;subst ew;let⟨h1,h2,h3,h4⟩:=(L.at_ bl).stem U;refine Zm ⟨_,Z,_,Z,tl,_,Z,ZM.of e3,λq1 n1=>?_⟩;let C:=ZX n1 (.lst (iN (gd i b).bs).reverse);exists j,q1,iN rest,_,Z,Z,C _ _ u,ZO,xX (Ye (by simp[iN];simp at lt;lia))
   intro q2 J;let g5:=ZX J (.lst (iN rest++(iN (gd i b).bs).reverse));let o:=C.trans g5;let O:=ZD.free (X.trans C) J;let fq:q2≠q:=λz=>by rw[z,C _ _ r] at J;cases J
   exists _,Es L.wf (L.lv.lt b bl) U,q2,q,rest++(gd i b).bs.reverse,a,B,_,_,Z,Z,X.trans o,O,p,fq,?_,o _ _ r,G.sm o,λc N=>?_
   ·rw[ZO];simp[iN]
   ·rcases yQ.mp N with N | N
    ·exact S c (xM _ N)
    ·exact L.lv.cl b bl c (sG.mp N)
   ·rw[<-I,er,h4];simp[QQ]
def ZK7{a:je}{j:Nat}{v:V}(b:1<=j)(c:j<=a.length)(h:a[a.length-j]? = some v):X8 a (-(j:Int))=some v:=by
 unfold X8;let e:QM a.length (-(j:Int))=some (a.length-j):=by
  unfold QM;rw[aP ∅,aQ ∅]
  congr 1
  lia
 rw[e];exact h
def rd:WD:=(.int 0,.int 0)
def Yq(t:ZZ):Yo:=⟨t.h,(t.rows.getD 0 rd).1,(t.rows.getD (t.rows.length-1) rd).1,t.rows.length⟩
def MJ{H:Hp}{c:jF}{j:je}{i:Nat}{u:V}(h:jR H (XW c) j)(e:j[i]? = some u):∃ a k l,c[i]? = some (c.getD i rd)/\u=.ref a/\H a=some (.tup [k,l])/\ZG H (c.getD i rd).1 k/\ZG H (c.getD i rd).2 l:=by
 let⟨t,d,f⟩:=h.get e;unfold XW at d;rw[zH] at d;let⟨r,g,rfl⟩:=yA.mp d;let m:c.getD i rd=r:=by rw[zT,g];rfl
 unfold Ia at f;rw[ZG] at f;let⟨a,x,rfl,n,b⟩:=f;rw[jR] at b;let⟨q,v,rfl,o,b⟩:=b;rw[jR] at b;let⟨s,w,rfl,p,b⟩:=b;rw[jR] at b;subst b;rw[m];exact⟨a,q,s,g,Z,n,o,p⟩
inductive Y8(gt:jp)(g:je)(H:Hp)(Q:VK)(_:XK):Prop
 |mk(d:aj)(n:Nat)(e:jr)(c:jo)(b:List (ZW×V))(_:g=[.ref d,.int n])(_:Xr gt H d e c b)(_:n∈c)(_:∀(a:Hp)(v:V),ZD H a->Yr a (Yq (gd e n)) v->Q v a)
abbrev Av:jq:=["_law_twigs","_law_number","_law_here","_law_high","_law_rows"]
def Vt:ZB Av zEb (Zf KH):=YA
def Ck{gt:jp}(F:Zn K "_law_label" "_law_label" KH f fd)(T:YY mg)(DR:ZC P w K mg jX 1 "_law_rows_of" zEb (WX gt)):ZH P w K mg jX Zd 2 f fd zEb (Y8 gt):=by
 refine F.ko Vt λa2 A Y s H vs Q E hr h=>?_;let⟨d,n,a,lv,W,rfl,L,M,k⟩:=h;let o:=Vt.nd;let hu:=UC hr;intro Xc;refine⟨_,ZP (Zx 2 o (pv 1)) (ZP (Zx 3 o ZJ)
  (ZP (N2 PassesOwn.never (YI Y1 (Zs K (Vg hu (pv 0) (pv 2)) ZJ) Yk (Zz _))
   (ZP (Zx 2 o (Zs K (Zs K (Vg hu (pv 0) (pv 2)) ZJ) ZJ))
   (ZV (Zx 3 o (Z1 WJ (pv 3) ZJ)))))
  (ZP (Zx 4 o (Zr DR hr (Ze (pv 0) (pv 1))))
  (ZV (Zl (Yg (Pu (pv 3) (Zs K (Zs K (pv 4) ZJ) ZJ) (Zs K (Zs K (pv 4) (Q6 Pi ZJ)) ZJ) (Zq WK rfl T.len Xu (ZT (pv 4)))))))))),?_⟩
 exists _,Z;refine⟨λm σ H'=>∃(b i:Nat),m=(gd a b).h/\σ=[some (.ref d),some (.int n),some (.int (b:Nat)),some (.int (i:Nat)),none]/\H'=H/\b∈lv/\i+(gd a b).h=(gd a n).h,
  ⟨_,n,0,Z,Z,Z,M,∅⟩,?_⟩
 rintro m σ H1 ⟨b,i,rfl,rfl,rfl,v,hh⟩;let⟨u,tl,ws,g1,r,e3,e4,e5⟩:=L.get v;refine⟨_,Z,_,Z,d,.ref u,Z,g1,.inr (.inl ⟨u,_,0,_,rfl,rfl,Zh.of r,rfl,?_⟩)⟩;exists Z,_,Z;by_cases t:(gd a b).h=0
 ·let y:decide (V.str (kindOf (gd a b))=V.str "stem")=false:=aM (by unfold kindOf;rw[aQ t];decide)
  rw[y];refine Zm ?_;exists _,Z,_,Z,d,n,a,lv,W,Z,L,M;intro H2 D e s2 nD I R;let p:=L.at_ M;let l:e.length=(gd a n).rows.length:=by have:=R.length;rw[<-this];exact zX _
  let X:=p.len L.up;rw[L.len] at X;let g:0<e.length:=by rw[l];exact vI.mpr p.ne
  let B:e[0]? = some e[0]:=zU g;let C:e[e.length-1]? = some (e[e.length-1]'∅):=zU ∅
  let⟨a0,N,v0,r0,u0,t0,S,_⟩:=MJ R B;let⟨a1,O,v1,r1,u1,t1,U,_⟩:=MJ R C;rw[u0] at B;rw[u1] at C;refine⟨_,Z,_,Z,.inl ⟨D,e,0,.ref a0,Z,Z,ZM.of I,X1 (j:=0) B,.inr (.inl ⟨a0,_,0,N,rfl,rfl,Zh.of t0,rfl,?_⟩)⟩⟩;refine⟨_,Z,1,Z,.inl ⟨D,e,-1,.ref a1,Z,Z,ZM.of I,ZK7 (j:=1) (zY _) g C,.inr (.inl ⟨a1,_,0,O,rfl,rfl,Zh.of t1,rfl,?_⟩)⟩⟩;exists _,Z,D,e,Z,.inl (ZM.of I),Zu;intro q nq;let G:=ZX nq (.tup [.int (i:Nat),N,O,.int (e.length:Nat)]);refine k _ _ (s2.trans G) ⟨q,N,O,Z,?_,S.sm G,?_⟩
  ·rw[ZO];let e1:(Yq (gd a n)).h=(i:Int):=by show ((gd a n).h:Int)=_;lia
   let r:(Yq (gd a n)).m=(e.length:Int):=by show ((gd a n).rows.length:Int)=_;lia
   rw[e1,r]
  ·let x:(Yq (gd a n)).hi=((gd a n).rows.getD (e.length-1) rd).1:=by rw[l];rfl
   rw[x];exact U.sm G
 ·let y:decide (V.str (kindOf (gd a b))=V.str "stem")=true:=aO (by unfold kindOf;rw[aP t])
  rw[y];let ew:=e5 t;subst ew;let⟨h1,h2,h3,h4⟩:=(L.at_ v).stem t;obtain⟨c,J⟩:∃ c,(gd a b).bs[0]? = some c:=⟨_,zU ∅⟩
  let a3:=h3 c (yU J);refine Z3 ⟨_,λ_ _ z=>z,?_⟩;refine⟨_,Z,_,Z,d,.ref u,Z,g1,.inr (.inl ⟨u,_,1,_,rfl,rfl,Zh.of r,rfl,.inl ⟨tl,_,0,.int (c:Nat),rfl,rfl,ZM.of e3,X1 (j:=0) (by simp[iN,J]),?_⟩⟩)⟩
  exists _,Z,_,_,Z,Z;exact⟨(gd a c).h,∅,c,i+1,Z,by simp[List.set],Z,L.lv.cl b v c (yU J),∅⟩
def abv(b:jr)(a:jo)(i:Nat):jo:=a.filter λj=>decide (i∈(gd b j).bs)
def ZPg(x:Nat)(l:jo):P6 (.int (x:Nat)) (iN l)=decide (x∈l):=by
 unfold P6 iN;rw[List.any_map]
 induction l with
 | nil=>rfl
 | cons n l a=>
  rw[wA,a];let e:((λy=>UJ y (V.int (x:Nat))) ∘ λb:Nat=>V.int (b:Nat)) n=decide (n=x):=by
   show UJ (.int (n:Nat)) (.int (x:Nat))=_;rw[xG];simp[UJ]
   lia
  rw[e];by_cases h:n=x
  ·subst h;simp
  ·have:¬ x=n:=λz=>h z.symm;simp[h,this]
def Ex(l:jo):(iN l).all PZ=true:=by
 unfold iN;rw[xS];exact zN.mpr λ_ _=>rfl
def ED{J:It}{w:jo}{A:L2.St}{H:Hp}{y:TT}{Q:VK}(e:jo)(p:Nat->Bool)(F:e.length<=900)(s:∀ i a,ZD H a->i<e.length->J.go i a)(E:∀ i a x b,ZD H a->i<e.length->J.yld i a x b->b=a/\(iN e)[i]? = some x)(h:∀ a,ZD H a->J.stop e.length a)(o:∀ a n (R:Bool->Hp->Prop),n∈e->ZD H a->R (p n) a->y (NJ A w (.int (n:Nat))) a R)(r:∀ (D:aj) (a:Hp),ZD H a->H D=none->a D=some (.lst (iN (e.filter p)))->Q (.ref D) a):VO J A w y (Y7 0) H Q:=by
 refine ZGb (n:=e.length) (λi z=>(iN e)[i]? = some z) (λz=>match z with | .int n=>p n.toNat | _=>false) (λD i f b=>ZD H b/\H D=none/\f=iN ((e.take i).filter p)) (Ye ∅)
  (λD i f b j c=>s i b c.1 j) (λD i f b z B j c u=>E i b z B c.1 j u) (λD f b c=>h b c.1)
  (λD v=>⟨ZX v _,v,Z⟩) (λD i f b z j d c R C=>?_) (λD i f b z q j d t c=>?_) (λD i f b z q j d t c=>?_) (λD f b q c=>?_)
 ·unfold iN at d;rw[zH] at d;let⟨n,l,rfl⟩:=yA.mp d;exact o b n R (yU l) c.1 C
 ·let⟨m,k,rfl⟩:=c;unfold iN at d;rw[zH] at d;let⟨n,l,rfl⟩:=yA.mp d;exists Qa m k,k;let g:p n=true:=t;rw[yI,l,tJ];simp[g,iN]
 ·let⟨m,k,rfl⟩:=c;unfold iN at d;rw[zH] at d;let⟨n,l,rfl⟩:=yA.mp d;exists m,k;let g:p n=false:=t;rw[yI,l,tJ];simp[g]
 ·let⟨m,k,rfl⟩:=c;rw[yF (zY _)] at q;exact r D b m k q
def Qz{a:jo}(h:a.Pairwise (· < ·)):(a.map λi:Nat=>(i:Int)).Pairwise (· <= ·):=by
 rw[List.pairwise_map];exact h.imp λh=>by lia
inductive WL(gt:jp)(g:je)(H:Hp)(Q:VK)(_:XK):Prop
 |mk(d:aj)(n:Nat)(e:jr)(c:jo)(b:List (ZW×V))(_:g=[.ref d,.int n])(_:Xr gt H d e c b)(_:c.length<64)(_:∀(a:Hp)(D:aj),ZD H a->H D=none->a D=some (.lst (iN (abv e c n)))->Q (.ref D) a)
def Uh:ZB zEb zEb (Zf Jb):=YA
def Db{gt:jp}(F:Zn K "_law_above" "_law_above" Jb f fd)(T:YY mg):ZH P w K mg jX Zd 1 f fd zEb (WL gt):=by
 refine F.ko Uh λO A v s H vs Q E hr h=>?_;let⟨d,n,m,a,t,rfl,L,u,k⟩:=h;let nd:=Uh.nd;let J:=UC hr;intro Xc;refine⟨_,ZV (Zl (Qy [0,1] zEb rfl (VN (Zq (Pz rfl) rfl T.sorted PO (ZT (pv 0))))
  (λ_ _ _ _ _=>Js (PW.pt (Px (YI Y1 (Zs K (Vg J (pv 1) (pv 0)) ZJ) Yk (Zz _)) (P3 (YI (r:=JX K false) Ih (pv 2) (Zs K (Vg J (pv 1) (pv 0)) ZJ) rfl)))))
  (λ_ _ _ _ _=>pv 0) ⟨rfl,.inl rfl,rfl,rfl,.inl rfl,rfl,trivial⟩)),?_⟩
 exists _,Z,d,t,a.map λi:Nat=>(i:Int),Z,L.dict,(by rw[L.tws.1,zJ];rfl),Qz L.lv.up,by simpa using u
 intro p np;let W:(a.map λi:Nat=>(i:Int)).map V.int=iN a:=by rw[zJ];rfl
 rw[W];let e:=ZX np (.lst (iN a));let b:upd H p (.lst (iN a)) p=some (.lst (iN a)):=ZO;generalize upd H p (.lst (iN a))=H1 at e b⊢;refine⟨p,Z,⟨_,ZM.of b⟩,ED a (λj=>decide (n∈(gd m j).bs)) ∅ (λi B c I=>⟨_,.int (a[i]:Nat),ZM.of (c _ _ b),by simp[iN,zU I]⟩) (λi B x H4 c I M=>⟨M.1,M.2 _ (ZM.of (c _ _ b))⟩) (λB c=>⟨_,ZM.of (c _ _ b),by simp[iN]⟩) (λz j R hj y q=>?_) (λD z y nD hD=>?_)⟩
 ·let N:j∈a:=hj;let⟨l,tl,ws,G,C,S,e4,U⟩:=(L.same (e.trans y)).get N;refine⟨_,Z,_,Z,d,.ref l,Z,G,.inr (.inl ⟨l,_,0,_,rfl,rfl,Zh.of C,rfl,?_⟩)⟩;exists Z,_,Z;by_cases g:(gd m j).h=0
  ·let o:decide (V.str (kindOf (gd m j))=V.str "stem")=false:=aM (by unfold kindOf;rw[aQ g];decide)
   rw[o];let X:=((L.at_ N).leaf g).1;rw[X,aM (by simp)] at q
   exact Zm q
  ·let o:decide (V.str (kindOf (gd m j))=V.str "stem")=true:=aO (by unfold kindOf;rw[aP g])
   rw[o];let Y:=U g;subst Y;refine Z3 ⟨_,Z,_,Z,_,Z,d,.ref l,Z,G,.inr (.inl ⟨l,_,1,_,rfl,rfl,Zh.of C,rfl,?_⟩)⟩;exists tl,_,Z,.inl (ZM.of S),Z,Ex _,_,Z;rw[aP zS,ZPg];exact q
 ·exact k z D (e.trans y) (ZD.free e nD) hD
inductive Sh(ts:jr)(lv:jo)(ho:Nat->Nat):Nat->jM->Prop
 | here {i:Nat}:(abv ts lv i).length+ho i≠1->Sh ts lv ho i (some i)
 | top {i:Nat}:(abv ts lv i).length+ho i=1->abv ts lv i=[]->Sh ts lv ho i none
 | up {i j:Nat} {r:jo} {o:jM}:(abv ts lv i).length+ho i=1->abv ts lv i=j::r->Sh ts lv ho j o->Sh ts lv ho i o
def Sh.uniq{j:jr}{f:jo}{e:Nat->Nat}{i:Nat}{o p:jM}(h:Sh j f e i o)(g:Sh j f e i p):o=p:=by
 induction h generalizing p with
 | here a=>
  cases g with
  | here=>rfl
  | top b=>exact absurd b a
  | up b=>exact absurd b a
 | top a b=>
  cases g with
  | here c=>exact absurd a c
  | top=>rfl
  | up _ c=>rw[b] at c;cases c
 | up a b _ k=>
  cases g with
  | here c=>exact absurd a c
  | top _ c=>rw[b] at c;cases c
  | up _ c d=>
   rw[b] at c;cases c;exact k d
def oV:jM->V
 | none=>.non
 | some j=>.int (j:Nat)
def Ly{gt:jp}{a:jr}{b:jo}(f:WF gt a)(e:Lv a b){i j:Nat}(h:j∈abv a b i):i<j/\j∈b:=by
 unfold abv at h;rw[wS,decide_eq_true_iff] at h;let d:=f j _ (Wx (e.lt j h.1));by_cases c:(gd a j).h=0
 ·rw[(d.leaf c).1] at h;simp at h
 ·exact⟨((d.stem c).2.2.1 i h.2).1,h.1⟩
def ZMk(b:jr)(a:jo)(i:Nat):(abv b a i).length<=a.length:=uC _ _
def Qj(a:List (ZW×V))(b:jo)(c:Nat->Nat):Prop:=a.map (·.1)=b.map (λi:Nat=>(Sum.inl (i:Int):ZW))/\∀ i:Nat,i∈b->YR a (Sum.inl (i:Int))=some (.int (c i:Nat))
inductive Xo(gt:jp)(j:je)(H:Hp)(Q:VK)(_:XK):Prop
 |mk(d g:aj)(n:Nat)(i:jr)(b:jo)(c a:List (ZW×V))(h:Nat->Nat)(_:j=[.ref d,.ref g,.int n])(_:Xr gt H d i b c)(_:b.length<64)(_:n∈b)(_:H g=some (.dK a))(_:Qj a b h)(_:∀(e:Hp)(o:jM),ZD H e->Sh i b h n o->Q (oV o) e)
abbrev ZNj:jq:=["_law_twigs","_law_holds","_law_number","_law_here","_law_stems"]
def Vq:ZB ZNj zEj (Zf JY):=YA
def Dx{gt:jp}(F:Zn K "_law_shared" "_law_shared" JY f fd)(T:YY mg)(DA:ZC P w K mg jX 1 "_law_above" zEb (WL gt)):ZH P w K mg jX Zd 2 f fd zEj (Xo gt):=by
 refine F.ko Vq λa0 A R s H vs Q E J h=>?_;let⟨d,y,n,a,e,M,a1,g,rfl,L,N,hn,hh,hH,k⟩:=h;let O:=Vq.nd;let hu:=UC J;intro Xc;refine⟨_,ZP (Zx 3 O (pv 2)) (ZV (N2 PassesOwn.never (YU Vw)
  (ZP (Zx 4 O (Zr DA J (Ze (pv 0) (pv 3))))
  (ZP (Zo (YI Qs (Z1 WJ (Zq WK rfl T.len Xu (ZT (pv 4))) (Vg hu (pv 1) (pv 3))) ZJ (Zz _)) (ZV (Zl (pv 3))) Zt)
  (ZP (Zo (YI (MA J.units0) (pv 4) (Yp Zw) (Zz _)) (ZV (Zl P1)) Zt)
  (ZV (Zx 3 O (UZ YF (pv 4) ZJ (λ_ _=>rfl))))))))),?_⟩
 exists _,Z;refine⟨λm σ H'=>∃(b:Nat)(X:jf),m=a.length-b/\σ=[some (.ref d),some (.ref y),some (.int n),some (.int (b:Nat)),X]/\ZD H H'/\b∈e/\∀ o,Sh a e g b o->Sh a e g n o,
  ⟨_,n,none,Z,Z,ZD.refl H,hn,λ_ z=>z⟩,?_⟩
 rintro m σ H1 ⟨b,X,rfl,rfl,s1,bl,S⟩;refine⟨_,Z,Z3 ⟨_,λ_ _ z=>z,?_⟩⟩;exists _,Z,_,Z,d,b,a,e,M,Z,L.same s1,N;intro v D s2 nD C;let p:=s1.trans s2;let hg:YD v y (.int (b:Nat)) (some (.int (g b:Nat))):=hH.2 b bl ▸ YD.k (k:=Sum.inl (b:Int)) (p _ _ hh);let Y:(iN (abv a e b)).length=(abv a e b).length:=zX _;exists _,Z,D,_,Z,.inl (ZM.of C),_,Z,_,Z,y,.int (g b:Nat),Z,hg,_,_,Z,Z;exists Z,_,Z;refine X7 (λc=>?_) (λc=>?_)
 ·let u:(abv a e b).length+g b≠1:=λz=>by
   rw[sB,decide_eq_false_iff_not] at c;refine c ?_;show V.int (((iN (abv a e b)).length:Nat)+(g b:Nat):Int)=V.int 1;rw[Y]
   congr 1
   lia
  exact⟨_,Z,k v (some b) p (S _ (.here u))⟩
 ·let u:(abv a e b).length+g b=1:=by
   rw[sB,decide_eq_false_iff_not,Decidable.not_not] at c;let x:V.int (((iN (abv a e b)).length:Nat)+(g b:Nat):Int)=V.int 1:=c;rw[Y] at x;injection x with x
   lia
  exists _,Z,Zu;intro U G;let B:=ZX G (.lst []);exists D,U,_,Z,Z,ZM.of (B _ _ C),ZM.of ZO,_,Z;let l:=B _ _ C;let q:=p.trans B;generalize upd v U (.lst [])=H3 at l q⊢
  cases t:abv a e b with
  | nil=>
   rw[show (iN ([]:jo)).isEmpty=true from rfl];exact Z3 (k H3 none q (S _ (.top u t)))
  | cons j r=>
   rw[show (iN (j::r)).isEmpty=false from rfl];rw[t] at l;let W:=Ly L.wf L.lv (i:=b) (j:=j) (by rw[t];exact zK)
   let jt:=L.lv.lt j W.2;refine Zm ⟨_,Z,D,_,0,.int (j:Nat),Z,Z,ZM.of l,X1 (j:=0) Z,?_⟩;exact⟨a.length-j,∅,j,_,Z,Z,q,W.2,λo I=>S o (.up u t I)⟩
def Ym.snoc{H:Hp}{d:jJ}{a:je}{L:Yo}{u:V}(h:Ym H d a)(g:Yr H L u):Ym H (d++[L]) (a++[u]):=by
 exists by rw[yZ,yZ,h.1];rfl
 intro i w e;rcases yV i a.length with b | b
 ·rw[wZ b] at e;have:=h.2 i w e;rw[zT] at this⊢;rw[wZ (by rw[<-h.1];exact b)]
  exact this
 ·rw[xB b] at e;let c:i-a.length=0:=by
   rcases Nat.eq_zero_or_pos (i-a.length) with z | z
   ·exact z
   ·rw[vF (by simp;lia)] at e;cases e
  rw[c] at e;simp at e;subst e;let f:i=d.length:=by have:=h.1;lia
  rw[zT,f];simp;exact g
def Z2(a:jo)(x:Int):Bool:=decide (0<=x/\x.toNat∈a)
def JN(a:jJ):Prop:=∀ j,j+1<a.length->(a.getD (j+1) .d).h=(a.getD 0 .d).h/\(a.getD j .d).hi.lt (a.getD (j+1) .d).lo=true
def WS{c:jJ}:JN c ↔ Lq c=true:=by
 unfold JN Lq Qm;rw[zN];constructor
 ·intro h j e;let g:j<c.length-1:=yC.mp e;let⟨a,b⟩:=h j ∅
  rw[zR];refine⟨?_,b⟩;rw[beq_iff_eq,a]
  cases j with
  | zero=>rfl
  | succ j=>exact(h j ∅).1
 ·intro h;let f:∀ j,j<c.length->(c.getD j .d).h=(c.getD 0 .d).h:=λj=>by
   induction j with
   | zero=>intro _;rfl
   | succ j i=>
    intro e;have:=h j (yC.mpr ∅)
    rw[zR,beq_iff_eq] at this;rw[<-this.1];exact i ∅
  intro j e;have:=h j (yC.mpr ∅)
  rw[zR] at this;exact⟨f (j+1) e,this.2⟩
def Jm{gt:jp}{d:jr}{i:Nat}{t:ZZ}(h:XX gt d i t):(Yq t).fit:=by
 let a:0<t.rows.length:=vI.mpr h.ne;let b:t.rows.getD 0 rd∈t.rows:=by rw[zT,zU a];exact xD _
 let c:t.rows.getD (t.rows.length-1) rd∈t.rows:=by rw[zT,zU (show t.rows.length-1<t.rows.length by lia)];exact xD _
 exact⟨(h.inn _ b).2.1,(h.inn _ c).2.1⟩
def Yn(a:jr)(bs:jo):jJ:=bs.map λb=>Yq (gd a b)
inductive WI(gt:jp)(i:je)(H:Hp)(Q:VK)(_:XK):Prop
 |mk(d l:aj)(c:jw)(h:jr)(e:jo)(g:List (ZW×V))(_:i=[.ref d,.ref l,.non])(_:Xr gt H d h e g)(_:H l=some (.lst (c.map V.int)))(_:c.length<=100)(_:∀ x,c.find? (λx=>!Z2 e x)=some x->∀(t:aj)(a:Hp),ZD H a->a t=some (.tup [.str "twig",.int x])->Q (.ref t) a)(_:∀ bs:jo,c=bs.map (λb:Nat=>(b:Int))->(∀ b∈bs,b∈e)->over (Yn h bs)=none->∀(t:aj)(a:Hp),ZD H a->a t=some (.tup [.str "stem"])->Q (.ref t) a)(_:∀ bs:jo,c=bs.map (λb:Nat=>(b:Int))->(∀ b∈bs,b∈e)->over (Yn h bs)≠none->∀ a:Hp,ZD H a->Q .non a)
abbrev ZOv:jq:=["_law_twigs","_law_numbers","_law_high","_law_number","_law_labels","_law_j"]
def Ue:ZB ZOv zEk (Zf JL):=YA
def AT{gt:jp}(F:Zn K "_law_wrong" "_law_wrong" JL f fd)(T:YY mg)(DL:ZC P w K mg jX 2 "_law_label" zEb (Y8 gt))(DS:ZC P w K mg jX 7 "_law_less" zEr Yi):
  ZH P w K mg jX Zd 8 f fd zEk (WI gt):=by
 refine F.ko Ue λi0 A e2 s H vs Q E hr h=>?_;let⟨d,l,X,ts,lv,a3,rfl,L,hl,e3,q1,q2,q3⟩:=h;let nd:=Ue.nd;let hu:=UC hr;let c8:=hr.mono (show 2<=7 from nofun)
 intro Xc;refine⟨_,ZP (VM PassesOwn.never rfl (VN (pv 1)) (Yc 3 nd)
   (ZV (Zo (Qq (J7 hu (pv 3) (pv 0))) (ZV (Zl (Yg (Ze Yk (pv 3))))) Zt)))
  (ZP (LY (i:=4) [0] ["_law_twigs"] nd rfl rfl rfl (VN (pv 1)) (λ_ _ _ _ _=>UY) (λ_ _ _ _ _=>Zr DL c8 (Ze (pv 1) (pv 0))) ⟨rfl,.inl rfl,rfl,trivial⟩)
  (ZP (Zo (PW.pt (Vh (Xj (Mo QE QE ZJ (Zq WK rfl T.len Xu (ZT (pv 4))) ZJ)) (Up (PW.pt (Px (Qq (Ld (pv 2))) (P3 (YI Qs (Z1 WJ (Zs K (Zs K (pv 4) ZJ) ZJ) ZJ) (pv 2) (Zz _))))))))
   (ZV (Zl (Yg (ZT Yk)))) Zt)
  (ZP (VM PassesOwn.never rfl (N7 rfl T.range (Ze ZJ (Zq WK rfl T.len Xu (ZT (pv 4))))) (Yc 5 nd)
   (ZV (Zo (PW.pt (Vh (YI Qs (Zs K (Zs K (pv 4) (pv 5)) ZJ) (Zs K (Zs K (pv 4) ZJ) ZJ) (Zz _))
     (Up (Xj (YU (Zr DS hr (Ze (Zs K (Zs K (pv 4) (Z1 Ql (pv 5) ZJ)) ZJ) (Zs K (Zs K (pv 4) (pv 5)) ZJ))))))))
    (ZV (Zl (Yg (ZT Yk)))) Zt)))
  (ZV (Zl P1))))),?_⟩
 let c1:∀{x:Int}{U:Hp},ZD H U->∃ o,YD U d (.int x) o/\(!o.isSome) = !Z2 lv x:=fun{x U} O=>by
  exists YR a3 (Sum.inl x),YD.k (k:=Sum.inl x) (O _ _ L.dict)
  congr 1
  unfold Z2;by_cases hx:0<=x/\x.toNat∈lv
  ·rw[aO hx];let⟨v,e,_⟩:=L.tws.2 x.toNat hx.2;let ex:((x.toNat:Nat):Int)=x:=nofun
   rw[ex] at e;rw[e];rfl
  ·rw[aM hx]
   cases z:YR a3 (Sum.inl x) with
   | none=>rfl
   | some v=>
    have:=LM z;rw[L.tws.1] at this;let⟨i,J,ei⟩:=zO.mp this;let ei:=Sum.inl.inj ei;refine absurd ⟨nofun,?_⟩ hx
    rw[<-ei];exact J
 refine⟨_,Z,l,Z,⟨_,ZM.of hl⟩,Qt (K:=K) (a:=l) (xs:=X.map V.int) (λi σ U=>∃ x:jf,σ=[some (.ref d),some (.ref l),some .non,x,none,none]/\ZD H U/\(X.take i).find? (λx=>!Z2 lv x)=none) ⟨_,Z,ZD.refl H,Z⟩ (λi σ U _ I=>by let⟨_,_,O,_⟩:=I;exact ZM.of (O _ _ hl)) ?_ ?_⟩
 ·rintro i u σ U a6 ⟨x,rfl,O,hn⟩;rw[zH] at a6;let⟨n,en,rfl⟩:=yA.mp a6;let⟨o,ho,eo⟩:=c1 (x:=n) O;let⟨f1,f2⟩:=Nl hn en;exists _,Z,_,Z,d,o,Z,ho,_,Z;rw[eo]
  cases c:!Z2 lv n with
  | true=>exact Z3 ⟨_,Z,Zu,λt M=>q1 n (f1 c) t _ (O.trans (ZX M _)) ZO⟩
  | false=>exact Zm ⟨_,Z,O,f2 c⟩
 rintro σ U ⟨x,rfl,O,hn⟩;rw[zX,yF (zY _),vU] at hn;obtain⟨bs,eb,hb⟩:∃ bs:jo,X=bs.map (λb:Nat=>(b:Int))/\∀ b∈bs,b∈lv:=by
  let a5:∀ y∈X,0<=y/\y.toNat∈lv:=λy hy=>by
   have:=hn y hy;unfold Z2 at this;simpa using this
  refine⟨X.map wE,?_,λb hb=>?_⟩
  ·rw[zJ];have:X=X.map id:=(List.map_id _).symm;rw[this];simp only[zJ];refine uK λy hy=>?_;have:=a5 y hy;show y=((y.toNat:Nat):Int)
   lia (splits:=8)
  ·let⟨y,hy,rfl⟩:=zO.mp hb;exact(a5 y hy).2
 let c9:X.length=bs.length:=by rw[eb,zX]
 let a9:=q2 bs eb hb;let c0:=q3 bs eb hb;clear q1 q2 q3 c1;let W:=O _ _ hl;exists _,Z,l,Z,⟨_,ZM.of W⟩;refine Ui (n:=bs.length) (λi z=>(X.map V.int)[i]? = some z) (λD i ys G=>ZD U G/\U D=none/\Ym G ((Yn ts bs).take i) ys) (Ye nofun)
  (λD i ys G J I=>⟨_,.int (bs[i]:Nat),ZM.of (I.1 _ _ W),by rw[eb];simp[J]⟩) (λD i ys G z q J I hy=>⟨hy.1,hy.2 _ (ZM.of (I.1 _ _ W))⟩) (λD ys G I=>⟨_,ZM.of (I.1 _ _ W),by simp[c9]⟩)
  (λD hD=>⟨ZX hD _,hD,Z,λi u e=>by simp at e⟩) (λD i ys G z eD i3 J hz I R hR=>?_) (λD p G eD I=>?_)
 ·let⟨s3,nD,hk⟩:=I;let ez:z=.int (bs[i]:Nat):=by
   rw[eb,zJ,zH,zU J] at hz;exact(zG.inj hz).symm
  subst ez;exists _,Z,_,Z,d,bs[i],ts,lv,a3,Z,L.same (O.trans s3),hb _ (xD _);intro q v B hv;let r:=B _ _ eD;let tD:Yb q (upd q D (.lst (ys++[v]))):=λb xs e=>by rw[ZU (ZE e r)];exact e
  refine hR _ q r ⟨Qa (s3.trans B) nD,nD,?_⟩;let et:(Yn ts bs)[i]? = some (Yq (gd ts bs[i])):=by unfold Yn;rw[zH,zU J];rfl
  rw[yI,et];exact((hk.mono (ZD.tups B)).snoc hv).mono tD
 let⟨s3,nD,hk⟩:=I;let ll:(Yn ts bs).length=bs.length:=zX _;rw[yF nofun] at hk
 let i4:p.length=bs.length:=by rw[hk.1,ll]
 let N:=O.trans s3;generalize c4:Yn ts bs=g at hk ll a9 c0;let a1:∀ i,i<g.length->(g.getD i .d).fit:=λi J=>by
  let c6:i<bs.length:=nofun
  let e1:g.getD i .d=Yq (gd ts bs[i]):=by rw[zT,<-c4];unfold Yn;rw[zH,zU c6];rfl
  rw[e1];exact Jm (L.at_ (hb _ (xD _)))
 let C:∀(q:Hp)(t:aj),over g=none->ZD H q->q t=none->Q (.ref t) (upd q t (.tup [.str "stem"])):=λq t ho B M=>a9 ho t _ (B.trans (ZX M _)) ZO;let S:¬ (2<=g.length/\g.length<=4)->over g=none:=λz=>by unfold over;rw[aP λy=>z ⟨y.1,y.2.1⟩]
 exists _,Z,D,p,Z,.inl (ZM.of eD),_,_,Z,Z,_,Z;rcases yV p.length 2 with h2 | h2
 ·rw[aM (show ¬ (2:Int)<=(p.length:Int) from nofun)]
  refine Zm ⟨_,Z,Z3 (Z3 ?_)⟩;exact⟨Zu,λt M=>C G t (S nofun) N M⟩
 rw[aO (show (2:Int)<=(p.length:Int) from nofun)]
 refine Z3 ⟨_,_,Z,Z,_,Z,?_⟩;rcases yV 4 p.length with h4 | h4
 ·rw[aM (show ¬ (p.length:Int)<=4 from nofun)]
  refine Z3 (Z3 ?_);exact⟨Zu,λt M=>C G t (S nofun) N M⟩
 rw[aO (show (p.length:Int)<=4 from nofun)]
 refine Zm ⟨_,Z,_,Z,Zm (Zm ?_)⟩;exists _,Z,D,p,Z,.inl (ZM.of eD),1,(p.length:Int),Z,⟨nofun,nofun,nofun,nofun⟩
 let a4:∀(H':Hp)(i:Nat),ZD G H'->i<p.length->∃(a:aj)(a0 Y:V),p[i]? = some (.ref a)/\H' a=some (.tup [.int (g.getD i .d).h,a0,Y,.int (g.getD i .d).m])/\ZG H' (g.getD i .d).lo a0/\ZG H' (g.getD i .d).hi Y:=λH' i s' J=>by
  let hu:p[i]? = some p[i]:=zU J;let⟨a,a0,Y,e,e1,k1,k2⟩:=(hk.2 i _ hu).mono (ZD.tups s');exact⟨a,a0,Y,by rw[hu,e],e1,k1,k2⟩
 refine Pv (lo:=1) (n:=((p.length:Int)-1).toNat) (λi σ q=>∃ y:jf,σ=[some (.ref d),some (.ref l),some .non,x,some (.ref D),y]/\ZD G q/\∀ j,j<i->(g.getD (j+1) .d).h=(g.getD 0 .d).h/\(g.getD j .d).hi.lt (g.getD (j+1) .d).lo=true) ⟨_,Z,ZD.refl G,λj hj=>absurd hj nofun⟩ ?_ ?_
 ·rintro i σ q J ⟨y,rfl,B,a2⟩;let c7:i+1<p.length:=nofun
  let e1:(1:Int)+(i:Int)=((i+1:Nat):Int):=nofun
  let e0:(1:Int)+(i:Int)-1=((i:Nat):Int):=nofun
  let⟨a,e8,c2,ua,ta,e4,a7⟩:=a4 q i B nofun
  let⟨b,c3,e9,ub,tb,a8,e5⟩:=a4 q (i+1) B c7;let⟨c,i2,i1,uc,tc,e7,e6⟩:=a4 q 0 B nofun
  let no:¬ ((g.getD (i+1) .d).h=(g.getD 0 .d).h/\(g.getD i .d).hi.lt (g.getD (i+1) .d).lo=true)->over g=none:=λz=>by
   unfold over;rw[aP λy=>z (WS.mpr y.2.2 i nofun)]
  let r:=B _ _ eD;refine⟨_,Z,_,Z,.inl ⟨D,p,_,.ref b,Z,Z,ZM.of r,by rw[e1];exact X1 ub,.inr (.inl ⟨b,_,0,_,rfl,rfl,Zh.of tb,rfl,?_⟩)⟩⟩
  refine⟨_,Z,.inl ⟨D,p,0,.ref c,Z,Z,ZM.of r,X1 (j:=0) uc,.inr (.inl ⟨c,_,0,_,rfl,rfl,Zh.of tc,rfl,rfl,_,rfl,?_⟩)⟩⟩;let c5:(!decide (V.int (g.getD (i+1) .d).h=V.int (g.getD 0 .d).h)) = !decide ((g.getD (i+1) .d).h=(g.getD 0 .d).h):=by simp
  rw[c5];by_cases hh:(g.getD (i+1) .d).h=(g.getD 0 .d).h
  ·rw[aO hh];refine Zm ?_;refine⟨_,Z,_,Z,_,_,Z,Z,.inl ⟨D,p,_,.ref a,Z,Z,ZM.of r,by rw[e0];exact X1 ua,.inr (.inl ⟨a,_,2,_,rfl,rfl,Zh.of ta,rfl,?_⟩)⟩⟩
   refine⟨_,Z,_,Z,.inl ⟨D,p,_,.ref b,Z,Z,ZM.of r,by rw[e1];exact X1 ub,.inr (.inl ⟨b,_,1,_,rfl,rfl,Zh.of tb,rfl,?_⟩)⟩⟩
   refine⟨c2,c3,_,_,Z,a7,a8,(a1 i nofun).2,(a1 (i+1) nofun).1,λH5 s5=>⟨_,Z,?_⟩⟩
   cases hc:(g.getD i .d).hi.lt (g.getD (i+1) .d).lo with
   | false=>
    refine Z3 ⟨Zu,λt M=>C H5 t (no λz=>by rw[hc] at z;cases z.2) ((N.trans B).trans s5) M⟩
   | true=>
    refine Zm ⟨_,Z,B.trans s5,λj hj=>?_⟩;rcases yV j i with z | z
    ·exact a2 j z
    ·have:j=i:=nofun
     subst this;exact⟨hh,hc⟩
  ·rw[aM hh];exact Z3 (Z3 ⟨Zu,λt M=>C q t (no λz=>hh z.1) (N.trans B) M⟩)
 ·rintro σ q ⟨y,rfl,B,a2⟩;let hc:Lq g=true:=WS.mp λj hj=>a2 j nofun
  refine c0 ?_ q (N.trans B);unfold over;rw[aQ ⟨nofun,nofun,hc⟩]
  exact λz=>nomatch z
end Tw
namespace L2
open PySem PySem.Spec PyProof.Rows
def Bd{K:zZ}{x d:Str}{l:aC}{f c P:aj}{e:ao}(F:Zn K x d l f e)(i:zP K ap x=some (some (.ref f)))(a:yS K x=some (c,P)):e.code=.ref c:=by
 let⟨o,p,kV,g,q,m,b,ct,k,rfl,j,h⟩:=F.ex;unfold yS at a;rw[i] at a;simp only at a;rw[j] at a;simp only at a;show b=.ref c
 cases b with
 | ref n=>
  simp only at a;split at a
  ·split at a
   ·cases a;rfl
   ·cases a
  ·cases a
 | _=>cases a
def Zn.okC{P:am}{w:aw}{K:zZ}{r:jb}{d:aD}{x b:Str}{i:aC}{f c T:aj}{q:ao}{N o:jq}{k:Nat}{p:Sp}(F:Zn K x b i f q)(z:zP K ap x=some (some (.ref f)))(C:yS K x=some (c,T))(S:ZB N o (Zf i))(n:∀ h H Q E,p h H Q E->h.length=o.length)(g:∀ (A:ax) (a:jA) (s:al) (H:Hp) (h:je) (Q:VK) (E:XK),Zc k (A.deeper (envOfC b (Zf i) s.heap.objs.size f (.ref c)))->p h H Q E ->
   ∃ t,Wf (Vn Zd P w K r d N b (Zf i) f (.ref c) A a s H E) (Xz i) t/\t { nx:=λ_ u=>Q .non u,rt:=Q } (start N h) H):ZH P w K r d Zd (k+1) f q o p:=by
 let e:=Bd F z C;let⟨J,L,kV,v,M,I,j,ct,G,rfl,D,l⟩:=F.ex;let y:j=.ref c:=e;subst y;exact KM D l S n λA a s H h Q E B m=>g A a s H h Q E B m
def NN(f e:aj)(i h:aJ)(a:jC)(N:jq)(d:Sp):Sp:=λj H Q E=>
 j=[]/\H f=some (XH f i)/\H e=some (XH e h)/\∃ g:je,VT H a N g /\
  d g (unT (a.map (·.2)) H) (λv b=>(∀ c∈a.map (·.2),b c=none)->Q v (reT (a.map (·.2)) H b)) (λc o b=>(∀ c∈a.map (·.2),b c=none)->E c o (reT (a.map (·.2)) H b))
def VR(g:jz->Prop)(x C:aj)(b:jv)(h:aD):Prop:=∃ o a,h.get? x=some o/\o.cls=.ref C/\o.data=.fields a/\o.dict=b/\g a
def QV:jz->Prop:=λa=>a[1]? = some .none/\a[2]? = some .none
def PL:jz->Prop:=λ_=>True
def XO(g:jz->Prop)(x C:aj)(a:jv):HO:=.ext (VR g x C a)
def VR.is{g:jz->Prop}{x C:aj}{c:jv}{h:aD}(e:VR g x C c h):WR x C h:=let ⟨o,_,a,b,_⟩:=e;⟨o,a,b⟩
def IC{P:am}{w:aw}{H:Hp}{h:aD}{g:jz->Prop}{x C:aj}{j:jv}(e:VR g x C j h):Zk P w H h x (XO g x C j):=by
 let⟨o,s,a,b,c,d⟩:=id e;exact⟨e,⟨o,a⟩,λq r ⟨i,f,l,m,n,p⟩ k=>⟨i,f,k i l,m,n,p⟩⟩
abbrev Qd:jd:=[.type "ValueError",.type "Exception",.type "BaseException",.type "object"]
def Jg:jd->Bool
 | .ref _::r=>Jg r
 | l=>l==Qd
def Hk(a:ai):∀{l:jd},Jg l=true->PySem.refuseLoop a "__setattr__" l=pure ()
 | .ref c::r,e=>(refuseLoop_ref _ _ _ _).trans (Hk a (l:=r) e)
 | .type n::r,e=>by rw[show (Value.type n::r)=Qd from beq_iff_eq.mp e];exact rA.passes a
 | [],e=>by cases e
 | .none::r,e | .bool _::r,e | .int _ _::r,e | .str _ _::r,e | .bytes _ _::r,e | .float _ _::r,e | .builtin _::r,e=>by cases(beq_iff_eq.mp e)
def HE(K:zZ)(C:aj):Bool:=(PySem.W.clsIn K C).any λa=>Jg a.mro
def FX:ai->Bool
 | .type t=>t == "type"
 | _=>false
def Cl{v:ai}(h:FX v=true):v=.type "type" :=by
 cases v with
 | type t=>exact congrArg Value.type (eq_of_beq h)
 | _=>cases h
def Fl:Data->Option ClassData
 | .cls c=>some c
 | _=>none
def ZKe{d:Data}{c:ClassData}(h:Fl d=some c):d=.cls c:=by
 cases d with
 | cls c=>cases h;rfl
 | _=>cases h
def F1:jc->Bool
 | some (.builtin m)=>m == "ValueError.__new__"
 | _=>false
def ZOB{v:jc}(h:F1 v=true):v=some (.builtin "ValueError.__new__"):=by
 cases v with
 | none=>cases h
 | some v=>
  cases v with
  | builtin m=>exact congrArg (some <| Value.builtin ·) (eq_of_beq h)
  | _=>cases h
def EO(C:aj):jd->Bool
 | .ref D::_=>D==C
 | _=>false
def ZOb{C:aj}{l:jd}(h:EO C l=true):l=.ref C::l.tail:=by
 cases l with
 | nil=>cases h
 | cons v r=>
  cases v with
  | ref D=>exact congrArg (Value.ref ·::r) (eq_of_beq h)
  | _=>cases h
def NF{b:Type}{n:Nat}{l:List b}(h:l.length=n+1):∃ a m,l=a::m:=by
 cases l with
 | nil=>cases h
 | cons a m=>exact⟨a,m,Z⟩
def Ef{l:List (jc)}(h:l.length=6):∃ a b c d e f,l=[a,b,c,d,e,f]:=by
 let⟨a,l,rfl⟩:=NF h;let⟨b,l,rfl⟩:=NF (xY.inj h);let⟨c,l,rfl⟩:=NF (xY.inj (xY.inj h));let⟨d,l,rfl⟩:=NF (xY.inj (xY.inj (xY.inj h)));let⟨e,l,rfl⟩:=NF (xY.inj (xY.inj (xY.inj (xY.inj h))));let⟨f,l,rfl⟩:=NF (xY.inj (xY.inj (xY.inj (xY.inj (xY.inj h)))))
 cases l with
 | nil=>exact⟨a,b,c,d,e,f,Z⟩
 | cons _ _=>cases h
def Fs{b:Type}{p:b->Bool}{o:Option b}(h:o.any p=true):∃ a,o=some a/\p a=true:=by
 cases o with
 | none=>cases h
 | some a=>exact⟨a,Z,h⟩
def HW(K:zZ)(C:aj)(f:ClassData->Bool):Bool:=(K.lookup C).any λo=>FX o.cls&&(o.slots.toList.length==6&&(F1 (o.slots.toList.getD 4 none)&&(Fl o.data).any λc=>EO C c.mro&&(PySem.W.tailIn K Qd c.mro.tail&&(!c.hasDel&&f c))))
inductive Pn(K:zZ)(C:aj)(f:ClassData->Bool):Prop
 |mk(g bs h i e j b d a k l m n o p:_)(c:jd):K.lookup C=some (excClassObj g i C h bs c e j b d a k l m n o p "ValueError.__new__")->PySem.W.tailIn K Qd c=true->f ⟨g,bs,.ref C::c,h,i,e,j,b,d,a,false⟩=true->Pn K C f
def AK{K:zZ}{C:aj}{f:ClassData->Bool}(h:HW K C f=true):Pn K C f:=by
 let⟨⟨G,k,H,⟨I⟩⟩,e,h⟩:=Fs h;rw[zR,zR,zR] at h;let⟨m,n,o,p⟩:=h;let⟨⟨A,bs,g,B,D,s,E,i,j,b,c⟩,l,h⟩:=Fs p;rw[zR,zR,zR] at h;let⟨a,d,q,r⟩:=h;cases Cl m;cases ZKe l;let⟨t,u,w,x,y,z,rfl⟩:=Ef (eq_of_beq n);cases ZOB (v:=y) o;let a:=ZOb a;dsimp only at a d;generalize g.tail=F at a d;subst a
 cases c with
 | true=>cases q
 | false=>exact⟨A,bs,B,D,s,E,i,j,b,k,t,u,w,x,z,F,e,d,r⟩
def Hm(K:zZ)(C:aj):Bool:=HW K C λ_=>true
structure Y5(K:zZ)(C fI:aj)(f:Str):Prop where
 exc:Wc K C
 made:Hm K C=true
 init:zD K (.ref C) "__init__" = some (some (.ref fI))
 fn:wT K (.ref fI)=true
 kp:yX K (.ref C)=true
 sa:zD K (.ref C) "__setattr__" = some (some (.builtin "object.__setattr__"))
 no:zD K (.ref C) f=some none
 hd:wJ K C=true
 over:HE K C=true
section
variable{g:jz->Prop}{jW:js}{σ:St}{H:Hp}{a C fI:aj}{f:Str}{v:V}
def BF{y:V}{u:ai}{Q:Unit->al->Prop}(I:ZI X jW σ H s)(e:H a=some (XO g a C none))(c:Y5 X.K C fI f)(ry:ZY y u)(h:∀ L s',H L=none->L≠a->ZI X jW σ (upd (upd H L (.xd [(f,y)])) a (XO g a C (some L))) s'->Q () s'):aB (aA X.prog X.w) A (setAttr (.ref a) f u) Q E s:=by
 let⟨o,vs,N,d,i,x,a0⟩:=(I.hok a _ e).1;let⟨oc,od,a7,k⟩:=o;dsimp only at d i x;subst d i x;let J:tN s.heap a ⟨.ref C,none,.fields vs,k⟩ C none:=⟨N,Z,Z,True.intro⟩;refine PySem.W.set_plain I.kIn J c.sa ?_;let l:=rA;let⟨cd,S,ho⟩:=uP c.over;let a3:yG (aA X.prog X.w) s.heap (isInstance (.ref a) (.type "object")) true:=J.type.andThen (uD I.kIn c.exc.mO);refine codeAny_call_builtin l.slot.plain l.entry (@PySem.W.check_slot (aA X.prog X.w) _ _ { s with toks:=s.toks+1 } "object.__setattr__" "object" "__setattr__" (.ref a) [.str f s.toks,u] [] _ l.kind l.split a3 (l.args (.ref a) (.str f s.toks) u) ?_);let hm:yG (aA X.prog X.w) s.heap (mroOf (.ref C)) cd.mro:=(sV I.kIn S).andThen .now;rw[PySem.W.osa_eq,PySem.refuse_eq];refine aa (aa (yG.here (s:={ s with toks:=s.toks+1 }) J.type (aa (yG.here (s:={ s with toks:=s.toks+1 }) hm ?_))));rw[Hk _ ho];refine ad (aa (yG.here (s:={ s with toks:=s.toks+1 }) J.type (aa (yG.here (s:={ s with toks:=s.toks+1 }) (uB I.kIn c.no) (aa (ad ?_))))));let⟨a4,t,T⟩:=uP c.hd;refine aa (ad (aa (aa (wpAny_loadPart N (aa (yG.here (s:={ s with toks:=s.toks+1 }) (sV I.kIn t) ?_))))));rw[T];dsimp only;let i:a≠s.heap.objs.size:=zM (zW N);let p:H s.heap.objs.size=none:=I.hok.fresh (zY _);rw[aP (by simp),aP (by simp[typeHasDict])]
 let D:=zQ { cls:=.type "dict",data:=.dict #[] } N;refine aa (wpAny_alloc' (aa (wpAny_update' D (ad ?_))));generalize O:((s.heap.push { cls:=.type "dict",data:=.dict #[] }).update a λo=>{ cls:=o.cls,dict:=some s.heap.objs.size,data:=o.data,slots:=o.slots })=M;let ga:M.get? a=some ⟨.ref C,some s.heap.objs.size,.fields vs,k⟩:=by
  rw[<-O];exact wV _ D Z
 let gd:M.get? s.heap.objs.size=some { cls:=.type "dict",data:=.dict #[] }:=by
  rw[<-O];exact(tG _ _ _ _ i.symm).trans (Heap.get?_push_at Z Z)
 let go:∀ b o,b≠a->s.heap.get? b=some o->M.get? b=some o:=λb o n q=>by
  rw[<-O];exact(tG _ _ _ _ n).trans (zQ _ q)
 let a1:M.Ns s.heap.objs.size (λ_=>none):=⟨_,#[],_,gd,Z,λe he=>absurd he (by simp),λ_=>rfl⟩
 show aB _ _ (Builtin.ObjectAttr.storeInDict s.heap.objs.size (.str f s.toks) f u) _ _ _;unfold Builtin.ObjectAttr.storeInDict Builtin.ObjectAttr.newKeyGuard;refine aa (ad (aa (wpAny_nsSet1 (Heap.Ns1.of_empty a1) λP B hs=>?_)));let⟨oD,a6,a5,a2,U,R⟩:=B.count (Within.cons f u Within.nil);refine aa (wpAny_lookBehind a2 (by rw[U];exact pastItsLine_dict (zC R (by rw[yJ,List.length_nil,sizeLine_eq];lia))) ?_)
 let m:P.get? a=some ⟨.ref C,some s.heap.objs.size,.fields vs,k⟩:=(hs.2 a i).trans ga;let j:∀ b o,b≠a->s.heap.get? b=some o->P.get? b=some o:=λb o n q=>(hs.2 b (zM (zW q))).trans (go b o n q);let G:∀{b:aj}{o:HO},H b=some o->b≠s.heap.objs.size:=fun{b o} q z=>by rw[z,p] at q;cases q
 let na:∀{b:aj},H b=none->b≠a:=fun{b} q z=>by rw[z,e] at q;cases q
 refine ad (h s.heap.objs.size _ p i.symm (I.call' (s':={ s with heap:=P,toks:=_ }) (ch:=[]) rfl ⟨λb o q n _ _=>j b o (na n) q,λb o q n _ _=>⟨o.slots,j b o (na n) q⟩,λb o q n _=>?_,λb o q _=>?_,λb xs q=>?_,λb o u q=>?_,λb ps q=>?_⟩ (λb ob q=>?_) I.bare (λb hb=>absurd hb (by simp))))
 ·rw[ZU (na n),ZU (zM (zW q))];exact n
 ·by_cases z:b=a
  ·rw[z];exact⟨_,m⟩
  ·exact⟨o,j b o z q⟩
 ·rw[ZU (λz=>by rw[z,e] at q;cases q),ZU (G q)];exact q
 ·rw[ZU (λz=>by rw[z,e] at q;cases q),ZU (G q)];exact q
 ·exact⟨#[],by rw[ZU (λz=>by rw[z,e] at q;cases q),ZU (G q),q];simp⟩
 ·by_cases z:b=a
  ·rw[z,ZO] at q;cases q;rw[z];exact IC ⟨_,_,m,Z,Z,Z,a0⟩
  ·rw[ZU z] at q;by_cases z2:b=s.heap.objs.size
   ·rw[z2,ZO] at q;cases q;rw[z2];exists _,B;intro g;show Yu (xT g [(f,y)]) (if g=f then some u else none)
    by_cases Y:g=f
    ·rw[Y,aQ rfl];simp only[xT,beq_self_eq_true];exact ry
    ·rw[aP Y];simp only[xT,beq_eq_false_iff_ne.mpr Y];exact True.intro
   ·rw[ZU z2] at q;let oc:∀{c:aj},H c=some (.own b)->c≠a:=fun{c} d z=>by rw[z,e] at d;cases d
    refine(I.hok b ob q).stay (λc u d r=>j c u ?_ r) (λc d=>?_) (λc xs d=>?_)
    ·rcases d with rfl | d
     ·exact z
     ·exact oc d
    ·rw[ZU (oc d),ZU (G d)];exact d
    ·rw[ZU (λz=>by rw[z,e] at d;cases d),ZU (G d)];exact d
def ZJJ{b:Bool}{j:aj}{x:List (Str×V)}{Q:ja}(I:ZI X jW σ H s)(e:H a=some (XO g a C (some j)))(d:H j=some (.xd x))(c:Y5 X.K C fI f)(l:x.lookup f=some v)(h:∀ u B,ZI X jW σ H B->ZY v u->Q u B):aB (aA X.prog X.w) A (getAttr (.ref a) f b) Q E s:=by
 let⟨o,R,N,D,m,n,G⟩:=id (I.hok a _ e).1;let⟨O,r,i⟩:=I.hok j _ d;let⟨u,M,z⟩:=Yu.some_of (v:=v) (o:=O f) (by rw[<-l];exact i f)
 let⟨y,t,q⟩:=Gh r;let J:tN s.heap a o C (some y):=⟨N,D,by unfold PySem.W.notCls;rw[m],by rw[n];exact t⟩
 let⟨P,k,p⟩:=uP c.hd;let L:yG (aA X.prog X.w) s.heap (Builtin.ObjectAttr.inOwnDict f (.ref a)) (some u):=PySem.W.looks_own I.kIn J k (by unfold PySem.W.ownOf;rw[p,aQ rfl];show vM f y=_;rw[q,M])
 let F:yG (aA X.prog X.w) s.heap (Builtin.ObjectAttr.find (.ref a) (.ref C) f) (.value u):=by
  refine yG.andThen (uB I.kIn c.no) (yG.andThen .now (yG.andThen .now ?_));exact yG.andThen L (yG.tag yG.now)
 refine aa (wpAny_mkText ?_);refine Fe (s:={ s with toks:=s.toks+1 }) I.kIn (I.hok a _ e).1.is c.exc F ⟨HM z,h u _ (I.tok _) z⟩
end
section
variable{C fI:aj}{f:Str}
abbrev PD(h:aD)(C:aj)(a:jd):Heap:=(h.push { cls:=.type "tuple",data:=.seq a.toArray }).push { cls:=.ref C,data:=.fields #[.ref h.objs.size,.none,.none,.none,.bool false,.none] }
def AQ{e:jd}{Q:ja}(X:K.In s.heap)(c:Y5 K C fI f)(p:e.length<=aq)(h:aB (aA prog w) (A.under (.builtin "type.__call__" ⟨.ref C::e,[]⟩)) (call (.ref fI) (.ref (s.heap.objs.size+1)::e)) (λr D=>r=.none/\Q (.ref (s.heap.objs.size+1)) D) E { s with heap:=PD s.heap C e }):
  aB (aA prog w) A (call (.ref C) e) Q E s:=by
 let⟨a,g,d,t,B⟩:=s;let n:=c.made;let⟨Y,bs,ns,qn,L,sn,u,G,k,H,P,R,S,U,V,v,M,O,_⟩:=AK n;let i:a.get? C=some (excClassObj Y qn C ns bs v L sn u G k H P R S U V "ValueError.__new__"):=X _ _ M;let T:OwnTail a Qd v:=rV X O;let j:=qX;let f1:=tc_lookup;let f2:=tc_bind (.ref C);let hT:(⟨a,g,d,t,B⟩:al).TypeIs (.ref C) "type" :=⟨_,i,Z⟩;refine wpAny_call (codeAny_of_tree (show aB _ _ (callAny (.ref C) _) _ _ _ from ?_))
 repeat (any_goals (first | assumption | with_reducible refine wpAny_loadPart_at i ?_ | wp_step))
 refine⟨Z,codeAny_call_builtin_at (Code.quiet_builtin _ (by decide +kernel)) entry_typeCall (wpAny_check_type_call_sub i ?_)⟩
 repeat (first | with_reducible refine wpAny_loadPart_at i ?_ | with_reducible refine wpAny_madeBy_exc i ?_ | wp_step)
 refine codeAny_call_builtin_code (Code.quiet_builtin _ j.quiet) (wpAny_check_new_subU j j.hasB T i (codeAny_exc_new_subU j j.hasB j T i ?_ p));show aB _ _ _ _ _ _;let I:(PD a C e).get? (a.objs.size+1)=some { cls:=.ref C,data:=.fields #[.ref a.objs.size,.none,.none,.none,.bool false,.none] }:=by heap_get
 let y:∀ b o,a.get? b=some o->(PD a C e).get? b=some o:=λb o q=>zQ _ (zQ _ q);let l:=y _ _ i;let m:(Value.ref C::v).contains (.ref C)=true:=by simp
 unfold isInstance;show aB _ _ _ _ _ ⟨PD a C e,g,d,t,B⟩
 repeat (first | with_reducible refine wpAny_loadPart_at I ?_ | wp_step)
 refine wpAny_isSubtype_exc (C:=C) (h:=PD a C e) l ?_;rw[m]
 repeat wp_step
 let x:K.In (PD a C e):=λb o q=>y b o (X b o q);show aB _ _ (typeLookup (.ref C) _) _ _ _;refine(uB x c.init).at ?_;refine af (aa ((PySem.W.bind_fn x _ (beq_iff_eq.mp c.fn)).at ?_));refine aa (ae h (λr D N=>?_) λ_ _ z=>z);let⟨rfl,J⟩:=N
 wp_walk
 exact J
end
def NU(H:Hp)(a C:aj):Prop:=∃ b,H a=some (.ext b)/\∀ h,b h->WR a C h
def CV{g:jz->Prop}{H:Hp}{a C:aj}{b:jv}(e:H a=some (XO g a C b)):NU H a C:=⟨_,e,λ_ h=>h.is⟩
def NU.mono{H a:Hp}{b C:aj}(x:NU H b C)(s:ZD H a):NU a b C:=let ⟨φ,e,k⟩:=x;⟨φ,s _ _ e,k⟩
inductive X6(K:zZ)(d:je)(H:Hp)(Q:VK):Prop
 |mk(a C c b:_)(_:d=[.ref a,c])(_:NU H a C)(_:Wc K C)(_:Fv c=true)(_:yW K (.ref C) (cV c)=some b)(_:Q (.bl b) H)
inductive Ou(K:zZ)(f:Str)(D:Yf)(e:L2.St)(y x:V)(c:Hp):Prop
 |mk(g a C d:_)(_:x=.ref a)(_:c a=some (XO g a C none))(_:Y5 K C d f)(_:∀ b,c b=none->b≠a->D.nx e (upd (upd c b (.xd [(f,y)])) a (XO g a C (some b))))
def Dh(K:zZ)(d e:TE)(f:Str):TS:=λD a H=>e a H λy b=>d a b λx c=>Ou K f D a y x c
inductive OH(K:zZ)(f:Str)(Q:VK)(x:V)(b:Hp):Prop
 |mk(g a C c d v e:_)(_:x=.ref a)(_:b a=some (XO g a C (some c)))(_:b c=some (.xd d))(_:Y5 K C e f)(_:d.lookup f=some v)(_:Q v b)
def HB(K:zZ)(b:TE)(f:Str):TE:=λc H Q=>b c H λx a=>OH K f Q x a
def NE(K:zZ)(C c:aj)(f:Str):Sp:=λd H Q _=>Y5 K C c f/\∃ a y,d=[.ref a,y]/\H a=some (XO QV a C none)/\∀ b,H b=none->b≠a->Q .non (upd (upd H b (.xd [(f,y)])) a (XO QV a C (some b)))
section
def OS:Vf X (.builtin "isinstance") (X6 X.K):=by
 intro f s t H p n Q I r h;let⟨d,C,c,b,rfl,⟨v,e,k⟩,g,i,j,q⟩:=h;let⟨u,o,rfl,l,a⟩:=LU r;cases(show u=Value.ref d from l);rw[AB a i];exact xQ (ZLG g) I.kIn (k _ (I.hok d _ e).1) j (λz=>nomatch z) λm=>⟨.bl b,H,I.tok m,Z,q⟩
variable{C fI:aj}{f:Str}{e o value:Expr}{es:jx}{ta tv:TE}{t:TA}{pos pos' p:aK}{x:Str}
def JD(v:PE X o ta)(B:PE X value tv)(A:aF value (some (.Attribute o f pos')) pos.line X.env=pure false):PS X (.Assign [.Attribute o f pos'] value pos) (Dh X.K ta tv f):=by
 intro b s d H D I h;refine plainObj_wpAny_Assign_Attribute (YO (B b s d H _ I h) λu L y i j J q=>Z5 (v b L d i _ j q) λE O ⟨x,M,k,G,g,a,C,fI,r,n,c,F⟩=>?_) A;subst r;obtain rfl:E=Value.ref a:=G;exact BF k n c J λm N w z l=>⟨d,_,l,F m w z⟩
def CM(w:PE X e ta)(r:attributeBase e f X.env (aI e X.env)=aI e X.env):PE X (.Attribute e f pos) (HB X.K ta f):=by
 intro b s A H Q I h;refine GJ r (Z5 (w b s A H _ I h) ?_);rintro u F ⟨x,d,i,z,g,a,C,B,D,v,fI,n,k,m,c,l,q⟩;subst n;obtain rfl:u=Value.ref a:=z;exact ZJJ i k m c l λu E j y=>⟨v,d,j,y,q⟩
def ZI.newx{g:js}{j:St}{H:Hp}{s:al}{h':aD}{ea:aj}(I:ZI X g j H s)(d:∀ b o,s.heap.get? b=some o->h'.get? b=some o)(n:s.heap.get? ea=none)(m:VR QV ea C none h'):ZI X g j (upd H ea (XO QV ea C none)) { s with heap:=h' }:=by
 let l:H ea=none:=by
  cases z:H ea with
  | none=>rfl
  | some o=>
   let⟨A,q⟩:=I.hok.there (a:=ea) (by rw[z];exact λy=>nomatch y)
   rw[n] at q;cases q
 let i:∀{b:aj}{o:HO},H b=some o->b≠ea:=fun{b o} q z=>by rw[z,l] at q;cases q
 refine I.call' (s':={ s with heap:=h' }) (ch:=[]) Z ⟨λb o q _ _ _=>d b o q,λb o q _ _ _=>⟨o.slots,d b o q⟩,λb o q z _=>?_,λb o q _=>⟨o,d b o q⟩,λb w q=>?_,λb o u q=>?_,λb B q=>⟨#[],?_⟩⟩ (λb v q=>?_) I.bare (λb k=>absurd k (by simp))
 ·rw[ZU (λy=>by rw[y,n] at q;cases q)];exact z
 ·rw[ZU (i q)];exact q
 ·rw[ZU (i q)];exact q
 ·rw[ZU (i q),q];simp
 ·by_cases z:b=ea
  ·rw[z,ZO] at q;cases q;rw[z];exact IC m
  ·rw[ZU z] at q;exact(I.hok b v q).stay (λc u _ r=>d c u r) (λc h=>by rw[ZU (i h)];exact h) (λc w h=>by rw[ZU (i h)];exact h)
end
def ZIr(f:jz->jz)(o:aJ):(Obj.mapFields f o).dict=o.dict:=by
 let⟨c,d,a,b⟩:=o;cases a <;> rfl
def MR(B:aD)(cls:ai)(b:jz):Prop:=b[2]? = some .none\/∀ C o a,cls=.ref C->B.get? C=some o->o.data=.cls a->a.name ≠ "NoStem"
def Ar(h B:aD)(e:aj)(cls:ai)(g:jv)(f:ai):Prop:=
 ∃ a b T c d,(h.get? e=some a/\a.cls=cls/\a.dict=g/\a.data=.fields b/\b[1]? = some (.ref T))/\B.get? T=none/\T≠e/\h.get? T=some c/\c.data=.fields d/\d[3]? = some f/\MR B cls b
def Xd(B:aD)(l:jA)(e:aj)(cls:ai)(b:jv)(a:ai)(h:aD):Prop:=B.StaysIn h/\B.get? e=none/\h.FunFrames B l/\Ar h B e cls b a
def Xd.at{B h:aD}{l:jA}{e C:aj}{f:jv}{g:ai}(x:Xd B l e (.ref C) f g h):VR PL e C f h:=by
 let⟨_,_,_,i,j,T,k,m,⟨a,b,c,d,_⟩,_⟩:=x;exact⟨i,j,a,b,d,c,trivial⟩
section
variable{M:Model}{B:aD}{env:Env}{outer l:jA}{L e:aj}{cls:ai}{od:jv}{Q:Unit->al->Prop}
def Ki{oe:aJ}{vs:jz}{first:ai}{nx:Bool}(fr:A.frames=some (env::outer))(ff:s.heap.FunFrames B (env::outer))(eL:env.frame=some L)(ge:s.heap.get? e=some oe)(sb:B.StaysIn s.heap)(eB:B.get? e=none)(dd:oe.data=.fields vs)(two:1<vs.size)(cx:MR B oe.cls vs)(h:∀ h',Xd B (env::outer) e oe.cls oe.dict (rawInt L) h'->s.heap.UpToSlots h'->Q () { s with heap:=h' }):
  aB M A (frameOf env >>= λa=>entryPlaceOf L nx >>= λpl=>EntryCells.newEntry first a .none (rawInt L) .none pl >>= λb=>setField (.ref e) 1 b) Q E s:=by
 let en:e∉(env::outer).filterMap (·.frame):=λz=>by
  let⟨_,o,g1,g2⟩:=ff.mem z;rw[ge] at g1;cases g1;exact g2 vs dd
 refine aa (wpAny_frameOf_fun fr ff eL λh1 k1=>aa (wpAny_entryPlaceOf λpl kp=>?_));unfold EntryCells.newEntry newFields;refine aa (wpAny_newObj_type ?_ (kp.sizeOk5 _ _ _ _ _));let t3:([first,Value.ref L,.none,rawInt L,.none]++(if pl.isEmpty then vO 6 Value.none else pl)).toArray[3]? = some (rawInt L):=by
  first | (simp;done) | (rcases kp with rfl | ⟨_,_,_,_,_,_,_,rfl⟩ <;> simp)
 generalize ([first,Value.ref L,.none,rawInt L,.none]++(if pl.isEmpty then vO 6 Value.none else pl)).toArray=ts at t3⊢;let g1:h1.get? e=some oe:=(k1.2.1 e en).trans ge;let sb1:B.StaysIn h1:=λb o q=>(k1.2.1 b λz=>by rw[(ff.mem z).1] at q;cases q).trans (sb b o q)
 let eT:h1.objs.size≠e:=λz=>wY _ (by have:=zW g1;rw[<-z] at this;exact this)
 let g2:=zQ (h:=h1) ({ cls:=.type "traceback",dict:=none,data:=.fields ts }:aJ) g1;let d3:=Obj.data_mapFields dd (·.setIfInBounds 1 (Value.ref h1.objs.size));let g3:=wV (Obj.mapFields (·.setIfInBounds 1 (Value.ref h1.objs.size))) g2 (Obj.isFreed_of_fields d3);let gT:=(yD (h1.push ({ cls:=.type "traceback",dict:=none,data:=.fields ts }:aJ)) (Obj.mapFields (·.setIfInBounds 1 (Value.ref h1.objs.size))) eT.symm).trans (yO h1 Z);let stay:∀ b o,b≠e->h1.get? b=some o->((h1.push ({ cls:=.type "traceback",dict:=none,data:=.fields ts }:aJ)).update e (Obj.mapFields (·.setIfInBounds 1 (Value.ref h1.objs.size)))).get? b=some o:=λb o n q=>
  (yD _ _ n.symm).trans (zQ _ q)
 let notE:∀ b o,s.heap.get? b=some o->(∀ ws,o.data≠.fields ws)->b≠e:=λb o q nf z=>by
  rw[z,ge] at q;cases q;exact nf vs dd
 refine wpAny_setField g2 dd two (h _ ⟨λb o q=>stay b o (λz=>by rw[z,eB] at q;cases q) (sb1 b o q),eB,ff.of_keeps λb o q nf=>?_,_,_,h1.objs.size,_,_,⟨g3,Obj.cls_mapFields _ _,ZIr _ _,d3,by simp[two]⟩,sb1.fresh,eT,gT,Z,t3,cx.imp (λz=>by rw[Array.getElem?_setIfInBounds_ne (by decide)];exact z) id⟩ λb o q nf=>?_)
 ·let⟨sl,z⟩:=k1.2.2 b o q;exact⟨_,stay b _ (notE b o q nf) z,Z⟩
 ·let⟨sl,z⟩:=k1.2.2 b o q;exact⟨sl,stay b _ (notE b o q nf) z⟩
def Qn{G:ai}(x:Xd B l e cls od G s.heap)(h:∀ j,Xd B l e cls od .none j->s.heap.UpToSlots j->Q () { s with heap:=j }):aB M A (setFlight (.ref e) none) Q E s:=by
 let⟨I,D,F,H,K,T,O,u,⟨r,w,y,p,v⟩,k,m,i,g,J,C⟩:=x;let t:3<u.size:=(wO.mp J).1;let a:∀ b,b≠T->(s.heap.update T (Obj.mapFields (·.setIfInBounds 3 ((none:jv).elim Value.none λf=>rawInt f)))).get? b=s.heap.get? b:=λb n=>yD _ _ n.symm;let c:∀ b o,s.heap.get? b=some o->(∀ N,o.data≠.fields N)->b≠T:=λb o q d z=>by
  rw[z,i] at q;cases q;exact d u g
 unfold setFlight;refine aa (wpAny_field r p v ?_);rw[aQ (show (Value.ref T != Value.none)=true by simp)]
 refine wpAny_setField i g t (h _ ⟨λb o q=>(a b λz=>by rw[z,k] at q;cases q).trans (I b o q),D,F.of_keeps λb o q d=>⟨o,(a b (c b o q d)).trans q,Z⟩,?_⟩ λb o q d=>⟨o.slots,(a b (c b o q d)).trans q⟩)
 exact⟨H,K,T,_,_,⟨(a e m.symm).trans r,w,y,p,v⟩,k,m,wV _ i (Obj.isFreed_of_fields (Obj.data_mapFields g _)),Obj.data_mapFields g _,by simp[t],C⟩
def ZKK{a:aJ}{c:jz}(n:A.frames=some (env::outer))(m:s.heap.FunFrames B (env::outer))(f:env.frame=some L)(g:s.heap.get? e=some a)(o:B.StaysIn s.heap)(k:B.get? e=none)(d:a.data=.fields c)(i:c[1]? = some .none)(j:MR B a.cls c)(h:∀ b,Xd B (env::outer) e a.cls a.dict (rawInt L) b->s.heap.UpToSlots b->Q () { s with heap:=b }):aB M A (noteFrame (.ref e) env) Q E s:=by
 unfold noteFrame;simp only[f];refine aa (wpAny_field g d i ?_);rw[aP (by decide)]
 exact Ki n m f g o k d (wO.mp i).1 j h
def No(H:A.frames=some (env::outer))(k:env.frame=some L)(x:Xd B (env::outer) e cls od .none s.heap)(h:∀ f,Xd B (env::outer) e cls od (rawInt L) f->s.heap.UpToSlots f->Q () { s with heap:=f }):
  aB M A (noteFrame (.ref e) env) Q E s:=by
 let⟨J,D,G,P,R,T,O,r,⟨m,w,y,j,t⟩,u,v,i,g,p,C⟩:=x;subst w y;let I:3<r.size:=(wO.mp p).1;let a:∀ b,b≠T->(s.heap.update T (Obj.mapFields (·.setIfInBounds 3 Value.none))).get? b=s.heap.get? b:=λb n=>yD _ _ n.symm;let c:∀ b o,s.heap.get? b=some o->(∀ N,o.data≠.fields N)->b≠T:=λb o q d z=>by
  rw[z,i] at q;cases q;exact d r g
 unfold noteFrame;simp only[k];refine aa (wpAny_field m j t ?_);rw[aQ (show (Value.ref T != Value.none)=true by simp)]
 refine aa (wpAny_field i g p ?_);rw[aP (show ¬ ((Value.none==rawInt L)=true) by simp[rawInt])]
 refine aa (wpAny_setField i g I ?_);refine Ki (s:={ s with heap:=_ }) H (G.of_keeps λb o q d=>⟨o,(a b (c b o q d)).trans q,Z⟩) k ((a e v.symm).trans m) (λb o q=>(a b λz=>by rw[z,u] at q;cases q).trans (J b o q)) D j (wO.mp t).1 C λf F K=>h f F λb o q d=>?_
 exact K b o ((a b (c b o q d)).trans q) d
def Xd.less{f:ai}{h:aD}(x:Xd B (env::outer) e cls od f h):Xd B outer e cls od f h:=by
 let⟨a,b,⟨_,_,c⟩,d⟩:=x;exact⟨a,b,c,d⟩
def ZIB(f:A.frames=some (env::outer))(b:env.frame=some L)(x:Xd B (env::outer) e cls od .none s.heap)(h:∀ a,Xd B outer e cls od .none a->s.heap.UpToSlots a->Q () { s with heap:=a }):aB M A (leaving env (.ref e)) Q E s:=by
 unfold leaving;exact aa (No f b x λg c j=>Qn (s:={ s with heap:=g }) c λi d k=>h i d.less (j.trans k))
def ZID{a:aJ}{c:jz}(n:A.frames=some (env::outer))(m:s.heap.FunFrames B (env::outer))(i:env.frame=some L)(o:s.heap.get? e=some a)(r:B.StaysIn s.heap)(g:B.get? e=none)(f:a.data=.fields c)(v:c[1]? = some .none)(d:MR B a.cls c)(h:∀ b,Xd B outer e a.cls a.dict .none b->s.heap.UpToSlots b->Q () { s with heap:=b }):aB M A (leaving env (.ref e)) Q E s:=by
 unfold leaving;exact aa (ZKK n m i o r g f v d λp j t=>Qn (s:={ s with heap:=p }) j λq k u=>h q k.less (t.trans u))
end
def EJ{a:am}{w:aw}{A:ax}{E:ja}{s:al}{c:Env}{K:zZ}{C:aj}{x:Sem ai}{Q:Flow->al->Prop}(F:A.handled=none)(H:zE K C (.type "BaseException")=some true)(G:yM K (.ref C)=some (.type "type"))(h:aB (aA a w) A x (λv b=>∃ e q,v=.ref e/\K.In b.heap/\VR QV e C q b.heap/\E (.ref e) b) E s):aB (aA a w) A (raiseStmt c (some x) none) Q E s:=by
 unfold raiseStmt;refine aa (ae h (λv b B=>?_) λ_ _ z=>z);let⟨e,q,rfl,k,⟨⟨L,i,I,j⟩,r,o,l,m,n,J,P⟩,D⟩:=B;dsimp only at l m n;subst l m n;let⟨p,g,d,O,N⟩:=b;let t:yG (aA a w) p (typeOf (.ref e)) (.ref C):=WR.ty ⟨_,o,Z⟩ _;let u:=uD (M:=aA a w) k H;let y:=rQ (M:=aA a w) k G;let f:p.get? e=some ⟨.ref C,i,.fields r,j⟩:=o;unfold excFromValue isExcClass isInstance isType raisedInstance setFlight
 repeat (first | with_reducible refine wpAny_loadPart_at f ?_ | with_reducible refine u.at ?_ | with_reducible refine t.at ?_ | with_reducible refine y.at ?_ | wp_step)
 rw[show r[1]? = some Value.none from J]
 repeat wp_step
 all_goals first | exact wpAny_raiseNew_none F D | trace_state
structure UK(P:am)(w:aw)(outer:jA)(H:Hp)(s:al)(ea:aj)(cls:ai)(od:jv)(H':Hp)(s':al):Prop where
 ex:∃ B:aD,Xd B outer ea cls od .none s'.heap/\(∀ b o,s'.heap.get? b=some o->H' b≠none->B.get? b=some o)/\(∀ b o,s.heap.get? b=some o->H b=none->b∉frs outer->B.get? b=some o)/\(∀ b o,s.heap.get? b=some o->b∉frs outer->∃ o',B.get? b=some o')
 os:s'.os=s.os
 bare:AllBare s'.gens
 un:Un (frs outer) [] H H' s.heap s'.heap
 hok:YW P w H' s'.heap
 new:s.heap.get? ea=none
 free:H' ea=none
def Zg(P:am)(w:aw):Wu:=λa H s E e f=>∃ c cls d b,e=.ref c/\UK P w a H s c cls d b f/\E cls d b
structure Vd(X:Cx)(E:XK):Prop where
 stack:X.stack=X.env::X.outer
 frame:X.env.frame=some X.env.locals
 ex:X.ex=[]
 calm:X.calm=true
 xe:∀ e s',aB (aA X.prog X.w) X.A (leaving X.env e) (λ_ s''=>Zg X.prog X.w X.outer X.H₀ X.s₀ E e s'') (λe' s''=>Zg X.prog X.w X.outer X.H₀ X.s₀ E e' s'') s'->X.xe e s'
def Yl{P:am}{w:aw}{K:zZ}{g:jb}{c:aD}{N:jq}{d:Str}{b:aE}{f:aj}{e:ai}{A:ax}{a:jA}{s:al}{H:Hp}{E:XK}:
  Vd (Vn (Zg P w) P w K g c N d b f e A a s H E) E:=⟨Z,Z,Z,Z,λ_ _ h=>h⟩
section
variable{jW:js}{σ:St}{H H':Hp}{s':al}{E:XK}
def Vd.frs(F:Vd X E):frs X.stack=X.env.locals::X.fs:=by
 rw[F.stack];show List.filterMap _ (X.env::X.outer)=_;rw[uM,F.frame];rfl
def Vd.off(F:Vd X E)(I:ZI X jW σ H s){b:aj}{o:aJ}(q:X.s₀.heap.get? b=some o)(n:b∉L2.frs X.outer):b∉L2.frs X.stack:=λz=>by
 rw[F.frs] at z;rcases zF.mp z with z | z
 ·rw[z,I.noloc] at q;cases q
 ·exact n z
def Vd.on(F:Vd X E){b:aj}(n:b∈L2.frs X.outer):b∈L2.frs X.stack:=by
 rw[F.frs];exact zI _ n
def ZOd{B h:aD}{g:aj}(F:Vd X E)(J:ZI X jW σ H s)(r:B.StaysIn h)(d:∀ b o,b≠g->s.heap.get? b=some o->b∉L2.frs X.stack->B.get? b=some o)(p:s.heap.UpToSlots h)(i:X.s₀.heap.get? g=none):
  Un (L2.frs X.outer) [] X.H₀ H X.s₀.heap h:=by
 let c:=J.base;rw[F.ex] at c;let l:∀{b:aj}{o:aJ},X.s₀.heap.get? b=some o->b≠g:=λq z=>by rw[z,i] at q;cases q
 let m:∀{b:aj}{o:aJ},b∈L2.frs X.stack->s.heap.get? b=some o->∀ v,o.data≠.fields v:=λa q=>IF J _ a _ q;refine⟨λb o q n a _=>r b o (d b o (l q) (c.keep b o q n a (by simp)) (F.off J q a)),λb o q n a _=>?_,c.free,λb o q _=>?_,c.tups,c.frzs,c.tbls⟩
 ·let⟨u,e⟩:=c.slot b o q n a (by simp)
  let⟨k,t⟩:=p b _ e (m (F.on a) e);exact⟨k,t⟩
 ·let⟨f,j⟩:=c.there b o q (by simp)
  by_cases a:b∈L2.frs X.stack
  ·let⟨u,e⟩:=p b f j (m a j);exact⟨_,e⟩
  ·exact⟨f,r b f (d b f (l q) j a)⟩
def ZI.untrack{a:aj}{g:aD->Prop}(I:ZI X jW σ (upd H a (.ext g)) s)(l:H a=none):ZI X jW σ H s:=by
 let v:∀{b:aj}{u:HO},H b=some u->b≠a:=fun{b u} e z=>by rw[z,l] at e;cases e
 let h:∀{b:aj},upd H a (.ext g) b=none->H b=none:=fun{b} e=>by
  by_cases z:b=a
  ·rw[z];exact l
  ·rw[ZU z] at e;exact e
 let d:∀{b:aj}{u:HO},upd H a (.ext g) b=some u->(∀ y,u≠.ext y)->H b=some u:=fun{b u} e k=>by
  by_cases z:b=a
  ·rw[z,ZO] at e;exact absurd (zG.inj e).symm (k g)
  ·rw[ZU z] at e;exact e
 refine⟨I.ok,I.os,I.bare,⟨I.base.keep,I.base.slot,λb j q n t=>h (I.base.free b j q n t),I.base.there,λb m q=>d (I.base.tups b m q) (λ_ z=>nomatch z),λb j u q=>d (I.base.frzs b j u q) (λ_ z=>nomatch z),λb w q=>?_⟩,I.loc,I.cell,h I.free,λx c e=>h (I.freeC x c e),λp i=>?_,λb u e=>?_,I.len⟩
 ·let⟨f,e⟩:=I.base.tbls b w q;exact⟨f,d e (λ_ z=>nomatch z)⟩
 ·let⟨e,n,r⟩:=I.pin p i;exact⟨e,h n,r⟩
 ·let o:upd H a (.ext g) b=some u:=by rw[ZU (v e)];exact e
  exact(I.hok b u o).stay (λ_ _ _ q=>q) (λc q=>d q (λ_ z=>nomatch z)) λc m q=>d q (λ_ z=>nomatch z)
def ZLV{c C:aj}{m:jv}{g:jz->Prop}(F:Vd X E)(J:ZI X jW σ H s)(e:X.s₀.heap.get? c=none)(u:H c=none)(Q:VR g c C m s.heap)(K:∀ f,g f->f[1]? = some .none)(L:∀ f B,g f->(∀ b o,B.get? b=some o->s.heap.get? b=some o)->MR B (.ref C) f)(N:E (.ref C) m H):X.xe (.ref c) s:=by
 let⟨U,f,I,r,w,x,t⟩:=Q;let T:=K f t;let G:X.A.frames=some (X.env::X.outer):=by rw[J.ok.frames,F.stack]
 let D:s.heap.FunFrames (vY s.heap (c::L2.frs X.stack)) (X.env::X.outer):=by
  have:=PySem.W.funFrames_hide (as:=c::L2.frs X.stack) J.stack (λl P a O=>zI _ (xU.mpr ⟨l,P,O⟩));rw[F.stack] at this⊢;exact this
 let d:∀ b o,b≠c->s.heap.get? b=some o->b∉L2.frs X.stack->(vY s.heap (c::L2.frs X.stack)).get? b=some o:=λb o n q h=>sW _ q (λz=>by
  rcases zF.mp z with z | z
  ·exact n z
  ·exact h z)
 let Z2:∀ b o,s.heap.get? b=some o->H b≠none->(vY s.heap (c::L2.frs X.stack)).get? b=some o:=λb o q n=>d b o (λz=>n (by rw[z];exact u)) q λz=>n (J.stkFree b z)
 let y:(vY s.heap (c::L2.frs X.stack)).get? c=none:=sQ _ (by simp)
 refine F.xe _ _ (ZID G D F.frame I (λb o q=>uJ _ q) y w T (by rw[r];exact L f _ t λb o q=>uJ _ q) λM j S=>?_)
 rw[r,x] at j;refine⟨c,_,m,H,Z,⟨⟨_,j,λb o q n=>?_,λb o q n h=>?_,λb o q h=>?_⟩,J.os,J.bare,ZOd F J j.1 d S e,J.hok.keptT λb o q n=>j.1 b o (Z2 b o q n),e,u⟩,N⟩
 ·let⟨i,k⟩:=J.hok.there n;let R:=j.1 b i (Z2 b i k n);let v:M.get? b=some o:=q;rw[R] at v;rw[<-zG.inj v];exact Z2 b i k n
 ·let p:=J.base;rw[F.ex] at p;exact d b o (λz=>by rw[z,e] at q;cases q) (p.keep b o q n h (by simp)) (F.off J q h)
 ·let⟨i,k⟩:=J.base.there b o q (by rw[F.ex];simp)
  exact⟨i,d b i (λz=>by rw[z,e] at q;cases q) k (F.off J q h)⟩
def GS{a C:aj}{c:jv}(F:Vd X E)(J:ZI X jW σ H s)(b:X.s₀.heap.get? a=none)(e:H a=none)(f:VR QV a C c s.heap)(d:E (.ref C) c H):X.xe (.ref a) s:=ZLV F J b e f (λ_ z=>z.1) (λ_ _ z _=>.inl z.2) d
def EQ{i:aj}{cls:ai}{p:jv}{B h2:aD}(F:Vd X E)(I:ZI X jW σ H s)(W:UK X.prog X.w X.stack H s i cls p H' s')(Z2:∀ b o,s'.heap.get? b=some o->H' b≠none->B.get? b=some o)(t:∀ b o,s.heap.get? b=some o->H b=none->b∉L2.frs X.stack->B.get? b=some o)(l:∀ b o,s.heap.get? b=some o->b∉L2.frs X.stack->∃ c,B.get? b=some c)(f:Xd B X.outer i cls p .none h2)(N:s'.heap.UpToSlots h2)(q:E cls p H'):Zg X.prog X.w X.outer X.H₀ X.s₀ E (.ref i) { s' with heap:=h2 }:=by
 let d:=I.base;rw[F.ex] at d;let K:∀{b:aj}{o:aJ},b∈L2.frs X.stack->s.heap.get? b=some o->∀ x,o.data≠.fields x:=λa q=>IF I _ a _ q;let m:∀ b o,X.s₀.heap.get? b=some o->X.H₀ b=none->b∉L2.frs X.outer->B.get? b=some o:=λb o q n a=>t b o (d.keep b o q n a (by simp)) (d.free b o q n (by simp)) (F.off I q a)
 let g:∀ b o,s.heap.get? b=some o->b∈L2.frs X.stack->∃ r,h2.get? b=some { o with slots:=r }:=λb o q a=>by
  let⟨r,h⟩:=W.un.slot b o q (I.stkFree b a) a (by simp)
  let⟨g,k⟩:=N b _ h (λx z=>K a q x z);exact⟨g,k⟩
 let u:Un (L2.frs X.outer) [] X.H₀ H' X.s₀.heap h2:=by
  refine⟨λb o q n a _=>f.1 b o (m b o q n a),λb o q n a _=>?_,λb o q n _=>?_,λb o q _=>?_,λb C q=>W.un.tups b C (d.tups b C q),λb o u q=>W.un.frzs b o u (d.frzs b o u q),λb L q=>?_⟩
  ·let⟨r,h⟩:=d.slot b o q n a (by simp)
   let⟨v,D⟩:=g b _ h (F.on a);exact⟨v,D⟩
  ·let⟨c,e⟩:=d.there b o q (by simp)
   exact W.un.free b c e (d.free b o q n (by simp)) (by simp)
  ·let⟨c,e⟩:=d.there b o q (by simp)
   by_cases a:b∈L2.frs X.stack
   ·let⟨r,h⟩:=g b c e a;exact⟨_,h⟩
   ·let⟨y,k⟩:=l b c e a;exact⟨y,f.1 b y k⟩
  ·let⟨G,h⟩:=d.tbls b L q;let⟨J,k⟩:=W.un.tbls b _ h;exact⟨G++J,by rw[k,vJ]⟩
 refine⟨i,cls,p,H',Z,⟨⟨B,f,λb o j n=>?_,m,λb o j a=>?_⟩,W.os.trans I.os,W.bare,u,W.hok.keptT λb o j n=>f.1 b o (Z2 b o j n),?_,W.free⟩,q⟩
 ·let⟨c,e⟩:=W.hok.there n;let M:=f.1 b c (Z2 b c e n);let A:h2.get? b=some o:=j;rw[M] at A;rw[<-zG.inj A];exact Z2 b c e n
 ·let⟨c,e⟩:=d.there b o j (by simp)
  exact l b c e (F.off I j a)
 ·cases z:X.s₀.heap.get? i with
  | none=>rfl
  | some o=>
   let⟨c,e⟩:=d.there i o z (by simp)
   rw[W.new] at e;cases e
def Yv{E1:XK}(F:Vd X E)(g:∀ cls o H,E1 cls o H->E cls o H):Vl (Zg X.prog X.w) X E1:=by
 intro jW σ H s e s' I h;let⟨j,cls,l,H',rfl,W,q⟩:=h;let⟨B,d,Z2,c,b⟩:=W.ex;let f:X.A.frames=some (X.env::X.outer):=by rw[I.ok.frames,F.stack]
 exact F.xe _ _ (ZIB f F.frame (by rw[<-F.stack];exact d) λk a i=>EQ F I W Z2 c b a i (g _ _ _ q))
inductive QT(C:aj)(f:Str)(E:XK)(c:je)(b:Hp):Prop
 |mk(y:_)(_:c=[y])(_:∀ a,b a=none->E (.ref C) (some a) (upd b a (.xd [(f,y)])))
def FF(C:aj)(f:Str)(E:XK)(t:TA):TS:=λ_ σ H=>t σ H λb a=>QT C f E b a
def ZJ1{k:Nat}{C N:aj}{f x:Str}{fd:ao}{R:jq}{e:Expr}{n:jx}{t:TA}{p g Q:aK}(F:Vd X E)(c:Y5 X.K C N f)(ht:yM X.K (.ref C)=some (.type "type"))(U:ZH X.prog X.w X.K X.mg X.base Zd k N fd R (NE X.K C N f))(hr:Zc (k+1) X.A)(hg:Gl X x)(hm:X.mg x=some (.ref C))(hb:YB X.K fd R [])(ha:PA X (e::n) t)(O:(x==("__debug__" : Str))=false:=by decide)(he:ar (e::n) X.env=(false,aI e X.env)::ar n X.env:=by rfl)(P:(aG g (ar n X.env)).any (·.1)=false:=by rfl):
  PS X (.Raise (some (.Call (.Name x p) (e::n) [] g)) none Q) (FF C f E t):=by
 intro jW s σ H D I h;let hh:=I.ok.hd F.calm;rw[arm_exec_Raise];refine aa (ah ?_);refine EJ hh c.exc.mB ht (aa (ae ?_ (λv s3 h3=>aa (ah (ad h3))) λ_ _ z=>z));refine ag (Q1 I hg hm ?_ O);refine wI (h₀:=X.base) I.ok.mod.kin c.kp (Z5 (ha g jW s σ H _ I h) λus d ⟨vs,l,m,r,y,ey,q⟩=>⟨m.kIn,?_⟩) he P;subst ey;obtain⟨u,rfl,S⟩:∃ u,us=[u]/\ZY y u:=by
  cases r with
  | cons S r0=>cases r0;exact⟨_,Z,S⟩
 refine AQ m.kIn c (by show 1<=aq;rw[sizeLine_eq];lia) ?_
 let kk:∀ b o,d.heap.get? b=some o->(PD d.heap C [u]).get? b=some o:=λb o q=>zQ _ (zQ _ q);let e1:(PD d.heap C [u]).get? (d.heap.objs.size+1)=some { cls:=.ref C,data:=.fields #[.ref d.heap.objs.size,.none,.none,.none,.bool false,.none] }:=by heap_get
 let Y:d.heap.get? (d.heap.objs.size+1)=none:=uI (xI _);let h0:l (d.heap.objs.size+1)=none:=m.hok.fresh (xI _);let L:X.s₀.heap.get? (d.heap.objs.size+1)=none:=by
  cases z:X.s₀.heap.get? (d.heap.objs.size+1) with
  | none=>rfl
  | some o=>
   let⟨o',q'⟩:=m.base.there _ o z (by rw[F.ex];simp)
   rw[Y] at q';cases q'
 let J:=m.newx (C:=C) (ea:=d.heap.objs.size+1) (h':=PD d.heap C [u]) kk Y ⟨_,_,e1,Z,Z,Z,Z,Z⟩;generalize a0:d.heap.objs.size+1=a at *;let r2:ZR [V.ref a,y] [Value.ref a,u]:=.cons Z (.cons S .nil);let G:NE X.K C N f [V.ref a,y] (upd l a (XO QV a C none)) (λv H2=>v=.non/\∃ i,H2=upd (upd l i (.xd [(f,y)])) a (XO QV a C (some i))/\l i=none/\i≠a) E0:=by
  refine⟨c,_,y,Z,ZO,λi hd B=>⟨Z,i,?_,?_,B⟩⟩
  ·funext b
   by_cases z:b=a
   ·rw[z,ZO,ZO]
   ·rw[ZU z,ZU z];by_cases T:b=i
    ·rw[T,ZO,ZO]
    ·rw[ZU T,ZU T,ZU z]
  ·rw[ZU B] at hd;exact hd
 let hl:([Value.ref a,u]++([]:jd)).length=R.length:=by
  let e:=r2.length;rw[U.len _ _ _ _ G] at e;exact e.symm
 refine wpAny_call (codeAny_mono (U.run _ X.stack _ _ ⟨[Value.ref a,u],[]⟩ _ _ _ E0 (hr.make C [u] []) (J.env0.make C [u] []) (hb _ [Value.ref a,u] J.kIn hl) r2 G) λr s' j=>?_)
 cases r with
 | error e=>exact(XJ jW σ _ _ e s' J j)
 | ok fl=>
  cases fl with
  | ret u2=>
   let⟨v,H',M,rv,ev,i,eH,nd,ne⟩:=J.after j;subst ev eH;exists rv,a,some i,Z,M.kIn,(M.hok a _ ZO).1;let hn:upd l i (.xd [(f,y)]) a=none:=by rw[ZU (Ne.symm ne)];exact h0
   exact GS F (M.untrack hn) L hn (M.hok a _ ZO).1 (q i nd)
  | next=>exact False.elim j
  | brk=>exact False.elim j
  | cont=>exact False.elim j
end
def EF(K:zZ)(e:aj)(i:Nat)(g:TS)(D:Yf)(h:St):XK:=λcls f d=>∃ C,cls=.ref C/\zE K C (.ref e)=some true/\∀ c,d c=none ->
 g { nx:=λa b=>D.nx (a.set i none) b,rt:=D.rt,bk:=λa b=>D.bk (a.set i none) b,ct:=λa b=>D.ct (a.set i none) b } (h.set i (some (.ref c))) (upd d c (XO PL c C f))
def NL{X:Cx}{d:js}{p:St}{H i:Hp}{s g:al}{t:aj}{u:jv}{B f:aD}{cls:ai}(I:ZI X d p H s)(W:UK X.prog X.w X.stack H s t cls u i g)(Z2:∀ b o,g.heap.get? b=some o->i b≠none->B.get? b=some o)(k:∀ b o,s.heap.get? b=some o->H b=none->b∉frs X.stack->B.get? b=some o)(j:∀ b o,s.heap.get? b=some o->b∉frs X.stack->∃ h,B.get? b=some h)(m:B.StaysIn f)(v:g.heap.UpToSlots f):
  ZI X d p i { g with heap:=f }:=by
 let c:∀ b o,s.heap.get? b=some o->b∈frs X.stack->∃ l,f.get? b=some { o with slots:=l }:=λb o q a=>by
  let⟨l,e⟩:=W.un.slot b o q (I.stkFree b a) a (by simp)
  let⟨c,r⟩:=v b _ e (λx z=>IF I b a o q x z);exact⟨c,r⟩
 refine I.call' (s':={ g with heap:=f }) W.os ⟨λb o q n a _=>m b o (k b o q n a),λb o q n a _=>c b o q a,W.un.free,λb o q _=>?_,W.un.tups,W.un.frzs,W.un.tbls⟩ (W.hok.keptT λb o q n=>m b o (Z2 b o q n)) W.bare (λb a=>absurd a (by simp))
 by_cases a:b∈frs X.stack
 ·let⟨l,e⟩:=c b o q a;exact⟨_,e⟩
 ·let⟨h,e⟩:=j b o q a;exact⟨h,m b h e⟩
def Zn.okD{x b:Str}{g:aC}{f:aj}{n:ao}{N l:jq}{k:Nat}{m:Sp}(F:Zn K x b g f n)(S:ZB N l (Zf g))(j:∀ e H Q E,m e H Q E->e.length=l.length)(d:∀ (c:ai) (A:ax) (a:jA) (s:al) (H:Hp) (e:je) (Q:VK) (E:XK),Zc k (A.deeper (envOfC b (Zf g) s.heap.objs.size f c))->m e H Q E ->
   let X:=(Vn (Zg P w) P w K mg jX N b (Zf g) f c A a s H E);∃ t,Wf X (Xz g) t/\t { nx:=λ_ o=>Q .non o,rt:=Q } (start N e) H):ZH P w K mg jX (Zg P w) (k+1) f n l m:=by
 let⟨y,z,kV,p,B,v,c,ct,u,rfl,r,h⟩:=F.ex;exact KM r h S j λA a s H e Q E q i=>d c A a s H e Q E q i
def Zn.kD{x a:Str}{g:aC}{f:aj}{m:ao}{N j:jq}{k:Nat}{l:Sp}(F:Zn K x a g f m)(S:ZB N j (Zf g))(b:∀ (e:ai) (A:ax) (c:jA) (s:al) (H:Hp) (d:je) (Q:VK) (E:XK),Zc k (A.deeper (envOfC a (Zf g) s.heap.objs.size f e))->l d H Q E ->
   let X:=(Vn (Zg P w) P w K mg jX N a (Zf g) f e A c s H E);∃ t,Wf X (Xz g) t/\t { nx:=λ_ n=>Q .non n,rt:=Q } (start N d) H)(i:∀ d H Q E,l d H Q E->d.length=j.length:=by intro d _ _ _ h;cases h;(try subst d);rfl):ZH P w K mg jX (Zg P w) (k+1) f m j l:=F.okD S i b
def N6(P:am)(w:aw)(K:zZ)(mg:jb)(jX:aD)(N:jq)(qual:Str)(scope:aE)(f:aj)(cd:ai)(cl:jC)(A:ax)(outer:jA)(s:al)(H:Hp)(E:XK):Cx where
 prog:=P
 w:=w
 K:=K
 mg:=mg
 base:=jX
 A:=A.deeper (wF qual scope s.heap.objs.size f cd cl)
 N:=N
 s₀:=s
 H₀:=H
 env:=wF qual scope s.heap.objs.size f cd cl
 outer:=outer
 stack:=wF qual scope s.heap.objs.size f cd cl::outer
 ex:=[]
 calm:=true
 fn:=λ_=>false
 pn:=[]
 xe:=λe s'=>aB (aA P w) (A.deeper (wF qual scope s.heap.objs.size f cd cl)) (leaving (wF qual scope s.heap.objs.size f cd cl) e) (λ_ s''=>Zg P w outer H s E e s'') (λe' s''=>Zg P w outer H s E e' s'') s'
def Os{N:jq}{qual:Str}{scope:aE}{f:aj}{cd:ai}{cl:jC}{A:ax}{outer:jA}{s:al}{H:Hp}{E:XK}:Vd (N6 P w K mg jX N qual scope f cd cl A outer s H E) E:=⟨Z,Z,Z,Z,λ_ _ h=>h⟩
def HK{d:jA}{i:ju}{H:Hp}{s v:al}{E:XK}{e:ai}(C:Wy P w K mg jX A d s H)(t:∀ c∈i,∃ o,H c=some (XH c o))(h:Zg P w d (unT i H) s (λc o y=>(∀ F∈i,y F=none)->E c o (reT i H y)) e v):Zg P w d H s E e v:=by
 let⟨D,cls,L,x,rfl,W,q⟩:=h;let⟨B,G,Z2,m,u⟩:=W.ex;let p:∀ c∈i,c∉frs d:=λc a z=>by
  let⟨o,e⟩:=t c a;rw[C.frf c z] at e;cases e
 let f:∀ c∈i,∃ o,H c=some (XH c o)/\s.heap.get? c=some o/\v.heap.get? c=some o:=λc a=>by
  let⟨o,e⟩:=t c a;let g:=C.hok.obj e;exact⟨o,e,g,W.un.keep c o g (Qg a) (p c a) (by simp)⟩
 let J:∀ c∈i,x c=none:=λc a=>by
  let⟨o,l,j,k⟩:=f c a;exact W.un.free c o j (Qg a) (by simp)
 refine⟨D,cls,L,reT i H x,Z,⟨⟨B,G,λb o r n=>?_,λb o r n I=>m b o r (OR n) I,u⟩,W.os,W.bare,Go W.un t,W.hok.reT (λc a=>?_) (λc a=>?_),W.new,?_⟩,q J⟩
 ·by_cases z:b∈i
  ·let⟨M,l,j,k⟩:=f b z;rw[r] at k;cases k;exact m b o j (Qg z) (p b z)
  ·rw[UB z] at n;exact Z2 b o r n
 ·let⟨o,l,j,k⟩:=f c a;exact W.un.free c o j (Qg a) (by simp)
 ·let⟨o,l,j,k⟩:=f c a;exact⟨o,l,k⟩
 ·rw[UB λz=>?_];exact W.free;let⟨o,l,j,k⟩:=f D z;rw[W.new] at j;cases j
def Hl{k:Nat}{f c':aj}{co:aJ}{qual:Str}{params:Arguments}{body:Expr}{scope:aE}{cl:jC}{pm ctv:ai}{N:jq}{spB:Sp}(hinj:∀ x y c,cl.lookup x=some c->cl.lookup y=some c->x=y)(hhas:∀ x,(scope.names.lookup x=some .cell\/scope.names.lookup x=some .free)->∃ c,cl.lookup x=some c)(hin:∀ x c,cl.lookup x=some c->c∈cl.map (·.2))(hvis:∀ x∈N,scope.names.lookup x=some .free)(jk:scope.kind=.function)(hco:scope.isCoroutine=false)(hgen:scope.isGenerator=false)(hnc:∀ x∈scope.names,x.2≠.cell)(hcd:Y2 co qual)(hbody:∀ (A:ax) (outer:jA) (s:al) (H:Hp) (ws:je) (Q:VK) (E:XK),Zc k (A.deeper (wF qual scope s.heap.objs.size f (.ref c') cl))->spB ws H Q E ->
   ∃ t,PE (N6 P w K mg jX N qual scope f (.ref c') cl A outer s H E) body t/\t (ws.map some) H Q):
  ZH P w K mg jX (Zg P w) (k+1) f (vP "<lambda>" qual params body scope cl pm (.ref c') ctv) []
   (NN f c' (xK "<lambda>" qual params body scope cl pm c' ctv) co cl N spB):=by
 exists λvs H Q E h=>by rw[h.1];rfl
 intro A outer s H args us vs Q E hr e0 hb r hsp;let⟨rfl,hf,hc,ws,hcl,hB⟩:=hsp;cases ZR.zero r;let lim:s.heap.NoLimit:=e0.mod.nolimit.keeps λb o e=>(e0.bs b o e).1;let hcs:∀ c∈cl.map (·.2),∃ o,H c=some (XH c o):=λc hc=>by
  let⟨o,v,e,_⟩:=hcl.all c hc;exact⟨o,e⟩
 let hrec:s.heap.CodeRec (.ref c') qual:=by
  let⟨vs',t,d,v1⟩:=hcd;exact⟨c',co,vs',t,Z,e0.hok.obj hc,d,v1⟩
 refine PySem.W.kla_callFunE hr.depth (e0.hok.obj hf) Z hco hgen Z hrec (hb _ _ _ _ ?_);refine wpAny_newFunctionEnv hnc (λx hx=>absurd hx (by simp)) (λh₁ hns hsb=>⟨lim.fresh _ hsb,?_⟩) jk
 let hk₁:∀ b o,s.heap.get? b=some o->h₁.get? b=some o:=λb o e=>hsb.extBut b o (zM (zW e)) (zQ _ e);let⟨t,ht,hq⟩:=hbody A outer s (unT (cl.map (·.2)) H) ws _ _ (hr.deeper _) hB;let noA:∀ b:aj,b∉(N6 P w K mg jX N qual scope f (.ref c') cl A outer s (unT (cl.map (·.2)) H) (λc o H2=>(∀ c∈cl.map (·.2),H2 c=none)->E c o (reT (cl.map (·.2)) H H2))).ex:=λb z=>absurd (show b∈([]:ju) from z) (by simp)
 let I:ZI (N6 P w K mg jX N qual scope f (.ref c') cl A outer s (unT (cl.map (·.2)) H) (λc o H2=>(∀ c∈cl.map (·.2),H2 c=none)->E c o (reT (cl.map (·.2)) H H2))) [] (ws.map some) (unT (cl.map (·.2)) H) { s with heap:=h₁,toks:=s.toks+0 }:=by
  refine⟨⟨e0.mod,jk,Z,Z,zY _,hinj,hhas,λ_ _ z=>absurd z zS,λ_=>hr.hd,Around.frames_deeper e0.frames,.inr ⟨Z,Z⟩,λb z=>absurd z (noA b),λb o e=>⟨(e0.bs b o e).1,OR (e0.bs b o e).2⟩,e0.bsz,λb _ _=>noA b,λb z=>absurd z (noA b),e0.funs,λb hb=>OR (e0.frf b hb)⟩,
   Z,e0.bare,Un.kept hk₁,⟨_,hns,λi x v h1 h2 h3=>?_⟩,λx c e=>?_,OR (e0.hok.fresh (zY _)),λx c e=>Qg (hin x c e),λp hp=>absurd (show p∈([]:js) from hp) (by simp),(e0.hok.unT hcs).kept hk₁,?_⟩
  ·let h2':ws[i]? = some v:=by
    rw[zH] at h2
    cases e:ws[i]? with
    | none=>rw[e] at h2;cases h2
    | some a=>rw[e] at h2;cases h2;rfl
   let⟨c,o,u,e1,e2,e3,e4,rv⟩:=hcl.val i x v h1 h2';exact⟨u,rv,.inr ⟨.inr (hvis x (yU h1)),c,e1,o,hk₁ _ _ (e0.hok.obj e3),e4⟩⟩
  ·let⟨o,v,e3,e4⟩:=hcl.all c (hin x c e);exact⟨v,o,hk₁ _ _ (e0.hok.obj e3),e4⟩
  ·show (ws.map some).length=N.length;rw[zX];exact hcl.len
 refine PySem.W.kla_codeExpr (ae (ht [] _ _ _ _ I hq) (λu s' hs=>?_) λe s' hs=>?_)
 ·let⟨v,H2,J,rv,q⟩:=hs;let u2:Un (frs outer) [] (unT (cl.map (·.2)) H) H2 s.heap s'.heap:=J.base;let nfr:∀ c∈cl.map (·.2),c∉frs outer:=λc hc' z=>by
   let⟨o,e⟩:=hcs c hc';rw[e0.frf c z] at e;cases e
  let n2:∀ c∈cl.map (·.2),H2 c=none:=λc hc'=>by
   let⟨o,e⟩:=hcs c hc';exact u2.free c o (e0.hok.obj e) (Qg hc') (by simp)
  exact⟨v,_,J.os,J.bare,Go u2 hcs,J.hok.reT n2 (λc hc'=>by
   let⟨o,e⟩:=hcs c hc';exact⟨o,e,u2.keep c o (e0.hok.obj e) (Qg hc') (nfr c hc') (by simp)⟩),rv,q n2⟩
 ·exact ae hs (λ_ s'' z=>HK e0 hcs z) λe' s'' z=>HK e0 hcs z
def ZOI(K:zZ)(b:aj)(e:Sp)(q:Nat)(f:aj)(j i:Nat)(g:TS):TS:=λD a H=>a[q]? = some (some (.ref f))/\(∃ d:ao,H f=some (XH f { cls:=.type "function",data:=.func d }))/\e [] H (λv c=>D.nx (a.set j (some v)) c) (EF K b i g D a)
def AG{X:Cx}{k:Nat}{f CB:aj}{fd:ao}{sp:Sp}{x y n:Str}{p P Q py ph c9:aK}{j i q:Nat}{n0:Str}{p0:aK}{l:aC}{b:jL}{ts:TS}(F:ZH X.prog X.w X.K X.mg X.base (Zg X.prog X.w) k f fd [] sp)(hr:Zc k X.A)(hb:∀ s,BindsTo s fd ⟨[],[]⟩ [])(Y:X.N[q]? = some x)(hv:Mc X.env.scope x)(a3:X.stack=X.env::X.outer)(c3:X.env.frame=some X.env.locals)(c2:X.ex=[])(hy:Gl X y)(c7:X.mg y=some (.ref CB))(hN:X.N.Nodup)(hi:X.N[i]? = some n)(hn:X.env.scope.names.lookup n=some .local)(ht:yM X.K (.ref CB)=some (.type "type"))(hB:zE X.K CB (.type "BaseException")=some true)(hs:∀ d E',Wf (X.held d E') (l::b) ts)(hj:X.N[j]? = some n0)(a2:X.env.scope.names.lookup n0=some .local)(c0:(x==("__debug__" : Str))=false:=by decide)(a9:(x==("__classdict__" : Str))=false:=by decide)(c1:(y==("__debug__" : Str))=false:=by decide)(c6:aF (.Call (.Name x p) [] [] P) (some (.Name n0 p0)) Q.line X.env=pure false:=by rfl):
  PS X (.Try [.Assign [.Name n0 p0] (.Call (.Name x p) [] [] P) Q] [.ExceptHandler (some (.Name y py)) (some n) (l::b) ph] [] [] c9) (ZOI X.K CB sp q f j i ts):=by
 intro a s σ H D I h;refine wpAny_Try_except ?_;let c4:X.A.frames=some (X.env::X.outer):=by rw[I.ok.frames,a3]
 let a0:∀(M:Hp)(s1:al)(E:ai)(t:al),ZI X a σ M s1->Zg X.prog X.w X.stack M s1 (EF X.K CB i ts D σ) E t ->
   aB (aA X.prog X.w) X.A (noteFrame E X.env) (λ_ G=>aB (aA X.prog X.w) X.A (setFlight E none) (λ_ L=>aB (aA X.prog X.w) X.A (handleBy E X.env [.ExceptHandler (some (.Name y py)) (some n) (l::b) ph]) (SP X a D) X.xe L) X.xe G) X.xe t:=by
  intro M s1 E t g hx;let⟨d,cls,od,H',rfl,W,C,rfl,mC,q⟩:=hx;let⟨B,fl,Z2,a5,a4⟩:=W.ex;let a8:Xd B (X.env::X.outer) d (.ref C) od .none t.heap:=by rw[<-a3];exact fl
  refine No c4 c3 a8 λh4 V a6=>?_;refine Qn (s:={ t with heap:=h4 }) V λh5 U a7=>?_;let J5:ZI X a σ H' { t with heap:=h5 }:=NL g W Z2 a5 a4 U.1 (a6.trans a7);refine wpAny_handleBy_cons (codeAny_handlers_test ?_) (by intro q;cases q)
  refine Q1 (J5.held d (λ_ _=>False)) hy c7 ?_ c1;refine Kh (s:={ t with heap:=h5 }) J5.kIn U.at.is ht hB mC ?_;refine codeAny_handlers_suite_as ?_;refine Qn (s:={ t with heap:=h5 }) U λh6 fl6 e1=>?_;let J6:ZI X a σ H' { t with heap:=h6 }:=NL g W Z2 a5 a4 fl6.1 ((a6.trans a7).trans e1);let n0:X.s₀.heap.get? d=none:=by
   cases z:X.s₀.heap.get? d with
   | none=>rfl
   | some o=>
    let⟨o',q'⟩:=g.base.there d o z (by rw[c2];simp)
    rw[W.new] at q';cases q'
  let n1:d≠X.env.locals:=λz=>by
   let⟨m,⟨o,_,_,O,_⟩,_⟩:=g.loc;rw[<-z,W.new] at O;cases O
  let n2:∀ x c,X.env.cells.lookup x=some c->c≠d:=λx c e z=>by
   let⟨v,o,O,_⟩:=g.cell x c e;rw[z,W.new] at O;cases O
  let n3:∀ p∈X.pn++a,p.1≠d:=λp hp z=>by
   let O:=(g.pin p hp).1;rw[z,W.new] at O;cases O
  let K6:ZI X a σ (upd H' d (XO PL d C od)) { t with heap:=h6 }:=J6.track n0 n1 n2 n3 W.free (IC fl6.at);refine Lf K6 hN hi (.inl hn) (v:=.ref d) Z (λs7 I7=>?_) (.inr hn);refine ae (hs d _ a s7 _ _ _ (I7.held d _) (q d W.free)) (λfl s8 h8=>?_) λ_ _ z=>z
  cases fl with
  | next=>
   let⟨a1,R,T,q8⟩:=h8;exact(T.unheld g.ok).goes hN hi hn λs9 S=>⟨_,R,S,q8⟩
  | brk=>
   let⟨a1,R,T,q8⟩:=h8;exact(T.unheld g.ok).goes hN hi hn λs9 S=>⟨_,R,S,q8⟩
  | cont=>
   let⟨a1,R,T,q8⟩:=h8;exact(T.unheld g.ok).goes hN hi hn λs9 S=>⟨_,R,S,q8⟩
  | ret u=>
   let⟨v8,a1,R,T,r8,q8⟩:=h8;exact(T.unheld g.ok).goes hN hi hn λs9 S=>⟨v8,_,R,S,r8,q8⟩
 let⟨c8,⟨e2,hf⟩,c5⟩:=h;refine wpAny_execs_cons (wpAny_Assign_Name ?_ c6);let I':=I.wish (λE t=>aB (aA X.prog X.w) X.A (noteFrame E X.env) (λ_ G=>aB (aA X.prog X.w) X.A (setFlight E none) (λ_ L=>aB (aA X.prog X.w) X.A (handleBy E X.env [.ExceptHandler (some (.Name y py)) (some n) (l::b) ph]) (SP X a D) X.xe L) X.xe G) X.xe t);let e0:∀ E',PE (X.wish E') (.Name x p) (Y7 q):=λE'=>EC (X:=X.wish E') Y hv c0 a9;refine ag (Z5 (e0 _ a s σ H (λv M=>v=.ref f/\M=H) I' ⟨_,c8,rfl,rfl⟩) ?_);rintro u s1 ⟨v,M,g,r,E,eH⟩;subst E;subst eH;cases r;let gf:=g.hok.obj hf;refine PySem.W.callWith_F0 ⟨_,_,_,_,gf⟩ ?_;refine wpAny_call (codeAny_mono (F.run X.A X.stack s1 M ⟨[],[]⟩ [] [] _ _ hr g.unwish.env0 (hb s1) .nil c5) λrr t Y=>?_)
 cases rr with
 | error E=>exact a0 M s1 E t g.unwish Y
 | ok fl=>
  cases fl with
  | ret u=>
   let⟨v,H2,J,rv,q2⟩:=g.unwish.after Y;exact Lf J hN hj (.inl a2) rv (λs2 I2=>wpAny_execs_nil (wpAny_execs_nil ⟨_,H2,I2,q2⟩)) (.inr a2)
  | next=>exact False.elim Y
  | brk=>exact False.elim Y
  | cont=>exact False.elim Y
def ZH8{e:ai}{env env':Env}(h:env.frame=env'.frame):noteFrame e env=noteFrame e env':=by
 unfold noteFrame PySem.frameOf;rw[h]
section
variable{M:Model}
end
def GM{a h f:aD}:∀{l:jA},h.FunFrames a l->(∀ b∈frs l,f.get? b=h.get? b)->f.FunFrames a l
 | [],_,_=>trivial
 | c::l,⟨hk,⟨L,o,hf,hn,ho,hd⟩,hr⟩,k=>⟨hk,⟨L,o,hf,hn,(k L (xU.mpr ⟨c,zK,hf⟩)).trans ho,hd⟩,GM hr λb d=>k b (by
   let⟨e,g,d⟩:=xU.mp d;exact xU.mpr ⟨e,zI _ g,d⟩)⟩
section
variable{jW:js}{σ:St}{H:Hp}{E E1:XK}
end
section
variable{M:Model}{B:aD}{env:Env}{outer l:jA}{L e:aj}{cls:ai}{od:jv}{Q:Unit->al->Prop}
def ZM2{H:ai}{i:jv}(x:Xd B l e cls od H s.heap)(h:∀ k,Xd B l e cls od (i.elim .none λf=>rawInt f) k->s.heap.UpToSlots k->Q () { s with heap:=k }):aB M A (setFlight (.ref e) i) Q E s:=by
 let⟨J,F,G,I,N,T,P,v,⟨t,y,C,r,w⟩,m,p,j,g,K,D⟩:=x;let u:3<v.size:=(wO.mp K).1;let a:∀ b,b≠T->(s.heap.update T (Obj.mapFields (·.setIfInBounds 3 (i.elim Value.none λf=>rawInt f)))).get? b=s.heap.get? b:=λb n=>yD _ _ n.symm;let c:∀ b o,s.heap.get? b=some o->(∀ O,o.data≠.fields O)->b≠T:=λb o q d z=>by
  rw[z,j] at q;cases q;exact d v g
 unfold setFlight;refine aa (wpAny_field t r w ?_);rw[aQ (show (Value.ref T != Value.none)=true by simp)]
 refine wpAny_setField j g u (h _ ⟨λb o q=>(a b λz=>by rw[z,m] at q;cases q).trans (J b o q),F,G.of_keeps λb o q d=>⟨o,(a b (c b o q d)).trans q,Z⟩,?_⟩ λb o q d=>⟨o.slots,(a b (c b o q d)).trans q⟩)
 exact⟨I,N,T,_,_,⟨(a e p.symm).trans t,y,C,r,w⟩,m,p,wV _ j (Obj.isFreed_of_fields (Obj.data_mapFields g _)),Obj.data_mapFields g _,by simp[u],D⟩
def C9{u:ai}(S:A.frames=some (env::outer))(r:env.frame=some L)(x:Xd B (env::outer) e cls od u s.heap)(h:∀ d,Xd B outer e cls od .none d->s.heap.UpToSlots d->Q () { s with heap:=d }):aB M A (leaving env (.ref e)) Q E s:=by
 by_cases K:u=rawInt L
 ·subst K;let x0:=x;let⟨N,I,J,X,vs,T,W,w,⟨k,F,G,j,p⟩,C,D,i,g,m,H⟩:=x;unfold leaving noteFrame;simp only[r];refine aa (aa (wpAny_field k j p ?_));rw[aQ (show (Value.ref T != Value.none)=true by simp)]
  refine aa (wpAny_field i g m ?_);rw[aQ (by simp)]
  exact ad (Qn x0 λd t y=>h d t.less y)
 ·let⟨N,I,J,X,vs,T,W,w,⟨k,F,G,j,p⟩,C,D,i,g,m,H⟩:=x;subst F G;let V:3<w.size:=(wO.mp m).1;let a:∀ b,b≠T->(s.heap.update T (Obj.mapFields (·.setIfInBounds 3 Value.none))).get? b=s.heap.get? b:=λb n=>yD _ _ n.symm;let c:∀ b o,s.heap.get? b=some o->(∀ ws,o.data≠.fields ws)->b≠T:=λb o q f z=>by
   rw[z,i] at q;cases q;exact f w g
  unfold leaving noteFrame;simp only[r];refine aa (aa (wpAny_field k j p ?_));rw[aQ (show (Value.ref T != Value.none)=true by simp)]
  refine aa (wpAny_field i g m ?_);rw[aP (show ¬ ((u==rawInt L)=true) from λz=>K (eq_of_beq z))];refine aa (wpAny_setField i g V ?_);refine Ki (s:={ s with heap:=_ }) S (J.of_keeps λb o q f=>⟨o,(a b (c b o q f)).trans q,Z⟩) r ((a e D.symm).trans k) (λb o q=>(a b λz=>by rw[z,C] at q;cases q).trans (N b o q)) I j (wO.mp p).1 H λd R u'=>?_
  refine Qn (s:={ s with heap:=d }) R λU t y=>h U t.less λb o q f=>?_;let⟨Y,O⟩:=u' b o ((a b (c b o q f)).trans q) f;let⟨v,P⟩:=y b { o with slots:=Y } O f;exact⟨v,P⟩
end
section
variable{jW:js}{σ:St}{H:Hp}{E E1:XK}
def BH{N:jq}{f:aE}{cl:jC}{fp:ju}{U:ai}{Q:ja}{R:Option (ai->Sem Unit)}{C:aj}(F:Vd X E)(hE:∀ cls o H,E1 cls o H->E cls o H)(I:ZI X jW σ H s)(hf:∀ b∈fp,VU X jW H b)(hC:s.heap.objs.size<=C):
  Vl (Zg X.prog X.w) (Ys X N f cl C s H fp (notedBy (aA X.prog X.w) X.A (compEnvC f cl C X.env) (λe L=>compPost (aA X.prog X.w) X.A X.xe R Q U C (.error e) L))) E1:=by
 intro pc l2 Hc sc e L Ic h;let⟨x,cls,od,H',rfl,W,q⟩:=h;let⟨B,fl,Z2,i0,e9⟩:=W.ex;let e8:(Ys X N f cl C s H fp (notedBy (aA X.prog X.w) X.A (compEnvC f cl C X.env) (λe L=>compPost (aA X.prog X.w) X.A X.xe R Q U C (.error e) L))).stack=X.env::X.outer:=F.stack;let fl:Xd B (X.env::X.outer) x cls od .none L.heap:=e8 ▸ fl;let a9:X.A.frames=some (X.env::X.outer):=by rw[I.ok.frames,F.stack]
 show aB (aA X.prog X.w) X.A (noteFrame (.ref x) (compEnvC f cl C X.env)) _ _ L;rw[ZH8 (env:=compEnvC f cl C X.env) (env':=X.env) rfl];refine No a9 F.frame fl λh4 a0 c4=>?_;let⟨m,hn,_⟩:=Ic.loc;let hn:sc.heap.Ns C m:=hn;let J:Hc C=none:=Ic.free;let c3:C∉frs X.stack:=λz=>by
  let⟨_,t,g,_⟩:=I.stack.mem z;exact absurd (zW g) (wD.mpr hC)
 let c0:h4.Ns C m:=by
  let⟨o,es,ep,S,r⟩:=hn;exact c4.ns ⟨o,es,ep,W.un.keep C o S J c3 (by simp),r⟩
 show compPost (aA X.prog X.w) X.A X.xe R Q U C (.error (.ref x)) { L with heap:=h4 }
 suffices hh:∃ m,h4.Ns C m/\∀ h',wG C h4 h'->∀ G:Env,G.locals=C->aB (aA X.prog X.w) X.A (PySem.passOn "comprehension.variables-let-go" (.ref x) G:Sem ai) (λ_ _=>False) X.xe { L with heap:=h' } by
  cases R with
  | none=>exact hh
  | some u=>exact hh
 exists m,c0;intro h5 sb G _;let⟨k1,k2,k3,k4⟩:=a0
 let' B':=vY B [C]
 let hB:∀ b o,B'.get? b=some o->B.get? b=some o/\b≠C:=λb o e=>by
  exists uJ _ e;intro z;have:B'.get? C=none:=sQ _ (by simp)
  rw[z,this] at e;cases e
 let O:∀ b o,B.get? b=some o->b≠C->B'.get? b=some o:=λb o e n=>sW _ e (by simpa using n)
 let i6:B'.StaysIn h5:=λb o e=>by
  let⟨j,n⟩:=hB b o e;exact(sb.2 b n).trans (k1 b o j)
 let c5:B'.get? x=none:=by
  cases z:B'.get? x with
  | none=>rfl
  | some o=>rw[(hB _ _ z).1] at k2;cases k2
 let i1:∀ b,B.get? b=none->B'.get? b=none:=λb z=>by
  cases y:B'.get? b with
  | none=>rfl
  | some o=>rw[(hB _ _ y).1] at z;cases z
 let M:∀ b o,h4.get? b=some o->b≠C->h5.get? b=some o:=λb o e n=>(sb.2 b n).trans e;let i7:B'.StaysIn B:=λb o e=>(hB b o e).1;let nC:∀ b∈frs (X.env::X.outer),b≠C:=λb i z=>c3 (by rw[F.stack];rw[<-z];exact i)
 let c6:h5.FunFrames B' (X.env::X.outer):=GM (PySem.W.funFrames_base i7 k3) λb i=>sb.2 b (nC b i);let a4:x≠C:=λz=>by
  let⟨o,es,ep,S,_⟩:=hn;rw[<-z,W.new] at S;cases S
 let⟨oe,vs,T,oT,ts,⟨he,a8,c8,hd,h1⟩,e0,c7,hT,Y,h3,cx⟩:=k4;let TC:T≠C:=λz=>by
  let⟨o,es,ep,S,c9,_⟩:=c0;rw[z,S] at hT;cases hT;rw[c9] at Y;cases Y
 let a6:Xd B' (X.env::X.outer) x cls od (rawInt X.env.locals) h5:=⟨i6,c5,c6,oe,vs,T,oT,ts,⟨M _ _ he a4,a8,c8,hd,h1⟩,i1 T e0,c7,M _ _ hT TC,Y,h3,cx.imp id λz C' t cd j k=>z C' t cd j (hB _ _ k).1⟩;unfold PySem.passOn;refine aa (wpAny_field (M _ _ he a4) hd h1 ?_);rw[aP (show ¬ ((Value.ref T==Value.none)=true) from by simp)]
 refine aa (ZM2 (s:={ L with heap:=h5 }) a6 λh6 a7 k4=>?_);refine wpAny_throw (F.xe _ _ ?_);refine C9 (s:={ L with heap:=h6 }) a9 F.frame a7 λh7 a5 i4=>?_;let a:=I.base;rw[F.ex] at a;let c:Un (frs X.stack) fp H Hc s.heap sc.heap:=Ic.base;let D:∀{b o},X.s₀.heap.get? b=some o->b∉fp:=fun{b o} e z=>by
  let⟨_,_,_,z3,_⟩:=hf b z;rw[F.ex] at z3;rcases z3 with z3 | z3
  ·simp at z3
  ·exact absurd (zW e) (wD.mpr z3)
 let K:∀{b o},X.s₀.heap.get? b=some o->b≠C:=fun{b o} e z=>by
  exact absurd (zW e) (wD.mpr (by rw[z];exact zC I.sz hC))
 let i5:∀ b o,L.heap.get? b=some o->(∀ vs,o.data≠.fields vs)->b≠C->∃ sl,h7.get? b=some { o with slots:=sl }:=λb o e a1 n=>by
  let⟨sl,e4⟩:=c4 b o e a1;let e5:=M b _ e4 n;let⟨l1,e6⟩:=k4 b _ e5 a1;let⟨i3,e7⟩:=i4 b _ e6 a1;exact⟨i3,e7⟩
 let l:∀ b o,X.s₀.heap.get? b=some o->X.H₀ b=none->b∉frs X.outer->B.get? b=some o/\H' b=none:=λb o e n i=>by
  let nb:=F.off I e i;let j:=a.keep b o e n i (by simp)
  let n1:=a.free b o e n (by simp)
  let k:=c.keep b o j n1 nb (D e);let n2:=c.free b o j n1 (D e);exact⟨i0 b o k n2 nb,W.un.free b o k n2 (by simp)⟩
 let v:∀ b o,X.s₀.heap.get? b=some o->b∉frs X.outer->∃ t,B.get? b=some t:=λb o e i=>by
  let nb:=F.off I e i;let⟨o1,j⟩:=a.there b o e (by simp)
  let⟨o2,k⟩:=c.there b o1 j (D e);exact e9 b o2 k nb
 let P:∀ b o,B.get? b=some o->b≠C->h7.get? b=some o:=λb o e n=>a5.1 b o (O b o e n);let p:∀ b o,X.s₀.heap.get? b=some o->X.H₀ b=none->b∈frs X.outer->(∃ sl,h7.get? b=some { o with slots:=sl })/\H' b=none:=λb o e n i=>by
  let⟨i2,j⟩:=a.slot b o e n i (by simp)
  let n1:=a.free b o e n (by simp)
  let V:b∈frs X.stack:=by rw[F.frs];exact zI _ i
  let⟨i9,k⟩:=c.slot b _ j n1 V (D e);let n2:=c.free b _ j n1 (D e);let⟨l0,e3⟩:=W.un.slot b _ k n2 V (by simp)
  let n3:=W.un.free b _ k n2 (by simp)
  let⟨_,t,g,d⟩:=I.stack.mem V;let a3:s.heap.get? b=some { o with slots:=i2 }:=j;rw[g] at a3;cases a3;let⟨sl,e7⟩:=i5 b _ e3 (λvs z=>d vs z) (K e);exact⟨⟨sl,e7⟩,n3⟩
 let i8:Un (frs X.outer) [] X.H₀ H' X.s₀.heap h7:={
  keep:=λb o e n i _=>P b o (l b o e n i).1 (K e)
  slot:=λb o e n i _=>(p b o e n i).1
  free:=λb o e n _=>by
   by_cases i:b∈frs X.outer
   ·exact(p b o e n i).2
   ·exact(l b o e n i).2
  there:=λb o e _=>by
   by_cases i:b∈frs X.outer
   ·let⟨⟨sl,z⟩,_⟩:=p b o e (I.ok.frf b i) i;exact⟨_,z⟩
   ·let⟨t,z⟩:=v b o e i;exact⟨t,P b t z (K e)⟩
  tups:=λb xs e=>W.un.tups b xs (c.tups b xs (a.tups b xs e))
  frzs:=λb o u e=>W.un.frzs b o u (c.frzs b o u (a.frzs b o u e))
  tbls:=λb ps e=>by
   let⟨m1,j⟩:=a.tbls b ps e;let⟨m2,k⟩:=c.tbls b _ j;let⟨m3,e3⟩:=W.un.tbls b _ k;exact⟨m1++m2++m3,by rw[e3,vJ,vJ,vJ]⟩ }
 let a2:∀ b,H' b≠none->b≠C:=λb n z=>by
  let⟨o,es,ep,S,_⟩:=hn;exact n (by rw[z];exact W.un.free C o S J (by simp))
 let c2:X.s₀.heap.get? x=none:=by
  cases z:X.s₀.heap.get? x with
  | none=>rfl
  | some o=>
   let⟨o1,j⟩:=a.there x o z (by simp)
   let⟨o2,k⟩:=c.there x o1 j (D z);rw[W.new] at k;cases k
 let c1:∀ b o,h7.get? b=some o->H' b≠none->B'.get? b=some o:=λb o e n=>by
  let⟨t,q'⟩:=W.hok.there n;let j:=Z2 b t q' n;let k:=P b t j (a2 b n);rw[e] at k;cases k;exact O b o j (a2 b n)
 exact⟨x,cls,od,H',Z,⟨⟨B',a5,c1,λb o e n i=>O b o (l b o e n i).1 (K e),λb o e i=>by
   let⟨t,z⟩:=v b o e i;exact⟨t,O b t z (K e)⟩⟩,(W.os.trans Ic.os).trans I.os,W.bare,i8,W.hok.keptT (λb o e n=>P b o (Z2 b o e n) (a2 b n)),c2,W.free⟩,hE _ _ _ q⟩
def Do{CX:Wu}{elt iter:Expr}{x:Str}{px:aK}{ifs:jx}{scope:aE}{cl:jC}{pos:aK}{ix:jo}{ys:jq}{tt:TT}{te:TE}{it:aj}{a:ju}{tn:Nat->aD->Prop}{J:It}{Q:VK}{E:ja}{RR:ai->aj->Result->al->Prop}{E1:XK}(hp:∀ D C:aj,s.heap.objs.size<=C->Vl CX (Ys X (x::ys) scope cl C s H a (notedBy (aA X.prog X.w) X.A (compEnvC scope cl C X.env) (λe M=>RR (.ref D) C (.error e) M))) E1)(hc:X.calm=true)(ht:∀ C s H a E,Pj (Ys X (x::ys) scope cl C s H a E) ifs tt)(he:∀ C s H a E,Vl CX (Ys X (x::ys) scope cl C s H a E) E1->PE (Ys X (x::ys) scope cl C s H a E) elt te)(sub:Ya X.env cl)(jk:scope.kind=.function)(hnd:(x::ys).Nodup)(hx:scope.names.lookup x=some .local)(jn:∀ y∈scope.names,y.2≠.cell)(hhas:∀ y,((relabel scope X.env).names.lookup y=some .cell\/(relabel scope X.env).names.lookup y=some .free)->∃ c,cl.lookup y=some c)(fo:YG X scope ix ys)(I:ZI X jW σ H s)(T:US X.prog X.w X.K (.Name x px) J a it tn)(st:tn 0 s.heap)(hf:∀ b∈a,VU X jW H b)(q:VO J σ ix tt te H Q)(hRR:∀ D C M t m,s.heap.objs.size<=C->ZI X jW σ t M->VU X jW t C->M.heap.Ns C m->Q (.ref D) t->RR (.ref D) C (.ok .next) M):
  aB (aA X.prog X.w) X.A (newList []) (λa0 l=>aB (aA X.prog X.w) X.A (newFunctionEnv scope X.env.globals cl [] X.env.qual none .none (some X.env)) (λO c0=>
   aH (aA X.prog X.w) X.A (.compStart (.ListComp elt [⟨.Name x px,iter,ifs,0⟩] scope pos) 0 (.ref it) a0 { O with scope:=relabel scope X.env }) (RR a0 O.locals) c0) E l) E s:=by
 refine wpAny_newObj_type (wpAny_newFunctionEnv jn (by intro y hy;simp at hy) (λk h f=>?_) jk)
 dsimp only at h f⊢;generalize R:s.heap.push { cls:=.type "list",dict:=none,data:=.seq ([]:jd).toArray }=j at h f⊢;let hC:j.objs.size=s.heap.objs.size+1:=by rw[<-R,vQ]
 let a2:s.heap.objs.size≠j.objs.size:=by rw[hC];exact zM (xV _)
 let v:s.heap.objs.size<=j.objs.size:=by rw[hC];exact xI _
 let below:∀ b,b<s.heap.objs.size->b≠j.objs.size/\b≠s.heap.objs.size:=λb g=>⟨by rw[hC];exact zM (vW g),zM g⟩
 let a6:∀ b o,s.heap.get? b=some o->k.get? b=some o:=λb o e=>f.extBut b o (below b (zW e)).1 (zQ _ (R ▸ zQ _ e));let F:∃ n,k.get? s.heap.objs.size=some { cls:=.type "list",data:=.seq ([]:jd).toArray n }:=⟨_,f.extBut _ _ a2 (zQ _ (R ▸ yO _ rfl))⟩;let⟨nD,F⟩:=F;let a3:∀ b∈a,VU X jW H b/\b<s.heap.objs.size:=λb g=>⟨hf b g,by let⟨o,e,_⟩:=T.obj 0 _ st b g;exact zW e⟩
 let c7:H s.heap.objs.size=none:=I.hok.fresh (zY _);let⟨W,⟨m0,w0⟩,c1⟩:=q _ c7;generalize hE:notedBy (aA X.prog X.w) X.A (compEnvC scope cl j.objs.size X.env) (λe M=>RR (.ref s.heap.objs.size) j.objs.size (.error e) M)=z;let c8:Vl CX (Ys X (x::ys) scope cl j.objs.size s H a z) E1:=hE ▸ hp s.heap.objs.size j.objs.size v;let a4:(relabel scope X.env).names.lookup x=some .local:=lookup_relabel_local hx;let I0:ZI (Ys X (x::ys) scope cl j.objs.size s H a z) [] (Ho σ ix) (upd H s.heap.objs.size (.lst [])) { s with heap:=k,toks:=s.toks+([]:jI).length }:=
  ZKW I a3 sub jk hhas fo (zY _) v a2 h a6 F
 let a7:tn 0 k:=T.keep _ _ _ st λb _ o e=>a6 b o e;let c5:∀ b∈a,upd H s.heap.objs.size (.lst []) b=none:=λb g=>by rw[ZU (below b (a3 b g).2).2];exact(hf b g).1
 let G:∀{t:Hp},(∀ b∈a,t b=none)->∀ b∈a,VU (Ys X (x::ys) scope cl j.objs.size s H a z) [] t b:=λhn b g=>
  ⟨hn b g,(I0.ok.exf b g).1,I0.ok.exfs b g,.inl g,(I0.ok.exf b g).2,λp hp=>absurd (show p∈([]:js) from hp) (by simp)⟩
 let P:∀ l:al,l={ s with heap:=k,toks:=s.toks+([]:jI).length } ->
   aH (aA X.prog X.w) X.A (.compLoop (.ListComp elt [⟨.Name x px,iter,ifs,0⟩] scope pos) 0 (.ref it) (.ref s.heap.objs.size) (compEnvC scope cl j.objs.size X.env)) (RR (.ref s.heap.objs.size) j.objs.size) l:=by
  rintro l rfl;refine GQ (λn M=>∃ i L t,ZI (Ys X (x::ys) scope cl j.objs.size s H a z) [] L t M/\(∃ o,L=o::ix.map λi=>(σ[i]?).join)/\tn i M.heap/\(∀ b∈a,t b=none)/\W i n t) ?_ m0 ⟨0,_,_,I0,⟨none,Z⟩,a7,c5,w0⟩;rintro n s3 ⟨i,V,H3,I3,⟨o3,a5⟩,a8,a1,w3⟩;rw[hE];rcases c1 i n H3 w3 with ⟨a9,qn⟩ | ⟨go,step⟩
  ·refine Z5 (T.done (Ys X (x::ys) scope cl j.objs.size s H a z) Z Z Z hc i [] s3 V H3 z I3 (G a1) a8 a9) ?_;rintro r s4 ⟨hr,Y⟩;subst hr;let⟨m4,c9,_⟩:=Y.loc;let Ix:ZI X jW σ H3 s4:=I.call' (s':=s4) (ch:=a) Y.os Y.base Y.hok Y.bare λb g=>by
    let⟨_,z1,_,z3,z4,z5⟩:=hf b g;exact⟨z3,z1,z4,z5⟩
   exact hRR _ _ s4 H3 m4 v Ix (I.fpOk v Y.free) c9 qn
  ·refine Z5 (T.item (Ys X (x::ys) scope cl j.objs.size s H a z) Z Z Z hc i [] s3 V H3 z I3 (G a1) a8 go) ?_;rintro r s4 ⟨u,hr,h4⟩;subst hr;refine Z5 h4 ?_;rintro _ s5 ⟨xv,H5,I5,r5,y5,U,c6⟩;let c3:=I5.pinned (G c6) (T.obj _ _ U);let B:∀{N:St}{H7:Hp}{s7:al}{S:Nat},ZI (Ys X (x::ys) scope cl j.objs.size s H a z) ([]++NA a s5.heap) N H7 s7->(∃ o,N=o::ix.map λi=>(σ[i]?).join)->S<n->W (i+1) S H7 ->
     ∃ m,m<n/\∃ i L t,ZI (Ys X (x::ys) scope cl j.objs.size s H a z) [] L t s7/\(∃ o,L=o::ix.map λi=>(σ[i]?).join)/\tn i s7.heap/\(∀ b∈a,t b=none)/\W i m t:=fun{N H7 s7 S} I7 e7 hm w7=>by
    refine⟨S,hm,i+1,N,H7,I7.unpinned,e7,T.keep _ _ _ U λb g o e=>(I7.pin (b,o) (yE _ (yE _ (Nf g e)))).1,λb g=>?_,w7⟩;let⟨o,e,d⟩:=T.obj _ _ U b g;exact(I7.pin (b,o) (yE _ (yE _ (Nf g e)))).2.1
   let hg:PG (Ys X (x::ys) scope cl j.objs.size s H a z) (.Name x px) (U0 0):=Qr hnd Z (.inl a4) (.inr a4);refine YO (hg _ s5 V H5 xv u (λc2 H6=>c2=NJ σ ix xv/\H6=H5) c3 r5 ⟨by rw[a5];rfl,Z⟩) λ_ s6 c2 H6 I6 e6 c4=>?_
   subst e6 c4;refine Z5 (ht _ _ _ _ _ _ s6 _ _ _ I6 (step xv _ y5)) ?_;rintro ok s7 ⟨H7,I7,q7⟩
   cases ok with
   | false=>
    rw[aP zS] at q7⊢;let⟨S,hm,w7⟩:=q7;exact B I7 ⟨_,Z⟩ hm w7
   | true=>
    rw[aQ rfl] at q7⊢;refine Z5 (he _ _ _ _ _ c8 _ s7 _ _ _ I7 q7) ?_;rintro y s8 ⟨yv,H8,I8,r8,e0,S,e8,z8,hm,w8⟩;refine YO (Uo _ s8 _ H8 (.ref s.heap.objs.size) [yv] (.ref s.heap.objs.size) [y] (λ_ H9=>W (i+1) S H9) I8 Z (.cons r8 .nil) ⟨_,e0,yv,Z,Z,e8,z8,w8⟩) λ_ s9 _ H9 I9 _ w9=>?_;exact B I9 ⟨_,Z⟩ hm w9
 exact codeAny_compStart_list (P _ Z) (T.self _ 0 _ _ _ a7 (P _ rfl))
def Gx{d c:Expr}{x:Str}{G:aK}{g:jx}{a:aE}{n:aK}{M:TI}{L:TT}{K:TE}(z:jo)(i:jq)(F:Vd X E)(hE:∀ cls o H,E1 cls o H->E cls o H)(hi:PI X (.Name x G) c M)(ht:∀ C s H f E,Pj (Ys X (x::i) a (WA X.env a.names []) C s H f E) g L)(he:∀ C s H f E,Vl (Zg X.prog X.w) (Ys X (x::i) a (WA X.env a.names []) C s H f E) E1->PE (Ys X (x::i) a (WA X.env a.names []) C s H f E) d K)(Y:YG X a z i)(hk:NV X.env a.names=true:=by rfl)(k:OX a x=true:=by rfl)(l:(x::i).Nodup:=by decide +kernel)(hs:∀ x,foldedSetIterable c X.env x=pure x:=by intro _;rfl):
  PE X (.ListComp d [⟨.Name x G,c,g,0⟩] a n) (Km M z L K):=by
 intro jW s σ H Q I h;let B:=MC k;let r:=JG I.ok hk;rw[eval_ListComp];refine wpAny_comprehension_free (use:=none) Z hs (Jr r) B.kind B.names (Z5 (hi jW s σ H _ I h) λv s1 h1=>Z5 h1 λa0 s2 h2=>?_);let⟨it,f,tn,J,H2,e,t,T,p,u,q2⟩:=h2;subst e;refine Do (RR:=λj C=>compPost (aA X.prog X.w) X.A X.xe none (EP X jW σ Q) j C) (E1:=E1) (λD C y=>BH F hE t u y) F.calm ht he (Id r) B.kind l B.own B.cell (KQ B.cell) Y t T p u q2 ?_;intro D C s' N m y O W hn q;refine⟨m,hn,λh' sb=>⟨.ref D,N,?_,Z,q⟩⟩;let⟨P,R,_,S,U,V⟩:=W;exact O.turned (t':=s'.toks) (λb o k e=>(sb.2 b k).trans e) P R S U V
end
section
variable{E:XK}
def Nd{x:Str}{C:aj}{S c l:aK}(F:Vd X E)(O:OwnCls x C [.type "ValueError",.type "Exception",.type "BaseException",.type "object"] "ValueError.__new__" X.mg X.base)(Q:yX X.K (.ref C)=true)(R:zE X.K C (.type "BaseException")=some true)(P:yM X.K (.ref C)=some (.type "type"))(L:Gl X x)(j:(x==("__debug__" : Str))=false:=by decide):
  PS X (.Raise (some (.Call (.Name x S) [] [] c)) none l) (λ_ _ H=>E (.ref C) none H):=by
 intro r s σ H D I h;let M:=I.ok.hd F.calm;rw[arm_exec_Raise];refine aa (ah ?_);refine EJ M R P (aa (ae ?_ (λv s3 A=>aa (ah (ad A))) λ_ _ z=>z));let i:=qX;let⟨tl,N,nm,q,bs,n,sn,V,Y,t,dd,k0,k1,k2,k3,k5,mN,B,G,k,T⟩:=O.obj;refine ag (Q1 I L O.bound ?_ j);refine sX I.kIn Q ?_;let⟨hp,g,d,tk,os⟩:=s;refine wpAny_call_exc_subU (rest:=[]) i i.hasB i (T.keeps I.bk) (I.bk _ _ B) (G.keeps I.bk) k (λw b e=>?_) (yT _);let⟨tt,u,e2,e3⟩:=e.there;let J:=I.newx (C:=C) (ea:=b) (h':=w) e.keeps e.new ⟨_,_,u,Z,Z,Z,Z,Z⟩;let p:H b=none:=by
  cases z:H b with
  | none=>rfl
  | some o=>
   let⟨U,m⟩:=I.hok.there (a:=b) (by rw[z];exact λy=>nomatch y)
   have:=e.new;rw[m] at this;cases this
 let f:X.s₀.heap.get? b=none:=by
  cases z:X.s₀.heap.get? b with
  | none=>rfl
  | some o=>
   let⟨U,m⟩:=I.base.there b o z (by rw[F.ex];simp)
   have:=e.new;rw[m] at this;cases this
 exact⟨b,none,Z,J.kIn,(J.hok b _ ZO).1,GS F (J.untrack p) f p (J.hok b _ ZO).1 h⟩
end
def Gj(K:zZ)(a:aj)(c:TS)(D:Yf)(d:St):XK:=λcls e b=>∃ C,cls=.ref C/\zE K C (.ref a)=some true/\c D d b
inductive OY(K:zZ)(e C:aj)(m:Str)(i:Sp)(t:TA)(j:TS)(D:Yf)(b:L2.St)(x:V)(c:Hp):Prop
 |mk(a h d:_)(_:x=.ref a)(_:c a=some (.ins C h d))(_:d.lookup m=none)(_:t b c λk f=>i (x::(k++[])) f (λ_ g=>D.nx b g) (Gj K e j D b))
def ZPj(K:zZ)(b C:aj)(m:Str)(d:Sp)(e:TE)(t:TA)(f:TS):TS:=λD a H=>e a H λx c=>OY K b C m d t f D a x c
def ZGc{X:Cx}{k:Nat}{f C CB:aj}{fd:ao}{ps:jq}{sp:Sp}{m y:Str}{jj ji epos py ph pos:aK}{o e:Expr}{es:jx}{ta:TE}{t:TA}{b₀:aC}{suite:jL}{ts:TS}{pl:Sem Bool}(he:∀ S,PE (X.wish S) o ta)(c:Vk X.K C)(hm:UL X.K C m f)(F:ZH X.prog X.w X.K X.mg X.base (Zg X.prog X.w) k f fd ps sp)(hr:Zc k X.A)(hb:YB X.K fd ps [])(ha:∀ S,PA (X.wish S) (e::es) t)(hst:X.stack=X.env::X.outer)(hfm:X.env.frame=some X.env.locals)(hy:Gl X y)(hyC:X.mg y=some (.ref CB))(ht:yM X.K (.ref CB)=some (.type "type"))(hB:zE X.K CB (.type "BaseException")=some true)(hs:∀ E S,Wf (X.held E S) (b₀::suite) ts)(hdy:(y==("__debug__" : Str))=false:=by decide)(hse:ar (e::es) X.env=(false,aI e X.env)::ar es X.env:=by rfl)(hpl:(aG ji (ar es X.env)).any (·.1)=false:=by rfl)(hev:aI (.Call (.Attribute o m jj) (e::es) [] ji) X.env=(do
   let ov<-aI o X.env
   standAt jj.atName
   let (f,first)<-holding [ov] (getMethod ov m pl)
   callWith ji f first (aG ji (ar (e::es) X.env)) (backToKw ji (keywordEach [] X.env))):=by rfl)(hsw:aF (.Call (.Attribute o m jj) (e::es) [] ji) none epos.line X.env=pure false:=by rfl):
  PS X (.Try [.Expr (.Call (.Attribute o m jj) (e::es) [] ji) epos] [.ExceptHandler (some (.Name y py)) none (b₀::suite) ph] [] [] pos) (ZPj X.K CB C m sp ta t ts):=by
 intro b s R H D I h;refine wpAny_Try_except ?_;let a5:X.A.frames=some (X.env::X.outer):=by rw[I.ok.frames,hst]
 let O:∀(T:Hp)(s1:al)(i:ai)(g:al),ZI X b R T s1->Zg X.prog X.w X.stack T s1 (Gj X.K CB ts D R) i g ->
   aB (aA X.prog X.w) X.A (noteFrame i X.env) (λ_ j=>aB (aA X.prog X.w) X.A (setFlight i none) (λ_ n=>aB (aA X.prog X.w) X.A (handleBy i X.env [.ExceptHandler (some (.Name y py)) none (b₀::suite) ph]) (SP X b D) X.xe n) X.xe j) X.xe g:=by
  intro T s1 i g p hx;let⟨E,cls,od,H',rfl,W,C,rfl,mC,q⟩:=hx;let⟨B,Y,Z2,a1,a0⟩:=W.ex;let a4:Xd B (X.env::X.outer) E (.ref C) od .none g.heap:=by rw[<-hst];exact Y
  refine No a5 hfm a4 λh4 N a2=>?_;refine Qn (s:={ g with heap:=h4 }) N λh5 M a3=>?_;let J5:ZI X b R H' { g with heap:=h5 }:=NL p W Z2 a1 a0 M.1 (a2.trans a3);refine wpAny_handleBy_cons (codeAny_handlers_test ?_) (by intro q;cases q)
  refine Q1 (J5.held E (λ_ _=>False)) hy hyC ?_ hdy;refine Kh (s:={ g with heap:=h5 }) J5.kIn M.at.is ht hB mC ?_;refine codeAny_handlers_suite ?_;refine Qn (s:={ g with heap:=h5 }) M λh6 fl6 a6=>?_;let J6:ZI X b R H' { g with heap:=h6 }:=NL p W Z2 a1 a0 fl6.1 ((a2.trans a3).trans a6);refine ae (hs E _ b _ _ _ _ (J6.held E _) q) (λY s8 h8=>?_) λ_ _ z=>z
  cases Y with
  | next=>
   let⟨d,G,L,P⟩:=h8;exact⟨d,G,L.unheld p.ok,P⟩
  | brk=>
   let⟨d,G,L,P⟩:=h8;exact⟨d,G,L.unheld p.ok,P⟩
  | cont=>
   let⟨d,G,L,P⟩:=h8;exact⟨d,G,L.unheld p.ok,P⟩
  | ret u=>
   let⟨v8,d,G,L,r8,P⟩:=h8;exact⟨v8,d,G,L.unheld p.ok,r8,P⟩
 let I':=I.wish (λi g=>aB (aA X.prog X.w) X.A (noteFrame i X.env) (λ_ j=>aB (aA X.prog X.w) X.A (setFlight i none) (λ_ n=>aB (aA X.prog X.w) X.A (handleBy i X.env [.ExceptHandler (some (.Name y py)) none (b₀::suite) ph]) (SP X b D) X.xe n) X.xe j) X.xe g);refine wpAny_execs_cons (wpAny_Expr_any ?_ I.quiet hsw);refine uA (pl:=pl) (Z5 (he _ b s R H _ I' h) λu s1 ⟨x,T,p,rx,a,dx,fs,ex,E,l,q⟩=>?_) hev;subst ex;obtain rfl:u=Value.ref a:=rx;refine Ll p.unwish E c hm l ?_;refine wI (first:=[.ref a]) (h₀:=X.base) I.ok.mod.kin hm.kp (YO (ha _ ji b s1 R T _ p q) λQ s2 vs H2 U r q2=>⟨U.kIn,?_⟩) hse hpl
 let r2:ZR (V.ref a::(vs++[])) (Value.ref a::(Q++[])):=.cons Z (r.append .nil);let hl:(Value.ref a::Q++[]).length=ps.length:=by rw[show Value.ref a::Q++[]=Value.ref a::(Q++[]) from rfl,<-r2.length];exact F.len _ _ _ _ q2
 refine wpAny_call (codeAny_mono (F.run X.A X.stack s2 H2 ⟨.ref a::Q,[]⟩ (.ref a::Q++[]) (.ref a::(vs++[])) _ _ hr U.unwish.env0 (hb s2 (.ref a::Q) U.kIn hl) r2 q2) λrr g hq=>?_)
 cases rr with
 | error i=>exact O H2 s2 i g U.unwish hq
 | ok Y=>
  cases Y with
  | ret u=>
   let⟨v,H3,J,rv,q3⟩:=U.unwish.after hq;exact wpAny_execs_nil (wpAny_execs_nil ⟨R,H3,J,q3⟩)
  | next=>exact False.elim hq
  | brk=>exact False.elim hq
  | cont=>exact False.elim hq
end L2
namespace Tw
open PySem PySem.Spec L2 PyProof.Rows
variable{jg jh CS CT CH CK CP CB:aj}
structure ZA(P:am)(w:aw)(K:zZ)(mg:jb)(jX:aD)(CX:Wu)(k:Nat)(C:aj)(m:Str)(ps:jq)(sp:Sp):Prop where
 ex:∃ f fd,UL K C m f/\ZH P w K mg jX CX k f fd ps sp/\YB K fd ps []
def YL{X:Cx}{j:Wu}{k:Nat}{C:aj}{m:Str}{x:jq}{l:Sp}{E:XK}{o e:Expr}{g:jx}{n:TE}{t:TA}{a d:aK}{v:Sem Bool}(q:PE X o n)(c:Vk X.K C)(D:ZA X.prog X.w X.K X.mg X.base j k C m x l)(r:Zc k X.A)(u:Vl j X E)(p:PA X (e::g) t)(i:ar (e::g) X.env=(false,aI e X.env)::ar g X.env:=by rfl)(h:(aG a (ar g X.env)).any (·.1)=false:=by rfl)(s:aI (.Call (.Attribute o m d) (e::g) [] a) X.env=(do
   let ov<-aI o X.env
   standAt d.atName
   let (f,first)<-holding [ov] (getMethod ov m v)
   callWith a f first (aG a (ar (e::g) X.env)) (backToKw a (keywordEach [] X.env))):=by rfl):
  PE X (.Call (.Attribute o m d) (e::g) [] a) (Lc C m l [] E n t):=by
 let⟨f,y,M,F,b⟩:=D.ex;exact Bf q c M F r b .nil u p i h s
def NY{X:Cx}{e:Wu}{k:Nat}{C:aj}{m:Str}{q:jq}{g:Sp}{E:XK}{o:Expr}{h:TE}{d a:aK}{p:Sem Bool}(i:PE X o h)(c:Vk X.K C)(D:ZA X.prog X.w X.K X.mg X.base e k C m q g)(j:Zc k X.A)(n:Vl e X E)(l:aI (.Call (.Attribute o m a) [] [] d) X.env=(do
   let ov<-aI o X.env
   standAt a.atName
   let (f,first)<-holding [ov] (getMethod ov m p)
   callWith d f first (aG d (ar [] X.env)) (backToKw d (keywordEach [] X.env))):=by rfl):
  PE X (.Call (.Attribute o m a) [] [] d) (Lc C m g [] E h Y0):=by
 let⟨f,r,M,F,b⟩:=D.ex;exact Ci i c M F j b .nil n l
abbrev KZ:Stmt:=Xy (top 27) 0
abbrev Ku:Stmt:=Xy (top 35) 0
abbrev JZ:Stmt:=Xy (top 35) 1
abbrev Kc:Stmt:=Xy (top 35) 3
abbrev Ms:Stmt:=Xy (top 35) 7
abbrev LJ:Stmt:=Xy (top 35) 8
abbrev Lm:Stmt:=Xy (top 35) 9
abbrev Mg:Stmt:=Xy (top 35) 12
abbrev Ng:Stmt:=Xy (top 35) 13
abbrev IR:Stmt:=Xy (top 35) 16
abbrev Kx:Stmt:=Xy (top 35) 17
abbrev LV:Stmt:=Xy (top 35) 18
abbrev Ma:Stmt:=Xy (top 35) 23
structure YT(K:zZ)(mg:jb)(jg jh:aj):Prop where
 shelf:mg "Shelf" = some (.ref jg)
 twig:mg "Twig" = some (.ref jh)
 cS:Vk K jg
 cT:Vk K jh
 nk:YJ K jg "kept"
 nf:YJ K jg "following"
 nl:YJ K jg "looks"
 nth:YJ K jh "things"
 ntg:YJ K jh "tag"
 nab:YJ K jh "above"
 nho:YJ K jh "holds"
abbrev Qp(d a:aj)(n:Nat):List (Str×V):=[("kept",.ref d),("following",.int n),("looks",.ref a)]
abbrev QA(d c:V)(a:aj)(b:Nat):List (Str×V):=[("things",d),("tag",c),("above",.ref a),("holds",.int b)]
structure Yw(jg:aj)(H:Hp)(S d lk:aj)(n:Nat)(kvs:List (ZW×V))(ls:je):Prop where
 self:∃ dx,H S=some (.ins jg dx (Qp d lk n))
 kept:H d=some (.dK kvs)
 looks:H lk=some (.lst ls)
structure Wv(jh:aj)(H:Hp)(x:aj)(th tg:V)(ab:aj)(ho:Nat)(us:je):Prop where
 self:∃ dx,H x=some (.ins jh dx (QA th tg ab ho))
 above:H ab=some (.lst us)
def Yw.same{a:aj}{H c:Hp}{S d f:aj}{n:Nat}{b:List (ZW×V)}{g:je}(h:Yw a H S d f n b g)(s:ZD H c):Yw a c S d f n b g:=by
 let⟨⟨i,e⟩,j,k⟩:=h;exact⟨⟨i,s _ _ e⟩,s _ _ j,s _ _ k⟩
def Wv.same{a:aj}{H b:Hp}{x:aj}{g f:V}{c:aj}{d:Nat}{i:je}(h:Wv a H x g f c d i)(s:ZD H b):Wv a b x g f c d i:=by
 let⟨⟨j,e⟩,k⟩:=h;exact⟨⟨j,s _ _ e⟩,s _ _ k⟩
inductive Qk(jh:aj)(h:je)(H:Hp)(Q:VK)(_:XK):Prop
 |mk(x g:aj)(e d:V)(_:h=[.ref x,e,d])(_:H x=some (.ins jh g []))(_:∀(a:Hp)(c:aj),(∀ b o,b≠x->H b=some o->a b=some o)->H c=none->Wv jh a x e d c 1 []->Q .non a)
def ZPY:ZB zEx zEx (Zf KZ):=YA
def BO(F:Zn K "__init__" "Twig.__init__" KZ f fd)(L:YT K mg jg jh):ZH P w K mg jX Zd 1 f fd zEx (Qk jh):=by
 refine F.ko ZPY λl A j s H u Q E q h=>?_;let⟨x,d,t,r,rfl,m,k⟩:=h;intro p;exists _,ZP (Pb (pv 0) (pv 1) Z) (ZP (Pb (pv 0) (pv 2) rfl) (ZP (Pb (pv 0) (Yp Zw) rfl) (ZV (Pb (pv 0) ZJ rfl))));exists _,Z,_,Z,x,jh,d,_,Z,m,L.cT,L.nth,zA Z;exists _,Z,_,Z,x,jh,d,_,Z,ZO,L.cT,L.ntg,zA Z;exists Zu;intro i a;rw[M5] at a⊢;let c:x≠i:=λz=>by rw[<-z,ZO] at a;cases a
 let g:H i=none:=by rw[ZU (Ne.symm c)] at a;exact a
 exists _,Z,x,jh,d,_,Z,(by rw[ZU c];exact ZO),L.cT,L.nab,zA Z
 exists _,Z,x,jh,d,_,Z,ZO,L.cT,L.nho,zA Z;refine k _ i (λb o n e=>?_) g ⟨⟨d,ZO⟩,?_⟩
 ·rw[M5,ZU n,ZU (Za e g),ZU n];exact e
 ·rw[M5,ZU (Ne.symm c)];exact ZO
inductive QP(jg:aj)(g:je)(H:Hp)(Q:VK)(_:XK):Prop
 |mk(x e:aj)(_:g=[.ref x])(_:H x=some (.ins jg e []))(_:∀(a:Hp)(d c:aj),(∀ b o,b≠x->H b=some o->a b=some o)->H d=none->H c=none->d≠c->Yw jg a x d c 0 [] []->Q .non a)
def B5:ZB zEi zEi (Zf Ku):=YA
def Bu(F:Zn K "__init__" "Shelf.__init__" Ku f fd)(L:YT K mg jg jh):ZH P w K mg jX Zd 1 f fd zEi (QP jg):=by
 refine F.ko B5 λu A p s H B Q E y h=>?_;let⟨x,j,rfl,t,k⟩:=h;intro v;exists _,ZP (Pb (pv 0) Kq Z) (ZP (Pb (pv 0) ZJ rfl) (ZV (Pb (pv 0) (Yp Zw) rfl)));intro d m;let q:x≠d:=Za t m;exists _,Z,x,jg,j,_,Z,(by rw[ZU q];exact t),L.cS,L.nk,zA Z
 exists _,Z,x,jg,j,_,Z,ZO,L.cS,L.nf,zA Z;exists Zu;intro g c;rw[M5] at c⊢;let r:x≠g:=λz=>by rw[<-z,ZO] at c;cases c
 let a:upd H d (.dK []) g=none:=by rw[ZU (Ne.symm r)] at c;exact c
 let l:d≠g:=λz=>by rw[<-z,ZO] at a;cases a
 let i:H g=none:=by rw[ZU (Ne.symm l)] at a;exact a
 exists _,Z,x,jg,j,_,Z,(by rw[ZU r];exact ZO),L.cS,L.nl,zA Z
 refine k _ d g (λb o n e=>?_) m i l ⟨⟨j,ZO⟩,?_,?_⟩
 ·rw[ZU n,ZU (Za e i),ZU n,ZU (Za e m)];exact e
 ·rw[ZU (Ne.symm q),ZU l,ZU (Ne.symm q)];exact ZO
 ·rw[ZU (Ne.symm r)];exact ZO
inductive Z4(jg:aj)(g:je)(H:Hp)(Q:VK)(_:XK):Prop
 |mk(S d c:aj)(n:Nat)(a:List (ZW×V))(e:je)(i:Int)(b:V)(_:g=[.ref S,.int i])(_:Yw jg H S d c n a e)(_:YR a (.inl i)=some b)(_:Q b H)
def Fk:ZB zEa zEa (Zf LV):=YA
def Aj(F:Zn K "twig_of" "Shelf.twig_of" LV f fd)(L:YT K mg jg jh):ZH P w K mg jX Zd 1 f fd zEa (Z4 jg):=by
 refine F.ko Fk λl A a s H x Q E o h=>?_;let⟨S,d,u,n,q,v,i,b,rfl,⟨⟨c,e⟩,m,t⟩,p,k⟩:=h;let j:=UC o;intro r;exists _,ZP (Zo (Qq (J7 j (pv 1) (WC (pv 0) rfl))) Xa Zt) (ZV (Zl (Vg j (WC (pv 0) rfl) (pv 1))));let g:YD H d (.int i) (some b):=p ▸ YD.k (k:=Sum.inl i) m;refine⟨_,Z,_,Z,S,jg,c,_,.ref d,Z,e,L.cS,L.nk,Z,d,some b,Z,g,_,Z,Zm ?_⟩;exact⟨_,Z,S,jg,c,_,.ref d,Z,e,L.cS,L.nk,Z,_,Z,d,b,Z,g,k⟩
structure Ut(P:am)(w:aw)(K:zZ)(mg:jb)(jX:aD)(k:Nat)(C:aj)(ps:jq)(sp:Sp):Prop where
 ex:∃ f fd,Mk K C f/\ZH P w K mg jX Zd k f fd ps sp/\YB K fd ps []
structure MG(jg jh:aj)(H:Hp)(S d lk:aj)(n:Nat)(kvs:List (ZW×V))(ls:je)(i:Int)(x:aj)(th tg:V)(ab:aj)(ho:Nat)(us:je):Prop where
 sh:Yw jg H S d lk n kvs ls
 val:YR kvs (.inl i)=some (.ref x)
 tw:Wv jh H x th tg ab ho us
inductive X0(jg jh:aj)(res:V->Nat->je->V)(l:je)(H:Hp)(Q:VK)(_:XK):Prop
 |mk(S d h:aj)(n:Nat)(a:List (ZW×V))(j:je)(i:Int)(x:aj)(k c:V)(g:aj)(b:Nat)(e:je)(_:l=[.ref S,.int i])(_:MG jg jh H S d h n a j i x k c g b e)(_:Q (res c b e) H)
def F0:ZB zEa zEa (Zf LJ):=YA
def AS(F:Zn K "outside" "Shelf.outside" LJ f fd)(L:YT K mg jg jh)(e:ZA P w K mg jX Zd 1 jg "twig_of" zEa (Z4 jg)):ZH P w K mg jX Zd 2 f fd zEa (X0 jg jh λ_ a _=>.int a):=by
 refine F.ko F0 λg A c s H B Q E o h=>?_;let⟨S,d,q,n,b,r,i,x,y,v,u,a,z,rfl,R,k⟩:=h;intro t;exists _,ZV (Zl (WC (YL (E:=E0) (pv 0) L.cS e o XJ (ZT (pv 1))) rfl));let⟨l,m⟩:=R.sh.self;let⟨j,p⟩:=R.tw.self;exact⟨_,Z,S,l,_,Z,m,Z,_,Z,S,d,q,n,b,r,i,.ref x,Z,R.sh,R.val,x,jh,j,_,.int a,Z,p,L.cT,L.nho,Z,k⟩
def FW:ZB zEa zEa (Zf Ng):=YA
def ZKw(F:Zn K "label" "Shelf.label" Ng f fd)(L:YT K mg jg jh)(e:ZA P w K mg jX Zd 1 jg "twig_of" zEa (Z4 jg)):ZH P w K mg jX Zd 2 f fd zEa (X0 jg jh λc _ _=>c):=by
 refine F.ko FW λg A b s H B Q E o h=>?_;let⟨S,d,q,n,a,r,i,x,y,c,u,v,z,rfl,R,k⟩:=h;intro t;exists _,ZV (Zl (WC (YL (E:=E0) (pv 0) L.cS e o XJ (ZT (pv 1))) rfl));let⟨l,m⟩:=R.sh.self;let⟨j,p⟩:=R.tw.self;exact⟨_,Z,S,l,_,Z,m,Z,_,Z,S,d,q,n,a,r,i,.ref x,Z,R.sh,R.val,x,jh,j,_,c,Z,p,L.cT,L.ntg,Z,k⟩
def XR:ZB zE7 zEa (Zf Ms):=YA
def ZHx(F:Zn K "holders" "Shelf.holders" Ms f fd)(T:YY mg)(L:YT K mg jg jh)(m:ZA P w K mg jX Zd 1 jg "twig_of" zEa (Z4 jg)):ZH P w K mg jX Zd 2 f fd zEa (X0 jg jh λ_ a e=>.int ((e.length:Nat)+(a:Nat):Int)):=by
 refine F.ko XR λo A c s H C Q E r h=>?_;let⟨S,d,t,n,b,u,i,x,B,z,g,a,e,rfl,R,k⟩:=h;let v:=XR.nd;intro y;exists _,ZP (Zx 2 v (YL (E:=E0) (pv 0) L.cS m r XJ (ZT (pv 1)))) (ZV (Zl (Z1 WJ (Zq WK rfl T.len Xu (ZT (WC (pv 2) rfl))) (WC (pv 2) rfl))));let⟨p,q⟩:=R.sh.self;let⟨j,l⟩:=R.tw.self;exists _,Z,S,p,_,Z,q,Z,_,Z,S,d,t,n,b,u,i,.ref x,Z,R.sh,R.val;exact⟨_,Z,x,jh,j,_,.ref g,Z,l,L.cT,L.nab,Z,g,e,Z,.inl (ZM.of R.tw.above),_,Z,x,jh,j,_,.int a,Z,l,L.cT,L.nho,Z,_,_,Z,Z,k⟩
inductive Xb(jh:aj)(g:je)(H:Hp)(Q:VK)(_:XK):Prop
 |mk(x:aj)(d:V)(a b:aj)(c:Nat)(e:je)(h:Int)(i:je)(_:g=[.ref x])(_:Wv jh H x d (.ref a) b c e)(_:H a=some (.tup (.int h::i)))(_:Q (.bl (decide (h > 0))) H)
def CQ:ZB zFb zFb (Zf JS):=YA
def AU(F:Zn K "is_stem" "is_stem" JS f fd)(T:YY mg)(L:YT K mg jg jh):ZH P w K mg jX Zd 1 f fd zFb (Xb jh):=by
 refine F.ko CQ λc A a s H u Q E p h=>?_;let⟨x,r,b,n,o,t,e,y,rfl,W,g,k⟩:=h;let⟨q,l⟩:=T.height;let⟨d,i⟩:=W.self;intro m;exists _,ZV (Zl (Vz PQ (Zs K (WC (pv 0) rfl) (Wn (v:=.int 0) rfl l ⟨_,rfl⟩)) ZJ (Zz _)));exact⟨_,Z,x,jh,d,_,.ref b,Z,i,L.cT,L.ntg,Z,.inr (.inl ⟨b,_,_,.int e,rfl,rfl,Zh.of g,X1 (j:=0) rfl,_,_,rfl,rfl,k⟩)⟩
inductive UT(jg jh:aj)(s:je)(H:Hp)(Q:VK)(_:XK):Prop
 |mk(S d c:aj)(n:Nat)(e:List (ZW×V))(j:je)(i:Int)(x k m l:aj)(r:Nat)(q p u:je)(h:Int)(_:s=[.ref S,.int i])(_:MG jg jh H S d c n e j i x (.ref k) (.ref m) l r q)(_:H k=some (.lst p))(_:H m=some (.tup (.int h::u)))(_:c≠k)(_:c≠l)(_:j.length<=900)(_:∀(a:Hp)(g t:aj),(∀ b o,b≠c->H b=some o->a b=some o)->a c=some (.lst (j++[.int i]))->H g=none->a g=some (.lst p)->a t=some (.tup [.str (if h > 0 then "stem" else "leaf"),.ref g])->Q (.ref t) a)
def VX:ZB zE7 zEa (Zf Mg):=YA
def ZNp(F:Zn K "look" "Shelf.look" Mg f fd)(T:YY mg)(L:YT K mg jg jh)(DT:ZA P w K mg jX Zd 1 jg "twig_of" zEa (Z4 jg))(DS:ZC P w K mg jX 1 "is_stem" zFb (Xb jh)):ZH P w K mg jX Zd 2 f fd zEa (UT jg jh):=by
 refine F.ko VX λa4 A a1 s H vs Q E hr h=>?_;let⟨S,d,j,n,W,p,i,x,J,tg,ab,ho,as,M,xs,U,rfl,R,V,C,Y,X,a3,k⟩:=h;let nd:=VX.nd;intro Xc;refine⟨_,ZP (Zx 2 nd (YL (E:=E0) (pv 0) L.cS DT hr XJ (ZT (pv 1))))
  (ZP (WB (V6 yL xO xN Uo (WC (pv 0) rfl) (ZT (pv 1))))
  (ZP (Zo (YU (Zr DS hr (ZT (pv 2)))) (ZV (Zl (Yg (Ze Yk (Vy Q9 rfl T.list QD (ZT (WC (pv 2) rfl))))))) Zt)
  (ZV (Zl (Yg (Ze Yk (Vy Q9 rfl T.list QD (ZT (WC (pv 2) rfl))))))))),?_⟩
 let⟨dx,hS⟩:=R.sh.self;let⟨O,hx⟩:=R.tw.self;exists _,Z,S,dx,_,Z,hS,Z,_,Z,S,d,j,n,W,p,i,.ref x,Z,R.sh,R.val;let l:=R.sh.looks;exists _,Z,S,jg,dx,_,.ref j,Z,hS,L.cS,L.nl,Z,.inl ⟨Z,_,ZM.of l⟩,_,Z,j,p,.int i,Z,Z,l,Ye ∅
 let G:∀ b o,b≠j->H b=some o->upd H j (.lst (p++[.int i])) b=some o:=λb o n e=>by rw[ZU n];exact e
 let a2:x≠j:=ZE hx l;let I:tg≠j:=ZE C l;let q:=G _ _ a2 hx;let D:=G _ _ I C;let u:=G _ _ (Ne.symm X) R.tw.above;let m:=G _ _ (Ne.symm Y) V;let v:upd H j (.lst (p++[.int i])) j=some (.lst (p++[.int i])):=ZO;let r:∀(w:Str)(c t:aj),upd H j (.lst (p++[.int i])) c=none->upd (upd H j (.lst (p++[.int i]))) c (.lst M) t=none->w=(if U > 0 then ("stem" : Str) else "leaf")->Q (.ref t) (upd (upd (upd H j (.lst (p++[.int i]))) c (.lst M)) t (.tup [.str w,.ref c])):=λw c t a B ew=>by
  let g1:=ZX a (.lst M);let g2:=ZX B (.tup [.str w,.ref c]);let g:=g1.trans g2;let a0:H c=none:=by
   cases z:H c with
   | none=>rfl
   | some o=>
    have:c≠j:=λy=>by rw[y,ZO] at a;cases a
    rw[ZU this,z] at a;cases a
  refine k _ c t (λb o n e=>g _ _ (G b o n e)) (g _ _ v) a0 (g2 _ _ ZO) ?_;rw[ZO,ew]
 exists _,Z,x,.ref J,tg,ab,ho,as,U,xs,Z,⟨⟨O,q⟩,u⟩,D,_,Z;by_cases N:U > 0
 ·rw[aO N];refine Z3 ⟨_,Z,x,jh,O,_,.ref J,Z,q,L.cT,L.nth,Z,J,M,Z,.inl (ZM.of m),λc a=>⟨Zu,λt B=>?_⟩⟩;exact r _ c t a B (by rw[aQ N])
 ·rw[aM N];refine Zm ⟨_,Z,x,jh,O,_,.ref J,Z,q,L.cT,L.nth,Z,J,M,Z,.inl (ZM.of m),λc a=>⟨Zu,λt B=>?_⟩⟩;exact r _ c t a B (by rw[aP N])
inductive UE(jg:aj)(e:je)(H:Hp)(Q:VK)(_:XK):Prop
 |mk(S d b:aj)(n:Nat)(a:List (ZW×V))(c:je)(_:e=[.ref S])(_:Yw jg H S d b n a c)(_:Q (.int a.length) H)
def El:ZB zEi zEi (Zf Kx):=YA
def Et(F:Zn K "many" "Shelf.many" Kx f fd)(T:YY mg)(L:YT K mg jg jh):ZH P w K mg jX Zd 1 f fd zEi (UE jg):=by
 refine F.ko El λc A b s H o Q E j h=>?_;let⟨S,d,l,n,a,m,rfl,R,k⟩:=h;let⟨e,g⟩:=R.self;intro i;exists _,ZV (Zl (Zq J0 rfl T.len Xu (ZT (WC (pv 0) rfl))));exact⟨_,Z,S,jg,e,_,.ref d,Z,g,L.cS,L.nk,Z,d,a,Z,R.kept,k⟩
inductive Xw(jg:aj)(g:je)(H:Hp)(Q:VK)(_:XK):Prop
 |mk(S d c:aj)(n:Nat)(a:List (ZW×V))(e:je)(b:jw)(_:g=[.ref S])(_:Yw jg H S d c n a e)(_:a.map (·.1)=b.map Sum.inl)(_:b.Pairwise (· <= ·))(_:b.length<64)(_:∀ p,H p=none->Q (.ref p) (upd H p (.lst (b.map V.int))))
def ZKF:ZB zEi zEi (Zf IR):=YA
def AZ(F:Zn K "numbers" "Shelf.numbers" IR f fd)(T:YY mg)(L:YT K mg jg jh):ZH P w K mg jX Zd 1 f fd zEi (Xw jg):=by
 refine F.ko ZKF λc A b s H t Q E p h=>?_;let⟨S,d,q,n,a,r,m,rfl,R,g,i,j,k⟩:=h;let⟨e,l⟩:=R.self;intro o;exists _,ZV (Zl (Zq (Pz rfl) rfl T.sorted PO (ZT (WC (pv 0) rfl))));exact⟨_,Z,S,jg,e,_,.ref d,Z,l,L.cS,L.nk,Z,d,a,m,Z,R.kept,g,i,j,k⟩
structure XN(P:am)(w:aw)(K:zZ)(mg:jb)(jX:aD)(nm:Str)(C:aj):Prop where
 ex:∃ fI fd,Y5 K C fI "number" /\ ZH P w K mg jX Zd 1 fI fd zEa (NE K C fI "number")/\YB K fd zEa []
 at_:mg nm=some (.ref C)
 ty:yM K (.ref C)=some (.type "type")
def Je{X:Cx}{E:XK}{g:Str}{C:aj}{e:Expr}{d:jx}{t:TA}{p a j:aK}(F:Vd X E)(N:XN X.prog X.w X.K X.mg X.base g C)(n:Zc 2 X.A)(k:PA X (e::d) t)(m:Gl X g)(h:(g==("__debug__" : Str))=false:=by decide)(l:ar (e::d) X.env=(false,aI e X.env)::ar d X.env:=by rfl)(i:(aG a (ar d X.env)).any (·.1)=false:=by rfl):PS X (.Raise (some (.Call (.Name g p) (e::d) [] a)) none j) (FF C "number" E t):=by
 let⟨o,fd,c,G,b⟩:=N.ex;exact ZJ1 F c N.ty G n m N.at_ b k h l i
def VH(C:aj)(x:Int)(E:XK)(H:Hp):Prop:=∀ b a,ZD H a->a b=some (.xd [("number",.int x)])->E (.ref C) (some b) a
def VH.go{C:aj}{x:Int}{E:XK}{H b:Hp}(r:VH C x E H)(s:ZD H b){a:aj}(h:b a=none):E (.ref C) (some a) (upd b a (.xd [("number",.int x)])):=r a _ (s.trans (ZX h _)) ZO
def VH.mono{C:aj}{x:Int}{E:XK}{H a:Hp}(r:VH C x E H)(s:ZD H a):VH C x E a:=λc b d e=>r c b (s.trans d) e
inductive Zy(jg c:aj)(h:je)(H:Hp)(Q:VK)(E:XK):Prop
 |mk(S d e:aj)(n:Nat)(a:List (ZW×V))(g:je)(x:Int)(_:h=[.ref S,.int x])(_:Yw jg H S d e n a g)(_:∀ b,YR a (.inl x)=some b->Q b H)(_:YR a (.inl x)=none->VH c x E H)
def ZIG{m:aj}(F:Zn K "twig_of" "Shelf.twig_of" LV f fd)(L:YT K mg jg jh)(N:XN P w K mg jX "NoTwig" m):ZH P w K mg jX (Zg P w) 3 f fd zEa (Zy jg m):=by
 refine F.okD Fk (λv H Q E h=>(by let⟨_,_,_,_,_,_,_,rfl,_⟩:=h;rfl)) (λr A l s H v Q E p h=>?_)
 let⟨S,d,C,n,j,D,x,rfl,⟨⟨e,g⟩,o,B⟩,t,u⟩:=h;let q:=UC p;intro y;exists _,ZP (Zo (Qq (J7 q (pv 1) (WC (pv 0) rfl))) (ZV (Je Yl N p (ZT (pv 1)) rfl)) Zt) (ZV (Zl (Vg q (WC (pv 0) rfl) (pv 1))))
 cases b:YR j (.inl x) with
 | none=>
  let a:YD H d (.int x) none:=b ▸ YD.k (k:=Sum.inl x) o;refine⟨_,Z,_,Z,S,jg,e,_,.ref d,Z,g,L.cS,L.nk,Z,d,none,Z,a,_,Z,Z3 ?_⟩;exact⟨_,Z,_,Z,λz i=>(u b).go (ZD.refl H) i⟩
 | some c=>
  let a:YD H d (.int x) (some c):=b ▸ YD.k (k:=Sum.inl x) o;refine⟨_,Z,_,Z,S,jg,e,_,.ref d,Z,g,L.cS,L.nk,Z,d,some c,Z,a,_,Z,Zm ?_⟩;exact⟨_,Z,S,jg,e,_,.ref d,Z,g,L.cS,L.nk,Z,_,Z,d,c,Z,a,t c b⟩
inductive WO(jg jh g:aj)(o:je)(H:Hp)(Q:VK)(E:XK):Prop
 |mk(S d j:aj)(n:Nat)(b:List (ZW×V))(k:je)(x:Int)(_:o=[.ref S,.int x])(_:Yw jg H S d j n b k)(_:∀ e,YR b (.inl x)=some e->∃(a:aj)(l c:V)(h:aj)(i:Nat)(m:je),e=.ref a/\Wv jh H a l c h i m/\Q c H)(_:YR b (.inl x)=none->VH g x E H)
def Hn{e:aj}(F:Zn K "label" "Shelf.label" Ng f fd)(L:YT K mg jg jh)(g:ZA P w K mg jX (Zg P w) 3 jg "twig_of" zEa (Zy jg e)):ZH P w K mg jX (Zg P w) 4 f fd zEa (WO jg jh e):=by
 refine F.okD FW (λB H Q E h=>(by let⟨_,_,_,_,_,_,_,rfl,_⟩:=h;rfl)) (λi A c s H B Q E m h=>?_)
 let⟨S,d,u,n,b,v,x,rfl,R,r,t⟩:=h;intro C;exists _,ZV (Zl (WC (YL (E:=E) (pv 0) L.cS g m (Yv Yl λ_ _ _ h=>h) (ZT (pv 1))) rfl));let⟨k,l⟩:=R.self;refine⟨_,Z,S,k,_,Z,l,Z,_,Z,S,d,u,n,b,v,x,Z,R,λz o=>?_,t⟩;let⟨a,I,y,D,G,J,rfl,W,q⟩:=r z o;let⟨j,p⟩:=W.self;exact⟨a,jh,j,_,y,Z,p,L.cT,L.ntg,Z,q⟩
structure XS(P:am)(w:aw)(K:zZ)(mg:jb)(jX:aD)(CS:aj):Prop where
 stem:mg "NoStem" = some (.ref CS)
 exk:wM K CS Qd "ValueError.__new__" = true
 kp:yX K (.ref CS)=true
 mB:zE K CS (.type "BaseException")=some true
 ty:yM K (.ref CS)=some (.type "type")
structure YM where
 x:aj
 th:aj
 tg:aj
 ab:aj
abbrev jy:=List YM
def YM.d:YM:=⟨0,0,0,0⟩
structure Ov(jh:aj)(H:Hp)(ts:jr)(av:Nat->jo)(ho:Nat->Nat)(i:Nat)(a:YM):Prop where
 tw:Wv jh H a.x (.ref a.th) (.ref a.tg) a.ab (ho i) (iN (av i))
 things:∃ us,H a.th=some (.lst us)/\((gd ts i).h=0->jR H (XW (gd ts i).rows) us)/\((gd ts i).h≠0->us=iN (gd ts i).bs)
 tag:Yr H (Yq (gd ts i)) (.ref a.tg)
def Ov.same{b:aj}{H c:Hp}{f:jr}{d:Nat->jo}{e:Nat->Nat}{i:Nat}{a:YM}(h:Ov b H f d e i a)(s:ZD H c):Ov b c f d e i a:=by
 let⟨l,g,j,k⟩:=h.things;exact⟨h.tw.same s,⟨l,s _ _ g,λz=>(j z).sm s,k⟩,h.tag.mono (ZD.tups s)⟩
structure YQ(jg jh:aj)(H:Hp)(S d lk:aj)(ts:jr)(lv:jo)(av:Nat->jo)(ho:Nat->Nat)(as:jy)(kvs:List (ZW×V))(ls:je):Prop where
 sh:Yw jg H S d lk ts.length kvs ls
 keys:kvs.map (·.1)=lv.map (λi:Nat=>(Sum.inl (i:Int):ZW))
 val:∀ i:Nat,i∈lv->YR kvs (Sum.inl (i:Int))=some (.ref (as.getD i .d).x)
 lt:∀ i:Nat,i∈lv->i<ts.length
 len:as.length=ts.length
 tw:∀ i:Nat,i∈lv->Ov jh H ts av ho i (as.getD i .d)
 own:∀ i:Nat,i∈lv->(as.getD i .d).x≠S/\(as.getD i .d).ab≠lk/\(as.getD i .d).th≠lk/\(as.getD i .d).ab≠(as.getD i .d).th
 two:∀ i j:Nat,i∈lv->j∈lv->i≠j->(as.getD i .d).x≠(as.getD j .d).x/\(as.getD i .d).ab≠(as.getD j .d).ab/\(as.getD i .d).ab≠(as.getD j .d).th/\(as.getD i .d).th≠(as.getD j .d).th
def YQ.same{a b:aj}{H e:Hp}{S d k:aj}{n:jr}{m:jo}{g:Nat->jo}{j:Nat->Nat}{f:jy}{c:List (ZW×V)}{l:je}(h:YQ a b H S d k n m g j f c l)(s:ZD H e):YQ a b e S d k n m g j f c l:=
 ⟨h.sh.same s,h.keys,h.val,h.lt,h.len,λi o=>(h.tw i o).same s,h.own,h.two⟩
def Ov.frame{b:aj}{H H':Hp}{e:jr}{c:Nat->jo}{d:Nat->Nat}{i:Nat}{a:YM}(h:Ov b H e c d i a)(m:Yb H H')(q:∀ o,H a.x=some o->H' a.x=some o)(p:∀ o,H a.th=some o->H' a.th=some o)(n:∀ o,H a.ab=some o->H' a.ab=some o):Ov b H' e c d i a:=by
 let⟨r,g,j,k⟩:=h.things;let⟨f,l⟩:=h.tw.self;exact⟨⟨⟨f,q _ l⟩,n _ h.tw.above⟩,⟨r,p _ g,λz=>(j z).mono m _ _,k⟩,h.tag.mono m⟩
def YQ.none{b c:aj}{H:Hp}{S d o:aj}{q:jr}{f:jo}{j:Nat->jo}{n:Nat->Nat}{g:jy}{a:List (ZW×V)}{p:je}(h:YQ b c H S d o q f j n g a p){x:Int}(e:Z2 f x=false):YR a (Sum.inl x)=tY:=by
 cases z:YR a (Sum.inl x) with
 | none=>rfl
 | some v=>
  have:=LM z;rw[h.keys] at this;let⟨i,m,l⟩:=zO.mp this;let k:=Sum.inl.inj l;unfold Z2 at e;refine absurd ⟨∅,?_⟩ (of_decide_eq_false e)
  rw[<-k];exact m
def Lj{a:jo}{x:Int}(h:Z2 a x=true):∃ i:Nat,x=(i:Int)/\i∈a:=by
 unfold Z2 at h;have:=of_decide_eq_true h;exact⟨x.toNat,∅,this.2⟩
def E2(F:Zn K "label_over" "label_over" K0 f fd)(a3:K.In jX)(T:YY mg)(L:XS P w K mg jX CS)(DS:ZC P w K mg jX 8 "stand_side_by_side" zE1 UU):ZH P w K mg jX (Zg P w) 9 f fd ["labels"] (Vc CS):=by
 refine F.kD QI λc4 A a8 s H vs Q E hr h=>?_;let⟨l,q,r,rfl,hl,hk,hf,a9,k⟩:=h;let nd:=QI.nd;let a2:=hk.1;let⟨tf,mf⟩:=T.few;let⟨tm,mm⟩:=T.most;let⟨t0,m0⟩:=T.height;let⟨t1,m1⟩:=T.least;let⟨t2,m2⟩:=T.greatest;let⟨t3,m3⟩:=T.many;intro Xc;refine⟨_,ZP (Zo (Xj (Mo QE QE (Wn (v:=.int 2) rfl mf ⟨_,rfl⟩) (Zq WK rfl T.len Xu (ZT (pv 0))) (Wn (v:=.int 4) rfl mm ⟨_,rfl⟩))) (ZV (Nd Yl (Nb a3 L.stem L.exk) L.kp L.mB L.ty rfl)) Zt)
  (ZP (VM NZ rfl (N7 rfl T.range (Ze ZJ (Zq WK rfl T.len Xu (ZT (pv 0))))) (Yc 1 nd)
   (ZV (Zo (Xj (YU (Zr DS hr (Ze (Zs K (pv 0) (Z1 Ql (pv 1) ZJ)) (Zs K (pv 0) (pv 1)))))) (ZV (Nd Yl (Nb a3 L.stem L.exk) L.kp L.mB L.ty rfl)) Zt)))
  (ZP (Zx 2 nd (Zq (AJ rfl) rfl T.sum ZN8 (ZT (Qy [] [] rfl (VN (pv 0)) (λ_ _ _ _ _=>UY) (λ_ _ _ _ _=>Zs K (pv 0) (Wn (v:=.int 3) Z m3 ⟨_,Z⟩)) trivial))))
  (ZV (Zl (Yg (Pu (Z1 WJ (Zs K (Zs K (pv 0) ZJ) (Wn (v:=.int 0) rfl m0 ⟨_,rfl⟩)) ZJ)
   (Zs K (Zs K (pv 0) ZJ) (Wn (v:=.int 1) rfl m1 ⟨_,rfl⟩))
   (Zs K (Zs K (pv 0) (Q6 Pi ZJ)) (Wn (v:=.int 2) rfl m2 ⟨_,rfl⟩))
   (pv 2))))))),?_⟩
 let S:∀(X:Hp)(i:Nat),ZD H X->i<q.length->∃(a:aj)(I G:V),q[i]? = some (.ref a)/\X a=some (.tup [.int (r.getD i .d).h,I,G,.int (r.getD i .d).m])/\ZG X (r.getD i .d).lo I/\ZG X (r.getD i .d).hi G:=λX i s' M=>by
  let hu:q[i]? = some q[i]:=zU M;let⟨a,I,G,e,e1,k1,k2⟩:=(hk.2 i _ hu).mono (ZD.tups s');exact⟨a,I,G,by rw[hu,e],e1,k1,k2⟩
 exists _,Z,l,q,Z,.inl (ZM.of hl),_,_,Z,Z,_,Z;rcases yV q.length 2 with h2 | h2
 ·rw[aM (show ¬ (2:Int)<=(q.length:Int) from nofun)]
  refine Zm ⟨_,Z,Z3 ?_⟩;exact(k H (ZD.refl H)).1 (Jv nofun)
 rw[aO (show (2:Int)<=(q.length:Int) from nofun)]
 refine Z3 ⟨_,_,Z,Z,_,Z,?_⟩;rcases yV 4 q.length with h4 | h4
 ·rw[aM (show ¬ (q.length:Int)<=4 from nofun)]
  refine Z3 ?_;exact(k H (ZD.refl H)).1 (Jv nofun)
 rw[aO (show (q.length:Int)<=4 from nofun)]
 refine Zm ?_;exists _,Z,l,q,Z,.inl (ZM.of hl),1,(q.length:Int),Z,⟨nofun,nofun,nofun,nofun⟩
 refine Pv (lo:=1) (n:=((q.length:Int)-1).toNat) (λi σ Y=>∃ x:jf,σ=[some (.ref l),x,none]/\ZD H Y/\∀ j,j<i->Qm (r.getD j .d) (r.getD (j+1) .d)=true) ⟨_,Z,ZD.refl H,λj hj=>absurd hj nofun⟩ ?_ ?_
 ·rintro i σ Y M ⟨x,rfl,B,O⟩;let a4:i+1<q.length:=nofun
  let ua:q[i]? = some (q[i]'nofun):=zU nofun
  let ub:q[i+1]? = some q[i+1]:=zU a4;let e1:(1:Int)+(i:Int)=((i+1:Nat):Int):=nofun
  let e0:(1:Int)+(i:Int)-1=((i:Nat):Int):=nofun
  let t:=B _ _ hl;refine⟨_,Z,_,Z,_,_,Z,Z,.inl ⟨l,q,_,_,Z,Z,ZM.of t,(by rw[e0];exact X1 ua),?_⟩⟩
  refine⟨_,Z,_,Z,.inl ⟨l,q,_,_,Z,Z,ZM.of t,(by rw[e1];exact X1 ub),?_⟩⟩
  refine⟨_,_,r.getD i .d,r.getD (i+1) .d,Z,(hk.2 i _ ua).mono (ZD.tups B),(hk.2 (i+1) _ ub).mono (ZD.tups B),hf i,hf (i+1),λu U=>⟨_,Z,?_⟩⟩
  cases hc:Qm (r.getD i .d) (r.getD (i+1) .d) with
  | true=>
   refine Zm ⟨_,Z,B.trans U,λj hj=>?_⟩;rcases yV j i with c1 | c1
   ·exact O j c1
   ·have:j=i:=nofun
    rw[this];exact hc
  | false=>exact Z3 ((k u (B.trans U)).1 (ZNr nofun hc))
 rintro σ Y ⟨x,rfl,B,O⟩;let ho:=Ek (ls:=r) nofun nofun λj hj=>O j nofun
 let t:=B _ _ hl;exists _,Z,l,Z,⟨q,ZM.of t⟩;refine Ui (n:=q.length) (λi z=>q[i]? = some z) (λD i W u=>ZD Y u/\Y D=none/\W=((r.map Yo.m).take i).map V.int) (Ye nofun)
  (λD i W u M y=>⟨q,q[i],ZM.of (y.1 _ _ t),by simp[M]⟩) (λD i W u z H4 M y hy=>⟨hy.1,hy.2 q (ZM.of (y.1 _ _ t))⟩) (λD W u y=>⟨q,ZM.of (y.1 _ _ t),zY _⟩)
  (λD hD=>⟨ZX hD _,hD,Z⟩) (λD i W u z eD c6 M hz y R hR=>?_) (λD W u eD y=>?_)
 ·let⟨U,nD,rfl⟩:=y;let⟨a,c2,c0,ua,ea,c7,c8⟩:=S u i (B.trans U) M;rw[ua] at hz;cases hz;refine⟨_,Z,.inr (.inl ⟨a,_,_,.int (r.getD i .d).m,rfl,rfl,Zh.of ea,rfl,?_⟩)⟩;refine hR _ u eD ⟨λb o e=>by rw[ZU (Za e nD)];exact U b o e,nD,?_⟩
  let eg:(r.map Yo.m)[i]? = some (r.getD i .d).m:=by
   rw[zH,zT,zU (show i<r.length from nofun)]
   rfl
  rw[yI,eg,yR];rfl
 ·let⟨U,nD,rfl⟩:=y;rw[yF (by rw[zX];lia (splits:=8))] at eD
  exists D,r.map Yo.m,Z,ZM.of eD;let C:=B.trans U;let N:=C _ _ hl;let⟨c,a1,c5,uc,ec,a7,e2⟩:=S u 0 C nofun
  let⟨b,c3,a0,ub,eb,c9,a6⟩:=S u (q.length-1) C nofun
  let J:X8 q (-1)=some (.ref b):=by
   let e:q=q.dropLast++[.ref b]:=by
    let a5:q≠[]:=λz=>by rw[z] at h2;simp at h2
    let hg:q.getLast a5=.ref b:=by
     rw[rR];have:=(yH.mp ub).2;exact this
    rw[<-hg,qZ]
   rw[e];exact Jt _ _
  refine⟨_,Z,.inl ⟨l,q,_,.ref c,Z,Z,ZM.of N,X1 (j:=0) uc,.inr (.inl ⟨c,_,_,.int (r.getD 0 .d).h,rfl,rfl,Zh.of ec,rfl,_,_,rfl,rfl,?_⟩)⟩⟩;refine⟨_,Z,.inl ⟨l,q,_,.ref c,Z,Z,ZM.of N,X1 (j:=0) uc,.inr (.inl ⟨c,_,_,a1,rfl,rfl,Zh.of ec,rfl,?_⟩)⟩⟩;refine⟨_,Z,1,Z,.inl ⟨l,q,_,.ref b,Z,Z,ZM.of N,J,.inr (.inl ⟨b,_,_,a0,rfl,rfl,Zh.of eb,rfl,?_⟩)⟩⟩;exists _,Z,Zu;intro p hp;let g:=ZX hp (.tup [.int ((r.getD 0 .d).h+1),a1,a0,.int (r.map Yo.m).sum]);refine(k _ (C.trans g)).2 _ _ ho ?_;rw[<-a2];exact .tup ZO (.cons (.int _) (.cons (a7.sm g) (.cons (a6.sm g) (.cons (.int _) .nil))))
abbrev Kt:Stmt:=Xy (top 35) 19
inductive Yt(jg jh CT:aj)(p:je)(H:Hp)(Q:VK)(E:XK):Prop
 |mk(S d n l:aj)(h:jr)(g:jo)(k:Nat->jo)(m:Nat->Nat)(j:jy)(e:List (ZW×V))(o:je)(c:jw)(_:p=[.ref S,.ref l])(_:YQ jg jh H S d n h g k m j e o)(_:H l=some (.lst (c.map V.int)))(_:c.length<=100)(_:∀ x,c.find? (λx=>!Z2 g x)=some x->VH CT x E H)(_:∀ bs:jo,c=bs.map (λb:Nat=>(b:Int))->(∀ b∈bs,b∈g)->∀(D:aj)(i:je)(a:Hp),ZD H a->H D=none->a D=some (.lst i)->Ym a (Yn h bs) i->Q (.ref D) a)
def ZHw:ZB zEe zEe (Zf Kt):=YA
def Ea(F:Zn K "labels_of" "Shelf.labels_of" Kt f fd)(L:YT K mg jg jh)(DL:ZA P w K mg jX (Zg P w) 4 jg "label" zEa (WO jg jh CT)):ZH P w K mg jX (Zg P w) 5 f fd zEe (Yt jg jh CT):=by
 refine F.kD ZHw λa1 A Y s H vs Q E hr h=>?_;let⟨S,d,lk,l,B,q,av,ho,as,X,ls,j,rfl,R,I,a0,k1,k2⟩:=h;intro Xc;exists _,ZV (Zl (Gx (E1:=E) [0] zEi Yl (λ_ _ _ h=>h) (VN (pv 1)) (λ_ _ _ _ _=>UY) (λ_ _ _ _ _ hp=>YL (E:=E) (pv 1) L.cS DL hr hp (ZT (pv 0))) ⟨rfl,.inl rfl,rfl,trivial⟩));exists _,Z,l,Z,⟨_,ZM.of I⟩;refine Ui (n:=j.length) (λi z=>(j.map V.int)[i]? = some z) (λD i r g=>ZD H g/\H D=none/\(j.take i).find? (λx=>!Z2 q x)=none/\Ym g (Yn B ((j.take i).map wE)) r) (Ye ∅)
  (λD i r g U k=>⟨_,.int j[i],ZM.of (k.1 _ _ I),by simp[U]⟩) (λD i r g z H4 U k o=>⟨o.1,o.2 _ (ZM.of (k.1 _ _ I))⟩) (λD r g k=>⟨_,ZM.of (k.1 _ _ I),by simp⟩)
  (λD hD=>⟨ZX hD _,hD,Z,Z,λi u e=>by simp at e⟩) (λD i r g z C a2 U hz k RR T=>?_) (λD us g C k=>?_)
 ·let⟨v,N,J,G⟩:=k;rw[zH] at hz;let⟨x,ex,rfl⟩:=yA.mp hz;let⟨f1,f2⟩:=Nl J ex;let O:=R.same v;let⟨dx,hS⟩:=O.sh.self;refine⟨_,Z,S,dx,_,Z,hS,Z,_,Z,S,d,lk,B.length,X,ls,x,Z,O.sh,λtw p=>?_,λp=>?_⟩
  ·let M:Z2 q x=true:=by
    cases c:Z2 q x with
    | true=>rfl
    | false=>rw[R.none c] at p;cases p
   let⟨m,rfl,a⟩:=Lj M;rw[R.val m a] at p;cases p;let W:=O.tw m a;exists _,_,_,_,_,_,Z,W.tw;refine T _ g C ⟨Qa v N,N,f2 (by rw[M];rfl),?_⟩
   let tD:Yb g (upd g D (.lst (r++[.ref (as.getD m .d).tg]))):=λb xs e=>by rw[ZU (ZE e C)];exact e
   rw[yI,ex];let e2:Yn B ((j.take i++(some ((m:Nat):Int)).toList).map wE)=Yn B ((j.take i).map wE)++[Yq (gd B m)]:=by unfold Yn;simp
   rw[e2];exact(G.snoc W.tag).mono tD
  ·let M:Z2 q x=false:=by
    cases c:Z2 q x with
    | false=>rfl
    | true=>
     let⟨m,rfl,a⟩:=Lj c;rw[R.val m a] at p;cases p
   exact(k1 x (f1 (by rw[M];rfl))).mono v
 ·let⟨v,N,J,G⟩:=k;rw[yF (zY _)] at J G;let t:∀ y∈j,Z2 q y=true:=λy o=>by
   have:=vU.mp J y o;simpa using this
  refine k2 (j.map wE) ?_ (λb hb=>?_) D us g v N C G
  ·rw[zJ]
   conv=>lhs;rw[<-List.map_id j]
   refine uK λy o=>?_;let⟨m,rfl,_⟩:=Lj (t y o);simp
  ·let⟨y,o,rfl⟩:=zO.mp hb;let⟨m,rfl,a⟩:=Lj (t y o);simpa using a
def Nx(a:Nat->jo)(b c:Nat):Nat->jo:=λi=>if i=b then a i++[c] else a i
def Ww(a:Nat->Nat)(b:Nat):Nat->Nat:=λi=>if i=b then a i-1 else a i
def YQ.touch{n h:aj}{H p:Hp}{S d I:aj}{K:jr}{C:jo}{j:Nat->jo}{l:Nat->Nat}{f:jy}{s:List (ZW×V)}{J:je}(R:YQ n h H S d I K C j l f s J){b t:Nat}(q:b∈C)(W:∃ M,p (f.getD b .d).x=some (.ins h M (QA (.ref (f.getD b .d).th) (.ref (f.getD b .d).tg) (f.getD b .d).ab (l b-1))))(U:p (f.getD b .d).ab=some (.lst (iN (j b++[t]))))(k:∀ c o,c≠(f.getD b .d).x->c≠(f.getD b .d).ab->H c=some o->p c=some o):YQ n h p S d I K C (Nx j b t) (Ww l b) f s J:=by
 let⟨⟨L,E⟩,B,F⟩:=R.sh;let u:=R.tw b q;let⟨N,a⟩:=u.tw.self;let g:=u.tw.above;let⟨us,D,P,Q⟩:=u.things;let m:Yb H p:=λc xs e=>k c _ (ZE e a) (ZE e g) e;refine⟨⟨⟨L,k _ _ (R.own b q).1.symm (ZE E g) E⟩,k _ _ (ZE B a) (ZE B g) B,k _ _ (ZE F a) (R.own b q).2.1.symm F⟩,R.keys,R.val,R.lt,R.len,λi w=>?_,R.own,R.two⟩;by_cases z:i=b
 ·subst z;let y:Nx j i t i=j i++[t]:=aQ Z;let A:Ww l i i=l i-1:=aQ Z;refine⟨⟨?_,?_⟩,⟨us,k _ _ (ZE D a) (R.own i w).2.2.2.symm D,λz=>(P z).mono m _ _,Q⟩,u.tag.mono m⟩
  ·rw[A];exact W
  ·rw[y];exact U
 ·let y:Nx j b t i=j i:=aP z;let A:Ww l b i=l i:=aP z;let v:=R.tw i w;let⟨Y,t2,t3,t4⟩:=R.two i b w q z;let⟨s1,s2,X,s4⟩:=R.two b i q w (Ne.symm z);let⟨O,r⟩:=v.tw.self;let⟨vs,T,_⟩:=v.things;let G:=v.frame m (λo e=>k _ _ Y (by have:=r.symm.trans e;exact ZE r g) e) (λo e=>k _ _ (ZE T a) X.symm e) (λo e=>k _ _ (ZE v.tw.above a) t2 e)
  refine⟨?_,G.things,G.tag⟩;rw[y,A];exact G.tw
abbrev Lp:Stmt:=Xy (top 35) 20
inductive Yj(jg jh CH:aj)(n:je)(H:Hp)(Q:VK)(E:XK):Prop
 |mk(S d j l:aj)(m:jr)(g:jo)(i:Nat->jo)(a:Nat->Nat)(h:jy)(c:List (ZW×V))(k:je)(bs:jo)(_:n=[.ref S,.ref l])(_:YQ jg jh H S d j m g i a h c k)(_:H l=some (.lst (iN bs)))(_:∀ b∈bs,b∈g)(_:∀ b,bs.find? (λb=>decide (a b=0))=some b->VH CH (b:Nat) E H)(_:bs.find? (λb=>decide (a b=0))=none->∀ e,ZD H e->Q .non e)
def Yh:ZB ["self","numbers","number"] zEe (Zf Lp):=YA
def ZFG(F:Zn K "check_held" "Shelf.check_held" Lp f fd)(L:YT K mg jg jh)(N:XN P w K mg jX "NotHeld" CH)(y:ZA P w K mg jX Zd 2 jg "outside" zEa (X0 jg jh λ_ g _=>.int g)):ZH P w K mg jX (Zg P w) 3 f fd zEe (Yj jg jh CH):=by
 refine F.kD Yh λz A q s H vs Q E v h=>?_;let⟨S,d,U,l,Y,lv,av,g,as,p,W,bs,rfl,R,t,M,O,T⟩:=h;let X:=Yh.nd;intro Xc;refine⟨_,ZV (VM NZ rfl (VN (pv 1)) (Yc 2 X)
  (ZV (Zo (YI Y1 (YL (E:=E0) (pv 0) L.cS y v XJ (ZT (pv 2))) ZJ (Zz _)) (ZV (Je Yl N v (ZT (pv 2)) rfl)) Zt))),?_⟩
 refine⟨_,Z,l,Z,⟨_,ZM.of t⟩,Qt (K:=K) (a:=l) (xs:=iN bs) (λi n k=>∃ x:jf,n=[some (.ref S),some (.ref l),x]/\k=H/\(bs.take i).find? (λb=>decide (g b=0))=none) ⟨_,Z,Z,Z⟩ (λi n k _ I=>by let⟨_,_,rfl,_⟩:=I;exact ZM.of t) ?_ ?_⟩
 ·rintro i u n k e ⟨x,rfl,rfl,m⟩;unfold iN at e;rw[zH] at e;let⟨b,r,rfl⟩:=yA.mp e;let j:=M b (yU r);let⟨D,G⟩:=Nl m r;let⟨B,J⟩:=R.sh.self;exists _,Z,S,B,_,Z,J,Z,_,Z,S,d,U,Y.length,p,W,(b:Int),_,_,_,_,_,_,Z,⟨R.sh,R.val b j,(R.tw b j).tw⟩;exists Z,_,Z;let C:decide (V.int (g b:Nat)=V.int 0)=decide (g b=0):=by
   rw[xG];simp
  rw[C]
  cases c:decide (g b=0) with
  | true=>exact Z3 ⟨_,Z,_,Z,λdd o=>(O b (D c)).go (ZD.refl _) o⟩
  | false=>exact Zm ⟨_,Z,Z,G c⟩
 ·rintro n k ⟨x,rfl,rfl,m⟩;rw[show (iN bs).length=bs.length from zX _,yF (zY _)] at m;exact T m _ (ZD.refl _)
def UD(bs:jo)(b:Nat)(a:Nat->jo):Nat->jo:=λi=>if i∈bs then a i++[b] else a i
def Wj(bs:jo)(a:Nat->Nat):Nat->Nat:=λi=>if i∈bs then a i-1 else a i
def ZK0{bs:jo}{b a:Nat}{c:Nat->jo}(h:b∉bs):Nx (UD bs a c) b a=UD (bs++[b]) a c:=by
 funext i
 unfold Nx UD;by_cases z:i=b
 ·subst z;rw[aQ rfl,aP h,aQ (by simp)]
 ·rw[aP z];by_cases y:i∈bs
  ·rw[aQ y,aQ (by simp[y])]
  ·rw[aP y,aP (by simp[y,z])]
def Fz{bs:jo}{b:Nat}{a:Nat->Nat}(h:b∉bs):Ww (Wj bs a) b=Wj (bs++[b]) a:=by
 funext i
 unfold Ww Wj;by_cases z:i=b
 ·subst z;rw[aQ rfl,aP h,aQ (by simp)]
 ·rw[aP z];by_cases y:i∈bs
  ·rw[aQ y,aQ (by simp[y])]
  ·rw[aP y,aP (by simp[y,z])]
abbrev KU:Stmt:=Xy (top 35) 21
inductive Xh(jg jh:aj)(q:je)(H:Hp)(Q:VK)(_:XK):Prop
 |mk(S d k l:aj)(p:jr)(g:jo)(i:Nat->jo)(j:Nat->Nat)(a:jy)(e:List (ZW×V))(m:je)(bs:jo)(n:Nat)(_:q=[.ref S,.int n,.ref l])(_:YQ jg jh H S d k p g i j a e m)(_:H l=some (.lst (iN bs)))(_:bs.Nodup)(_:∀ b∈bs,b∈g/\1<=j b/\(i b).length<=900)(_:∀ b:Nat,b∈g->l≠(a.getD b .d).ab)(_:∀ h:Hp,(∀ c o,(∀ b:Nat,b∈g->c≠(a.getD b .d).x/\c≠(a.getD b .d).ab)->H c=some o->h c=some o)->(∀ c,h c=none->H c=none)->YQ jg jh h S d k p g (UD bs n i) (Wj bs j) a e m->Q .non h)
abbrev CY:jq:=["self","stem","branches","branch","twig"]
def Wd:ZB CY zEz (Zf KU):=YA
def AA(F:Zn K "take_over" "Shelf.take_over" KU f fd)(L:YT K mg jg jh)(DT:ZA P w K mg jX Zd 1 jg "twig_of" zEa (Z4 jg)):ZH P w K mg jX Zd 2 f fd zEz (Xh jg jh):=by
 refine F.ko Wd λa2 A a1 s H vs Q E hr h=>?_;let⟨S,d,lk,l,ts,lv,v,j,g,T,ls,bs,W,rfl,R,hl,N,Y,a0,k⟩:=h;let nd:=Wd.nd;intro Xc;refine⟨_,ZV (VM PassesOwn.never rfl (VN (pv 2)) (Yc 3 nd)
  (ZP (Zx 4 nd (YL (E:=E0) (pv 0) L.cS DT hr XJ (ZT (pv 3))))
  (ZP (Gu (pv 4) ZJ Fw)
  (ZV (WB (V6 yL xO xN Uo (WC (pv 4) rfl) (ZT (pv 1)))))))),?_⟩
 refine⟨_,Z,l,Z,⟨_,ZM.of hl⟩,Qt (K:=K) (a:=l) (xs:=iN bs) (λi σ m=>∃ x y:jf,σ=[some (.ref S),some (.int W),some (.ref l),x,y]/\(∀ c o,(∀ b:Nat,b∈lv->c≠(g.getD b .d).x/\c≠(g.getD b .d).ab)->H c=some o->m c=some o)/\(∀ c,m c=none->H c=none)/\YQ jg jh m S d lk ts lv (UD (bs.take i) W v) (Wj (bs.take i) j) g T ls)
  ⟨_,_,Z,λc o _ e=>e,λc e=>e,(by
   let e1:UD [] W v=v:=funext λi=>aP (by simp)
   let e2:Wj [] j=j:=funext λi=>aP (by simp)
   rw[show bs.take 0=[] from rfl,e1,e2];exact R)⟩ ?_ ?_ ?_⟩
 ·rintro i σ m _ ⟨x,y,rfl,O,_,R2⟩;refine ZM.of (O _ _ (λb Y=>⟨?_,a0 b Y⟩) hl);let⟨dx,I⟩:=(R.tw b Y).tw.self;exact ZE hl I
 ·rintro i u σ m C ⟨x,y,rfl,O,k3,R2⟩;unfold iN at C;rw[zH] at C;let⟨b,eb,rfl⟩:=yA.mp C;let⟨r,a3,a4⟩:=Y b (yU eb);let t:b∉bs.take i:=λz=>by
   let hs:bs=bs.take i++b::bs.drop (i+1):=by
    let hi:=(yH.mp eb);let⟨hi,e⟩:=hi;rw[<-e,<-uF hi,rW]
   rw[hs,List.nodup_append] at N;exact N.2.2 b z b (by simp) Z
  let M:Wj (bs.take i) j b=j b:=aP t;let J:UD (bs.take i) W v b=v b:=aP t;let⟨dS,hS⟩:=R2.sh.self;let Wb:=R2.tw b r;let⟨q,I⟩:=Wb.tw.self;let B:=Wb.tw.above;rw[M] at I;rw[J] at B;exists _,Z,S,dS,_,Z,hS,Z,_,Z,S,d,lk,ts.length,T,ls,(b:Int),.ref (g.getD b .d).x,Z,R2.sh,R2.val b r;exists _,Z,(g.getD b .d).x,jh,q,_,.int (j b:Nat),Z,I,L.cT,L.nho,Z,_,_,Z,Z,q,_,I,zA Z;let eh:((j b:Nat):Int)-1=((j b-1:Nat):Int):=∅
  let D:upd m (g.getD b .d).x (.ins jh q (XU "holds" (.int (((j b:Nat):Int)-1)) (QA (.ref (g.getD b .d).th) (.ref (g.getD b .d).tg) (g.getD b .d).ab (j b)))) (g.getD b .d).x=some (.ins jh q (QA (.ref (g.getD b .d).th) (.ref (g.getD b .d).tg) (g.getD b .d).ab (j b-1))):=by rw[ZO,eh];rfl
  let X:(g.getD b .d).ab≠(g.getD b .d).x:=ZE B I;let p:upd m (g.getD b .d).x (.ins jh q (XU "holds" (.int (((j b:Nat):Int)-1)) (QA (.ref (g.getD b .d).th) (.ref (g.getD b .d).tg) (g.getD b .d).ab (j b)))) (g.getD b .d).ab=some (.lst (iN (v b))):=by rw[ZU X];exact B
  let G:∀ c o,c≠(g.getD b .d).x->m c=some o->upd m (g.getD b .d).x (.ins jh q (XU "holds" (.int (((j b:Nat):Int)-1)) (QA (.ref (g.getD b .d).th) (.ref (g.getD b .d).tg) (g.getD b .d).ab (j b)))) c=some o:=λc o n e=>by rw[ZU n];exact e
  let U:∀ c,upd m (g.getD b .d).x (.ins jh q (XU "holds" (.int (((j b:Nat):Int)-1)) (QA (.ref (g.getD b .d).th) (.ref (g.getD b .d).tg) (g.getD b .d).ab (j b)))) c=none->m c=none:=λc e=>by
   by_cases z:c=(g.getD b .d).x
   ·rw[z,ZO] at e;cases e
   ·rw[ZU z] at e;exact e
  generalize upd m (g.getD b .d).x (.ins jh q (XU "holds" (.int (((j b:Nat):Int)-1)) (QA (.ref (g.getD b .d).th) (.ref (g.getD b .d).tg) (g.getD b .d).ab (j b))))=H3 at D p G U⊢;exists _,Z,(g.getD b .d).x,jh,q,_,.ref (g.getD b .d).ab,Z,D,L.cT,L.nab,Z,.inl ⟨Z,_,ZM.of p⟩,_,Z,(g.getD b .d).ab,_,.int W,Z,Z,p,Ye (by rw[show (iN (v b)).length=(v b).length from zX _];lia)
  let et:bs.take (i+1)=bs.take i++[b]:=by rw[yI,eb];rfl
  exists _,_,Z,λc o hc e=>?_,λc e=>?_
  ·let⟨n1,n2⟩:=hc b r;rw[ZU n2];exact G _ _ n1 (O c o hc e)
  ·by_cases z:c=(g.getD b .d).ab
   ·rw[z,ZO] at e;cases e
   ·rw[ZU z] at e;exact k3 c (U c e)
  ·rw[et,<-ZK0 t,<-Fz t];refine R2.touch r ⟨q,?_⟩ ?_ λc o n1 n2 e=>?_
   ·rw[ZU (Ne.symm X),M];exact D
   ·rw[ZO,J];simp[iN]
   ·rw[ZU n2];exact G _ _ n1 e
 ·rintro σ m ⟨x,y,rfl,O,k3,R2⟩;rw[show (iN bs).length=bs.length from zX _,yF (zY _)] at R2;exact k m O k3 R2
def AM{X:Cx}{k:Nat}{C:aj}{x:Str}{o:jq}{h:Sp}{e:Expr}{a:jx}{t:TA}{p c:aK}(D:Ut X.prog X.w X.K X.mg X.base k C o h)(n:Zc (k+1) X.A)(l:Gl X x)(m:X.mg x=some (.ref C))(i:PA X (e::a) t)(d:(x==("__debug__" : Str))=false:=by decide)(j:ar (e::a) X.env=(false,aI e X.env)::ar a X.env:=by rfl)(g:(aG c (ar a X.env)).any (·.1)=false:=by rfl):
  PE X (.Call (.Name x p) (e::a) [] c) (Lh C h [] E0 t):=by
 let⟨f,q,M,F,b⟩:=D.ex;exact CF M F n l m b .nil XJ i d j g
def ZOO{X:Cx}{k:Nat}{C:aj}{x:Str}{i:jq}{d:Sp}{p c:aK}(D:Ut X.prog X.w X.K X.mg X.base k C i d)(h:Zc (k+1) X.A)(e:Gl X x)(g:X.mg x=some (.ref C))(a:(x==("__debug__" : Str))=false:=by decide):PE X (.Call (.Name x p) [] [] c) (Lh C d [] E0 Y0):=by
 let⟨f,j,M,F,b⟩:=D.ex;exact Cq M F h e g b .nil XJ a
def WT(n:Nat)(a:Nat->jo):Nat->jo:=λi=>if i=n then [] else a i
def Yy(n:Nat)(a:Nat->Nat):Nat->Nat:=λi=>if i=n then 1 else a i
def QC{a:jr}{t:ZZ}{i:Nat}(h:i<a.length):gd (a++[t]) i=gd a i:=by
 unfold gd;rw[zT,wZ h,<-zT]
def PY{a:jr}{t:ZZ}:gd (a++[t]) a.length=t:=by
 unfold gd;rw[zT,xB (zY _)];simp
def K4{b:jy}{a:YM}{i:Nat}(h:i<b.length):(b++[a]).getD i .d=b.getD i .d:=by
 rw[zT,wZ h,<-zT]
def II{b:jy}{a:YM}:(b++[a]).getD b.length .d=a:=by
 rw[zT,xB (zY _)];simp
def FB{u l:aj}{H H':Hp}{S d M:aj}{f:jr}{D:jo}{B:Nat->jo}{L:Nat->Nat}{n:jy}{q:List (ZW×V)}{Y:je}(R:YQ u l H S d M f D B L n q Y){t:ZZ}{x th tg ab:aj}(O:∀ b o,b≠S->b≠d->H b=some o->H' b=some o)(nx:H x=none)(s:H th=none)(r:H ab=none)(I:ab≠th)(R':Yw u H' S d M (f.length+1) (YX q (.inl (f.length:Int)) (.ref x)) Y)(W:Wv l H' x (.ref th) (.ref tg) ab 1 [])(X:∃ k,H' th=some (.lst k)/\(t.h=0->jR H' (XW t.rows) k)/\(t.h≠0->k=iN t.bs))(U:Yr H' (Yq t) (.ref tg)):
  YQ u l H' S d M (f++[t]) (D++[f.length]) (WT f.length B) (Yy f.length L) (n++[⟨x,th,tg,ab⟩]) (YX q (.inl (f.length:Int)) (.ref x)) Y:=by
 let⟨⟨dS,P⟩,Q,hl⟩:=R.sh;let m:Yb H H':=λc xs e=>O c _ (ZE e P) (ZE e Q) e;let en:(f++[t]).length=f.length+1:=by simp
 let nv:YR q (Sum.inl (f.length:Int))=none:=R.none (by unfold Z2;exact aM λz=>by have:=R.lt _ z.2;lia)
 let a:∀ i,i∈D++[f.length]->i∈D\/i=f.length:=λi g=>by simpa using g
 let el:n.length=f.length:=R.len;let A:∀ i,i∈D->(n++[(⟨x,th,tg,ab⟩:YM)]).getD i .d=n.getD i .d:=λi g=>K4 (by have:=R.lt i g;lia)
 let E:(n++[(⟨x,th,tg,ab⟩:YM)]).getD f.length .d=⟨x,th,tg,ab⟩:=by rw[<-el];exact II
 let y:∀ i,i∈D->∃ C k o,H (n.getD i .d).x=some (.ins l C k)/\H (n.getD i .d).th=some (.lst o)/\H (n.getD i .d).ab=some (.lst (iN (B i))):=λi g=>by
  let⟨C,v⟩:=(R.tw i g).tw.self;let⟨k,p,_⟩:=(R.tw i g).things;exact⟨C,_,k,v,p,(R.tw i g).tw.above⟩
 let nS:x≠S:=(Za P nx).symm;let F:ab≠M:=(Za hl r).symm;let N:th≠M:=(Za hl s).symm;refine⟨by rw[en];exact R',?_,λi g=>?_,λi g=>?_,by simp[el],λi g=>?_,λi g=>?_,λi j g hj K=>?_⟩
 ·rw[Hx _ nv,yR,R.keys,yR];rfl
 ·rw[Nn];rcases a i g with c | rfl
  ·let T:=R.lt i c;rw[aP (λz=>by have:=Sum.inl.inj z;lia),A i c]
   exact R.val i c
  ·rw[aQ rfl,E]
 ·rw[en];rcases a i g with c | rfl
  ·exact vW (R.lt i c)
  ·exact xV _
 ·rcases a i g with c | rfl
  ·let Wi:=R.tw i c;let⟨C,k,o,v,p,w⟩:=y i c;let T:=R.lt i c;let ni:i≠f.length:=∅
   let G:=Wi.frame m (λo' e=>O _ _ (R.own i c).1 (ZE v Q) e) (λo' e=>O _ _ (ZE p P) (ZE p Q) e) (λo' e=>O _ _ (ZE w P) (ZE w Q) e);rw[A i c];exists ?_,?_
   ·rw[show WT f.length B i=B i from aP ni,show Yy f.length L i=L i from aP ni];exact G.tw
   ·rw[QC T];exact G.things
   ·rw[QC T];exact G.tag
  ·rw[E];exists ?_,?_
   ·rw[show WT f.length B f.length=[] from aQ rfl,show Yy f.length L f.length=1 from aQ rfl];exact W
   ·rw[PY];exact X
   ·rw[PY];exact U
 ·rcases a i g with c | rfl
  ·rw[A i c];exact R.own i c
  ·rw[E];exact⟨nS,F,N,I⟩
 ·rcases a i g with c | rfl
  ·rw[A i c];rcases a j hj with J | rfl
   ·rw[A j J];exact R.two i j c J K
   ·rw[E];let⟨C,k,o,v,p,w⟩:=y i c;exact⟨Za v nx,Za w r,Za w s,Za p s⟩
  ·rw[E];rcases a j hj with J | rfl
   ·rw[A j J];let⟨C,k,o,v,p,w⟩:=y j J;exact⟨(Za v nx).symm,(Za w r).symm,(Za p r).symm,(Za p s).symm⟩
   ·exact absurd Z K
inductive XL(jg jh:aj)(k:je)(H:Hp)(Q:VK)(_:XK):Prop
 |mk(S d g:aj)(n:Nat)(a:List (ZW×V))(h:je)(j i:V)(_:k=[.ref S,j,i])(_:Yw jg H S d g n a h)(_:a.length<=900)(_:∀(c:Hp)(x e:aj),H x=none->H e=none->(∀ b o,b≠S->b≠d->H b=some o->c b=some o)->Yw jg c S d g (n+1) (YX a (.inl (n:Int)) (.ref x)) h->Wv jh c x j i e 1 []->Q (.int (n:Int)) c)
def VG:ZB ["self","things","label","number"] zEv (Zf Kc):=YA
def Dm(F:Zn K "put_twig" "Shelf.put_twig" Kc f fd)(L:YT K mg jg jh)(DM:Ut P w K mg jX 1 jh zEx (Qk jh)):ZH P w K mg jX Zd 3 f fd zEv (XL jg jh):=by
 refine F.ko VG λa1 A Y s H vs Q E hr h=>?_;let⟨S,d,c,n,T,ls,th,tg,rfl,R,a0,k⟩:=h;let nd:=VG.nd;let hu:=UC hr;intro Xc;refine⟨_,ZP (Zx 3 nd (WC (pv 0) rfl)) (ZP (Pb (pv 0) (Z1 WJ (pv 3) ZJ) rfl)
  (ZP (NG hu (WC (pv 0) rfl) (pv 3) (AM DM hr rfl L.twig (Ze (pv 1) (pv 2))) rfl) (ZV (Zl (pv 3))))),?_⟩
 let⟨⟨a,y⟩,J,M⟩:=R;let Sd:S≠d:=ZE y J;let Sl:S≠c:=ZE y M;let dl:d≠c:=ZE J M;exists _,Z,S,jg,a,_,.int n,Z,y,L.cS,L.nf,Z;exists _,Z,_,_,Z,Z,_,Z,S,jg,a,_,Z,y,L.cS,L.nf,zA Z;let l:upd H S (.ins jg a (XU "following" (.int ((n:Int)+1)) (Qp d c n))) S=some (.ins jg a (Qp d c (n+1))):=ZO;let q:upd H S (.ins jg a (XU "following" (.int ((n:Int)+1)) (Qp d c n))) d=some (.dK T):=by rw[ZU (Ne.symm Sd)];exact J
 let r:upd H S (.ins jg a (XU "following" (.int ((n:Int)+1)) (Qp d c n))) c=some (.lst ls):=by rw[ZU (Ne.symm Sl)];exact M
 let u:∀ b o,b≠S->H b=some o->upd H S (.ins jg a (XU "following" (.int ((n:Int)+1)) (Qp d c n))) b=some o:=λb o n e=>by rw[ZU n];exact e
 let j:∀ b,upd H S (.ins jg a (XU "following" (.int ((n:Int)+1)) (Qp d c n))) b=none->H b=none:=λb e=>by
  by_cases z:b=S
  ·rw[z,ZO] at e;cases e
  ·rw[ZU z] at e;exact e
 generalize upd H S (.ins jg a (XU "following" (.int ((n:Int)+1)) (Qp d c n)))=B at l q r u j⊢;exists _,Z,_,Z;intro x G nx V ne;let g1:=ZX V (.own x);let X:upd B G (.own x) x=none:=by rw[ZU (Ne.symm ne)];exact nx
 let g2:=ZX X (.ins jh G []);let g:=g1.trans g2;refine⟨x,G,th,tg,Z,ZO,λH2 C O U W=>⟨Z,?_⟩⟩;let v:∀ b o,B b=some o->H2 b=some o:=λb o e=>O b o (Za e nx) (g b o e);let m:=v _ _ l;let i:=v _ _ q;let N:=v _ _ r;let p:B C=none:=g.free U;let⟨I,t⟩:=W.self;let xd:x≠d:=ZE t i;let D:C≠d:=ZE W.above i;exists _,Z,S,jg,a,_,.ref d,Z,m,L.cS,L.nk,Z,_,Z,d,_,Z,Wz.k (k:=Sum.inl (n:Int)) i (Ye ∅)
 refine⟨_,Z,k _ x C (j _ nx) (j _ p) (λb o n1 n2 e=>?_) ⟨⟨a,?_⟩,ZO,?_⟩ ⟨⟨I,?_⟩,?_⟩⟩
 ·rw[ZU n2];exact v b o (u b o n1 e)
 ·rw[ZU Sd];exact m
 ·rw[ZU (Ne.symm dl)];exact N
 ·rw[ZU xd];exact t
 ·rw[ZU D];exact W.above
end Tw
namespace Tw
open PySem PySem.Spec L2
variable{jg jh CS CT CH CK CP CB:aj}
def Ct:ZB zFc zFc (Zf KO):=YA
def ZOY(F:Zn K "has_few_figures" "has_few_figures" KO f fd)(T:YY mg):ZH P w K mg jX Zd 1 f fd zFc Vi:=by
 refine F.ok Ct (λc H Q E h=>?_) (λb A a s H c Q E g h=>?_)
 ·let⟨i,rfl,_⟩:=h;rfl
 let⟨i,rfl,q⟩:=h;intro d;exists _,ZV (Zl (Vz ND (Zq KN rfl T.abs L0 (Zj (pv 0) Zw)) (Z1 KA ZJ ZJ) (Zz _)));exists _,Z,_,Z,_,_,Z,Z,⟨by decide,by decide,by decide⟩,_,_,Z,Z
 let e:=ZOn i;rw[<-e] at q;exact q
def ZO8:ZB ["sign"] ["sign"] (Zf Jx):=YA
def ZNB(F:Zn K "is_sign" "is_sign" Jx f fd):ZH P w K mg jX Zd 1 f fd ["sign"] WW:=by
 refine F.ok ZO8 (λk H Q E h=>?_) (λi A d s H k Q E m h=>?_)
 ·let⟨c,rfl,_⟩:=h;rfl
 let⟨c,rfl,q⟩:=h;intro l;exists _,ZV (Zl (ZK3 GZ GZ Yk (pv 0) Yk));let g:(wU " ").cps.toList=[32]:=by decide +kernel
 let j:(wU "~").cps.toList=[126]:=by decide +kernel
 let e:=ZLp c;exists _,Z,_,_,Z,Z,_,Z;refine X7 (λb=>?_) (λb=>?_)
 ·exists _,_,Z,Z;let a:(!decide ([c]<[32]))=true:=by rw[<-g];exact b
  rw[a,vA] at e;rw[<-e,<-j] at q;exact q
 ·let a:(!decide ([c]<[32]))=false:=by rw[<-g];exact vD.mpr b
  rw[a,uY] at e;rw[<-e] at q;exact q
def Gr:ZB zEp zEp (Zf MQ):=YA
def ZJ7{k:Nat}:ZH P w K mg jX Zd k f fd zEp (Y4 0):=by
 let c:∀ a H Q E,¬ Y4 0 a H Q E:=λa H Q E h=>by
  let⟨v,t,r,q,_,_,_,d,_⟩:=h
  lia
 exact⟨λa H Q E h=>absurd h (c a H Q E),λA b s H args e a Q E _ _ _ _ h=>absurd h (c a H Q E)⟩
def FQ{n:Nat}(F:Zn K "fits" "fits" MQ f fd)(T:YY mg)(DW:ZC P w K mg jX 1 "has_few_figures" zFc Vi)(DS:ZC P w K mg jX 1 "is_sign" ["sign"] WW)(DF:ZC P w K mg jX (n+1) "fits" zEp (Y4 n)):ZH P w K mg jX Zd (n+2) f fd zEp (Y4 (n+1)):=by
 refine F.ok Gr (λp H Q E h=>?_) (λa3 A a2 s H p Q E hr h=>?_)
 ·let⟨v,t,r,q,rfl,_⟩:=h;rfl
 let⟨v,t,r,q,rfl,g,hq,hn,k⟩:=h;let W:=hr.mono (show 1<=n+1 by lia)
 let⟨t1,m1⟩:=T.signs;let⟨t2,m2⟩:=T.things;intro Xc;refine⟨_,ZP (Zo (YU (Zq Xs rfl T.isi Yx (Zj (pv 0) (Zj (Xi (v:=.ty "bool") rfl T.bool P2 rfl) Zw)))) (ZV (Zl Vw)) Zt)
  (ZP (Zo (YU (Zq Xs rfl T.isi Yx (Zj (pv 0) (Zj (Xi (v:=.ty "int") rfl T.int Qw rfl) Zw)))) (ZV (Zl (Zr DW W (Zj (pv 0) Zw)))) Zt)
  (ZP (Zo (YU (Zq Xs rfl T.isi Yx (Zj (pv 0) (Zj (Xi (v:=.ty "str") rfl T.str NC rfl) Zw))))
   (ZV (Zl (Q2 (Vz QE (Zq BR rfl T.len Xu (Zj (pv 0) Zw)) (Wn (v:=.int 40) rfl m1 ⟨_,rfl⟩) (Zz _))
    (OZ (Zq (Mj rfl) rfl T.all Mt (Zj (Qy [] [] rfl (Ae (pv 0)) (λ_ _ _ _ _=>UY) (λ_ _ _ _ _=>Zr DS W (Zj (pv 0) Zw)) trivial) Zw)))))) Zt)
  (ZP (Zo (YU (Zq Xs rfl T.isi Yx (Zj (pv 0) (Zj (Xi (v:=.ty "tuple") rfl T.tuple QZ rfl) Zw))))
   (ZV (Zl (Q2 (Vz PQ (pv 1) ZJ (Zz _)) (Q2 (Vz QE (Zq WK rfl T.len Xu (Zj (pv 0) Zw)) (Wn (v:=.int 4) rfl m2 ⟨_,rfl⟩) (Zz _))
    (OZ (Zq (Mj rfl) rfl T.all Mt (Zj (Qy [1] ["room"] rfl (Lx (pv 0)) (λ_ _ _ _ _=>UY) (λ_ _ _ _ _=>Zr DF hr (Zj (pv 0) (Zj (Z1 Ql (pv 1) ZJ) Zw))) ⟨rfl,.inl rfl,rfl,trivial⟩) Zw))))))) Zt)
  (ZV (Zl Vw))))),?_⟩
 cases t with
 | int i=>
  let ev:v=.int i:=by rw[ZG] at g;exact g
  subst ev;refine⟨_,Z,_,_,_,_,Z,g.ty,NW,_,Z,Zm ?_⟩;refine⟨_,Z,_,_,_,_,Z,g.ty,Oi,_,Z,Z3 ?_⟩;let u:=k H (ZD.refl H);rw[KT.fits] at u;exact⟨_,Z,i,Z,u⟩
 | str x=>
  let ev:v=.str x:=by rw[ZG] at g;exact g
  subst ev;let hx:Ot x=true:=by rw[KT.fits] at hq;exact hq
  let B:=hx;unfold Ot at B;rw[zR] at B;let O:x.length<=40:=of_decide_eq_true B.1;refine⟨_,Z,_,_,_,_,Z,g.ty,G0,_,Z,Zm ?_⟩;refine⟨_,Z,_,_,_,_,Z,g.ty,K8,_,Z,Zm ?_⟩;refine⟨_,Z,_,_,_,_,Z,g.ty,N0,_,Z,Z3 ?_⟩;exists _,Z,x,Z,nn ∅,_,_,Z,Z,_,Z
  rw[aQ (aO (show (x.length:Int)<=40 by lia))]
  exists _,Z,x,Z;let a7:x.cps.size<=40:=O;refine Ui (n:=x.cps.size) (λi z=>∃ c,x.cps[i]? = some c/\z=.str ⟨#[c]⟩) (λD i m d=>ZD H d/\H D=none/\m=((x.cps.toList.take i).map QH).map V.bl) (Ye ∅)
   (λD i m d J _=>J) (λD i m d z H4 J _ hy=>hy) (λD m d _=>rfl) (λD N=>⟨ZX N _,N,Z⟩) (λD i m d z G hl J hz j R hR=>?_) (λD m d G j=>?_)
  ·let⟨c,hc,rfl⟩:=hz;let⟨C,L,rfl⟩:=j;exists _,Z,c,Z;refine hR _ d G ⟨λb o e=>by rw[ZU (Za e L)];exact C b o e,L,?_⟩
   let a0:x.cps.toList[i]? = some c:=by simpa using hc
   rw[yI,a0];simp
  ·let⟨C,L,rfl⟩:=j;exists D,_,Z,ZM.of G;let u:=k d C;rw[KT.fits,hx] at u;let M:(x.cps.toList.take x.cps.size)=x.cps.toList:=yF (by simp)
   rw[M];let I:(x.cps.toList.map QH).all id=true:=by rw[xS];exact B.2
   rw[I];exact u
 | tup l=>
  let X:=g;rw[ZG] at X;let⟨a,p,rfl,I,Y⟩:=X;let hl:=Y.length;rw[KT.fits,zR,zR] at hq;let⟨a6,S,U⟩:=hq;let a5:l.length<=4:=of_decide_eq_true S;refine⟨_,Z,_,_,_,_,Z,g.ty,FH,_,Z,Zm ?_⟩;refine⟨_,Z,_,_,_,_,Z,g.ty,JA,_,Z,Zm ?_⟩;refine⟨_,Z,_,_,_,_,Z,g.ty,IJ,_,Z,Zm ?_⟩;refine⟨_,Z,_,_,_,_,Z,g.ty,M7,_,Z,Z3 ?_⟩;exists _,Z,_,_,Z,Z,_,Z;refine X7 (λc1=>?_) (λc1=>?_)
  ·let r0:0<r:=by
    have:=of_decide_eq_true c1
    lia
   exists _,Z,a,p,Z,.inr (Zh.of I),_,_,Z,Z,_,Z;rw[aQ (aO (show ((p.length:Nat):Int)<=4 by lia))]
   exists _,Z,a,Z,⟨p,Zh.of I⟩;refine Ui (n:=p.length) (λi z=>p[i]? = some z) (λD i m d=>ZD H d/\H D=none/\m=((l.take i).map λt=>t.fits (r-1)).map V.bl) (Ye ∅)
    (λD i m d J j=>⟨p,p[i],Zh.of (j.1 _ _ I),by simp[J]⟩) (λD i m d z H4 J j hy=>⟨hy.1,hy.2 p (Zh.of (j.1 _ _ I))⟩) (λD m d j=>⟨p,Zh.of (j.1 _ _ I),zY _⟩)
    (λD N=>⟨ZX N _,N,Z⟩) (λD i m d z G a4 J hz j R hR=>?_) (λD m d G j=>?_)
   ·let⟨C,L,rfl⟩:=j;let⟨t,M,kt⟩:=Y.get hz;let er:(r:Int)-1=((r-1:Nat):Int):=∅
    let a1:t.fits (q-1)=true:=by
     rw[Nh] at U;exact zN.mp U t (yU M)
    exists _,Z,_,Z,_,_,Z,Z,z,t,r-1,q-1,congrArg (λy=>[z,V.int y]) er,kt.sm C,a1,by lia
    intro H4 s4;refine hR _ H4 (s4 D _ G) ⟨λb o e=>by rw[ZU (Za e L)];exact s4 b o (C b o e),L,?_⟩
    rw[yI,M];simp
   ·let⟨C,L,rfl⟩:=j;exists D,_,Z,ZM.of G;let u:=k d C;rw[KT.fits,aO r0,vA,S,vA,Nh] at u;let M:l.take p.length=l:=yF ∅
    rw[M,xS];exact u
  ·let r0:r=0:=by
    have:¬ ((0:Int)<(r:Int)):=λz=>c1 (aO z)
    lia
   subst r0;let u:=k H (ZD.refl H);rw[KT.fits] at u;exact u
def BL:ZB zE4 zE4 (Zf IT):=YA
def Jn(T:YY mg)(L:Zp K mg "fits" MQ zEp)(b:ZC P w K mg jX 1 "has_few_figures" zFc Vi)(a:ZC P w K mg jX 1 "is_sign" ["sign"] WW):∀ n:Nat,ZC P w K mg jX (n+1) "fits" zEp (Y4 n)
 | 0=>L.of λ_ _ _=>ZJ7
 | n+1=>L.of λ_ _ F=>FQ F T b a (Jn T L b a n)
end Tw
namespace Tw
open PySem PySem.Spec L2 PyProof.Rows
variable{jg jh CS CT CH CK CP CB:aj}
def Ag{H:Hp}{b:jF}{c:je}(h:jR H (XW b) c):GW H (b.map (·.1)) c:=by
 let j:c.length=b.length:=by have:=h.length;rw[<-this];exact zX _
 exists by rw[zX];exact j
 intro i u e;let⟨a,l,m,g,d,f,k,_⟩:=MJ h e;exists a,l,m,d,f;rw[zT,zH,g];exact k
def BS:ZB zE4 zE4 (Zf KC):=YA
def ZKB:ZB zEu zEu (Zf J9):=YA
def Ej:ZB ["keys"] ["keys"] (Zf Kl):=YA
def KI{c:Type}{R:c->c->Prop}:∀{l:List c},l.Pairwise R->∀{i j:Nat}{a b:c},i<j->l[i]? = some a->l[j]? = some b->R a b
 | [],_,_,_,_,_,_,h,_=>by simp at h
 | x::l,hp,0,j+1,a,b,_,ha,hb=>by
  simp at ha hb;subst ha;exact(wW.mp hp).1 b (yU hb)
 | x::l,hp,i+1,j+1,a,b,hij,ha,hb=>by
  simp at ha hb;exact KI (wW.mp hp).2 ∅ ha hb
def OU(c:jF):Prop:=(∀ r∈c,r.fit)/\0<c.length/\c.length<=4/\(c.map (·.1)).Pairwise (λa b=>a.lt b=true)
inductive WY(g:je)(H:Hp)(Q:VK)(_:XK):Prop
 |mk(l:aj)(e:je)(d:jF)(_:g=[.ref l])(_:H l=some (.lst e))(_:jR H (XW d) e)(_:OU d)(_:∀(b:Hp)(c:aj)(a:je),ZD H b->H c=none->b c=some (.lst a)->jR b (XW d) a->Q (.ref c) b)
def Vr:ZB ["rows","own"] zEu (Zf Jq):=YA
def Vj(a:jF):ZZ:=⟨0,a,[]⟩
inductive XE(jg jh:aj)(r:je)(H:Hp)(Q:VK)(_:XK):Prop
 |mk(S d n l:aj)(c:jr)(h:jo)(k:Nat->jo)(m:Nat->Nat)(j:jy)(e:List (ZW×V))(p q:je)(i:jF)(_:r=[.ref S,.ref l])(_:YQ jg jh H S d n c h k m j e p)(_:h.length<=900)(_:H l=some (.lst q))(_:jR H (XW i) q)(_:OU i)(_:∀(g:Hp)(a:YM),H a.x=none->H a.th=none->H a.ab=none->(∀ b o,b≠S->b≠d->H b=some o->g b=some o)->YQ jg jh g S d n (c++[Vj i]) (h++[c.length]) (WT c.length k) (Yy c.length m) (j++[a]) (YX e (.inl (c.length:Int)) (.ref a.x)) p->Q (.int (c.length:Nat)) g)
def VD:ZB ["self","rows","own"] zE9 (Zf JZ):=YA
def Kw{jg jh:aj}{H:Hp}{S d h:aj}{j:jr}{b:jo}{e:Nat->jo}{g:Nat->Nat}{c:jy}{a:List (ZW×V)}{i:je}(R:YQ jg jh H S d h j b e g c a i):a.length=b.length:=by
 have:=congrArg xL R.keys;simpa using this
def ZIE(F:Zn K "put_leaf" "Shelf.put_leaf" JZ f fd)(L:YT K mg jg jh)(DC:ZC P w K mg jX 9 "checked_rows" zEu WY)(DL:ZC P w K mg jX 1 "label_of_rows" zEu Xv)(DT:ZA P w K mg jX Zd 3 jg "put_twig" zEv (XL jg jh)):
  ZH P w K mg jX Zd 10 f fd zE9 (XE jg jh):=by
 refine F.ko VD λa1 A a0 s H vs Q E O h=>?_;let⟨S,d,lk,l,ts,lv,av,ho,as,X,ls,us,a,rfl,R,y,hl,hk,G,k⟩:=h;let nd:=VD.nd;let T:=O.mono (show 1<=9 by lia)
 let U:=O.mono (show 3<=9 by lia)
 intro Xc;refine⟨_,ZP (Zx 2 nd (Zr DC O (ZT (pv 1))))
  (ZV (Zl (YL (E:=E0) (pv 0) L.cS DT U XJ (Ze (pv 2) (Zr DL T (ZT (pv 2))))))),?_⟩
 exists _,Z,l,us,a,Z,hl,hk,G;intro H1 p i s1 B u m;let R1:=R.same s1;let⟨dx,hS⟩:=R1.sh.self;let lu:i.length=a.length:=by have:=m.length;rw[<-this];exact zX _
 let Y:(a.map (·.1)).length=a.length:=zX _;exists _,Z,S,dx,_,Z,hS,Z,_,Z,_,Z,p,i,a.map (·.1),Z,u,Ag m,by rw[lu];exact G.2.1
 intro H2 v s2 W;let q:(Yq (Vj a)).kt=M8 (a.map (·.1)):=by
  let e0:(a.map (·.1)).getD 0 (.int 0)=(a.getD 0 rd).1:=by
   rw[zT,zT,zH];cases a[0]? <;> rfl
  let e1:(a.map (·.1)).getD (a.length-1) (.int 0)=(a.getD (a.length-1) rd).1:=by
   rw[zT,zT,zH];cases a[a.length-1]? <;> rfl
  unfold M8 Yq Vj Yo.kt;rw[Y,e0,e1];rfl
 rw[<-q] at W;let V:=Nj W;let⟨C,a6,a5,rfl,a3,_,_⟩:=V;let V:=Nj W;let c:=s1.trans s2;let R2:=R.same c;exists S,d,lk,ts.length,X,ls,.ref p,.ref C,Z,R2.sh,by rw[Kw R];exact y
 intro D x J nx n I R3 W3;let⟨a2,r⟩:=R2.sh.self;let j:Yb H2 D:=λb ys e=>I b _ (ZE e r) (ZE e R2.sh.kept) e;let g:=s2 _ _ u;let N:D p=some (.lst i):=I _ _ (ZE g r) (ZE g R2.sh.kept) g;let M:J≠p:=(Za g n).symm;let a4:C=C:=rfl;let PP:=FB (t:=Vj a) (x:=x) (th:=p) (tg:=C) (ab:=J) R (H':=D) (λb o n1 n2 e=>I b o n1 n2 (c b o e)) (c.free nx) B (c.free n) M R3 W3
  ⟨i,N,λ_=>m.mono (λb xs e=>j b xs (s2 _ _ e)) _ _,λz=>absurd rfl z⟩ (V.mono j)
 exact k D ⟨x,p,C,J⟩ (c.free nx) B (c.free n) (λb o n1 n2 e=>I b o n1 n2 (c b o e)) PP
def Wm(a:jr)(bs:jo):jF:=bs.flatMap λb=>(gd a b).rows
def WU(a:jr)(bs:jo):ZZ:=⟨(gd a (bs.getD 0 0)).h+1,Wm a bs,bs⟩
def O5(c:jr):jo->Prop
 | a::b::r=>(Yq (gd c a)).hi.lt (Yq (gd c b)).lo=true/\O5 c (b::r)
 | _=>True
def GE{c:jr}:∀{bs:jo},(∀ j,j+1<bs.length->((Yn c bs).getD j .d).hi.lt ((Yn c bs).getD (j+1) .d).lo=true)->O5 c bs
 | [],_=>trivial
 | [_],_=>trivial
 | a::b::r,h=>⟨h 0 (by simp),GE (bs:=b::r) λj e=>h (j+1) (by simp at e⊢;lia)⟩
def N4{t:ZZ}(a:t.rows≠[]):∃ r b,t.rows=r::b/\(Yq t).lo=r.1:=by
 cases e:t.rows with
 | nil=>exact absurd e a
 | cons r b=>exact⟨r,b,Z,by unfold Yq;rw[e];rfl⟩
def JV{t:ZZ}(a:t.rows≠[]):∃ b r,t.rows=b++[r]/\(Yq t).hi=r.1:=by
 rcases sR t.rows with e | ⟨b,r,e⟩
 ·exact absurd e a
 ·rw[sS] at e;exists b,r,e;unfold Yq;rw[e];simp[zT]
def CU{gt:jp}{f:jr}{i:Nat}{t:ZZ}(h:XX gt f i t){x:KT}(a:x∈t.rows.map (·.1)){y:KT}(b:(Yq t).hi.lt y=true):x.lt y=true:=by
 let⟨g,r,e,d⟩:=JV h.ne;let c:=h.up;rw[e,yR] at c a;rw[d] at b;rcases yQ.mp a with a | a
 ·have:=(vH.mp c).2.2 x a r.1 (by simp)
  exact lt_trans' _ _ _ this b
 ·simp at a;rw[a];exact b
def ZPU{l:jp}(f:l.Pairwise λa b=>a.lt b=true){z:KT}(e:l.head? = some z){x:KT}(d:x.lt z=true):∀ y∈l,x.lt y=true:=by
 cases l with
 | nil=>cases e
 | cons a l=>
  simp at e;subst e;intro y c;rcases zF.mp c with rfl | c
  ·exact d
  ·exact lt_trans' _ _ _ d ((wW.mp f).1 y c)
def FI{gt:jp}{ts:jr}(hw:WF gt ts):∀{bs:jo},(∀ b∈bs,b<ts.length)->O5 ts bs->((Wm ts bs).map (·.1)).Pairwise (λa b=>a.lt b=true)/\bs.Nodup
 | [],_,_=>⟨List.Pairwise.nil,List.nodup_nil⟩
 | [a],hb,_=>by
  refine⟨?_,by simp⟩
  have:=(hw a _ (Wx (hb a (by simp)))).up
  simpa [Wm] using this
 | a::b::r,hb,hn=>by
  let⟨h1,h2⟩:=FI hw (bs:=b::r) (λc hc=>hb c (zI _ hc)) hn.2;let oa:=hw a _ (Wx (hb a (by simp)))
  let ob:=hw b _ (Wx (hb b (by simp)))
  let⟨rb,rs,eb,el⟩:=N4 ob.ne;let hd:((Wm ts (b::r)).map (·.1)).head? = some (Yq (gd ts b)).lo:=by
   rw[el];unfold Wm;rw[wP,eb];rfl
  let cross:∀ x∈(gd ts a).rows.map (·.1),∀ y∈(Wm ts (b::r)).map (·.1),x.lt y=true:=λx hx=>ZPU h1 hd (CU oa hx hn.1);refine⟨?_,wK.mpr ⟨λhm=>?_,h2⟩⟩
  ·let e:Wm ts (a::b::r)=(gd ts a).rows++Wm ts (b::r):=by simp[Wm]
   rw[e,yR];exact vH.mpr ⟨oa.up,h1,cross⟩
  ·let⟨ra,rs',ea,_⟩:=N4 oa.ne;let m1:ra.1∈(gd ts a).rows.map (·.1):=by rw[ea];simp
   let m2:ra.1∈(Wm ts (b::r)).map (·.1):=zO.mpr ⟨ra,uT.mpr ⟨a,hm,by rw[ea];simp⟩,Z⟩
   have:=cross _ m1 _ m2;rw[Ml] at this;cases this
def NP{b:jr}{bs:jo}{i:Nat}(a:i<bs.length):(Yn b bs).getD i .d=Yq (gd b (bs.getD i 0)):=by
 unfold Yn;rw[zT,zH,zU a,zT,zU a];rfl
def JE{gt:jp}{c:jr}(C:WF gt c){bs:jo}(u:∀ b∈bs,b<c.length){L:Yo}(h:over (Yn c bs)=some L):
  L=Yq (WU c bs)/\bs.Nodup/\2<=bs.length/\bs.length<=4/\(∀ b∈bs,(gd c b).h+1=(WU c bs).h)/\((Wm c bs).map (·.1)).Pairwise (λa b=>a.lt b=true)/\Wm c bs≠[]:=by
 unfold over at h;split at h
 case isFalse=>cases h
 case isTrue hc=>
  let⟨k,E,Q⟩:=hc;let D:(Yn c bs).length=bs.length:=zX _;rw[D] at k E;let n:=WS.mpr Q;unfold JN at n;rw[D] at n;let x:O5 c bs:=GE λj P=>(n j P).2;let⟨B,y⟩:=FI C u x;let O:∀ i,i<bs.length->((Yn c bs).getD i .d).h=((Yn c bs).getD 0 .d).h:=λi g=>by
   cases i with
   | zero=>rfl
   | succ i=>exact(n i g).1
  let f:∀ i,i<bs.length->bs.getD i 0∈bs:=λi g=>by rw[zT,zU g];exact xD _
  let F:=C _ _ (Wx (u _ (f 0 ∅)))
  let S:=C _ _ (Wx (u _ (f (bs.length-1) ∅)))
  let w:∀ b∈bs,(gd c b).h+1=(WU c bs).h:=λb v=>by
   let⟨i,g,e⟩:=uL v;have:=O i g;rw[NP g,NP ∅] at this
   let p:bs.getD i 0=b:=by rw[zT,zU g,e];rfl
   rw[p] at this;have:=Int.ofNat.inj this;show (gd c b).h+1=(gd c (bs.getD 0 0)).h+1
   lia
  let A:Wm c bs≠[]:=λz=>by
   let⟨r,o,e,_⟩:=N4 F.ne;have:r∈Wm c bs:=uT.mpr ⟨_,f 0 ∅,by rw[e];simp⟩
   rw[z] at this;simp at this
  refine⟨?_,y,k,E,w,B,A⟩;rw[<-zG.inj h];let t:((Yn c bs).getD 0 .d).lo=(Yq (WU c bs)).lo:=by
   rw[NP ∅]
   let⟨r,o,e,s⟩:=N4 F.ne;rw[s]
   cases bs with
   | nil=>simp at k
   | cons b bs=>
    unfold Yq WU Wm;let H:(gd c b).rows=r::o:=e;simp only[wP,H];rfl
  let q:((Yn c bs).getD ((Yn c bs).length-1) .d).hi=(Yq (WU c bs)).hi:=by
   rw[D,NP ∅]
   let⟨o,r,e,s⟩:=JV S.ne;rw[s];rcases sR bs with z | ⟨G,b,z⟩
   ·rw[z] at k;simp at k
   ·rw[sS] at z;let J:bs.getD (bs.length-1) 0=b:=by rw[z];simp[zT]
    rw[J] at e;let N:Wm c bs=Wm c G++o++[r]:=by rw[z];simp[Wm,e]
    unfold Yq WU;simp only[N];simp[zT]
  let M:((Yn c bs).map Yo.m).sum=(Yq (WU c bs)).m:=by
   have:∀ l:jo,((Yn c l).map Yo.m).sum=((Wm c l).length:Int):=λl=>by
    induction l with
    | nil=>rfl
    | cons b l R=>
     let I:Yn c (b::l)=Yq (gd c b)::Yn c l:=rfl;let p:Wm c (b::l)=(gd c b).rows++Wm c l:=by simp[Wm]
     rw[I,p,yP,tW,R,yZ];show ((gd c b).rows.length:Int)+_=_
     lia
   exact this bs
  let K:((Yn c bs).getD 0 .d).h+1=(Yq (WU c bs)).h:=by
   rw[NP ∅]
   show ((gd c (bs.getD 0 0)).h:Int)+1=(((gd c (bs.getD 0 0)).h+1:Nat):Int)
   lia
  rw[t,q,M,K]
def XX.ext{gt:jp}{a:jr}{t:ZZ}{i:Nat}{u:ZZ}(h:XX gt a i u)(p:i<=a.length):XX gt (a++[t]) i u:=by
 exists h.ne,h.up,h.inn,h.leaf;intro z;let⟨g,j,f,k⟩:=h.stem z;let e:∀ b∈u.bs,gd (a++[t]) b=gd a b:=λb d=>QC (by have:=(f b d).1;lia)
 exists g,j,λb d=>⟨(f b d).1,by rw[e b d];exact(f b d).2⟩
 rw[k];clear g j f k;have:∀ l:jo,(∀ b∈l,gd (a++[t]) b=gd a b)->(l.flatMap λb=>(gd a b).rows)=l.flatMap λb=>(gd (a++[t]) b).rows:=λl m=>by
  induction l with
  | nil=>rfl
  | cons b l o=>rw[wP,wP,m b (by simp),o λc n=>m c (zI _ n)]
 exact this _ e
def WF.push{gt:jp}{a:jr}{t:ZZ}(d:WF gt a)(h:XX gt a a.length t):WF gt (a++[t]):=λi u e=>by
 rcases yV i a.length with b | b
 ·rw[wZ b] at e;exact(d i u e).ext (xX b)
 ·rw[xB b] at e;let c:i-a.length=0:=by
   rcases Nat.eq_zero_or_pos (i-a.length) with z | z
   ·exact z
   ·rw[vF (by simp;lia)] at e;cases e
  rw[c] at e;simp at e;subst e;have:i=a.length:=∅
  rw[this];exact h.ext (zY _)
def Ee{gt:jp}{c:jr}(i:WF gt c){bs:jo}(d:∀ b∈bs,b<c.length){L:Yo}(h:over (Yn c bs)=some L):XX gt c c.length (WU c bs):=by
 let⟨_,_,j,k,l,g,e⟩:=JE i d h;refine⟨e,g,λr m=>?_,λz=>absurd z (by show (gd c (bs.getD 0 0)).h+1≠0;lia),λ_=>⟨j,k,λb a=>⟨d b a,l b a⟩,Z⟩⟩
 let⟨b,a,f⟩:=uT.mp m;exact(i b _ (Wx (d b a))).inn r f
abbrev JH:Stmt:=Xy (top 35) 2
structure X9(P:am)(w:aw)(K:zZ)(mg:jb)(jX:aD)(k:Nat)(x:Str)(ps:jq)(sp:Sp):Prop where
 ex:∃ f fd,ZH P w K mg jX (Zg P w) k f fd ps sp/\YB K fd ps []/\yX K (.ref f)=true/\mg x=some (.ref f)
inductive Z7(gt:jp)(jg jh CS CT CH:aj)(r:je)(H:Hp)(Q:VK)(E:XK):Prop
 |mk(S d p l:aj)(e:jr)(g:jo)(n:Nat->jo)(k:Nat->Nat)(j:jy)(i:List (ZW×V))(q:je)(m:jw)(_:r=[.ref S,.ref l])(_:YQ jg jh H S d p e g n k j i q)(_:WF gt e)(_:g.length<=800)(_:∀ b,b∈g->(n b).length<=800)(_:H l=some (.lst (m.map V.int)))(_:m.length<=100)(_:∀ x,m.find? (λx=>!Z2 g x)=some x->VH CT x E H)(_:∀ bs:jo,m=bs.map (λb:Nat=>(b:Int))->(∀ b∈bs,b∈g)->(over (Yn e bs)=none->∀ h,ZD H h->E (.ref CS) none h)/\(over (Yn e bs)≠none->∀ b,bs.find? (λb=>decide (k b=0))=some b->VH CH (b:Nat) E H)/\(over (Yn e bs)≠none->bs.find? (λb=>decide (k b=0))=none->∀(h:Hp)(a:YM),H a.x=none->H a.th=none->H a.ab=none->(∀ c o,c≠S->c≠d->(∀ b:Nat,b∈g->c≠(j.getD b .d).x/\c≠(j.getD b .d).ab)->H c=some o->h c=some o)->YQ jg jh h S d p (e++[WU e bs]) (g++[e.length]) (UD bs e.length (WT e.length n)) (Wj bs (Yy e.length k)) (j++[a]) (YX i (.inl (e.length:Int)) (.ref a.x)) q->Q (.int (e.length:Nat)) h))
abbrev Cg:jq:=["self","numbers","branches","label","number"]
def VE:ZB Cg zEe (Zf JH):=YA
def GB{gt:jp}{c:jr}(g:WF gt c){bs:jo}(e:∀ b∈bs,b<c.length)(i:Nat):((Yn c bs).getD i .d).fit:=by
 rcases yV i bs.length with a | a
 ·rw[NP a];refine Jm (g _ _ (Wx (e _ ?_)));rw[zT,zU a];exact xD _
 ·rw[zT,vF (by unfold Yn;rw[zX];exact a)]
  exact ZPW
def Ob{X:Cx}{E:XK}{k:Nat}{x:Str}{r:jq}{i:Sp}{e:Expr}{a:jx}{t:TA}{p c:aK}(D:X9 X.prog X.w X.K X.mg X.base k x r i)(n:Zc k X.A)(o:Vl (Zg X.prog X.w) X E)(j:PA X (e::a) t)(l:Gl X x:=by rfl)(d:(x==("__debug__" : Str))=false:=by decide)(h:ar (e::a) X.env=(false,aI e X.env)::ar a X.env:=by rfl)(g:(aG c (ar a X.env)).any (·.1)=false:=by rfl):PE X (.Call (.Name x p) (e::a) [] c) (OI i [] E t):=by
 let⟨f,fd,F,b,q,m⟩:=D.ex;exact Ge F n l m q b .nil o j d h g
def Da{gt:jp}(F:Zn K "put_stem" "Shelf.put_stem" JH f fd)(T:YY mg)(L:YT K mg jg jh)(DL:ZA P w K mg jX (Zg P w) 5 jg "labels_of" zEe (Yt jg jh CT))(DO:X9 P w K mg jX 9 "label_over" ["labels"] (Vc CS))(DC:ZA P w K mg jX (Zg P w) 3 jg "check_held" zEe (Yj jg jh CH))(DT:ZA P w K mg jX Zd 3 jg "put_twig" zEv (XL jg jh))(DK:ZA P w K mg jX Zd 2 jg "take_over" zEz (Xh jg jh)):
  ZH P w K mg jX (Zg P w) 10 f fd zEe (Z7 gt jg jh CS CT CH):=by
 refine F.kD VE λc9 A c6 s H vs Q E hr h=>?_;let⟨S,d,lk,l,g,lv,av,X,B,u,ls,n,rfl,R,hw,c8,I,hl,M,k1,k2⟩:=h;let nd:=VE.nd;let c4:=hr.mono (show 5<=9 by lia)
 let a0:=hr.mono (show 3<=9 by lia)
 let c3:=hr.mono (show 2<=9 by lia)
 intro Xc;refine⟨_,ZP (Zx 2 nd (Vy Q9 rfl T.list QD (ZT (pv 1))))
  (ZP (Zx 3 nd (Ob (E:=E) DO hr (Yv Yl λ_ _ _ h=>h) (ZT (YL (E:=E) (pv 0) L.cS DL c4 (Yv Yl λ_ _ _ h=>h) (ZT (pv 2))))))
  (ZP (WB (YL (E:=E) (pv 0) L.cS DC a0 (Yv Yl λ_ _ _ h=>h) (ZT (pv 2))))
  (ZP (Zx 4 nd (YL (E:=E0) (pv 0) L.cS DT a0 XJ (Ze (pv 2) (pv 3))))
  (ZP (WB (YL (E:=E0) (pv 0) L.cS DK c3 XJ (Ze (pv 4) (pv 2))))
  (ZV (Zl (pv 4))))))),?_⟩
 exists _,Z,l,n.map V.int,Z,.inl (ZM.of hl);intro D nD;let g1:=ZX nD (.lst (n.map V.int));let p:upd H D (.lst (n.map V.int)) D=some (.lst (n.map V.int)):=ZO;generalize upd H D (.lst (n.map V.int))=H1 at g1 p⊢;let R1:=R.same g1;let⟨a3,a9⟩:=R1.sh.self;exists _,Z,S,a3,_,Z,a9,Z,_,Z,S,d,lk,D,g,lv,av,X,B,u,ls,n,Z,R1,p,M,λx hx=>(k1 x hx).mono g1;intro bs eb C D2 us H2 s2 e8 a8 W;let⟨q1,q2,q3⟩:=k2 bs eb C;let r:∀ b∈bs,b<g.length:=λb h=>R.lt b (C b h);let e6:n.length=bs.length:=by rw[eb,zX]
 let e7:us.length=bs.length:=by rw[W.1];exact zX _
 let a1:=g1.trans s2;refine⟨D2,us,Yn g bs,Z,a8,W,GB hw r,∅,λH3 s3=>⟨λm=>q1 m H3 (a1.trans s3),λLb v m kv=>?_⟩⟩
 let Y:over (Yn g bs)≠none:=by rw[m];exact λz=>nomatch z
 let⟨eL,c2,e0,e1,e2,e5,e3⟩:=JE hw r m;subst eL;let y:=a1.trans s3;let R3:=R.same y;let⟨a4,c0⟩:=R3.sh.self;let eI:n.map V.int=iN bs:=by rw[eb,zJ];rfl
 let N:H3 D=some (.lst (iN bs)):=by rw[<-eI];exact s3 _ _ (s2 _ _ p)
 exists _,Z,S,a4,_,Z,c0,Z,_,Z,S,d,lk,D,g,lv,av,X,B,u,ls,bs,Z,R3,N,C,λb hf=>(q2 Y b hf).mono y;intro hf H4 s4;let a:=y.trans s4;let R4:=R.same a;let⟨a5,q⟩:=R4.sh.self;let kl:=Nj kv;let⟨G,i1,i0,rfl,e4,_,_⟩:=kl;let c5:=(Nj kv).mono (ZD.tups s4);let j:=s4 _ _ N;exists _,Z,S,a5,_,Z,q,Z,_,Z,_,Z,S,d,lk,g.length,u,ls,.ref D,.ref G,Z,R4.sh,by rw[Kw R];lia
 intro H5 x J nx k fr R5 W5;let a2:Yb H4 H5:=λb ys e=>fr b _ (ZE e q) (ZE e R4.sh.kept) e;let O:H5 D=some (.lst (iN bs)):=fr _ _ (ZE j q) (ZE j R4.sh.kept) j;let PP:=FB (t:=WU g bs) (x:=x) (th:=D) (tg:=G) (ab:=J) R (H':=H5) (λb o n1 n2 e=>fr b o n1 n2 (a b o e)) (a.free nx) nD (a.free k) (Za j k).symm R5 W5
  ⟨iN bs,O,λz=>absurd z (by show (gd g (bs.getD 0 0)).h+1≠0;lia),λ_=>rfl⟩ (c5.mono a2)
 let⟨a6,c1⟩:=R5.self;let el:B.length=g.length:=R.len;let aL:∀ b,b∈lv->(B++[(⟨x,D,G,J⟩:YM)]).getD b .d=B.getD b .d:=λb C=>K4 (by have:=R.lt b C;lia)
 let aN:(B++[(⟨x,D,G,J⟩:YM)]).getD g.length .d=⟨x,D,G,J⟩:=by rw[<-el];exact II
 let en:(g++[WU g bs]).length=g.length+1:=by simp
 refine⟨_,Z,S,a6,_,Z,c1,Z,_,Z,_,Z,S,d,lk,D,_,_,_,_,_,_,ls,bs,g.length,Z,PP,O,c2,λb i=>?_,λb i=>?_,λH6 a7 e9 R6=>⟨_,Z,?_⟩⟩
 ·let U:=C b i;let c7:=r b i;let nb:b≠g.length:=∅
  let h0:X b≠0:=by
   have:=vU.mp hf b i;simpa using this
  exists xM _ U,?_
  ·rw[show Yy g.length X b=X b from aP nb];lia
  ·rw[show WT g.length av b=av b from aP nb];have:=I b U;lia
 ·rcases yQ.mp i with c | c
  ·rw[aL b c];exact(Za (R.tw b c).tw.above nD).symm
  ·rw[yY.mp c,aN];exact Za j k
 ·refine q3 Y hf H6 ⟨x,D,G,J⟩ (a.free nx) nD (a.free k) (λc o n1 n2 n3 e=>?_) R6;refine a7 c o (λb i=>?_) (fr c o n1 n2 (a c o e));rcases yQ.mp i with z | z
  ·rw[aL b z];exact n3 b z
  ·rw[yY.mp z,aN];exact⟨Za e (a.free nx),Za e (a.free k)⟩
abbrev IW:Stmt:=Xy (top 35) 15
def LZ{g h:aj}{H l:Hp}{S d n:aj}{w:jr}{v:jo}{r:Nat->jo}{u:Nat->Nat}{q:jy}{j:List (ZW×V)}{A k:je}(R:YQ g h H S d n w v r u q j A)(f:∀ b o,b≠n->H b=some o->l b=some o)(y:l n=some (.lst k)):YQ g h l S d n w v r u q j k:=by
 let⟨⟨x,s⟩,t,a⟩:=R.sh;let m:Yb H l:=λc C e=>f c _ (ZE e a) e;refine⟨⟨⟨x,f _ _ (ZE s a) s⟩,f _ _ (ZE t a) t,y⟩,R.keys,R.val,R.lt,R.len,λi p=>?_,R.own,R.two⟩;let W:=R.tw i p;let⟨B,z⟩:=W.tw.self;exact W.frame m (λo e=>f _ _ (ZE z a) e) (λo e=>f _ _ (R.own i p).2.2.1 e) (λo e=>f _ _ (R.own i p).2.1 e)
structure XB(gt:jp)(jg jh:aj)(H:Hp)(S d lk:aj)(ts:jr)(lv:jo)(av:Nat->jo)(ho:Nat->Nat)(as:jy)(kvs:List (ZW×V))(ls:je):Prop where
 sh:YQ jg jh H S d lk ts lv av ho as kvs ls
 wf:WF gt ts
 vl:Lv ts lv
 av:∀ i,i∈lv->av i=abv ts lv i
 live:∀ i,i∈lv->1<=(abv ts lv i).length+ho i
 l800:ts.length<=800
inductive Wa(gt:jp)(jg jh CD:aj)(n:je)(H:Hp)(Q:VK)(E:XK):Prop
 |mk(S d l:aj)(e:jr)(a:jo)(k:Nat->jo)(b:Nat->Nat)(h:jy)(c:List (ZW×V))(m:je)(i:Nat)(_:n=[.ref S,.int (i:Nat)])(_:XB gt jg jh H S d l e a k b h c m)(_:i∈a)(_:∀ v g,ZD H g->Sh e a b i none->Q v g)(_:∀ j,Sh e a b i (some j)->VH CD (j:Nat) E H)
abbrev Dz:jq:=["self","number","road","above"]
def Va:ZB Dz zEa (Zf Ma):=YA
def Ko(l:jo)(b:Nat):X8 (iN (l++[b])) (-1)=some (.int (b:Nat)):=by
 have:iN (l++[b])=iN l++[.int (b:Nat)]:=by simp[iN]
 rw[this];exact Jt _ _
def AI{gt:jp}(F:Zn K "road_up" "Shelf.road_up" Ma f fd)(L:YT K mg jg jh)(N:XN P w K mg jX "Shared" CD)(DT:ZA P w K mg jX Zd 1 jg "twig_of" zEa (Z4 jg))(DH:ZA P w K mg jX Zd 2 jg "holders" zEa (X0 jg jh λ_ k us=>.int ((us.length:Nat)+(k:Nat):Int))):ZH P w K mg jX (Zg P w) 3 f fd zEa (Wa gt jg jh CD):=by
 refine F.kD Va λa0 A X s H vs Q E G h=>?_;let⟨S,d,lk,e,l,av,k,t,y,ls,i,rfl,U,hi,k1,k2⟩:=h;let nd:=Va.nd;let T:=G.mono (show 1<=2 by lia)
 intro Xc;refine⟨_,ZP (Zx 2 nd (Yp (ZT (pv 1)))) (ZV (N2 NZ (YU Vw)
  (ZP (Zo (YI PQ (YL (E:=E0) (pv 0) L.cS DH G XJ (ZT (Zs K (pv 2) (Q6 Pi ZJ)))) ZJ (Zz _)) (ZV (Je Yl N G (ZT (Zs K (pv 2) (Q6 Pi ZJ))) rfl)) Zt)
  (ZP (Zx 3 nd (WC (YL (E:=E0) (pv 0) L.cS DT T XJ (ZT (Zs K (pv 2) (Q6 Pi ZJ)))) rfl))
  (ZP (Zo (YI (MA G.units0) (pv 3) (Yp Zw) (Zz _)) (ZV (Zl (pv 2))) Zt)
  (ZV (WB (V6 yL xO xN Uo (pv 2) (ZT (Zs K (pv 3) ZJ)))))))))),?_⟩
 exists _,Z,Zu;intro r nr;refine⟨λm σ H'=>∃(b:Nat)(I:jo)(k3:jf),m=e.length-b/\σ=[some (.ref S),some (.int (i:Nat)),some (.ref r),k3]/\ZD H H'/\H' r=some (.lst (iN (I++[b])))/\I.length<=b/\b∈l/\∀ o,Sh e l k b o->Sh e l k i o,
  ⟨_,i,[],none,Z,Z,ZX nr _,ZO,yT _,hi,λ_ z=>z⟩,?_⟩
 rintro m σ H1 ⟨b,I,k3,rfl,rfl,Y,B,rl,u,up⟩;refine⟨_,Z,Z3 ⟨_,λ_ _ z=>z,?_⟩⟩;let p:=U.sh.same Y;let⟨dx,hS⟩:=p.sh.self;let W:=p.tw b u;let⟨dt,hx⟩:=W.tw.self;let J:=U.av b u;let lI:(iN (av b)).length=(abv e l b).length:=by rw[J];exact zX _
 refine⟨_,Z,S,dx,_,Z,hS,Z,_,Z,1,Z,.inl ⟨r,_,_,.int (b:Nat),Z,Z,ZM.of B,Ko _ _,S,d,lk,e.length,y,ls,(b:Int),_,_,_,_,_,_,Z,⟨p.sh,p.val b u,W.tw⟩,?_⟩⟩;exists _,_,Z,Z,_,Z;refine X7 (λc=>?_) (λc=>?_)
 ·let D:(abv e l b).length+k b≠1:=λz=>by
   have:=of_decide_eq_true c;rw[lI] at this
   lia
  refine⟨_,Z,1,Z,.inl ⟨r,_,_,.int (b:Nat),Z,Z,ZM.of B,Ko _ _,_,Z,λdd M=>(k2 b (up _ (.here D))).go Y M⟩⟩
 ·let D:(abv e l b).length+k b=1:=by
   have:¬ ((1:Int)<((iN (av b)).length:Nat)+(k b:Nat)):=λz=>c (aO z);rw[lI] at this;have:=U.live b u
   lia
  refine⟨_,Z,S,dx,_,Z,hS,Z,_,Z,1,Z,.inl ⟨r,_,_,.int (b:Nat),Z,Z,ZM.of B,Ko _ _,S,d,lk,e.length,y,ls,(b:Int),.ref (t.getD b .d).x,Z,p.sh,p.val b u,(t.getD b .d).x,jh,dt,_,.ref (t.getD b .d).ab,Z,hx,L.cT,L.nab,Z,?_⟩⟩;exists _,Z,Zu;intro e0 O;let C:=ZX O (.lst []);let a:=C _ _ W.tw.above;let g:=C _ _ B;let n:=Y.trans C;exists (t.getD b .d).ab,e0,_,Z,Z,ZM.of a,ZM.of ZO,_,Z;generalize upd H1 e0 (.lst [])=H3 at C a g n⊢
  cases v:abv e l b with
  | nil=>
   rw[J,v,show (iN ([]:jo)).isEmpty=true from rfl];exact Z3 ⟨_,Z,k1 _ H3 n (up _ (.top D v))⟩
  | cons j q=>
   rw[J,v] at a⊢;rw[show (iN (j::q)).isEmpty=false from rfl];let jl:=Ly U.wf U.vl (i:=b) (j:=j) (by rw[v];exact zK)
   let jt:=U.vl.lt j jl.2;let l8:=U.l800;refine Zm ⟨_,Z,.inl ⟨Z,_,ZM.of g⟩,_,Z,.inl ⟨(t.getD b .d).ab,_,0,.int (j:Nat),Z,Z,ZM.of a,X1 (j:=0) Z,r,_,.int (j:Nat),Z,Z,g,Ye (by simp[iN];lia),?_⟩⟩
   refine⟨e.length-j,∅,j,I++[b],_,Z,Z,Qa n nr,?_,by simp;lia,jl.2,λo R=>up o (.up D v R)⟩
   rw[ZO];simp[iN]
structure XD(K:zZ)(mg:jb)(CD:aj):Prop where
 at_:mg "Shared" = some (.ref CD)
 ty:yM K (.ref CD)=some (.type "type")
 mB:zE K CD (.type "BaseException")=some true
 self:zE K CD (.ref CD)=some true
inductive VS(gt:jp)(jg jh:aj)(m:je)(H:Hp)(Q:VK)(_:XK):Prop
 |mk(S d k:aj)(g:jr)(b:jo)(j:Nat->jo)(e:Nat->Nat)(h:jy)(a:List (ZW×V))(l:je)(i:Nat)(o:jM)(_:m=[.ref S,.int (i:Nat)])(_:XB gt jg jh H S d k g b j e h a l)(_:i∈b)(_:Sh g b e i o)(_:∀ c,ZD H c->Q (.bl o.isNone) c)
def FY:ZB zEa zEa (Zf Lm):=YA
def ZKd{gt:jp}(F:Zn K "alone" "Shelf.alone" Lm f fd)(L:YT K mg jg jh)(N:XD K mg CD)(m:ZA P w K mg jX (Zg P w) 3 jg "road_up" zEa (Wa gt jg jh CD)):ZH P w K mg jX Zd 4 f fd zEa (VS gt jg jh):=by
 refine F.ko FY λu A c s H vs Q E I h=>?_;let⟨S,d,J,R,O,r,G,q,b,M,i,o,rfl,U,C,l,k⟩:=h;let⟨Y,y,p,n,t⟩:=m.ex;intro V;exists _,ZP (ZGc (λ_=>pv 0) L.cS p n I t (λ_=>ZT (pv 1)) Z Z Z N.at_ N.ty N.mB (λX T=>ZV (Zl Vw))) (ZV (Zl Vw));let⟨x,B⟩:=U.sh.sh.self;refine⟨_,Z,S,x,_,Z,B,Z,_,Z,S,d,J,R,O,r,G,q,b,M,i,Z,U,C,λv a g z=>?_,λj D W a g e=>?_⟩
 ·cases l.uniq z;exact k a g
 ·cases l.uniq D;exact⟨CD,Z,N.self,k a g⟩
inductive Xq(jg jh:aj)(n:je)(H:Hp)(Q:VK)(_:XK):Prop
 |mk(S d l:aj)(k:jr)(j:jo)(h:Nat->jo)(i:Nat->Nat)(g:jy)(a:List (ZW×V))(m:je)(_:n=[.ref S])(_:YQ jg jh H S d l k j h i g a m)(_:∀(e:Hp)(c:aj),H c=none->(∀ b o,b≠S->H b=some o->e b=some o)->YQ jg jh e S d c k j h i g a []->Q .non e)
def ZLn:ZB zEi zEi (Zf IW):=YA
def C7(F:Zn K "forget" "Shelf.forget" IW f fd)(L:YT K mg jg jh):ZH P w K mg jX Zd 1 f fd zEi (Xq jg jh):=by
 refine F.ko ZLn λG A u s H vs Q E X h=>?_;let⟨S,d,y,B,lv,T,V,O,J,Y,rfl,R,k⟩:=h;intro N;exists _,ZV (Pb (pv 0) (Yp Zw) Z);exists Zu;intro p g;let v:=ZX g (.lst []);let C:=R.same v;let⟨q,t⟩:=C.sh.self;exists _,Z,S,jg,q,_,Z,t,L.cS,L.nl,zA Z;let D:S≠p:=λz=>by rw[z,ZO] at t;cases t
 let l:∀ b o,b≠S->H b=some o->upd (upd H p (.lst [])) S (.ins jg q (XU "looks" (.ref p) (Qp d y B.length))) b=some o:=λb o n e=>by rw[ZU n];exact v _ _ e
 let⟨⟨U,a⟩,x,I⟩:=R.sh;let m:Yb H (upd (upd H p (.lst [])) S (.ins jg q (XU "looks" (.ref p) (Qp d y B.length)))):=λc xs e=>l c _ (ZE e a) e;refine k _ p g l ⟨⟨⟨q,ZO⟩,l _ _ (ZE x a) x,(by rw[ZU (Ne.symm D)];exact ZO)⟩,R.keys,R.val,R.lt,R.len,λi j=>?_,λi j=>?_,R.two⟩
 ·let W:=R.tw i j;let⟨M,r,_⟩:=W.things;exact W.frame m (λo e=>l _ _ (R.own i j).1 e) (λo e=>l _ _ (ZE r a) e) (λo e=>l _ _ (ZE W.tw.above a) e)
 ·let⟨M,r,_⟩:=(R.tw i j).things;exact⟨(R.own i j).1,Za (R.tw i j).tw.above g,Za r g,(R.own i j).2.2.2⟩
end Tw
namespace L2
open PySem PySem.Spec PyProof.Rows
def LD:ai->Bool
 | .bool b=>b
 | _=>false
def IS:∀{bs:jQ}{a:jd},ZR (bs.map V.bl) a->a=bs.map Value.bool
 | [],_,.nil=>rfl
 | b::bs,_,.cons r t=>by
  let e:_=Value.bool b:=r;rw[e,IS t];rfl
inductive Qi(x:V)(a:je)(H:Hp)(Q:VK):Prop
 |mk(l:aj)(bs:jQ)(_:x=.ref l)(_:a=[.bl true])(_:H l=some (.lst (bs.map V.bl)))(_:Q (.int (bs.countP id:Nat)) H)
def Cs:Ow X "list.count" Qi:=by
 intro a s A H x w v t Q I m k h;let⟨l,bs,rfl,rfl,f,q⟩:=h;cases m;let⟨u,rfl,j⟩:=k.one;cases(show u=Value.bool true from j);let⟨z,i,n,r,p,e⟩:=I.lstM f;let d:=IS r;subst d;refine call_meets F.slot_list_count ⟨_,e,Z⟩ F.entry_list_count (F.args_list_count_2 _ _) (PySem.SeqAt.list_countAt l _ n none #[] (.bool true) LD) ⟨e,λy g=>?_,?_⟩
 ·let⟨b,o,rfl⟩:=zO.mp (sF.mp g)
  cases b with
  | true=>exact MN (y:=.bl true) (x:=.bl true) Z Z Z Z
  | false=>exact MN (y:=.bl false) (x:=.bl true) Z Z Z Z
 ·refine⟨.int (bs.countP id:Nat),H,I.tok _,⟨s.toks,?_⟩,q⟩;let c:(bs.map Value.bool).toArray.toList.countP LD=bs.countP id:=by
   rw[tE,List.countP_map];rfl
  rw[c]
inductive QR(x:V)(a:je)(H:Hp)(Q:VK):Prop
 |mk(l:aj)(bs:jQ)(j:Nat)(_:x=.ref l)(_:a=[.bl true])(_:H l=some (.lst (bs.map V.bl)))(_:bs[j]? = some true)(_:∀ i,i<j->bs[i]? = some false)(_:j<1000)(_:Q (.int (j:Nat)) H)
def Dw:Ow X "list.index" QR:=by
 intro t s M H x L v K Q I G E h;let⟨l,bs,j,rfl,rfl,A,p,k,f,q⟩:=h;cases G;let⟨u,rfl,D⟩:=E.one;cases(show u=Value.bool true from D);let⟨z,C,n,r,J,e⟩:=I.lstM A;let w:=IS r;subst w;let g:j<bs.length:=(yH.mp p).1;let c:j<(bs.map Value.bool).toArray.size:=by simpa using g
 let a:∀ m (d:m<(bs.map Value.bool).toArray.size) b,bs[m]? = some b->LD (bs.map Value.bool).toArray[m]=b:=λm d b o=>by
  have:(bs.map Value.bool).toArray[m]? = some (Value.bool b):=by simp[o]
  rw[vE d] at this;rw[zG.inj this];rfl
 refine call_meets F.slot_list_index ⟨_,e,Z⟩ F.entry_list_index (F.args_list_index_2 _ _) (PySem.SeqAt.list_indexAt l _ n none #[] (.bool true) LD j c nofun (a j c true p) (λm d i=>a m d false (k m i))) ⟨e,λy B=>?_,?_⟩
 ·let⟨b,o,rfl⟩:=zO.mp (sF.mp B)
  cases b with
  | true=>exact MN (y:=.bl true) (x:=.bl true) Z Z Z Z
  | false=>exact MN (y:=.bl false) (x:=.bl true) Z Z Z Z
 ·exact⟨.int (j:Nat),H,I.tok _,⟨_,Z⟩,q⟩
def Al{K:zZ}{o:Expr}{f:TE}{b a p:aK}{j:Nat}(h:PE X o f)(c:attributeBase o "count" X.env (aI o X.env)=aI o X.env:=by rfl)(e:((aG a (ar [.Constant (.bool true) j p] X.env)).all (λx=>!x.1)&&(backToKw a (keywordEach [] X.env)).all (λx=>x.1.isSome)
   && decide (([.Constant (.bool true) j p]:jx).length+([]:List Keyword).length+(if ([]:List Keyword).isEmpty then 0 else 1)<30))=true:=by rfl)(d:(b.endLine==a.line)=true:=by rfl)(g:X.K=K:=by rfl):
  PE X (.Call (.Attribute o "count" b) [.Constant (.bool true) j p] [] a) (Lg K "list" Qi f (Z9 (tC (.bl true)) Y0)):=by
 subst g;exact V6 yL PySem.F.slot_list_count PySem.F.type_list_count Cs h (Zj Vw Zw) c e d
def ZLW{K:zZ}{o:Expr}{f:TE}{b a p:aK}{j:Nat}(h:PE X o f)(c:attributeBase o "index" X.env (aI o X.env)=aI o X.env:=by rfl)(e:((aG a (ar [.Constant (.bool true) j p] X.env)).all (λx=>!x.1)&&(backToKw a (keywordEach [] X.env)).all (λx=>x.1.isSome)
   && decide (([.Constant (.bool true) j p]:jx).length+([]:List Keyword).length+(if ([]:List Keyword).isEmpty then 0 else 1)<30))=true:=by rfl)(d:(b.endLine==a.line)=true:=by rfl)(g:X.K=K:=by rfl):
  PE X (.Call (.Attribute o "index" b) [.Constant (.bool true) j p] [] a) (Lg K "list" QR f (Z9 (tC (.bl true)) Y0)):=by
 subst g;exact V6 yL rF rD Dw h (Zj Vw Zw) c e d
end L2
namespace Tw
open PySem PySem.Spec L2 PyProof.Rows
variable{jg jh CS CT CH CK CP CB:aj}
def Ce{X:Cx}{K:zZ}{e:Expr}{b:TE}{f:Str}{a:aK}(g:PE X e b)(d:attributeBase e f X.env (aI e X.env)=aI e X.env)(c:X.K=K:=by rfl):PE X (.Attribute e f a) (HB K b f):=by
 subst c;exact CM g d
structure Nm(K:zZ)(mg:jb)(CB:aj)(C:Nat->aj):Prop where
 base:mg "TwigError" = some (.ref CB)
 ty:yM K (.ref CB)=some (.type "type")
 mB:zE K CB (.type "BaseException")=some true
 n0:mg "NoKey" = some (.ref (C 0))
 n1:mg "NoLeaf" = some (.ref (C 1))
 n2:mg "NoStem" = some (.ref (C 2))
 n3:mg "NoTwig" = some (.ref (C 3))
 n4:mg "NotHeld" = some (.ref (C 4))
 n5:mg "Shared" = some (.ref (C 5))
structure XC(K:zZ)(CB:aj)(C:Nat->aj)(j:Nat):Prop where
 exc:Wc K (C j)
 sub:zE K (C j) (.ref CB)=some true
 val:yW K (.ref (C j)) (.type "ValueError")=some true
 k:∀ i,i<6->yW K (.ref (C j)) (.ref (C i))=some (decide (i=j))
def Pr:Nat->Str
 | 0=> "key"
 | 1=> "leaf"
 | 2=> "stem"
 | 3=> "twig"
 | 4=> "held"
 | _=> "shared"
def Dq(K:zZ)(d:aj)(C:Nat->aj)(Q:VK):XK:=λcls g b=>∃ j,j<6/\cls=.ref (C j)/\XC K d C j /\
 ((j<3/\∀ a t,ZD b a->a t=some (.tup [.str (Pr j)])->Q (.ref t) a) \/
  (3<=j/\∃ c x e,g=some c/\b c=some (.xd [("number",.int x)])/\Y5 K (C j) e "number" /\ ∀ a t,ZD b a->a t=some (.tup [.str (Pr j),.int x])->Q (.ref t) a))
inductive YN(P:am)(w:aw)(K:zZ)(mg:jb)(jX:aD)(g:aj)(C:Nat->aj)(h:je)(H:Hp)(Q:VK)(_:XK):Prop
 |mk(f:aj)(fd c:ao)(b:Sp)(_:h=[.ref f])(_:ZH P w K mg jX (Zg P w) 70 f fd [] b)(_:∀ s,BindsTo s fd ⟨[],[]⟩ [])(_:H f=some (XH f { cls:=.type "function",data:=.func c }))(_:∀(e:VK)(d:XK),(∀ v a,(∀ t:aj,a t=none->Q (.ref t) (upd a t (.tup [.str "told",v])))->e v a)->(∀ cls o a,Dq K g C Q cls o a->d cls o a)->b [] H e d)
abbrev Bj:jq:=["_law_call_here","_law_found","e","_law_flags","_law_at"]
def Uc:ZB Bj zEw (Zf Jh):=YA
abbrev fl6(j:Nat):jQ:=[decide (0=j),decide (1=j),decide (2=j),decide (3=j),decide (4=j),decide (5=j)]
def ZLe{CB:aj}{C:Nat->aj}(F:Zn K "_law_asked" "_law_asked" Jh f fd)(T:YY mg)(L:Nm K mg CB C):ZH P w K mg jX Zd 71 f fd zEw (YN P w K mg jX CB C):=by
 refine F.ko Uc λa3 A a2 s H vs Q E hr h=>?_;let⟨g,gd,M,a4,rfl,FL,bL,hg,a0⟩:=h;let y:=Uc.nd;intro Xc;refine⟨_,ZP (Zx 1 y P1)
  (ZP (AG (i:=2) (j:=1) (q:=0) FL hr bL rfl (Or.inl rfl) rfl rfl rfl rfl L.base y rfl rfl L.ty L.mB
   (λa E'=>ZP (Zx 3 y (Yp (Pu (Zq (r:=X6 K) OS rfl T.isi Yx (Ze (pv 2) (Wn (v:=.ref (C 0)) rfl L.n0 rfl))) (Zq (r:=X6 K) OS rfl T.isi Yx (Ze (pv 2) (Wn (v:=.ref (C 1)) rfl L.n1 rfl)))
     (Zq (r:=X6 K) OS rfl T.isi Yx (Ze (pv 2) (Wn (v:=.ref (C 2)) rfl L.n2 rfl))) (Zq (r:=X6 K) OS rfl T.isi Yx (Ze (pv 2) (Wn (v:=.ref (C 3)) rfl L.n3 rfl))))))
    (ZP (Zx 3 y (Z1 P4 (pv 3) (Yp (Ze (Zq (r:=X6 K) OS rfl T.isi Yx (Ze (pv 2) (Wn (v:=.ref (C 4)) rfl L.n4 rfl))) (Zq (r:=X6 K) OS rfl T.isi Yx (Ze (pv 2) (Wn (v:=.ref (C 5)) rfl L.n5 rfl)))))))
    (ZP (Zo (PW.pt (Vh (YI Qs (Al (K:=K) (pv 3)) ZJ (Zz _))
     (Up (Xj (YU (Zq (r:=X6 K) OS rfl T.isi Yx (Ze (pv 2) (Xi (v:=.ty "ValueError") rfl T.ValueError ZE6 rfl)))))))) Xa Zt)
    (ZP (Zx 4 y (ZLW (K:=K) (pv 3)))
    (ZP (Zo (YI ND (pv 4) ZJ (Zz _)) (ZV (Zl (Yg (ZT (Zs K (Yp (MM Yk Yk Yk)) (pv 4)))))) Zt)
    (ZV (Zl (Yg (Ze (Zs K (Yp (MM Yk Yk Yk)) (Z1 Ql (pv 4) ZJ)) (Ce (pv 2) (by rfl))))))))))) rfl rfl)
  (ZV (Zl (Yg (Ze Yk (pv 1)))))),?_⟩
 exists Z,⟨M,hg⟩;refine a0 _ _ (λv B k2=>?_) λcls z B k2=>?_
 ·exact⟨_,Z,Zu,λt n=>k2 t n⟩
 ·let⟨j,hj,rfl,b,u⟩:=k2;exists C j,Z,b.sub;intro a S;let g1:=ZX S (XO PL a (C j) z);let d:NU (upd B a (XO PL a (C j) z)) a (C j):=CV ZO;let l:upd B a (XO PL a (C j) z) a=some (XO PL a (C j) z):=ZO;generalize upd B a (XO PL a (C j) z)=H3 at g1 d l⊢;exists _,Z,a,C j,_,_,Z,d,b.exc,Z,b.k 0 ∅,_,Z,a,C j,_,_,Z,d,b.exc,Z,b.k 1 ∅,_,Z,a,C j,_,_,Z,d,b.exc,Z,b.k 2 ∅,_,Z,a,C j,_,_,Z,d,b.exc,Z,b.k 3 ∅,Zu
  intro l1 W;let g2:=ZX W (.lst [.bl (decide (0=j)),.bl (decide (1=j)),.bl (decide (2=j)),.bl (decide (3=j))]);let o:=d.mono g2;exists _,Z,_,Z,a,C j,_,_,Z,o,b.exc,Z,b.k 4 ∅,_,Z,a,C j,_,_,Z,o,b.exc,Z,b.k 5 ∅,Zu
  intro l2 X;let g3:=ZX X (.lst [.bl (decide (4=j)),.bl (decide (5=j))]);exists l1,l2,_,_,Z,Z,g3 _ _ ZO,ZO,Zu;intro p hp;let g4:=ZX hp (.lst ([V.bl (decide (0=j)),.bl (decide (1=j)),.bl (decide (2=j)),.bl (decide (3=j))]++[.bl (decide (4=j)),.bl (decide (5=j))]));let G:=(g2.trans g3).trans g4;generalize N:upd (upd (upd H3 l1 (.lst [.bl (decide (0=j)),.bl (decide (1=j)),.bl (decide (2=j)),.bl (decide (3=j))])) l2 (.lst [.bl (decide (4=j)),.bl (decide (5=j))])) p (.lst ([V.bl (decide (0=j)),.bl (decide (1=j)),.bl (decide (2=j)),.bl (decide (3=j))]++[.bl (decide (4=j)),.bl (decide (5=j))]))=H4 at G⊢;let D:H4 p=some (.lst ((fl6 j).map V.bl)):=by rw[<-N];exact ZO
  let a1:=d.mono G;let I:=G _ _ l;let e:=g1.trans G;let m:(fl6 j).countP id=1:=by
   have:j=0\/j=1\/j=2\/j=3\/j=4\/j=5:=∅
   rcases this with rfl | rfl | rfl | rfl | rfl | rfl <;> rfl
  let U:(fl6 j)[j]? = some true:=by
   have:j=0\/j=1\/j=2\/j=3\/j=4\/j=5:=∅
   rcases this with rfl | rfl | rfl | rfl | rfl | rfl <;> rfl
  let Y:∀ i,i<j->(fl6 j)[i]? = some false:=λi hi=>by
   have:j=0\/j=1\/j=2\/j=3\/j=4\/j=5:=∅
   have:i=0\/i=1\/i=2\/i=3\/i=4:=∅
   rename_i h1
   rcases h1 with rfl | rfl | rfl | rfl | rfl | rfl <;> rcases this with rfl | rfl | rfl | rfl | rfl <;> first | rfl | lia
  exists _,Z,.inl ⟨Z,_,ZM.of D⟩,p,_,Z,Z,D,Z,_,Z;refine NM (by rw[m];rfl) ?_
  refine⟨_,Z,a,C j,_,_,Z,a1,b.exc,Z,b.val,_,Z,Zm ?_⟩;exists _,Z,.inl ⟨Z,_,ZM.of D⟩,p,_,j,Z,Z,D,U,Y,by lia
  exists _,Z,_,_,Z,Z,_,Z;rcases u with ⟨j3,u⟩ | ⟨j3,dx,x,fI,rfl,R,O,u⟩
  ·rw[aO (show (j:Int)<3 by lia)]
   refine Z3 ⟨Zu,λl3 c=>⟨_,Z,.inl ⟨l3,_,_,.str (Pr j),Z,Z,ZM.of ZO,?_,Zu,λt n=>?_⟩⟩⟩
   ·have:j=0\/j=1\/j=2:=∅
    rcases this with rfl | rfl | rfl <;> rfl
   ·exact u _ t ((e.trans (ZX c _)).trans (ZX n _)) ZO
  ·rw[aM (show ¬ (j:Int)<3 by lia)]
   refine Zm ⟨Zu,λl3 c=>?_⟩;let J:=ZX c (.lst [.str "twig",.str "held",.str "shared"]);refine⟨_,Z,_,_,Z,Z,.inl ⟨l3,_,_,.str (Pr j),Z,Z,ZM.of ZO,?_,?_⟩⟩
   ·have:j=3\/j=4\/j=5:=∅
    rcases this with rfl | rfl | rfl <;> rfl
   ·exists _,Z,PL,a,C j,dx,_,.int x,fI,Z,J _ _ I,J _ _ (e _ _ R),O,Z,Zu;intro t n;exact u _ t ((e.trans J).trans (ZX n _)) ZO
end Tw
namespace L2
open PySem PySem.Spec PyProof.Rows
inductive UN(b:zZ)(c:je)(H:Hp)(Q:VK):Prop
 |mk(p:aj)(a:jw)(_:c=[.ref p])(_:ZM b H p (a.map V.int))(_:a≠[])(_:∀ m,m∈a->(∀ x∈a,x<=m)->Q (.int m) H)
def Lk(E:X.calm=true):Vf X (.builtin "max") (UN X.K):=by
 intro A s V H U T Q I r h;let⟨p,o,rfl,G,n,q⟩:=h;let⟨u,rfl,N⟩:=V5 r;cases N;let⟨L,O,M,S⟩:=I.list G;let b:=IX O;let⟨a,e⟩:=b.allInts.items;let y:=M.isList;rw[e] at y;let w:a.toList.map (·.1)=o:=by
  rw[<-nums_intItems,<-e];exact b.numsOf
 let f:a.size=o.length:=by rw[<-w];simp
 let g:0<a.size:=by
  rw[f];exact vI.mpr n
 refine max_intList (I.ok.hd E) y g λv R P z F=>?_;let⟨B,t⟩:=argBest_gt (numAt a) (a.size-1);generalize argBest (λi j=>decide (numAt a i > numAt a j)) (a.size-1)=j at z B t;let m:j<a.size:=∅
 let d:∀ i (b:i<a.size),numAt a i=a[i].1:=λi b=>by unfold numAt;simp[b]
 let D:v=.int (numAt a j) a[j].2:=by
  have:=z;unfold intItems at this;simp[m] at this;rw[d j m];exact this.symm
 let c:∀ i (b:i<a.size),o[i]? = some (numAt a i):=λi b=>by rw[<-w,d i b];simp[b]
 refine⟨.int (numAt a j),H,I.kept (t':=P) F,⟨_,D⟩,q _ (yU (c j m)) λx J=>?_⟩;let⟨i,k,C⟩:=uL J;let l:i<a.size:=∅
 have:=c i l;rw[zU k,C] at this;rw[zG.inj this];exact t i ∅
end L2
namespace Tw
open PySem PySem.Spec L2 PyProof.Rows
inductive Uk(x:V)(c:je)(H:Hp)(Q:VK):Prop
 |mk(l:aj)(b:je)(a:jp)(v:V)(t:KT)(j:Nat)(_:x=.ref l)(_:c=[v])(_:H l=some (.lst b))(_:jR H a b)(_:ZG H t v)(_:∀ k∈a,k.depth<=100)(_:a[j]? = some t)(_:∀ i k,i<j->a[i]? = some k->k.eqb t=false)(_:j<1000)(_:Q (.int (j:Nat)) H)
open Classical in
def ZJI{k:Nat}(V:Zc (k+3) X.A):Ow X "list.index" Uk:=by
 intro N s σ H x vs v us Q I rx rv h;let⟨l,ws,L,v0,t,j,rfl,rfl,S,U,W,T,K,G,B,q⟩:=h;cases rx;let⟨u,rfl,ru⟩:=rv.one;let⟨z,b,n,r,hl,e⟩:=I.lstM S;let kt:=Mv I t v0 u W ru;let M:=kvals_of I L ws b U r;let lk:=M.length;let C:j<b.length:=by have:=(yH.mp K).1;lia (splits:=8)
 let p:j<b.toArray.size:=by simpa using C
 let f:∀ m (i:m<b.toArray.size),∃ k,L[m]? = some k/\Zb s.heap k b.toArray[m]:=λm i=>by
  let E:m<b.length:=by simpa using i
  let⟨a,d,g⟩:=M.get (zU E);exact⟨a,d,by simpa using g⟩
 let o:∀(y:ai)(a:KT),Zb s.heap a y->decide (∃ k,Zb s.heap k y/\k.eqb t=true)=a.eqb t:=λy a w=>by
  cases c:a.eqb t with
  | true=>exact aO ⟨a,w,c⟩
  | false=>
   refine aM ?_;rintro⟨Y,P,R⟩;let d:=Ln _ _ (Zb.inj a Y y w P);rw[d,R] at c;cases c
 refine call_meets F.slot_list_index ⟨_,e,Z⟩ F.entry_list_index (F.args_list_index_2 _ _) (PySem.SeqAt.list_indexAt l _ n none #[] u (λy=>decide (∃ k,Zb s.heap k y/\k.eqb t=true)) j p nofun ?_ (λm i D=>?_)) ⟨e,λy w=>?_,?_⟩
 ·let⟨a,d,g⟩:=f j p;rw[K] at d;cases d;exact aO ⟨t,g,MO t⟩
 ·let⟨a,d,g⟩:=f m i;rw[o _ a g];exact G m a D d
 ·let⟨m,i,O⟩:=uL (sF.mp w);let⟨a,d,g⟩:=f m (by simpa using i)
  let J:Zb s.heap a y:=by rw[<-O];simpa using g
  rw[o y a J];exact JP a.depth a t _ y u (zY _) J kt ((Zc.key V.in1) (zC (T a (yU d)) nofun))
 ·exact⟨.int (j:Nat),H,I.tok _,⟨_,Z⟩,q⟩
end Tw
namespace Srt
open PySem PySem.W PyProof.Rows
structure QY(lt:Nat->Nat->Bool):Prop where
 asym:∀ i j,lt i j=true->lt j i=false
 trans:∀ i j k,lt j i=false->lt k j=false->lt k i=false
def gt(p:jB)(i:Nat):Nat:=p.getD i 0
def Py(p:jB)(i:Nat):gt p i=(p[i]?).getD 0:=by unfold gt;rw[Array.getD_eq_getD_getElem?]
def Mn{p:jB}{i j:Nat}(a:j<=p.size)(k:Nat):gt (kas_rev p i j) k=if i<=k/\k<j then gt p (i+j-1-k) else gt p k:=by
 rw[Py,Py,Py];unfold kas_rev;rw[getElem?_mirror_all a];split <;> rfl
def At{p:jB}{k l:Nat}(a:k<p.size)(b:l<=k)(x:Nat):gt (bubble p k (k-l)) x=if x=l then gt p k else if l<x/\x<=k then gt p (x-1) else gt p x:=by
 rw[Py,Py,Py,Py,getElem?_bubble a (k-l) ∅]
 let e:k-(k-l)=l:=∅
 rw[e];split
 ·rfl
 ·split <;> rfl
def PB(n:Nat)(p:jB):Prop:=p.Perm (xR (zV n))
def PB.size{n:Nat}{p:jB}(h:PB n p):p.size=n:=by rw[h.size_eq];simp
def PB.lt{n:Nat}{p:jB}(h:PB n p){i:Nat}(a:i<n):gt p i<n:=by
 let b:=h.size;rw[Py,vE ∅]
 have:p[i]'∅∈(xR (zV n)):=h.mem_iff.mp (Array.getElem_mem _)
 simpa using this
def PB.rev{n:Nat}{p:jB}(h:PB n p)(i j:Nat):PB n (kas_rev p i j):=(mirror_perm _ _ _ _).trans h
def PB.bub{n:Nat}{p:jB}(h:PB n p)(i j:Nat):PB n (bubble p i j):=(bubble_perm _ _ _).trans h
section
variable{lt:Nat->Nat->Bool}{n:Nat}{cmp:Nat->Nat->(Bool->al->Prop)->al->Prop}
def Qu(lt:Nat->Nat->Bool)(p:jB)(k:Nat):Prop:=∀ i j,i<=j->j<k->lt (gt p j) (gt p i)=false
def Pd(lt:Nat->Nat->Bool)(p:jB)(k:Nat):Prop:=∀ i j,i<=j->j<k->lt (gt p i) (gt p j)=false
def QY.irr(O:QY lt)(i:Nat):lt i i=false:=by
 cases h:lt i i with
 | false=>rfl
 | true=>exact absurd (O.asym i i h) (by rw[h];decide)
def Ps(lt:Nat->Nat->Bool)(n:Nat)(cmp:Nat->Nat->(Bool->al->Prop)->al->Prop)(s:al):Prop:=∀ i j,i<n->j<n->∀ C:Bool->al->Prop,C (lt i j) s->cmp i j C s
def Kd(O:QY lt)(k:Ps lt n cmp s){p:jB}(e:PB n p):∀(f m N:Nat)(Q:Nat->al->Prop),f+m=N->N<=n->1<=m->Qu lt p m ->
  (∀ a,m<=a->a<=N->Qu lt p a->(a=N\/lt (gt p a) (gt p (a-1))=true)->Q a s)->(kas_asc p f m).kasWp cmp Q s
 | 0,m,N,Q,v,g,w,b,c=>c m (zY _) ∅ b (.inl ∅)
 | f+1,m,N,Q,v,g,w,b,c=>by
  refine k _ _ (e.lt (i:=m) ∅) (e.lt (i:=m-1) ∅) _ ?_
  show (if lt (gt p m) (gt p (m-1))=true then KasT.ret m else kas_asc p f (m+1)).kasWp cmp Q s
  cases l:lt (gt p m) (gt p (m-1)) with
  | true=>rw[aQ rfl];exact c m (zY _) ∅ b (.inr l)
  | false=>
   rw[aP zS];refine Kd O k e f (m+1) N Q ∅ g ∅ (λi j d y=>?_) λa x q r t=>c a ∅ q r t
   rcases yV j m with h | h
   ·exact b i j d h
   ·let o:j=m:=∅
    subst o;rcases yV i j with u | u
    ·exact O.trans _ _ _ (b i (j-1) ∅ ∅) l
    ·have:i=j:=∅
     rw[this];exact O.irr _
def Kg(lt:Nat->Nat->Bool)(p:jB)(m q:Nat):Prop:=q+1<=m/\∀ i j,m-(q+1)<=i->i<m->m-(q+1)<=j->j<m->lt (gt p i) (gt p j)=false
def HN(O:QY lt){p:jB}{m q:Nat}(h:m<=p.size)(e:Kg lt p m q)(b:Pd lt p m):Pd lt (kas_rev p (m-(q+1)) m) m:=by
 let⟨l,d⟩:=e;let g (k:Nat):=Mn (p:=p) (i:=m-(q+1)) h k;intro i j a f;rw[g i,g j];split
 ·rename_i c
  rw[aQ ⟨∅,∅⟩]
  exact d _ _ ∅ ∅ ∅ ∅
 ·rename_i c
  split
  ·exact b _ _ ∅ ∅
  ·exact b _ _ a f
def Li(O:QY lt)(D:Ps lt n cmp s):∀(f:Nat)(p:jB)(m q N:Nat)(Q:jB×Nat×Nat->al->Prop),PB n p->f+m=N->N<=n->Pd lt p m->Kg lt p m q ->
  (∀ a c u,PB n a->m<=c->c<=N->Pd lt a c->Kg lt a c u->Q (a,c,u) s)->(kas_desc f p m q).kasWp cmp Q s
 | 0,p,m,q,N,Q,b,P,F,r,o,x=>x p m q b (zY _) ∅ r o
 | f+1,p,m,q,N,Q,b,P,F,r,o,x=>by
  let S:=o.1;let V:=b.size;refine D _ _ (b.lt (i:=m) ∅) (b.lt (i:=m-1) ∅) _ ?_
  show (if lt (gt p m) (gt p (m-1))=true then (if q > 0 then kas_desc f (kas_rev p (m-(q+1)) m) (m+1) 0 else kas_desc f p (m+1) 0) else .ask (p.getD (m-1) 0) (p.getD m 0) λd=>if d=true then .ret (p,m,q) else kas_desc f p (m+1) (q+1):KasT _).kasWp cmp Q s
  let t:∀ a:jB,PB n a->Pd lt a m->gt a m=gt p m->lt (gt p m) (gt p (m-1))=true->(∀ i,i<m->lt (gt a i) (gt p (m-1))=false)->Pd lt a (m+1):=λa _ w e E R i j v U=>by
   rcases yV j m with h | h
   ·exact w i j v h
   ·let C:j=m:=∅
    subst C;rcases yV i j with l | l
    ·rw[e];exact O.trans _ _ _ (O.asym _ _ E) (R i l)
    ·have:i=j:=∅
     rw[this];exact O.irr _
  cases E:lt (gt p m) (gt p (m-1)) with
  | true=>
   rw[aQ rfl];split
   ·let w:=HN O ∅ o r
    let g (k:Nat):=Mn (p:=p) (i:=m-(q+1)) (j:=m) ∅ k
    refine Li O D f _ (m+1) 0 N Q (b.rev _ _) ∅ F (t _ (b.rev _ _) w (by rw[g m,aP ∅]) E λi T=>?_) ⟨∅,λi j G H I J=>?_⟩ λa c u y K z A B=>x a c u y ∅ z A B
    ·rw[g i];split
     ·exact o.2 _ _ ∅ ∅ ∅ ∅
     ·exact r _ _ ∅ ∅
    ·have:i=j:=∅
     rw[this];exact O.irr _
   ·refine Li O D f _ (m+1) 0 N Q b ∅ F (t _ b r Z E λi T=>r _ _ ∅ ∅) ⟨∅,λi j G H I J=>?_⟩ λa c u y K z A B=>x a c u y ∅ z A B
    have:i=j:=∅
    rw[this];exact O.irr _
  | false=>
   rw[aP zS];refine D _ _ (b.lt (i:=m-1) ∅) (b.lt (i:=m) ∅) _ ?_
   show (if lt (gt p (m-1)) (gt p m)=true then KasT.ret (p,m,q) else kas_desc f p (m+1) (q+1)).kasWp cmp Q s
   cases L:lt (gt p (m-1)) (gt p m) with
   | true=>rw[aQ rfl];exact x p m q b (zY _) ∅ r o
   | false=>
    rw[aP zS];refine Li O D f _ (m+1) (q+1) N Q b ∅ F (λi j v U=>?_) ⟨∅,λi j G H I J=>?_⟩ λa c u y K z A B=>x a c u y ∅ z A B
    ·rcases yV j m with h | h
     ·exact r i j v h
     ·let C:j=m:=∅
      subst C;rcases yV i j with l | l
      ·exact O.trans _ _ _ L (r i (j-1) ∅ ∅)
      ·have:i=j:=∅
       rw[this];exact O.irr _
    ·rcases yV i m with h | h
     ·rcases yV j m with l | l
      ·exact o.2 i j ∅ h ∅ l
      ·let C:j=m:=∅
       subst C;exact O.trans _ _ _ L (o.2 i (j-1) ∅ h ∅ ∅)
     ·let M:i=m:=∅
      subst M;rcases yV j i with l | l
      ·exact O.trans _ _ _ (o.2 (i-1) j ∅ ∅ ∅ l) E
      ·have:i=j:=∅
       rw[this];exact O.irr _
def ZIM{p:jB}{m:Nat}(b:m<=p.size)(c:Pd lt p m):Qu lt (kas_rev p 0 m) m:=λi j a d=>by
 let g (k:Nat):=Mn (p:=p) (i:=0) b k;rw[g i,g j,aQ ⟨∅,∅⟩,aQ ⟨∅,∅⟩]
 exact c _ _ ∅ ∅
def Ht(O:QY lt)(h:Ps lt n cmp s){p:jB}(b:PB n p){m N:Nat}{Q:Nat×jB->al->Prop}(f:1<=m)(l:m<=N)(g:N<=n)(i:Pd lt p m)(j:∀ a c,PB n c->1<=a->a<=N->Qu lt c a->Q (a,c) s):(kas_tail3 m N p).kasWp cmp Q s:=by
 unfold kas_tail3;rw[KasT.kasWp_bind];exact Kd O h (b.rev 0 m) (N-m) m N _ ∅ g f (ZIM (by have:=b.size;lia) i) λa k d e _=>j a _ (b.rev 0 m) ∅ d e
def EZ(O:QY lt)(e:Ps lt n cmp s){p:jB}(q:PB n p){m N:Nat}{Q:Nat×jB->al->Prop}(x:m+1<=N)(d:N<=n)(o:Pd lt p (m+1))(h:∀ a b,PB n b->1<=a->a<=N->Qu lt b a->Q (a,b) s):(kas_descPart m N p).kasWp cmp Q s:=by
 unfold kas_descPart;rw[KasT.kasWp_bind];refine Li O e (N-(m+1)) p (m+1) 0 N _ q ∅ d o ⟨∅,λi j r t u v=>?_⟩ λb a k c w f g l=>?_
 ·have:i=j:=∅
  rw[this];exact O.irr _
 ·let y:=c.size;show (if k > 0 then kas_tail3 a N (kas_rev b (a-(k+1)) a) else kas_tail3 a N b).kasWp cmp Q s
  split
  ·exact Ht O e (c.rev _ _) ∅ f d (HN O ∅ l g) h
  ·exact Ht O e c ∅ f d g h
def E6(O:QY lt)(l:Ps lt n cmp s){p:jB}(a:PB n p){Q:Nat×jB->al->Prop}(F:1<=n)(o:∀ q v,PB n v->1<=q->q<=n->Qu lt v q->Q (q,v) s):(kas_count n p).kasWp cmp Q s:=by
 unfold kas_count;rw[KasT.kasWp_bind];let H:=a.size;refine Kd O l a (n-1) 1 n _ ∅ (zY _) (zY _) (λi j b t=>?_) λm x y c d=>?_
 ·have:i=j:=∅
  rw[this];exact O.irr _
 ·split
  ·exact o m p a x y c
  ·rename_i u
   let G:m<n:=by have:m≠n:=λe=>u (by rw[e];simp);lia
   let z:lt (gt p m) (gt p (m-1))=true:=by
    rcases d with d | d
    ·lia
    ·exact d
   split
   ·rename_i D
    refine l _ _ (a.lt (i:=0) ∅) (a.lt (i:=m-1) ∅) _ ?_
    show (if lt (gt p 0) (gt p (m-1))=true then KasT.ret (m,p) else kas_descPart m n (kas_rev p 0 m)).kasWp cmp Q s
    cases C:lt (gt p 0) (gt p (m-1)) with
    | true=>rw[aQ rfl];exact o m p a x y c
    | false=>
     rw[aP zS];let w:∀ i j,i<m->j<m->lt (gt p i) (gt p j)=false:=λi j E t=>
      O.trans _ _ _ (c j (m-1) ∅ ∅) (O.trans _ _ _ C (c 0 i ∅ E))
     let g (k:Nat):=Mn (p:=p) (i:=0) (j:=m) ∅ k
     refine EZ O l (a.rev 0 m) ∅ (zY _) (λi j b t=>?_) o
     rw[g i,g j];rcases yV j m with h | h
     ·rw[aQ ⟨∅,∅⟩,aQ ⟨∅,∅⟩]
      exact w _ _ ∅ ∅
     ·let r:j=m:=∅
      subst r;rcases yV i j with f | f
      ·rw[aQ ⟨∅,f⟩,aP ∅]
       exact O.trans _ _ _ (O.asym _ _ z) (w _ _ ∅ ∅)
      ·have:i=j:=∅
       rw[this,aP ∅];exact O.irr _
   ·let B:m=1:=∅
    subst B;refine EZ O l a ∅ (zY _) (λi j b t=>?_) o
    rcases yV i j with f | f
    ·let A:i=0:=∅
     let r:j=1:=∅
     subst A r;exact O.asym _ _ z
    ·have:i=j:=∅
     rw[this];exact O.irr _
def Ke(O:QY lt)(m:Ps lt n cmp s){p:jB}(e:PB n p){k:Nat}(q:k<n)(g:Qu lt p k):∀(f l r:Nat)(Q:Nat->al->Prop),l<=r->r<=k->r-l<=f->(∀ i,i<l->lt (gt p k) (gt p i)=false)->(∀ i,r<=i->i<k->lt (gt p k) (gt p i)=true) ->
  (∀ j,j<=k->(∀ i,i<j->lt (gt p k) (gt p i)=false)->(∀ i,j<=i->i<k->lt (gt p k) (gt p i)=true)->Q j s)->(kas_place p k f l r).kasWp cmp Q s
 | 0,l,r,Q,v,t,w,a,b,c=>c l ∅ a λi d=>b i ∅
 | f+1,l,r,Q,v,t,w,a,b,c=>by
  unfold kas_place;split
  ·exact c l ∅ a λi d=>b i ∅
  ·rename_i x
   refine m _ _ (e.lt (i:=k) q) (e.lt (i:=(l+r) / 2) ∅) _ ?_
   show (if lt (gt p k) (gt p ((l+r) / 2))=true then kas_place p k f l ((l+r) / 2) else kas_place p k f ((l+r) / 2+1) r).kasWp cmp Q s
   cases u:lt (gt p k) (gt p ((l+r) / 2)) with
   | true=>
    rw[aQ rfl];refine Ke O m e q g f l ((l+r) / 2) Q ∅ ∅ ∅ a (λi d o=>?_) c
    cases h:lt (gt p k) (gt p i) with
    | true=>rfl
    | false=>
     have:=O.trans _ _ _ (g ((l+r) / 2) i d o) h;rw[u] at this;cases this
   | false=>
    rw[aP zS];refine Ke O m e q g f ((l+r) / 2+1) r Q ∅ t ∅ (λi d=>?_) b c
    exact O.trans _ _ _ (g i ((l+r) / 2) ∅ ∅) u
def FT(O:QY lt)(v:Ps lt n cmp s):∀(f:Nat)(p:jB)(k:Nat)(Q:jB->al->Prop),PB n p->f+k=n->1<=k->Qu lt p k->(∀ o,PB n o->Qu lt o n->Q o s)->(kas_bin f p k).kasWp cmp Q s
 | 0,p,k,Q,e,u,y,c,m=>m p e (by rw[<-u,Nat.zero_add];exact c)
 | f+1,p,k,Q,e,u,y,c,m=>by
  unfold kas_bin;rw[KasT.kasWp_bind];let C:=e.size;refine Ke O v e ∅ c k 0 k _ (yT _) (zY _) ∅ (λi w=>absurd w ∅) (λi w z=>absurd z ∅) λl A a b=>?_
  let g (x:Nat):=At (p:=p) (k:=k) (l:=l) ∅ A x
  refine FT O v f _ (k+1) Q (e.bub _ _) ∅ ∅ (λi j h B=>?_) m
  rw[g i,g j];by_cases t:i=l
  ·rw[aQ t];by_cases d:j=l
   ·rw[aQ d];exact O.irr _
   ·rw[aP d,aQ ⟨∅,∅⟩]
    exact O.asym _ _ (b (j-1) ∅ ∅)
  ·rw[aP t];by_cases d:j=l
   ·rw[aQ d,aP ∅]
    exact a i ∅
   ·rw[aP d];by_cases q:l<i/\i<=k
    ·rw[aQ q,aQ ⟨∅,∅⟩]
     exact c _ _ ∅ ∅
    ·rw[aP q];by_cases r:l<j/\j<=k
     ·rw[aQ r];exact c _ _ ∅ ∅
     ·rw[aP r];exact c _ _ h ∅
def sort_ok(O:QY lt)(b:Ps lt n cmp s)(g:1<=n){Q:jB->al->Prop}(d:∀ p,PB n p->Qu lt p n->Q p s):(kas_sort n).kasWp cmp Q s:=by
 unfold kas_sort;rw[KasT.kasWp_bind];refine E6 O b (p:=xR (zV n)) (Array.Perm.refl _) g λm p c f h a=>?_;show (if m<n then kas_bin (n-max m 1) p (max m 1) else .ret p:KasT _).kasWp cmp Q s
 split
 ·let e:max m 1=m:=∅
  rw[e];exact FT O b (n-m) p m Q c ∅ f a d
 ·let e:m=n:=∅
  subst e;exact d p c a
end
end Srt
namespace Tw
open PySem PySem.Spec L2 PyProof.Rows
section
variable{jW:js}{σ:L2.St}
end
section
variable{jW:js}{σ:L2.St}{H:Hp}
def ZO4{a:aj}{o:HO}(I:ZI X jW σ H s)(l:X.s₀.heap.get? a=none)(t:a≠X.env.locals)(m:∀ x c,X.env.cells.lookup x=some c->c≠a)(y:∀ p∈X.pn++jW,p.1≠a)(v:H a=none)(h:Zk X.prog X.w (upd H a o) s.heap a o):ZI X jW σ (upd H a o) s:=by
 let g:∀{b:aj}{u:HO},H b=some u->b≠a:=fun{b u} e z=>by rw[z,v] at e;cases e
 refine⟨I.ok,I.os,I.bare,⟨I.base.keep,I.base.slot,λb i q n A=>?_,I.base.there,λb k q=>?_,λb i u q=>?_,λb B q=>?_⟩,I.loc,I.cell,?_,λx c e=>?_,λp d=>?_,λb u e=>?_,I.len⟩
 ·rw[ZU (λz=>by rw[z,l] at q;cases q)];exact I.base.free b i q n A
 ·let e:=I.base.tups b k q;rw[ZU (g e)];exact e
 ·let e:=I.base.frzs b i u q;rw[ZU (g e)];exact e
 ·let⟨f,e⟩:=I.base.tbls b B q;exact⟨f,by rw[ZU (g e)];exact e⟩
 ·rw[ZU (Ne.symm t)];exact I.free
 ·rw[ZU (m x c e)];exact I.freeC x c e
 ·let⟨e,n,r⟩:=I.pin p d;exact⟨e,by rw[ZU (y p d)];exact n,r⟩
 ·by_cases j:b=a
  ·subst j;rw[ZO] at e;cases e;exact h
  ·rw[ZU j] at e;exact(I.hok b u e).stay (λ_ _ _ q=>q) (λc q=>by rw[ZU (g q)];exact q) λc k q=>by rw[ZU (g q)];exact q
def ZR.getD{b:je}{a:jd}(r:ZR b a){i:Nat}(h:i<b.length):ZY (b.getD i .non) (a.getD i Value.none):=by
 let⟨u,c,d⟩:=r.get (i:=i) (x:=b[i]) (by simp[h])
 rw[zT,zT,c,zU h];exact d
def HD{b:je}{a:jd}(r:ZR b a):∀(l:jo),(∀ i∈l,i<b.length)->ZR (l.map λi=>b.getD i .non) (l.map λi=>a.getD i Value.none)
 | [],_=>.nil
 | i::l,h=>.cons (ZR.getD r (h i zK)) (HD r l λj c=>h j (zI _ c))
def Fg{b:jp}{a:je}(d:jR H b a):∀(l:jo),(∀ i∈l,i<a.length)->jR H (l.map λi=>b.getD i (.int 0)) (l.map λi=>a.getD i .non)
 | [],_=>.nil
 | i::l,h=>by
  let c:=h i zK;let⟨t,e,g⟩:=d.get (i:=i) (v:=a[i]) (by simp[c])
  refine .cons (show ZG H (b.getD i (.int 0)) (a.getD i .non) from ?_) (Fg d l λj f=>h j (zI _ f));rw[zT,zT,e,zU c];exact g
def range_getD{a:Type}(l:List a)(d:a):(zV l.length).map (λi=>l.getD i d)=l:=by
 apply List.ext_getElem
 ·simp
 ·intro i c b;simp[b]
end
def Xx(t:Int×Int×Int):KT:=.tup [.int t.1,.int t.2.1,.int t.2.2]
def A1(t u:Int×Int×Int):(Xx t).plt (Xx u)=(Xx t).lt (Xx u):=by
 let⟨a,b,c⟩:=t;let⟨d,e,f⟩:=u;unfold Xx;simp only[KT.plt,pltL,KT.lt,ltL,KT.eqb]
def NK(h:aD)(a:jO)(b:jd):Prop:=jS h (a.map Xx) b
def Jf{h:aD}{t:Int×Int×Int}{v:ai}(x:Zb h (Xx t) v):∃(a:aj)(c d e:Tok),v=.ref a/\IsTup h a #[.int t.1 c,.int t.2.1 d,.int t.2.2 e]:=by
 unfold Xx at x;rw[Zb] at x;let⟨a,n,rfl,f,b⟩:=x;rw[jS] at b;let⟨o,k,rfl,c,b⟩:=b;rw[jS] at b;let⟨p,l,rfl,d,b⟩:=b;rw[jS] at b;let⟨q,m,rfl,e,b⟩:=b;rw[jS] at b;subst b;rw[Zb] at c d e;let⟨g,rfl⟩:=c;let⟨i,rfl⟩:=d;let⟨j,rfl⟩:=e;exact⟨a,g,i,j,Z,f⟩
def Dt{t u:Int×Int×Int}{x y:ai}{Q:Bool->al->Prop}(R:Zb s.heap (Xx t) x)(S:Zb s.heap (Xx u) y)(hu:A.units+2<cLine)(h:Q ((Xx t).lt (Xx u)) s):aB (aA prog w) A (keyLt' (tuples' true) x y) Q E s:=by
 let⟨a,m,o,r,rfl,T⟩:=Jf R;let⟨c,v,z,B,rfl,U⟩:=Jf S;let⟨C,D,F⟩:=t;let⟨G,H,I⟩:=u;rw[<-A1] at h;unfold Xx at h;rw[KT.plt,pltL,pltL,pltL,pltL] at h;let⟨⟨X,Y,J,sl⟩,O,M,n,N⟩:=T;let⟨⟨cl2,L,K,V⟩,i,l,n2,g⟩:=U;refine PySem.W.kat_lt O N i g ?_;show PySem.W.KatLex prog w A true _ Q [(.int C m,.int G v),(.int D o,.int H z),(.int F r,.int I B)] 0 s;let d:∀(p q:Int)(j k:Tok)(f:Bool->al->Prop),f ((KT.int p).plt (KT.int q)) s->aB (aA prog w) A (oneLt' false (.int p j) (.int q k)) f (λ_ _=>False) s:=λp q j k f P=>by
  refine PySem.W.kat_one _ _ (HX 0 (.int p) (.int q) A _ _ (by simp[KT.depth]) ⟨j,Z⟩ ⟨k,Z⟩ (by simp[KT.cmp]) (by simp[KT.depth];lia) prog w _ _ ?_)
  exact P
 let b:∀ p q:Int,(KT.int p).eqb (KT.int q)=(p==q):=λp q=>by rw[KT.eqb]
 refine tK (SeqAt.EqAt.int_int C m G v prog w _ _ ?_);refine sJ (λe=>sD ?_) (λe=>sI ?_)
 ·rw[b,e,aQ rfl] at h;refine tK (SeqAt.EqAt.int_int D o H z prog w _ _ ?_);refine sJ (λe=>sD ?_) (λe=>sI ?_)
  ·rw[b,e,aQ rfl] at h;refine tK (SeqAt.EqAt.int_int F r I B prog w _ _ ?_);refine sJ (λe=>sD (PySem.W.kat_nil ?_)) (λe=>sI ?_)
   ·rw[b,e,aQ rfl] at h;exact h
   ·rw[b,e,aP zS] at h;exact d _ _ _ _ _ h
  ·rw[b,e,aP zS] at h;exact d _ _ _ _ _ h
 ·rw[b,e,aP zS,KT.plt] at h;exact oneLt_int h
def GN{h:aD}:∀{ts:jO}{vs:jd},NK h ts vs->∃ b,PySem.W.KatTups h vs b/\b.length=vs.length/\∀ v∈b,∃ k t,v=Value.int k t
 | [],vs,x=>by
  unfold NK at x;rw[wB,jS] at x;subst x;exact⟨[],.nil,Z,λv c=>absurd c (by simp)⟩
 | t::ts,vs,x=>by
  unfold NK at x;rw[yP,jS] at x;let⟨v,r,rfl,m,x⟩:=x;let⟨b,d,e,f⟩:=GN (ts:=ts) (vs:=r) x;let⟨a,l,q,u,rfl,p⟩:=Jf m;let⟨o,j,g,n,i⟩:=p;exists .int t.1 l::b,.cons j g i Z d,by simp[e]
  intro v c;rcases zF.mp c with rfl | c
  ·exact⟨_,_,Z⟩
  ·exact f v c
def AC{f:jO}{a:jd}{Q:PyProof.Rows.SortKind->al->Prop}(j:0<a.length)(h:NK s.heap f a)(d:Q (tuples' true) s):aB (aA prog w) A (keyKind' a.toArray) Q E s:=by
 let⟨g,b,i,c⟩:=GN h;refine PySem.W.kat_kind (T:=.type "int") b ∅ (λv e=>?_) (by decide) d
 let⟨k,t,rfl⟩:=c v e;exact yG.of_pure Z
def ZNb{c:jO}{a:jd}{Q:SortSt->al->Prop}(z:2<=a.length)(l:a.length<64)(h:NK s.heap c a)(I:A.units+2<cLine)(H:∀ (p:jB) (b:SortSt),Srt.PB a.length p->arrOf b=p.map (PySem.W.kas_item (a.toArray.zip a.toArray))->failedOf b=none->Q b s):
  aB (aA prog w) A ((sortRuns').run (SortSt.mk' (tuples' true) (a.toArray.zip a.toArray) #[] 7 none)) (λr e=>Q r.2 e) E s:=by
 let F:c.length=a.length:=by have:=jS.length h;rwa [zX] at this
 refine PySem.W.kat_run (G:=λp e=>e=s/\Srt.PB a.length p) Z z l (λp b e M n o q=>?_) ?_
 ·let⟨rfl,f⟩:=q;exact H p b f n o
 ·refine Srt.sort_ok (lt:=λi j=>((c.map Xx).getD i (.int 0)).lt ((c.map Xx).getD j (.int 0))) ⟨λi j=>Nk _ _,λi j k=>le_trans'⟩ (λi j d D C B=>?_) ∅ λp f N=>⟨Z,f⟩
  unfold PySem.W.kas_ask;let g:∀ i,i<a.length->∃ t,(c.map Xx).getD i (.int 0)=Xx t/\Zb s.heap (Xx t) (a.getD i Value.none):=λi d=>by
   let⟨t,m,v⟩:=jS.get h (zU d);rw[zH] at m;let⟨L,u,rfl⟩:=yA.mp m;exists L,by rw[zT,zH,u];rfl
   rw[zT,zU d];exact v
  let⟨O,x,J⟩:=g i d;let⟨P,y,K⟩:=g j D;refine Dt J K I ?_;rw[<-x,<-y];exact B
section
variable{jW:js}{σ:L2.St}{H:Hp}
def Eh{k:Nat}{l:aj}{L:je}{C:jO}{Q:VK}(hr:Zc (k+2) X.A)(I:ZI X jW σ H s)(hl:ZM X.K H l L)(hk:jR H (C.map Xx) L)(c1:L.length<64)(q:∀ (D:aj) (ws:je) (rs:jO) (U:Hp),ZD H U->H D=none->U D=some (.lst ws)->jR U (rs.map Xx) ws->rs.Perm C->Q (.ref D) U):
  aB (aA X.prog X.w) X.A (call (.builtin "sorted") [.ref l]) (EP X jW σ Q) X.xe s:=by
 let⟨c,rv,pl,hz⟩:=I.list hl;let c0:=rv.length;let a4:=hk.length;rw[zX] at a4;let a9:Zc k X.A.in1.in1:=(Zc.in1 (k:=k+1) hr).in1;refine Calls.call_function_entry kind_sorted plain_sorted entry_sorted (args_sorted1 _) ?_;unfold Builtin.«sorted»;refine aa (m:=checkCount "sorted" 1 1 _) (ad ?_);refine aa (collect_list pl.isList ?_ (by rw[sizeLine_eq];lia))
 refine aa (wpAny_newList ?_ (by rw[sizeLine_eq];lia))
 let y:((s.heap.push (seqObj "list" #[] 0)).update s.heap.objs.size (Obj.mapSeq (· ++ c.toArray))).objs.size=s.heap.objs.size+1:=by rw[Heap.size_update,size_push']
 obtain⟨f,x⟩:∃ f,((s.heap.push (seqObj "list" #[] 0)).update s.heap.objs.size (Obj.mapSeq (· ++ c.toArray))).push (seqObj "list" c.toArray 0)=f:=⟨_,Z⟩;let u:f.get? (s.heap.objs.size+1)=some (seqObj "list" c.toArray 0):=by rw[<-x,<-y];exact yO _ Z
 let P:∀ b o,s.heap.get? b=some o->f.get? b=some o:=λb o z=>by
  let G:b<s.heap.objs.size:=zW z;rw[<-x,Heap.get?_push_ne _ _ _ (by rw[y];exact zM (vW G)),tG _ _ _ _ (zM G),Heap.get?_push_ne _ _ _ (zM G)]
  exact z
 let c4:f.objs.size=s.heap.objs.size+2:=by rw[<-x,size_push',y]
 obtain⟨D,eD⟩:∃ D,s.heap.objs.size+1=D:=⟨_,Z⟩;rw[eD] at u;let F:s.heap.objs.size<=D:=∅
 let j:H D=none:=I.hok.fresh F;let d:VU X jW H D:=I.fpOk F j;let a1:X.s₀.heap.get? D=none:=uI (zC I.sz F);let I1:ZI X jW σ H { s with heap:=f }:=I.kept (t':=s.toks) P;let a0:((s.heap.push (seqObj "list" #[] 0)).update s.heap.objs.size (Obj.mapSeq (· ++ c.toArray))).objs.size=D:=y.trans eD;show aB _ _ _ _ _ { s with heap:=((s.heap.push (seqObj "list" #[] 0)).update s.heap.objs.size (Obj.mapSeq (· ++ c.toArray))).push (seqObj "list" c.toArray 0) };rw[x,a0];refine aa (af (wpAny_call_entry slot_list_sort ⟨_,u,rfl⟩ entry_list_sort ?body (args_list_sort _)));rw[list_sort_plain];refine aa (listItems_at u Z ?_);refine aa (listUpdate_at u Z ?_ (by rw[zL,sizeLine_eq];lia) (yT _))
 let T:=wG.update f D (Obj.mapSeq λ_=>(#[]:jz));obtain⟨e1,J⟩:∃ e1,(f.update D (Obj.mapSeq λ_=>(#[]:jz))).get? D=some (seqObj "list" #[] e1):=⟨_,get?_update_seq u λ_=>#[]⟩;obtain⟨h,M⟩:∃ h,f.update D (Obj.mapSeq λ_=>(#[]:jz))=h:=⟨_,Z⟩;rw[M] at J T;show aB _ _ _ _ _ { s with heap:=f.update D (Obj.mapSeq λ_=>(#[]:jz)) };rw[M];let I2:ZI X jW σ H { s with heap:=h }:=ZI.turned (s:={ s with heap:=f }) (t':=s.toks) (it:=D) I1 (λb o n z=>(T.2 b n).trans z) d.1 d.2.1 d.2.2.2.1 d.2.2.2.2.1 d.2.2.2.2.2;refine aa (seqEpoch_at J Z ?_);refine aa (wpAny_newTuple ?_ (by show c.length<=_;rw[sizeLine_eq];lia))
 refine aa (wpAny_newList ?_ (yT _));refine af ?_;obtain⟨e,N⟩:∃ e,(h.push (seqObj "tuple" c.toArray 0)).push (seqObj "list" #[] 0)=e:=⟨_,Z⟩;let v:∀ b o,h.get? b=some o->e.get? b=some o:=λb o z=>by rw[<-N];exact zQ _ (zQ _ z)
 let I3:ZI X jW σ H { s with heap:=e }:=I2.kept (t':=s.toks) v;let R:e.get? D=some (seqObj "list" #[] e1):=v _ _ J;let sv:NK e C c:=kvals_of I3 _ _ _ hk rv;show aB _ _ _ _ _ { s with heap:=(h.push (seqObj "tuple" c.toArray 0)).push (seqObj "list" #[] 0) };rw[N];dsimp only;let E:∀(p:jB),Srt.PB c.length p->EP X jW σ Q (.ref D) { s with heap:=e.update D (Obj.mapSeq λ_=>xR (p.toList.map λi=>c.getD i Value.none)) }:=by
  intro p hp;let a7:=hp.size;let t:∀ i∈p.toList,i<L.length:=λi hi=>by
   have:i∈(xR (zV c.length)):=hp.mem_iff.mp (rZ.mp hi);have:=(yC.mp (by simpa using this):i<c.length)
   lia
  let a5:p.toList.length=c.length:=by rw[vT,a7]
  let s2:=wG.update e D (Obj.mapSeq λ_=>xR (p.toList.map λi=>c.getD i Value.none));obtain⟨c2,a2⟩:∃ c2,(e.update D (Obj.mapSeq λ_=>xR (p.toList.map λi=>c.getD i Value.none))).get? D=some (seqObj "list" (xR (p.toList.map λi=>c.getD i Value.none)) c2):=⟨_,get?_update_seq R λ_=>xR (p.toList.map λi=>c.getD i Value.none)⟩;let J2:ZI X jW σ H { s with heap:=e.update D (Obj.mapSeq λ_=>xR (p.toList.map λi=>c.getD i Value.none)) }:=ZI.turned (s:={ s with heap:=e }) (t':=s.toks) (it:=D) I3 (λb o n z=>(s2.2 b n).trans z) j d.2.1 d.2.2.2.1 d.2.2.2.2.1 d.2.2.2.2.2;let J3:=ZO4 (a:=D) (o:=.lst (p.toList.map λi=>L.getD i .non)) J2 a1 d.2.1 d.2.2.2.2.1 d.2.2.2.2.2 j ⟨by rw[zX,a5,sizeLine_eq];lia,_,c2,HD rv _ t,a2⟩
  let g:=ZX j (.lst (p.toList.map λi=>L.getD i .non));refine⟨.ref D,_,J3,Z,q D _ (p.toList.map λi=>C.getD i (0,0,0)) _ g j ZO ?_ ?_⟩
  ·have:=Fg (hk.sm g) _ t;let e2:(p.toList.map λi=>(C.map Xx).getD i (.int 0))=(p.toList.map λi=>C.getD i (0,0,0)).map Xx:=by
    rw[zJ];refine uK λi hi=>?_;let c3:=t i hi;let a3:i<C.length:=∅
    simp[zT,zU a3]
   rw[e2] at this;exact this
  ·let a6:p.toList.Perm (zV c.length):=by simpa using Array.perm_iff_toList_perm.mp hp
   have:=a6.map (λi=>C.getD i (0,0,0));rw[show c.length=C.length by lia,range_getD] at this
   exact this
 by_cases h:c.length<2
 ·rw[aQ (by rw[zL];exact h),aQ (by rw[zL];exact h)]
  refine aa (ad (aa (ad ?_)));dsimp only;let e0:((arrOf (SortSt.mk' general' (c.toArray.zip c.toArray) #[] 7 none)).map (·.2))=xR ((xR (zV c.length)).toList.map λi=>c.getD i Value.none):=by
   show ((c.toArray.zip c.toArray).map (·.2))=_;apply Array.toList_inj.mp;rw[Array.toList_map,ksk_zip];simp only[tE];rw[range_getD,List.map_snd_zip ∅]
  rw[e0];refine aa (seqEpoch_at R Z ?_);refine aa (listUpdate_at R Z ?_ (yT _) (by rw[zL,zX,tE,vC,sizeLine_eq];lia))
  simp only[bne_self_eq_false,vV,if_false];exact ad ⟨.none,Z,ad ⟨_,Z,E _ (Array.Perm.refl _)⟩⟩
 ·rw[aP (by rw[zL];exact h),aP (by rw[zL];exact h)]
  refine aa (AC ∅ sv ?_)
  refine aa (Z5 (ZNb (Q:=λB S=>S={ s with heap:=e }/\∃ p:jB,Srt.PB c.length p/\arrOf B=p.map (PySem.W.kas_item (c.toArray.zip c.toArray))/\failedOf B=none)
   ∅ ∅ sv (by let a:=a9.un;lia) λp B Y b3 b4=>⟨Z,p,Y,b3,b4⟩) λr S a8=>?_)
  let⟨⟨⟩,B⟩:=r;let⟨rfl,p,Y,b3,b4⟩:=a8;let O:=PySem.W.kat_snds Z b3;dsimp only;rw[O];refine aa (seqEpoch_at R Z ?_);refine aa (listUpdate_at R Z ?_ (yT _) (by rw[zL,zX,vT,Y.size,sizeLine_eq];lia))
  rw[b4];simp only[bne_self_eq_false,vV,if_false];exact ad ⟨.none,Z,ad ⟨_,Z,E p Y⟩⟩
end
end Tw
namespace L2
open PySem PySem.Spec PyProof.Rows
section
variable{σ:St}{H:Hp}
def Ak{J:It}{K:zZ}{r:jo}{z:TT}{w:TE}{Q:VK}{n:Nat}(h:Nat->V->Prop)(g:aj->Nat->je->Hp->Prop)(S:n<aq)(q:∀ D i b H,i<n->g D i b H->J.go i H)(I:∀ D i b H x k,i<n->g D i b H->J.yld i H x k->k=H/\h i x)(j:∀ D b H,g D n b H->J.stop n H)(B:∀ D,H D=none->g D 0 [] (upd H D (.lst [])))(step:∀ D i b H x,H D=some (.lst b)->b.length<=i->i<n->h i x->g D i b H->∃ a u v,x=.ref a/\Zh K H a [u,v]/\∀ (R:VK) (N:Hp->Prop),(∀ y f,f D=some (.lst b)->g D (i+1) (b++[y]) (upd f D (.lst (b++[y])))->R y f)->(∀ f,f D=some (.lst b)->g D (i+1) b f->N f) ->
   z ([some u,some v]++r.map λi=>(σ[i]?).join) H λc t=>if c=true then w ([some u,some v]++r.map λi=>(σ[i]?).join) t R else N t)(o:∀ D b H,H D=some (.lst b)->g D n b H->Q (.ref D) H):LQ J 2 (KG K) σ r z w H Q:=by
 intro D C;exists λi m H=>m=n-i/\i<=n/\∃ b,H D=some (.lst b)/\b.length<=i/\g D i b H,⟨n,rfl,yT _,[],ZO,zY _,B D C⟩;rintro i m H ⟨rfl,P,b,e,E,p⟩;by_cases d:i<n
 ·refine .inr ⟨q D i b H d p,λx k y M F=>?_⟩;let⟨rfl,L⟩:=I D i b H x k d p y;let⟨a,u,v,rfl,G,O⟩:=step D i b _ x e E d L p
  match M,F with
  | [T,U],_=>
   exists a,_,Z,G,Z,u,_,Z,v,_,Z,Z,⟨[some u,some v],Z,Z⟩;refine O _ _ (λy f l s=>?_) (λf l s=>?_)
   ·exact⟨b,n-(i+1),l,∅,∅,Z,d,b++[y],ZO,by rw[yZ,xA];lia,s⟩
   ·exact⟨n-(i+1),∅,Z,d,b,l,∅,s⟩
 ·let A:i=n:=∅
  subst A;exact .inl ⟨j D b H p,o D b H e p⟩
end
end L2
namespace Tw
open PySem PySem.Spec L2 PyProof.Rows
variable{jg jh CS CT CH CK CP CB:aj}
def IM{X:Cx}{K:zZ}{k:Nat}{o e:Expr}{h:TE}{t:TA}{c a:aK}(m:Zc (k+3) X.A)(l:PE X o h)(j:PA X [e] t)(d:attributeBase o "index" X.env (aI o X.env)=aI o X.env:=by rfl)(g:((aG a (ar [e] X.env)).all (λx=>!x.1)&&(backToKw a (keywordEach [] X.env)).all (λx=>x.1.isSome)
   && decide (([e]:jx).length+([]:List Keyword).length+(if ([]:List Keyword).isEmpty then 0 else 1)<30))=true:=by rfl)(f:(c.endLine==a.line)=true:=by rfl)(n:ar [e] X.env=(false,aI e X.env)::ar [] X.env:=by rfl)(b:(aG a (ar [] X.env)).any (·.1)=false:=by rfl)(i:X.K=K:=by rfl):
  PE X (.Call (.Attribute o "index" c) [e] [] a) (Lg K "list" Uk h t):=by
 subst i;exact V6 yL rF rD (ZJI m) l j d g f n b
inductive OW(f:je)(H:Hp)(Q:VK):Prop
 |mk(l:aj)(b:je)(d:jO)(_:f=[.ref l])(_:H l=some (.lst b))(_:jR H (d.map Xx) b)(_:b.length<64)(_:∀(D:aj)(e:je)(c:jO)(a:Hp),ZD H a->H D=none->a D=some (.lst e)->jR a (c.map Xx) e->c.Perm d->Q (.ref D) a)
def Df{X:Cx}{k:Nat}(e:Zc (k+2) X.A):Vf X (.builtin "sorted") OW:=by
 intro b s n H m i Q I r h;let⟨l,j,g,rfl,d,c,a,q⟩:=h;let⟨u,rfl,f⟩:=V5 r;cases f;exact Eh e I (ZM.of d) c a q
def AO{H:Hp}{k:jO}{l:je}{i:Nat}{u:V}(h:jR H (k.map Xx) l)(e:l[i]? = some u):∃ t a,t∈k/\u=.ref a/\H a=some (.tup [.int t.1,.int t.2.1,.int t.2.2]):=by
 let⟨t,d,c⟩:=h.get e;rw[zH] at d;let⟨r,m,rfl⟩:=yA.mp d;unfold Xx at c;rw[ZG] at c;let⟨a,x,rfl,n,b⟩:=c;rw[jR] at b;let⟨s,o,rfl,f,b⟩:=b;rw[jR] at b;let⟨v,p,rfl,g,b⟩:=b;rw[jR] at b;let⟨w,q,rfl,j,b⟩:=b;rw[jR] at b;subst b;rw[ZG] at f g j;subst f g j;exact⟨r,a,yU m,Z,n⟩
structure Wl(H:Hp)(dT:aj)(ts:jr)(lv:jo)(bs:ju)(kvs:List (ZW×V)):Prop where
 dict:H dT=some (.dK kvs)
 vl:Lv ts lv
 keys:kvs.map (·.1)=lv.map (λi:Nat=>(Sum.inl (i:Int):ZW))
 len:bs.length=ts.length
 tw:∀ i:Nat,i∈lv->∃ tp us,YR kvs (Sum.inl (i:Int))=some (.ref tp)/\H tp=some (.tup [.str (kindOf (gd ts i)),.ref (bs.getD i 0)])/\H (bs.getD i 0)=some (.lst us)/\((gd ts i).h=0->jR H (XW (gd ts i).rows) us)/\((gd ts i).h≠0->us=iN (gd ts i).bs)
def Wl.at{H:Hp}{d:aj}{c:jr}{b:jo}{bs:ju}{a:List (ZW×V)}(h:Wl H d c b bs a):Vp H c b a:=⟨h.keys,λi l=>by
 let⟨m,n,e,f,g,j,k⟩:=h.tw i l;exact⟨_,e,m,_,n,Z,f,g,j,k⟩⟩
def Wl.frame{H H':Hp}{b:aj}{e:jr}{c:jo}{bs:ju}{a:List (ZW×V)}(h:Wl H b e c bs a)(m:Yb H H')(p:H' b=some (.dK a))(n:∀ i:Nat,i∈c->∀ o,H (bs.getD i 0)=some o->H' (bs.getD i 0)=some o):Wl H' b e c bs a:=by
 exists p,h.vl,h.keys,h.len;intro i d;let⟨q,r,f,g,j,k,l⟩:=h.tw i d;exact⟨q,r,f,m _ _ g,n i d _ j,λz=>(k z).mono m _ _,l⟩
def Wl.same{H b:Hp}{c:aj}{f:jr}{d:jo}{bs:ju}{a:List (ZW×V)}(h:Wl H c f d bs a)(s:ZD H b):Wl b c f d bs a:=h.frame (ZD.tups s) (s _ _ h.dict) λi g o e=>s _ _ e
def Wl.sx{H c:Hp}{p d:aj}{f:jr}{b:jo}{bs:ju}{a:List (ZW×V)}(h:Wl H d f b bs a)(W:ZN H p)(k:∀ i:Nat,i∈b->bs.getD i 0≠p)(s:ZF p H c):Wl c d f b bs a:=by
 let⟨l,e⟩:=W.some;exact h.frame (s.tupsW W) (s _ _ h.dict (ZE h.dict e)) λi j o g=>s _ _ g (k i j)
def Wl.lawT{gt:jp}{H:Hp}{e:aj}{d:jr}{f:jo}{bs:ju}{c:List (ZW×V)}(h:Wl H e d f bs c)(i:WF gt d)(g:gt.length=64)(j:gt.Pairwise λa b=>a.lt b=true):Xr gt H e d f c:=⟨h.dict,h.at,h.vl,i,g,j⟩
def IV{gt:jp}(n:gt.Pairwise λa b=>a.lt b=true){t:KT}(h:t∈gt):∃ j,j<gt.length/\gt[j]? = some t/\∀ i k,i<j->gt[i]? = some k->k.eqb t=false:=by
 let⟨j,f,e⟩:=uL h;let d:gt[j]? = some t:=by rw[zU f,e]
 exists j,f,d;intro i k l m;have:=KI n l m d
 cases c:k.eqb t with
 | false=>rfl
 | true=>
  let g:=Ln _ _ c;subst g;rw[Ml] at this;cases this
def J4{gt:jp}{g:jr}{i:Nat}{t:ZZ}(h:XX gt g i t):(Yq t).lo∈gt/\(Yq t).hi∈gt:=by
 let⟨r,j,e,c⟩:=N4 h.ne;let⟨f,d,a,b⟩:=JV h.ne;rw[c,b];exact⟨(h.inn r (by rw[e];simp)).1,(h.inn d (by rw[a];simp)).1⟩
structure Uu(gt:jp)(H:Hp)(gl:aj)(gs:je):Prop where
 at_:H gl=some (.lst gs)
 keys:jR H gt gs
 fit:∀ t∈gt,t.fits 3=true
 len:gt.length=64
 up:gt.Pairwise λa b=>a.lt b=true
def Uu.frame{gt:jp}{H H':Hp}{a:aj}{b:je}(g:Uu gt H a b)(m:Yb H H')(k:H' a=some (.lst b)):Uu gt H' a b:=⟨k,g.keys.mono m _ _,g.fit,g.len,g.up⟩
def Uu.same{gt:jp}{H a:Hp}{b:aj}{c:je}(g:Uu gt H b c)(s:ZD H a):Uu gt a b c:=g.frame (ZD.tups s) (s _ _ g.at_)
def Uu.sx{gt:jp}{H b:Hp}{p a:aj}{c:je}(g:Uu gt H a c)(W:ZN H p)(n:a≠p)(s:ZF p H b):Uu gt b a c:=g.frame (s.tupsW W) (s _ _ g.at_ n)
inductive Uf(gt:jp)(o:je)(H:Hp)(Q:VK)(_:XK):Prop
 |mk(p k j e:aj)(l:jr)(a:jo)(bs:ju)(g c:List (ZW×V))(n:Nat->Nat)(m:je)(_:o=[.ref p,.ref k,.ref j,.ref e])(_:ZN H p)(_:Wl H k l a bs g)(_:∀ i:Nat,i∈a->bs.getD i 0≠p)(_:WF gt l)(_:H j=some (.dK c))(_:Qj c a n)(_:Uu gt H e m)(_:e≠p)(_:0<a.length)(_:a.length<64)(_:∀(d:Hp)(D:aj)(h:jo),ZF p H d->ZN d p->H D=none->d D=some (.lst (iN h))->(∀ b∈h,b∈a)->h.length<=4->Q (.ref D) d)
abbrev Cn:jq:=["_law_well_here","_law_twigs","_law_holds","_law_grid_here","_law_some","_law_run_here","_law_last","_law_at","_law_most","_law_labels","_law_low","_law_top","_law_number"]
def OD:ZB Cn zEg (Zf Jo):=YA
def nd2:(["_law_label_here","_law_number","_law_grid_here","_law_last"]:jq).Nodup:=by decide +kernel
def C3{gt:jp}(F:Zn K "_law_run" "_law_run" Jo f fd)(T:YY mg)(DP:ZC P w K mg jX 1 "_law_pull" zEf YK)(DK:ZC P w K mg jX 2 "_law_picked" zEh YZ)(DL:ZC P w K mg jX 2 "_law_label" zEb (Y8 gt)):
  ZH P w K mg jX Zd 4 f fd zEg (Uf gt):=by
 refine F.ko OD λt8 A t4 s H vs Q E hr h=>?_;let⟨p,dT,dH,gl,ts,d,bs,a8,hvs,ho,gs,rfl,W,Y,bp,hw,r6,hH,G,m2,l0,a0,k⟩:=h;let nd:=OD.nd;let hu:=UC hr;let m8:=hr.mono (show 1<=3 by lia)
 let c4:=hr.mono (show 2<=3 by lia)
 intro Xc;refine⟨_,ZP (LY (i:=4) [2] ["_law_holds"] nd rfl rfl rfl (VN (Zq (Pz rfl) rfl T.sorted PO (ZT (pv 1)))) (λ_ _ _ _ _=>Js (YI PQ (Vg hu (pv 1) (pv 0)) ZJ (Zz _))) (λ_ _ _ _ _=>pv 0) ⟨rfl,.inl rfl,rfl,trivial⟩)
  (ZP (Zo (PW.pt (Vh (YI Y1 (Zr DP m8 (Ze (pv 0) ZJ)) ZJ (Zz _)) (Up (YI (MA hr.units0) (pv 4) (Yp Zw) (Zz _))))) (ZV (Zx 4 nd (Zq (Pz rfl) rfl T.sorted PO (ZT (pv 1))))) Zt)
  (ZP (Zx 5 nd (Yp (ZT (Zr DK c4 (Ze (pv 0) (pv 4))))))
  (ZP (V3 (i:=6) nd rfl (Or.inr rfl) (Zr DL c4 (Ze (pv 1) (Zs K (pv 5) ZJ))))
  (ZP (Zx 7 nd (IM (K:=K) hr (pv 3) (ZT (Zs K (pv 6) ZJ))))
  (ZP (Zx 8 nd (Z1 WJ ZJ (Zr DP m8 (Ze (pv 0) ZJ))))
  (ZP (LY (i:=9) [1] ["_law_twigs"] nd rfl rfl rfl (VN (pv 4)) (λ_ _ _ _ _=>UY) (λ_ _ _ _ _=>Yg (Ze (Zr DL c4 (Ze (pv 1) (pv 0))) (pv 0))) ⟨rfl,.inl rfl,rfl,trivial⟩)
  (ZP (Fa (g:=KG K) ["_law_label_here","_law_number"] "_law_label_here" (i:=4) [3,6] ["_law_grid_here","_law_last"] nd rfl rfl rfl (λ_ _ _ _ _=>ZNf Z nd2 Z Z Z Z) (VN (pv 9))
   (λ_ _ _ _ _=>Js (YI Y1 (Zs K (pv 0) ZJ) (Zs K (pv 3) ZJ) (Zz _)))
   (λ_ _ _ _ _=>Yg (MM (IM (K:=K) hr (pv 2) (ZT (Zs K (pv 0) ZJ))) (IM (K:=K) hr (pv 2) (ZT (Zs K (pv 0) ZJ))) (pv 1)))
   ⟨rfl,.inl rfl,rfl,rfl,.inl rfl,rfl,trivial⟩)
  (ZP (VM PassesOwn.never rfl (VN (Zq (Df c4) rfl T.sorted PO (ZT (pv 4)))) (Pg rfl (Y9 (Yc 10 nd) (Y9 (Yc 11 nd) (Y9 (Yc 12 nd) Pf))))
   (ZV (Zo (PW.pt (Px (YI PQ (pv 10) (pv 7) (Zz _)) (P3 (YI ND (Zq WK rfl T.len Xu (ZT (pv 5))) (pv 8) (Zz _)))))
    (ZP (WB (V6 yL xO xN Uo (pv 5) (ZT (pv 12)))) (ZV (Zx 7 nd (pv 11)))) Zt)))
  (ZV (Zl (pv 5))))))))))),?_⟩
 let eI:(d.map λi:Nat=>(i:Int)).map V.int=iN d:=by rw[zJ];rfl
 let⟨xsP,r9⟩:=W.some;let M:∀ c,H c=none->c≠p:=λc e=>(Za r9 e).symm;let i0:∀ t∈gt,t.depth<=100:=λt ht=>zC (P7 t 3 (G.fit t ht)) ∅
 exists _,Z,dT,a8,d.map λi:Nat=>(i:Int),Z,Y.dict,(by rw[Y.keys,zJ];rfl),Qz Y.vl.up,by simpa using a0
 intro q nq;rw[eI];let g1:=ZX nq (.lst (iN d));let hq:upd H q (.lst (iN d)) q=some (.lst (iN d)):=ZO;generalize upd H q (.lst (iN d))=H1 at g1 hq⊢;refine⟨q,Z,⟨_,ZM.of hq⟩,ED d (λj=>decide (0<ho j)) ∅ (λi H3 s3 hi=>⟨_,.int (d[i]:Nat),ZM.of (s3 _ _ hq),by simp[iN,zU hi]⟩) (λi H3 x H4 s3 hi hy=>⟨hy.1,hy.2 _ (ZM.of (s3 _ _ hq))⟩) (λH3 s3=>⟨_,ZM.of (s3 _ _ hq),by simp[iN]⟩) (λH2 j R hj s2 hR=>?_) (λD5 H2 s2 i6 e5=>?_)⟩
 ·let jl:j∈d:=hj;let hg:YD H2 dH (.int (j:Nat)) (some (.int (ho j:Nat))):=hH.2 j jl ▸ YD.k (k:=Sum.inl (j:Int)) ((g1.trans s2) _ _ r6);let ed:decide (((ho j:Nat):Int) > 0)=decide (0<ho j):=by rw[decide_eq_decide];lia
  exists _,Z,_,Z,dH,.int (ho j:Nat),Z,hg,_,_,Z,Z,_,Z;rw[ed];exact hR
 let i9:=g1.trans s2;let W2:=W.same i9;let n5:H D5=none:=ZD.free g1 i6;let b5:∀ b∈d.filter (λj=>decide (0<ho j)),b∈d:=λb hb=>(wS.mp hb).1;let l5:(d.filter (λj=>decide (0<ho j))).length<64:=xJ (uC _ _) a0;generalize d.filter (λj=>decide (0<ho j))=l at e5 b5 l5;clear hq i6;exists _,Z,p,8,Z,W2,Wh (by decide) (by decide)
 intro r H5 r0 r1 W5 s3;let U:ZF p H H5:=(ZF.of i9).trans s3
 replace e5:=s3 _ _ e5 (M _ n5)
 clear s3 i9 W2 g1 s2;exists Z,_,Z;let L:∀(H6:Hp)(q:aj),ZF p H H6->ZN H6 p->H6 q=none->H q=none:=λH6 q x6 W6 e=>by
  cases z:H q with
  | none=>rfl
  | some o=>
   by_cases y:q=p
   ·subst y;let⟨xs,e'⟩:=W6.some;rw[e'] at e;cases e
   ·rw[x6 _ _ z y] at e;cases e
 refine X7 (λc=>?gT) (λc=>?gE)
 case' gE=>
  exists _,Z,Zu;intro e0 m4;let g0:=ZX m4 (.lst []);exists D5,e0,iN l,Z,Z,ZM.of (g0 _ _ e5),ZM.of ZO,_,Z
  replace e5:=g0 _ _ e5
  replace W5:=W5.same g0
  replace U:=U.trans (ZF.of g0)
  generalize upd H5 e0 (.lst [])=H6 at g0 e5 W5 U⊢;clear g0 m4;refine X7 (λc2=>?gT2) (λc2=>?gF)
 case' gF=>
  let p5:0<l.length:=by
   cases l with
   | nil=>exact absurd Z c2
   | cons _ _=>simp
 case' gT=>
  exists _,Z,dT,a8,d.map λi:Nat=>(i:Int),Z,(Y.sx W bp U).dict,(by rw[Y.keys,zJ];rfl),Qz Y.vl.up,by simpa using a0
  intro D5 nq;rw[eI];let i4:H D5=none:=L _ D5 U W5 nq;let g:=ZX nq (.lst (iN d))
  replace U:=U.trans (ZF.of g)
  replace W5:=W5.same g
  clear n5;let n5:=i4
  replace e5:=ZO (H:=H5) (a:=D5) (o:=HO.lst (iN d))
  replace l5:d.length<64:=by simpa using a0
  let p5:0<d.length:=by simpa using l0
  generalize i2:d=l at l5 p5 W5 U e5 g⊢
  replace b5:∀ b∈l,b∈d:=λb hb=>by rw[i2];exact hb
 case' gT2=>
  exists _,Z,dT,a8,d.map λi:Nat=>(i:Int),Z,(Y.sx W bp U).dict,(by rw[Y.keys,zJ];rfl),Qz Y.vl.up,by simpa using a0
  intro D5 nq;rw[eI];let i4:H D5=none:=L _ D5 U W5 nq;let g:=ZX nq (.lst (iN d))
  replace U:=U.trans (ZF.of g)
  replace W5:=W5.same g
  clear n5;let n5:=i4
  replace e5:=ZO (H:=H6) (a:=D5) (o:=HO.lst (iN d))
  replace l5:d.length<64:=by simpa using a0
  let p5:0<d.length:=by simpa using l0
  generalize i2:d=l at l5 p5 W5 U e5 g⊢
  replace b5:∀ b∈l,b∈d:=λb hb=>by rw[i2];exact hb
 all_goals
  let a5:=M _ n5;exists _,Z,_,Z,p,D5,iN l,Z,W5,a5,e5,by simpa [iN] using p5,by simp[iN];lia
  intro x H7 x7 W7 hx;let⟨b0,r5,rfl⟩:=zO.mp hx;let o2:=U.trans x7;let p3:=x7 _ _ e5 a5;exists Zu;intro X n6;let g8:=ZX n6 (.lst [.int (b0:Nat)]);let h6:upd H7 X (.lst [.int (b0:Nat)]) X=some (.lst [.int (b0:Nat)]):=ZO;let i5:H X=none:=L _ X o2 W7 n6;generalize upd H7 X (.lst [.int (b0:Nat)])=H8 at g8 h6⊢;let o3:=o2.trans (ZF.of g8);let W8:=W7.same g8;let p4:=g8 _ _ p3;let e9:=b5 b0 r5;refine⟨_,Z,_,Z,.inl ⟨X,_,0,.int (b0:Nat),Z,Z,ZM.of h6,Z,dT,b0,ts,d,a8,Z,(Y.sx W bp o3).lawT hw G.len G.up,e9,λH9 v s9 hv=>?_⟩⟩;let⟨ta,vlo,o5,rfl,c5,t6,n3⟩:=hv;let o4:=o3.trans (ZF.of s9);let W9:=W8.same s9;let t3:=hw b0 _ (Wx (Y.vl.lt b0 e9));let⟨j0,t9,p6,t0⟩:=IV G.up (J4 t3).2;let G9:=G.sx W m2 o4;let t7:=G.len;refine⟨_,Z,.inl ⟨Z,_,ZM.of G9.at_⟩,_,Z,.inr (.inl ⟨ta,_,2,o5,rfl,rfl,Zh.of c5,rfl,gl,gs,gt,o5,_,j0,rfl,rfl,G9.at_,G9.keys,n3,i0,p6,t0,∅,?_⟩)⟩
  refine⟨_,Z,p,3,Z,W9,Wh (by decide) (by decide),λr2 l8 r20 r21 o8 c8=>⟨_,_,Z,Z,?_⟩⟩
  let e3:=o4.trans c8;let S:=c8 _ _ (s9 _ _ p4) a5;let e2:=M _ i5;let c9:=c8 _ _ (s9 _ _ h6) e2;let t5:ta≠p:=λz=>by
   let⟨xs,q⟩:=W9.some;rw[z,q] at c5;cases c5
  let m9:=c8 _ _ c5 t5;exists _,Z,D5,Z,⟨_,ZM.of S⟩;refine Ui (n:=l.length) (λi z=>(iN l)[i]? = some z) (λD i ys I=>ZD l8 I/\l8 D=none/\jR I ((l.take i).map λb:Nat=>KT.tup [(Yq (gd ts b)).kt,.int (b:Nat)]) ys) (Ye ∅)
   (λD i ys I hi C=>⟨_,.int (l[i]:Nat),ZM.of (C.1 _ _ S),by simp[iN,hi]⟩) (λD i ys I z o6 hi C hy=>⟨hy.1,hy.2 _ (ZM.of (C.1 _ _ S))⟩) (λD ys I C=>⟨_,ZM.of (C.1 _ _ S),by simp[iN]⟩)
   (λD hD=>⟨ZX hD _,hD,.nil⟩) (λD i ys I z eD r7 hi hz C R hR=>?_) (λD9 a3 l9 c0 C=>?_)
  ·let⟨s',nD,s6⟩:=C;let s7:z=.int (l[i]:Nat):=by
    unfold iN at hz;rw[zH,zU hi] at hz;exact(zG.inj hz).symm
   subst s7;let mi:l[i]∈l:=xD _;let i8:=e3.trans (ZF.of s');refine⟨_,Z,_,Z,dT,l[i],ts,d,a8,Z,(Y.sx W bp i8).lawT hw G.len G.up,b5 _ mi,λe6 v a2 hv=>⟨_,Z,Zu,λtq i7=>?_⟩⟩;let g:=ZX i7 (.tup [v,.int (l[i]:Nat)]);let sA:=a2.trans g;let a4:=sA _ _ eD;let tD:Yb (upd e6 tq (.tup [v,.int (l[i]:Nat)])) (upd (upd e6 tq (.tup [v,.int (l[i]:Nat)])) D (.lst (ys++[.ref tq]))):=λb xs e=>by rw[ZU (ZE e a4)];exact e
   refine hR _ _ a4 ⟨Qa (s'.trans sA) nD,nD,?_⟩;rw[yI,zU hi,yR];exact((s6.sm sA).mono tD _ _).append (.cons (.tup (tD _ _ ZO) (.cons (((hv.key).sm g).mono tD _ _) (.cons (.int _) .nil))) .nil)
  let⟨a9,nD9,a7⟩:=C;rw[yF (zY _)] at a7;let s8:=a7.length;rw[zX] at s8;let e4:=e3.trans (ZF.of a9);let o9:=o8.same a9;let n0:=a9 _ _ m9;exists _,Z,D9,Z,⟨_,ZM.of c0⟩;refine Ak (K:=K) (n:=l.length) (λi z=>a3[i]? = some z) (λD i zs I=>ZD l9 I/\l9 D=none/\∃ O:jO,jR I (O.map Xx) zs/\(∀ t∈O,∃ b:Nat,b∈d/\t.2.2=(b:Int))/\zs.length<=i) (Ye ∅)
   (λD i ys I hi C=>⟨a3,a3[i],ZM.of (C.1 _ _ c0),by simp[show i<a3.length by lia]⟩) (λD i ys I z o6 hi C hy=>⟨hy.1,hy.2 a3 (ZM.of (C.1 _ _ c0))⟩) (λD ys I C=>⟨a3,ZM.of (C.1 _ _ c0),∅⟩)
   (λD hD=>⟨ZX hD _,hD,[],.nil,λt ht=>absurd ht (by simp),zY _⟩) (λD i zs I z eD r7 hi hz C=>?_) (λD4 zs e6 p9 C=>?_)
  ·let⟨s',nD,O,c7,c6,r8⟩:=C;let⟨kt,m0,m6⟩:=a7.get hz;rw[zH,zU hi] at m0;let m1:=(zG.inj m0).symm;subst m1;let mi:l[i]∈l:=xD _;rw[ZG] at m6;let⟨pa,us2,rfl,c3,J⟩:=m6;rw[jR] at J;let⟨v1,r1,rfl,k1,J⟩:=J;rw[jR] at J;let⟨v2,r3,rfl,k2,J⟩:=J;rw[jR] at J;subst J;rw[ZG] at k2;subst k2;let lb:=(Nj k1).mono (ZD.tups s');let⟨tb,n7,m5,rfl,i3,n4,n2⟩:=lb;let i8:=e4.trans (ZF.of s');let G':=G.sx W m2 i8;let s0:=s' _ _ n0;let n9:=hw _ _ (Wx (Y.vl.lt _ (b5 _ mi)));let⟨j1,hj1,p7,t1⟩:=IV G.up (J4 n9).1;let⟨j2,hj2,p8,t2⟩:=IV G.up (J4 n9).2;exists pa,_,_,Z,Zh.of (s' _ _ c3);intro R N hR hN;refine⟨_,Z,.inr (.inl ⟨tb,_,0,_,rfl,rfl,Zh.of i3,rfl,_,rfl,.inr (.inl ⟨ta,_,0,_,rfl,rfl,Zh.of s0,rfl,rfl,_,rfl,?_⟩)⟩)⟩;refine X7 (λc=>?_) (λc=>hN _ eD ⟨s',nD,O,c7,c6,∅⟩)
   refine⟨_,Z,.inl ⟨Z,_,ZM.of G'.at_⟩,_,Z,.inr (.inl ⟨tb,_,1,n7,rfl,rfl,Zh.of i3,rfl,gl,gs,gt,n7,_,j1,rfl,rfl,G'.at_,G'.keys,n4,i0,p7,t1,∅,?_⟩)⟩
   refine⟨_,Z,.inl ⟨Z,_,ZM.of G'.at_⟩,_,Z,.inr (.inl ⟨tb,_,2,m5,rfl,rfl,Zh.of i3,rfl,gl,gs,gt,m5,_,j2,rfl,rfl,G'.at_,G'.keys,n2,i0,p8,t2,∅,?_⟩)⟩
   exists _,Z,Zu;intro tq i7;let g:=ZX i7 (.tup [.int (j1:Nat),.int (j2:Nat),.int (l[i]:Nat)]);let a4:=g _ _ eD;let tD:Yb (upd I tq (.tup [.int (j1:Nat),.int (j2:Nat),.int (l[i]:Nat)])) (upd (upd I tq (.tup [.int (j1:Nat),.int (j2:Nat),.int (l[i]:Nat)])) D (.lst (zs++[.ref tq]))):=λb xs e=>by rw[ZU (ZE e a4)];exact e
   refine hR _ _ a4 ⟨Qa (s'.trans g) nD,nD,O++[((j1:Int),(j2:Int),(l[i]:Int))],?_,λt ht=>?_,by simp;lia⟩
   ·rw[yR];exact((c7.sm g).mono tD _ _).append (.cons (.tup (tD _ _ ZO) (.cons (.int _) (.cons (.int _) (.cons (.int _) .nil)))) .nil)
   ·rcases yQ.mp ht with h | h
    ·exact c6 t h
    ·rw[yY.mp h];exact⟨l[i],b5 _ mi,Z⟩
  let⟨a2,i6,O,c7,c6,r8⟩:=C;let o0:=e4.trans (ZF.of a2);let p0:=o9.same a2;exists _,Z,D4,zs,O,Z,p9,c7,by lia
  intro Ds ws rs o7 l1 n8 m3 s4 i1;let o1:=o0.trans (ZF.of l1);let p1:=p0.same l1;let e1:=l1 _ _ (a2 _ _ (a9 _ _ c9));let l7:Ds≠X:=λz=>by
   rw[z,a2 _ _ (a9 _ _ c9)] at n8;cases n8
  refine⟨Ds,Z,⟨_,ZM.of m3⟩,Qt (K:=K) (a:=Ds) (xs:=ws) (λi σ I=>∃(l2 l3 l6:jf)(e8:Int)(ns:jo),σ=[some (.ref p),some (.ref dT),some (.ref dH),some (.ref gl),some (.ref D4),some (.ref X),some (.ref ta),some (.int e8),some (.int (2+r2)),some (.ref D9),l2,l3,l6]/\(∀ c o,c≠X->o7 c=some o->I c=some o)/\I X=some (.lst (iN ns))/\(∀ b∈ns,b∈d)/\ns.length<=4)
   ⟨_,_,_,_,[b0],Z,λc o _ e=>e,e1,λb hb=>by rw[yY.mp hb];exact e9,by simp⟩ (λi σ I _ C=>?_) ?_ ?_⟩
  ·let⟨_,_,_,_,_,_,k',_⟩:=C;exact ZM.of (k' _ _ l7 m3)
  ·rintro i u σ e7 n1 ⟨l2,l3,l6,e8,ns,rfl,m,B,a6,l4⟩;let⟨t,pa,mt,rfl,c3⟩:=AO s4 n1;let⟨b,hb,eb⟩:=c6 t (i1.subset mt);let m7:=m _ _ (ZE c3 e1) c3;exists pa,_,Z,Zh.of m7,Z,_,_,Z,_,_,Z,_,_,Z,Z;refine⟨_,Z,_,Z,_,_,Z,Z,_,Z,X7 (λc1=>?_) (λc1=>?_)⟩
   ·refine⟨_,Z,X,_,Z,.inl (ZM.of B),_,Z,_,_,Z,Z,_,Z,X7 (λc2=>?_) (λc2=>?_)⟩
    ·let hlt:ns.length<4:=by
      have:=of_decide_eq_true c2;simp[iN] at this
      lia
     exists _,Z,.inl ⟨Z,_,ZM.of B⟩,_,Z,X,_,_,Z,Z,B,Ye (by simp[iN];lia)
     refine⟨_,Z,_,_,_,_,ns++[b],Z,λc o n e=>by rw[ZU n];exact m _ _ n e,?_,λb' r4=>?_,by simp;lia⟩
     ·rw[ZO,eb];simp[iN]
     ·rcases yQ.mp r4 with h | h
      ·exact a6 b' h
      ·rw[yY.mp h];exact hb
    ·exact⟨_,_,_,_,ns,Z,m,B,a6,l4⟩
   ·exact⟨_,_,_,_,ns,Z,m,B,a6,l4⟩
  ·rintro σ e7 ⟨l2,l3,l6,e8,ns,rfl,m,B,a6,l4⟩;let p2:ZN e7 p:=by
    let⟨a1,b1,c1,d1,s1,rr⟩:=p1.ex;exact⟨a1,b1,c1,d1,m _ _ (Ne.symm e2) s1,rr⟩
   exact⟨_,Z,k e7 X ns (λc o e n=>m _ _ (Za e i5) (o1 _ _ e n)) p2 i5 B a6 l4⟩
def HI{a:jr}{b:jo}(d:Lv a b)(t:ZZ)(i:Nat):abv (a++[t]) (b++[a.length]) i=abv a b i++(if i∈t.bs then [a.length] else []):=by
 unfold abv;rw[tJ]
 congr 1
 ·refine tL λj c=>?_;rw[QC (d.lt j c)]
 ·by_cases h:i∈t.bs
  ·simp[PY,h]
  ·simp[PY,h]
def Fo{gt:jp}{a:jr}{b:jo}(d:WF gt a)(c:Lv a b){i:Nat}(h:a.length<=i+1):abv a b i=[]:=by
 cases e:abv a b i with
 | nil=>rfl
 | cons j r=>
  have:=Ly d c (i:=i) (j:=j) (by rw[e];exact zK)
  have:=c.lt j this.2
  lia
def Lv.push{g:jr}{f:jo}{t:ZZ}(h:Lv g f)(d:∀ b∈t.bs,b∈f):Lv (g++[t]) (f++[g.length]):=by
 refine⟨λi e=>?_,λi e b c=>?_,vH.mpr ⟨h.up,uH _ _,λa j b d=>by rw[yY.mp d];exact h.lt a j⟩⟩
 ·rw[yZ,xA];rcases yQ.mp e with z | z
  ·have:=h.lt i z
   lia
  ·rw[yY.mp z]
   lia
 ·rcases yQ.mp e with z | z
  ·rw[QC (h.lt i z)] at c;exact xM _ (h.cl i z b c)
  ·rw[yY.mp z,PY] at c;exact xM _ (d b c)
def JI{gt:jp}{e:jr}{a:jF}(g:OU a)(i:(a.map (·.1)).Sublist gt):XX gt e e.length (Vj a):=by
 let⟨h,c,f,b⟩:=g;refine⟨λz=>?_,b,λr d=>⟨i.subset (zO.mpr ⟨r,d,rfl⟩),h r d⟩,λ_=>⟨Z,f⟩,λz=>absurd Z z⟩;let j:a=[]:=z;rw[j] at c;simp at c
def AW{gt:jp}{c:jF}(h:gt.Pairwise λa b=>a.lt b=true)(f:∀ r∈c,r.fit)(g:(c.map (·.1)).Sublist gt)(d:0<c.length)(e:c.length<=4):OU c:=⟨f,d,e,h.sublist g⟩
def Ft{gt:jp}{f g:aj}{H q:Hp}{S d p:aj}{a:jr}{e:jo}{h:Nat->jo}{j:Nat->Nat}{u l:jy}{o c:List (ZW×V)}{w n:je}{k:jF}(U:XB gt f g H S d p a e h j u o w)(A:a.length<=700)(x:XX gt a a.length (Vj k))(R:YQ f g q S d p (a++[Vj k]) (e++[a.length]) (WT a.length h) (Yy a.length j) l c n):XB gt f g q S d p (a++[Vj k]) (e++[a.length]) (WT a.length h) (Yy a.length j) l c n:=by
 let W:=U.wf.push x;let t:(a++[Vj k]).length=a.length+1:=by simp
 let r:Lv (a++[Vj k]) (e++[a.length]):=U.vl.push λb v=>by cases v
 let s:∀ i,abv (a++[Vj k]) (e++[a.length]) i=abv a e i:=λi=>by
  rw[HI U.vl,aP (by show i∉([]:jo);simp),vZ]
 let inl:∀ i,i∈e++[a.length]->i≠a.length->i∈e:=λi m z=>(yQ.mp m).elim id λy=>absurd (yY.mp y) z;refine⟨R,W,r,λi m=>?_,λi m=>?_,by rw[t];lia⟩
 ·by_cases z:i=a.length
  ·subst z;rw[show WT a.length h a.length=[] from aQ rfl];exact(Fo W r (by rw[t];lia)).symm
  ·rw[show WT a.length h i=h i from aP z,s];exact U.av i (inl i m z)
 ·by_cases z:i=a.length
  ·subst z;rw[show Yy a.length j a.length=1 from aQ rfl]
   lia
  ·rw[show Yy a.length j i=j i from aP z,s];exact U.live i (inl i m z)
def CJ{gt:jp}{j k:aj}{H u:Hp}{S d s:aj}{a:jr}{f:jo}{e:Nat->jo}{c:Nat->Nat}{A m:jy}{r g:List (ZW×V)}{C o:je}{bs:jo}(U:XB gt j k H S d s a f e c A r C)(D:a.length<=700)(p:∀ b∈bs,b∈f){L:Yo}(q:over (Yn a bs)=some L)(B:∀ b∈bs,1<=c b)(R:YQ j k u S d s (a++[WU a bs]) (f++[a.length]) (UD bs a.length (WT a.length e)) (Wj bs (Yy a.length c)) m g o):XB gt j k u S d s (a++[WU a bs]) (f++[a.length]) (UD bs a.length (WT a.length e)) (Wj bs (Yy a.length c)) m g o:=by
 let W:=U.wf.push (Ee U.wf (λb h=>U.vl.lt b (p b h)) q);let x:(a++[WU a bs]).length=a.length+1:=by simp
 let v:Lv (a++[WU a bs]) (f++[a.length]):=U.vl.push p;let w:∀ i,abv (a++[WU a bs]) (f++[a.length]) i=abv a f i++(if i∈bs then [a.length] else []):=λi=>HI U.vl (WU a bs) i
 let inl:∀ i,i∈f++[a.length]->i≠a.length->i∈f:=λi l z=>(yQ.mp l).elim id λy=>absurd (yY.mp y) z;refine⟨R,W,v,λi l=>?_,λi l=>?_,by rw[x];lia⟩
 ·by_cases z:i=a.length
  ·subst z;let t:a.length∉bs:=λy=>by have:=U.vl.lt _ (p _ y);lia
   rw[show UD bs a.length (WT a.length e) a.length=WT a.length e a.length from aP t,show WT a.length e a.length=[] from aQ rfl];exact(Fo W v (by rw[x];lia)).symm
  ·rw[w];let n:WT a.length e i=e i:=aP z;by_cases y:i∈bs
   ·rw[show UD bs a.length (WT a.length e) i=WT a.length e i++[a.length] from aQ y,n,aQ y,U.av i (inl i l z)]
   ·rw[show UD bs a.length (WT a.length e) i=WT a.length e i from aP y,n,aP y,vZ];exact U.av i (inl i l z)
 ·by_cases z:i=a.length
  ·subst z;let t:a.length∉bs:=λy=>by have:=U.vl.lt _ (p _ y);lia
   rw[show Wj bs (Yy a.length c) a.length=Yy a.length c a.length from aP t,show Yy a.length c a.length=1 from aQ rfl]
   lia
  ·rw[w];let n:Yy a.length c i=c i:=aP z;let f:=U.live i (inl i l z);by_cases y:i∈bs
   ·rw[show Wj bs (Yy a.length c) i=Yy a.length c i-1 from aQ y,n,aQ y,yZ,xA];have:=B i y
    lia
   ·rw[show Wj bs (Yy a.length c) i=Yy a.length c i from aP y,n,aP y,vZ];exact f
structure Pl where
 S:aj
 d:aj
 lk:aj
 dT:aj
 dH:aj
 gl:aj
 tl:aj
 as:jy
 bs:ju
structure Md where
 ts:jr
 lv:jo
 av:Nat->jo
 ho:Nat->Nat
def Pl.ab(p:Pl)(i:Nat):Addr:=(p.as.getD i .d).ab
def Pl.th(p:Pl)(i:Nat):Addr:=(p.as.getD i .d).th
def Pl.x(p:Pl)(i:Nat):Addr:=(p.as.getD i .d).x
def Pl.b(p:Pl)(i:Nat):Addr:=p.bs.getD i 0
structure LS(gt:jp)(jg jh:aj)(H:Hp)(a:Pl)(m:Md):Prop where
 sh:∃ kvs ls,XB gt jg jh H a.S a.d a.lk m.ts m.lv m.av m.ho a.as kvs ls/\ls.length<=100
 lw:∃ kvs,Wl H a.dT m.ts m.lv a.bs kvs
 hd:∃ hvs,H a.dH=some (.dK hvs)/\Qj hvs m.lv m.ho
 gr:∃ gs,Uu gt H a.gl gs
 told:H a.tl=some (.lst (iN (zV m.ts.length)))
 dd:a.dT≠a.d/\a.dH≠a.d/\a.dT≠a.dH
 tt:a.tl≠a.lk/\a.tl≠a.gl/\a.lk≠a.gl
 t2:∀ i:Nat,i∈m.lv->a.tl≠a.ab i/\a.tl≠a.th i/\a.gl≠a.ab i
 t3:∀ i:Nat,i∈m.lv->a.b i≠a.tl/\a.b i≠a.lk/\∀ j:Nat,j∈m.lv->a.b i≠a.ab j
 l64:m.lv.length<64
 l700:m.ts.length<=700
structure Wk(a:Pl)(m:Md)(p:aj):Prop where
 lk:a.lk≠p
 gl:a.gl≠p
 tl:a.tl≠p
 tw:∀ i:Nat,i∈m.lv->a.ab i≠p/\a.th i≠p/\a.b i≠p
section
variable{gt:jp}{jg jh:aj}{H H':Hp}{a:Pl}{m:Md}{p:aj}
def LS.shp(h:LS gt jg jh H a m):∃ b c,YQ jg jh H a.S a.d a.lk m.ts m.lv m.av m.ho a.as b c:=by
 let⟨b,c,U,_⟩:=h.sh;exact⟨b,c,U.sh⟩
def LS.wf(h:LS gt jg jh H a m):WF gt m.ts:=by
 let⟨b,c,U,_⟩:=h.sh;exact U.wf
def LS.off(h:LS gt jg jh H a m)(n:H p=none):Wk a m p:=by
 let⟨c,g,U,_⟩:=h.sh;let⟨Y6,L⟩:=h.lw;let⟨f,G⟩:=h.gr;refine⟨Za U.sh.sh.looks n,Za G.at_ n,Za h.told n,λi b=>⟨Za (U.sh.tw i b).tw.above n,?_,?_⟩⟩
 ·let⟨d,e,_⟩:=(U.sh.tw i b).things;exact Za e n
 ·let⟨j,d,_,_,e,_⟩:=L.tw i b;exact Za e n
def LS.sx{A:je}(h:LS gt jg jh H a m)(o:Wk a m p)(c:H p=some (.lst A))(s:ZF p H H'):LS gt jg jh H' a m:=by
 let⟨j,z,U,f⟩:=h.sh;let⟨Y6,L⟩:=h.lw;let⟨g,r,w⟩:=h.hd;let⟨v,G⟩:=h.gr;let l:Yb H H':=λb C e=>s b _ e (ZE e c);let R:=U.sh;let⟨⟨u,q⟩,t,x⟩:=R.sh;refine⟨⟨j,z,⟨⟨⟨⟨u,s _ _ q (ZE q c)⟩,s _ _ t (ZE t c),s _ _ x o.lk⟩,R.keys,R.val,R.lt,R.len,λi d=>?_,R.own,R.two⟩,U.wf,U.vl,U.av,U.live,U.l800⟩,f⟩,
  ⟨Y6,L.frame l (s _ _ L.dict (ZE L.dict c)) λi d k e=>s _ _ e (o.tw i d).2.2⟩,⟨g,s _ _ r (ZE r c),w⟩,⟨v,G.frame l (s _ _ G.at_ o.gl)⟩,s _ _ h.told o.tl,h.dd,h.tt,h.t2,h.t3,h.l64,h.l700⟩
 let n:=R.tw i d;let⟨B,y⟩:=n.tw.self;exact n.frame l (λk e=>s _ _ e (ZE y c)) (λk e=>s _ _ e (o.tw i d).2.1) (λk e=>s _ _ e (o.tw i d).1)
def LS.same(h:LS gt jg jh H a m)(s:ZD H H'):LS gt jg jh H' a m:=by
 let⟨d,i,U,b⟩:=h.sh;let⟨Y6,L⟩:=h.lw;let⟨c,g,f⟩:=h.hd;let⟨e,G⟩:=h.gr;exact⟨⟨d,i,⟨U.sh.same s,U.wf,U.vl,U.av,U.live,U.l800⟩,b⟩,⟨Y6,L.same s⟩,⟨c,s _ _ g,f⟩,⟨e,G.same s⟩,s _ _ h.told,h.dd,h.tt,h.t2,h.t3,h.l64,h.l700⟩
end
structure LO(gt:jp)(H:Hp)(a:Pl)(m:Md):Prop where
 lw:∃ kvs,Wl H a.dT m.ts m.lv a.bs kvs
 hd:∃ hvs,H a.dH=some (.dK hvs)/\Qj hvs m.lv m.ho
 gr:∃ gs,Uu gt H a.gl gs
 told:H a.tl=some (.lst (iN (zV m.ts.length)))
def LS.lo{gt:jp}{s q:aj}{H H':Hp}{a:Pl}{m:Md}(h:LS gt s q H a m)(t:∀ c o,c≠a.S->c≠a.d->c≠a.lk->(∀ i:Nat,i∈m.lv->c≠a.x i/\c≠a.ab i)->H c=some o->H' c=some o):LO gt H' a m:=by
 let⟨J,N,U,B⟩:=h.sh;let⟨Y6,L⟩:=h.lw;let⟨v,F,E⟩:=h.hd;let⟨D,G⟩:=h.gr;let R:=U.sh;let⟨⟨M,u⟩,z,A⟩:=R.sh;let w:∀ i:Nat,i∈m.lv->∃ n p,H (a.x i)=some (.ins q n p):=λi f=>by
  let⟨n,e⟩:=(R.tw i f).tw.self;exact⟨n,_,e⟩
 let r:∀ i:Nat,i∈m.lv->H (a.ab i)=some (.lst (iN (m.av i))):=λi f=>(R.tw i f).tw.above;let C:Yb H H':=λb P e=>t b _ (ZE e u) (ZE e z) (ZE e A) (λi f=>by
  let⟨n,p,k⟩:=w i f;exact⟨ZE e k,ZE e (r i f)⟩) e
 let g:∀(c:aj)(l:je),H c=some (.lst l)->c≠a.lk->(∀ i:Nat,i∈m.lv->c≠a.ab i)->H' c=some (.lst l):=λc l e y K=>t c _ (ZE e u) (ZE e z) y (λi f=>by
  let⟨n,p,k⟩:=w i f;exact⟨ZE e k,K i f⟩) e
 let dict:∀(c:aj)(l:List (ZW×V)),H c=some (.dK l)->c≠a.d->H' c=some (.dK l):=λc l e y=>t c _ (ZE e u) y (ZE e A) (λi f=>by
  let⟨n,p,k⟩:=w i f;exact⟨ZE e k,ZE e (r i f)⟩) e
 refine⟨⟨Y6,L.frame C (dict _ _ L.dict h.dd.1) λi f o e=>?_⟩,⟨v,dict _ _ F h.dd.2.1,E⟩,⟨D,G.frame C (g _ _ G.at_ h.tt.2.2.symm λi f=>(h.t2 i f).2.2)⟩,g _ _ h.told h.tt.1 λi f=>(h.t2 i f).1⟩;let⟨O,p,_,_,k,_⟩:=L.tw i f;have:o=.lst p:=by have:=e.symm.trans k;exact zG.inj this
 subst this;exact g _ _ e (h.t3 i f).2.1 λj I=>(h.t3 i f).2.2 j I
def Xt{i j:Nat}:((Sum.inl ((i:Nat):Int):ZW)=Sum.inl ((j:Nat):Int)) ↔ i=j:=⟨λz=>by have:=Sum.inl.inj z;lia,λz=>by rw[z]⟩
def VJ{a:jo}{n i:Nat}(h:i∈a++[n])(z:i≠n):i∈a:=(yQ.mp h).elim id λy=>absurd (yY.mp y) z
def Br{a:List (ZW×V)}{b:jo}{n:Nat}(e:∀ i∈b,i<n)(h:a.map (·.1)=b.map (λi:Nat=>(Sum.inl (i:Int):ZW))):YR a (Sum.inl (n:Int))=none:=by
 cases z:YR a (Sum.inl (n:Int)) with
 | none=>rfl
 | some v=>
  have:=LM z;rw[h] at this;let⟨i,d,c⟩:=zO.mp this;let f:=Xt.mp c;let g:=e i d
  lia
def Hf{a:List (ZW×V)}{b:jo}{n:Nat}{v:V}(c:∀ i∈b,i<n)(h:a.map (·.1)=b.map (λi:Nat=>(Sum.inl (i:Int):ZW))):(YX a (.inl (n:Int)) v).map (·.1)=(b++[n]).map (λi:Nat=>(Sum.inl (i:Int):ZW)):=by
 rw[Hx v (Br c h),yR,h,yR];rfl
def Iu{b:List (ZW×V)}{c:jo}{n:Nat}{a:Nat->Nat}(e:∀ i∈c,i<n)(h:Qj b c a):Qj (YX b (.inl (n:Int)) (.int 1)) (c++[n]) (Yy n a):=by
 exists Hf e h.1;intro i d;rw[Nn];by_cases z:i=n
 ·subst z;rw[aQ rfl,show Yy i a i=1 from aQ rfl];rfl
 ·rw[aP (λy=>z (Xt.mp y)),show Yy n a i=a i from aP z];exact h.2 i (VJ d z)
def Cr{a:List (ZW×V)}{k:ZW}{v w:V}(h:YR a k=some w):(YX a k v).map (·.1)=a.map (·.1):=by
 let d:=LM h;unfold YX;split
 ·rw[zJ];refine uK λp _=>?_;show (if p.1=k then (p.1,v) else p).1=p.1
  split <;> rfl
 ·rename_i c
  exfalso
  apply c;let⟨p,b,e⟩:=zO.mp d;simp
  first | exact⟨p.2,by rw[<-e];exact b⟩ | exact⟨p.1,p.2,b,e⟩
def Cu{c:List (ZW×V)}{d:jo}{b:Nat}{a:Nat->Nat}(h:Qj c d a)(e:b∈d):Qj (YX c (.inl (b:Int)) (.int ((a b-1:Nat):Int))) d (Ww a b):=by
 exists by rw[Cr (h.2 b e)];exact h.1
 intro i f;rw[Nn];by_cases z:i=b
 ·subst z;rw[aQ rfl,show Ww a i i=a i-1 from aQ rfl]
 ·rw[aP (λy=>z (Xt.mp y)),show Ww a b i=a i from aP z];exact h.2 i f
def HF{bs:ju}{D:aj}{i:Nat}(h:i<bs.length):(bs++[D]).getD i 0=bs.getD i 0:=by
 rw[zT,wZ h,<-zT]
def G8{bs:ju}{D:aj}:(bs++[D]).getD bs.length 0=D:=by
 rw[zT,xB (zY _)];simp
def F7{H c:Hp}{k:aj}{a:jr}{g:jo}{bs:ju}{f:List (ZW×V)}{t:ZZ}{tp D:aj}{us:je}(L:Wl H k a g bs f)(l:∀ b∈t.bs,b∈g)(m:Yb H c)(F:∀ i:Nat,i∈g->∀ o,H (bs.getD i 0)=some o->c (bs.getD i 0)=some o)(B:c k=some (.dK (YX f (.inl (a.length:Int)) (.ref tp))))(E:c tp=some (.tup [.str (kindOf t),.ref D]))(A:c D=some (.lst us))(w:t.h=0->jR c (XW t.rows) us)(x:t.h≠0->us=iN t.bs):Wl c k (a++[t]) (g++[a.length]) (bs++[D]) (YX f (.inl (a.length:Int)) (.ref tp)):=by
 let G:(a++[t]).length=a.length+1:=by simp
 exists B,L.vl.push l,Hf L.vl.lt L.keys,by simp[L.len]
 intro i C;by_cases z:i=a.length
 ·subst z;let j:(bs++[D]).getD a.length 0=D:=by rw[<-L.len];exact G8
  exists tp,us,by rw[Nn,aQ rfl],?_,?_,?_
  ·rw[PY,j];exact E
  ·rw[j];exact A
  ·rw[PY];exact w
  ·rw[PY];exact x
 ·let d:i∈g:=VJ C z;let e:=L.vl.lt i d;let⟨n,p,j,r,s,u,v⟩:=L.tw i d;let q:(bs++[D]).getD i 0=bs.getD i 0:=HF (by have:=L.len;lia)
  exists n,p,by rw[Nn,aP (λy=>z (Xt.mp y))];exact j,?_,?_,?_
  ·rw[QC e,q];exact m _ _ r
  ·rw[q];exact F i d _ s
  ·rw[QC e];exact λy=>(u y).mono m _ _
  ·rw[QC e];exact v
def Pl.push(a:Pl)(b:YM)(D:aj):Pl:={ a with as:=a.as++[b],bs:=a.bs++[D] }
section
variable{gt:jp}{jg jh:aj}{H H':Hp}{a:Pl}{m:Md}{p:aj}{new:YM}{D:aj}
def LS.asl(h:LS gt jg jh H a m):a.as.length=m.ts.length/\a.bs.length=m.ts.length:=by
 let⟨b,c,R⟩:=h.shp;let⟨Y6,L⟩:=h.lw;exact⟨R.len,L.len⟩
def LS.lt(h:LS gt jg jh H a m){i:Nat}(b:i∈m.lv):i<m.ts.length:=by
 let⟨c,d,R⟩:=h.shp;exact R.lt i b
def Pt(h:LS gt jg jh H a m){i:Nat}(c:i∈m.lv):(a.push new D).ab i=a.ab i/\(a.push new D).th i=a.th i/\(a.push new D).x i=a.x i/\(a.push new D).b i=a.b i:=by
 let⟨g,j⟩:=h.asl;let f:=h.lt c;let e:(a.as++[new]).getD i .d=a.as.getD i .d:=K4 ∅
 unfold Pl.ab Pl.th Pl.x Pl.b Pl.push;dsimp only;rw[e,HF ∅]
 exact⟨Z,Z,Z,Z⟩
def P0(h:LS gt jg jh H a m):(a.push new D).ab m.ts.length=new.ab/\(a.push new D).th m.ts.length=new.th/\(a.push new D).x m.ts.length=new.x/\(a.push new D).b m.ts.length=D:=by
 let⟨f,g⟩:=h.asl;let e:(a.as++[new]).getD m.ts.length .d=new:=by rw[<-f];exact II
 let c:(a.bs++[D]).getD m.ts.length 0=D:=by rw[<-g];exact G8
 unfold Pl.ab Pl.th Pl.x Pl.b Pl.push;dsimp only;rw[e,c];exact⟨Z,Z,Z,Z⟩
def HG(h:LS gt jg jh H a m){t:ZZ}{s:Nat->jo}{k:Nat->Nat}(U:H new.th=none)(K:H new.ab=none)(L:H D=none)(x:D≠new.ab)(P:∃ c I,XB gt jg jh H' a.S a.d a.lk (m.ts++[t]) (m.lv++[m.ts.length]) s k (a.as++[new]) c I/\I.length<=100)(J:∃ c,Wl H' a.dT (m.ts++[t]) (m.lv++[m.ts.length]) (a.bs++[D]) c)(F:∃ u,H' a.dH=some (.dK u)/\Qj u (m.lv++[m.ts.length]) k)(C:∃ N,Uu gt H' a.gl N)(n:H' a.tl=some (.lst (iN (zV (m.ts.length+1)))))(l:m.lv.length+1<64)(T:m.ts.length+1<=700):LS gt jg jh H' (a.push new D) ⟨m.ts++[t],m.lv++[m.ts.length],s,k⟩:=by
 let M:(m.ts++[t]).length=m.ts.length+1:=by simp
 let⟨N,G⟩:=h.gr;let⟨c,I,R⟩:=h.shp;let E:∀ i:Nat,i∈m.lv->H (a.ab i)=some (.lst (iN (m.av i))):=λi f=>(R.tw i f).tw.above;let⟨Y6,O⟩:=h.lw;let Q:∀ i:Nat,i∈m.lv->∃ w,H (a.b i)=some (.lst w):=λi f=>by
  let⟨Y,w,_,_,e,_⟩:=O.tw i f;exact⟨w,e⟩
 refine⟨P,J,F,C,by rw[M];exact n,h.dd,h.tt,λi f=>?_,λi f=>?_,by simpa using l,by rw[M];exact T⟩
 ·by_cases z:i=m.ts.length
  ·subst z;let⟨A,B,_,_⟩:=P0 (new:=new) (D:=D) h;rw[A,B];exact⟨Za h.told K,Za h.told U,Za G.at_ K⟩
  ·let⟨A,B,_,_⟩:=Pt (new:=new) (D:=D) h (i:=i) (VJ f z);rw[A,B];exact h.t2 i (VJ f z)
 ·let r:∀ j:Nat,j∈m.lv++[m.ts.length]->(j∈m.lv/\(a.push new D).ab j=a.ab j)\/(j=m.ts.length/\(a.push new D).ab j=new.ab):=λj q=>by
   by_cases y:j=m.ts.length
   ·subst y;exact .inr ⟨Z,(P0 h).1⟩
   ·exact .inl ⟨VJ q y,(Pt h (VJ q y)).1⟩
  by_cases z:i=m.ts.length
  ·subst z;rw[(P0 (new:=new) (D:=D) h).2.2.2];exists (Za h.told L).symm,(Za R.sh.looks L).symm;intro j q;rcases r j q with ⟨v,o⟩ | ⟨v,o⟩
   ·rw[o];exact(Za (E j v) L).symm
   ·rw[o];exact x
  ·let g:i∈m.lv:=VJ f z;rw[(Pt (new:=new) (D:=D) h g).2.2.2];let⟨V,W,X⟩:=h.t3 i g;exists V,W;intro j q;rcases r j q with ⟨v,o⟩ | ⟨v,o⟩
   ·rw[o];exact X j v
   ·let⟨w,e⟩:=Q i g;rw[o];exact Za e K
def Wk.push(h:LS gt jg jh H a m)(o:Wk a m p){t:ZZ}{b:Nat->jo}{f:Nat->Nat}(j:new.th≠p)(k:new.ab≠p)(l:D≠p):Wk (a.push new D) ⟨m.ts++[t],m.lv++[m.ts.length],b,f⟩ p:=by
 exists o.lk,o.gl,o.tl;intro i g;let n:(m.ts++[t]).length=m.ts.length+1:=by simp
 by_cases z:i=m.ts.length
 ·subst z;let⟨c,d,_,e⟩:=P0 (new:=new) (D:=D) h;rw[c,d,e];exact⟨k,j,l⟩
 ·let⟨c,d,_,e⟩:=Pt (new:=new) (D:=D) h (i:=i) (VJ g z);rw[c,d,e];exact o.tw i (VJ g z)
def Zi(a:Pl)(m:Md)(c:aj):Prop:=c≠a.S/\c≠a.d/\c≠a.lk/\c≠a.dT/\c≠a.dH/\c≠a.tl/\∀ i:Nat,i∈m.lv->c≠a.x i/\c≠a.ab i
def Zi.push(h:LS gt jg jh H a m){c:aj}(v:Zi a m c){t:ZZ}{b:Nat->jo}{f:Nat->Nat}(j:c≠new.x)(k:c≠new.ab):Zi (a.push new D) ⟨m.ts++[t],m.lv++[m.ts.length],b,f⟩ c:=by
 let⟨l,n,o,q,r,s,u⟩:=v;exists l,n,o,q,r,s;intro i g;let w:(m.ts++[t]).length=m.ts.length+1:=by simp
 by_cases z:i=m.ts.length
 ·subst z;let⟨d,_,e,_⟩:=P0 (new:=new) (D:=D) h;rw[d,e];exact⟨j,k⟩
 ·let⟨d,_,e,_⟩:=Pt (new:=new) (D:=D) h (i:=i) (VJ g z);rw[d,e];exact u i (VJ g z)
def LS.tup(h:LS gt jg jh H a m){c:aj}{o:je}(e:H c=some (.tup o)):Zi a m c:=by
 let⟨n,s,R⟩:=h.shp;let⟨Y6,L⟩:=h.lw;let⟨k,f,_⟩:=h.hd;let⟨⟨q,d⟩,g,j⟩:=R.sh;exists ZE e d,ZE e g,ZE e j,ZE e L.dict,ZE e f,ZE e h.told;intro i b;let⟨r,l⟩:=(R.tw i b).tw.self;exact⟨ZE e l,ZE e (R.tw i b).tw.above⟩
end
def YQ.frame{b c:aj}{H H':Hp}{S d g:aj}{p:jr}{j:jo}{k:Nat->jo}{l:Nat->Nat}{a:jy}{e:List (ZW×V)}{n:je}(R:YQ b c H S d g p j k l a e n)(m:Yb H H')(u:∀ o,H S=some o->H' S=some o)(v:∀ o,H d=some o->H' d=some o)(w:∀ o,H g=some o->H' g=some o)(h:∀ i:Nat,i∈j->(∀ o,H (a.getD i .d).x=some o->H' (a.getD i .d).x=some o)/\(∀ o,H (a.getD i .d).th=some o->H' (a.getD i .d).th=some o)/\(∀ o,H (a.getD i .d).ab=some o->H' (a.getD i .d).ab=some o)):YQ b c H' S d g p j k l a e n:=by
 let⟨⟨q,r⟩,s,t⟩:=R.sh;exact⟨⟨⟨q,u _ r⟩,v _ s,w _ t⟩,R.keys,R.val,R.lt,R.len,λi f=>(R.tw i f).frame m (h i f).1 (h i f).2.1 (h i f).2.2,R.own,R.two⟩
def XB.frame{gt:jp}{a b:aj}{H H':Hp}{S d h:aj}{k:jr}{j:jo}{f:Nat->jo}{g:Nat->Nat}{e:jy}{c:List (ZW×V)}{i:je}(U:XB gt a b H S d h k j f g e c i)(R:YQ a b H' S d h k j f g e c i):XB gt a b H' S d h k j f g e c i:=⟨R,U.wf,U.vl,U.av,U.live,U.l800⟩
def M9{f g:aj}{H:Hp}{S d m:aj}{u:jr}{p:jo}{q:Nat->jo}{r:Nat->Nat}{j:jy}{h:List (ZW×V)}{s z:je}{c:aj}{o':HO}(R:YQ f g H S d m u p q r j h s)(e:H c=some (.lst z))(y:m≠c)(t:∀ i:Nat,i∈p->(j.getD i .d).ab≠c/\(j.getD i .d).th≠c):YQ f g (upd H c o') S d m u p q r j h s:=by
 let⟨⟨A,v⟩,w,C⟩:=id R.sh;let k:∀ b o,b≠c->H b=some o->upd H c o' b=some o:=λb o n e=>by rw[ZU n];exact e
 refine R.frame (λb D a=>k _ _ (ZE a e) a) (λo a=>k _ _ (ZE v e) a) (λo a=>k _ _ (ZE w e) a) (λo a=>k _ _ y a) λi l=>?_;let⟨B,x⟩:=(R.tw i l).tw.self;exact⟨λo a=>k _ _ (ZE x e) a,λo a=>k _ _ (t i l).2 a,λo a=>k _ _ (t i l).1 a⟩
def Me{f g:aj}{H:Hp}{S d q:aj}{t:jr}{s:jo}{m:Nat->jo}{p:Nat->Nat}{l:jy}{h z:List (ZW×V)}{r:je}{c:aj}{o':HO}(R:YQ f g H S d q t s m p l h r)(e:H c=some (.dK z))(y:d≠c):YQ f g (upd H c o') S d q t s m p l h r:=by
 let⟨⟨A,u⟩,C,v⟩:=id R.sh;let k:∀ b o,b≠c->H b=some o->upd H c o' b=some o:=λb o n e=>by rw[ZU n];exact e
 refine R.frame (λb E a=>k _ _ (ZE a e) a) (λo a=>k _ _ (ZE u e) a) (λo a=>k _ _ y a) (λo a=>k _ _ (ZE v e) a) λi j=>?_;let⟨B,x⟩:=(R.tw i j).tw.self;let⟨D,w,_⟩:=(R.tw i j).things;exact⟨λo a=>k _ _ (ZE x e) a,λo a=>k _ _ (ZE w e) a,λo a=>k _ _ (ZE (R.tw i j).tw.above e) a⟩
def OM{H a:Hp}{p:aj}(W:ZN H p)(k:∀ o,H p=some o->a p=some o):ZN a p:=by
 let⟨b,c,d,e,f,g⟩:=W.ex;exact⟨b,c,d,e,k _ f,g⟩
def WE(a:Pl):je:=[.ref a.S,.ref a.dT,.ref a.dH,.ref a.gl,.ref a.tl]
inductive XY(gt:jp)(jg jh:aj)(i:je)(H:Hp)(Q:VK)(_:XK):Prop
 |mk(p h:aj)(b:Int)(a:Pl)(m:Md)(_:i=[.ref p,.ref h,.int b])(_:ZN H p)(_:H h=some (.tup (WE a)))(_:LS gt jg jh H a m)(_:Wk a m p)(_:0<=b)(_:b<16)(_:m.lv.length<=50)(_:m.ts.length<=600)(_:∀(e:Hp)(g:Pl)(d:Md),(∀ c o,H c=some o->Zi a m c->Zi g d c/\(c≠p->e c=some o))->ZN e p->LS gt jg jh e g d->Wk g d p->WE g=WE a->d.ts.length=m.ts.length+1->d.lv=m.lv++[m.ts.length]->Q (.bl true) e)
abbrev Ay:jq:=["_law_well_here","_law_state","_law_block","_law_shelf","_law_twigs","_law_holds","_law_grid_here","_law_told","_law_rows","_law_number"]
def We:ZB Ay zEn (Zf K5):=YA
def JC(n:Nat):iN (zV n)++[.int (n:Nat)]=iN (zV (n+1)):=by rw[List.range_succ];simp[iN]
def ZOQ{e:jo}{n:Nat}(h:∀ b∈e,b<n):Nv (-1) (e.map λb:Nat=>(b:Int))<(n:Int):=by
 let i:∀(l:jw)(x:Int),x<(n:Int)->(∀ y∈l,y<(n:Int))->QG x l<(n:Int):=λl=>by
  induction l with
  | nil=>intro x a _;exact a
  | cons c l k=>
   intro x a g;unfold QG;rw[tQ];refine k _ ?_ λy d=>g y (zI _ d);split
   ·exact g c zK
   ·exact a
 cases e with
 | nil=>show (-1:Int)<_;lia
 | cons b r=>
  show QG _ _<_;refine i _ _ (show ((b:Nat):Int)<(n:Int) by have:=h b zK;lia) λy d=>?_
  let⟨z,j,rfl⟩:=zO.mp d;have:=h z (zI _ j);show ((z:Nat):Int)<(n:Int)
  lia
def Cc{gt:jp}(F:Zn K "_law_put_leaf" "_law_put_leaf" K5 f fd)(T:YY mg)(L:YT K mg jg jh)(DR:ZC P w K mg jX 2 "_law_leaf_rows" zEl Xf)(DM:ZA P w K mg jX Zd 10 jg "put_leaf" zE9 (XE jg jh)):
  ZH P w K mg jX Zd 11 f fd zEn (XY gt jg jh):=by
 refine F.ko We λi6 A i1 s H vs Q E hr h=>?_;let⟨p,st,b,a,m,rfl,W,e6,q,O,b0,b1,l2,i5,k⟩:=h;let nd:=We.nd;let hu:=UC hr;let e5:=hr.mono (show 2<=10 by lia)
 intro Xc;refine⟨_,ZP (Qx (pv 1) (Pg rfl (Y9 (Yc 3 nd) (Y9 (Yc 4 nd) (Y9 (Yc 5 nd) (Y9 (Yc 6 nd) (Y9 (Yc 7 nd) Pf)))))))
  (ZP (Zx 8 nd (Zr DR e5 (Vo (pv 0) (Ze (pv 6) (pv 2)))))
  (ZP (Zx 9 nd (YL (E:=E0) (pv 3) L.cS DM hr XJ (ZT (Vy Q9 rfl T.list QD (ZT (pv 8))))))
  (ZP (Zo (PW.pt (Vh (Xj (YU (Zq Xs rfl T.isi Yx (Ze (pv 9) (Xi (v:=.ty "int") rfl T.int Qw rfl))))) (Vh (YU (Zq Xs rfl T.isi Yx (Ze (pv 9) (Xi (v:=.ty "bool") rfl T.bool P2 rfl))))
   (Up (YI QE (pv 9) (D0 rfl rfl T.max (ZT (pv 7)) (By (Q6 Pi ZJ) AL)) (Zz _)))))) Xa Zt)
  (ZP (WB (V6 yL xO xN Uo (pv 7) (ZT (pv 9))))
  (ZP (NG hu (pv 4) (pv 9) (Yg (Ze Yk (pv 8))) rfl)
  (ZP (NG hu (pv 5) (pv 9) ZJ rfl)
  (ZV (Zl Vw)))))))),?_⟩
 let⟨l7,c1⟩:=W.some;let⟨gs,G⟩:=q.gr;let e8:gs.length=64:=by rw[<-G.keys.length,G.len]
 exists _,Z,st,_,Z,Zh.of e6,Z,_,_,Z,_,_,Z,_,_,Z,_,_,Z,_,_,Z,Z;exists _,Z,_,Z,_,Z,p,a.gl,b,gs,gt,Z,W,O.gl,G.at_,G.keys,G.fit,e8,b0,b1;intro D us rs H1 s1 W1 nD a1 a2 e3 c2 i7 i8;let S1:=q.sx O c1 s1;let l6:us.length=rs.length:=by have:=a2.length;rw[<-this];exact zX _
 let Gd:=AW G.up e3 c2 ∅ ∅
 let⟨e7,ls,U1,c4⟩:=S1.sh;let⟨dx,e0⟩:=U1.sh.sh.self;exists _,Z,a.S,dx,_,Z,e0,Z,_,Z,D,us,Z,.inl (ZM.of a1);intro l9 n9;let U:=ZX n9 (.lst us);let e9:upd H1 l9 (.lst us) l9=some (.lst us):=ZO;generalize upd H1 l9 (.lst us)=H2 at U e9⊢;let S2:=S1.same U;let U2:=U1.sh.same U;let l3:=q.l64;exists a.S,a.d,a.lk,l9,m.ts,m.lv,m.av,m.ho,a.as,e7,ls,us,rs,Z,U2,∅,e9,a2.sm U,Gd
 intro R u nx a5 M fr R3;let i0:∀ y∈(zV m.ts.length),y<m.ts.length:=λy hy=>yC.mp hy;let U3:=Ft (U1.frame U1.sh) ∅ (JI Gd c2) R3
 let X:=S2.lo (H':=R) λc o n1 n2 n3 n4 e=>fr c o n1 n2 e;let j:=X.told;let c0:(iN (zV m.ts.length))=((zV m.ts.length).map λb:Nat=>(b:Int)).map V.int:=by rw[zJ];rfl
 refine⟨_,Z,_,_,_,_,Z,.int _,Oi,_,Z,Zm ?_⟩;refine⟨_,Z,_,_,_,_,Z,.int _,NW,_,Z,Zm ?_⟩;exists _,Z,_,Z,1,Z,a.tl,(zV m.ts.length).map (λb:Nat=>(b:Int)),-1,Z,Z,ZM.of (by rw[<-c0];exact j),_,_,Z,Z,_,Z
 rw[aM (by have:=ZOQ i0;lia)]
 refine Zm ?_;exists _,Z,.inl ⟨Z,_,ZM.of j⟩,_,Z,a.tl,_,.int (m.ts.length:Nat),Z,Z,j,Ye (by simp[iN];lia)
 let i9:=U2.sh.looks;let⟨x,r,hH⟩:=X.hd;let⟨Y6,l⟩:=X.lw;let⟨c8,G3⟩:=X.gr;let c9:R D=some (.lst us):=by
  let e:=U _ _ a1;let⟨⟨dS,hS⟩,hk,_⟩:=U2.sh;exact fr _ _ (ZE e hS) (ZE e hk) e
 let i3:Yb H1 R:=λc ys e=>by
  let⟨⟨dS,hS⟩,hk,_⟩:=U2.sh;let C:=U _ _ e;exact fr _ _ (ZE C hS) (ZE C hk) C
 let e4:=a2.mono i3 _ _;let g:∀ c,H2 c=none->H c=none:=λc e=>by
  cases z:H c with
  | none=>rfl
  | some o=>
   by_cases y:c=p
   ·subst y;let⟨xs,C⟩:=W1.some;rw[U _ _ C] at e;cases e
   ·rw[U _ _ (s1 _ _ z y)] at e;cases e
 let N:a.tl≠u.ab/\a.tl≠u.th:=⟨Za S2.told M,Za S2.told a5⟩;let c5:∀ i:Nat,i∈m.lv++[m.ts.length]->((a.as++[u]).getD i .d).ab≠a.tl/\((a.as++[u]).getD i .d).th≠a.tl:=λi hi=>by
  by_cases z:i=m.ts.length
  ·subst z;let⟨e1,e2,_,_⟩:=P0 (new:=u) (D:=D) q;exact⟨λy=>N.1 (by rw[<-e1];exact y.symm),λy=>N.2 (by rw[<-e2];exact y.symm)⟩
  ·let⟨e1,e2,_,_⟩:=Pt (new:=u) (D:=D) q (i:=i) (VJ hi z);let t2:=q.t2 i (VJ hi z);exact⟨λy=>t2.1 (by rw[<-e1];exact y.symm),λy=>t2.2.1 (by rw[<-e2];exact y.symm)⟩
 let R4:=M9 (o':=.lst (iN (zV m.ts.length)++[.int (m.ts.length:Nat)])) R3 j q.tt.1.symm c5;let B:∀ c o,c≠a.tl->R c=some o->upd R a.tl (.lst (iN (zV m.ts.length)++[.int (m.ts.length:Nat)])) c=some o:=λc o n e=>by rw[ZU n];exact e
 let Y:upd R a.tl (.lst (iN (zV m.ts.length)++[.int (m.ts.length:Nat)])) a.tl=some (.lst (iN (zV (m.ts.length+1)))):=by rw[ZO,JC]
 generalize upd R a.tl (.lst (iN (zV m.ts.length)++[.int (m.ts.length:Nat)]))=H4 at R4 B Y⊢;exists _,Z,Zu;intro t nt;let g5:=ZX nt (.tup [.str "leaf",.ref D]);let t5:upd H4 t (.tup [.str "leaf",.ref D]) t=some (.tup [.str "leaf",.ref D]):=ZO;generalize upd H4 t (.tup [.str "leaf",.ref D])=H5 at g5 t5⊢;let R5:=R4.same g5;let a0:H5 a.dT=some (.dK Y6):=g5 _ _ (B _ _ (ZE l.dict j) l.dict);let l5:Y6.length=m.lv.length:=by have:=congrArg xL l.keys;simpa using this
 let l4:x.length=m.lv.length:=by have:=congrArg xL hH.1;simpa using this
 exists _,Z,_,Z,a.dT,_,Z,Wz.k (k:=Sum.inl (m.ts.length:Int)) a0 (Ye ∅)
 let R6:=Me (o':=.dK (YX Y6 (.inl (m.ts.length:Int)) (.ref t))) R5 a0 q.dd.1.symm;let I:∀ c o,c≠a.dT->H5 c=some o->upd H5 a.dT (.dK (YX Y6 (.inl (m.ts.length:Int)) (.ref t))) c=some o:=λc o n e=>by rw[ZU n];exact e
 let a9:upd H5 a.dT (.dK (YX Y6 (.inl (m.ts.length:Int)) (.ref t))) a.dT=some (.dK (YX Y6 (.inl (m.ts.length:Int)) (.ref t))):=ZO;generalize upd H5 a.dT (.dK (YX Y6 (.inl (m.ts.length:Int)) (.ref t)))=H6 at R6 I a9⊢;let a7:H6 a.dH=some (.dK x):=I _ _ q.dd.2.2.symm (g5 _ _ (B _ _ (ZE r j) r));exists _,Z,_,Z,a.dH,_,Z,Wz.k (k:=Sum.inl (m.ts.length:Int)) a7 (Ye ∅)
 let R7:=Me (o':=.dK (YX x (.inl (m.ts.length:Int)) (.int 1))) R6 a7 q.dd.2.1.symm;let J:∀ c o,c≠a.dH->H6 c=some o->upd H6 a.dH (.dK (YX x (.inl (m.ts.length:Int)) (.int 1))) c=some o:=λc o n e=>by rw[ZU n];exact e
 let a8:upd H6 a.dH (.dK (YX x (.inl (m.ts.length:Int)) (.int 1))) a.dH=some (.dK (YX x (.inl (m.ts.length:Int)) (.int 1))):=ZO;generalize upd H6 a.dH (.dK (YX x (.inl (m.ts.length:Int)) (.int 1)))=H7 at R7 J a8⊢;let a3:∀ c o,c≠a.tl->c≠a.dT->c≠a.dH->R c=some o->H7 c=some o:=λc o n1 n2 n3 e=>J _ _ n3 (I _ _ n2 (g5 _ _ (B _ _ n1 e)));let a6:Yb R H7:=λc ys e=>a3 _ _ (ZE e j) (ZE e l.dict) (ZE e r) e;let a4:∀ c xs,c≠a.tl->R c=some (.lst xs)->H7 c=some (.lst xs):=λc xs n e=>a3 _ _ n (ZE e l.dict) (ZE e r) e;let tD:a.tl≠D:=Za q.told nD;let c6:D≠u.ab:=Za (U _ _ a1) M;let i2:H7 t=some (.tup [.str "leaf",.ref D]):=J _ _ (ZE t5 (g5 _ _ (B _ _ (ZE r j) r))) (I _ _ (ZE t5 a0) t5);let c7:LS gt jg jh H7 (a.push u D) ⟨m.ts++[Vj rs],m.lv++[m.ts.length],WT m.ts.length m.av,Yy m.ts.length m.ho⟩:=by
  refine HG q (g _ a5) (g _ M) nD c6 ⟨_,ls,U3.frame R7,c4⟩ ⟨_,F7 (tp:=t) l (λb hb=>by cases hb) a6 (λi hi o e=>?_) ?_ ?_ (a4 _ _ tD.symm c9) (λ_=>e4.mono a6 _ _) (λz=>absurd Z z)⟩ ⟨_,a8,Iu (λi hi=>q.lt hi) hH⟩ ⟨c8,G3.frame a6 (a4 _ _ q.tt.2.1.symm G3.at_)⟩ ?_ ∅ ∅
  ·let⟨tp,i4,_,_,C,_⟩:=l.tw i hi;have:o=.lst i4:=by have:=e.symm.trans C;exact zG.inj this
   subst this;exact a4 _ _ (q.t3 i hi).1 e
  ·exact J _ _ q.dd.2.2 a9
  ·exact i2
  ·exact J _ _ (ZE Y (B _ _ (ZE r j) r)) (I _ _ (ZE Y (B _ _ (ZE l.dict j) l.dict)) (g5 _ _ Y))
 let c3:∀ c o,c≠a.S->c≠a.d->c≠a.tl->c≠a.dT->c≠a.dH->H1 c=some o->H7 c=some o:=λc o n1 n2 n3 n4 n5 e=>a3 _ _ n3 n4 n5 (fr _ _ n1 n2 (U _ _ e));let W7:ZN H7 p:=OM W1 λo e=>by
  let⟨xs,C⟩:=W1.some;let eo:o=.lst xs:=by have:=e.symm.trans C;exact zG.inj this
  subst eo;let⟨⟨dS,hS⟩,hk,_⟩:=U1.sh.sh;let⟨l1,LA⟩:=S1.lw;let⟨l0,hA,_⟩:=S1.hd;exact c3 _ _ (ZE C hS) (ZE C hk) O.tl.symm (ZE C LA.dict) (ZE C hA) C
 let pn:∀ c,H c=none->c≠p:=λc e=>(Za c1 e).symm;refine k H7 _ _ (λc o e v=>?_) W7 c7 (O.push q (pn _ (g _ a5)) (pn _ (g _ M)) (pn _ nD)) Z (by simp) Z
 let⟨v1,v2,v3,v4,v5,v6,v7⟩:=id v;exact⟨v.push q (Za e (g _ nx)) (Za e (g _ M)),λcp=>c3 _ _ v1 v2 v6 v4 v5 (s1 _ _ e cp)⟩
end Tw
namespace L2
open PySem PySem.Spec PyProof.Rows
def YV(H a:Hp):Prop:=(∀ b d,H b=some (.ext d)->a b=some (.ext d))/\∀ b c,H b=some (.tbl c)->a b=some (.tbl c)
def YV.same{H a:Hp}(s:ZD H a):YV H a:=⟨λb _ e=>s b _ e,λb _ e=>s b _ e⟩
def YV.trans{H d f:Hp}(a:YV H d)(b:YV d f):YV H f:=⟨λc h e=>b.1 c h (a.1 c h e),λc g e=>b.2 c g (a.2 c g e)⟩
def ZQ.ext{H b:Hp}{T:aj}{q:Str}(h:ZQ H T q)(e:YV H b):ZQ b T q:=by
 let⟨l,g,i,j⟩:=h;exists l,e.2 _ _ g,i;intro a f k;let⟨c,d,m,n,o⟩:=j a f k;exact⟨c,d,m,e.1 _ _ n,o⟩
section
variable{cs:ju}{HL Hc H' H3:Hp}
def Kn(d:∀ c∈cs,H' c=none)(f:ZD (reT cs Hc H') H3){b:aj}{o:HO}(e:H' b=some o):unT cs H3 b=some o:=by
 let a:b∉cs:=λz=>by rw[d b z] at e;cases e
 rw[V9 a];exact f _ _ (by rw[UB a];exact e)
def Oa(a:∀ c∈cs,∃ o,Hc c=some (XH c o))(b:ZD (reT cs Hc H') H3):∀ c∈cs,H3 c=Hc c:=λc h=>by
 let⟨o,e⟩:=a c h;rw[e];exact b _ _ (by rw[Nu h];exact e)
def O3(a:∀ c∈cs,∃ o,Hc c=some (XH c o))(f:ZD (reT cs Hc H') H3){t:aj}{b:je}(e:H3 t=some (.tup b)):unT cs H3 t=some (.tup b):=by
 rw[V9 λz=>?_]
 ·exact e
 ·rw[Oa a f t z] at e;let⟨o,d⟩:=a t z;rw[d] at e;cases e
end
end L2
namespace Tw
open PySem PySem.Spec L2 PyProof.Rows
variable{jg jh CS CT CH CK CP CB:aj}
def Gs{K:zZ}:yW K (.type "list") (.type "list")=some true:=by kernel_rfl
def EN{gt:jp}{a:jr}{b:jo}{ho:Nat->Nat}(l:WF gt a)(d:Lv a b):∀(n j:Nat),j∈b->a.length-j<=n->∃ o,Sh a b ho j o
 | 0,j,k,h=>absurd (d.lt j k) ∅
 | n+1,j,k,h=>by
  by_cases c:(abv a b j).length+ho j=1
  ·cases e:abv a b j with
   | nil=>exact⟨none,.top c e⟩
   | cons i r=>
    let g:=Ly l d (i:=j) (j:=i) (by rw[e];exact zK)
    let m:=d.lt i g.2;let⟨o,f⟩:=EN l d n i g.2 ∅
    exact⟨o,.up c e f⟩
  ·exact⟨some j,.here c⟩
def Ol(t:ZZ):jp:=if t.h=0 then XW t.rows else t.bs.map λb:Nat=>KT.int (b:Nat)
def LE{H:Hp}:∀(l:jo),jR H (l.map λb:Nat=>KT.int (b:Nat)) (iN l)
 | []=>.nil
 | b::l=>.cons (.int _) (LE l)
def HS{H:Hp}{t:ZZ}{a:je}(b:t.h=0->jR H (XW t.rows) a)(d:t.h≠0->a=iN t.bs):jR H (Ol t) a:=by
 unfold Ol;by_cases c:t.h=0
 ·rw[aQ c];exact b c
 ·rw[aP c,d c];exact LE _
def HU(l:jo)(h:l.length<=100):(KT.tup (l.map λb:Nat=>KT.int (b:Nat))).wide 5=true:=by
 rw[KT.wide,NT];have:(l.map λb:Nat=>KT.int (b:Nat)).all (·.wide (5-1))=true:=by
  rw[xS];exact zN.mpr λ_ _=>by simp[KT.wide]
 rw[this,zX,aO h];rfl
def Cz{gt:jp}{f:jr}{i:Nat}{t:ZZ}(a:XX gt f i t):(KT.tup (Ol t)).wide 5=true:=by
 unfold Ol;by_cases c:t.h=0
 ·rw[aQ c];let g:=(a.leaf c).2;rw[KT.wide,NT];have:(XW t.rows).all (·.wide (5-1))=true:=by
   unfold XW;rw[xS];refine zN.mpr λr e=>?_;let⟨b,d⟩:=(a.inn r e).2;show (KT.tup [r.1,r.2]).wide 4=true;rw[KT.wide,NT];simp[MV _ 3 b,MV _ 3 d]
  rw[this,show (XW t.rows).length=t.rows.length from zX _,aO (show t.rows.length<=100 by lia)]
  rfl
 ·rw[aP c];have:=(a.stem c).2.1;exact HU _ ∅
def Co{L:Yo}(h:L.fit):L.kt.wide 5=true:=by
 unfold Yo.kt;let a:=MV _ 4 (K3 _ 3 4 h.1 (uQ (P7 _ 3 h.1)));let b:=MV _ 4 (K3 _ 3 4 h.2 (uQ (P7 _ 3 h.2)));rw[KT.wide,NT];simp[KT.wide,a,b]
inductive WH(gt:jp)(jg jh:aj)(e:je)(H:Hp)(Q:VK)(_:XK):Prop
 |mk(a:Pl)(m:Md)(_:e=[.ref a.S,.ref a.dT,.ref a.dH])(_:LS gt jg jh H a m)(_:∀(b:Hp)(d:Pl),(∀ c o,H c=some o->Zi a m c->Zi d m c/\b c=some o)->(∀ T q,ZQ H T q->ZQ b T q)->LS gt jg jh b d m->WE d=WE a->Q (.bl true) b)
abbrev ZOM:jq:=["_law_shelf","_law_twigs","_law_holds","_law_numbers","_law_number","_law_kind","_law_what","_law_seen","_law_found"]
def Ul:ZB ZOM zEo (Zf J1):=YA
def B0{gt:jp}(F:Zn K "_law_exact" "_law_exact" J1 f fd)(T:YY mg)(L:YT K mg jg jh)(DN:ZA P w K mg jX Zd 1 jg "numbers" zEi (Xw jg))(DY:ZA P w K mg jX Zd 1 jg "many" zEi (UE jg))(n7:ZA P w K mg jX Zd 2 jg "look" zEa (UT jg jh))(n6:ZA P w K mg jX Zd 2 jg "label" zEa (X0 jg jh λtg _ _=>tg))(n8:ZA P w K mg jX Zd 2 jg "outside" zEa (X0 jg jh λ_ ho _=>.int ho))(n0:ZA P w K mg jX Zd 2 jg "holders" zEa (X0 jg jh λ_ ho us=>.int ((us.length:Nat)+(ho:Nat):Int)))(m8:ZA P w K mg jX Zd 4 jg "alone" zEa (VS gt jg jh))(m9:ZA P w K mg jX Zd 1 jg "forget" zEi (Xq jg jh))(c1:ZC P w K mg jX 7 "_law_alike" zEd (YE 6))(c2:ZC P w K mg jX 1 "_law_count" zEd VL)(n5:ZC P w K mg jX 2 "_law_label" zEb (Y8 gt))(m7:ZC P w K mg jX 1 "_law_above" zEb (WL gt))(n9:ZC P w K mg jX 2 "_law_shared" zEj (Xo gt)):
  ZH P w K mg jX Zd 8 f fd zEo (WH gt jg jh):=by
 refine F.ko Ul λt5 A r2 s H vs Q E hr h=>?_;let⟨a,m,rfl,y,k⟩:=h;let nd:=Ul.nd;let hu:=UC hr;let J:=hr.mono (show 1<=7 by lia)
 let X:=hr.mono (show 2<=7 by lia)
 let p3:=hr.mono (show 4<=7 by lia)
 intro Xc;refine⟨_,ZP (Zx 3 nd (NY (E:=E0) (pv 0) L.cS DN J XJ))
  (ZP (Zo (PW.pt (Vh (Xj (YU (Zq Xs rfl T.isi Yx (Ze (pv 3) (Xi (v:=.ty "list") rfl T.list QD rfl))))) (Up (Xj (YU (Zr c1 hr (Ze (Vy NS rfl T.tuple QZ (ZT (pv 3))) (Vy NS rfl T.tuple QZ (ZT (Zq (Pz rfl) rfl T.sorted PO (ZT (pv 1)))))))))))) Xa Zt)
  (ZP (Zo (Xj (YU (Zr c2 J (Ze (NY (E:=E0) (pv 0) L.cS DY J XJ) (Zq J0 rfl T.len Xu (ZT (pv 1))))))) Xa Zt)
  (ZP (VM PassesOwn.never rfl (VN (pv 3)) (Yc 4 nd)
   (ZP (Qx (Vg hu (pv 1) (pv 4)) (Pg rfl (Y9 (Yc 5 nd) (Y9 (Yc 6 nd) Pf))))
   (ZP (Zx 7 nd (YL (E:=E0) (pv 0) L.cS n7 X XJ (ZT (pv 4))))
   (ZP (Zo (PW.pt (Vh (Xj (YU (Zq Xs rfl T.isi Yx (Ze (pv 7) (Xi (v:=.ty "tuple") rfl T.tuple QZ rfl))))) (Vh (YI Qs (Zq WK rfl T.len Xu (ZT (pv 7))) ZJ (Zz _)) (Vh (YI Qs (Zs K (pv 7) ZJ) (pv 5) (Zz _))
    (Up (Xj (YU (Zq Xs rfl T.isi Yx (Ze (Zs K (pv 7) ZJ) (Xi (v:=.ty "list") rfl T.list QD rfl)))))))))) Xa Zt)
   (ZP (Zo (Xj (YU (Zr c1 hr (Ze (Vy NS rfl T.tuple QZ (ZT (Zs K (pv 7) ZJ))) (Vy NS rfl T.tuple QZ (ZT (pv 6))))))) Xa Zt)
   (ZP (Zo (Xj (YU (Zr c1 hr (Ze (YL (E:=E0) (pv 0) L.cS n6 X XJ (ZT (pv 4))) (Zr n5 X (Ze (pv 1) (pv 4))))))) Xa Zt)
   (ZP (WB (Mb yL sN sM JQ (Zs K (pv 7) ZJ)))
   (ZP (Zo (Xj (YU (Zr c2 J (Ze (YL (E:=E0) (pv 0) L.cS n8 X XJ (ZT (pv 4))) (Vg hu (pv 2) (pv 4)))))) Xa Zt)
   (ZP (Zo (Xj (YU (Zr c2 J (Ze (YL (E:=E0) (pv 0) L.cS n0 X XJ (ZT (pv 4))) (Z1 WJ (Vg hu (pv 2) (pv 4)) (Zq WK rfl T.len Xu (ZT (Zr m7 J (Ze (pv 1) (pv 4)))))))))) Xa Zt)
   (ZP (Zx 8 nd (YL (E:=E0) (pv 0) L.cS m8 p3 XJ (ZT (pv 4))))
   (ZV (Zo (PW.pt (Vh (Xj (YU (Zq Xs rfl T.isi Yx (Ze (pv 8) (Xi (v:=.ty "bool") rfl T.bool P2 rfl))))) (Up (YI Qs (pv 8) (Bq (Mm (Zr n9 X (Vo (pv 1) (Ze (pv 2) (pv 4)))))) (Zz _))))) Xa Zt))))))))))))
  (ZP (WB (Mb yL sN sM JQ (pv 3)))
  (ZP (WB (NY (E:=E0) (pv 0) L.cS m9 J XJ))
  (ZV (Zl (Vz Y1 (Zq WK rfl T.len Xu (ZT (NY (E:=E0) (pv 0) L.cS DN J XJ))) (Zq J0 rfl T.len Xu (ZT (pv 1))) (Zz _))))))))),?_⟩
 let⟨g,ls,U,s0⟩:=y.sh;let⟨r,Lw⟩:=y.lw;let⟨c8,p1,hH⟩:=y.hd;let⟨gs,G⟩:=y.gr;let a1:=y.l64;let eI:(m.lv.map λi:Nat=>(i:Int)).map V.int=iN m.lv:=by rw[zJ];rfl
 let wN:=HU m.lv ∅
 let p6:g.length=m.lv.length:=Kw U.sh;let p7:r.length=m.lv.length:=by have:=congrArg xL Lw.keys;simpa using this
 exists _,Z,a.S,_,_,Z,U.sh.sh.self.choose_spec,Z,a.S,a.d,a.lk,m.ts.length,g,ls,m.lv.map (λi:Nat=>(i:Int)),Z,U.sh.sh,(by rw[U.sh.keys,zJ];rfl),Qz Lw.vl.up,by simpa using a1
 intro q nq;rw[eI];let g1:=ZX nq (.lst (iN m.lv));let hq:upd H q (.lst (iN m.lv)) q=some (.lst (iN m.lv)):=ZO;generalize upd H q (.lst (iN m.lv))=H1 at g1 hq⊢;refine⟨_,Z,_,_,_,_,Z,.lst hq,Gs,_,Z,Zm ?_⟩;refine⟨_,Z,q,_,Z,.inl ⟨ZM.of hq,λt1 r0=>?_⟩⟩;let ga:=ZX r0 (.tup (iN m.lv));exists _,Z,a.dT,r,m.lv.map (λi:Nat=>(i:Int)),Z,(g1.trans ga) _ _ Lw.dict,(by rw[Lw.keys,zJ];rfl),Qz Lw.vl.up,by simpa using a1
 intro q2 p8;rw[eI];let gb:=ZX p8 (.lst (iN m.lv));refine⟨q2,_,Z,.inl ⟨ZM.of ZO,λt2 r1=>?_⟩⟩;let gc:=ZX r1 (.tup (iN m.lv));refine⟨.ref t1,.ref t2,.tup (m.lv.map λb:Nat=>KT.int (b:Nat)),5,Z,.tup ((gb.trans gc) _ _ ZO) (LE _),.tup ZO (LE _),wN,by decide,λH2 s2=>⟨_,Z,Zm ?_⟩⟩
 let a3:=((ga.trans gb).trans gc).trans s2;let a5:=g1.trans a3;let l2:=a3 _ _ hq;clear s2;let U2:=U.frame (U.sh.same a5);exists _,Z,a.S,_,_,Z,U2.sh.sh.self.choose_spec,Z,a.S,a.d,a.lk,m.ts.length,g,ls,Z,U2.sh.sh;refine⟨_,Z,a.dT,r,Z,a5 _ _ Lw.dict,(g.length:Int),by rw[p6,p7];rfl,λH3 s3=>⟨_,Z,Zm ?_⟩⟩
 let a6:=a5.trans s3;let c6:=s3 _ _ l2;let U3:=U.frame (U.sh.same a6);let c3:=Lw.same a6;let i7:=a6 _ _ p1;let R:=U3.sh.sh.looks;let e7:q≠a.lk:=(Za U.sh.sh.looks nq).symm;clear s3 l2 U2 a3 a5;refine⟨_,Z,q,Z,⟨_,ZM.of c6⟩,Qt (K:=K) (a:=q) (xs:=iN m.lv) (λi σ H'=>∃(x4 x5 x6 x7 x8:jf)(l9:je),σ=[some (.ref a.S),some (.ref a.dT),some (.ref a.dH),some (.ref q),x4,x5,x6,x7,x8]/\(∀ c o,c≠a.lk->H3 c=some o->H' c=some o)/\H' a.lk=some (.lst l9)/\l9.length<=100+i)
  ⟨_,_,_,_,_,ls,Z,λc o _ e=>e,R,∅⟩ (λi σ H' _ hP=>?_) ?_ ?_⟩
 ·let⟨_,_,_,_,_,_,_,k',_⟩:=hP;exact ZM.of (k' _ _ e7 c6)
 ·rintro i u σ M c7 ⟨x4,x5,x6,x7,x8,p,rfl,z,B,l4⟩;unfold iN at c7;rw[zH] at c7;let⟨j,ej,rfl⟩:=yA.mp c7;let C:j∈m.lv:=yU ej;let ii:i<m.lv.length:=(yH.mp ej).1;let I:XB gt jg jh M a.S a.d a.lk m.ts m.lv m.av m.ho a.as g p:=⟨LZ U3.sh z B,U3.wf,U3.vl,U3.av,U3.live,U3.l800⟩;let r7:Yb H3 M:=λb ys e=>z b _ (ZE e R) e;let D:Wl M a.dT m.ts m.lv a.bs r:=c3.frame r7 (z _ _ (ZE c3.dict R) c3.dict) λb hb o e=>z _ _ (y.t3 b hb).2.1 e;let i8:M a.dH=some (.dK c8):=z _ _ (ZE i7 R) i7;let⟨tp,us,e1,e2,e3,e4,e5⟩:=D.tw j C;let m3:=U.wf j _ (Wx (U.vl.lt j C));let p2:YD M a.dT (.int (j:Nat)) (some (.ref tp)):=e1 ▸ YD.k (k:=Sum.inl (j:Int)) D.dict;exists _,Z,_,Z,a.dT,.ref tp,Z,p2,tp,_,Z,Zh.of e2,Z,_,_,Z,_,_,Z,Z;let W4:=I.sh.tw j C;let⟨vs,w1,w2,w3⟩:=W4.things;let⟨ta,vlo,vhi,o9,p5,t9,t8⟩:=W4.tag;cases o9;let⟨o1,o2,o3,o4⟩:=I.sh.own j C;exists _,Z,a.S,_,_,Z,I.sh.sh.self.choose_spec,Z,_,Z,a.S,a.d,a.lk,m.ts.length,g,p,(j:Int),_,_,_,_,_,_,vs,_,_,Z,⟨I.sh.sh,I.sh.val j C,W4.tw⟩,w1,p5,Ne.symm o3,Ne.symm o2,by lia
  intro H5 l' t l a2 m0 c5 O;let eK:(if (Yq (gd m.ts j)).h > 0 then ("stem" : Str) else "leaf")=kindOf (gd m.ts j):=by
   unfold kindOf;show (if (((gd m.ts j).h:Nat):Int) > 0 then ("stem" : Str) else "leaf")=_
   by_cases c:(gd m.ts j).h=0
   ·rw[aQ c,aP ∅]
   ·rw[aP c,aQ ∅]
  rw[eK] at O;refine⟨_,Z,_,_,_,_,Z,.tup O,M7,_,Z,Zm ?_⟩;refine⟨_,Z,t,_,Z,.inr (Zh.of O),Z,_,Z,NM Z ?_⟩;refine⟨_,Z,.inr (.inl ⟨t,_,0,_,rfl,rfl,Zh.of O,rfl,_,rfl,rfl,_,rfl,NM rfl ?_⟩)⟩;refine⟨_,Z,.inr (.inl ⟨t,_,1,_,rfl,rfl,Zh.of O,rfl,_,_,_,_,rfl,.lst c5,Gs,_,rfl,Zm ?_⟩)⟩;let r9:∀ c o,c≠a.lk->M c=some o->H5 c=some o:=l;let e9:Yb M H5:=λb ys e=>l b _ (ZE e B) e;refine⟨_,Z,.inr (.inl ⟨t,_,1,_,rfl,rfl,Zh.of O,rfl,l',vs,rfl,.inl ⟨ZM.of c5,λr5 m1=>?_⟩⟩)⟩;let i3:=ZX m1 (.tup vs);let o5:Wl H5 a.dT m.ts m.lv a.bs r:=D.frame e9 (l _ _ (ZE D.dict B) D.dict) λb hb o e=>l _ _ (y.t3 b hb).2.1 e;let o8:=l _ _ (y.t3 j C).2.1 e3;refine⟨_,Z,a.b j,us,Z,.inl ⟨ZM.of (i3 _ _ o8),λr6 m2=>?_⟩⟩;let i4:=ZX m2 (.tup us);let c4:=i3.trans i4;let kV:jR M (Ol (gd m.ts j)) vs:=HS w2 w3;let kU:jR M (Ol (gd m.ts j)) us:=HS e4 e5;refine⟨.ref r5,.ref r6,.tup (Ol (gd m.ts j)),5,Z,.tup (i4 _ _ ZO) ((kV.mono e9 _ _).sm c4),.tup ZO ((kU.mono e9 _ _).sm c4),Cz m3,by decide,λH6 s6=>⟨_,Z,Zm ?_⟩⟩
  let e8:=c4.trans s6;let U5:XB gt jg jh H5 a.S a.d a.lk m.ts m.lv m.av m.ho a.as g (p++[.int (j:Nat)]):=⟨LZ I.sh l a2,I.wf,I.vl,I.av,I.live,I.l800⟩;let U6:=U5.frame (U5.sh.same e8);let W6:=U6.sh.tw j C;exists _,Z,a.S,_,_,Z,U6.sh.sh.self.choose_spec,Z,_,Z,a.S,a.d,a.lk,m.ts.length,g,_,(j:Int),_,_,_,_,_,_,Z,⟨U6.sh.sh,U6.sh.val j C,W6.tw⟩;let o6:=o5.same e8;let o0:Xr gt H6 a.dT m.ts m.lv r:=o6.lawT U.wf G.len G.up;exists _,Z,_,Z,a.dT,j,m.ts,m.lv,r,Z,o0,C;intro H7 v7 s7 l8;refine⟨_,v7,(Yq (gd m.ts j)).kt,5,Z,(W6.tag.mono (ZD.tups s7)).key,l8.key,Co (Jm m3),by decide,λH8 s8=>⟨_,Z,Zm ?_⟩⟩
  let a8:=(e8.trans s7).trans s8;let p4:=a8 _ _ O;let l1:=a8 _ _ c5;refine⟨_,Z,.inr (.inl ⟨t,_,1,_,rfl,rfl,Zh.of p4,rfl,.inl ⟨rfl,_,ZM.of l1⟩,l',vs,rfl,rfl,l1,?_⟩)⟩;let N:∀ c o,c≠a.lk->M c=some o->upd H8 l' (.lst []) c=some o:=λc o n e=>by rw[ZU (Za e m0)];exact a8 _ _ (l _ _ n e)
  let e6:upd H8 l' (.lst []) a.lk=some (.lst (p++[.int (j:Nat)])):=by rw[ZU (Za B m0)];exact a8 _ _ a2
  generalize upd H8 l' (.lst [])=H9 at N e6⊢;let r8:Yb M H9:=λb ys e=>N b _ (ZE e B) e;let U9:XB gt jg jh H9 a.S a.d a.lk m.ts m.lv m.av m.ho a.as g (p++[.int (j:Nat)]):=⟨LZ I.sh N e6,I.wf,I.vl,I.av,I.live,I.l800⟩;let i1:Wl H9 a.dT m.ts m.lv a.bs r:=D.frame r8 (N _ _ (ZE D.dict B) D.dict) λb hb o e=>N _ _ (y.t3 b hb).2.1 e;let i9:H9 a.dH=some (.dK c8):=N _ _ (ZE i8 B) i8;let W9:=U9.sh.tw j C;let l0:∀ H',ZD H9 H'->YD H' a.dH (.int (j:Nat)) (some (.int (m.ho j:Nat))):=λH' s'=>hH.2 j C ▸ YD.k (k:=Sum.inl (j:Int)) (s' _ _ i9);exists _,Z,a.S,_,_,Z,U9.sh.sh.self.choose_spec,Z,_,Z,a.S,a.d,a.lk,m.ts.length,g,_,(j:Int),_,_,_,_,_,_,Z,⟨U9.sh.sh,U9.sh.val j C,W9.tw⟩;refine⟨_,Z,_,Z,a.dH,.int (m.ho j:Nat),Z,l0 _ (ZD.refl _),(m.ho j:Nat),Z,λs4 a7=>⟨_,Z,Zm ?_⟩⟩;let a4:=U9.frame (U9.sh.same a7);let o7:=a4.sh.tw j C;exists _,Z,a.S,_,_,Z,a4.sh.sh.self.choose_spec,Z,_,Z,a.S,a.d,a.lk,m.ts.length,g,_,(j:Int),_,_,_,_,_,_,Z,⟨a4.sh.sh,a4.sh.val j C,o7.tw⟩;exists _,Z,_,Z,a.dH,.int (m.ho j:Nat),Z,l0 _ a7,_,Z,_,Z,a.dT,j,m.ts,m.lv,r,Z,(i1.same a7).lawT U.wf G.len G.up,a1;intro s5 m6 r3 s1 i5;refine⟨m6,_,Z,.inl (ZM.of i5),_,_,Z,Z,((iN (m.av j)).length:Nat)+(m.ho j:Nat),?_,λs9 a3=>⟨_,Z,Zm ?_⟩⟩
  ·rw[U.av j C];show [V.int _,V.int _]++[]=_;rw[Int.add_comm (m.ho j:Int)];rfl
  let m5:=(a7.trans r3).trans a3;let i2:=U9.frame (U9.sh.same m5);let⟨o,l5⟩:=EN (ho:=m.ho) U.wf U.vl _ j C (zY _);exists _,Z,a.S,_,_,Z,i2.sh.sh.self.choose_spec,Z,_,Z,a.S,a.d,a.lk,m.ts,m.lv,m.av,m.ho,a.as,g,_,j,o,Z,i2,C,l5;intro t0 r4;let a9:=m5.trans r4;refine⟨_,Z,_,_,_,_,Z,.bl _,Ib,_,Z,Zm ?_⟩;exists _,Z,_,Z,_,Z,_,Z,a.dT,a.dH,j,m.ts,m.lv,r,c8,m.ho,Z,(i1.same a9).lawT U.wf G.len G.up,a1,C,a9 _ _ i9,hH;intro t4 o' m4 l6;cases l5.uniq l6;let eo:V.bl o.isNone=V.bl (decide (oV o=V.non)):=by
   cases o with
   | none=>rfl
   | some k=>rfl
  refine⟨Z,_,Z,NM eo ?_⟩;refine⟨_,_,_,_,_,p++[.int (j:Nat)],Z,λc o' n e=>(a9.trans m4) _ _ (N _ _ n (z _ _ n e)),(a9.trans m4) _ _ e6,by rw[yZ,xA];lia⟩
 ·rintro σ M ⟨x4,x5,x6,x7,x8,p,rfl,z,B,l4⟩;let l3:=z _ _ e7 c6;exists _,Z,.inl ⟨Z,_,ZM.of l3⟩,q,_,Z,Z,l3;let l:∀ c o,c≠a.lk->c≠q->H3 c=some o->upd M q (.lst []) c=some o:=λc o n1 n2 e=>by rw[ZU n2];exact z _ _ n1 e
  let a2:upd M q (.lst []) a.lk=some (.lst p):=by rw[ZU (Ne.symm e7)];exact B
  generalize upd M q (.lst [])=H5 at l a2⊢;let x:∀ c o,c≠a.lk->H c=some o->H5 c=some o:=λc o n e=>l _ _ n (Za e nq) (a6 _ _ e);let U5:XB gt jg jh H5 a.S a.d a.lk m.ts m.lv m.av m.ho a.as g p:=⟨LZ U.sh x a2,U.wf,U.vl,U.av,U.live,U.l800⟩;exists _,Z,a.S,_,_,Z,U5.sh.sh.self.choose_spec,Z,a.S,a.d,a.lk,m.ts,m.lv,m.av,m.ho,a.as,g,p,Z,U5.sh;intro H6 e0 W p0 R6;exists _,Z,a.S,_,_,Z,R6.sh.self.choose_spec,Z,a.S,a.d,e0,m.ts.length,g,[],m.lv.map (λi:Nat=>(i:Int)),Z,R6.sh,(by rw[U.sh.keys,zJ];rfl),Qz Lw.vl.up,by simpa using a1
  intro q7 p9;rw[eI];let g7:=ZX p9 (.lst (iN m.lv));let a0:∀ c o,c≠a.lk->c≠a.S->H c=some o->upd H6 q7 (.lst (iN m.lv)) c=some o:=λc o n1 n2 e=>g7 _ _ (p0 _ _ n2 (x _ _ n1 e));let U7:XB gt jg jh (upd H6 q7 (.lst (iN m.lv))) a.S a.d e0 m.ts m.lv m.av m.ho a.as g []:=⟨R6.same g7,U.wf,U.vl,U.av,U.live,U.l800⟩;exists q7,_,Z,.inl (ZM.of ZO);generalize upd H6 q7 (.lst (iN m.lv))=H7 at a0 U7⊢;let Y:=y.lo (H':=H7) λc o n1 n2 n3 n4 e=>a0 c o n3 n1 e;let⟨c9,i0⟩:=Y.lw;let l7:c9.length=m.lv.length:=by have:=congrArg xL i0.keys;simpa using this
  exists _,Z,a.dT,c9,Z,i0.dict,Z;let ed:decide (V.int ((iN m.lv).length:Nat)=V.int (c9.length:Nat))=true:=aO (by rw[l7];simp[iN])
  rw[ed];let⟨⟨t6,i6⟩,t7,c0⟩:=U.sh.sh;refine k H7 { a with lk:=e0 } (λc o e v=>?_) (λT' q' tb=>?_) ⟨⟨g,[],U7,by simp⟩,Y.lw,Y.hd,Y.gr,Y.told,y.dd,?_,y.t2,λi hi=>?_,y.l64,y.l700⟩ Z
  ·let⟨v1,v2,v3,v4,v5,v6,v7⟩:=v;exact⟨⟨v1,v2,Za (x _ _ v3 e) W,v4,v5,v6,v7⟩,a0 _ _ v3 v1 e⟩
  ·exact ZQ.ext (T:=T') (q:=q') tb ⟨λb φ e=>a0 _ _ (ZE e c0) (ZE e i6) e,λb φ e=>a0 _ _ (ZE e c0) (ZE e i6) e⟩
  ·exact⟨Za (x _ _ y.tt.1 y.told) W,y.tt.2.1,(Za (x _ _ y.tt.2.2.symm G.at_) W).symm⟩
  ·let⟨t1,t2,t3⟩:=y.t3 i hi;let⟨tp,us,_,_,e,_⟩:=Lw.tw i hi;exact⟨t1,Za (x _ _ t2 e) W,t3⟩
structure Dg(ts:jr)(lv:jo)(av:Nat->jo)(ho:Nat->Nat)(pd:List (Nat×Nat))(ex:Nat->Prop):Prop where
 vl:Lv ts lv
 srt:∀ b∈lv,(av b).Pairwise (· < ·)
 mem:∀ b∈lv,∀ j,j∈av b ↔ j<ts.length/\b∈(gd ts j).bs/\(j∈lv\/(b,j)∈pd)
 pl:∀ x∈pd,x.1∈lv/\x.1∈(gd ts x.2).bs/\x.2∉lv/\x.2<ts.length
 live:∀ b∈lv,¬ ex b->1<=(av b).length+ho b
def M0{l:jo}(h:l.Pairwise (· < ·)):l.Nodup:=h.imp λh=>zM h
def LT{l:jo}(h:l.Pairwise (· < ·)){a b:Nat}:a∈l.erase b ↔ a≠b/\a∈l:=(M0 h).mem_erase_iff
section
variable{ts:jr}{lv:jo}{av:Nat->jo}{ho:Nat->Nat}{pd:List (Nat×Nat)}{ex:Nat->Prop}{i b:Nat}{r:jo}
def Dg.start(h:Dg ts lv av ho pd (· = i))(o:i∈lv)(e:av i=[])(s:∀ b∈(gd ts i).bs,b<i):Dg ts (lv.erase i) av ho ((gd ts i).bs.map (λb=>(b,i))++pd) λ_=>False:=by
 let d:∀{a:Nat},a∈lv.erase i ↔ a≠i/\a∈lv:=LT h.vl.up;let B:∀ j∈lv,i∉(gd ts j).bs:=λj m z=>by
  have:=(h.mem i o j).mpr ⟨h.vl.lt j m,z,.inl m⟩;rw[e] at this;cases this
 let q:=h.vl.lt i o;refine⟨⟨λj m=>h.vl.lt j (d.mp m).2,λj m b f=>?_,h.vl.up.sublist uO⟩,λb f=>h.srt b (d.mp f).2,λb f j=>?_,λx A=>?_,λb f _=>h.live b (d.mp f).2 (d.mp f).1⟩
 ·let n:=(d.mp m).2;exact d.mpr ⟨λz=>B j n (z ▸ f),h.vl.cl j n b f⟩
 ·rw[h.mem b (d.mp f).2 j];constructor
  ·rintro⟨k,g,l | l⟩
   ·by_cases z:j=i
    ·subst z;exact⟨k,g,.inr (xM _ (zO.mpr ⟨b,g,rfl⟩))⟩
    ·exact⟨k,g,.inl (d.mpr ⟨z,l⟩)⟩
   ·exact⟨k,g,.inr (yE _ l)⟩
  ·rintro⟨k,g,l | l⟩
   ·exact⟨k,g,.inl (d.mp l).2⟩
   ·rcases yQ.mp l with z | z
    ·let⟨c,_,w⟩:=zO.mp z;cases w;exact⟨k,g,.inl o⟩
    ·exact⟨k,g,.inr z⟩
 ·rcases yQ.mp A with z | z
  ·let⟨c,p,rfl⟩:=zO.mp z;have:=s c p;exact⟨d.mpr ⟨zM this,h.vl.cl i o c p⟩,p,λy=>(d.mp y).1 Z,q⟩
  ·let⟨t,u,C,v⟩:=h.pl x z;refine⟨d.mpr ⟨λy=>?_,t⟩,u,λy=>C (d.mp y).2,v⟩;have:=(h.mem x.1 t x.2).mpr ⟨v,u,.inr z⟩;rw[y,e] at this;cases this
def O2(av:Nat->jo)(b i:Nat):Nat->jo:=λc=>if c=b then (av c).erase i else av c
def Dg.cut(h:Dg ts lv av ho ((b::r).map (λb=>(b,i))++pd) λ_=>False)(v:(b::r).Nodup)(t:∀ x∈pd,x.2≠i):b∈lv/\i∈av b/\Dg ts lv (O2 av b i) ho (r.map (λb=>(b,i))++pd) (· = b):=by
 let g:(b,i)∈(b::r).map (λb=>(b,i))++pd:=xM _ (zO.mpr ⟨b,zK,Z⟩);let⟨m,o,p,q⟩:=h.pl _ g;let O5:=(wK.mp v).1;let a:∀{c j:Nat},(c,j)≠(b,i)->((c,j)∈(b::r).map (λb=>(b,i))++pd ↔ (c,j)∈r.map (λb=>(b,i))++pd):=fun{c j} n=>by
  rw[yP,uV,zF];exact⟨λz=>z.resolve_left n,.inr⟩
 let w:(b,i)∉r.map (λb=>(b,i))++pd:=λz=>by
  rcases yQ.mp z with y | y
  ·let⟨c,d,e⟩:=zO.mp y;cases e;exact O5 d
  ·exact t _ y Z
 let s:i∈av b:=(h.mem b m i).mpr ⟨q,o,.inr g⟩;refine⟨m,s,h.vl,λc d=>?_,λc d j=>?_,λx u=>?_,λc d z=>?_⟩
 ·unfold O2;split
  ·exact(h.srt c d).sublist uO
  ·exact h.srt c d
 ·unfold O2;by_cases z:c=b
  ·subst z;rw[aQ rfl,LT (h.srt c d),h.mem c d j];constructor
   ·rintro⟨n,k,l,f | f⟩
    ·exact⟨k,l,.inl f⟩
    ·exact⟨k,l,.inr ((a λy=>n (Prod.mk.inj y).2).mp f)⟩
   ·rintro⟨k,l,f⟩;let n:j≠i:=λy=>by
     subst y;exact f.elim p w
    exact⟨n,k,l,f.imp id λy=>(a λy=>n (Prod.mk.inj y).2).mpr y⟩
  ·rw[aP z,h.mem c d j];let n:(c,j)≠(b,i):=λy=>z (Prod.mk.inj y).1;rw[a n]
 ·exact h.pl x (yQ.mp u |>.elim (λy=>xM _ (by rw[yP];exact zI _ y)) λy=>yE _ y)
 ·rw[show O2 av b i c=av c from aP z];exact h.live c d id
def Dg.abv(h:Dg ts lv av ho [] ex)(g:b∈lv):av b=abv ts lv b:=by
 let k:(Tw.abv ts lv b).Pairwise (· < ·):=h.vl.up.sublist List.filter_sublist;refine List.Perm.eq_of_pairwise (le:=(· < ·)) (λa c _ _ e d=>absurd e (Nat.lt_asymm d)) (h.srt b g) k ((List.perm_ext_iff_of_nodup (M0 (h.srt b g)) (M0 k)).mpr λj=>?_);rw[h.mem b g j];unfold Tw.abv;rw[wS,decide_eq_true_iff];constructor
 ·rintro⟨_,d,f | f⟩
  ·exact⟨f,d⟩
  ·cases f
 ·rintro⟨e,d⟩;exact⟨h.vl.lt j e,d,.inl e⟩
end
def EV{d:jr}:∀{l:jo},(∀ b∈l,(gd d b).rows≠[])->((l.flatMap λb=>(gd d b).rows).map (·.1)).Pairwise (λa b=>a.lt b=true)->l.Nodup
 | [],_,_=>List.nodup_nil
 | b::l,h,hp=>by
  rw[wP,yR,vH] at hp;refine wK.mpr ⟨λz=>?_,EV (λc f=>h c (zI _ f)) hp.2.1⟩;let⟨r,j,e⟩:=List.exists_cons_of_ne_nil (h b zK);let g:r.1∈(gd d b).rows.map (·.1):=by rw[e];simp
  let i:r.1∈(l.flatMap λb=>(gd d b).rows).map (·.1):=zO.mpr ⟨r,uT.mpr ⟨b,z,by rw[e];simp⟩,Z⟩
  have:=hp.2.2 _ g _ i;rw[Ml] at this;cases this
def G7{gt:jp}{a:jr}(d:WF gt a){i:Nat}(c:i<a.length)(g:(gd a i).h≠0):(gd a i).bs.Nodup:=by
 let e:=d i _ (Wx c);let⟨_,_,j,k⟩:=e.stem g;let f:=e.up;rw[k] at f;exact EV (λb l=>(d b _ (Wx (Nat.lt_trans (j b l).1 c))).ne) f
def JW{gt:jp}{c:jr}(e:WF gt c):∀(n i:Nat),i<n->i<c.length->(gd c i).h<(gd c i).rows.length
 | 0,i,h,_=>absurd h (Nat.not_lt_zero _)
 | n+1,i,h,j=>by
  let k:=e i _ (Wx j);by_cases f:(gd c i).h=0
  ·rw[f];exact vI.mpr k.ne
  let⟨g,s,d,m⟩:=k.stem f;let o:=G7 e j f;rw[m];generalize (gd c i).bs=l at g d o
  match l,g,d with
  | a::b::r,_,d=>
   let t:=d a zK;let u:=d b (zI _ zK);let p:=JW e n a ∅ ∅
   let q:=JW e n b ∅ ∅
   rw[wP,wP,yZ,yZ]
   lia
inductive QB(ts:jr)(A:Nat->Prop):Nat->Prop
 | held {i:Nat}:A i->QB ts A i
 | step {i b:Nat}:QB ts A i->b∈(gd ts i).bs->QB ts A b
def QB.sub{c:jr}{A:Nat->Prop}{b:jo}(e:Lv c b)(h:∀ i,A i->i∈b){i:Nat}(r:QB c A i):i∈b:=by
 induction r with
 | held a=>exact h _ a
 | step _ d f=>exact e.cl _ f _ d
def QB.all{d:jr}{c:jo}{m:Nat->Nat}(k:∀ j∈c,∀ b∈(gd d j).bs,b<j)(l:Lv d c)(a:∀ i,i∈c->1<=(abv d c i).length+m i):∀(n i:Nat),d.length-i<=n->i∈c->QB d (λj=>j∈c/\0<m j) i
 | 0,i,h,g=>absurd (l.lt i g) ∅
 | n+1,i,h,g=>by
  by_cases o:0<m i
  ·exact .held ⟨g,o⟩
  ·cases e:abv d c i with
   | nil=>
    have:=a i g;rw[e] at this;exact absurd this (by simp;lia)
   | cons j r=>
    let f:j∈abv d c i:=by rw[e];exact zK
    unfold abv at f;rw[wS,decide_eq_true_iff] at f;have:=k j f.1 i f.2;have:=l.lt i g;exact .step (QB.all k l a n j ∅ f.1) f.2
end Tw
namespace L2
open PySem PySem.Spec PyProof.Rows
def ZMh{a:jw}{b:jd}(h:ZR (a.map V.int) b):PySem.W.kf_ints b=true/\∀(i:Nat)(n:Int),a[i]? = some n->∃ t,b[i]? = some (.int n t):=by
 refine⟨?_,λi n e=>?_⟩
 ·induction a generalizing b with
  | nil=>cases h;rfl
  | cons n a d=>
   cases h with
   | cons r t=>
    let⟨f,rfl⟩:=r;rw[PySem.W.kf_ints];exact d t
 ·let⟨u,c,t,rfl⟩:=h.get (x:=.int n) (i:=i) (by rw[zH,e];rfl)
  exact⟨t,c⟩
inductive PR(x:V)(c:je)(H:Hp)(Q:VK):Prop
 |mk(l:aj)(a:jw)(b:Int)(_:x=.ref l)(_:c=[.int b])(_:H l=some (.lst (a.map V.int)))(_:b∈a)(_:Q .non (upd H l (.lst ((a.erase b).map V.int))))
def ZJM:Ow X "list.remove" PR:=by
 intro D s Y H x V v U Q I R P h;let⟨l,d,b,rfl,rfl,C,J,q⟩:=h;cases R;let⟨u,rfl,O⟩:=P.one;let⟨S,rfl⟩:=O;let⟨z,c,n,r,T,e⟩:=I.lstM C;let⟨N,o⟩:=ZMh r;let B:=List.idxOf_lt_length_of_mem J;let g:c.length=d.length:=by have:=r.length;rw[zX] at this;exact this.symm
 let Jl:∀(m:Nat)(j:m<c.toArray.size)(k:Int),d[m]? = some k->isInt b c.toArray[m]=decide (k=b):=λm j k K=>by
  let⟨t,G⟩:=o m k K;have:c.toArray[m]? = some (Value.int k t):=by simpa using G
  rw[vE j] at this;rw[zG.inj this];show (k==b)=_;rw[xG];simp
 let f:d.idxOf b<c.toArray.size:=by rw[zL,g];exact B
 let M:c.toArray.size<=sizeLine:=by
  rw[zL,g];have:=z;rw[zX] at this;exact this
 refine call_meets F.slot_list_remove ⟨_,e,Z⟩ F.entry_list_remove (F.args_list_remove_2 _ _) (MeetsSeq.list_remove l c.toArray n (.int b S) (isInt b) (λy L=>PySem.W.kf_eq N y (by simpa using L)) (d.idxOf b) f ?_ (λm j w=>?_) M) ⟨e,?_⟩
 ·rw[Jl _ f b (by rw[zU B,List.getElem_idxOf B])]
  exact aO Z
 ·let A:m<d.length:=∅
  rw[Jl m j d[m] (zU A)];have:=List.not_of_lt_findIdx (p:=(· == b)) (xs:=d) (i:=m) w;exact aM λz=>by rw[z] at this;simp at this
 ·let E:d.erase b=d.take (d.idxOf b)++d.drop (d.idxOf b+1):=by rw[List.erase_eq_eraseIdx_of_idxOf rfl,qY]
  refine⟨.non,_,I.lset (its':=c.take (d.idxOf b)++c.drop (d.idxOf b+1)) C e ?_ ?_ ?_,Z,q⟩
  ·apply Array.toList_inj.mp;rw[Array.toList_eraseIdxIfInBounds,qY]
  ·rw[E,yR,List.map_take,List.map_drop];exact(r.take _).append (r.drop _)
  ·rw[zX];have:=List.length_erase_le (l:=d) (a:=b);rw[zX] at z
   lia
end L2
namespace Tw
open PySem PySem.Spec L2 PyProof.Rows
variable{jg jh CS CT CH CK CP CB:aj}
abbrev JF:Stmt:=Xy (top 35) 4
abbrev Mr:Stmt:=Xy (top 35) 5
abbrev My:Stmt:=Xy (top 35) 6
structure Zv(K:zZ)(C:aj)(m q:Str)(st:aC)(ps:jq):Prop where
 ex:∃ f fd,UL K C m f/\Zn K m q st f fd/\YB K fd ps []
def Zv.of{P:am}{w:aw}{K:zZ}{g:jb}{a:aD}{e:Wu}{C:aj}{m q:Str}{j:aC}{d:jq}{k:Nat}{i:Sp}(L:Zv K C m q j d)(h:∀ f c,Zn K m q j f c->ZH P w K g a e k f c d i):ZA P w K g a e k C m d i:=by
 let⟨f,c,M,F,b⟩:=L.ex;exact⟨f,c,M,h f c F,b⟩
def ZIW{a:List (ZW×V)}{b:jo}{i:Nat}(d:b.Nodup)(h:a.map (·.1)=b.map (λi:Nat=>(Sum.inl (i:Int):ZW))):(Wq a (.inl (i:Int))).map (·.1)=(b.erase i).map (λi:Nat=>(Sum.inl (i:Int):ZW)):=by
 let c:(Wq a (.inl (i:Int))).map (·.1)=(a.map (·.1)).filter λk=>decide (k≠.inl (i:Int)):=by
  unfold Wq;rw[List.filter_map];rfl
 rw[c,h,List.filter_map,d.erase_eq_filter]
 congr 1
 refine tL λj _=>?_;show decide ((Sum.inl (j:Int):ZW)≠Sum.inl (i:Int))=(j != i);rw[xG];simp
 lia
def ZOa(l:jo)(i:Nat):(l.map λn:Nat=>(n:Int)).erase (i:Int)=(l.erase i).map λn:Nat=>(n:Int):=by
 induction l with
 | nil=>rfl
 | cons a l b=>
  rw[yP,List.erase_cons,List.erase_cons];by_cases z:a=i
  ·rw[aQ (by rw[z];exact beq_self_eq_true _),aQ (by rw[z];exact beq_self_eq_true _)]
  ·let c:¬ ((a:Int)==(i:Int))=true:=λy=>z (by have:=eq_of_beq y;lia)
   rw[aP c,aP (λy=>z (eq_of_beq y)),b];rfl
def Bp{a:List (ZW×V)}{k j:ZW}(h:j≠k):YR (Wq a k) j=YR a j:=by
 induction a with
 | nil=>rfl
 | cons p r b=>
  by_cases z:p.1=k
  ·rw[ZI3 z,b,Ub (by rw[z];exact Ne.symm h)]
  ·rw[Bc z];by_cases y:p.1=j
   ·rw[Ux y,Ux y]
   ·rw[Ub y,Ub y,b]
section
variable{jg jh:aj}{H H':Hp}{S d lk:aj}{ts:jr}{lv:jo}{av:Nat->jo}{ho:Nat->Nat}{as:jy}{kvs:List (ZW×V)}{ls:je}{b i:Nat}
def YQ.gone(R:YQ jg jh H S d lk ts lv av ho as kvs ls)(r:lv.Pairwise (· < ·)):YQ jg jh (upd H d (.dK (Wq kvs (.inl (i:Int))))) S d lk ts (lv.erase i) av ho as (Wq kvs (.inl (i:Int))) ls:=by
 let⟨⟨s,q⟩,h,p⟩:=R.sh;let g:∀{a:Nat},a∈lv.erase i ↔ a≠i/\a∈lv:=LT r;let k:∀ c o,c≠d->H c=some o->upd H d (.dK (Wq kvs (.inl (i:Int)))) c=some o:=λc o n e=>by rw[ZU n];exact e
 let m:Yb H (upd H d (.dK (Wq kvs (.inl (i:Int))))):=λc x e=>k c _ (ZE e h) e;refine⟨⟨⟨s,k _ _ (ZE q h) q⟩,ZO,k _ _ (ZE p h) p⟩,ZIW (M0 r) R.keys,λj f=>?_,λj f=>R.lt j (g.mp f).2,R.len,λj f=>?_,λj f=>R.own j (g.mp f).2,λj l f p=>R.two j l (g.mp f).2 (g.mp p).2⟩
 ·rw[Bp (λz=>(g.mp f).1 (Xt.mp z))];exact R.val j (g.mp f).2
 ·let W:=R.tw j (g.mp f).2;let⟨v,u⟩:=W.tw.self;let⟨w,t,_⟩:=W.things;exact W.frame m (λo e=>k _ _ (ZE u h) e) (λo e=>k _ _ (ZE t h) e) (λo e=>k _ _ (ZE W.tw.above h) e)
def YQ.set1(R:YQ jg jh H S d lk ts lv av ho as kvs ls)(g:b∈lv){av':Nat->jo}{ho':Nat->Nat}(B:∀ c,c≠b->av' c=av c)(C:∀ c,c≠b->ho' c=ho c)(F:∃ u,H' (as.getD b .d).x=some (.ins jh u (QA (.ref (as.getD b .d).th) (.ref (as.getD b .d).tg) (as.getD b .d).ab (ho' b))))(E:H' (as.getD b .d).ab=some (.lst (iN (av' b))))(k:∀ c o,c≠(as.getD b .d).x->c≠(as.getD b .d).ab->H c=some o->H' c=some o):YQ jg jh H' S d lk ts lv av' ho' as kvs ls:=by
 let⟨⟨t,r⟩,n,s⟩:=R.sh;let h:=R.tw b g;let⟨v,a⟩:=h.tw.self;let f:=h.tw.above;let⟨L,q,y,A⟩:=h.things;let m:Yb H H':=λc U e=>k c _ (ZE e a) (ZE e f) e;refine⟨⟨⟨t,k _ _ (R.own b g).1.symm (ZE r f) r⟩,k _ _ (ZE n a) (ZE n f) n,k _ _ (ZE s a) (R.own b g).2.1.symm s⟩,R.keys,R.val,R.lt,R.len,λi l=>?_,R.own,R.two⟩;by_cases z:i=b
 ·subst z;exact⟨⟨F,E⟩,⟨L,k _ _ (ZE q a) (R.own i l).2.2.2.symm q,λz=>(y z).mono m _ _,A⟩,h.tag.mono m⟩
 ·let j:=R.tw i l;let⟨J,K,P,Q⟩:=R.two i b l g z;let⟨M,N,I,O⟩:=R.two b i g l (Ne.symm z);let⟨w,p⟩:=j.tw.self;let⟨T,D,_⟩:=j.things;let G:=j.frame m (λo e=>k _ _ J (ZE p f) e) (λo e=>k _ _ (ZE D a) I.symm e) (λo e=>k _ _ (ZE j.tw.above a) K e);refine⟨?_,G.things,G.tag⟩;rw[B i z,C i z];exact G.tw
end
def QN:ZB zE7 zEa (Zf JF):=YA
inductive WQ(gt:jp)(n:Nat)(jg jh:aj)(v:je)(H:Hp)(Q:VK)(_:XK):Prop
 |mk(S d s:aj)(g:jr)(e:jo)(r:Nat->jo)(k:Nat->Nat)(p:jy)(q:List (ZW×V))(t:je)(u:List (Nat×Nat))(i:Nat)(_:v=[.ref S,.int (i:Nat)])(_:YQ jg jh H S d s g e r k p q t)(_:WF gt g)(_:Dg g e r k u (· = i))(_:i∈e)(_:(gd g i).h<=n)(_:∀(m:Hp)(a:jo)(j:Nat->jo)(l:List (ZW×V)),(∀ c o,c≠d->(∀ b:Nat,b∈e->c≠(p.getD b .d).ab)->H c=some o->m c=some o)->YQ jg jh m S d s g a j k p l t->Dg g a j k u (λ_=>False)->a.Sublist e->(∀ b∈e,0<k b->b∈a)->Q .non m)
def Qf:ZB ["self","number","twig","branch"] zEa (Zf My):=YA
def E8{gt:jp}{n:Nat}(F:Zn K "drop_unheld" "Shelf.drop_unheld" My f fd)(L:YT K mg jg jh)(DH:ZA P w K mg jX Zd 2 jg "holders" zEa (X0 jg jh λ_ v us=>.int ((us.length:Nat)+(v:Nat):Int)))(DT:ZA P w K mg jX Zd 1 jg "twig_of" zEa (Z4 jg))(DS:ZC P w K mg jX 1 "is_stem" zFb (Xb jh))(DR:ZA P w K mg jX Zd (n+3) jg "drop_unheld" zEa (λvs H Q E=>∃ m,m<n/\WQ gt m jg jh vs H Q E)):ZH P w K mg jX Zd (n+4) f fd zEa (WQ gt n jg jh):=by
 refine F.ko Qf λi1 A e5 s H vs Q E hr h=>?_;let⟨S,d,lk,r,J,T,v,l,y,ls,pd,i,rfl,R,hw,G,N,hn,k⟩:=h;let nd:=Qf.nd;let a5:=hr.mono (show 1<=n+3 by lia)
 let e0:=hr.mono (show 2<=n+3 by lia)
 intro Xc;refine⟨_,ZP (Zo (YI PQ (YL (E:=E0) (pv 0) L.cS DH e0 XJ (ZT (pv 1))) ZJ (Zz _)) (ZV ZMl) Zt)
  (ZP (Zx 2 nd (DZ (WC (pv 0) rfl) (pv 1) ⟨rfl,rfl,rfl,rfl⟩))
  (ZV (Zo (YU (Zr DS a5 (ZT (pv 2))))
   (ZV (VM PassesOwn.never rfl (VN (WC (pv 2) rfl)) (Yc 3 nd)
    (ZP (WB (V6 yL PySem.F.slot_list_remove PySem.F.type_list_remove ZJM (WC (YL (E:=E0) (pv 0) L.cS DT a5 XJ (ZT (pv 3))) rfl) (ZT (pv 1))))
    (ZV (WB (YL (E:=E0) (pv 0) L.cS DR hr XJ (ZT (pv 3)))))))) Zt))),?_⟩
 let⟨dx,hS⟩:=R.sh.self;let W:=R.tw i N;let⟨dt,hx⟩:=W.tw.self;let lI:(iN (T i)).length=(T i).length:=zX _;exists _,Z,S,dx,_,Z,hS,Z,_,Z,S,d,lk,r.length,y,ls,(i:Int),_,_,_,_,_,_,Z,⟨R.sh,R.val i N,W.tw⟩;exists _,_,Z,Z,_,Z;refine X7 (λc=>?_) (λc=>?_)
 ·let hc:1<=(T i).length+v i:=by
   have:=of_decide_eq_true c;rw[lI] at this
   lia
  refine k H J T y (λc o _ _ e=>e) R ⟨G.vl,G.srt,G.mem,G.pl,λb C _=>?_⟩ (tZ.refl _) λb C _=>C;by_cases z:b=i
  ·rw[z];exact hc
  ·exact G.live b C z
 ·let hc:(T i).length+v i=0:=by
   have:¬ ((0:Int)<((iN (T i)).length:Nat)+(v i:Nat)):=λz=>c (aO z);rw[lI] at this
   lia
  let ea:T i=[]:=vS ∅
  let h0:v i=0:=∅
  let Y:=R.sh.kept;let a4:=R.lt i N;let ok:=hw i _ (Wx a4);exists _,Z,S,jg,dx,_,.ref d,Z,hS,L.cS,L.nk,Z,d,Z,.inl ⟨y,Rd.of Y⟩,_,Z,y,.inl (i:Int),.ref (l.getD i .d).x,Y,Z,R.val i N;let U:∀ b o,b≠d->H b=some o->upd H d (.dK (Wq y (.inl (i:Int)))) b=some o:=λb o n e=>by rw[ZU n];exact e
  let R1:=R.gone (i:=i) G.vl.up;let⟨us,M,i3,e8⟩:=W.things;let⟨q,k0,k1,eq,a8,_,_⟩:=W.tag;cases eq;let c3:∀ b∈(gd r i).bs,b<i:=λb C=>by
   by_cases z:(gd r i).h=0
   ·rw[(ok.leaf z).1] at C;cases C
   ·exact((ok.stem z).2.2.1 b C).1
  let G1:=G.start N ea c3;let pi:∀ x∈pd,x.2≠i:=λx hx z=>(G.pl x hx).2.2.1 (by rw[z];exact N)
  let O:∀ b∈J,0<v b->b∈J.erase i:=λb C hp=>(LT G.vl.up).mpr ⟨λz=>(by rw[z,h0] at hp;cases hp),C⟩
  generalize upd H d (.dK (Wq y (.inl (i:Int))))=H1 at U R1⊢;let a6:=U _ _ (ZE hx Y) hx;let c0:=U _ _ (ZE W.tw.above Y) W.tw.above;let e7:=U _ _ (ZE a8 Y) a8;exists _,Z,(l.getD i .d).x,.ref (l.getD i .d).th,_,(l.getD i .d).ab,v i,_,_,_,Z,⟨⟨dt,a6⟩,c0⟩,e7,_,Z;by_cases hz:(gd r i).h=0
  ·let eb:=(ok.leaf hz).1;rw[eb] at G1;rw[aM (show ¬ (Yq (gd r i)).h > 0 by show ¬ ((gd r i).h:Int) > 0;lia)]
   refine Zm (k H1 _ _ _ (λc o n _ e=>U c o n e) R1 G1 uO O)
  ·rw[aO (show (Yq (gd r i)).h > 0 by show ((gd r i).h:Int) > 0;lia)]
   let ew:=e8 hz;subst ew;let e3:=G7 hw a4 hz;let⟨b2,b4,bh,_⟩:=ok.stem hz;let e9:=U _ _ (ZE M Y) M;refine Z3 ⟨_,Z,(l.getD i .d).x,jh,dt,_,.ref (l.getD i .d).th,Z,a6,L.cT,L.nth,Z,_,Z,⟨_,ZM.of e9⟩,?_⟩;let a9:∀ b:Nat,b∈J->(l.getD i .d).th≠(l.getD b .d).ab:=λb C=>by
    by_cases z:b=i
    ·rw[z];exact(R.own i N).2.2.2.symm
    ·exact(R.two b i C N z).2.2.1.symm
   refine Qt (K:=K) (a:=(l.getD i .d).th) (xs:=iN (gd r i).bs) (λj σ I=>∃(x3:jf)(t:jo)(g:Nat->jo)(p:List (ZW×V)),σ=[some (.ref S),some (.int (i:Nat)),some (.ref (l.getD i .d).x),x3]/\(∀ c o,c≠d->(∀ b:Nat,b∈J->c≠(l.getD b .d).ab)->H c=some o->I c=some o)/\YQ jg jh I S d lk r t g v l p ls/\Dg r t g v (((gd r i).bs.drop j).map (λb=>(b,i))++pd) (λ_=>False)/\t.Sublist (J.erase i)/\∀ b∈J,0<v b->b∈t)
    ⟨_,_,_,_,rfl,λc o n _ e=>U c o n e,R1,G1,tZ.refl _,O⟩ ?_ ?_ ?_
   ·rintro j σ I _ ⟨x3,t,g,p,rfl,B,_⟩;exact ZM.of (B _ _ (ZE M Y) a9 M)
   ·rintro j u σ I a0 ⟨x3,t,g,p,rfl,B,R2,G2,D,a2⟩;unfold iN at a0;rw[zH] at a0;let⟨b,eb,rfl⟩:=yA.mp a0;let⟨jl,ej⟩:=yH.mp eb;let ed:(gd r i).bs.drop j=b::(gd r i).bs.drop (j+1):=by rw[<-ej];exact uF jl
    rw[ed] at G2;let e4:(b::(gd r i).bs.drop (j+1)).Nodup:=by rw[<-ed];exact e3.sublist (List.drop_sublist _ _)
    let⟨bl,ib,G3⟩:=G2.cut e4 pi;let⟨c4,c7⟩:=R2.sh.self;let Wb:=R2.tw b bl;let⟨db,a1⟩:=Wb.tw.self;let X:=Wb.tw.above;let eI:iN (g b)=((g b).map λn:Nat=>(n:Int)).map V.int:=by rw[zJ];rfl
    let eE:((g b).map λn:Nat=>(n:Int)).erase (i:Int)=((g b).erase i).map λn:Nat=>(n:Int):=ZOa _ _;exists _,Z,S,c4,_,Z,c7,Z,_,Z,S,d,lk,r.length,p,ls,(b:Int),.ref (l.getD b .d).x,Z,R2.sh,R2.val b bl,(l.getD b .d).x,jh,db,_,.ref (l.getD b .d).ab,Z,a1,L.cT,L.nab,Z,.inl ⟨Z,_,ZM.of X⟩,_,Z,(l.getD b .d).ab,(g b).map (λn:Nat=>(n:Int)),(i:Int),Z,Z,by rw[<-eI];exact X,zO.mpr ⟨i,ib,Z⟩
    rw[eE];let i0:(l.getD b .d).x≠(l.getD b .d).ab:=ZE a1 X;let R3:=R2.set1 (H':=upd I (l.getD b .d).ab (.lst ((((g b).erase i).map λn:Nat=>(n:Int)).map V.int))) bl (av':=O2 g b i) (ho':=v) (λc n=>aP n) (λ_ _=>rfl) ⟨db,by rw[ZU i0];exact a1⟩ (by rw[ZO,show O2 g b i b=(g b).erase i from aQ rfl,zJ];rfl) λc o _ n2 e=>by rw[ZU n2];exact e
    let c2:b∈J:=rX (D.subset bl);let a3:∀ c o,c≠d->(∀ b:Nat,b∈J->c≠(l.getD b .d).ab)->H c=some o->upd I (l.getD b .d).ab (.lst ((((g b).erase i).map λn:Nat=>(n:Int)).map V.int)) c=some o:=λc o n1 n2 e=>by rw[ZU (n2 b c2)];exact B c o n1 n2 e
    generalize upd I (l.getD b .d).ab (.lst ((((g b).erase i).map λn:Nat=>(n:Int)).map V.int))=H3 at R3 a3⊢;let⟨c5,c8⟩:=R3.sh.self;let i2:=bh b (yU eb);exists _,Z,S,c5,_,Z,c8,Z,_,Z,(gd r b).h,∅,S,d,lk,r,t,_,v,l,p,ls,_,b,Z,R3,hw,G3,bl,zY _
    intro H4 e2 c1 a7 c6 R4 G4 e6 e1;exact⟨_,e2,c1,a7,Z,λc o n1 n2 e=>c6 c o n1 (λc' c9=>n2 c' (rX (D.subset c9))) (a3 c o n1 n2 e),R4,G4,e6.trans D,λc hc hp=>e1 c (a2 c hc hp) hp⟩
   ·rintro σ I ⟨x3,t,g,p,rfl,B,R2,G2,D,a2⟩;rw[show (iN (gd r i).bs).length=(gd r i).bs.length from zX _,List.drop_of_length_le (zY _)] at G2;exact k I t g p B R2 G2 (D.trans uO) a2
def Hz{gt:jp}(a:Zv K jg "drop_unheld" "Shelf.drop_unheld" My zEa)(L:YT K mg jg jh)(j:ZA P w K mg jX Zd 2 jg "holders" zEa (X0 jg jh λ_ b A=>.int ((A.length:Nat)+(b:Nat):Int)))(o:ZA P w K mg jX Zd 1 jg "twig_of" zEa (Z4 jg))(l:ZC P w K mg jX 1 "is_stem" zFb (Xb jh)):∀ n:Nat,ZA P w K mg jX Zd (n+3) jg "drop_unheld" zEa (λg H Q E=>∃ m,m<n/\WQ gt m jg jh g H Q E)
 | 0=>a.of λ_ _ _=>Ju λg H Q E h=>by let⟨m,s,_⟩:=h;lia
 | n+1=>a.of λ_ _ F=>(E8 F L j o l (Hz a L j o l n)).imp λg H Q E h=>by
  let⟨m,s,S,d,u,z,x,q,b,p,c,v,y,i,e,R,t,G,r,B,k⟩:=h;exact⟨S,d,u,z,x,q,b,p,c,v,y,i,e,R,t,G,r,∅,k⟩
def XB.dg{gt:jp}{f g:aj}{H:Hp}{S d o:aj}{l:jr}{k:jo}{i:Nat->jo}{e:Nat->Nat}{m:jy}{h:List (ZW×V)}{p:je}{b:Nat}(U:XB gt f g H S d o l k i e m h p):Dg l k i (Ww e b) [] (· = b):=by
 refine⟨U.vl,λc a=>?_,λc a j=>?_,λx n=>(by cases n),λc a z=>?_⟩
 ·rw[U.av c a];exact U.vl.up.sublist List.filter_sublist
 ·rw[U.av c a];unfold abv;rw[wS,decide_eq_true_iff];exact⟨λz=>⟨U.vl.lt j z.1,z.2,.inl z.1⟩,λz=>⟨z.2.2.elim id (λy=>by cases y),z.2.1⟩⟩
 ·rw[U.av c a,show Ww e b c=e c from aP z];exact U.live c a
inductive XT(gt:jp)(jg jh CH:aj)(t:je)(H:Hp)(Q:VK)(E:XK):Prop
 |mk(S d q:aj)(p:jr)(i:jo)(s:Nat->jo)(e:Nat->Nat)(k:jy)(n:List (ZW×V))(r:je)(b:Nat)(_:t=[.ref S,.int (b:Nat)])(_:XB gt jg jh H S d q p i s e k n r)(_:(gd p b).h<64)(_:b∈i)(_:e b=0->VH CH (b:Nat) E H)(_:0<e b->∀(l:Hp)(a:jo)(m:Nat->jo)(g:List (ZW×V)),(∀ c o,c≠d->c≠(k.getD b .d).x->(∀ j:Nat,j∈i->c≠(k.getD j .d).ab)->H c=some o->l c=some o)->XB gt jg jh l S d q p a m (Ww e b) k g r->a.Sublist i->(∀ c∈i,0<Ww e b c->c∈a)->Q .non l)
def VQ:ZB zE7 zEa (Zf Mr):=YA
def EG{gt:jp}(F:Zn K "let_go" "Shelf.let_go" Mr f fd)(L:YT K mg jg jh)(DC:ZA P w K mg jX (Zg P w) 3 jg "check_held" zEe (Yj jg jh CH))(DT:ZA P w K mg jX Zd 1 jg "twig_of" zEa (Z4 jg))(DD:ZA P w K mg jX Zd 67 jg "drop_unheld" zEa (λvs H Q E=>∃ m,m<64/\WQ gt m jg jh vs H Q E)):
  ZH P w K mg jX (Zg P w) 68 f fd zEa (XT gt jg jh CH):=by
 refine F.kD VQ λa4 A a1 s H vs Q E T h=>?_;let⟨S,d,lk,C,lv,G,j,i,p,ls,b,rfl,U,a5,u,k1,k2⟩:=h;let nd:=VQ.nd;let V:=T.mono (show 1<=67 by lia)
 let W:=T.mono (show 3<=67 by lia)
 intro Xc;refine⟨_,ZP (WB (YL (E:=E) (pv 0) L.cS DC W (Yv Yl λ_ _ _ h=>h) (ZT (Yp (ZT (pv 1))))))
  (ZP (Zx 2 nd (YL (E:=E0) (pv 0) L.cS DT V XJ (ZT (pv 1))))
  (ZP (Gu (pv 2) ZJ Fw)
  (ZV (WB (YL (E:=E0) (pv 0) L.cS DD T XJ (ZT (pv 1))))))),?_⟩
 let⟨dx,hS⟩:=U.sh.sh.self;exists _,Z,S,dx,_,Z,hS,Z,_,Z,Zu;intro l nl;let g:=ZX nl (.lst [.int (b:Nat)]);let hl:=ZO (H:=H) (a:=l) (o:=.lst [.int (b:Nat)]);generalize upd H l (.lst [.int (b:Nat)])=H1 at g hl⊢;let R1:=U.sh.same g;refine⟨S,d,lk,l,C,lv,G,j,i,p,ls,[b],Z,R1,hl,λc k=>by rw[yY.mp k];exact u,λc k=>?_,λk B s2=>?_⟩
 ·let h1:=yY.mp (sL k);let h2:=tR k;subst h1;exact(k1 (of_decide_eq_true h2)).mono g
 let hp:0<j b:=by
  have:=vU.mp k b zK;simp at this
  lia
 let y:=g.trans s2;let R2:=U.sh.same y;let⟨J,O⟩:=R2.sh.self;let Wb:=R2.tw b u;let⟨q,X⟩:=Wb.tw.self;let t:=Wb.tw.above;exists _,Z,S,J,_,Z,O,Z,_,Z,S,d,lk,C.length,p,ls,(b:Int),.ref (i.getD b .d).x,Z,R2.sh,R2.val b u;exists _,Z,(i.getD b .d).x,jh,q,_,.int (j b:Nat),Z,X,L.cT,L.nho,Z,_,_,Z,Z,q,_,X,zA Z;let a3:(i.getD b .d).ab≠(i.getD b .d).x:=ZE t X;let eh:((j b:Nat):Int)-1=((j b-1:Nat):Int):=∅
 let D:=R2.set1 (H':=upd B (i.getD b .d).x (.ins jh q (XU "holds" (.int (((j b:Nat):Int)-1)) (QA (.ref (i.getD b .d).th) (.ref (i.getD b .d).tg) (i.getD b .d).ab (j b))))) u (av':=G) (ho':=Ww j b) (λ_ _=>rfl) (λc n=>aP n) ⟨q,by
  rw[ZO,show Ww j b b=j b-1 from aQ rfl,eh];rfl⟩ (by rw[ZU a3];exact t) λc o n1 _ e=>by rw[ZU n1];exact e
 let r:∀ c o,c≠(i.getD b .d).x->B c=some o->upd B (i.getD b .d).x (.ins jh q (XU "holds" (.int (((j b:Nat):Int)-1)) (QA (.ref (i.getD b .d).th) (.ref (i.getD b .d).tg) (i.getD b .d).ab (j b)))) c=some o:=λc o n e=>by rw[ZU n];exact e
 generalize upd B (i.getD b .d).x (.ins jh q (XU "holds" (.int (((j b:Nat):Int)-1)) (QA (.ref (i.getD b .d).th) (.ref (i.getD b .d).tg) (i.getD b .d).ab (j b))))=H3 at D r⊢;let⟨M,R⟩:=D.sh.self;exists _,Z,S,M,_,Z,R,Z,_,Z,(gd C b).h,∅,S,d,lk,C,lv,G,_,i,p,ls,[],b,Z,D,U.wf,U.dg,u,zY _
 intro H4 a0 I v N R4 z a2 Y;refine k2 hp H4 a0 I v (λc o n1 n2 n3 e=>N c o n1 n3 (r c o n2 (y c o e))) ⟨R4,U.wf,z.vl,λc k=>z.abv k,λc k=>?_,U.l800⟩ a2 Y;rw[<-z.abv k];exact z.live c k id
abbrev qS:Str:=("_law_put_stem" ++ ".<locals>.") ++ "<lambda>"
abbrev cl2(n:Nat):jC:=[((("_law_shelf" : String):Str),n+4),((("_law_handed" : String):Str),n+3)]
def Qv(j:Nat):Arguments×Expr×Scope:=match (Xz V4)[j]? with
 | some (.Assign _ (.Call _ [.Lambda a b c _] _ _) _)=>(a,b,c)
 | _=>(⟨[],[],none,[],[],none,[]⟩,.Name "" ⟨0,0,0,0⟩,(Zf V4))
def M4{f g:aj}{H l:Hp}{S d r T:aj}{u:jr}{t:jo}{n:Nat->jo}{p:Nat->Nat}{m:jy}{h:List (ZW×V)}{s:je}{q:Str}(R:YQ f g H S d r u t n p m h s)(k:ZQ H T q)(a:∀ b o,b≠T->H b=some o->l b=some o):YQ f g l S d r u t n p m h s:=by
 let⟨C,c,_⟩:=id k;let⟨⟨A,v⟩,w,x⟩:=id R.sh;refine R.frame (λb E e=>a _ _ (ZE e c) e) (λo e=>a _ _ (ZE v c) e) (λo e=>a _ _ (ZE w c) e) (λo e=>a _ _ (ZE x c) e) λi j=>?_;let⟨B,z⟩:=(R.tw i j).tw.self;let⟨D,y,_⟩:=(R.tw i j).things;exact⟨λo e=>a _ _ (ZE z c) e,λo e=>a _ _ (ZE y c) e,λo e=>a _ _ (ZE (R.tw i j).tw.above c) e⟩
def Ed{gt:jp}{o q m f c':aj}{co:aJ}{pm ctv:ai}{n:Nat}(i:Y2 co qS)(L:YT K mg jg jh)(t:ZA P w K mg jX (Zg P w) 10 jg "put_stem" zEe (Z7 gt jg jh o q m)):
  ZH P w K mg jX (Zg P w) 70 f (vP "<lambda>" qS (Qv 6).1 (Qv 6).2.1 (Qv 6).2.2 (cl2 n) pm (.ref c') ctv) []
   (NN f c' (xK "<lambda>" qS (Qv 6).1 (Qv 6).2.1 (Qv 6).2.2 (cl2 n) pm c' ctv) co (cl2 n) zFa (Z7 gt jg jh o q m)):=by
 let T:(("_law_shelf" : String):Str)≠(("_law_handed" : String):Str):=by decide
 refine Hl (k:=69) (λx y c v B=>?_) (λx h=>?_) (λx c h=>?_) (by decide +kernel) Z Z Z (by decide +kernel) i λA j s H X Q E D h=>?_
 ·let a:=PySem.mem_of_lookup v;let b:=PySem.mem_of_lookup B;simp only[zF,wQ,or_false,Prod.mk.injEq] at a b;rcases a with ⟨a,e⟩ | ⟨a,e⟩ <;> rcases b with ⟨b,g⟩ | ⟨b,g⟩
  ·rw[a,b]
  ·exact absurd (e.symm.trans g) (xH (xV (n+3)))
  ·exact absurd (g.symm.trans e) (xH (xV (n+3)))
  ·rw[a,b]
 ·let r:∀ p∈(Qv 6).2.2.names,(p.2=.cell\/p.2=.free)->p.1=(("_law_handed" : String):Str)\/p.1=(("_law_shelf" : String):Str):=by decide +kernel
  have:x=(("_law_handed" : String):Str)\/x=(("_law_shelf" : String):Str):=by
   rcases h with h | h
   ·exact r _ (PySem.mem_of_lookup h) (.inl rfl)
   ·exact r _ (PySem.mem_of_lookup h) (.inr rfl)
  rcases this with z | z
  ·exact⟨n+3,by rw[z];rfl⟩
  ·exact⟨n+4,by rw[z];rfl⟩
 ·let a:=PySem.mem_of_lookup h;exact zO.mpr ⟨_,a,Z⟩
 ·let⟨S,d,M,l,V,O,I,J,G,F,N,U,rfl,R,_⟩:=id h;let⟨u,C⟩:=R.sh.self;exact⟨_,YL (E:=E) (pv 0) L.cS t (D.mono ∅) (Yv (E1:=E) Os λ_ _ _ h=>h) (ZT (pv 1)),_,Z,S,u,_,Z,C,Z,_,Z,h⟩
def LB{gt:jp}{CB:aj}{C:Nat->aj}{n:Nat}{σ:L2.St}{H2:Hp}{Q:VK}{T hd S d lk:aj}{ts:jr}{lv:jo}{av:Nat->jo}{ho:Nat->Nat}{as:jy}{kvs:List (ZW×V)}{ls:je}{ns:jw}{NX:jq}{j0 j1:Nat}{f3 f4:aj}(L:YT K mg jg jh)(X2:XC K CB C 2)(X3:XC K CB C 3)(X4:XC K CB C 4)(F3:Y5 K (C 3) f3 "number")(F4:Y5 K (C 4) f4 "number")(DM:ZA P w K mg jX (Zg P w) 10 jg "put_stem" zEe (Z7 gt jg jh (C 2) (C 3) (C 4)))(tab:ZQ H2 T qS)(hj:NX[j0]? = some (("_law_handed" : String):Str))(hσ:σ[j0]? = some (some (.ref hd)))(hj1:NX[j1]? = some (("_law_shelf" : String):Str))(hσ1:σ[j1]? = some (some (.ref S)))(hhd:H2 hd=some (.lst (ns.map V.int)))(R:YQ jg jh H2 S d lk ts lv av ho as kvs ls)(hw:WF gt ts)(t800:lv.length<=800)(a800:∀ b,b∈lv->(av b).length<=800)(h100:ns.length<=100)(k1:∀ x,ns.find? (λx=>!Z2 lv x)=some x->∀ (h:Hp) (t:aj),(∀ b o,b≠T->H2 b=some o->h b=some o)->ZQ h T qS->h t=some (.tup [.str "twig",.int x])->Q (.ref t) h)(k2:∀ bs:jo,ns=bs.map (λb:Nat=>(b:Int))->(∀ b∈bs,b∈lv) ->
   (over (Yn ts bs)=none->∀ (h:Hp) (t:aj),(∀ b o,b≠T->H2 b=some o->h b=some o)->ZQ h T qS->h t=some (.tup [.str "stem"])->Q (.ref t) h) /\
   (over (Yn ts bs)≠none->∀ b,bs.find? (λb=>decide (ho b=0))=some b->∀ (h:Hp) (t:aj),(∀ b o,b≠T->H2 b=some o->h b=some o)->ZQ h T qS->h t=some (.tup [.str "held",.int (b:Nat)])->Q (.ref t) h) /\
   (over (Yn ts bs)≠none->bs.find? (λb=>decide (ho b=0))=none->∀ (h:Hp) (t:aj) (a:YM),H2 a.x=none->H2 a.th=none->H2 a.ab=none ->
    (∀ c o,c≠S->c≠d->c≠T->(∀ b:Nat,b∈lv->c≠(as.getD b .d).x/\c≠(as.getD b .d).ab)->H2 c=some o->h c=some o)->ZQ h T qS ->
    YQ jg jh h S d lk (ts++[WU ts bs]) (lv++[ts.length]) (UD bs ts.length (WT ts.length av)) (Wj bs (Yy ts.length ho)) (as++[a]) (YX kvs (.inl (ts.length:Int)) (.ref a.x)) ls->h t=some (.tup [.str "told",.int (ts.length:Nat)])->Q (.ref t) h)):
  MB (YN P w K mg jX CB C) (cl2 n) zFa NX (Z9 (Nr T (Qv 6).1 (Qv 6).2.1 (Qv 6).2.2 qS (cl2 n)) Y0) σ H2 Q:=by
 exists tab;intro I f c' co pm a1 a6 hf a5 N u c3;refine⟨[.ref S,.ref hd],Z,λi x v U H=>?_,λY eU c1 E CA=>?_⟩
 ·let i2:=(yH.mp H).1
  match i,i2,U,H with
  | 0,_,U,H=>cases U;cases H;exact⟨j1,hj1,hσ1⟩
  | 1,_,U,H=>cases U;cases H;exact⟨j0,hj,hσ⟩
  | i+2,i2,_,_=>exact absurd (show i+2<2 from i2) ∅
 let k:∀ c∈(cl2 n).map (·.2),∃ o,Y c=some (XH c o):=λc hc=>by
  let⟨o,v,e,_⟩:=CA.all c hc;exact⟨o,e⟩
 let⟨ps,hT,_⟩:=id tab;let⟨c4,a3,_⟩:=id u;let W:=N _ _ (ZE hhd hT) hhd;let RL:=M4 R tab N;let l:∀ b,I b=none->H2 b=none:=λb e=>by
  cases z:H2 b with
  | none=>rfl
  | some o=>
   by_cases y:b=T
   ·rw[y,a3] at e;cases e
   ·rw[N _ _ y z] at e;cases e
 exists f,_,_,_,Z,Ed (n:=n) (f:=f) (c':=c') (co:=co) (pm:=pm) (ctv:=a1) a6 L DM,λs=>.of_eq Z,E _ _ hf;intro Q' E' hQ hE;exists Z,E _ _ hf,E _ _ a5,[.ref S,.ref hd],CA;rw[eU];let q:∀(j h:Hp),ZD I j->(∀ c∈(cl2 n).map (·.2),j c=none)->ZD (reT ((cl2 n).map (·.2)) Y j) h->(∀ b o,b≠T->H2 b=some o->unT ((cl2 n).map (·.2)) h b=some o)/\ZQ (unT ((cl2 n).map (·.2)) h) T qS:=by
  intro j h B m p;let bk:ZD j (unT ((cl2 n).map (·.2)) h):=λb o e=>Kn m p e;exact⟨λb o nb e=>bk _ _ (B _ _ (N b o nb e)),u.ext (YV.same (B.trans bk))⟩
 let A:∀(j:Hp)(b:aj)(o:HO),(∀ c∈(cl2 n).map (·.2),j c=none)->j b=some o->reT ((cl2 n).map (·.2)) Y j b=some o:=λj b o m e=>by
  have:b∉(cl2 n).map (·.2):=λz=>by rw[m b z] at e;cases e
  unfold reT;rw[aP this];exact e
 refine⟨S,d,lk,hd,ts,lv,av,ho,as,kvs,ls,ns,Z,RL,hw,t800,a800,W,h100,λx hx G j B D m=>?_,λbs eb hb=>?_⟩
 ·refine hE _ _ _ ⟨3,∅,Z,X3,.inr ⟨∅,G,x,f3,Z,A _ _ _ m D,F3,λh t p F=>?_⟩⟩
  let⟨J,M⟩:=q j h B m p;exact⟨Oa k p,k1 x hx _ t J M (O3 k p F)⟩
 ·let⟨q1,q2,q3⟩:=k2 bs eb hb;refine⟨λr j B m=>?_,λr b a4 G j B D m=>?_,λr a8 j a nx c0 a9 O R' m=>hQ _ _ λt F=>?_⟩
  ·refine hE _ _ _ ⟨2,∅,Z,X2,.inl ⟨∅,λh t p F=>?_⟩⟩
   let⟨J,M⟩:=q j h B m p;exact⟨Oa k p,q1 r _ t J M (O3 k p F)⟩
  ·refine hE _ _ _ ⟨4,∅,Z,X4,.inr ⟨∅,G,(b:Nat),f4,Z,A _ _ _ m D,F4,λh t p F=>?_⟩⟩
   let⟨J,M⟩:=q j h B m p;exact⟨Oa k p,q2 r b a4 _ t J M (O3 k p F)⟩
  ·let g:=ZX F (.tup [.str "told",.int (ts.length:Nat)]);let bk:ZD j (unT ((cl2 n).map (·.2)) (upd (reT ((cl2 n).map (·.2)) Y j) t (.tup [.str "told",.int (ts.length:Nat)]))):=λb o z=>Kn m g z;let⟨⟨c2,a2⟩,a7,_⟩:=RL.sh;let a0:∀(b:aj)(o:HO),I b=some o->(∀ i:Nat,i∈lv->b≠(as.getD i .d).x/\b≠(as.getD i .d).ab)->b≠S->b≠d->j b=some o:=λb o e n1 n2 n3=>O b o n2 n3 n1 e;let kx:∀(b:aj)(o:HO),I b=some o->(∀ C G X,o≠.ins C G X)->(∀ X,o≠.lst X)->(∀ X,o≠.dK X)->j b=some o:=λb o e m1 m2 m3=>a0 b o e (λi hi=>by
    let⟨G,hx⟩:=(RL.tw i hi).tw.self;exact⟨ZE e hx (m1 _ _ _),ZE e (RL.tw i hi).tw.above (m2 _)⟩) (ZE e a2 (m1 _ _ _)) (ZE e a7 (m3 _))
   let ex:YV I j:=⟨λb φ z=>kx _ _ z (by intro _ _ _ y;cases y) (by intro _ y;cases y) (by intro _ y;cases y),λb φ z=>kx _ _ z (by intro _ _ _ y;cases y) (by intro _ y;cases y) (by intro _ y;cases y)⟩
   exact⟨Oa k g,q3 r a8 _ t a (l _ nx) (l _ c0) (l _ a9) (λc o n1 n2 n3 n4 e=>bk _ _ (O c o n1 n2 n4 (N _ _ n3 e))) (u.ext (ex.trans (YV.same bk))) (R'.same bk) (O3 k g ZO)⟩
end Tw
namespace L2
open PySem PySem.Spec PyProof.Rows
inductive UI(a:zZ)(x y:V)(H:Hp)(Q:VK):Prop
 |mk(p b:aj)(c:jw)(_:x=.ref p)(_:y=.ref b)(_:ZM a H p (c.map V.int))(_:ZM a H b (c.map V.int))(_:Q (.bl false) H)
def Au(F:X.A.units<cLine):XI X (az .NotEq) (UI X.K):=by
 intro l s Y H x y v u Q I O P h;let⟨p,b,a,rfl,rfl,C,D,q⟩:=h;cases O;cases P;let⟨d,m,M,U⟩:=I.list C;let⟨c,n,N,W⟩:=I.list D;let L:=m.length;let R:=n.length;refine PySem.SeqAt.RcNeAt.lists (e:=λ_=>true) M.isList N.isList (by simp;lia) F (λj i B=>?_) X.prog X.w X.xe _ (Yz I q (by simp))
 let E:j<a.length:=by simp at i;simp at L;lia
 let k:(a.map V.int)[j]? = some (.int a[j]):=by simp[E]
 let⟨S,t,o⟩:=m.get k;let⟨T,z,r⟩:=n.get k;let⟨f,rfl⟩:=o;let⟨g,rfl⟩:=r;let G:d.toArray[j]=Value.int a[j] f:=by
  have:d.toArray[j]? = some (Value.int a[j] f):=by simpa using t
  rw[vE i] at this;exact zG.inj this
 let J:c.toArray[j]=Value.int a[j] g:=by
  have:c.toArray[j]? = some (Value.int a[j] g):=by simpa using z
  rw[vE B] at this;exact zG.inj this
 rw[G,J];have:=PySem.SeqAt.EqAt.int_int (A:=X.A.in1) (s:=s) a[j] f a[j] g;simpa using this
end L2
namespace Tw
open PySem PySem.Spec L2 PyProof.Rows
variable{jg jh CS CT CH CK CP CB:aj}
def Eb{n:Nat}{y:Str}{c:aj}(h:(cl2 n).lookup y=some c):(cellsFrom (n+1) (Zf V4).names []).lookup y=some c:=by
 let e:=PySem.mem_of_lookup h;simp only[zF,wQ,or_false,Prod.mk.injEq] at e;rcases e with ⟨a,b⟩ | ⟨a,b⟩
 ·rw[a,b];rfl
 ·rw[a,b];rfl
def ZQZ{n:Nat}:∀ c∈(cl2 n).map (·.2),∃ y,(cl2 n).lookup y=some c:=λc a=>by
 let e:c=n+4\/c=n+3:=by simpa using a
 rcases e with e | e
 ·exact⟨(("_law_shelf" : String):Str),by rw[e];rfl⟩
 ·exact⟨(("_law_handed" : String):Str),by rw[e];rfl⟩
def Ey:(Zf V4).names.lookup (("_law_handed" : String):Str)=some .cell:=by decide +kernel
def Bw:(Zf V4).names.lookup (("_law_shelf" : String):Str)=some .cell:=by decide +kernel
def AF{n:Nat}:∀ y∈[(("_law_shelf" : String):Str),(("_law_handed" : String):Str)],(Zf V4).names.lookup y=some .cell/\∃ c,(cl2 n).lookup y=some c:=λy a=>by
 let e:y=(("_law_shelf" : String):Str)\/y=(("_law_handed" : String):Str):=by simpa using a
 rcases e with e | e
 ·rw[e];exact⟨Bw,_,Z⟩
 ·rw[e];exact⟨Ey,_,Z⟩
def K9{gt:jp}{g j:aj}{H p:Hp}{a:Pl}{m:Md}(h:LS gt g j H a m)(f:∀ c o,(∀ D,o≠.tbl D)->H c=some o->p c=some o):LS gt g j p a m:=by
 let⟨l,s,U,n⟩:=h.sh;let⟨Y6,L⟩:=h.lw;let⟨q,x,v⟩:=h.hd;let⟨u,G⟩:=h.gr;let r:Yb H p:=λc K e=>f _ _ (by intro _ z;cases z) e
 let⟨⟨F,w⟩,y,A⟩:=id U.sh.sh;let R:YQ g j p a.S a.d a.lk m.ts m.lv m.av m.ho a.as l s:=by
  refine U.sh.frame r (λo e=>f _ _ (by let b:=e.symm.trans w;cases b;intro _ z;cases z) e) (λo e=>f _ _ (by let b:=e.symm.trans y;cases b;intro _ z;cases z) e) (λo e=>f _ _ (by let b:=e.symm.trans A;cases b;intro _ z;cases z) e) λi k=>?_
  let⟨I,C⟩:=(U.sh.tw i k).tw.self;let⟨E,B,_⟩:=(U.sh.tw i k).things;exact⟨λo e=>f _ _ (by let b:=e.symm.trans C;cases b;intro _ z;cases z) e,λo e=>f _ _ (by let b:=e.symm.trans B;cases b;intro _ z;cases z) e,λo e=>f _ _ (by let b:=e.symm.trans (U.sh.tw i k).tw.above;cases b;intro _ z;cases z) e⟩
 refine⟨⟨l,s,U.frame R,n⟩,⟨Y6,L.frame r (f _ _ (by intro _ z;cases z) L.dict) λi k o e=>?_⟩,⟨q,f _ _ (by intro _ z;cases z) x,v⟩,⟨u,G.frame r (f _ _ (by intro _ z;cases z) G.at_)⟩,f _ _ (by intro _ z;cases z) h.told,h.dd,h.tt,h.t2,h.t3,h.l64,h.l700⟩
 let⟨J,E,_,_,t,_⟩:=L.tw i k;exact f _ _ (by let b:=e.symm.trans t;cases b;intro _ z;cases z) e
def ZPV{gt:jp}{s q:aj}{H H':Hp}{a:Pl}{m:Md}(h:LS gt s q H a m)(t:∀ c o,(∀ N,o≠.tbl N)->c≠a.S->c≠a.d->c≠a.lk->(∀ i:Nat,i∈m.lv->c≠a.x i/\c≠a.ab i)->H c=some o->H' c=some o):LO gt H' a m:=by
 let⟨K,P,U,C⟩:=h.sh;let⟨Y6,L⟩:=h.lw;let⟨v,I,F⟩:=h.hd;let⟨E,G⟩:=h.gr;let R:=U.sh;let⟨⟨O,u⟩,A,B⟩:=R.sh;let w:∀ i:Nat,i∈m.lv->∃ n p,H (a.x i)=some (.ins q n p):=λi f=>by
  let⟨n,e⟩:=(R.tw i f).tw.self;exact⟨n,_,e⟩
 let r:∀ i:Nat,i∈m.lv->H (a.ab i)=some (.lst (iN (m.av i))):=λi f=>(R.tw i f).tw.above;let D:Yb H H':=λb T e=>t b _ (by intro _ z;cases z) (ZE e u) (ZE e A) (ZE e B) (λi f=>by
  let⟨n,p,k⟩:=w i f;exact⟨ZE e k,ZE e (r i f)⟩) e
 let g:∀(c:aj)(l:je),H c=some (.lst l)->c≠a.lk->(∀ i:Nat,i∈m.lv->c≠a.ab i)->H' c=some (.lst l):=λc l e y M=>t c _ (by intro _ z;cases z) (ZE e u) (ZE e A) y (λi f=>by
  let⟨n,p,k⟩:=w i f;exact⟨ZE e k,M i f⟩) e
 let dict:∀(c:aj)(l:List (ZW×V)),H c=some (.dK l)->c≠a.d->H' c=some (.dK l):=λc l e y=>t c _ (by intro _ z;cases z) (ZE e u) y (ZE e B) (λi f=>by
  let⟨n,p,k⟩:=w i f;exact⟨ZE e k,ZE e (r i f)⟩) e
 refine⟨⟨Y6,L.frame D (dict _ _ L.dict h.dd.1) λi f o e=>?_⟩,⟨v,dict _ _ I h.dd.2.1,F⟩,⟨E,G.frame D (g _ _ G.at_ h.tt.2.2.symm λi f=>(h.t2 i f).2.2)⟩,g _ _ h.told h.tt.1 λi f=>(h.t2 i f).1⟩;let⟨Q,p,_,_,k,_⟩:=L.tw i f;have:o=.lst p:=by have:=e.symm.trans k;exact zG.inj this
 subst this;exact g _ _ e (h.t3 i f).2.1 λj J=>(h.t3 i f).2.2 j J
def Hj{bs:jo}{a:Nat->Nat}:(bs.map (λb:Nat=>(b:Int))).find? (λn=>decide (((a n.toNat:Nat):Int)=0))=(bs.find? λb=>decide (a b=0)).map λb:Nat=>(b:Int):=by
 rw[List.find?_map]
 congr 1
 refine congrArg (λq=>List.find? q bs) (funext λb=>?_);show decide (((a ((b:Nat):Int).toNat:Nat):Int)=0)=decide (a b=0);rw[decide_eq_decide];simp
def Ap{bs:jo}{n:Nat}{a:Nat->Nat}(h:n∉bs):Yy n (Wj bs a)=Wj bs (Yy n a):=by
 funext i
 by_cases z:i=n
 ·subst z;show (if i=i then 1 else Wj bs a i)=(if i∈bs then (if i=i then 1 else a i)-1 else (if i=i then 1 else a i))
  rw[aQ rfl,aP h];simp
 ·show (if i=n then 1 else (if i∈bs then a i-1 else a i))=(if i∈bs then (if i=n then 1 else a i)-1 else (if i=n then 1 else a i))
  rw[aP z,aP z]
def Wk.av{gt:jp}{b c:aj}{H:Hp}{a:Pl}{m:Md}{p:aj}{q:je}(o:Wk a m p)(h:LS gt b c H a m)(e:H p=some (.lst q)):Zi a m p:=by
 let⟨n,u,R⟩:=h.shp;let⟨Y6,L⟩:=h.lw;let⟨k,g,_⟩:=h.hd;let⟨⟨r,f⟩,j,t⟩:=R.sh;exists ZE e f,ZE e j,o.lk.symm,ZE e L.dict,ZE e g,o.tl.symm;intro i d;let⟨s,l⟩:=(R.tw i d).tw.self;exact⟨ZE e l,(o.tw i d).1.symm⟩
inductive Xe(gt:jp)(jg jh T:aj)(h:je)(H:Hp)(Q:VK)(_:XK):Prop
 |mk(p g:aj)(a:Pl)(m:Md)(_:h=[.ref p,.ref g])(_:ZN H p)(_:H g=some (.tup (WE a)))(_:LS gt jg jh H a m)(_:Wk a m p)(_:0<m.lv.length)(_:m.lv.length<=60)(_:m.ts.length<=600)(_:ZQ H T qS)(_:∀(d:Hp)(e:Pl)(b:Md),(∀ c o,H c=some o->Zi a m c->Zi e b c/\(c≠p->c≠T->d c=some o))->LS gt jg jh d e b->ZN d p->Wk e b p->WE e=WE a->m.ts.length<=b.ts.length->b.ts.length<=m.ts.length+1->m.lv.length<=b.lv.length->b.lv.length<=m.lv.length+1->ZQ d T qS->Q (.bl true) d)
abbrev ET:jq:=["_law_well_here","_law_state","_law_shelf","_law_twigs","_law_holds","_law_grid_here","_law_told","_law_numbers","_law_some","_law_due","_law_handed","_law_found","_law_number"]
def Xg:ZB ET zEc (Zf V4):=YA
def CN{A:ax}{outer:jA}{s:al}{Hs:Hp}{E:XK}{gt:jp}{CB:aj}{C:Nat->aj}{c T f3 f4:aj}(CC:xZ jX c T)(t5:jX.BuiltinsAt mg T)(X:YY mg)(L:YT K mg jg jh)(X2:XC K CB C 2)(X3:XC K CB C 3)(X4:XC K CB C 4)(F3:Y5 K (C 3) f3 "number")(F4:Y5 K (C 4) f4 "number")(DM:ZA P w K mg jX (Zg P w) 10 jg "put_stem" zEe (Z7 gt jg jh (C 2) (C 3) (C 4)))(DQ:ZC P w K mg jX 71 "_law_asked" zEw (YN P w K mg jX CB C))(DR:ZC P w K mg jX 4 "_law_run" zEg (Uf gt))(DP:ZC P w K mg jX 1 "_law_pull" zEf YK)(DK:ZC P w K mg jX 2 "_law_picked" zEh YZ)(DW:ZC P w K mg jX 8 "_law_wrong" zEk (WI gt))(DU:ZC P w K mg jX 1 "_law_unheld" zEs Xl)(r9:ZC P w K mg jX 7 "_law_alike" zEd (YE 6))(hr:Zc 71 (A.deeper (envOfC "_law_put_stem" (Zf V4) s.heap.objs.size f (.ref c)))):
  ∃ t,Wf (Vn Zd P w K mg jX ET "_law_put_stem" (Zf V4) f (.ref c) A outer s Hs E) ((Xz V4).drop 3) t /\
   ∀(H H3:Hp)(Q:VK)(p st LN:aj)(a:Pl)(m:Md)(x8:jf)(I:jw),ZN H p->LS gt jg jh H a m->Wk a m p->0<m.lv.length->m.lv.length<=60->m.ts.length<=600->ZQ H T qS->ZF p H H3->ZN H3 p->H LN=none->H3 LN=some (.lst (I.map V.int))->I.length<=6 ->
    (∀(H':Hp)(a':Pl)(m':Md),(∀ c o,H c=some o->Zi a m c->Zi a' m' c/\(c≠p->c≠T->H' c=some o))->LS gt jg jh H' a' m'->ZN H' p->Wk a' m' p->WE a'=WE a->m.ts.length<=m'.ts.length->m'.ts.length<=m.ts.length+1->m.lv.length<=m'.lv.length->m'.lv.length<=m.lv.length+1->ZQ H' T qS->Q (.bl true) H') ->
    t { nx:=λ_ H'=>Q .non H',rt:=Q } [some (.ref p),some (.ref st),some (.ref a.S),some (.ref a.dT),some (.ref a.dH),some (.ref a.gl),some (.ref a.tl),some (.ref LN),x8,none,none,none,none] H3:=by
 let nd:=Xg.nd;let hu:=UC hr;let hr1:=hr.mono (show 1<=71 by lia)
 let hr2:=hr.mono (show 2<=71 by lia)
 let hr4:=hr.mono (show 4<=71 by lia)
 let hr7:=hr.mono (show 7<=71 by lia)
 let hr8:=hr.mono (show 8<=71 by lia)
 let⟨fA,fdA,FA,bA,kA,mA⟩:=DQ.ex;refine⟨_,ZP (Zx 9 nd (Zr DW hr8 (Vo (pv 3) (Ze (pv 7) P1))))
  (ZP (Zo (Qq (Mm (pv 9))) (ZV (Zx 9 nd (Zr DU hr1 (Ze (pv 4) (pv 7))))) Zt)
  (ZP (V3 (i:=10) nd rfl (Or.inr rfl) (Vy Q9 rfl X.list QD (ZT (pv 7))))
  (ZP (Zx 11 nd (MD (cl:=cl2 s.heap.objs.size) (N:=zFa) FA hr rfl mA kA bA (ZT (MT (P:=T) (cl:=cl2 s.heap.objs.size) rfl CC t5 rfl rfl)) (λy c h=>Eb h) ZQZ AF λ_=>rfl))
  (ZP (Zo (YI (Au hr.units0) (pv 10) (pv 7) (Zz _)) Xa Zt)
  (ZP (Zo (Qq (Ld (pv 9))) (ZV (Zl (Zr r9 hr7 (Ze (pv 11) (pv 9))))) Zt)
  (ZP (WB (Mb yL sN sM JQ (pv 10)))
  (ZP (Zo (PW.pt (Vh (YI Qs (Zs K (pv 11) ZJ) Yk (Zz _)) (Vh (Xj (YU (Zq Xs rfl X.isi Yx (Ze (Zs K (pv 11) ZJ) (Xi (v:=.ty "int") rfl X.int Qw rfl)))))
   (Vh (YU (Zq Xs rfl X.isi Yx (Ze (Zs K (pv 11) ZJ) (Xi (v:=.ty "bool") rfl X.bool P2 rfl)))) (Up (YI QE (Zs K (pv 11) ZJ) (Zq (Lk rfl) rfl X.max Oo (ZT (pv 6))) (Zz _))))))) Xa Zt)
  (ZP (WB (V6 yL xO xN Uo (pv 6) (ZT (Zs K (pv 11) ZJ))))
  (ZP (VM NZ rfl (VN (pv 7)) (Yc 12 nd) (ZV (NG hu (pv 4) (pv 12) (Z1 Ql (Vg hu (pv 4) (pv 12)) ZJ) rfl)))
  (ZP (NG hu (pv 3) (Zs K (pv 11) ZJ) (Yg (Ze Yk (pv 7))) rfl)
  (ZP (NG hu (pv 4) (Zs K (pv 11) ZJ) ZJ rfl)
  (ZV (Zl Vw))))))))))))),λH H3 Q p st LN a m x8' I W R O l0 l60 l600 tab x3 W3 o9 J lns k=>?_⟩
 let⟨xsP,l6⟩:=W.some;let⟨kvs,ls,U,l100⟩:=R.sh;let⟨gs,G⟩:=R.gr;let l64:=R.l64;let lt0:0<m.ts.length:=by
  let⟨i,Y⟩:=vR l0;have:=R.lt Y
  lia
 let eI:((zV m.ts.length).map λi:Nat=>(i:Int)).map V.int=iN (zV m.ts.length):=by rw[zJ];rfl
 let S3:=R.sx O l6 x3;let⟨kvs3,ls3,U3,l3⟩:=S3.sh;let⟨r7,s1⟩:=S3.lw;let⟨n9,t6,s9⟩:=S3.hd;let i3:ZQ H3 T qS:=ZQ.ext tab ⟨λb φ e=>x3 _ _ e (ZE e l6),λb φ e=>x3 _ _ e (ZE e l6)⟩;let OL:=R.off o9;let i2:∀ b,b∈m.lv->(m.av b).length<=800:=λb hb=>by
  rw[U.av b hb];have:=ZMk m.ts m.lv b
  lia
 let⟨xs3,m3⟩:=W3.some;let c7:∀(H4 H6:Hp),ZD H3 H4->(∀ b o,b≠T->H4 b=some o->H6 b=some o)->ZQ H4 T qS->ZQ H6 T qS->∀ H7,ZD H6 H7->Q (.bl true) H7:=λH4 H6 s4 l r6 a2 H7 s7=>by
  let⟨ps4,p9,_⟩:=id r6;refine k H7 a m (λc o e v=>⟨v,λn1 n2=>s7 _ _ (l _ _ n2 (s4 _ _ (x3 _ _ e n1)))⟩) (K9 (S3.same s4) λc o z e=>s7 _ _ (l _ _ (ZE e p9 (z _)) e)) (OM W3 λo e=>s7 _ _ (l _ _ (ZE (s4 _ _ m3) p9) (s4 _ _ e))) O Z (zY _) ∅ (zY _) ∅ (ZQ.ext a2 (YV.same s7))
 let o6:∀ bs c4:jo,I=bs.map (λb:Nat=>(b:Int))->I=c4.map (λb:Nat=>(b:Int))->bs=c4:=λbs c4 e1 e2=>by
  let e3:=e1.symm.trans e2;have:=congrArg (List.map wE) e3;simpa [zJ,Function.comp_def] using this
 let i8:∀(bs:jo)(x:Int),I=bs.map (λb:Nat=>(b:Int))->(∀ b∈bs,b∈m.lv)->I.find? (λx=>!Z2 m.lv x)=some x->False:=λbs x e1 hb hx=>by
  let h1:=sL hx;let h2:=tR hx;rw[e1] at h1;let⟨b,e0,rfl⟩:=zO.mp h1;have:=hb b e0;unfold Z2 at h2;simp at h2;exact h2 this
 refine⟨_,Z,_,Z,a.dT,LN,I,m.ts,m.lv,r7,Z,s1.lawT R.wf G.len G.up,J,∅,λx hx t H4 s4 ht=>?_,λbs eb hb i6 t H4 s4 ht=>?_,λbs eb hb i6 H4 s4=>?_⟩
 ·refine⟨_,Z,_,Z,Zm ?_⟩;exists _,Z,LN,_,Z,.inl (ZM.of (s4 _ _ J));intro B M;let g5:=ZX M (.lst (I.map V.int));let r:upd H4 B (.lst (I.map V.int)) B=some (.lst (I.map V.int)):=ZO;generalize upd H4 B (.lst (I.map V.int))=H5 at g5 r⊢;let g:=s4.trans g5;let q:=ZQ.ext i3 (YV.same g);refine LB (CB:=CB) (C:=C) (f3:=f3) (f4:=f4) (j0:=10) (j1:=2) (hd:=B) (ns:=I) L X2 X3 X4 F3 F4 DM q Z Z Z Z r (U3.sh.same g) R.wf ∅ i2 ∅ (λx' i1 H6 tf l a2 e5=>?_) λbs eb hb=>⟨λa1=>(i8 bs x eb hb hx).elim,λa1=>(i8 bs x eb hb hx).elim,λa1=>(i8 bs x eb hb hx).elim⟩
  cases hx.symm.trans i1;let⟨p0,a0,_⟩:=id q;let j:=l _ _ (ZE r a0) r;let a5:=g _ _ J;let c6:=l _ _ (ZE a5 a0) a5;let e4:=g5 _ _ ht;let l7:=l _ _ (ZE e4 a0) e4;refine⟨_,Z,_,Z,B,LN,I,Z,Z,ZM.of j,ZM.of c6,_,Z,Zm ?_⟩;refine⟨_,Z,_,Z,Z3 ?_⟩;exact⟨_,Z,_,Z,.ref tf,.ref t,.tup [.str "twig",.int x],5,Z,.tup e5 (.cons (.str _) (.cons (.int _) .nil)),.tup l7 (.cons (.str _) (.cons (.int _) .nil)),Z,by decide,λH7 s7=>c7 H5 H6 g l q a2 H7 s7⟩
 ·refine⟨_,Z,_,Z,Zm ?_⟩;exists _,Z,LN,_,Z,.inl (ZM.of (s4 _ _ J));intro B M;let g5:=ZX M (.lst (I.map V.int));let r:upd H4 B (.lst (I.map V.int)) B=some (.lst (I.map V.int)):=ZO;generalize upd H4 B (.lst (I.map V.int))=H5 at g5 r⊢;let g:=s4.trans g5;let q:=ZQ.ext i3 (YV.same g);refine LB (CB:=CB) (C:=C) (f3:=f3) (f4:=f4) (j0:=10) (j1:=2) (hd:=B) (ns:=I) L X2 X3 X4 F3 F4 DM q Z Z Z Z r (U3.sh.same g) R.wf ∅ i2 ∅ (λx' i1=>(i8 bs x' eb hb i1).elim) λc4 l4 e0=>?_
  cases o6 bs c4 eb l4;refine⟨λa1 H6 tf l a2 e5=>?_,λa1=>absurd i6 a1,λa1=>absurd i6 a1⟩;let⟨p0,a0,_⟩:=id q;let j:=l _ _ (ZE r a0) r;let a5:=g _ _ J;let c6:=l _ _ (ZE a5 a0) a5;let e4:=g5 _ _ ht;let l7:=l _ _ (ZE e4 a0) e4;refine⟨_,Z,_,Z,B,LN,I,Z,Z,ZM.of j,ZM.of c6,_,Z,Zm ?_⟩;refine⟨_,Z,_,Z,Z3 ?_⟩;exact⟨_,Z,_,Z,.ref tf,.ref t,.tup [.str "stem"],5,Z,.tup e5 (.cons (.str _) .nil),.tup l7 (.cons (.str _) .nil),Z,by decide,λH7 s7=>c7 H5 H6 g l q a2 H7 s7⟩
 ·refine⟨_,Z,_,Z,Z3 ?_⟩;let hv:∀ n∈I,YR n9 (.inl n)=some (.int ((m.ho n.toNat:Nat):Int)):=λn hn=>by
   rw[eb] at hn;let⟨b,e0,rfl⟩:=zO.mp hn;simpa using s9.2 b (hb b e0)
  refine⟨_,Z,_,Z,a.dH,LN,n9,I,(λn=>((m.ho n.toNat:Nat):Int)),Z,s4 _ _ t6,s4 _ _ J,hv,λn hn t l1 p1 ht=>?_,λhn l1 p1=>?_⟩
  ·let c8:=s4.trans p1;exists _,Z,LN,_,Z,.inl (ZM.of (c8 _ _ J));intro B M;let g5:=ZX M (.lst (I.map V.int));let r:upd l1 B (.lst (I.map V.int)) B=some (.lst (I.map V.int)):=ZO;generalize upd l1 B (.lst (I.map V.int))=H5 at g5 r⊢;let g:=c8.trans g5;let q:=ZQ.ext i3 (YV.same g);let l5:=hn;rw[eb,Hj] at l5;let⟨b0,r0,rfl⟩:=yA.mp l5;refine LB (CB:=CB) (C:=C) (f3:=f3) (f4:=f4) (j0:=10) (j1:=2) (hd:=B) (ns:=I) L X2 X3 X4 F3 F4 DM q Z Z Z Z r (U3.sh.same g) R.wf ∅ i2 ∅ (λx' i1=>(i8 bs x' eb hb i1).elim) λc4 l4 e0=>?_
   cases o6 bs c4 eb l4;refine⟨λa1=>absurd a1 i6,λa1 b m2 H6 tf l a2 e5=>?_,λa1 hf=>by rw[r0] at hf;cases hf⟩
   cases r0.symm.trans m2;let⟨p0,a0,_⟩:=id q;let j:=l _ _ (ZE r a0) r;let a5:=g _ _ J;let c6:=l _ _ (ZE a5 a0) a5;let e4:=g5 _ _ ht;let l7:=l _ _ (ZE e4 a0) e4;refine⟨_,Z,_,Z,B,LN,I,Z,Z,ZM.of j,ZM.of c6,_,Z,Zm ?_⟩;refine⟨_,Z,_,Z,Z3 ?_⟩;exact⟨_,Z,_,Z,.ref tf,.ref t,.tup [.str "held",.int (b0:Nat)],5,Z,.tup e5 (.cons (.str _) (.cons (.int _) .nil)),.tup l7 (.cons (.str _) (.cons (.int _) .nil)),Z,by decide,λH7 s7=>c7 H5 H6 g l q a2 H7 s7⟩
  ·let c8:=s4.trans p1;exists _,Z,LN,_,Z,.inl (ZM.of (c8 _ _ J));intro B M;let g5:=ZX M (.lst (I.map V.int));let r:upd l1 B (.lst (I.map V.int)) B=some (.lst (I.map V.int)):=ZO;generalize upd l1 B (.lst (I.map V.int))=H5 at g5 r⊢;let g:=c8.trans g5;let q:=ZQ.ext i3 (YV.same g);let l5:=hn;rw[eb,Hj] at l5;let r1:bs.find? (λb=>decide (m.ho b=0))=none:=Option.map_eq_none_iff.mp l5;refine LB (CB:=CB) (C:=C) (f3:=f3) (f4:=f4) (j0:=10) (j1:=2) (hd:=B) (ns:=I) L X2 X3 X4 F3 F4 DM q Z Z Z Z r (U3.sh.same g) R.wf ∅ i2 ∅ (λx' i1=>(i8 bs x' eb hb i1).elim) λc4 l4 e0=>?_
   cases o6 bs c4 eb l4;exists λa1=>absurd a1 i6,λa1 b m2=>by(rw[r1] at m2;cases m2)
   intro a1 hf' H6 tf e7 nx m5 i7 l a2 R6 e5;let⟨p0,a0,_⟩:=id q;let⟨Lb,p8⟩:=Option.ne_none_iff_exists'.mp i6;let⟨_,t9,_,_,_,_,_⟩:=JE R.wf (λb h=>R.lt (hb b h)) p8;let h1:∀ b∈bs,1<=m.ho b:=λb e0=>by
    have:=vU.mp r1 b e0;simp at this
    lia
   let S5:=S3.same g;let S4:=S3.same c8;let c3:=ZPV S5 (H':=H6) λc o z n1 n2 n3 n4 e=>l c o n1 n2 (ZE e a0 (z _)) n4 e;let⟨kv4,ls4,R4⟩:=S4.shp;let⟨kv5,ls5,R5⟩:=S5.shp;let⟨⟨dS5,t1⟩,t7,hl5⟩:=id R5.sh;let o1:∀(c:aj)(xs:je),H5 c=some (.lst xs)->(∀ i:Nat,i∈m.lv->c≠a.ab i)->H6 c=some (.lst xs):=λc xs e n4=>l _ _ (ZE e t1) (ZE e t7) (ZE e a0) (λi Y=>by
    let⟨dx,hx⟩:=(R5.tw i Y).tw.self;exact⟨ZE e hx,n4 i Y⟩) e
   let n6:∀ i:Nat,i∈m.lv->a.ab i≠B/\a.th i≠B:=λi Y=>by
    let⟨us,e,_⟩:=(R4.tw i Y).things;exact⟨Za (R4.tw i Y).tw.above M,Za e M⟩
   let j:=o1 _ _ r λi Y=>(n6 i Y).1.symm;let a5:=g _ _ J;let c6:=o1 _ _ a5 λi Y=>(OL.tw i Y).1.symm;let m7:LN≠B:=Za (c8 _ _ J) M;let r8:a.tl≠B:=Za S4.told M;refine⟨_,Z,_,Z,B,LN,I,Z,Z,ZM.of j,ZM.of c6,_,Z,Zm ?_⟩;refine⟨_,Z,_,Z,Zm ?_⟩;exists _,Z,.inl ⟨Z,_,ZM.of j⟩,B,_,Z,Z,j;let en:(m.ts++[WU m.ts bs]).length=m.ts.length+1:=by simp
   let r5:∀ c,a.lk≠c->(∀ i:Nat,i∈m.lv->a.ab i≠c/\a.th i≠c)->e7.ab≠c->e7.th≠c->∀ i:Nat,i∈m.lv++[m.ts.length]->((a.as++[e7]).getD i .d).ab≠c/\((a.as++[e7]).getD i .d).th≠c:=λc _ n2 n3 n4 i Y=>by
    by_cases z:i=m.ts.length
    ·subst z;let⟨e1,e2,_,_⟩:=P0 (new:=e7) (D:=LN) R;exact⟨λy=>n3 (by rw[<-e1];exact y),λy=>n4 (by rw[<-e2];exact y)⟩
    ·let⟨e1,e2,_,_⟩:=Pt (new:=e7) (D:=LN) R (i:=i) (VJ Y z);have:=n2 i (VJ Y z);exact⟨λy=>this.1 (by rw[<-e1];exact y),λy=>this.2 (by rw[<-e2];exact y)⟩
   let R7:=M9 (o':=.lst []) R6 j (Za R4.sh.looks M) (r5 B (Za R4.sh.looks M) n6 (Za r i7).symm (Za r m5).symm);let m4:∀ c o,c≠B->H6 c=some o->upd H6 B (.lst []) c=some o:=λc o n e=>by rw[ZU n];exact e
   generalize upd H6 B (.lst [])=H7 at R7 m4⊢;let a6:=m4 _ _ (ZE e5 j) e5;let a7:=m4 _ _ r8 c3.told;refine⟨_,Z,.inr (.inl ⟨tf,_,0,.str "told",rfl,rfl,Zh.of a6,rfl,rfl,_,rfl,NM rfl ?_⟩)⟩;refine⟨_,Z,.inr (.inl ⟨tf,_,1,.int (m.ts.length:Nat),rfl,rfl,Zh.of a6,rfl,_,_,_,_,rfl,.int _,Oi,_,rfl,Zm ?_⟩)⟩;refine⟨_,Z,.inr (.inl ⟨tf,_,1,.int (m.ts.length:Nat),rfl,rfl,Zh.of a6,rfl,_,_,_,_,rfl,.int _,NW,_,rfl,Zm ?_⟩)⟩;refine⟨_,Z,.inr (.inl ⟨tf,_,1,.int (m.ts.length:Nat),rfl,rfl,Zh.of a6,rfl,_,rfl,a.tl,(zV m.ts.length).map (λi:Nat=>(i:Int)),rfl,ZM.of (by rw[eI];exact a7),uE (by rw[zX,vC];exact lt0),λmx t8 hmax=>⟨_,_,rfl,rfl,_,rfl,?_⟩⟩)⟩
   let mxn:¬ ((m.ts.length:Int)<=mx):=by
    let⟨i,Y,rfl⟩:=zO.mp t8;have:=yC.mp Y;show ¬ ((m.ts.length:Int)<=((i:Nat):Int))
    lia
   rw[aM mxn];refine Zm ?_;refine⟨_,Z,.inl ⟨Z,_,ZM.of a7⟩,_,Z,.inr (.inl ⟨tf,_,1,.int (m.ts.length:Nat),rfl,rfl,Zh.of a6,rfl,a.tl,_,.int (m.ts.length:Nat),rfl,rfl,a7,Ye (by simp[iN];lia),?_⟩)⟩
   let R8:=M9 (o':=.lst (iN (zV m.ts.length)++[.int (m.ts.length:Nat)])) R7 a7 R.tt.1.symm (r5 a.tl R.tt.1.symm (λi Y=>⟨(R.t2 i Y).1.symm,(R.t2 i Y).2.1.symm⟩) (Za S5.told i7).symm (Za S5.told m5).symm);let o8:∀ c o,c≠a.tl->H7 c=some o->upd H7 a.tl (.lst (iN (zV m.ts.length)++[.int (m.ts.length:Nat)])) c=some o:=λc o n e=>by rw[ZU n];exact e
   let p2:upd H7 a.tl (.lst (iN (zV m.ts.length)++[.int (m.ts.length:Nat)])) a.tl=some (.lst (iN (zV (m.ts.length+1)))):=by rw[ZO,JC]
   generalize upd H7 a.tl (.lst (iN (zV m.ts.length)++[.int (m.ts.length:Nat)]))=H8 at R8 o8 p2⊢;let o7:∀ c o,c≠B->c≠a.tl->H6 c=some o->H8 c=some o:=λc o n1 n2 e=>o8 _ _ n2 (m4 _ _ n1 e);let⟨r4,e9,t0⟩:=c3.hd;let⟨c2,a8⟩:=c3.lw;let⟨s8,G6⟩:=c3.gr;let a9:=o7 _ _ (ZE e9 j) (ZE e9 c3.told) e9;let m8:LN≠a.tl:=OL.tl.symm;let o3:=o7 _ _ m7 m8 c6;let n8:=o8 _ _ (ZE a6 a7) a6;refine⟨_,Z,LN,Z,⟨_,ZM.of o3⟩,Qt (K:=K) (a:=LN) (xs:=I.map V.int) (λi σ H'=>∃(x8 p3:jf)(a4:List (ZW×V)),σ=[some (.ref p),some (.ref st),some (.ref a.S),some (.ref a.dT),some (.ref a.dH),some (.ref a.gl),some (.ref a.tl),some (.ref LN),x8,some .non,some (.ref B),some (.ref tf),p3]/\(∀ c o,c≠a.dH->H8 c=some o->H' c=some o)/\H' a.dH=some (.dK a4)/\Qj a4 m.lv (Wj (bs.take i) m.ho))
    ⟨_,_,r4,Z,λc o _ e=>e,a9,(by
     let e2:Wj [] m.ho=m.ho:=funext λi=>aP (by simp)
     rw[show bs.take 0=[] from rfl,e2];exact t0)⟩ (λi σ H' _ hP=>?_) ?_ ?_⟩
   ·let⟨_,_,_,_,k',_⟩:=hP;exact ZM.of (k' _ _ (ZE o3 a9) o3)
   ·rintro i u σ H9 r3 ⟨x8,p3,a4,rfl,a3,m1,e8⟩;rw[eb,zJ,zH] at r3;let⟨b,o4,rfl⟩:=yA.mp r3;let mb:=yU o4;let bl:=hb b mb;let r2:b∉bs.take i:=λz=>by
     let hs:bs=bs.take i++b::bs.drop (i+1):=by
      let⟨Y,e⟩:=yH.mp o4;rw[<-e,<-uF Y,rW]
     let n7:=t9;rw[hs,List.nodup_append] at n7;exact n7.2.2 b z b (by simp) Z
    let p7:Wj (bs.take i) m.ho b=m.ho b:=aP r2;let hg:YD H9 a.dH (.int (b:Nat)) (some (.int (m.ho b:Nat))):=by
     have:=e8.2 b bl;rw[p7] at this;exact this ▸ YD.k (k:=Sum.inl (b:Int)) m1
    let lhv:a4.length=m.lv.length:=by have:=congrArg xL e8.1;simpa using this
    exists _,Z,_,Z,a.dH,.int (m.ho b:Nat),Z,hg,_,_,Z,Z,_,Z,_,Z,a.dH,_,Z,Wz.k (k:=Sum.inl (b:Int)) m1 (Ye ∅)
    let e1:((m.ho b:Nat):Int)-1=((Wj (bs.take i) m.ho b-1:Nat):Int):=by
     rw[p7];have:=h1 b mb
     lia
    exists _,_,_,Z,λc o n e=>by rw[ZU n];exact a3 _ _ n e,ZO
    let et:bs.take (i+1)=bs.take i++[b]:=by rw[yI,o4];rfl
    rw[et,<-Fz r2];show Qj (YX a4 (.inl (b:Int)) (.int (((m.ho b:Nat):Int)-1))) _ _;rw[e1];exact Cu e8 bl
   ·rintro σ H9 ⟨x8,p3,a4,rfl,a3,m1,e8⟩;rw[show (I.map V.int).length=bs.length by rw[eb];simp,yF (zY _)] at e8
    let R9:=R8.frame (H':=H9) (λc ys e=>a3 _ _ (ZE e a9) e) (λo e=>a3 _ _ (by let⟨⟨dS8,t4⟩,_,_⟩:=R8.sh;exact ZE t4 a9) e) (λo e=>a3 _ _ R.dd.2.1.symm e) (λo e=>a3 _ _ (ZE R8.sh.looks a9) e) λi Y=>by
     let⟨dx,hx⟩:=(R8.tw i Y).tw.self;let⟨us,ht,_⟩:=(R8.tw i Y).things;exact⟨λo e=>a3 _ _ (ZE hx a9) e,λo e=>a3 _ _ (ZE ht a9) e,λo e=>a3 _ _ (ZE (R8.tw i Y).tw.above a9) e⟩
    exists _,Z,Zu;intro t nt;let i5:=ZX nt (.tup [.str "stem",.ref LN]);let m6:upd H9 t (.tup [.str "stem",.ref LN]) t=some (.tup [.str "stem",.ref LN]):=ZO;generalize upd H9 t (.tup [.str "stem",.ref LN])=i9 at i5 m6⊢;let s2:=R9.same i5;let o0:∀ c o,c≠B->c≠a.tl->c≠a.dH->H6 c=some o->i9 c=some o:=λc o n1 n2 n3 e=>i5 _ _ (a3 _ _ n3 (o7 _ _ n1 n2 e));let c9:=o0 _ _ (ZE a8.dict j) (ZE a8.dict c3.told) R.dd.2.2 a8.dict;let i0:=i5 _ _ (a3 _ _ (ZE n8 a9) n8);let l2:=i5 _ _ m1;let l9:=i5 _ _ (a3 _ _ (ZE p2 a9) p2);let ltk:c2.length=m.lv.length:=by have:=congrArg xL a8.keys;simpa using this
    let lhv:a4.length=m.lv.length:=by have:=congrArg xL e8.1;simpa using this
    refine⟨_,Z,_,Z,.inr (.inl ⟨tf,_,1,.int (m.ts.length:Nat),rfl,rfl,Zh.of i0,rfl,a.dT,_,rfl,Wz.k (k:=Sum.inl (m.ts.length:Int)) c9 (Ye ∅),?_⟩)⟩
    let p5:=Me (o':=.dK (YX c2 (.inl (m.ts.length:Int)) (.ref t))) s2 c9 R.dd.1.symm;let c1:∀ c o,c≠a.dT->i9 c=some o->upd i9 a.dT (.dK (YX c2 (.inl (m.ts.length:Int)) (.ref t))) c=some o:=λc o n e=>by rw[ZU n];exact e
    let n5:upd i9 a.dT (.dK (YX c2 (.inl (m.ts.length:Int)) (.ref t))) a.dT=some (.dK (YX c2 (.inl (m.ts.length:Int)) (.ref t))):=ZO;generalize upd i9 a.dT (.dK (YX c2 (.inl (m.ts.length:Int)) (.ref t)))=m0 at p5 c1 n5⊢;let m9:=c1 _ _ R.dd.2.2.symm l2;let o5:=c1 _ _ (ZE i0 c9) i0;refine⟨_,Z,_,Z,.inr (.inl ⟨tf,_,1,.int (m.ts.length:Nat),rfl,rfl,Zh.of o5,rfl,a.dH,_,rfl,Wz.k (k:=Sum.inl (m.ts.length:Int)) m9 (Ye ∅),?_⟩)⟩
    let p6:=Me (o':=.dK (YX a4 (.inl (m.ts.length:Int)) (.int 1))) p5 m9 R.dd.2.1.symm;let e6:∀ c o,c≠a.dH->m0 c=some o->upd m0 a.dH (.dK (YX a4 (.inl (m.ts.length:Int)) (.int 1))) c=some o:=λc o n e=>by rw[ZU n];exact e
    let n0:upd m0 a.dH (.dK (YX a4 (.inl (m.ts.length:Int)) (.int 1))) a.dH=some (.dK (YX a4 (.inl (m.ts.length:Int)) (.int 1))):=ZO;generalize upd m0 a.dH (.dK (YX a4 (.inl (m.ts.length:Int)) (.int 1)))=i4 at p6 e6 n0⊢;let c0:∀ c o,c≠B->c≠a.tl->c≠a.dH->c≠a.dT->H6 c=some o->i4 c=some o:=λc o n1 n2 n3 n4 e=>e6 _ _ n3 (c1 _ _ n4 (o0 _ _ n1 n2 n3 e));let o2:Yb H6 i4:=λc ys e=>c0 _ _ (ZE e j) (ZE e c3.told) (ZE e e9) (ZE e a8.dict) e;let l8:∀ c xs,c≠B->c≠a.tl->H6 c=some (.lst xs)->i4 c=some (.lst xs):=λc xs n1 n2 e=>c0 _ _ n1 n2 (ZE e e9) (ZE e a8.dict) e;let c5:∀ c,H5 c=none->H c=none:=λc e=>by
     cases z:H c with
     | none=>rfl
     | some o=>
      by_cases y:c=p
      ·subst y;let⟨xs,e'⟩:=W3.some;rw[g _ _ e'] at e;cases e
      ·rw[g _ _ (x3 _ _ z y)] at e;cases e
    let ek:kindOf (WU m.ts bs) = "stem" :=aP (by show (gd m.ts (bs.getD 0 0)).h+1≠0;lia)
    let s0:LN≠e7.ab:=Za a5 i7;let s6:I.map V.int=iN bs:=by rw[eb,zJ];rfl
    let nn':m.ts.length∉bs:=λz=>by have:=R.lt (hb _ z);lia
    let s5:∀ i:Nat,i∈m.lv->a.b i≠B:=λi Y=>by
     let⟨kvA,LA⟩:=S4.lw;let⟨tp,us,_,_,e,_⟩:=LA.tw i Y;exact Za e M
    let p4:LS gt jg jh i4 (a.push e7 LN) ⟨m.ts++[WU m.ts bs],m.lv++[m.ts.length],UD bs m.ts.length (WT m.ts.length m.av),Wj bs (Yy m.ts.length m.ho)⟩:=by
     refine HG R (c5 _ m5) (c5 _ i7) o9 s0 ⟨_,ls3,CJ U3 ∅ hb p8 h1 p6,l3⟩ ⟨_,F7 (tp:=t) (us:=I.map V.int) a8 hb o2 (λi Y o e=>?_) ?_ ?_ ?_ (λz=>absurd z (by show (gd m.ts (bs.getD 0 0)).h+1≠0;lia)) (λ_=>s6)⟩ ⟨_,n0,by rw[<-Ap nn'];exact Iu (λi Y=>R.lt Y) e8⟩ ⟨s8,G6.frame o2 (l8 _ _ ?_ R.tt.2.1.symm G6.at_)⟩ ?_ ∅ ∅
     ·let⟨tp,us',_,_,e',_⟩:=a8.tw i Y;have:o=.lst us':=by have:=e.symm.trans e';exact zG.inj this
      subst this;exact l8 _ _ (s5 i Y) (R.t3 i Y).1 e
     ·exact e6 _ _ R.dd.2.2 n5
     ·rw[ek];exact e6 _ _ (ZE m6 l2) (c1 _ _ (ZE m6 c9) m6)
     ·exact l8 _ _ m7 m8 c6
     ·let⟨gsA,GA⟩:=S4.gr;exact Za GA.at_ M
     ·exact e6 _ _ (ZE l9 l2) (c1 _ _ (ZE l9 c9) l9)
    let vp:=O.av R l6;let s3:ZN i4 p:=OM W3 λo e=>c0 _ _ (Za (c8 _ _ e) M) vp.2.2.2.2.2.1 vp.2.2.2.2.1 vp.2.2.2.1 (l _ _ vp.1 vp.2.1 (ZE (g _ _ m3) a0) vp.2.2.2.2.2.2 (g _ _ e));refine k i4 _ _ (λc o e v=>?_) p4 s3 (O.push R (Za (g _ _ m3) m5).symm (Za (g _ _ m3) i7).symm (Za l6 o9).symm) Z (by simp) (by simp) (by simp) (by simp) (ZQ.ext a2 ⟨λb φ e=>?_,λb φ e=>?_⟩)
    ·let⟨v1,v2,v3,v4,v5,v6,v7⟩:=id v;exists v.push R (Za e (c5 _ nx)) (Za e (c5 _ i7));intro cp cT;let e3:=x3 _ _ e cp;exact c0 _ _ (Za (c8 _ _ e3) M) v6 v5 v4 (l _ _ v1 v2 cT v7 (g _ _ e3))
    ·exact c0 _ _ (ZE e j) (ZE e c3.told) (ZE e e9) (ZE e a8.dict) e
    ·exact c0 _ _ (ZE e j) (ZE e c3.told) (ZE e e9) (ZE e a8.dict) e
def ZGY{gt:jp}{CB:aj}{C:Nat->aj}{c T f3 f4:aj}(F:Zn K "_law_put_stem" "_law_put_stem" V4 f fd)(hf:zP K ap "_law_put_stem" = some (some (.ref f)))(a8:yS K "_law_put_stem" = some (c,T))(CC:xZ jX c T)(c7:jX.BuiltinsAt mg T)(X:YY mg)(L:YT K mg jg jh)(X2:XC K CB C 2)(X3:XC K CB C 3)(X4:XC K CB C 4)(F3:Y5 K (C 3) f3 "number")(F4:Y5 K (C 4) f4 "number")(DM:ZA P w K mg jX (Zg P w) 10 jg "put_stem" zEe (Z7 gt jg jh (C 2) (C 3) (C 4)))(DQ:ZC P w K mg jX 71 "_law_asked" zEw (YN P w K mg jX CB C))(DR:ZC P w K mg jX 4 "_law_run" zEg (Uf gt))(DP:ZC P w K mg jX 1 "_law_pull" zEf YK)(DK:ZC P w K mg jX 2 "_law_picked" zEh YZ)(DW:ZC P w K mg jX 8 "_law_wrong" zEk (WI gt))(DU:ZC P w K mg jX 1 "_law_unheld" zEs Xl)(c3:ZC P w K mg jX 7 "_law_alike" zEd (YE 6)):
  ZH P w K mg jX Zd 72 f fd zEc (Xe gt jg jh T):=by
 refine F.okC hf a8 Xg (λvs H Q E h=>(by let⟨_,_,_,_,rfl,_⟩:=h;rfl)) (λA a1 s H vs Q E J h=>?_)
 let⟨p,st,a,m,rfl,W,e2,t,O,l0,e4,a9,e7,k⟩:=h;let⟨tT,hT,qT⟩:=CN (Hs:=H) (outer:=a1) (E:=E) CC c7 X L X2 X3 X4 F3 F4 DM DQ DR DP DK DW DU c3 J;let B:=Xg.nd;let hu:=UC J;let M:=J.mono (show 1<=71 by lia)
 let e0:=J.mono (show 2<=71 by lia)
 let e1:=J.mono (show 4<=71 by lia)
 let i6:=J.mono (show 7<=71 by lia)
 let i7:=J.mono (show 8<=71 by lia)
 let⟨fA,i3,FA,bA,kA,mA⟩:=DQ.ex;refine⟨_,ZP (Qx (pv 1) (Pg rfl (Y9 (Qr (i:=2) B rfl (Or.inr rfl)) (Y9 (Yc 3 B) (Y9 (Yc 4 B) (Y9 (Yc 5 B) (Y9 (Yc 6 B) Pf)))))))
  (ZP (Zx 7 B (Zr DR e1 (Vo (pv 0) (Vo (pv 3) (Ze (pv 4) (pv 5))))))
  (ZP (Zo (YI Y1 (Zr DP M (Ze (pv 0) ZJ)) ZJ (Zz _))
   (ZP (V3 (i:=8) B rfl (Or.inr rfl) (Z1 P4 (Zq (Pz rfl) rfl X.sorted PO (ZT (pv 3))) (Yp (ZT (Z1 WJ (Z1 WJ (Zq (Lk rfl) rfl X.max Oo (ZT (pv 6))) ZJ) (Zr DP M (Ze (pv 0) ZJ)))))))
   (ZV (LY (i:=7) [0,8] zEh B rfl rfl rfl (OP rfl X.range (ZT (Zr DP M (Ze (pv 0) ZJ)))) (λ_ _ _ _ _=>UY) (λ_ _ _ _ _=>Zr DK e0 (Ze (pv 1) (pv 2))) ⟨rfl,.inl rfl,rfl,rfl,.inl rfl,rfl,trivial⟩))) Zt) hT)),?_⟩
 let⟨l4,a5⟩:=W.some;let⟨i8,ls,U,i0⟩:=t.sh;let⟨c2,Lw⟩:=t.lw;let⟨e3,c8,hH⟩:=t.hd;let⟨gs,G⟩:=t.gr;let bp:∀ i:Nat,i∈m.lv->a.bs.getD i 0≠p:=λi I=>(O.tw i I).2.2;let c0:=t.l64;let d:∀ c,H c=none->c≠p:=λc e=>(Za a5 e).symm;let eI:((zV m.ts.length).map λi:Nat=>(i:Int)).map V.int=iN (zV m.ts.length):=by rw[zJ];rfl
 let eL:(m.lv.map λi:Nat=>(i:Int)).map V.int=iN m.lv:=by rw[zJ];rfl
 let e5:0<m.ts.length:=by
  let⟨i,I⟩:=vR l0;have:=t.lt I
  lia
 let g:∀(H6:Hp)(q:aj),ZF p H H6->ZN H6 p->H6 q=none->H q=none:=λH6 q x6 W6 e=>by
  cases z:H q with
  | none=>rfl
  | some o=>
   by_cases y:q=p
   ·subst y;let⟨xs,e'⟩:=W6.some;rw[e'] at e;cases e
   ·rw[x6 _ _ z y] at e;cases e
 exists _,Z,st,_,Z,Zh.of e2,Z,_,_,Z,_,_,Z,_,_,Z,_,_,Z,_,_,Z,Z;exists _,Z,_,Z,_,Z,_,Z,p,a.dT,a.dH,a.gl,m.ts,m.lv,a.bs,c2,e3,m.ho,gs,Z,W,Lw,bp,t.wf,c8,hH,G,O.gl,l0,c0;intro H1 LN a3 s1 W1 Y c6 e8 i1;refine⟨_,Z,p,5,Z,W1,Wh (by decide) (by decide),λr v r0 r1 W3 s2=>⟨Z,_,Z,?_⟩⟩
 let x3:ZF p H v:=s1.trans s2;refine X7 (λc=>?gT) (λc=>?gF)
 case' gF=>
  obtain⟨l,a4⟩:∃ l:jw,iN a3=l.map V.int:=⟨a3.map λb:Nat=>(b:Int),by rw[zJ];rfl⟩
  let N:l.length<=6:=by
   have:=congrArg xL a4;simp[iN] at this
   lia
  let j:=s2 _ _ c6 (d _ Y);rw[a4] at j
 case' gT=>
  exists _,Z,a.dT,c2,m.lv.map λi:Nat=>(i:Int),Z,(Lw.sx W bp x3).dict,(by rw[Lw.keys,zJ];rfl),Qz Lw.vl.up,by simpa using c0
  intro q nq;rw[eL];let g4:=ZX nq (.lst (iN m.lv));let hq:upd v q (.lst (iN m.lv)) q=some (.lst (iN m.lv)):=ZO;let e6:=g _ q x3 W3 nq;generalize upd v q (.lst (iN m.lv))=H4 at g4 hq⊢;let x4:=x3.trans (ZF.of g4);let W4:=W3.same g4;let a2:=(t.sx O a5 x4).told;refine⟨_,Z,a.tl,(zV m.ts.length).map (λi:Nat=>(i:Int)),Z,ZM.of (by rw[eI];exact a2),uE (by rw[zX,vC];exact e5),λS i5 e9=>⟨_,_,Z,Z,?_⟩⟩
  refine⟨_,Z,p,3,Z,W4,Wh (by decide) (by decide),λr3 H5 i9 l1 W5 s5=>⟨_,_,Z,Z,Zu,λl9 n9=>?_⟩⟩
  let c9:=s5 _ _ hq (d _ e6);let x5:=x4.trans s5;let g6:=ZX n9 (.lst [.int (S+1+r3)]);exists q,l9,_,_,Z,Z,g6 _ _ c9,ZO,xX (Ye (by simp[iN];lia))
  intro q2 n2;let g7:=ZX n2 (.lst (iN m.lv++[.int (S+1+r3)]));let a6:upd (upd H5 l9 (.lst [.int (S+1+r3)])) q2 (.lst (iN m.lv++[.int (S+1+r3)])) q2=some (.lst (iN m.lv++[.int (S+1+r3)])):=ZO;let x7:=x5.trans (ZF.of (g6.trans g7));let W7:=W5.same (g6.trans g7);let a0:=g _ q2 (x5.trans (ZF.of g6)) (W5.same g6) n2;generalize upd (upd H5 l9 (.lst [.int (S+1+r3)])) q2 (.lst (iN m.lv++[.int (S+1+r3)]))=H7 at a6 x7 W7⊢;exists _,Z,p,6,Z,W7,Wh (by decide) (by decide)
  intro r6 H8 l2 l3 W8 s8;let x8:=x7.trans s8;let a7:=s8 _ _ a6 (d _ a0);let u:∀ c,H8 c=none->c≠p:=λc e z=>by
   let⟨xs,e'⟩:=W8.some;rw[z,e'] at e;cases e
  refine⟨r6,Z,∅,∅,Ui (n:=r6.toNat) (λi z=>z=.int (0+(i:Int))) (λD i ys H'=>ZF p H8 H'/\ZN H' p/\H8 D=none/\∃ l:jw,ys=l.map V.int/\l.length<=i) (Ye ∅)
   (λD i ys v I _=>I) (λD i ys v x H4 I _ hy=>hy) (λD ys v _=>zY _) (λD hD=>⟨ZF.of (ZX hD _),W8.same (ZX hD _),hD,[],Z,zY _⟩) (λD i ys H' z eD i4 I hz hP R hR=>?gStep) (λLN ys v eD hP=>?gEnd)⟩
  case' gStep=>
   let⟨s',W',nD,l,rfl,N⟩:=hP;exists _,Z,_,Z,p,q2,_,Z,W',d _ a0,s' _ _ a7 (d _ a0),by simp,by simp[iN];lia
   intro x c4 c1 c5 hx;obtain⟨y,rfl⟩:∃ y:Int,x=.int y:=by
    rcases yQ.mp hx with h | h
    ·let⟨b,_,rfl⟩:=zO.mp h;exact⟨_,Z⟩
    ·exact⟨_,yY.mp h⟩
   let Dp:=u _ nD;refine hR _ c4 (c1 _ _ eD Dp) ⟨λc o e n=>by rw[ZU (Za e nD)];exact c1 _ _ (s' _ _ e n) n,OM c5 (λo e=>by rw[ZU (Ne.symm Dp)];exact e),nD,l++[y],by simp,by simp;lia⟩
  case' gEnd=>
   let⟨s',W3,nD,l,rfl,i2⟩:=hP;let x3:=x8.trans s';let Y:=g _ LN x8 W8 nD;let j:=eD;let N:l.length<=6:=∅
 all_goals exact qT H v Q p st LN a m _ l W t O l0 e4 a9 e7 x3 W3 Y j N k
abbrev Wg:=jP×jP
abbrev jG:=List Wg
inductive Ud(H:Hp):jP->V->Prop
 | key {t:KT} {v:V}:ZG H t v->t.fits 3=true->Ud H (some t) v
 | tru:Ud H none (.bl true)
 | non:Ud H none .non
inductive Uy(H:Hp)(r:Wg)(u:V):Prop
 |mk(a:aj)(b c:V):u=.ref a->H a=some (.tup [b,c])->Ud H r.1 b->Ud H r.2 c->Uy H r u
structure YC(H:Hp)(rs:jG)(us:je):Prop where
 len:us.length=rs.length
 at_:∀ i u,us[i]? = some u->Uy H (rs.getD i (none,none)) u
def Ud.mono{H a:Hp}{o:jP}{v:V}(h:Ud H o v)(m:Yb H a):Ud a o v:=by
 cases h with
 | key k f=>exact .key (k.mono m _ _) f
 | tru=>exact .tru
 | non=>exact .non
def Uy.mono{H b:Hp}{r:Wg}{u:V}(h:Uy H r u)(m:Yb H b):Uy b r u:=by
 let⟨a,g,i,c,d,e,f⟩:=h;exact⟨a,g,i,c,m _ _ d,e.mono m,f.mono m⟩
def YC.mono{H a:Hp}{b:jG}{c:je}(h:YC H b c)(m:Yb H a):YC a b c:=⟨h.len,λi u e=>(h.at_ i u e).mono m⟩
def YC.app{H:Hp}{rs a:jG}{us b:je}(h:YC H rs us)(c:YC H a b):YC H (rs++a) (us++b):=by
 exists by rw[yZ,yZ,h.len,c.len]
 intro i u e;rw[zT];rcases yV i us.length with z | z
 ·rw[wZ z] at e;rw[wZ (by rw[<-h.len];exact z),<-zT]
  exact h.at_ i u e
 ·rw[xB z] at e;rw[xB (by rw[<-h.len];exact z),<-h.len,<-zT]
  exact c.at_ _ u e
def YC.nil{H:Hp}:YC H [] []:=⟨Z,λi u e=>by simp at e⟩
def YC.one{H:Hp}{r:Wg}{u:V}(h:Uy H r u):YC H [r] [u]:=⟨Z,λi v e=>by
 cases i with
 | zero=>cases e;exact h
 | succ i=>simp at e⟩
def LH(r:WD):Wg:=(some r.1,some r.2)
def Ws(r:Wg):WD:=(r.1.getD (.int 0),r.2.getD (.int 0))
def Ec{H:Hp}{b:jF}{c:je}(h:jR H (XW b) c)(f:∀ r∈b,r.fit):YC H (b.map LH) c:=by
 let l:c.length=b.length:=by have:=h.length;rw[<-this];exact zX _
 exists by rw[zX];exact l
 intro i u e;let⟨a,o,p,d,j,k,m,n⟩:=MJ h e;let g:=f _ (yU d);rw[zT,zH,d];exact⟨a,o,p,j,k,.key m g.1,.key n g.2⟩
def HA(a:jF):(a.map LH).map Ws=a:=by
 rw[zJ]
 conv=>rhs;rw[<-List.map_id a]
 rfl
def QJ(a:jG):Bool:=a.all λr=>r.1.isSome&&r.2.isSome
def QO(a:jp):Bool:=((zV (a.length-1)).map λj=>(a.getD j (.int 0)).lt (a.getD (j+1) (.int 0))).all id
def X5(a:jG):Nat:=if QJ a=true then (if 1<=a.length/\a.length<=4/\QO ((a.map Ws).map (·.1))=true then 2 else 1) else 0
def K2{a:jG}{r:Wg}{i:Nat}(e:a[i]? = some r)(h:(r.1.isSome&&r.2.isSome)=false):QJ a=false:=by
 refine vD.mpr λz=>?_;have:=zN.mp z r (yU e);rw[h] at this;cases this
def AX{d:jp}(h:QO d=true):d.Pairwise λa b=>a.lt b=true:=by
 unfold QO at h;rw[xS,zN] at h;let i:∀ j,j+1<d.length->(d.getD j (.int 0)).lt (d.getD (j+1) (.int 0))=true:=λj k=>h j (yC.mpr ∅)
 clear h
 induction d with
 | nil=>exact .nil
 | cons a d l=>
  let e:=l λj k=>by
   have:=i (j+1) (by rw[yJ];lia)
   simpa using this
  refine wW.mpr ⟨λb g=>?_,e⟩
  cases d with
  | nil=>cases g
  | cons c d=>
   let f:a.lt c=true:=by
    have:=i 0 (by simp)
    simpa using this
   rcases zF.mp g with z | z
   ·rw[z];exact f
   ·exact lt_trans' _ _ _ f ((wW.mp e).1 b z)
def Aq{P:am}{w:aw}{K:zZ}{l:jb}{a:aD}{f:aj}{i:ao}{n:Wu}{j k:Nat}{m:jq}{x g:Sp}(F:ZH P w K l a Zd j f i m x)(G:ZH P w K l a n k f i m g)(h:j<=k):ZH P w K l a n k f i m (λd H Q E=>x d H Q E\/g d H Q E):=by
 exists λd H Q E z=>z.elim (F.len d H Q E) (G.len d H Q E);intro A b s H args y d Q E t q p v z;rcases z with z | z
 ·refine codeAny_mono (F.run A b s H args y d Q E (t.mono h) q p v z) λr B c=>?_
  cases r with
  | ok o=>
   cases o with
   | ret u=>exact c
   | _=>exact c.elim
  | error e=>exact c.elim
 ·exact G.run A b s H args y d Q E t q p v z
def Uj{K:zZ}:yW K (.type "NoneType") (.type "bool")=some false/\yW K (.type "NoneType") (.type "int")=some false/\yW K (.type "NoneType") (.type "str")=some false/\yW K (.type "NoneType") (.type "tuple")=some false:=⟨by kernel_rfl,by kernel_rfl,by kernel_rfl,by kernel_rfl⟩
inductive WN:Sp
 |mk{v:V}{r:Int}{H:Hp}{Q:VK}{E:XK}:v=.bl true\/v=.non->Q (.bl false) H->WN [v,.int r] H Q E
def ZKQ{n:Nat}(F:Zn K "fits" "fits" MQ f fd)(T:YY mg)(c:ZC P w K mg jX 1 "has_few_figures" zFc Vi)(j:ZC P w K mg jX 1 "is_sign" ["sign"] WW)(i:ZC P w K mg jX (n+1) "fits" zEp (Y4 n)):ZH P w K mg jX Zd (n+2) f fd zEp WN:=by
 refine F.ko Gr λd A b s H r Q E e h=>?_;let⟨g,k⟩:=h;let a:=e.mono (show 1<=n+1 by lia)
 let⟨p,m⟩:=T.signs;let⟨q,o⟩:=T.things;intro l;refine⟨_,ZP (Zo (YU (Zq Xs rfl T.isi Yx (Zj (pv 0) (Zj (Xi (v:=.ty "bool") rfl T.bool P2 rfl) Zw)))) (ZV (Zl Vw)) Zt)
  (ZP (Zo (YU (Zq Xs rfl T.isi Yx (Zj (pv 0) (Zj (Xi (v:=.ty "int") rfl T.int Qw rfl) Zw)))) (ZV (Zl (Zr c a (Zj (pv 0) Zw)))) Zt)
  (ZP (Zo (YU (Zq Xs rfl T.isi Yx (Zj (pv 0) (Zj (Xi (v:=.ty "str") rfl T.str NC rfl) Zw)))) Xa Zt)
  (ZP (Zo (YU (Zq Xs rfl T.isi Yx (Zj (pv 0) (Zj (Xi (v:=.ty "tuple") rfl T.tuple QZ rfl) Zw)))) Xa Zt)
  (ZV (Zl Vw))))),?_⟩
 rcases g with rfl | rfl
 ·exact⟨_,Z,_,_,_,_,Z,.bl true,Ib,_,Z,Z3 k⟩
 ·refine⟨_,Z,_,_,_,_,Z,.non,Uj.1,_,Z,Zm ?_⟩;refine⟨_,Z,_,_,_,_,Z,.non,Uj.2.1,_,Z,Zm ?_⟩;refine⟨_,Z,_,_,_,_,Z,.non,Uj.2.2.1,_,Z,Zm ?_⟩;exact⟨_,Z,_,_,_,_,Z,.non,Uj.2.2.2,_,Z,Zm k⟩
inductive Xm:Sp
 |mk{v:V}{o:jP}{H:Hp}{Q:VK}{E:XK}:Ud H o v->(∀ a,ZD H a->Q (.bl o.isSome) a)->Xm [v] H Q E
def ZJV(F:Zn K "is_key" "is_key" IT f fd)(T:YY mg)(d:ZC P w K mg jX 5 "fits" zEp (λb H Q E=>Y4 4 b H Q E\/WN b H Q E)):ZH P w K mg jX Zd 6 f fd zE4 Xm:=by
 refine F.ko BL λg A a s H b Q E j h=>?_;let⟨l,k⟩:=h;let⟨p,m⟩:=T.deep;intro o;exists _,ZV (Zl (Zr d j (Zj (pv 0) (Zj (Wn (v:=.int 3) rfl m ⟨_,rfl⟩) Zw))))
 cases l with
 | key i c=>exact⟨_,Z,.inl ⟨_,_,3,3,Z,i,c,by decide,λe n=>by rw[c];exact k e n⟩⟩
 | tru=>exact⟨_,Z,.inr ⟨.inl Z,k H (ZD.refl H)⟩⟩
 | non=>exact⟨_,Z,.inr ⟨.inr Z,k H (ZD.refl H)⟩⟩
structure XZ(K:zZ)(mg:jb)(nm:Str)(C:aj):Prop where
 at_:mg nm=some (.ref C)
 exk:wM K C Qd "ValueError.__new__" = true
 kp:yX K (.ref C)=true
 mB:zE K C (.type "BaseException")=some true
 ty:yM K (.ref C)=some (.type "type")
inductive Ua(CK:aj):Sp
 |mk{v:V}{o:jP}{H:Hp}{Q:VK}{E:XK}:Ud H o v->(o.isSome=true->∀ a,ZD H a->Q v a)->(o.isSome=false->∀ a,ZD H a->E (.ref CK) none a)->Ua CK [v] H Q E
def Bi(F:Zn K "checked" "checked" KC f fd)(a:K.In jX)(L:XZ K mg "NoKey" CK)(g:ZC P w K mg jX 6 "is_key" zE4 Xm):ZH P w K mg jX (Zg P w) 7 f fd zE4 (Ua CK):=by
 refine F.kD BS λi A b s H p Q E j h=>?_;let⟨k,l,m⟩:=h;intro n;exists _,ZP (Zo (Xj (YU (Zr g j (ZT (pv 0))))) (ZV (Nd Yl (Nb a L.at_ L.exk) L.kp L.mB L.ty rfl)) Zt) (ZV (Zl (pv 0)));refine⟨_,Z,k,λc d=>⟨_,Z,?_⟩⟩;rename_i v o
 cases e:o.isSome with
 | true=>exact Zm ⟨_,Z,l e c d⟩
 | false=>exact Z3 (m e c d)
inductive VV(CK:aj):Sp
 |mk{l:aj}{e:je}{b:jG}{H:Hp}{Q:VK}{E:XK}:H l=some (.lst e)->YC H b e->e.length<=100->(QJ b=false->∀ a,ZD H a->E (.ref CK) none a) ->
  (QJ b=true->∀(a:Hp)(d:aj)(c:je),ZD H a->H d=none->a d=some (.lst c)->jR a (XW (b.map Ws)) c->(∀ r∈b.map Ws,r.fit)->Q (.ref d) a)->VV CK [.ref l] H Q E
def ZMO(F:Zn K "own_rows" "own_rows" J9 f fd)(DC:X9 P w K mg jX 7 "checked" zE4 (Ua CK)):ZH P w K mg jX (Zg P w) 8 f fd zEu (VV CK):=by
 refine F.kD ZKB λa5 A a3 s H vs Q E U h=>?_;let⟨T,hk,a4,k1,k2⟩:=h;rename_i l B c
 let lk:=hk.len;intro Xc;refine⟨_,ZV (Zl (Gx (E1:=E) [] [] Yl (λ_ _ _ h=>h) (VN (pv 0)) (λ_ _ _ _ _=>UY)
   (λ_ _ _ _ _ hp=>Yg (Ze (Ob (E:=E) DC U hp (ZT (Zs K (pv 0) ZJ))) (Ob (E:=E) DC U hp (ZT (Zs K (pv 0) ZJ))))) trivial)),?_⟩
 exists _,Z,l,Z,⟨B,ZM.of T⟩;refine Ui (n:=B.length) (λi z=>B[i]? = some z) (λD i y x=>ZD H x/\H D=none/\jR x (XW ((c.take i).map Ws)) y/\(∀ r∈(c.take i).map Ws,r.fit)/\QJ (c.take i)=true) (Ye ∅)
  (λD i y x hi t=>⟨B,B[i],ZM.of (t.1 _ _ T),by simp[hi]⟩) (λD i y x z X hi t hy=>⟨hy.1,hy.2 B (ZM.of (t.1 _ _ T))⟩) (λD y x t=>⟨B,ZM.of (t.1 _ _ T),zY _⟩)
  (λD hD=>⟨ZX hD _,hD,.nil,λr U=>by simp at U,Z⟩) (λD i y x z Y a6 hi hz t R hR=>?_) (λD y x Y t=>?_)
 ·let⟨p,V,v,u,k⟩:=t;let⟨a,L,M,e1,e2,O,S⟩:=hk.at_ i z hz;subst e1;let e3:=p _ _ e2;let a0:i<c.length:=∅
  let C:c[i]? = some c[i]:=zU a0;let eg:c.getD i (none,none)=c[i]:=by rw[zT,C];rfl
  rw[eg] at O S;refine⟨_,Z,.inr (.inl ⟨a,_,_,L,rfl,rfl,Zh.of e3,rfl,O.mono (ZD.tups p),λd X G=>?_,λd X G=>k1 (K2 C (by rw[d];rfl)) X (p.trans G)⟩)⟩
  refine⟨_,Z,.inr (.inl ⟨a,_,_,M,rfl,rfl,Zh.of (G _ _ e3),rfl,S.mono (ZD.tups (p.trans G)),λj N s5=>?_,λj N s5=>k1 (K2 C (by rw[j,Bool.and_false])) N ((p.trans G).trans s5)⟩)⟩
  exists Zu;intro q hq;let g:=ZX hq (.tup [L,M]);let m:=(G.trans s5).trans g;let I:=m _ _ Y;let W:Yb (upd N q (.tup [L,M])) (upd (upd N q (.tup [L,M])) D (.lst (y++[.ref q]))):=λb xs e=>by rw[ZU (ZE e I)];exact e
  obtain⟨a1,f1⟩:ZG H (Ws c[i]).1 L/\(Ws c[i]).1.fits 3=true:=by
   unfold Ws;generalize c[i].1=o at O d
   cases O with
   | key a b=>exact⟨a,b⟩
   | tru=>cases d
   | non=>cases d
  obtain⟨a2,f2⟩:ZG H (Ws c[i]).2 M/\(Ws c[i]).2.fits 3=true:=by
   unfold Ws;generalize c[i].2=o at S j
   cases S with
   | key a b=>exact⟨a,b⟩
   | tru=>cases j
   | non=>cases j
  refine hR _ _ I ⟨Qa (p.trans m) V,V,?_,?_,?_⟩
  ·rw[yI,C,yR,Iv];refine((v.sm m).mono W _ _).append (.cons (.tup (W _ _ ZO) (.cons ?_ (.cons ?_ .nil))) .nil)
   ·exact(a1.sm (p.trans m)).mono W _ _
   ·exact(a2.sm (p.trans m)).mono W _ _
  ·intro r J;rw[yI,C,yR] at J;rcases yQ.mp J with z | z
   ·exact u r z
   ·have:r=Ws c[i]:=by simpa using z
    rw[this];exact⟨f1,f2⟩
  ·rw[yI,C];unfold QJ at k⊢;rw[tS,k];show (true&&((c[i].1.isSome&&c[i].2.isSome)&&true))=true;rw[d,j];rfl
 ·let⟨p,V,v,u,k⟩:=t;rw[yF ∅] at v k u
  exact k2 k x D y p V Y v u
inductive WG:Sp
 |mk{l:aj}{b:je}{a:jp}{H:Hp}{Q:VK}{E:XK}:H l=some (.lst b)->jR H a b->(∀ t∈a,t.fits 3=true)->b.length<=100->(∀ c,ZD H c->Q (.bl (QO a)) c)->WG [.ref l] H Q E
def D3(F:Zn K "rise" "rise" Kl f fd)(T:YY mg)(U:ZC P w K mg jX 7 "ahead" zE5 Yi):ZH P w K mg jX Zd 8 f fd ["keys"] WG:=by
 refine F.ko Ej λW A z s H vs Q E hr h=>?_;let⟨M,v,L,I,k⟩:=h;rename_i l c p
 let lk:=v.length;intro Xc;refine⟨_,ZV (Zl (Zq (Mj rfl) rfl T.all Mt (ZT (Qy [0] ["keys"] rfl (N7 rfl T.range (Ze ZJ (Zq WK rfl T.len Xu (ZT (pv 0))))) (λ_ _ _ _ _=>UY)
  (λ_ _ _ _ _=>Zr U hr (Ze (Zs K (pv 1) (Z1 Ql (pv 0) ZJ)) (Zs K (pv 1) (pv 0)))) ⟨rfl,.inl rfl,rfl,trivial⟩)))),?_⟩
 exists _,Z,l,c,Z,.inl (ZM.of M),1,(c.length:Int),Z,⟨nofun,nofun,nofun,nofun⟩
 refine Ui (n:=((c.length:Int)-1).toNat) (λi x=>x=.int (1+(i:Int))) (λD i m d=>ZD H d/\H D=none/\m=((zV i).map λj=>(p.getD j (.int 0)).lt (p.getD (j+1) (.int 0))).map V.bl) (Ye nofun)
  (λD i m d t _=>t) (λD i m d x B t _ hy=>hy) (λD m d _=>zY _) (λD J=>⟨ZX J _,J,Z⟩) (λD i m d x q a0 t hx r R hR=>?_) (λD m d q r=>?_)
 ·subst hx;let⟨g,y,rfl⟩:=r;let u:i+1<c.length:=nofun
  let O:c[i]? = some (c[i]'nofun):=zU nofun
  let S:c[i+1]? = some c[i+1]:=zU u;let Y:(1:Int)+(i:Int)=((i+1:Nat):Int):=nofun
  let X:(1:Int)+(i:Int)-1=((i:Nat):Int):=nofun
  let⟨a,C,ka⟩:=v.get O;let⟨b,G,kb⟩:=v.get S;let o:=g _ _ M;refine⟨_,Z,_,Z,_,_,Z,Z,.inl ⟨l,c,_,_,Z,Z,ZM.of o,(by rw[X];exact X1 O),?_⟩⟩
  refine⟨_,Z,_,Z,.inl ⟨l,c,_,_,Z,Z,ZM.of o,(by rw[Y];exact X1 S),?_⟩⟩
  exists _,_,a,b,Z,ka.sm g,kb.sm g,L a (yU C),L b (yU G);intro B N;refine hR _ B (N D _ q) ⟨Qa (g.trans N) y,y,?_⟩;rw[List.range_succ,yR,yR]
  congr 1
  show [V.bl (a.lt b)]=[V.bl ((p.getD i (.int 0)).lt (p.getD (i+1) (.int 0)))];rw[zT,zT,C,G];rfl
 ·let⟨g,y,rfl⟩:=r;exists D,_,Z,ZM.of q;let e:((c.length:Int)-1).toNat=p.length-1:=nofun
  rw[e];exact k d g
inductive Vu(CK CL:aj):Sp
 |mk{l:aj}{e:je}{b:jG}{H:Hp}{Q:VK}{E:XK}:H l=some (.lst e)->YC H b e->e.length<=100->(X5 b=0->∀ a,ZD H a->E (.ref CK) none a)->(X5 b=1->∀ a,ZD H a->E (.ref CL) none a) ->
  (X5 b=2->OU (b.map Ws)->∀(a:Hp)(d:aj)(c:je),ZD H a->H d=none->a d=some (.lst c)->jR a (XW (b.map Ws)) c->Q (.ref d) a)->Vu CK CL [.ref l] H Q E
def EW(F:Zn K "checked_rows" "checked_rows" Jq f fd)(X:K.In jX)(T:YY mg)(L:XZ K mg "NoLeaf" CL)(DC:X9 P w K mg jX 8 "own_rows" zEu (VV CK))(DR:ZC P w K mg jX 8 "rise" ["keys"] WG):ZH P w K mg jX (Zg P w) 9 f fd zEu (Vu CK CL):=by
 refine F.kD Vr λa1 A a0 s H vs Q E hr h=>?_;let⟨hl,hk,B,k0,W,k2⟩:=h;rename_i l us d
 let nd:=Vr.nd;let lk:=hk.len;let⟨t4,m4⟩:=T.rows;intro Xc;refine⟨_,ZP (Zx 1 nd (Ob (E:=E) DC hr (Yv Yl λ_ _ _ h=>h) (ZT (pv 0))))
  (ZP (Zo (PW.pt (Vh (Xj (Mo QE QE ZJ (Zq WK rfl T.len Xu (ZT (pv 1))) (Wn (v:=.int 4) rfl m4 ⟨_,rfl⟩)))
   (Up (Xj (YU (Zr DR hr (ZT (Qy [] [] rfl (VN (pv 1)) (λ_ _ _ _ _=>UY) (λ_ _ _ _ _=>Zs K (pv 0) ZJ) trivial)))))))) (ZV (Nd Yl (Nb X L.at_ L.exk) L.kp L.mB L.ty rfl)) Zt)
  (ZV (Zl (pv 1)))),?_⟩
 exists _,Z,hl,hk,B,λe=>k0 (by unfold X5;rw[aP (by rw[e];exact zS)])
 intro I y D b M nD u p G;let ly:b.length=d.length:=by have:=p.length;rw[<-this];exact(zX _).trans (zX _)
 let lr:(d.map Ws).length=d.length:=zX _;let Y:¬ (1<=d.length/\d.length<=4/\QO ((d.map Ws).map (·.1))=true)->X5 d=1:=λz=>by unfold X5;rw[aQ I,aP z]
 exists _,Z,D,b,Z,.inl (ZM.of u),_,_,Z,Z,_,Z;rcases yV b.length 1 with h2 | h2
 ·rw[aM (show ¬ (1:Int)<=(b.length:Int) by lia)]
  exact Zm ⟨_,Z,Z3 (Z3 (W (Y ∅) y M))⟩
 rw[aO (show (1:Int)<=(b.length:Int) by lia)]
 refine Z3 ⟨_,_,Z,Z,_,Z,?_⟩;rcases yV 4 b.length with h4 | h4
 ·rw[aM (show ¬ (b.length:Int)<=4 by lia)]
  exact Z3 (Z3 (W (Y ∅) y M))
 rw[aO (show (b.length:Int)<=4 by lia)]
 refine Zm ?_;exists _,Z,D,Z,⟨b,ZM.of u⟩;refine Ui (n:=b.length) (λi z=>b[i]? = some z) (λk i x m=>ZD y m/\y k=none/\jR y (((d.map Ws).map (·.1)).take i) x) (Ye ∅)
  (λk i x m U g=>⟨b,b[i],ZM.of (g.1 _ _ u),by simp[U]⟩) (λk i x m z N U g hy=>⟨hy.1,hy.2 b (ZM.of (g.1 _ _ u))⟩) (λk x m g=>⟨b,ZM.of (g.1 _ _ u),zY _⟩)
  (λk C=>⟨ZX C _,C,.nil⟩) (λk i x m z o a2 U hz g R hR=>?_) (λk x m o g=>?_)
 ·let⟨J,q,c⟩:=g;let⟨a,vk,vv,er,rfl,O,q1,_⟩:=MJ p hz;refine⟨_,Z,.inr (.inl ⟨a,_,_,vk,rfl,rfl,Zh.of (J _ _ O),rfl,?_⟩)⟩;refine hR _ m o ⟨Qa J q,q,?_⟩;rw[yI,zH,er];exact c.append (.cons q1 .nil)
 ·let⟨J,q,c⟩:=g;rw[yF (by rw[zX];lia)] at c
  let lz:=c.length;rw[zX] at lz;refine⟨o,c.sm J,λt ht=>?_,∅,λN s5=>⟨_,Z,?_⟩⟩
  ·let⟨r,V,rfl⟩:=zO.mp ht;exact(G r V).1
  let j:=J.trans s5
  cases S:QO ((d.map Ws).map (·.1)) with
  | false=>exact Z3 (W (Y λz=>by rw[S] at z;cases z.2.2) N (M.trans j))
  | true=>
   let O:X5 d=2:=by unfold X5;rw[aQ I,aQ ⟨∅,∅,S⟩]
   exact Zm ⟨_,Z,k2 O ⟨G,∅,∅,AX S⟩ N D b (M.trans j) nD (j _ _ u) (p.sm j)⟩
def F6{k:Nat}{g:jq}{i d:Sp}(F:ZH P w K mg jX (Zg P w) k f fd g i)(h:∀ b H Q E,d b H Q E->i b H Q E0):ZH P w K mg jX Zd k f fd g d:=by
 refine⟨λb H Q E z=>F.len b H Q E0 (h _ _ _ _ z),λA a s H args p b Q E m l j n z=>codeAny_mono (F.run A a s H args p b Q E0 m l j n (h _ _ _ _ z)) λr q c=>?_⟩
 cases r with
 | ok o=>
  cases o with
  | ret u=>exact c
  | _=>exact c.elim
 | error e=>
  let⟨_,_,_,_,_,_,c⟩:=c;exact c.elim
def De{o:je}{H:Hp}{Q:VK}{E:XK}(h:WY o H Q E):Vu CK CL o H Q E0:=by
 let⟨l,y,a,rfl,t,m,G,k⟩:=h;let C:y.length=a.length:=by have:=m.length;rw[<-this];exact zX _
 let⟨s,A,B,b⟩:=id G;let g:X5 (a.map LH)=2:=by
  unfold X5;rw[HA,aQ (show QJ (a.map LH)=true by unfold QJ;rw[xS];exact zN.mpr λr _=>rfl)]
  refine aQ ⟨by rw[zX];lia,by rw[zX];lia,?_⟩
  unfold QO;rw[xS,zN];intro j i;let i:=yC.mp i;let d:j<(a.map (·.1)).length:=∅
  let e:j+1<(a.map (·.1)).length:=∅
  have:=KI b (xV j) (zU d) (zU e);rw[Function.comp_apply,zT,zT,zU d,zU e];exact this
 refine .mk t (Ec m s) ∅ (λz=>by rw[g] at z;cases z) (λz=>by rw[g] at z;cases z) λ_ _ p u c x v q n=>k p u c x v q (by rw[HA] at n;exact n)
def WF.wide{gt a:jp}{c:jr}(h:WF gt c)(s:∀ x∈gt,x∈a):WF a c:=λi t e=>
 let o:=h i t e
 ⟨o.ne,o.up,λr b=>⟨s _ (o.inn r b).1,(o.inn r b).2⟩,o.leaf,o.stem⟩
def XB.all{gt:jp}{a c:aj}{H:Hp}{S d r:aj}{k:jr}{g:jo}{o:Nat->jo}{l:Nat->Nat}{n:jy}{f:List (ZW×V)}{s:je}(U:XB gt a c H S d r k g o l n f s):∀ i∈g,QB k (λj=>j∈g/\0<l j) i:=λi p=>by
 refine QB.all (λj q b e=>?_) U.vl U.live _ i (zY _) p;let m:=U.wf j _ (Wx (U.vl.lt j q));by_cases z:(gd k j).h=0
 ·rw[(m.leaf z).1] at e;cases e
 ·exact((m.stem z).2.2.1 b e).1
def Hd:∀{l d:jo},l.Pairwise (· < ·)->d.Pairwise (· < ·)->(∀ x,x∈l ↔ x∈d)->l=d
 | [],[],_,_,_=>rfl
 | [],b::d,_,_,h=>absurd ((h b).mpr zK) (by simp)
 | a::l,[],_,_,h=>absurd ((h a).mp zK) (by simp)
 | a::l,b::d,h1,h2,h=>by
  let f:=wW.mp h1;let g:=wW.mp h2;let e:a=b:=by
   rcases zF.mp ((h a).mp zK) with z | z
   ·exact z
   ·rcases zF.mp ((h b).mpr zK) with y | y
    ·exact y.symm
    ·have:=f.1 b y;have:=g.1 a z
     lia
  subst e;rw[Hd f.2 g.2 λx=>⟨λc=>?_,λc=>?_⟩]
  ·rcases zF.mp ((h x).mp (zI _ c)) with z | z
   ·have:=f.1 x c
    lia
   ·exact z
  ·rcases zF.mp ((h x).mpr (zI _ c)) with z | z
   ·have:=g.1 x c
    lia
   ·exact z
def Kr{n:Nat}{a:Nat->Nat}{i:Nat}:Ww (Yy n a) n i=if i=n then 0 else a i:=by
 unfold Ww Yy;by_cases z:i=n
 ·rw[aQ z,aQ z,aQ z]
 ·rw[aP z,aP z,aP z]
def Az{gt v:jp}{f g:aj}{H E:Hp}{S d P F J A:aj}{e:jr}{t:ZZ}{o b:jo}{I u:Nat->jo}{q:Nat->Nat}{G s:jy}{x n:List (ZW×V)}{Q B:je}(U:XB gt f g H S d P e o I q G x Q)(k:XB v f g E F J A (e++[t]) b u (Ww (Yy e.length q) e.length) s n B)(R:b.Sublist (o++[e.length]))(O:∀ c∈o++[e.length],0<Ww (Yy e.length q) e.length c->c∈b):b=o:=by
 let w:∀ i,QB e (λj=>j∈o/\0<q j) i->i∈b:=λi r=>by
  induction r with
  | held a=>
   have:=U.vl.lt _ a.1;exact O _ (xM _ a.1) (by rw[Kr,aP ∅];exact a.2)
  | step r K M=>
   have:=U.vl.lt _ (QB.sub U.vl (λ_ h=>h.1) r);exact k.vl.cl _ M _ (by rw[QC this];exact K)
 refine Hd k.vl.up U.vl.up λi=>⟨λp=>?_,λp=>w i (U.all i p)⟩;rcases yQ.mp (R.subset p) with z | z
 ·exact z
 exfalso
 let z:=yY.mp z;subst z;let l:=k.live _ p;rw[Kr,aQ rfl] at l;let⟨j,L⟩:=vR (show 0<(abv (e++[t]) b e.length).length by lia)
 let⟨N,m⟩:=wS.mp L;let m:=of_decide_eq_true m;let C:=k.vl.lt j N;let D:=k.wf j _ (Wx C);rw[yZ,xA] at C;by_cases y:(gd (e++[t]) j).h=0
 ·rw[(D.leaf y).1] at m;cases m
 ·have:=((D.stem y).2.2.1 _ m).1
  lia
def ZLN{gt n:jp}{g h:aj}{H:Hp}{S d s:aj}{m f:jr}{l:jo}{p:Nat->jo}{r:Nat->Nat}{o:jy}{k:List (ZW×V)}{t:je}(U:XB n g h H S d s m l p r o k t)(c:f.length=m.length)(e:∀ i∈l,gd f i=gd m i)(w:WF gt f):XB gt g h H S d s f l p r o k t:=by
 let R:=U.sh;let q:∀ i,abv f l i=abv m l i:=λi=>by
  unfold abv;exact tL λj v=>by rw[e j v]
 refine⟨⟨by rw[c];exact R.sh,R.keys,R.val,λi a=>by rw[c];exact R.lt i a,by rw[c];exact R.len,λi a=>?_,R.own,R.two⟩,w,⟨λi a=>by rw[c];exact U.vl.lt i a,λi a b u=>U.vl.cl i a b (by rw[<-e i a];exact u),U.vl.up⟩,λi a=>by rw[q];exact U.av i a,λi a=>by rw[q];exact U.live i a,by rw[c];exact U.l800⟩
 let W:=R.tw i a;exact⟨W.tw,by rw[e i a];exact W.things,by rw[e i a];exact W.tag⟩
inductive XF(gt:jp)(jg jh:aj):Sp
 |mk{p g:aj}{a:Pl}{m:Md}{H:Hp}{Q:VK}{E:XK}:ZN H p->H g=some (.tup (WE a))->LS gt jg jh H a m->Wk a m p->0<m.lv.length->m.lv.length<=60->m.ts.length<=600 ->
  (∀(d:Hp)(e:Pl)(b:Md)(x:Int),(∀ c o,H c=some o->Zi a m c->Zi e b c/\(c≠p->d c=some o))->ZN d p->LS gt jg jh d e b->Wk e b p->WE e=WE a->b.lv=m.lv->b.ts.length<=m.ts.length+1->Z2 b.lv x=false->Q (.int x) d)->XF gt jg jh [.ref p,.ref g] H Q E
abbrev ZLS:jq:=["_law_well_here","_law_state","_law_shelf","_law_twigs","_law_holds","_law_grid_here","_law_told","_law_way","_law_number"]
def VB:ZB ZLS zEc (Zf Jz):=YA
def Lo{a:jo}{x:Int}(h:∀ i∈a,x≠(i:Int)):Z2 a x=false:=by
 unfold Z2;refine aM λz=>h x.toNat z.2 ?_
 lia
def ZHs{gt:jp}(F:Zn K "_law_strange" "_law_strange" Jz f fd)(X:YY mg)(L:YT K mg jg jh)(DP:ZC P w K mg jX 1 "_law_pull" zEf YK)(DM:ZA P w K mg jX Zd 10 jg "put_leaf" zE9 (XE jg jh))(DG:∀ e9,ZA P w K mg jX Zd 68 jg "let_go" zEa (λvs H Q E=>XT e9 jg jh CH vs H Q E0)):ZH P w K mg jX Zd 69 f fd zEc (XF gt jg jh):=by
 refine F.ko VB λl5 A i8 s H vs Q E hr h=>?_;let⟨W,i3,l,O,l0,l9,l4,k⟩:=h;rename_i p st a m
 let nd:=VB.nd;let a5:=hr.mono (show 1<=68 by lia)
 let a9:=hr.mono (show 10<=68 by lia)
 intro Xc;refine⟨_,ZP (Qx (pv 1) (Pg rfl (Y9 (Yc 2 nd) (Y9 (Yc 3 nd) (Y9 (Yc 4 nd) (Y9 (Yc 5 nd) (Y9 (Yc 6 nd) Pf)))))))
  (ZP (Zx 7 nd (Zr DP a5 (Ze (pv 0) ZJ)))
  (ZP (Zo (YI Y1 (pv 7) ZJ (Zz _)) (ZV (Zl (Z1 WJ (Z1 WJ (Zq (Lk rfl) rfl X.max Oo (ZT (pv 6))) ZJ) (Zr DP a5 (Ze (pv 0) ZJ))))) Zt)
  (ZP (Zo (YI Y1 (pv 7) ZJ (Zz _)) (ZV (Zl (Z1 Ql (Q6 Pi ZJ) (Zr DP a5 (Ze (pv 0) (Z1 KA ZJ ZJ)))))) Zt)
  (ZP (Zx 8 nd (YL (E:=E0) (pv 2) L.cS DM a9 XJ (ZT (Yp (ZT (Yg (Ze ZJ ZJ)))))))
  (ZP (WB (YL (E:=E0) (pv 2) L.cS (DG (gt++[.int 5])) hr XJ (ZT (pv 8))))
  (ZP (WB (V6 yL xO xN Uo (pv 6) (ZT (pv 8))))
  (ZV (Zl (pv 8))))))))),?_⟩
 let⟨m5,a0⟩:=W.some;let eI:((zV m.ts.length).map λi:Nat=>(i:Int)).map V.int=iN (zV m.ts.length):=by rw[zJ];rfl
 let i6:0<m.ts.length:=by
  let⟨i,b⟩:=vR l0;have:=l.lt b
  lia
 exists _,Z,st,_,Z,Zh.of i3,Z,_,_,Z,_,_,Z,_,_,Z,_,_,Z,_,_,Z,Z;exists _,Z,p,3,Z,W,Wh (by decide) (by decide)
 intro r H1 r0 r1 W1 s1;let S1:=l.sx O a0 s1;let c1:∀(H2:Hp),ZF p H H2->∀ c o,H c=some o->Zi a m c->Zi a m c/\(c≠p->H2 c=some o):=λH2 x c o e v=>⟨v,λn=>x _ _ e n⟩;refine⟨_,Z,Z,_,Z,X7 (λ_=>?_) λ_=>⟨_,Z,Z,_,Z,X7 (λ_=>?_) λ_=>?_⟩⟩
 ·refine⟨_,Z,a.tl,(zV m.ts.length).map (λi:Nat=>(i:Int)),Z,ZM.of (by rw[eI];exact S1.told),uE (by rw[zX,vC];exact i6),λmx l7 a8=>⟨_,_,Z,Z,?_⟩⟩
  refine⟨_,Z,p,5,Z,W1,Wh (by decide) (by decide),λr3 R l1 l2 W5 s5=>⟨_,_,Z,Z,?_⟩⟩
  let x5:=s1.trans s5;refine k R a m _ (c1 _ x5) W5 (l.sx O a0 x5) O Z Z (xI _) (Lo λi b=>?_);have:=a8 (i:Int) (zO.mpr ⟨i,yC.mpr (l.lt b),Z⟩)
  lia
 ·refine⟨1,Z,_,Z,_,_,Z,Z,⟨by decide,by decide,by decide⟩,p,10 ^ 6,Z,W1,Wh (by decide) (by decide),λr3 R l1 l2 W5 s5=>⟨_,_,Z,Z,?_⟩⟩
  let x5:=s1.trans s5;exact k R a m _ (c1 _ x5) W5 (l.sx O a0 x5) O Z Z (xI _) (Lo λi b=>by lia)
 let⟨c2,ls,N,c3⟩:=S1.sh;let⟨dx,i0⟩:=N.sh.sh.self;refine⟨_,Z,a.S,dx,_,Z,i0,Z,Zu,λM i7=>⟨Zu,λlp c5=>?_⟩⟩;let g1:=ZX i7 (.tup [.int 5,.int 5]);let g2:=g1.trans (ZX c5 (.lst [.ref M]));let c0:upd (upd H1 M (.tup [.int 5,.int 5])) lp (.lst [.ref M]) M=some (.tup [.int 5,.int 5]):=ZX c5 (.lst [.ref M]) _ _ ZO;let a7:upd (upd H1 M (.tup [.int 5,.int 5])) lp (.lst [.ref M]) lp=some (.lst [.ref M]):=ZO;generalize upd (upd H1 M (.tup [.int 5,.int 5])) lp (.lst [.ref M])=H2 at g2 c0 a7⊢;let S2:=S1.same g2;let R2:=N.sh.same g2;let Gd:OU [((.int 5:KT),(.int 5:KT))]:=⟨λr hr=>by rw[yY.mp hr];exact⟨by decide +kernel,by decide +kernel⟩,by decide,by decide,uH _ _⟩
 exists a.S,a.d,a.lk,lp,m.ts,m.lv,m.av,m.ho,a.as,c2,ls,[.ref M],[(.int 5,.int 5)],Z,R2,∅,a7,.cons (.tup c0 (.cons (.int _) (.cons (.int _) .nil))) .nil,Gd
 intro H3 I nx m1 c4 fr R3;let UW:XB (gt++[.int 5]) jg jh H1 a.S a.d a.lk m.ts m.lv m.av m.ho a.as c2 ls:=⟨N.sh,N.wf.wide λx hx=>xM _ hx,N.vl,N.av,N.live,N.l800⟩;let U3:=Ft UW ∅ (JI Gd (List.sublist_append_right _ _)) R3
 let T:=S2.lo (H':=H3) λc o n1 n2 n3 n4 e=>fr c o n1 n2 e;let⟨e4,i1⟩:=R3.sh.self;let hn:m.ts.length∈m.lv++[m.ts.length]:=yE _ (yY.mpr Z);let⟨c6,m2,i9,_⟩:=P0 (new:=I) (D:=0) l;let t:∀ i∈m.lv,_:=λi b=>Pt (new:=I) (D:=0) l (i:=i) b;exists _,Z,a.S,e4,_,Z,i1,Z,_,Z,a.S,a.d,a.lk,_,_,_,_,_,_,ls,m.ts.length,Z,U3,by rw[PY];exact(by decide:0<64),hn,λz=>absurd z (by unfold Yy;rw[aQ rfl];decide)
 intro _ H4 m0 a6 l3 a4 U4 sl kp;let e7:=Az N U4 sl kp;subst e7;let i4:=T.told;let⟨i5,i2,hH⟩:=T.hd;let⟨Y6,U⟩:=T.lw;let⟨e8,G3⟩:=T.gr;let B:∀ c xs,H2 c=some (.lst xs)->H3 c=some (.lst xs)->(∀ j∈m.lv,c≠a.ab j)->H4 c=some (.lst xs):=λc xs Y e n3=>by
  let⟨dt,hx⟩:=(R3.tw _ hn).tw.self;refine a4 c _ (ZE e R3.sh.kept) (ZE e hx) (λj q=>?_) e;by_cases z:j=m.ts.length
  ·subst z;exact λy=>Za Y c4 (y.trans c6)
  ·exact λy=>n3 j (VJ q z) (y.trans (t j (VJ q z)).1)
 let a2:∀ c o,c≠a.d->(∀ C dx fs,o≠.ins C dx fs)->(∀ xs,o≠.lst xs)->H3 c=some o->H4 c=some o:=λc o n1 n2 n3 e=>by
  let⟨dt,hx⟩:=(R3.tw _ hn).tw.self;exact a4 c o n1 (ZE e hx (n2 _ _ _)) (λj q=>ZE e (R3.tw j q).tw.above (n3 _)) e
 let a1:=B _ _ S2.told i4 λj q=>(l.t2 j q).1;exists _,Z,.inl ⟨Z,_,ZM.of a1⟩,_,Z,a.tl,_,.int (m.ts.length:Nat),Z,Z,a1,Ye (by simp[iN];lia)
 let R5:=M9 (o':=.lst (iN (zV m.ts.length)++[.int (m.ts.length:Nat)])) U4.sh a1 l.tt.1.symm λi b=>⟨λy=>(l.t2 i b).1 (by rw[<-(t i b).1];exact y.symm),λy=>(l.t2 i b).2.1 (by rw[<-(t i b).2.1];exact y.symm)⟩
 let u:∀ c o,c≠a.tl->H4 c=some o->upd H4 a.tl (.lst (iN (zV m.ts.length)++[.int (m.ts.length:Nat)])) c=some o:=λc o n e=>by rw[ZU n];exact e
 let c7:upd H4 a.tl (.lst (iN (zV m.ts.length)++[.int (m.ts.length:Nat)])) a.tl=some (.lst (iN (zV (m.ts.length+1)))):=by rw[ZO,JC]
 generalize upd H4 a.tl (.lst (iN (zV m.ts.length)++[.int (m.ts.length:Nat)]))=R at R5 u c7⊢;let J:∀ c o,c≠a.d->(∀ C dx fs,o≠.ins C dx fs)->(∀ xs,o≠.lst xs)->H3 c=some o->R c=some o:=λc o n1 n2 n3 e=>u c o (ZE (a2 c o n1 n2 n3 e) a1 (n3 _)) (a2 c o n1 n2 n3 e);let c9:Yb H3 R:=λc xs e=>J c _ (ZE e R3.sh.kept) (by intro _ _ _ z;cases z) (by intro _ z;cases z) e
 let⟨gs,G⟩:=l.gr;let⟨g,hg⟩:=vR (show 0<gt.length by rw[G.len];decide)
 let Gg:OU [(g,g)]:=⟨λr hr=>by rw[yY.mp hr];exact⟨G.fit g hg,G.fit g hg⟩,by simp,by simp,uH _ _⟩
 let eg:∀ i∈m.lv,gd (m.ts++[Vj [(g,g)]]) i=gd (m.ts++[Vj [((.int 5:KT),(.int 5:KT))]]) i:=λi b=>by rw[QC (l.lt b),QC (l.lt b)]
 let U6:=ZLN (U4.frame R5) (by simp) eg (N.wf.push (JI Gg (rS.mpr hg)))
 let a3:=U.frame c9 (J _ _ l.dd.1 (by intro _ _ _ z;cases z) (by intro _ z;cases z) U.dict) λi b o e=>by
  let⟨l8,e0⟩:=S2.lw;let⟨c8,us,_,_,e',_⟩:=e0.tw i b;let e3:o=.lst us:=by
   let⟨m3,m4,_,_,e3,_⟩:=U.tw i b;let e5:=fr _ _ (ZE e' R2.sh.self.choose_spec) (ZE e' R2.sh.kept) e';exact zG.inj (e.symm.trans e5)
  subst e3;exact u _ _ (l.t3 i b).1 (B _ _ e' e (l.t3 i b).2.2)
 let ev:∀ c,Zi a m c->Zi (a.push I 0) ⟨m.ts++[Vj [(g,g)]],m.lv,a6,Ww (Yy m.ts.length m.ho) m.ts.length⟩ c:=λc v=>by
  let⟨v1,v2,v3,v4,v5,v6,v7⟩:=v;exact⟨v1,v2,v3,v4,v5,v6,λi b=>by rw[(t i b).2.2.1,(t i b).1];exact v7 i b⟩
 let kA:∀ c o,Zi a m c->H1 c=some o->R c=some o:=λc o v e=>by
  let⟨v1,v2,v3,v4,v5,v6,v7⟩:=v;let Y:=g2 _ _ e;refine u c o v6 (a4 c o v2 (λy=>Za Y nx (y.trans i9)) (λj q=>?_) (fr c o v1 v2 Y));by_cases z:j=m.ts.length
  ·subst z;exact λy=>Za Y c4 (y.trans c6)
  ·exact λy=>(v7 j (VJ q z)).2 (y.trans (t j (VJ q z)).1)
 refine⟨_,Z,k R (a.push I 0) ⟨m.ts++[Vj [(g,g)]],m.lv,a6,Ww (Yy m.ts.length m.ho) m.ts.length⟩ _ (λc o e v=>⟨ev c v,λn=>kA c o v (s1 _ _ e n)⟩) (OM W1 λo e=>kA p o (O.av l a0) e) ⟨⟨_,ls,U6,c3⟩,⟨Y6,?_⟩,⟨i5,J _ _ l.dd.2.1 (by intro _ _ _ z;cases z) (by intro _ z;cases z) i2,hH.1,λi b=>?_⟩,⟨e8,G3.frame c9 (u _ _ l.tt.2.1.symm (B _ _ ?_ G3.at_ λj q=>(l.t2 j q).2.2))⟩,?_,l.dd,l.tt,λi b=>?_,λi b=>?_,l.l64,?_⟩ ⟨O.lk,O.gl,O.tl,λi b=>?_⟩ Z Z (by simp) (Lo λi b=>?_)⟩
 ·refine⟨a3.dict,U6.vl,a3.keys,?_,λi b=>?_⟩
  ·show (a.bs++[0]).length=(m.ts++[_]).length;rw[yZ,yZ,U.len];rfl
  ·let⟨c8,us,q1,q2,q3,q4,q5⟩:=a3.tw i b;let e1:(a.push I 0).bs.getD i 0=a.bs.getD i 0:=(t i b).2.2.2;let Y:gd (m.ts++[Vj [(g,g)]]) i=gd m.ts i:=QC (l.lt b);exists c8,us,q1,?_,?_,?_
   ·rw[e1,Y];exact q2
   ·rw[e1];exact q3
   ·rw[Y];exact q4
   ·rw[Y];exact q5
 ·have:=l.lt b;rw[hH.2 i b];show some (V.int (m.ho i:Nat))=some (V.int ((Ww (Yy m.ts.length m.ho) m.ts.length i:Nat):Int));rw[Kr,aP ∅]
 ·let⟨l6,G2⟩:=S2.gr;let e5:=fr _ _ (ZE G2.at_ R2.sh.self.choose_spec) (ZE G2.at_ R2.sh.kept) G2.at_;let e6:=zG.inj (e5.symm.trans G3.at_);rw[<-e6];exact G2.at_
 ·show R a.tl=some (.lst (iN (zV (m.ts++[_]).length)));rw[yZ];exact c7
 ·rw[(t i b).1,(t i b).2.1];exact l.t2 i b
 ·let⟨t1,t2,t3⟩:=l.t3 i b;rw[(t i b).2.2.2];exact⟨t1,t2,λj q=>by rw[(t j q).1];exact t3 j q⟩
 ·show (m.ts++[_]).length<=700;rw[yZ];exact(show m.ts.length+1<=700 by lia)
 ·rw[(t i b).1,(t i b).2.1,(t i b).2.2.2];exact O.tw i b
 ·have:=l.lt b
  lia
def Ud.get{H:Hp}{o:jP}{v:V}(h:Ud H o v)(e:o.isSome=true):ZG H (o.getD (.int 0)) v/\(o.getD (.int 0)).fits 3=true:=by
 cases h with
 | key a b=>exact⟨a,b⟩
 | tru=>cases e
 | non=>cases e
def Ew{a:jG}(h:QJ a=true){i:Nat}(b:i<a.length):(a.getD i (none,none)).1.isSome=true/\(a.getD i (none,none)).2.isSome=true:=by
 have:=zN.mp h (a.getD i (none,none)) (by rw[zT,zU b];exact xD _)
 rw[zR] at this;exact this
inductive XG:Sp
 |mk{l:aj}{c:je}{b:jG}{H:Hp}{Q:VK}{E:XK}:H l=some (.lst c)->YC H b c->c.length<=100->(X5 b=0->∀ t a,ZD H a->a t=some (.tup [.str "key"])->Q (.ref t) a)->(X5 b=1->∀ t a,ZD H a->a t=some (.tup [.str "leaf"])->Q (.ref t) a)->(X5 b=2->∀ a,ZD H a->Q .non a)->XG [.ref l] H Q E
abbrev CZ:jq:=["_law_rows","_law_row","_law_thing","_law_j"]
def VI:ZB CZ zFe (Zf JK):=YA
inductive GY(l:aj)(rs:jG)(H:Hp):Nat->L2.St->Hp->Prop
 |mk{i:Nat}{x y:jf}:QJ (rs.take i)=true->GY l rs H i [some (.ref l),x,y,none] H
inductive IL(l a:aj)(r:Wg)(H:Hp):Nat->L2.St->Hp->Prop
 |mk{i:Nat}{y:jf}:(1<=i->r.1.isSome=true)->(2<=i->r.2.isSome=true)->IL l a r H i [some (.ref l),some (.ref a),y,none] H
inductive EA(l:aj)(ks:jp)(x y:jf)(H:Hp):Nat->L2.St->Hp->Prop
 |mk{i:Nat}{z:jf}{H2:Hp}:ZD H H2->(∀ j,j<i->(ks.getD j (.int 0)).lt (ks.getD (j+1) (.int 0))=true)->EA l ks x y H i [some (.ref l),x,y,z] H2
def ZIC(F:Zn K "_law_rows_due" "_law_rows_due" JK f fd)(T:YY mg)(DS:ZC P w K mg jX 7 "_law_less" zEr Yi):ZH P w K mg jX Zd 8 f fd zFe XG:=by
 refine F.ko VI λa6 A a4 s H vs Q E hr h=>?_;let⟨U,J,a5,k0,k1,k2⟩:=h;rename_i l d c
 let nd:=VI.nd;let ll:=J.len;intro Xc;refine⟨_,ZP (VM PassesOwn.never rfl (VN (pv 0)) (Yc 1 nd)
   (ZV (VM PassesOwn.never rfl (Lx (pv 1)) (Yc 2 nd)
    (ZV (Zo (PW.pt (Vh (Qq (Mm (pv 2))) (Up (YU (Zq Xs rfl T.isi Yx (Ze (pv 2) (Xi (v:=.ty "bool") rfl T.bool P2 rfl))))))) (ZV (Zl (Yg (ZT Yk)))) Zt)))))
  (ZP (Zo (Xj (Mo QE QE ZJ (Zq WK rfl T.len Xu (ZT (pv 0))) ZJ)) (ZV (Zl (Yg (ZT Yk)))) Zt)
  (ZP (VM PassesOwn.never rfl (N7 rfl T.range (Ze ZJ (Zq WK rfl T.len Xu (ZT (pv 0))))) (Yc 3 nd)
   (ZV (Zo (Xj (YU (Zr DS hr (Ze (Zs K (Zs K (pv 0) (Z1 Ql (pv 3) ZJ)) ZJ) (Zs K (Zs K (pv 0) (pv 3)) ZJ))))) (ZV (Zl (Yg (ZT Yk)))) Zt)))
  (ZV (Zl P1)))),?_⟩
 let a2:∀(i:Nat)(I:i<c.length)(t:aj),H t=none->((c.getD i (none,none)).1.isSome&&(c.getD i (none,none)).2.isSome)=false->Q (.ref t) (upd H t (.tup [.str "key"])):=λi I t k z=>by
  refine k0 ?_ t _ (ZX k _) ZO;let er:c[i]? = some (c.getD i (none,none)):=by rw[zT,zU I];rfl
  unfold X5;rw[aP (by rw[K2 er z];exact zS)]
 refine⟨_,Z,l,Z,⟨_,ZM.of U⟩,Qt (K:=K) (a:=l) (xs:=d) (GY l c H) (.mk rfl) (λi M q _ hP=>by let⟨_⟩:=hP;exact ZM.of U) ?_ ?_⟩
 ·rintro i u M q Y ⟨g⟩;let I:i<c.length:=by rw[<-ll];exact(yH.mp Y).1
  let⟨a,R,vv,rfl,e2,h1,h2⟩:=J.at_ i u Y;let er:c[i]? = some (c.getD i (none,none)):=by rw[zT,zU I];rfl
  let G:=a2 i I;generalize c.getD i (none,none)=r at h1 h2 er G;refine⟨_,Z,a,Z,⟨_,Zh.of e2⟩,ZNE (K:=K) (a:=a) (xs:=[R,vv]) (IL l a r H) (.mk (λz=>absurd z nofun) λz=>absurd z nofun) (λi M q _ hP=>by let⟨_,_⟩:=hP;exact Zh.of e2) ?_ ?_⟩
  ·rintro j v M q L ⟨O,q2⟩;obtain⟨o,ho,z1,z2⟩:∃ o:jP,Ud H o v/\(o.isSome=false->(r.1.isSome&&r.2.isSome)=false)/\(o.isSome=true->(1<=j+1->r.1.isSome=true)/\(2<=j+1->r.2.isSome=true)):=by
    match j,L,O,q2 with
    | 0,L,O,q2=>
     cases L;exact⟨r.1,h1,λz=>by rw[z];rfl,λz=>⟨λ_=>z,λy=>absurd y nofun⟩⟩
    | 1,L,O,q2=>
     cases L;exact⟨r.2,h2,λz=>by rw[z,Bool.and_false],λz=>⟨λ_=>O nofun,λ_=>z⟩⟩
    | j+2,L,_,_=>simp at L
   let a1:∀ t:aj,H t=none->o.isSome=false->Q (.ref t) (upd H t (.tup [.str "key"])):=λt k z=>G t k (z1 z);let N:o.isSome=true->IL l a r H (j+1) [some (.ref l),some (.ref a),some v,none] H:=λz=>.mk (z2 z).1 (z2 z).2
   cases ho with
   | key hk hf=>
    rename_i kt
    let nn':decide (v=.non)=false:=aM λz=>by
     subst z;cases kt <;> simp[ZG] at hk
    let kb:yW K kt.ty (.type "bool")=some false:=by
     cases kt
     ·exact NW
     ·exact G0
     ·exact FH
    exists _,Z,_,Z;rw[nn'];exact Zm ⟨_,Z,_,_,_,_,Z,hk.ty,kb,_,Z,Zm (N rfl)⟩
   | tru=>exact⟨_,Z,_,Z,Zm ⟨_,Z,_,_,_,_,Z,.bl true,Ib,_,Z,Z3 ⟨Zu,λt k=>a1 t k Z⟩⟩⟩
   | non=>exact⟨_,Z,_,Z,Z3 (Z3 ⟨Zu,λt k=>a1 t k rfl⟩)⟩
  ·rintro M q ⟨O,q2⟩;refine .mk ?_;rw[yI,er];unfold QJ at g⊢;rw[tS,g];show (true&&((r.1.isSome&&r.2.isSome)&&true))=true;rw[O (by simp),q2 (by simp)]
   rfl
 rintro M q ⟨g⟩;rename_i x y
 rw[ll,yF (zY _)] at g;let N:¬ (1<=c.length/\c.length<=4/\QO ((c.map Ws).map (·.1))=true)->X5 c=1:=λz=>by unfold X5;rw[aQ g,aP z]
 let p:∀(q:Hp)(t:aj),X5 c=1->ZD H q->q t=none->Q (.ref t) (upd q t (.tup [.str "leaf"])):=λq t e s2 k=>k1 e t _ (s2.trans (ZX k _)) ZO;exists _,Z,l,d,Z,.inl (ZM.of U),_,_,Z,Z,_,Z;rcases yV d.length 1 with c2 | c2
 ·rw[aM (show ¬ (1:Int)<=(d.length:Int) from nofun)]
  exact Zm ⟨_,Z,Z3 ⟨Zu,λt k=>p H t (N nofun) (ZD.refl H) k⟩⟩
 rw[aO (show (1:Int)<=(d.length:Int) from nofun)]
 refine Z3 ⟨_,_,Z,Z,_,Z,?_⟩;rcases yV 4 d.length with c4 | c4
 ·rw[aM (show ¬ (d.length:Int)<=4 from nofun)]
  exact Z3 ⟨Zu,λt k=>p H t (N nofun) (ZD.refl H) k⟩
 rw[aO (show (d.length:Int)<=4 from nofun)]
 refine Zm ?_;exists _,Z,l,d,Z,.inl (ZM.of U),1,(d.length:Int),Z,⟨nofun,nofun,nofun,nofun⟩
 obtain⟨B,C⟩:∃ B:jp,(c.map Ws).map (·.1)=B:=⟨_,Z⟩;rw[C] at N;let a7:B.length=c.length:=by rw[<-C,zX,zX]
 let a0:∀ i,i<d.length->∃(a:aj)(R vv:V),d[i]? = some (.ref a)/\H a=some (.tup [R,vv])/\ZG H (B.getD i (.int 0)) R/\(B.getD i (.int 0)).fits 3=true:=λi I=>by
  let Y:d[i]? = some d[i]:=zU I;let⟨a,R,vv,e1,e2,h1,h2⟩:=J.at_ i _ Y;let S:i<c.length:=nofun
  let⟨k',f'⟩:=h1.get (Ew g S).1;let e3:B.getD i (.int 0)=(c.getD i (none,none)).1.getD (.int 0):=by
   rw[<-C,zT,zH,zH,zT,zU S];rfl
  rw[e3];exact⟨a,R,vv,by rw[Y,e1],e2,k',f'⟩
 refine Pv (lo:=1) (n:=((d.length:Int)-1).toNat) (EA l B x y H) (.mk (ZD.refl H) λj hj=>absurd hj nofun) ?_ ?_
 ·rintro i M H4 I ⟨D,m⟩;let a3:i+1<d.length:=nofun
  let e1:(1:Int)+(i:Int)=((i+1:Nat):Int):=nofun
  let e0:(1:Int)+(i:Int)-1=((i:Nat):Int):=nofun
  let⟨a,ak,av,ua,ta,ka,fa⟩:=a0 i nofun
  let⟨b,bk,bv,ub,tb,kb,fb⟩:=a0 (i+1) a3;let X:=D _ _ U;refine⟨_,Z,_,Z,_,_,Z,Z,.inl ⟨l,d,_,.ref a,Z,Z,ZM.of X,by rw[e0];exact X1 ua,.inr (.inl ⟨a,_,0,_,rfl,rfl,Zh.of (D _ _ ta),rfl,?_⟩)⟩⟩
  refine⟨_,Z,_,Z,.inl ⟨l,d,_,.ref b,Z,Z,ZM.of X,by rw[e1];exact X1 ub,.inr (.inl ⟨b,_,0,_,rfl,rfl,Zh.of (D _ _ tb),rfl,?_⟩)⟩⟩
  refine⟨ak,bk,_,_,Z,ka.sm D,kb.sm D,fa,fb,λH5 s5=>⟨_,Z,?_⟩⟩
  cases hc:(B.getD i (.int 0)).lt (B.getD (i+1) (.int 0)) with
  | false=>
   refine Z3 ⟨Zu,λt k=>p H5 t (N λz=>?_) (D.trans s5) k⟩;have:=z.2.2;unfold QO at this;rw[xS,zN] at this;have:=this i (yC.mpr nofun)
   rw[Function.comp_apply,hc] at this;cases this
  | true=>
   refine Zm (.mk (D.trans s5) λj hj=>?_);rcases yV j i with z | z
   ·exact m j z
   ·have:j=i:=nofun
    subst this;exact hc
 ·rintro M H4 ⟨D,m⟩;refine k2 ?_ H4 D;let hc:QO B=true:=by
   unfold QO;rw[xS,zN];exact λj hj=>m j (by have:=yC.mp hj;lia (splits:=8))
  unfold X5;rw[aQ g,C,aQ ⟨nofun,nofun,hc⟩]
def Dn{f:Sp}{g:TE}{i:TA}{a b rest:TS}{D:Yf}{d:L2.St}{H:Hp}(h:g d H λx j=>i d j λl k=>f ((x::l)++[]) k (λv e=>∃ c,v=.bl c/\if (!c)=true then a { D with nx:=rest D } d e else b { D with nx:=rest D } d e) E0):Hh (Ga (Fh (tB (OI f [] E0 (Z9 g i)))) a b) rest D d H:=h
def Pw{b:Sp}{c:TE}{d:TA}{D:Yf}{a:L2.St}{H:Hp}(h:c a H λx e=>d a e λg f=>b ((x::g)++[]) f D.rt E0):Hu (OI b [] E0 (Z9 c d)) D a H:=h
def M6{i:Nat}{v:V}{a:L2.St}{H:Hp}{Q:L2.St->Hp->Prop}(h:Q (a.set i (some v)) H):U0 i v a H Q:=h
def OF{a b c:L2.St->Hp->Prop}{r:VK}{d:L2.St}{H:Hp}(h:a d H):Yf.nx ⟨a,r,b,c⟩ d H:=h
def KD{D:Yf}{a:L2.St}{H:Hp}(h:D.nx a H):FP D a H:=h
def MK(a b:V):TE:=GL (Z9 (tC a) (Z9 (tC b) Y0))
def Dy(K:zZ):TE:=Q0 (Pc K) (VF (Z9 (VF Y0) (Z9 (VF (Z9 (MK (.bl true) (.int 1)) Y0)) (Z9 (VF (Z9 (MK (.int 1) .non) Y0)) (Z9 (VF (Z9 (MK (.int 2) (.int 2)) (Z9 (MK (.int 1) (.int 1)) Y0))) Y0))))) (OI YK [] E0 (Z9 (Y7 0) (Z9 (tC (.int 4)) Y0)))
def P8{X:Cx}{c d:Const}{a b:V}{j k x:Nat}{p q r:aK}(e:PE X (.Constant c j p) (tC a))(f:PE X (.Constant d k q) (tC b)):PE X (.Tuple [.Constant c j p,.Constant d k q] x r) (MK a b):=Yg (Vo e (ZT f rfl) Z)
def LL{X:Cx}{a:jx}{x:Nat}{t:TE}{p q:aK}(h:PE X (.Tuple a x p) t):PE X (.List [.Tuple a x p] q) (VF (Z9 t Y0)):=Yp (ZT h Z)
def HH{X:Cx}{a b:jx}{x y:Nat}{t u:TE}{p q r:aK}(h:PE X (.Tuple a x p) t)(g:PE X (.Tuple b y q) u):PE X (.List [.Tuple a x p,.Tuple b y q] r) (VF (Z9 t (Z9 u Y0))):=Yp (Vo h (ZT g rfl) Z)
def Lz{X:Cx}{a b c d:jx}{e f g h p:aK}{j k l m t:TE}{i:Expr}{q:aK}(n:PE X (.List a e) j)(o:PE X (.List b f) k)(r:PE X (.List c g) l)(s:PE X (.List d h) m)(u:PE X i t)(v:MS i):PE X (.Subscript (.List [.List a e,.List b f,.List c g,.List d h] p) i q) (Q0 (Pc X.K) (VF (Z9 j (Z9 k (Z9 l (Z9 m Y0))))) t):=
 UZ Ip (Yp (Pu n o r s rfl)) u v
def FS{X:Cx}{p:aK}:PE X (.List [] p) (VF Y0):=Yp Zw
inductive QL(H:Hp)(l:aj)(a:jG):Prop
 |mk{b:je}:H l=some (.lst b)->YC H a b->b.length<=2->X5 a<2->QL H l a
def GR{K:zZ}{σ:L2.St}{H:Hp}{p:aj}{Q:VK}(a0:σ[0]? = some (some (.ref p)))(W:ZN H p)(k:∀ (d:Hp) (l:aj) (C:jG),ZF p H d->ZN d p->H l=none->QL d l C->Q (.ref l) d):Dy K σ H Q:=by
 exists Zu;intro f n1;let y:=ZX n1 (.lst []);refine⟨Zu,λt n2=>⟨Zu,λg n3=>?_⟩⟩;let A:=ZX n2 (.tup [.bl true,.int 1]);let M:=ZX n3 (.lst [.ref t]);refine⟨Zu,λu n4=>⟨Zu,λi n5=>?_⟩⟩;let N:=ZX n4 (.tup [.int 1,.non]);let X:=ZX n5 (.lst [.ref u]);refine⟨Zu,λv n6=>⟨Zu,λw n7=>⟨Zu,λj n8=>⟨Zu,λP n9=>?_⟩⟩⟩⟩;let Y:=ZX n6 (.tup [.int 2,.int 2]);let g7:=ZX n7 (.tup [.int 1,.int 1]);let g8:=ZX n8 (.lst [.ref v,.ref w]);let g9:=ZX n9 (.lst [.ref f,.ref g,.ref i,.ref j]);let e9:=ZO (H:=upd (upd (upd (upd (upd (upd (upd (upd H f (.lst [])) t (.tup [.bl true,.int 1])) g (.lst [.ref t])) u (.tup [.int 1,.non])) i (.lst [.ref u])) v (.tup [.int 2,.int 2])) w (.tup [.int 1,.int 1])) j (.lst [.ref v,.ref w])) (a:=P) (o:=.lst [.ref f,.ref g,.ref i,.ref j]);let L:=g8.trans g9;let J:=g7.trans L;let I:=Y.trans J;let G:=X.trans I;let F:=N.trans G;let E:=M.trans F;let D:=A.trans E;let m:=y.trans D;let S:=D _ _ ZO;let T:=E _ _ ZO;let e3:=F _ _ ZO;let e4:=G _ _ ZO;let e5:=I _ _ ZO;let e6:=J _ _ ZO;let e7:=L _ _ ZO;let e8:=g9 _ _ ZO;let f3:=y.free (A.free n3);let f5:=y.free (A.free (M.free (N.free n5)));let f8:=y.free (A.free (M.free (N.free (X.free (Y.free (g7.free n8))))));let f9:=y.free (A.free (M.free (N.free (X.free (Y.free (g7.free (g8.free n9)))))));generalize upd (upd (upd (upd (upd (upd (upd (upd (upd H f (.lst [])) t (.tup [.bl true,.int 1])) g (.lst [.ref t])) u (.tup [.int 1,.non])) i (.lst [.ref u])) v (.tup [.int 2,.int 2])) w (.tup [.int 1,.int 1])) j (.lst [.ref v,.ref w])) P (.lst [.ref f,.ref g,.ref i,.ref j])=H9 at *;let⟨xs,hp⟩:=W.some;exists _,a0,p,4,Z,W.same m,Wh (by decide) (by decide)
 intro r d r0 r1 W' s';let x:=(ZF.of m).trans s';let B:∀ c,H c=none->c≠p:=λc e=>(Za hp e).symm;let s:∀ c o,H9 c=some o->c≠p->d c=some o:=λc o e n=>s' c o e n;let R:∀ c xs,H9 c=some (.tup xs)->d c=some (.tup xs):=λc a1 e=>s c _ e (ZE e (m _ _ hp));let U:∀ n:Int,n=1\/n=2->(KT.int n).fits 3=true:=λn h=>by rcases h with rfl | rfl <;> decide +kernel
 let q:∀ n:Int,n=1\/n=2->Ud d (some (.int n)) (.int n):=λn h=>.key (.int n) (U n h);let h9:=s _ _ e9 (B _ f9);let O:∀(n:Nat)(l:aj)(C:jG),r=(n:Int)->[V.ref f,.ref g,.ref i,.ref j][n]? = some (.ref l)->H l=none->QL d l C->Pc K (.ref P) (.int r) d Q:=λn l C S T nl b=>.inl ⟨P,_,r,.ref l,Z,Z,ZM.of h9,by rw[S];exact X1 T,k d l C x W' nl b⟩
 let c:r=0\/r=1\/r=2\/r=3:=∅
 rcases c with z | z | z | z
 ·exact O 0 f [] z Z n1 (.mk (s _ _ S (B _ n1)) .nil (by decide) (by decide +kernel))
 ·exact O 1 g [(none,some (.int 1))] z Z f3 (.mk (s _ _ e3 (B _ f3)) (.one ⟨t,_,_,rfl,R _ _ T,.tru,q 1 (.inl rfl)⟩) (by simp) (by decide +kernel))
 ·exact O 2 i [(some (.int 1),none)] z Z f5 (.mk (s _ _ e5 (B _ f5)) (.one ⟨u,_,_,rfl,R _ _ e4,q 1 (.inl rfl),.non⟩) (by simp) (by decide +kernel))
 ·exact O 3 j [(some (.int 2),some (.int 2)),(some (.int 1),some (.int 1))] z Z f8 (.mk (s _ _ e8 (B _ f8)) (YC.app (rs:=[_]) (us:=[_]) (.one ⟨v,_,_,rfl,R _ _ e6,q 2 (.inr rfl),q 2 (.inr rfl)⟩) (.one ⟨w,_,_,rfl,R _ _ e7,q 1 (.inl rfl),q 1 (.inl rfl)⟩)) (by simp) (by decide +kernel))
end Tw
namespace L2
open PySem PySem.Spec PyProof.Rows
section
variable{M:Model}{B:aD}{env:Env}{outer l:jA}{L e:aj}{cls:ai}{od:jv}{Q:Unit->al->Prop}
def ZK8{G:ai}(x:Xd B l e cls od G s.heap)(h:∀ j,Xd B l e cls od (rawInt L) j->s.heap.UpToSlots j->Q () { s with heap:=j }):aB M A (setFlight (.ref e) (some L)) Q E s:=by
 let⟨I,D,F,H,K,T,O,u,⟨r,w,y,p,v⟩,k,m,i,g,J,C⟩:=x;let t:3<u.size:=(wO.mp J).1;let a:∀ b,b≠T->(s.heap.update T (Obj.mapFields (·.setIfInBounds 3 ((some L:jv).elim Value.none λf=>rawInt f)))).get? b=s.heap.get? b:=λb n=>yD _ _ n.symm;let c:∀ b o,s.heap.get? b=some o->(∀ N,o.data≠.fields N)->b≠T:=λb o q d z=>by
  rw[z,i] at q;cases q;exact d u g
 unfold setFlight;refine aa (wpAny_field r p v ?_);rw[aQ (show (Value.ref T != Value.none)=true by simp)]
 refine wpAny_setField i g t (h _ ⟨λb o q=>(a b λz=>by rw[z,k] at q;cases q).trans (I b o q),D,F.of_keeps λb o q d=>⟨o,(a b (c b o q d)).trans q,Z⟩,?_⟩ λb o q d=>⟨o.slots,(a b (c b o q d)).trans q⟩)
 exact⟨H,K,T,_,_,⟨(a e m.symm).trans r,w,y,p,v⟩,k,m,wV _ i (Obj.isFreed_of_fields (Obj.data_mapFields g _)),Obj.data_mapFields g _,by simp[t],C⟩
def ZK6{g:ai}{m:Type}{b:String}{R:m->al->Prop}(d:env.frame=some L)(x:Xd B l e cls od g s.heap)(h:∀ a,Xd B l e cls od (rawInt L) a->s.heap.UpToSlots a->E (.ref e) { s with heap:=a }):aB M A (PySem.passOn b (.ref e) env) R E s:=by
 let⟨_,_,_,q,t,T,p,r,⟨i,n,o,c,k⟩,_⟩:=id x;unfold PySem.passOn;refine aa (wpAny_field i c k ?_);rw[aP (show ¬ ((Value.ref T==Value.none)=true) by simp)]
 rw[d];exact aa (ZK8 x λa f j=>wpAny_throw (h a f j))
def Dd(d:env.frame=some L)(x:Xd B (env::outer) e cls od (rawInt L) s.heap)(h:∀ a,Xd B outer e cls od .none a->s.heap.UpToSlots a->Q () { s with heap:=a }):aB M A (leaving env (.ref e)) Q E s:=by
 unfold leaving;refine aa ?_;let⟨z,u,v,y,D,T,w,C,⟨i,q,r,c,n⟩,o,p,g,b,k,t⟩:=id x;unfold noteFrame;simp only[d];refine aa (wpAny_field i c n ?_);rw[aQ (show (Value.ref T != Value.none)=true by simp)]
 refine aa (wpAny_field g b k ?_);rw[aQ (show (rawInt L==rawInt L)=true by simp[rawInt])]
 refine ad ?_;exact Qn x λj f m=>h j f.less m
end
def FR(K:zZ)(c:aj)(e:TS)(E:XK)(D:Yf)(f:St):XK:=λcls d a=>∃ C b,cls=.ref C/\zE K C (.ref c)=some b/\(b=true->e D f a)/\(b=false->E cls d a)
inductive On(K:zZ)(e C:aj)(m:Str)(i:Sp)(E:XK)(t:TA)(j:TS)(D:Yf)(b:L2.St)(x:V)(c:Hp):Prop
 |mk(a h d:_)(_:x=.ref a)(_:c a=some (.ins C h d))(_:d.lookup m=none)(_:t b c λk f=>i (x::(k++[])) f (λ_ g=>D.nx b g) (FR K e j E D b))
def ZPJ(K:zZ)(b C:aj)(m:Str)(d:Sp)(E:XK)(e:TE)(t:TA)(f:TS):TS:=λD a H=>e a H λx c=>On K b C m d E t f D a x c
def ZF7{X:Cx}{E:XK}{k:Nat}{f C CB:aj}{fd:ao}{ps:jq}{sp:Sp}{m y:Str}{jj ji epos py ph pos:aK}{o e:Expr}{es:jx}{ta:TE}{t:TA}{b₀:aC}{suite:jL}{ts:TS}{pl:Sem Bool}(G:Vd X E)(he:∀ E',PE (X.wish E') o ta)(c:Vk X.K C)(hm:UL X.K C m f)(F:ZH X.prog X.w X.K X.mg X.base (Zg X.prog X.w) k f fd ps sp)(hr:Zc k X.A)(hb:YB X.K fd ps [])(ha:∀ E',PA (X.wish E') (e::es) t)(hy:Gl X y)(hyC:X.mg y=some (.ref CB))(ht:yM X.K (.ref CB)=some (.type "type"))(hB:zE X.K CB (.type "BaseException")=some true)(hs:∀ N E',Wf (X.held N E') (b₀::suite) ts)(hdy:(y==("__debug__" : Str))=false:=by decide)(hse:ar (e::es) X.env=(false,aI e X.env)::ar es X.env:=by rfl)(hpl:(aG ji (ar es X.env)).any (·.1)=false:=by rfl)(hev:aI (.Call (.Attribute o m jj) (e::es) [] ji) X.env=(do
   let ov<-aI o X.env
   standAt jj.atName
   let (f,first)<-holding [ov] (getMethod ov m pl)
   callWith ji f first (aG ji (ar (e::es) X.env)) (backToKw ji (keywordEach [] X.env))):=by rfl)(hsw:aF (.Call (.Attribute o m jj) (e::es) [] ji) none epos.line X.env=pure false:=by rfl):
  PS X (.Try [.Expr (.Call (.Attribute o m jj) (e::es) [] ji) epos] [.ExceptHandler (some (.Name y py)) none (b₀::suite) ph] [] [] pos) (ZPJ X.K CB C m sp E ta t ts):=by
 intro d s σ H D I h;refine wpAny_Try_except ?_;let a3:=G.stack;let R:=G.frame;let a6:X.A.frames=some (X.env::X.outer):=by rw[I.ok.frames,a3]
 let U:∀(H1:Hp)(s1:al)(j:ai)(i:al),ZI X d σ H1 s1->Zg X.prog X.w X.stack H1 s1 (FR X.K CB ts E D σ) j i ->
   aB (aA X.prog X.w) X.A (noteFrame j X.env) (λ_ n=>aB (aA X.prog X.w) X.A (setFlight j none) (λ_ p=>aB (aA X.prog X.w) X.A (handleBy j X.env [.ExceptHandler (some (.Name y py)) none (b₀::suite) ph]) (SP X d D) X.xe p) X.xe n) X.xe i:=by
  intro H1 s1 j i L hx;let⟨N,cls,od,H',rfl,W,C,b,rfl,mC,q⟩:=hx;let⟨B,fl,Z2,T,S⟩:=W.ex;let a4:Xd B (X.env::X.outer) N (.ref C) od .none i.heap:=by rw[<-a3];exact fl
  refine No a6 R a4 λh4 Q a0=>?_;refine Qn (s:={ i with heap:=h4 }) Q λh5 M a1=>?_;let J5:ZI X d σ H' { i with heap:=h5 }:=NL L W Z2 T S M.1 (a0.trans a1);refine wpAny_handleBy_cons (codeAny_handlers_test ?_) (by intro q;cases q)
  refine Q1 (J5.held N (λ_ _=>False)) hy hyC ?_ hdy;refine Kh (s:={ i with heap:=h5 }) J5.kIn M.at.is ht hB mC ?_
  cases b with
  | false=>
   refine wpAny_handleBy_nil (ZK6 R M λh6 fl6 a2=>?_);exact G.xe _ _ (Dd R fl6 λh7 a5 a7=>EQ (s':=i) (h2:=h7) G L W Z2 T S a5 (((a0.trans a1).trans a2).trans a7) (q.2 Z))
  | true=>
  let q:=q.1 Z;refine codeAny_handlers_suite ?_;refine Qn (s:={ i with heap:=h5 }) M λh6 fl6 a2=>?_;let J6:ZI X d σ H' { i with heap:=h6 }:=NL L W Z2 T S fl6.1 ((a0.trans a1).trans a2);refine ae (hs N _ d _ _ _ _ (J6.held N _) q) (λfl s8 h8=>?_) λ_ _ z=>z
  cases fl with
  | next=>
   let⟨g,O,P,Y⟩:=h8;exact⟨g,O,P.unheld L.ok,Y⟩
  | brk=>
   let⟨g,O,P,Y⟩:=h8;exact⟨g,O,P.unheld L.ok,Y⟩
  | cont=>
   let⟨g,O,P,Y⟩:=h8;exact⟨g,O,P.unheld L.ok,Y⟩
  | ret u=>
   let⟨v8,g,O,P,r8,Y⟩:=h8;exact⟨v8,g,O,P.unheld L.ok,r8,Y⟩
 let I':=I.wish (λj i=>aB (aA X.prog X.w) X.A (noteFrame j X.env) (λ_ n=>aB (aA X.prog X.w) X.A (setFlight j none) (λ_ p=>aB (aA X.prog X.w) X.A (handleBy j X.env [.ExceptHandler (some (.Name y py)) none (b₀::suite) ph]) (SP X d D) X.xe p) X.xe n) X.xe i);refine wpAny_execs_cons (wpAny_Expr_any ?_ I.quiet hsw);refine uA (pl:=pl) (Z5 (he _ d s σ H _ I' h) λu s1 ⟨x,H1,L,rx,a,dx,fs,ex,N,l,q⟩=>?_) hev;subst ex;obtain rfl:u=Value.ref a:=rx;refine Ll L.unwish N c hm l ?_;refine wI (first:=[.ref a]) (h₀:=X.base) I.ok.mod.kin hm.kp (YO (ha _ ji d s1 σ H1 _ L q) λus s2 vs H2 I2 r q2=>⟨I2.kIn,?_⟩) hse hpl
 let r2:ZR (V.ref a::(vs++[])) (Value.ref a::(us++[])):=.cons Z (r.append .nil);let hl:(Value.ref a::us++[]).length=ps.length:=by rw[show Value.ref a::us++[]=Value.ref a::(us++[]) from rfl,<-r2.length];exact F.len _ _ _ _ q2
 refine wpAny_call (codeAny_mono (F.run X.A X.stack s2 H2 ⟨.ref a::us,[]⟩ (.ref a::us++[]) (.ref a::(vs++[])) _ _ hr I2.unwish.env0 (hb s2 (.ref a::us) I2.kIn hl) r2 q2) λrr i hq=>?_)
 cases rr with
 | error j=>exact U H2 s2 j i I2.unwish hq
 | ok fl=>
  cases fl with
  | ret u=>
   let⟨v,H3,J,rv,q3⟩:=I2.unwish.after hq;exact wpAny_execs_nil (wpAny_execs_nil ⟨σ,H3,J,q3⟩)
  | next=>exact False.elim hq
  | brk=>exact False.elim hq
  | cont=>exact False.elim hq
end L2
namespace Tw
open PySem PySem.Spec L2 PyProof.Rows
variable{jg jh CS CT CH CK CP CB:aj}
abbrev Jw:Stmt:=Xy (top 35) 10
abbrev Kk:Stmt:=Xy (top 35) 11
abbrev IO:Stmt:=Xy (top 35) 14
abbrev Rf:=Nat×Option Int
def IE(C:Nat->aj)(r:Rf)(E:XK)(H:Hp):Prop:=match r.2 with
 | none=>∀ a,ZD H a->E (.ref (C r.1)) none a
 | some x=>VH (C r.1) x E H
section
variable{jg jh CT CD:aj}{C:Nat->aj}
inductive YH(jg CT:aj):Sp
 |mk{S d b:aj}{n:Nat}{a:List (ZW×V)}{c:je}{x:Int}{H:Hp}{Q:VK}{E:XK}:Yw jg H S d b n a c->YR a (.inl x)=none->VH CT x E H->YH jg CT [.ref S,.int x] H Q E
def Cy(F:Zn K "hold" "Shelf.hold" JF f fd)(L:YT K mg jg jh)(c:ZA P w K mg jX (Zg P w) 3 jg "twig_of" zEa (Zy jg CT)):ZH P w K mg jX (Zg P w) 4 f fd zEa (YH jg CT):=by
 refine F.kD QN λd A a s H n Q E j h=>?_;let⟨R,l,k⟩:=h;let⟨e,g⟩:=R.self;exact⟨_,ZP (V3 (i:=2) QN.nd rfl (Or.inl rfl) (YL (E:=E) (pv 0) L.cS c j (Yv Yl λ_ _ _ h=>h) (ZT (pv 1)))) Xa,_,Z,_,e,_,Z,g,Z,_,Z,_,_,_,_,_,_,_,Z,R,λm b=>(by rw[l] at b;cases b),λ_=>k⟩
def Bz(F:Zn K "holders" "Shelf.holders" Ms f fd)(L:YT K mg jg jh)(c:ZA P w K mg jX (Zg P w) 3 jg "twig_of" zEa (Zy jg CT)):ZH P w K mg jX (Zg P w) 4 f fd zEa (YH jg CT):=by
 refine F.kD XR λd A a s H n Q E j h=>?_;let⟨R,l,k⟩:=h;let⟨e,g⟩:=R.self;exact⟨_,ZP (V3 (i:=2) XR.nd rfl (Or.inl rfl) (YL (E:=E) (pv 0) L.cS c j (Yv Yl λ_ _ _ h=>h) (ZT (pv 1)))) Xa,_,Z,_,e,_,Z,g,Z,_,Z,_,_,_,_,_,_,_,Z,R,λm b=>(by rw[l] at b;cases b),λ_=>k⟩
def Ad(F:Zn K "look" "Shelf.look" Mg f fd)(L:YT K mg jg jh)(c:ZA P w K mg jX (Zg P w) 3 jg "twig_of" zEa (Zy jg CT)):ZH P w K mg jX (Zg P w) 4 f fd zEa (YH jg CT):=by
 refine F.kD VX λd A a s H n Q E j h=>?_;let⟨R,l,k⟩:=h;let⟨e,g⟩:=R.self;exact⟨_,ZP (V3 (i:=2) VX.nd rfl (Or.inl rfl) (YL (E:=E) (pv 0) L.cS c j (Yv Yl λ_ _ _ h=>h) (ZT (pv 1)))) Xa,_,Z,_,e,_,Z,g,Z,_,Z,_,_,_,_,_,_,_,Z,R,λm b=>(by rw[l] at b;cases b),λ_=>k⟩
def ZGF(F:Zn K "outside" "Shelf.outside" LJ f fd)(L:YT K mg jg jh)(c:ZA P w K mg jX (Zg P w) 3 jg "twig_of" zEa (Zy jg CT)):ZH P w K mg jX (Zg P w) 4 f fd zEa (YH jg CT):=by
 refine F.kD F0 λd A a s H m Q E i h=>?_;let⟨R,j,k⟩:=h;let⟨e,g⟩:=R.self;exact⟨_,ZV (Zl (WC (YL (E:=E) (pv 0) L.cS c i (Yv Yl λ_ _ _ h=>h) (ZT (pv 1))) rfl)),_,Z,_,e,_,Z,g,Z,_,Z,_,_,_,_,_,_,_,Z,R,λl b=>(by rw[j] at b;cases b),λ_=>k⟩
def ZKx(F:Zn K "road_up" "Shelf.road_up" Ma f fd)(L:YT K mg jg jh)(i:ZA P w K mg jX (Zg P w) 4 jg "holders" zEa (YH jg CT)):ZH P w K mg jX (Zg P w) 5 f fd zEa (YH jg CT):=by
 refine F.kD Va λl A a s H J Q E q h=>?_;let⟨R,t,k⟩:=h;rename_i S d G n u I x
 let v:=Va.nd;intro D;refine⟨_,ZP (Zx 2 v (Yp (ZT (pv 1)))) (ZV (N2 NZ (YU Vw)
  (ZP (Zo (YI PQ (YL (E:=E) (pv 0) L.cS i q (Yv Yl λ_ _ _ h=>h) (ZT (Zs K (pv 2) (Q6 Pi ZJ)))) ZJ (Zz _)) Xa Zt) Xa))),?_⟩
 exists _,Z,Zu;intro r y;let g:=ZX y (.lst [.int x]);let⟨⟨b,c⟩,o,p⟩:=R;exists λm e j=>e=[some (.ref S),some (.int x),some (.ref r),none]/\j=upd H r (.lst [.int x]),⟨0,Z,Z⟩;rintro m e B ⟨rfl,rfl⟩;refine⟨_,Z,Z3 ⟨_,λ_ _ z=>z,?_⟩⟩;exact⟨_,Z,S,b,_,Z,g _ _ c,Z,_,Z,1,Z,.inl ⟨r,_,_,.int x,Z,Z,ZM.of ZO,Z,.mk ⟨⟨b,g _ _ c⟩,g _ _ o,g _ _ p⟩ t (k.mono g)⟩⟩
def Dr(F:Zn K "alone" "Shelf.alone" Lm f fd)(L:YT K mg jg jh)(N:XD K mg CD)(o:zE K CT (.ref CD)=some false)(b:ZA P w K mg jX (Zg P w) 5 jg "road_up" zEa (YH jg CT)):ZH P w K mg jX (Zg P w) 6 f fd zEa (YH jg CT):=by
 refine F.kD FY λj A a s H y Q E q h=>?_;let⟨R,r,k⟩:=h;let⟨x,n,g,c,i⟩:=b.ex;let⟨m,p⟩:=R.self;exact⟨_,ZP (ZF7 (E:=E) Yl (λ_=>pv 0) L.cS g c q i (λ_=>ZT (pv 1)) rfl N.at_ N.ty N.mB (λv u=>ZV (Zl Vw))) Xa,_,Z,_,m,_,Z,p,Z,_,Z,.mk R r λl d t e=>⟨CT,false,Z,o,(λz=>by cases z),λ_=>k l d t e⟩⟩
inductive Vb(jg CT:aj):Sp
 |mk{S l:aj}{x:Int}{H:Hp}{Q:VK}{E:XK}:H l=some (.lst [.int x])->YH jg CT [.ref S,.int x] H Q E->Vb jg CT [.ref S,.ref l] H Q E
def ZIV(F:Zn K "check_held" "Shelf.check_held" Lp f fd)(L:YT K mg jg jh)(j:ZA P w K mg jX (Zg P w) 4 jg "outside" zEa (YH jg CT)):ZH P w K mg jX (Zg P w) 5 f fd zEe (Vb jg CT):=by
 refine F.kD Yh λm A d s H B Q E r h=>?_;let⟨g,h⟩:=h;rename_i S l x
 let p:∀ e,YH jg CT [.ref S,.int x] H e E:=λe=>by
  let⟨R,v,k⟩:=h;exact .mk R v k
 let⟨⟨⟨n,q⟩,_⟩,_,_⟩:=id h;intro y;refine⟨_,ZV (VM NZ rfl (VN (pv 1)) (Qr (i:=2) Yh.nd rfl (Or.inl rfl))
  (ZV (Zo (YI Y1 (YL (E:=E) (pv 0) L.cS j r (Yv Yl λ_ _ _ h=>h) (ZT (pv 2))) ZJ (Zz _)) Xa Zt))),?_⟩
 refine⟨_,Z,l,Z,⟨_,ZM.of g⟩,Qt (K:=K) (a:=l) (xs:=[.int x]) (λi c b=>c=[some (.ref S),some (.ref l),none]/\b=H/\i=0) ⟨Z,Z,Z⟩ (λi c b _ o=>by let⟨_,rfl,_⟩:=o;exact ZM.of g) ?_ ?_⟩
 ·rintro i u c b t ⟨rfl,rfl,rfl⟩;cases t;exact⟨_,Z,_,n,_,Z,q,Z,_,Z,p _⟩
 ·rintro c b ⟨_,_,z⟩;cases z
def BB(F:Zn K "let_go" "Shelf.let_go" Mr f fd)(L:YT K mg jg jh)(e:ZA P w K mg jX (Zg P w) 5 jg "check_held" zEe (Vb jg CT)):ZH P w K mg jX (Zg P w) 6 f fd zEa (YH jg CT):=by
 refine F.kD VQ λi A a s H y Q E o h=>?_;let⟨⟨⟨b,c⟩,j,m⟩,p,k⟩:=h;rename_i S d u n q v x
 intro t;exists _,ZP (WB (YL (E:=E) (pv 0) L.cS e o (Yv Yl λ_ _ _ h=>h) (ZT (Yp (ZT (pv 1)))))) Xa,_,Z,_,b,_,Z,c,Z,_,Z,Zu;intro l r;let g:=ZX r (.lst [.int x]);exact .mk ZO (.mk ⟨⟨b,g _ _ c⟩,g _ _ j,g _ _ m⟩ p (k.mono g))
def Bx(F:Zn K "label" "Shelf.label" Ng f fd)(L:YT K mg jg jh)(d:ZA P w K mg jX (Zg P w) 3 jg "twig_of" zEa (Zy jg CT)):ZH P w K mg jX (Zg P w) 4 f fd zEa (YH jg CT):=
 let G:=Hn F L d
 ⟨λc H Q E h=>(by let⟨_,_,_⟩:=h;rfl),λA a s H args l c Q E i g e b h=>G.run A a s H args l c Q E i g e b (by
  let⟨R,j,k⟩:=h;exact⟨_,_,_,_,_,_,_,Z,R,λm b=>(by rw[j] at b;cases b),λ_=>k⟩)⟩
def Pa(h:Nat)(o:jM)(r:Nat):Rf:=if h=0 then (match o with | none=>(r,none) | some j=>(5,some (j:Int))) else (1,none)
inductive Z6(gt:jp)(jg jh:aj)(C:Nat->aj):Sp
 | nt {S d lk:aj} {n:Nat} {kvs:List (ZW×V)} {ls:je} {x:Int} {v:V} {H:Hp} {Q:VK} {E:XK}:Yw jg H S d lk n kvs ls->YR kvs (.inl x)=none->VH (C 3) x E H->Z6 gt jg jh C [.ref S,.int x,v] H Q E
 |mk{S d lk l:aj}{ts:jr}{lv:jo}{av:Nat->jo}{ho:Nat->Nat}{as:jy}{kvs:List (ZW×V)}{ls us:je}{n:Nat}{rs:jG}{o:jM}{H:Hp}{Q:VK}{E:XK}:
  XB gt jg jh H S d lk ts lv av ho as kvs ls->n∈lv->H l=some (.lst us)->YC H rs us->us.length<=100->Sh ts lv ho n o->X5 rs<2->IE C (Pa (gd ts n).h o (X5 rs)) E H->Z6 gt jg jh C [.ref S,.int (n:Nat),.ref l] H Q E
abbrev ZNm:jq:=["self","number","rows","twig","road","own","labels"]
def V1:ZB ZNm zEt (Zf Jw):=YA
def ZHo{gt:jp}(F:Zn K "change_leaf" "Shelf.change_leaf" Jw f fd)(M:K.In jX)(L:YT K mg jg jh)(e:XZ K mg "NoLeaf" (C 1))(DT:ZA P w K mg jX (Zg P w) 3 jg "twig_of" zEa (Zy jg (C 3)))(DI:ZC P w K mg jX 1 "is_stem" zFb (Xb jh))(DR:ZA P w K mg jX (Zg P w) 3 jg "road_up" zEa (Wa gt jg jh (C 5)))(DC:X9 P w K mg jX 9 "checked_rows" zEu (Vu (C 0) (C 1))):ZH P w K mg jX (Zg P w) 10 f fd zEt (Z6 gt jg jh C):=by
 refine F.okD V1 (λvs H Q E h=>(by cases h <;> rfl)) (λa0 A O s H vs Q E D h=>?_)
 let N:=V1.nd;let G:=D.mono (show 1<=9 by lia)
 let g:=D.mono (show 3<=9 by lia)
 intro Xc;refine⟨_,ZP (Zx 3 N (YL (E:=E) (pv 0) L.cS DT g (Yv Yl λ_ _ _ h=>h) (ZT (pv 1))))
  (ZP (Zo (YU (Zr DI G (ZT (pv 3)))) (ZV (Nd Yl (Nb M e.at_ e.exk) e.kp e.mB e.ty rfl)) Zt)
  (ZP (Zx 4 N (YL (E:=E) (pv 0) L.cS DR g (Yv Yl λ_ _ _ h=>h) (ZT (pv 1))))
  (ZP (Zx 5 N (Ob (E:=E) DC D (Yv Yl λ_ _ _ h=>h) (ZT (pv 2)))) Xa))),?_⟩
 cases h with
 | nt R hx k=>
  let⟨dx,t⟩:=R.self;exact⟨_,Z,_,dx,_,Z,t,Z,_,Z,_,_,_,_,_,_,_,Z,R,λtw m=>(by rw[hx] at m;cases m),λ_=>k⟩
 | mk U u hl I q i h2 k=>
 rename_i S d lk l b lv av ho r p ls us n rs o
 let R:=U.sh;let⟨Y,t⟩:=R.sh.self;let W:=R.tw n u;let⟨X,a2,a1,a,J,_,_⟩:=id W.tag;let a:(r.getD n .d).tg=X:=V.ref.inj a;refine⟨_,Z,S,Y,_,Z,t,Z,_,Z,S,d,lk,b.length,p,ls,(n:Int),Z,R.sh,λtw m=>?_,λz=>by rw[R.val n u] at z;cases z⟩
 rw[R.val n u] at m;cases m;exists _,Z,(r.getD n .d).x,_,(r.getD n .d).tg,_,_,_,_,_,Z,W.tw,by rw[a];exact J,_,Z
 by_cases h0:(gd b n).h=0
 case neg=>
  rw[aO (show (Yq (gd b n)).h > 0 by show ((gd b n).h:Int) > 0;lia)]
  unfold Pa at k;rw[aP h0] at k;exact Z3 (k H (ZD.refl H))
 rw[aM (show ¬ (Yq (gd b n)).h > 0 by show ¬ ((gd b n).h:Int) > 0;lia)]
 unfold Pa at k;rw[aQ h0] at k;refine Zm ⟨_,Z,S,Y,_,Z,t,Z,_,Z,S,d,lk,b,lv,av,ho,r,p,ls,n,Z,U,u,λv H1 y B=>?_,λj B=>?_⟩
 ·cases i.uniq B;let k:∀ c,ZD H c->E (.ref (C (X5 rs))) none c:=k;refine⟨_,Z,.mk (y _ _ hl) (I.mono (ZD.tups y)) q (λz c T=>?_) (λz c T=>?_) λz=>absurd z ∅⟩
  ·have:=k c (y.trans T);rw[z] at this;exact this
  ·have:=k c (y.trans T);rw[z] at this;exact this
 ·cases i.uniq B;exact k
def PU(h:Nat)(o:jM)(x:Option Int):Rf:=if h=0 then (2,none) else (match o with | some j=>(5,some (j:Int)) | none=>match x with | some x=>(3,some x) | none=>(2,none))
inductive Z8(gt:jp)(jg jh:aj)(C:Nat->aj):Sp
 | nt {S d lk:aj} {n:Nat} {kvs:List (ZW×V)} {ls:je} {x:Int} {v:V} {H:Hp} {Q:VK} {E:XK}:Yw jg H S d lk n kvs ls->YR kvs (.inl x)=none->VH (C 3) x E H->Z8 gt jg jh C [.ref S,.int x,v] H Q E
 |mk{S d lk l:aj}{ts:jr}{lv:jo}{av:Nat->jo}{ho:Nat->Nat}{as:jy}{kvs:List (ZW×V)}{ls:je}{n:Nat}{ns:jw}{o:jM}{H:Hp}{Q:VK}{E:XK}:
  XB gt jg jh H S d lk ts lv av ho as kvs ls->n∈lv->H l=some (.lst (ns.map V.int))->ns.length<=100->Sh ts lv ho n o->(ns.find? (λx=>!Z2 lv x)=none->ns.length<2)->IE C (PU (gd ts n).h o (ns.find? λx=>!Z2 lv x)) E H->Z8 gt jg jh C [.ref S,.int (n:Nat),.ref l] H Q E
abbrev B6:jq:=["self","number","numbers","twig","road","old","branches","label","labels","new"]
def Vv:ZB B6 zEq (Zf Kk):=YA
def DV{gt:jp}(F:Zn K "change_stem" "Shelf.change_stem" Kk f fd)(a6:K.In jX)(T:YY mg)(L:YT K mg jg jh)(q:XZ K mg "NoStem" (C 2))(DT:ZA P w K mg jX (Zg P w) 3 jg "twig_of" zEa (Zy jg (C 3)))(DI:ZC P w K mg jX 1 "is_stem" zFb (Xb jh))(DR:ZA P w K mg jX (Zg P w) 3 jg "road_up" zEa (Wa gt jg jh (C 5)))(DL:ZA P w K mg jX (Zg P w) 5 jg "labels_of" zEe (Yt jg jh (C 3)))(DO:X9 P w K mg jX 9 "label_over" ["labels"] (Vc (C 2))):ZH P w K mg jX (Zg P w) 10 f fd zEq (Z8 gt jg jh C):=by
 refine F.okD Vv (λvs H Q E h=>(by cases h <;> rfl)) (λc0 A a7 s H vs Q E N h=>?_)
 let G:=Vv.nd;let a2:=N.mono (show 1<=9 by lia)
 let y:=N.mono (show 3<=9 by lia)
 let a3:=N.mono (show 5<=9 by lia)
 intro Xc;refine⟨_,ZP (Zx 3 G (YL (E:=E) (pv 0) L.cS DT y (Yv Yl λ_ _ _ h=>h) (ZT (pv 1))))
  (ZP (Zo (Xj (YU (Zr DI a2 (ZT (pv 3))))) (ZV (Nd Yl (Nb a6 q.at_ q.exk) q.kp q.mB q.ty rfl)) Zt)
  (ZP (Zx 4 G (YL (E:=E) (pv 0) L.cS DR y (Yv Yl λ_ _ _ h=>h) (ZT (pv 1))))
  (ZP (V3 (i:=5) G rfl (Or.inr rfl) (WC (pv 3) rfl))
  (ZP (V3 (i:=6) G rfl (Or.inr rfl) (Vy Q9 rfl T.list QD (ZT (pv 2))))
  (ZP (Zx 7 G (Ob (E:=E) DO N (Yv Yl λ_ _ _ h=>h) (ZT (YL (E:=E) (pv 0) L.cS DL a3 (Yv Yl λ_ _ _ h=>h) (ZT (pv 6)))))) Xa))))),?_⟩
 cases h with
 | nt R p k=>
  let⟨dx,M⟩:=R.self;exact⟨_,Z,_,dx,_,Z,M,Z,_,Z,_,_,_,_,_,_,_,Z,R,λtw D=>(by rw[p] at D;cases D),λ_=>k⟩
 | mk U u hl r B h2 k=>
 rename_i S d lk l a lv av ho c m ls n J o
 let R:=U.sh;let⟨dS,M⟩:=R.sh.self;let W:=R.tw n u;let⟨a9,c5,c4,e,a4,_,_⟩:=id W.tag;let e:(c.getD n .d).tg=a9:=V.ref.inj e;refine⟨_,Z,S,dS,_,Z,M,Z,_,Z,S,d,lk,a.length,m,ls,(n:Int),Z,R.sh,λtw D=>?_,λz=>by rw[R.val n u] at z;cases z⟩
 rw[R.val n u] at D;cases D;exists _,Z,(c.getD n .d).x,_,(c.getD n .d).tg,_,_,_,_,_,Z,W.tw,by rw[e];exact a4,_,Z
 unfold PU at k;by_cases h0:(gd a n).h=0
 case pos=>
  rw[aM (show ¬ (Yq (gd a n)).h > 0 by show ¬ ((gd a n).h:Int) > 0;lia)]
  rw[aQ h0] at k;exact Z3 (k H (ZD.refl H))
 rw[aO (show (Yq (gd a n)).h > 0 by show ((gd a n).h:Int) > 0;lia)]
 rw[aP h0] at k;refine Zm ⟨_,Z,S,dS,_,Z,M,Z,_,Z,S,d,lk,a,lv,av,ho,c,m,ls,n,Z,U,u,λv H1 s1 hj=>?_,λj hj=>?_⟩
 ·cases B.uniq hj;let R1:=R.same s1;let⟨X,a5⟩:=(R1.tw n u).tw.self;exists _,Z,(c.getD n .d).x,jh,X,_,.ref (c.getD n .d).th,Z,a5,L.cT,L.nth,Z;exists _,Z,l,J.map V.int,Z,.inl (ZM.of (s1 _ _ hl));intro a8 I;let g2:=ZX I (.lst (J.map V.int));let s2:=s1.trans g2;let R2:=R.same s2;let⟨O,a0⟩:=R2.sh.self;refine⟨_,Z,S,O,_,Z,a0,Z,_,Z,S,d,lk,a8,a,lv,av,ho,c,m,ls,J,Z,R2,ZO,r,λx p=>?_,λbs eb hb D2 us H3 s3 c3 Y t=>?_⟩
  ·rw[p] at k;exact VH.mono k s2
  ·let fn:J.find? (λx=>!Z2 lv x)=none:=vU.mpr λx p=>by
    rw[eb] at p;let⟨b,g,rfl⟩:=zO.mp p;have:=hb b g;simp[Z2,this]
   let l2:=h2 fn;rw[fn] at k;let c2:us.length=bs.length:=by rw[t.1];exact zX _
   let c1:J.length=bs.length:=by rw[eb,zX]
   refine⟨D2,us,Yn a bs,Z,Y,t,GB U.wf λb g=>U.vl.lt b (hb b g),∅,λH4 s4=>⟨λ_=>k H4 ((s2.trans s3).trans s4),λLb v a1 kv=>?_⟩⟩
   exact absurd a1 (by rw[Jv (by unfold Yn;rw[zX];lia)];intro z;cases z)
 ·cases B.uniq hj;exact k
inductive Xn(jg:aj):Sp
 |mk{S d c:aj}{n:Nat}{a:List (ZW×V)}{b:je}{H:Hp}{Q:VK}{E:XK}:Yw jg H S d c n a b->(∀ p,H p=none->Q (.ref p) (upd H p (.lst b)))->Xn jg [.ref S] H Q E
def ZLL:ZB zEi zEi (Zf IO):=YA
def CI(F:Zn K "looked" "Shelf.looked" IO f fd)(T:YY mg)(L:YT K mg jg jh):ZH P w K mg jX Zd 1 f fd zEi (Xn jg):=by
 refine F.ko ZLL λb A a s H g Q E e h=>?_;let⟨R,k⟩:=h;let⟨c,d⟩:=R.self;exact⟨_,ZV (Zl (Vy Q9 rfl T.list QD (ZT (WC (pv 0) rfl)))),_,Z,_,jg,c,_,.ref _,Z,d,L.cS,L.nl,Z,_,_,Z,.inl (ZM.of R.looks),k⟩
end
def Yd(l:jK)(n:Nat):jC:=l.map λp=>(p.1,n+p.2)
def Lr{l:jK}{n:Nat}{x:Str}{c:aj}(h:(Yd l n).lookup x=some c):∃ p∈l,p.1=x/\c=n+p.2:=by
 let⟨p,a,e⟩:=zO.mp (PySem.mem_of_lookup h);exact⟨p,a,congrArg Prod.fst e,(congrArg Prod.snd e).symm⟩
def OC{n:Nat}{x:Str}:∀{l:jK},x∈l.map (·.1)->∃ c,(Yd l n).lookup x=some c
 | p::l,h=>by
  show ∃ c,xT x ((p.1,n+p.2)::Yd l n)=some c;rw[xP];by_cases z:x=p.1
  ·rw[z,beq_self_eq_true];exact⟨_,Z⟩
  ·rw[beq_false_of_ne z];exact OC ((zF.mp h).resolve_left z)
def ZOG{l:jK}{n:Nat}{x:Str}{c:aj}(h:(Yd l n).lookup x=some c):c∈(Yd l n).map (·.2):=zO.mpr ⟨_,PySem.mem_of_lookup h,Z⟩
def MZ{l:jK}{n:Nat}(h:∀ p∈l,∀ q∈l,p.1=q.1->p.2=q.2):∀ c∈(Yd l n).map (·.2),∃ y,(Yd l n).lookup y=some c:=λc f=>by
 let⟨p,g,rfl⟩:=zO.mp f;let⟨q,a,rfl⟩:=zO.mp g;let⟨c,e⟩:=OC (n:=n) (zO.mpr ⟨q,a,Z⟩);let⟨r,i,b,d⟩:=Lr e;exact⟨q.1,by rw[e,d,h r i q a b]⟩
def Og(r:Rf):je:=match r.2 with
 | none=>[.str (Pr r.1)]
 | some x=>[.str (Pr r.1),.int x]
structure Uw(K:zZ)(CB:aj)(C:Nat->aj)(r:Rf):Prop where
 lt:r.1<6
 xc:XC K CB C r.1
 no:r.2=none->r.1<3
 so:r.2≠none->3<=r.1/\∃ fI,Y5 K (C r.1) fI "number"
def Mp{f e:aj}{o:aJ}{u g:ai}{n:Nat}{l:jK}{q:Str}{v:Arguments}{a:Expr}{b:aE}{N:jq}{i:Sp}(M:∀ p∈l,∀ q∈l,p.2=q.2->p.1=q.1)(r:∀ p∈b.names,(p.2=.cell\/p.2=.free)->p.1∈l.map (·.1))(R:∀ x∈N,b.names.lookup x=some .free)(O:b.kind=.function)(k:b.isCoroutine=false)(L:b.isGenerator=false)(m:∀ x∈b.names,x.2≠.cell)(j:Y2 o q)(J:∀ (A:ax) (d:jA) (s:al) (H:Hp) (z:je) (Q:VK) (E:XK),Zc 69 (A.deeper (wF q b s.heap.objs.size f (.ref e) (Yd l n)))->i z H Q E->∃ t,PE (N6 P w K mg jX N q b f (.ref e) (Yd l n) A d s H E) a t/\t (z.map some) H Q):
  ZH P w K mg jX (Zg P w) 70 f (vP "<lambda>" q v a b (Yd l n) u (.ref e) g) [] (NN f e (xK "<lambda>" q v a b (Yd l n) u e g) o (Yd l n) N i):=
 Hl (λx y c G I=>by
  let⟨U,S,D,B⟩:=Lr G;let⟨X,T,F,C⟩:=Lr I;rw[<-D,<-F];exact M U S X T (Nat.add_left_cancel (B.symm.trans C))) (λx h=>by
  rcases h with h | h
  ·exact OC (r _ (PySem.mem_of_lookup h) (.inl rfl))
  ·exact OC (r _ (PySem.mem_of_lookup h) (.inr rfl))) (λx c h=>ZOG h) R O k L m j J
def Mq{CB:aj}{C:Nat->aj}{n:Nat}{l:jK}{q:Str}{L:Arguments}{g:Expr}{sc:aE}{N NX:jq}{ws:je}{spB:Sp}{σ:L2.St}{E:Hp}{Q:VK}{T:aj}{r:Rf}(LF:∀ (f F:aj) (I:aJ) (J h:ai),Y2 I q->ZH P w K mg jX (Zg P w) 70 f (vP "<lambda>" q L g sc (Yd l n) J (.ref F) h) [] (NN f F (xK "<lambda>" q L g sc (Yd l n) J F h) I (Yd l n) N spB))(a0:L=⟨[],[],none,[],[],none,[]⟩)(R6:Uw K CB C r)(a2:ZQ E T q)(hl:ws.length=N.length)(hN:∀ (i:Nat) (x:Str) (v:V),N[i]? = some x->ws[i]? = some v->∃ j:Nat,NX[j]? = some x/\σ[j]? = some (some v))(a1:∀ (B:Hp) (Q':VK) (M:XK),(∀ c o,c≠T->E c=some o->B c=some o)->IE C r M B->spB ws B Q' M)(k:∀ (d:Hp) (t:aj),(∀ c o,c≠T->E c=some o->d c=some o)->ZQ d T q->d t=some (.tup (Og r))->Q (.ref t) d):
  MB (YN P w K mg jX CB C) (Yd l n) N NX (Z9 (Nr T L g sc q (Yd l n)) Y0) σ E Q:=by
 subst a0;exists a2;intro B f F I J h X hf U fr H a4;exists ws,hl,hN;intro O eU a3 A CA;let m:∀ c∈(Yd l n).map (·.2),∃ o,O c=some (XH c o):=λc hc=>by
  let⟨o,v,e,_⟩:=CA.all c hc;exact⟨o,e⟩
 exists f,_,_,_,Z,LF f F I J h X,λs=>.of_eq Z,A _ _ hf;intro Q' M hQ hE;exists Z,A _ _ hf,A _ _ U,ws,CA;rw[eU];let u:∀(a d:Hp),ZD B a->(∀ c∈(Yd l n).map (·.2),a c=none)->ZD (reT ((Yd l n).map (·.2)) O a) d->(∀ b o,b≠T->E b=some o->unT ((Yd l n).map (·.2)) d b=some o)/\ZQ (unT ((Yd l n).map (·.2)) d) T q:=by
  intro a d D y p;let bk:ZD a (unT ((Yd l n).map (·.2)) d):=λb o e=>Kn y p e;exact⟨λb o nb e=>bk _ _ (D _ _ (fr b o nb e)),H.ext (YV.same (D.trans bk))⟩
 let G:∀(a:Hp)(b:aj)(o:HO),(∀ c∈(Yd l n).map (·.2),a c=none)->a b=some o->reT ((Yd l n).map (·.2)) O a b=some o:=λa b o y e=>by
  have:b∉(Yd l n).map (·.2):=λz=>by rw[y b z] at e;cases e
  unfold reT;rw[aP this];exact e
 refine a1 B _ _ fr ?_;let⟨j,x⟩:=r;let⟨r1,r2,r3,r4⟩:=R6
 cases x with
 | none=>
  intro a D y;refine hE _ _ _ ⟨j,r1,Z,r2,.inl ⟨r3 Z,λd t p ht=>?_⟩⟩;let⟨R,S⟩:=u a d D y p;exact⟨Oa m p,k _ t R S (O3 m p ht)⟩
 | some x=>
  let⟨r5,fI,r6⟩:=r4 (Option.some_ne_none x);intro dx a D Y y;refine hE _ _ _ ⟨j,r1,Z,r2,.inr ⟨r5,dx,x,fI,Z,G _ _ _ y Y,r6,λd t p ht=>?_⟩⟩;let⟨R,S⟩:=u a d D y p;exact⟨Oa m p,k _ t R S (O3 m p ht)⟩
def Q4{p q:Prop}{b:Bool}(a:p)(c:q):if b=true then p else q:=by cases b <;> assumption
def ER{c d:jo}{x:Int}{r:jw}(h:Z2 c x=false)(e:∀ b∈d,b∈c):((d.map λb:Nat=>(b:Int))++x::r).find? (λx=>!Z2 c x)=some x:=by
 induction d with
 | nil=>simp[h]
 | cons a d i=>
  let f:Z2 c (a:Int)=true:=by
   have:=e a zK;simp[Z2,this]
  rw[yP,uV,xE,f];exact i λb g=>e b (zI _ g)
section
variable{jg jh CS CT CH:aj}{C:Nat->aj}
def Iy{gt:jp}{S d s l:aj}{j:jr}{a:jo}{p:Nat->jo}{q:Nat->Nat}{o:jy}{e:List (ZW×V)}{t:je}{ns:jw}{x:Int}{H:Hp}{Q:VK}{E:XK}(U:XB gt jg jh H S d s j a p q o e t)(v:a.length<=800)(z:H l=some (.lst (ns.map V.int)))(c:ns.length<=100)(i:ns.find? (λx=>!Z2 a x)=some x)(k:VH CT x E H):Z7 gt jg jh CS CT CH [.ref S,.ref l] H Q E:=by
 refine⟨S,d,s,l,j,a,p,q,o,e,t,ns,Z,U.sh,U.wf,v,λb g=>?_,z,c,λy r=>?_,λbs u g=>?_⟩
 ·rw[U.av b g];have:(abv j a b).length<=a.length:=uC _ _
  lia
 ·rw[i] at r;cases r;exact k
 ·let m:=sL i;let n:=tR i;rw[u] at m;let⟨b,h,rfl⟩:=zO.mp m;have:=g b h;simp[Z2,this] at n
inductive WZ(gt:jp)(jg jh:aj)(C:Nat->aj):Sp
 |mk{S d k l:aj}{n:jr}{a:jo}{i:Nat->jo}{j:Nat->Nat}{h:jy}{c:List (ZW×V)}{m:je}{e x:Int}{g:jo}{o:V}{H:Hp}{Q:VK}{E:XK}:XB gt jg jh H S d k n a i j h c m->a.length<=800->Z2 a x=false->H l=some (.lst (iN g))->g.length<=50->(∀ b∈g,b∈a)->VH (C 3) x E H->WZ gt jg jh C [.ref S,.int e,.int x,.ref l,o] H Q E
abbrev P5:jq:=zE0
def E4:ZB P5 P5 (Zf KW):=YA
def ZMd{gt:jp}(F:Zn K "_law_call" "_law_call" KW f fd)(L:YT K mg jg jh)(O:ZA P w K mg jX (Zg P w) 4 jg "hold" zEa (YH jg (C 3)))(T:ZA P w K mg jX (Zg P w) 6 jg "let_go" zEa (YH jg (C 3)))(V:ZA P w K mg jX (Zg P w) 4 jg "holders" zEa (YH jg (C 3)))(W:ZA P w K mg jX (Zg P w) 4 jg "outside" zEa (YH jg (C 3)))(X:ZA P w K mg jX (Zg P w) 6 jg "alone" zEa (YH jg (C 3)))(Y:ZA P w K mg jX (Zg P w) 4 jg "label" zEa (YH jg (C 3)))(D6:ZA P w K mg jX (Zg P w) 4 jg "look" zEa (YH jg (C 3)))(D7:ZA P w K mg jX (Zg P w) 10 jg "change_leaf" zEt (Z6 gt jg jh C))(D8:ZA P w K mg jX (Zg P w) 10 jg "change_stem" zEq (Z8 gt jg jh C))(D:ZA P w K mg jX (Zg P w) 10 jg "put_stem" zEe (Z7 gt jg jh (C 2) (C 3) (C 4))):
  ZH P w K mg jX (Zg P w) 11 f fd P5 (WZ gt jg jh C):=by
 refine F.kD E4 λa0 A B s H vs Q E m h=>?_;let⟨U,M,u,N,a1,hw,k⟩:=h;rename_i S d lk l ts lv av ho as a2 ls a3 x a vb
 let i:=m.mono (show 4<=10 by lia)
 let o:=m.mono (show 6<=10 by lia)
 let R:=U.sh;let⟨c,e⟩:=R.sh.self;let t:=R.none u;intro Xc;refine⟨_,ZP (Zo (YI Y1 (pv 1) ZJ (Zz _)) (ZV (Zl (YL (E:=E) (pv 0) L.cS O i (Yv Yl λ_ _ _ h=>h) (ZT (pv 2))))) Zt)
  (ZP (Zo (YI Y1 (pv 1) ZJ (Zz _)) (ZV (Zl (YL (E:=E) (pv 0) L.cS T o (Yv Yl λ_ _ _ h=>h) (ZT (pv 2))))) Zt)
  (ZP (Zo (YI Y1 (pv 1) ZJ (Zz _)) (ZV (Zl (YL (E:=E) (pv 0) L.cS V i (Yv Yl λ_ _ _ h=>h) (ZT (pv 2))))) Zt)
  (ZP (Zo (YI Y1 (pv 1) ZJ (Zz _)) (ZV (Zl (YL (E:=E) (pv 0) L.cS W i (Yv Yl λ_ _ _ h=>h) (ZT (pv 2))))) Zt)
  (ZP (Zo (YI Y1 (pv 1) ZJ (Zz _)) (ZV (Zl (YL (E:=E) (pv 0) L.cS X o (Yv Yl λ_ _ _ h=>h) (ZT (pv 2))))) Zt)
  (ZP (Zo (YI Y1 (pv 1) ZJ (Zz _)) (ZV (Zl (YL (E:=E) (pv 0) L.cS Y i (Yv Yl λ_ _ _ h=>h) (ZT (pv 2))))) Zt)
  (ZP (Zo (YI Y1 (pv 1) ZJ (Zz _)) (ZV (Zl (YL (E:=E) (pv 0) L.cS D6 i (Yv Yl λ_ _ _ h=>h) (ZT (pv 2))))) Zt)
  (ZP (Zo (YI Y1 (pv 1) ZJ (Zz _)) (ZV (Zl (YL (E:=E) (pv 0) L.cS D7 m (Yv Yl λ_ _ _ h=>h) (Ze (pv 2) (pv 4))))) Zt)
  (ZP (Zo (YI Y1 (pv 1) ZJ (Zz _)) (ZV (Zl (YL (E:=E) (pv 0) L.cS D8 m (Yv Yl λ_ _ _ h=>h) (Ze (pv 2) (Yp Zw))))) Zt)
  (ZP (Zo (YI Y1 (pv 1) ZJ (Zz _)) (ZV (Zl (YL (E:=E) (pv 0) L.cS D m (Yv Yl λ_ _ _ h=>h) (ZT (Z1 P4 (pv 3) (Yp (ZT (pv 2)))))))) Zt)
  (ZV (Zl (YL (E:=E) (pv 0) L.cS D m (Yv Yl λ_ _ _ h=>h) (ZT (Z1 P4 (Z1 P4 (Yp (ZT (pv 2))) (pv 3)) (Yp (ZT (Z1 WJ (pv 2) ZJ))))))))))))))))),?_⟩
 let j:∀ G,YH jg (C 3) [.ref S,.int x] H G E:=λG=>.mk R.sh t k;refine⟨_,Z,Z,_,Z,Q4 ⟨_,Z,S,c,_,Z,e,Z,_,Z,j _⟩ ?_⟩;refine⟨_,Z,Z,_,Z,Q4 ⟨_,Z,S,c,_,Z,e,Z,_,Z,j _⟩ ?_⟩;refine⟨_,Z,Z,_,Z,Q4 ⟨_,Z,S,c,_,Z,e,Z,_,Z,j _⟩ ?_⟩;refine⟨_,Z,Z,_,Z,Q4 ⟨_,Z,S,c,_,Z,e,Z,_,Z,j _⟩ ?_⟩;refine⟨_,Z,Z,_,Z,Q4 ⟨_,Z,S,c,_,Z,e,Z,_,Z,j _⟩ ?_⟩;refine⟨_,Z,Z,_,Z,Q4 ⟨_,Z,S,c,_,Z,e,Z,_,Z,j _⟩ ?_⟩;refine⟨_,Z,Z,_,Z,Q4 ⟨_,Z,S,c,_,Z,e,Z,_,Z,j _⟩ ?_⟩;refine⟨_,Z,Z,_,Z,Q4 ⟨_,Z,S,c,_,Z,e,Z,_,Z,_,Z,.nt R.sh t k⟩ ?_⟩;refine⟨_,Z,Z,_,Z,Q4 ⟨_,Z,S,c,_,Z,e,Z,_,Z,Zu,λq n=>.nt (R.same (ZX n (.lst []))).sh t (k.mono (ZX n _))⟩ ?_⟩;refine⟨_,Z,Z,_,Z,Q4 ⟨_,Z,S,c,_,Z,e,Z,_,Z,_,Z,Zu,λq n=>?_⟩ ⟨_,Z,S,c,_,Z,e,Z,_,Z,Zu,λq n=>?_⟩⟩
 ·let g:=ZX n (.lst [.int x]);refine⟨l,q,_,_,Z,Z,g _ _ N,ZO,?_,λp v=>?_⟩
  ·have:(iN a).length=a.length:=zX _;exact Ye (by simp[this];lia)
  let r:=g.trans (ZX v (.lst (iN a++[.int x])));refine Iy (ns:=(a.map λb:Nat=>(b:Int))++[x]) (U.frame (R.same r)) M ?_ (by simp;lia) (ER u hw) (k.mono r)
  rw[ZO,yR,zJ];rfl
 ·let g:=ZX n (.lst [.int x]);let lw:(iN a).length=a.length:=zX _;exists _,Z,q,l,[.int x],iN a,Z,Z,ZO,g _ _ N,(show 1+(iN a).length<=aq from zC (show 1+(iN a).length<=100 by lia) (Ye (by decide)))
  intro p v;let r:=g.trans (ZX v (.lst ([.int x]++iN a)));exists _,Z,_,_,Z,Z,Zu;intro q2 z;let I:=ZX z (.lst [.int (x+1)]);refine⟨p,q2,_,_,Z,Z,I _ _ ZO,ZO,?_,λp2 y=>?_⟩
  ·have:(iN a).length=a.length:=zX _;exact Ye (by simp[this];lia)
  let J:=(r.trans I).trans (ZX y (.lst (([.int x]++iN a)++[.int (x+1)])));refine Iy (ns:=(([]:jo).map λb:Nat=>(b:Int))++x::((a.map λb:Nat=>(b:Int))++[x+1])) (U.frame (R.same J)) M ?_ (by simp;lia) (ER u λb hb=>by cases hb) (k.mono J)
  rw[ZO,wB,List.nil_append,yP,yR,zJ];rfl
end
def Mh{l:jK}{n:Nat}{a:jC}(h:∀ p∈l,a.lookup p.1=some (n+p.2)){y:Str}{c:aj}(e:(Yd l n).lookup y=some c):a.lookup y=some c:=by
 let⟨p,b,rfl,rfl⟩:=Lr e;exact h p b
section
variable{gt:jp}{jg jh:aj}{H H':Hp}{a:Pl}{m:Md}
def LS.kd(h:LS gt jg jh H a m){c:aj}{o:HO}(e:H c=some o)(k:∀ C g l,o≠.ins C g l)(b:∀ f,o≠.dK f)(d:∀ f,o≠.lst f):Zi a m c:=by
 let⟨u,w,R⟩:=h.shp;let⟨Y6,L⟩:=h.lw;let⟨s,p,_⟩:=h.hd;let⟨⟨v,n⟩,q,r⟩:=R.sh;exists ZE e n (k _ _ _),ZE e q (b _),ZE e r (d _),ZE e L.dict (b _),ZE e p (b _),ZE e h.told (d _);intro i j;let⟨g,t⟩:=(R.tw i j).tw.self;exact⟨ZE e t (k _ _ _),ZE e (R.tw i j).tw.above (d _)⟩
def LS.tabs(h:LS gt jg jh H a m){p T:aj}{q:Str}{i:je}(g:H p=some (.lst i))(d:ZQ H T q)(f:∀ c o,H c=some o->Zi a m c->c≠p->H' c=some o):ZQ H' T q:=
 ZQ.ext d ⟨λb j e=>f _ _ e (h.kd e (by intro _ _ _ z;cases z) (by intro _ z;cases z) (by intro _ z;cases z)) (ZE e g),λb j e=>f _ _ e (h.kd e (by intro _ _ _ z;cases z) (by intro _ z;cases z) (by intro _ z;cases z)) (ZE e g)⟩
end
def ZJq{gt:jp}{g h:aj}{H l:Hp}{a:Pl}{m:Md}{j:List (ZW×V)}{s:je}{k:aj}(f:LS gt g h H a m)(U:XB gt g h H a.S a.d a.lk m.ts m.lv m.av m.ho a.as j s)(n:H k=none)(r:∀ b o,b≠a.S->H b=some o->l b=some o)(R:YQ g h l a.S a.d k m.ts m.lv m.av m.ho a.as j []):LS gt g h l { a with lk:=k } m:=by
 let LO:=f.lo (H':=l) λc o t y z A e=>r c o t e;let⟨w,G⟩:=f.gr;let⟨x,q⟩:=f.lw;refine⟨⟨j,[],⟨R,U.wf,U.vl,U.av,U.live,U.l800⟩,by simp⟩,LO.lw,LO.hd,LO.gr,LO.told,f.dd,⟨Za f.told n,f.tt.2.1,(Za G.at_ n).symm⟩,f.t2,λi p=>?_,f.l64,f.l700⟩
 let⟨u,B,v⟩:=f.t3 i p;let⟨C,D,_,_,e,_⟩:=q.tw i p;exact⟨u,Za e n,v⟩
abbrev qU:Str:=("_law_unknown" ++ ".<locals>.") ++ "<lambda>"
abbrev lU:jK:=[("_law_wrong_here",7),("_law_way",6),("_law_shelf",5),("_law_one",4),("_law_bad",3)]
abbrev BQ:jq:=["_law_well_here","_law_state","_law_shelf","_law_twigs","_law_holds","_law_grid_here","_law_told","_law_one","_law_way","_law_some","_law_wrong_here","_law_bad"]
def VC:ZB BQ zEc (Zf Po):=YA
def ZPI(gt:jp)(jg jh T p:aj)(q:Str)(H:Hp)(a:Pl)(m:Md)(Q:VK):Prop:=∀(b:Hp)(e:Pl)(d:Md),(∀ c o,H c=some o->Zi a m c->Zi e d c/\(c≠p->c≠T->b c=some o))->ZN b p->LS gt jg jh b e d->Wk e d p->WE e=WE a->d.lv=m.lv->d.ts.length<=m.ts.length+1->ZQ b T q->Q (.bl true) b
inductive XQ(gt:jp)(jg jh T:aj):Sp
 |mk{p b:aj}{a:Pl}{m:Md}{H:Hp}{Q:VK}{E:XK}:ZN H p->H b=some (.tup (WE a))->LS gt jg jh H a m->Wk a m p->0<m.lv.length->m.lv.length<=60->m.ts.length<=600->ZQ H T qU->ZPI gt jg jh T p qU H a m Q->XQ gt jg jh T [.ref p,.ref b] H Q E
def ZIK{gt:jp}{CB:aj}{C:Nat->aj}{c T:aj}(F:Zn K "_law_unknown" "_law_unknown" Po f fd)(hf:zP K ap "_law_unknown" = some (some (.ref f)))(e7:yS K "_law_unknown" = some (c,T))(CC:xZ jX c T)(m3:jX.BuiltinsAt mg T)(X:YY mg)(L:YT K mg jg jh)(R3:∀ x:Int,Uw K CB C (3,some x))(DS:ZC P w K mg jX 69 "_law_strange" zEc (XF gt jg jh))(DP:ZC P w K mg jX 1 "_law_pull" zEf YK)(DK:ZC P w K mg jX 2 "_law_picked" zEh YZ)(DF:ZA P w K mg jX Zd 1 jg "forget" zEi (Xq jg jh))(l3:ZA P w K mg jX Zd 1 jg "looked" zEi (Xn jg))(DC:X9 P w K mg jX 11 "_law_call" P5 (WZ gt jg jh C))(DQ:ZC P w K mg jX 71 "_law_asked" zEw (YN P w K mg jX CB C))(l2:ZC P w K mg jX 7 "_law_alike" zEd (YE 6)):
  ZH P w K mg jX Zd 72 f fd zEc (XQ gt jg jh T):=by
 refine F.okC hf e7 VC (λvs H Q E h=>(by let⟨_,_,_,_,_,_,_,_,_⟩:=h;rfl)) (λA c2 s H vs Q E hr h=>?_)
 let⟨W,e6,S0,O,l0,i0,i1,i7,k⟩:=h;rename_i p st a m
 let nd:=VC.nd;let M:=hr.mono (show 1<=71 by lia)
 let m6:=hr.mono (show 2<=71 by lia)
 let m7:=hr.mono (show 7<=71 by lia)
 let c9:=hr.mono (show 69<=71 by lia)
 let⟨fA,n9,FA,bA,kA,mA⟩:=DQ.ex;refine⟨_,ZP (Qx (pv 1) (Pg rfl (Y9 (Qr (i:=2) nd rfl (Or.inr rfl)) (Y9 (Yc 3 nd) (Y9 (Yc 4 nd) (Y9 (Yc 5 nd) (Y9 (Yc 6 nd) Pf)))))))
  (ZP (V3 (i:=7) nd rfl (Or.inr rfl) (Zr DS c9 (Ze (pv 0) (pv 1))))
  (ZP (V3 (i:=8) nd rfl (Or.inr rfl) (Zr DP M (Ze (pv 0) ZJ)))
  (ZP (V3 (i:=9) nd rfl (Or.inr rfl) (Zq (Pz rfl) rfl X.sorted PO (ZT (pv 3))))
  (ZP (V3 (i:=10) nd rfl (Or.inr rfl) (Qy [0,9] zEh rfl (OP rfl X.range (ZT (Zr DP M (Ze (pv 0) ZJ)))) (λ_ _ _ _ _=>UY) (λ_ _ _ _ _=>Zr DK m6 (Ze (pv 1) (pv 2))) ⟨rfl,.inl rfl,rfl,rfl,.inl rfl,rfl,trivial⟩))
  (@ZP _ _ _ _ _ (@V3 _ _ 11 _ _ _ _ nd rfl (Or.inr rfl) (@Lz _ _ _ _ _ _ _ _ _ _ _ _ _ _ _ _ _ FS (LL (P8 Vw ZJ)) (LL (P8 ZJ P1)) (HH (P8 ZJ ZJ) (P8 ZJ ZJ)) (Zr DP M (Ze (pv 0) ZJ)) (λ_ _=>rfl)) rfl (.inl rfl))
  (ZP (WB (NY (E:=E0) (pv 2) L.cS DF M XJ))
  (ZP (Zo (Xj (YU (Zr l2 m7 (Ze (MD (cl:=Yd lU s.heap.objs.size) (N:=P5) FA hr rfl mA kA bA (ZT (MT (P:=T) (cl:=Yd lU s.heap.objs.size) rfl CC m3 rfl rfl))
    (λy c h=>Mh (λp hp=>by simp only[zF,wQ,or_false] at hp;rcases hp with rfl | rfl | rfl | rfl | rfl <;> rfl) h) (MZ (by decide +kernel)) (λy hy=>⟨(show ∀ y∈P5,(Zf Po).names.lookup y=some .cell by decide +kernel) y hy,OC ((show ∀ y∈P5,y∈lU.map (·.1) by decide +kernel) y hy)⟩) λ_=>rfl) (Yg (Ze Yk (pv 7))))))) Xa Zt)
  (ZV (Zl (ZP1 (Vz Qs (pv 8) ZJ (Zz _)) (Vz (MA hr.units0) (NY (E:=E0) (pv 2) L.cS l3 M XJ) (Yp Zw) (Zz _)))))))))))),?_⟩
 let⟨o7,m5⟩:=W.some;let⟨o3,hT,_⟩:=id i7;exists _,Z,st,_,Z,Zh.of e6,Z,_,_,Z,_,_,Z,_,_,Z,_,_,Z,_,_,Z,Z;refine⟨_,Z,_,Z,.mk W e6 S0 O l0 i0 i1 λH1 j g x e8 W1 S1 O1 a6 a7 m0 hx=>?_⟩;obtain⟨e1,e2,e3,e4,e5⟩:j.S=a.S/\j.dT=a.dT/\j.dH=a.dH/\j.gl=a.gl/\j.tl=a.tl:=by
  unfold WE at a6;simpa using a6
 let⟨o6,a3⟩:=W1.some;let i8:=S0.tabs m5 i7 λc o e v n=>(e8 c o e v).2 n;let n7:g.lv.length<=60:=by rw[a7];exact i0
 exists _,Z,p,11,Z,W1,Wh (by decide) (by decide)
 intro n5 H2 w0 w1 W2 x2;let S2:=S1.sx O1 a3 x2;let⟨n4,a0⟩:=S2.lw;let m8:=S1.l64;let eL:(g.lv.map λi:Nat=>(i:Int)).map V.int=iN g.lv:=by rw[zJ];rfl
 exists _,Z,a.dT,n4,g.lv.map λi:Nat=>(i:Int),Z,(by rw[<-e2];exact a0.dict),(by rw[a0.keys,zJ];rfl),Qz a0.vl.up,by simpa using m8
 intro q nq;rw[eL];let g3:=ZX nq (.lst (iN g.lv));let hq:upd H2 q (.lst (iN g.lv)) q=some (.lst (iN g.lv)):=ZO;generalize upd H2 q (.lst (iN g.lv))=H3 at g3 hq⊢;let W3:=W2.same g3;let qp:q≠p:=λz=>by
  let⟨xs,l⟩:=W2.some;rw[z,l] at nq;cases nq
 exists _,Z,p,6,Z,W3,Wh (by decide) (by decide)
 intro r6 H4 o4 o5 W4 x4;let c8:=x4 _ _ hq qp;refine⟨r6,Z,∅,∅,Ui (n:=r6.toNat) (λi z=>z=.int (0+(i:Int))) (λD i ys H'=>ZF p H4 H'/\ZN H' p/\H4 D=none/\∃ ws:jo,ys=iN ws/\ws.length<=i/\∀ b∈ws,b∈g.lv) (Ye ∅)
   (λD i ys H3 hi _=>hi) (λD i ys H3 x H4 hi _ hy=>hy) (λD ys H3 _=>zY _) (λD hD=>⟨ZF.of (ZX hD _),W4.same (ZX hD _),hD,[],Z,zY _,λb hb=>by cases hb⟩) (λD i ys H' z eD o0 hi hz hP R hR=>?_) (λLW ys H5 eW hP=>?_)⟩
 ·let⟨s',W',nD,ws,rfl,m9,a9⟩:=hP;exists _,Z,_,Z,p,q,_,Z,W',qp,s' _ _ c8 qp,by rw[show (iN g.lv).length=g.lv.length from zX _,a7];exact l0,by rw[show (iN g.lv).length=g.lv.length from zX _];lia
  intro x l4 i5 l7 hx;let⟨b,hb,rfl⟩:=zO.mp hx;let Dp:D≠p:=λz=>by
   let⟨xs,l⟩:=W4.some;rw[z,l] at nD;cases nD
  refine hR _ l4 (i5 _ _ eD Dp) ⟨λc o e n=>by rw[ZU (Za e nD)];exact i5 _ _ (s' _ _ e n) n,OM l7 (λo e=>by rw[ZU (Ne.symm Dp)];exact e),nD,ws++[b],by simp[iN],by simp;lia,λy hy=>?_⟩
  rcases yQ.mp hy with z | z
  ·exact a9 y z
  ·rw[yY.mp z];exact hb
 let⟨x5,W5,i3,ws,rfl,m9,a9⟩:=hP;let l5:LW≠p:=λz=>by
  let⟨xs,l⟩:=W4.some;rw[z,l] at i3;cases i3
 refine GR Z W5 λH6 lb rs x6 W6 o1 B=>?_;let Y:ZF p H1 H6:=(((x2.trans (ZF.of g3)).trans x4).trans x5).trans x6;let S6:=S1.sx O1 a3 Y;let c7:=x6 _ _ eW l5;let i9:ZQ H6 T qU:=ZQ.ext i8 ⟨λb φ e=>Y _ _ e (ZE e a3),λb φ e=>Y _ _ e (ZE e a3)⟩;clear hq c8 eW x5 x4 x2 W5 W4 W3 W2 S2 a0;let⟨e9,ls,U6,n6⟩:=S6.sh;let⟨l9,a2⟩:=U6.sh.sh.self;exists _,Z,j.S,l9,_,(by rw[e1]),a2,Z,j.S,j.d,j.lk,g.ts,g.lv,g.av,g.ho,j.as,e9,ls,(by rw[e1];rfl),U6.sh
 intro H7 c0 c1 I R7;let S7:=ZJq S6 U6 c1 I R7;let U7:XB gt jg jh H7 j.S j.d c0 g.ts g.lv g.av g.ho j.as e9 []:=⟨R7,U6.wf,U6.vl,U6.av,U6.live,U6.l800⟩;let U:∀ c xs,H6 c=some (.lst xs)->H7 c=some (.lst xs):=λc xs e=>I _ _ (ZE e a2) e;let a4:=U _ _ c7;let u:ZQ H7 T qU:=ZQ.ext i9 ⟨λb φ e=>I _ _ (ZE e a2) e,λb φ e=>I _ _ (ZE e a2) e⟩;let⟨o2,a8,_⟩:=id u;refine Dn (Mq (spB:=WZ gt jg jh C) (ws:=[.ref j.S,.int n5,.int x,.ref LW,.ref lb]) (λf c' co pm n8 m4=>Mp (by decide +kernel) (by decide +kernel) (by decide +kernel) Z Z Z (by decide +kernel) m4 λA c2 s H ws Q E hr h=>?_) Z (R3 x) u Z (λi y v J G=>?_) (λHL Q' E' c6 l8=>?_) λH8 t m2 l1 ht=>?_)
 ·let⟨_,_,_,_,_,_,_⟩:=id h;exact⟨_,Ob (E:=E) DC (hr.mono ∅) (Yv (E1:=E) Os λ_ _ _ h=>h) (Vo (pv 0) (Vo (pv 1) (Vo (pv 2) (Ze (pv 3) (pv 4))))),_,Z,_,Z,_,Z,_,Z,_,Z,h⟩
 ·let i2:=(yH.mp G).1
  match i,i2,J,G with
  | 0,_,J,G=>cases J;cases G;exact⟨2,Z,by rw[e1];rfl⟩
  | 1,_,J,G=>cases J;cases G;exact⟨8,Z,Z⟩
  | 2,_,J,G=>cases J;cases G;exact⟨7,Z,Z⟩
  | 3,_,J,G=>cases J;cases G;exact⟨10,Z,Z⟩
  | 4,_,J,G=>cases J;cases G;exact⟨11,Z,Z⟩
  | i+5,i2,_,_=>exact absurd (show i+5<5 from i2) ∅
 ·exact .mk (U7.frame (M4 U7.sh u c6)) ∅ hx (c6 _ _ (ZE a4 a8) a4) ∅ a9 l8
 exists _,Z,Zu;intro t2 n3;let g9:=ZX n3 (.tup [.str "twig",.int x]);refine⟨.ref t,.ref t2,.tup [.str "twig",.int x],5,Z,.tup (g9 _ _ ht) (.cons (.str _) (.cons (.int _) .nil)),.tup ZO (.cons (.str _) (.cons (.int _) .nil)),Z,by decide,λa5 i6=>⟨_,Z,Zm ?_⟩⟩
 let s8:=g9.trans i6;clear g9 i6;let r:∀ c o,c≠T->H7 c=some o->a5 c=some o:=λc o n e=>s8 _ _ (m2 c o n e);let l6:LS gt jg jh a5 { j with lk:=c0 } g:=K9 S7 λc o z e=>r _ _ (ZE e a8 (z _)) e;let c3:=ZQ.ext l1 (YV.same s8);let pT:p≠T:=λz=>by
  let⟨xs,l⟩:=W6.some;have:=U _ _ l;rw[z,a8] at this;cases this
 let c5:∀ H':Hp,ZD a5 H'->Q (.bl true) H':=λH' s'=>by
  refine k H' { j with lk:=c0 } g (λc o e v=>?_) (OM W6 λo e=>?_) (l6.same s') ⟨λz=>?_,O1.gl,O1.tl,O1.tw⟩ a6 a7 m0 (ZQ.ext c3 (YV.same s'))
  ·let⟨v1,k1⟩:=e8 c o e v;let h6:∃ o',H6 c=some o':=by
    by_cases z:c=p
    ·subst z;let⟨xs,l⟩:=W6.some;exact⟨_,l⟩
    ·exact⟨o,Y _ _ (k1 z) z⟩
   let⟨o',h6⟩:=h6;let⟨w1,w2,w3,w4,w5,w6,w7⟩:=v1;exact⟨⟨w1,w2,Za h6 c1,w4,w5,w6,w7⟩,λn1 n2=>s' _ _ (r _ _ n2 (I _ _ w1 (Y _ _ (k1 n1) n1)))⟩
  ·let⟨xs,l⟩:=W6.some;let eo:o=.lst xs:=zG.inj (e.symm.trans l);subst eo;exact s' _ _ (r _ _ pT (U _ _ l))
  ·let⟨xs,l⟩:=W6.some;exact Za l c1 z.symm
 refine⟨_,Z,Z,_,Z,X7 (λ_=>c5 _ (ZD.refl _)) λ_=>?_⟩;let c4:=M4 R7 u r;let⟨dS,hS⟩:=c4.sh.self;exists _,Z,j.S,dS,_,(by rw[e1]),hS,Z
 rw[<-e1];refine .mk c4.sh λq2 n0=>⟨Zu,λe0 i4=>⟨q2,e0,[],Z,Z,ZM.of (ZX i4 _ _ _ ZO),ZM.of ZO,c5 _ ((ZX n0 _).trans (ZX i4 _))⟩⟩
def BJ(K:zZ):TE:=Q0 (Pc K) (VF (Z9 (VF Y0) (Z9 (VF (Z9 (Y7 7) Y0)) (Z9 (VF (Z9 (Y7 8) (Z9 (Y7 8) Y0))) (Z9 (VF (Z9 (Y7 7) (Z9 (Y7 8) (Z9 (Y7 7) (Z9 (Y7 7) (Z9 (Y7 7) Y0)))))) Y0))))) (OI YK [] E0 (Z9 (Y7 0) (Z9 (tC (.int 4)) Y0)))
inductive OQ(n far:Int):jw->Prop
 | nil:OQ n far []
 | one:OQ n far [n]
 | two:OQ n far [far,far]
 | five:OQ n far [n,far,n,n,n]
def ZPr{K:zZ}{E:L2.St}{H:Hp}{p:aj}{n d:Int}{Q:VK}(L:E[0]? = some (some (.ref p)))(t:E[7]? = some (some (.int n)))(J:E[8]? = some (some (.int d)))(W:ZN H p)(k:∀ (f:Hp) (l:aj) (g:jw),ZF p H f->ZN f p->H l=none->f l=some (.lst (g.map V.int))->OQ n d g->Q (.ref l) f):BJ K E H Q:=by
 exists Zu;intro h M;let s:=ZX M (.lst []);exists _,t,Zu;intro j T;let B:=ZX T (.lst [.int n]);exists _,J,_,J,Zu;intro m U;let I:=ZX U (.lst [.int d,.int d]);refine⟨_,t,_,J,_,t,_,t,_,t,Zu,λq X=>⟨Zu,λD Y=>?_⟩⟩;let R:=ZX X (.lst [.int n,.int d,.int n,.int n,.int n]);let S:=ZX Y (.lst [.ref h,.ref j,.ref m,.ref q]);let e5:=ZO (H:=upd (upd (upd (upd H h (.lst [])) j (.lst [.int n])) m (.lst [.int d,.int d])) q (.lst [.int n,.int d,.int n,.int n,.int n])) (a:=D) (o:=.lst [.ref h,.ref j,.ref m,.ref q]);let A:=R.trans S;let y:=I.trans A;let w:=B.trans y;let v:=s.trans w;let F:=w _ _ ZO;let G:=y _ _ ZO;let e3:=A _ _ ZO;let e4:=S _ _ ZO;let N:=s.free T;let O:=s.free (B.free U);let P:=s.free (B.free (I.free X));let f5:=s.free (B.free (I.free (R.free Y)));generalize upd (upd (upd (upd (upd H h (.lst [])) j (.lst [.int n])) m (.lst [.int d,.int d])) q (.lst [.int n,.int d,.int n,.int n,.int n])) D (.lst [.ref h,.ref j,.ref m,.ref q])=H9 at *;let⟨xs,hp⟩:=W.some;exists _,L,p,4,Z,W.same v,Wh (by decide) (by decide)
 intro r f r0 r1 W' s';let x:=(ZF.of v).trans s';let pn:∀ c,H c=none->c≠p:=λc e=>(Za hp e).symm;let u:∀ c o,H9 c=some o->H c=none->f c=some o:=λc o e n=>s' c o e (pn c n);let h9:=u _ _ e5 f5;let C:∀(i:Nat)(l:aj)(g:jw),r=(i:Int)->[V.ref h,.ref j,.ref m,.ref q][i]? = some (.ref l)->H l=none->f l=some (.lst (g.map V.int))->OQ n d g->Pc K (.ref D) (.int r) f Q:=λi l g F G nl hl b=>.inl ⟨D,_,r,.ref l,Z,Z,ZM.of h9,by rw[F];exact X1 G,k f l g x W' nl hl b⟩
 let c:r=0\/r=1\/r=2\/r=3:=∅
 rcases c with z | z | z | z
 ·exact C 0 h [] z Z M (u _ _ F M) .nil
 ·exact C 1 j [n] z Z N (u _ _ G N) .one
 ·exact C 2 m [d,d] z Z O (u _ _ e3 O) .two
 ·exact C 3 q [n,d,n,n,n] z Z P (u _ _ e4 P) .five
def ZNl{c:jo}{n:Nat}{a:Int}{b:jw}(h:OQ (n:Int) a b)(i:n∈c)(e:Z2 c a=false):b.find? (λx=>!Z2 c x)=(if P6 (.int a) (b.map V.int)=true then some a else none)/\(b.find? (λx=>!Z2 c x)=none->b.length<2)/\b.length<=5:=by
 let d:Z2 c (n:Int)=true:=by simp[Z2,i]
 let j:(n:Int)≠a:=λz=>by rw[z,e] at d;cases d
 let f:UJ (.int a) (.int a)=true:=by simp[UJ]
 let g:UJ (.int (n:Int)) (.int a)=false:=by simp[UJ,j]
 cases h with
 | nil=>exact⟨Z,λ_=>by decide,by decide⟩
 | one=>simp[P6,g,d]
 | two=>simp[P6,f,e]
 | five=>simp[P6,f,g,d,e]
def KY(r:Rf):KT:=.tup (match r.2 with
 | none=>[.str (Pr r.1)]
 | some x=>[.str (Pr r.1),.int x])
def FZ{H:Hp}{r:Rf}{t:aj}(h:H t=some (.tup (Og r))):ZG H (KY r) (.ref t):=by
 let⟨j,x⟩:=r
 cases x with
 | none=>exact .tup h (.cons (.str _) .nil)
 | some x=>exact .tup h (.cons (.str _) (.cons (.int _) .nil))
def ZM1(r:Rf):(KY r).wide 5=true:=by
 let⟨j,x⟩:=r;cases x <;> rfl
def ZO6{X:Cx}{a b c d:jx}{r s u v p:aK}{e f g h:TA}{t:TE}{i:Expr}{q:aK}(j:PA X a e)(k:PA X b f)(l:PA X c g)(m:PA X d h)(n:PE X i t)(o:MS i):PE X (.Subscript (.List [.List a r,.List b s,.List c u,.List d v] p) i q) (Q0 (Pc X.K) (VF (Z9 (VF e) (Z9 (VF f) (Z9 (VF g) (Z9 (VF h) Y0))))) t):=
 Lz (Yp j) (Yp k) (Yp l) (Yp m) n o
def ZQf{R G:Prop}(h:R->G)(r:R):G:=h r
def Di{c d:Type}(A:c->d->Prop){R:c->d->Prop}{G:Prop}(h:(∀ a b,A a b->R a b)->G)(r:∀ a b,A a b->R a b):G:=h r
abbrev qA:Str:=("_law_amiss" ++ ".<locals>.") ++ "<lambda>"
abbrev ID:jK:=[("_law_shelf",3),("_law_number",2)]
abbrev OA:jK:=[("_law_shelf",3),("_law_number",2),("_law_bad",1)]
abbrev Pk:jK:=[("_law_wrong_here",4),("_law_shelf",3),("_law_number",2)]
abbrev IH:jq:=["_law_well_here","_law_state","_law_shelf","_law_twigs","_law_holds","_law_grid_here","_law_told","_law_number","_law_far","_law_first","_law_bad","_law_wrong_here","_law_due"]
def Um:ZB IH zEc (Zf Uv):=YA
inductive WM(gt:jp)(jg jh T:aj):Sp
 |mk{p d:aj}{a:Pl}{m:Md}{H:Hp}{Q:VK}{E:XK}:ZN H p->H d=some (.tup (WE a))->LS gt jg jh H a m->Wk a m p->0<m.lv.length->m.lv.length<=60->ZQ H T qA->(∀ b:Hp,(∀ c o,c≠p->c≠T->H c=some o->b c=some o)->LS gt jg jh b a m->ZQ b T qA->Q (.bl true) b)->WM gt jg jh T [.ref p,.ref d] H Q E
def Fy(s:aC):Arguments×Expr×Scope:=match s with
 | .Return (some (.Call _ (.Call _ [.Lambda a b c _] _ _::_) _ _)) _=>(a,b,c)
 | _=>(⟨[],[],none,[],[],none,[]⟩,.Name "" ⟨0,0,0,0⟩,(Zf Uv))
def ifB(s:aC):List Stmt:=match s with
 | .If _ b _ _=>b
 | _=>[]
def Xk:Arguments×Expr×Scope:=Fy ((ifB ((Xz Uv).getD 7 (.Pass ⟨0,0,0,0⟩))).getD 2 (.Pass ⟨0,0,0,0⟩))
def Xp:Arguments×Expr×Scope:=Fy ((Xz Uv).getD 10 (.Pass ⟨0,0,0,0⟩))
def ZLO{gt:jp}{C:Nat->aj}{f b:aj}{j:aJ}{l a:ai}{n:Nat}(L:YT K mg jg jh)(i:ZA P w K mg jX (Zg P w) 10 jg "change_leaf" zEt (Z6 gt jg jh C))(e:Y2 j qA):
  ZH P w K mg jX (Zg P w) 70 f (vP "<lambda>" qA Xk.1 Xk.2.1 Xk.2.2 (Yd OA n) l (.ref b) a) [] (NN f b (xK "<lambda>" qA Xk.1 Xk.2.1 Xk.2.2 (Yd OA n) l b a) j (Yd OA n) zE3 (Z6 gt jg jh C)):=by
 refine Mp (by decide +kernel) (by decide +kernel) (by decide +kernel) Z Z Z (by decide +kernel) e λA g s H m Q E k h=>?_
 cases id h with
 | nt R _ _=>
  let⟨c,d⟩:=R.self;exact⟨_,YL (E:=E) (pv 0) L.cS i (k.mono ∅) (Yv (E1:=E) Os λ_ _ _ h=>h) (Ze (pv 1) (pv 2)),_,Z,_,c,_,Z,d,Z,_,Z,_,Z,h⟩
 | mk U _ _ _ _ _ _ _=>
  let⟨c,d⟩:=U.sh.sh.self;exact⟨_,YL (E:=E) (pv 0) L.cS i (k.mono ∅) (Yv (E1:=E) Os λ_ _ _ h=>h) (Ze (pv 1) (pv 2)),_,Z,_,c,_,Z,d,Z,_,Z,_,Z,h⟩
def ZKn{gt:jp}{C:Nat->aj}{f b:aj}{j:aJ}{l a:ai}{n:Nat}(L:YT K mg jg jh)(i:ZA P w K mg jX (Zg P w) 10 jg "change_stem" zEq (Z8 gt jg jh C))(e:Y2 j qA):
  ZH P w K mg jX (Zg P w) 70 f (vP "<lambda>" qA Xp.1 Xp.2.1 Xp.2.2 (Yd Pk n) l (.ref b) a) [] (NN f b (xK "<lambda>" qA Xp.1 Xp.2.1 Xp.2.2 (Yd Pk n) l b a) j (Yd Pk n) zEy (Z8 gt jg jh C)):=by
 refine Mp (by decide +kernel) (by decide +kernel) (by decide +kernel) Z Z Z (by decide +kernel) e λA g s H m Q E k h=>?_
 cases id h with
 | nt R _ _=>
  let⟨c,d⟩:=R.self;exact⟨_,YL (E:=E) (pv 0) L.cS i (k.mono ∅) (Yv (E1:=E) Os λ_ _ _ h=>h) (Ze (pv 1) (pv 2)),_,Z,_,c,_,Z,d,Z,_,Z,_,Z,h⟩
 | mk U _ _ _ _ _ _=>
  let⟨c,d⟩:=U.sh.sh.self;exact⟨_,YL (E:=E) (pv 0) L.cS i (k.mono ∅) (Yv (E1:=E) Os λ_ _ _ h=>h) (Ze (pv 1) (pv 2)),_,Z,_,c,_,Z,d,Z,_,Z,_,Z,h⟩
def Gi{N c:jq}{u v w:V}{d:L2.St}{g h k:Str}{j0 j1 j2:Nat}(o:N=[g,h,k])(l:c[j0]? = some g)(m:c[j1]? = some h)(n:c[j2]? = some k)(p:d[j0]? = some (some u))(q:d[j1]? = some (some v))(r:d[j2]? = some (some w)):∀(i:Nat)(x:Str)(z:V),N[i]? = some x->[u,v,w][i]? = some z->∃ j:Nat,c[j]? = some x/\d[j]? = some (some z):=λi x z b a=>by
 subst o;let e:=(yH.mp a).1
 match i,e,b,a with
 | 0,_,b,a=>cases b;cases a;exact⟨j0,l,p⟩
 | 1,_,b,a=>cases b;cases a;exact⟨j1,m,q⟩
 | 2,_,b,a=>cases b;cases a;exact⟨j2,n,r⟩
 | i+3,e,_,_=>exact absurd (show i+3<3 from e) ∅
inductive VY(b c d:aj)(K:zZ)(g:je)(H:Hp)(Q:VK)(_:XK):Prop
 |mk(a:aj)(e:jw)(_:g=[.ref a])(_:ZM K H a (e.map V.int))(_:e.length<=63)(_:H b=some (.tbl #[]))(_:H c=some (.tbl #[]))(_:H d=some (.tbl #[]))(_:b≠c)(_:b≠d)(_:c≠d)(_:∀ f,Q (.bl true) f)
def BZ{K:zZ}{H c:Hp}{a:aj}{d:je}(m:∀ b o,H b=some o->(∀ e,o≠.tbl e)->c b=some o)(h:ZM K H a d):ZM K c a d:=by
 rcases h with (h | ⟨o,h⟩) | h
 ·exact .inl (.inl (m _ _ h (by intro _ z;cases z)))
 ·exact .inl (.inr ⟨o,m _ _ h (by intro _ z;cases z)⟩)
 ·exact .inr h
def U8(a:jp->Sp):Sp:=λb H Q E=>∃ g,a g b H Q E
def Nz{P:am}{w:aw}{K:zZ}{n:jb}{e:aD}{l:Wu}{k:Nat}{f:aj}{m:ao}{o:jq}{p:jp->Sp}(h:∀ g,ZH P w K n e l k f m o (p g)):ZH P w K n e l k f m o (U8 p):=
 ⟨λj H Q E ⟨g,x⟩=>(h g).len j H Q E x,λA i s H args q j Q E a b c d ⟨g,x⟩=>(h g).run A i s H args q j Q E a b c d x⟩
inductive VZ(jg jh T:aj)(e:je)(H:Hp)(Q:VK)(_:XK):Prop
 |mk(p:aj)(_:e=[.ref p,.int 12,.int 8])(_:ZN H p)(_:ZQ H T qS)(_:∀(b:Hp)(d:aj)(gt:jp)(a:Pl)(m:Md),(∀ c o,H c=some o->Zi a m c/\(c≠p->c≠T->b c=some o))->b d=some (.tup (WE a))->LS gt jg jh b a m->m.ts.length<=20->12<=m.lv.length->m.lv.length<=20->Q (.ref d) b)
abbrev Ba:jq:=["_law_well_here","_law_leaves","_law_stems","_law_state","_law_j"]
def Ug:ZB Ba zEm (Zf KB):=YA
def BD{T:aj}(F:Zn K "_law_begun" "_law_begun" KB f fd)(X:YY mg)(L:YT K mg jg jh)(DI:Ut P w K mg jX 1 jg zEi (QP jg))(DG:ZC P w K mg jX 2 "_law_grid" zE8 UR)(e7:ZC P w K mg jX 11 "_law_put_leaf" zEn (U8 λgt=>XY gt jg jh))(e8:ZC P w K mg jX 72 "_law_put_stem" zEc (U8 λgt=>Xe gt jg jh T)):
  ZH P w K mg jX Zd 73 f fd zEm (VZ jg jh T):=by
 refine F.ko Ug λl9 A l5 s H vs Q E hr h=>?_;let⟨p,rfl,W,e2,k⟩:=h;let nd:=Ug.nd;let c9:=hr.mono (show 2<=72 by lia)
 let c8:=hr.mono (show 11<=72 by lia)
 intro Xc;refine⟨_,ZP (Zx 3 nd (Yg (CG (ZOO DI c9 rfl L.shelf) Kq Kq (Zr DG c9 (ZT (pv 0))) (Yp Zw))))
  (ZP (VM PassesOwn.never rfl (OP rfl X.range (ZT (pv 1))) (Yc 4 nd) (ZV (Zo (Xj (YU (Zr e7 c8 (Vo (pv 0) (Ze (pv 3) (pv 4)))))) Xa Zt)))
  (ZP (VM PassesOwn.never rfl (OP rfl X.range (ZT (pv 2))) (Yc 4 nd) (ZV (Zo (Xj (YU (Zr e8 hr (Ze (pv 0) (pv 3))))) Xa Zt)))
  (ZV (Zl (pv 3))))),?_⟩
 let⟨m6,R⟩:=W.some;intro S e nS ne z1;let i1:∀ b o,H b=some o->upd (upd H e (.own S)) S (.ins jg e []) b=some o:=λb o q=>by
  rw[ZU (Za q nS),ZU (Za q ne)];exact q
 let f1:∀ b,upd (upd H e (.own S)) S (.ins jg e []) b=none->H b=none:=λb q=>by
  cases z:H b with
  | none=>rfl
  | some o=>rw[i1 b o z] at q;cases q
 refine⟨S,e,Z,ZO,λH1 d lk i0 i9 a2 m0 R1=>⟨Z,?_⟩⟩;let e0:ZD H H1:=λb o q=>i0 b o (Za q nS) (i1 b o q);intro B a7;let g2:=ZX a7 (.dK []);intro r a6;let g3:=ZX a6 (.dK []);let a4:upd (upd H1 B (.dK [])) r (.dK []) B=some (.dK []):=g3 _ _ ZO;let a3:upd (upd H1 B (.dK [])) r (.dK []) r=some (.dK []):=ZO;let c0:=g2.trans g3;let e9:B≠r:=Za ZO a6;let a1:H1 r=none:=g2.free a6;generalize upd (upd H1 B (.dK [])) r (.dK [])=H3 at a4 a3 c0⊢;let a9:=e0.trans c0;let R3:=R1.same c0;exists _,Z,p,Z,W.same a9;intro gl gs gt H4 s4 W4 a8 c6 c7 i5 i6 i8;exists Zu;intro u G;let g5:=ZX G (.lst []);exists Zu;intro J l0;let g6:=ZX l0 (.tup [.ref S,.ref B,.ref r,.ref gl,.ref u]);let c1:upd (upd H4 u (.lst [])) J (.tup [.ref S,.ref B,.ref r,.ref gl,.ref u]) u=some (.lst []):=g6 _ _ ZO;let a0:upd (upd H4 u (.lst [])) J (.tup [.ref S,.ref B,.ref r,.ref gl,.ref u]) J=some (.tup [.ref S,.ref B,.ref r,.ref gl,.ref u]):=ZO;let U:=g5.trans g6;generalize upd (upd H4 u (.lst [])) J (.tup [.ref S,.ref B,.ref r,.ref gl,.ref u])=H6 at c1 a0 U⊢;let O:=a9 _ _ R;let D:∀ c o,c≠p->H3 c=some o->H6 c=some o:=λc o n q=>U _ _ (s4 _ _ q n);let⟨⟨dS,c2⟩,c5,N⟩:=R3;let m1:H S=none:=nS;let a5:lk≠p:=(Za R (f1 _ a2)).symm;let i2:gl≠p:=λz=>by rw[z,O] at a8;cases a8
 let e5:u≠p:=λz=>by
  let⟨xs,q⟩:=W4.some;rw[z,q] at G;cases G
 let n4:∀ c o,c≠p->H3 c=some o->H4 c=some o:=λc o n q=>s4 _ _ q n;let A0:LS gt jg jh H6 ⟨S,d,lk,B,r,gl,u,[],[]⟩ ⟨[],[],λ_=>[],λ_=>0⟩:=by
  let e6:Lv [] []:=⟨λi h=>(by cases h),λi h=>(by cases h),.nil⟩
  refine⟨⟨[],[],⟨⟨⟨⟨dS,D _ _ (ZE c2 O) c2⟩,D _ _ (ZE c5 O) c5,D _ _ a5 N⟩,Z,λi g=>absurd g (by simp),λi g=>absurd g (by simp),Z,λi g=>absurd g (by simp),λi g=>absurd g (by simp),λi j g=>absurd g (by simp)⟩,λi t q=>by simp at q,e6,λi g=>absurd g (by simp),λi g=>absurd g (by simp),by simp⟩,by simp⟩,
   ⟨[],D _ _ (ZE a4 O) a4,e6,Z,Z,λi g=>absurd g (by simp)⟩,⟨[],D _ _ (ZE a3 O) a3,Z,λi g=>absurd g (by simp)⟩,⟨gs,U _ _ c6,c7.sm U,i5,by rw[c7.length,i6],i8⟩,c1,?_,?_,λi g=>absurd g (by simp),λi g=>absurd g (by simp),by simp,by simp⟩
  ·let⟨_,c4,_⟩:=id R1;exact⟨(Za c4 a7).symm,(Za c4 a1).symm,e9⟩
  ·exact⟨(Za (n4 _ _ a5 N) G).symm,(Za c6 G).symm,Za N a8⟩
 let O0:Wk ⟨S,d,lk,B,r,gl,u,[],[]⟩ ⟨[],[],λ_=>[],λ_=>0⟩ p:=⟨a5,i2,e5,λi g=>absurd g (by simp)⟩
 let V0:∀ c o,H c=some o->Zi ⟨S,d,lk,B,r,gl,u,[],[]⟩ ⟨[],[],λ_=>[],λ_=>0⟩ c/\(c≠p->H6 c=some o):=λc o q=>by
  let q1:=e0 _ _ q;let q3:=a9 _ _ q;let l6:c≠u:=by
   by_cases y:c=p
   ·rw[y];exact e5.symm
   ·exact Za (n4 _ _ y q3) G
  exact⟨⟨Za q nS,Za q (f1 _ i9),Za q (f1 _ a2),Za q1 a7,Za q1 a1,l6,λi g=>absurd g (by simp)⟩,λy=>D _ _ y q3⟩
 let W6:ZN H6 p:=W4.same U;let e1:J≠p:=λz=>by
  let⟨xs,q⟩:=W6.some;rw[z,q] at a0;cases a0
 let⟨m2,i3,_⟩:=id e2;let Tp:T≠p:=ZE i3 R;let e3:ZQ H6 T qS:=ZQ.ext e2 ⟨λb φ e=>(V0 _ _ e).2 (ZE e R),λb φ e=>(V0 _ _ e).2 (ZE e R)⟩;refine⟨_,Z,12,Z,by decide,by decide,Pv (n:=12) (λi σ M=>∃(x:jf)(a:Pl)(m:Md),σ=[some (.ref p),some (.int 12),some (.int 8),some (.ref J),x]/\M J=some (.tup (WE a))/\ZN M p/\LS gt jg jh M a m/\Wk a m p/\m.ts.length=i/\m.lv.length=i/\ZQ M T qS/\∀ c o,H c=some o->Zi a m c/\(c≠p->c≠T->M c=some o))
  ⟨none,⟨S,d,lk,B,r,gl,u,[],[]⟩,⟨[],[],λ_=>[],λ_=>0⟩,Z,a0,W6,A0,O0,Z,Z,e3,λc o e=>⟨(V0 c o e).1,λn _=>(V0 c o e).2 n⟩⟩ ?_ ?_⟩
 ·rintro i σ H7 g ⟨x,a,m,rfl,l,W7,A7,O7,l7,v7,C,V7⟩;refine⟨_,Z,_,Z,_,Z,gt,p,J,_,a,m,Z,W7,l,A7,O7,∅,∅,∅,∅,λH8 a' m' I W8 A8 O8 eS el ev=>⟨_,Z,Zm ⟨_,a',m',Z,?_,W8,A8,O8,∅,by rw[ev,yZ,xA];lia,?_,λc o q=>?_⟩⟩⟩
  ·rw[eS];exact(I _ _ l (A7.tup l)).2 e1
  ·let⟨m5,i7⟩:=W7.some;exact A7.tabs i7 C λc o e v n=>(I c o e v).2 n
  ·let⟨v1,v2⟩:=V7 c o q;by_cases y:c=p
   ·subst y;let⟨xs,q'⟩:=W7.some;exact⟨(I _ _ q' v1).1,λz=>absurd Z z⟩
   ·by_cases y2:c=T
    ·subst y2;let⟨m3,i4,_⟩:=id C;exact⟨(I _ _ i4 v1).1,λ_ z=>absurd Z z⟩
    ·exact⟨(I _ _ (v2 y y2) v1).1,λ_ _=>(I _ _ (v2 y y2) v1).2 y⟩
 ·rintro σ H7 ⟨x,a,m,rfl,l,W7,A7,O7,l7,v7,C,V7⟩;refine⟨_,Z,8,Z,by decide,by decide,Pv (n:=8) (λi σ M=>∃(x:jf)(a:Pl)(m:Md),σ=[some (.ref p),some (.int 12),some (.int 8),some (.ref J),x]/\M J=some (.tup (WE a))/\ZN M p/\LS gt jg jh M a m/\Wk a m p/\m.ts.length<=12+i/\12<=m.lv.length/\m.lv.length<=12+i/\ZQ M T qS/\∀ c o,H c=some o->Zi a m c/\(c≠p->c≠T->M c=some o))
   ⟨x,a,m,Z,l,W7,A7,O7,∅,∅,∅,C,V7⟩ ?_ ?_⟩
  ·rintro i σ H8 g ⟨x,a,m,rfl,l,W8,A8,O8,l8,v8,u8,Y,V8⟩;let⟨m4,c3,_⟩:=id Y;refine⟨_,Z,_,Z,gt,p,J,a,m,Z,W8,l,A8,O8,∅,∅,∅,Y,λH9 a' m' I A9 W9 O9 eS l1 l2 l3 l4 e4=>⟨_,Z,Zm ⟨_,a',m',Z,?_,W9,A9,O9,∅,∅,∅,e4,λc o q=>?_⟩⟩⟩
   ·rw[eS];exact(I _ _ l (A8.tup l)).2 e1 (ZE l c3)
   ·let⟨v1,v2⟩:=V8 c o q;by_cases y:c=p
    ·subst y;let⟨xs,q'⟩:=W8.some;exact⟨(I _ _ q' v1).1,λz=>absurd Z z⟩
    ·by_cases y2:c=T
     ·subst y2;exact⟨(I _ _ c3 v1).1,λ_ z=>absurd Z z⟩
     ·exact⟨(I _ _ (v2 y y2) v1).1,λ_ _=>(I _ _ (v2 y y2) v1).2 y y2⟩
  ·rintro σ H8 ⟨x,a,m,rfl,l,W8,A8,O8,l8,v8,u8,Y,V8⟩;exact⟨_,Z,k _ J gt a m V8 l A8 ∅ ∅ ∅⟩
def Ha{H g:Hp}{T a:aj}{q:Str}{w:jz}(d:ZQ H T q)(t:H a=some (.tbl w))(n:T≠a)(i:∀ c o,c≠a->(∀ f,o≠.lst f)->(∀ C p r,o≠.ins C p r)->(∀ f,o≠.dK f)->H c=some o->g c=some o):ZQ g T q:=by
 let⟨y,u,s,v⟩:=d;exists y,i _ _ n (by intro _ z;cases z) (by intro _ _ _ z;cases z) (by intro _ z;cases z) u,s
 intro b m h;let⟨k,l,e,j,x⟩:=v b m h;exact⟨k,l,e,i _ _ (ZE j t) (by intro _ z;cases z) (by intro _ _ _ z;cases z) (by intro _ z;cases z) j,x⟩
def ZQg{a:Type}(A:a->Prop){R:a->Prop}{G:Prop}(h:(∀ x,A x->R x)->G)(r:∀ x,A x->R x):G:=h r
structure Hg(gt:jp)(jg jh st T2 T3:aj)(H0 H:Hp)(n:Nat):Prop where
 ex:∃(a:Pl)(m:Md),H st=some (.tup (WE a))/\LS gt jg jh H a m/\m.ts.length<=n/\12<=m.lv.length/\m.lv.length<=20/\ZQ H T2 qU/\ZQ H T3 qA/\∀ c o,H0 c=some o->(∀ ps,o≠.tbl ps)->Zi a m c/\H c=some o
abbrev ZQj:jq:=["_law_script","_law_state","_law_k","_law_well_here"]
def Pp:ZB ZQj zFf (Zf PX):=YA
def B3{T1 T2 T3:aj}(F:Zn K "law" "law" PX f fd)(X:YY mg)(DW:ZC P w K mg jX 1 "_law_well" zE2 (UH K))(DP:ZC P w K mg jX 1 "_law_pull" zEf YK)(DB:ZC P w K mg jX 73 "_law_begun" zEm (VZ jg jh T1))(DU:ZC P w K mg jX 72 "_law_unknown" zEc (U8 λgt=>XQ gt jg jh T2))(DA:ZC P w K mg jX 72 "_law_amiss" zEc (U8 λgt=>WM gt jg jh T3))(DE:ZC P w K mg jX 8 "_law_exact" zEo (U8 λgt=>WH gt jg jh)):ZH P w K mg jX Zd 80 f fd zFf (VY T1 T2 T3 K):=by
 refine F.ko Pp λl0 A i5 s H vs Q E hr h=>?_;let⟨z,O,rfl,c6,hn,c7,a4,a7,e9,i0,c3,k⟩:=h;let nd:=Pp.nd;let c1:=hr.to 1;let e0:=hr.to 8;let J:=hr.to 72;let c9:=hr.to 73;intro Xc;refine⟨_,ZP (Zx 1 nd (Zr DB c9 (Vo (Zr DW c1 (Ze (pv 0) ZJ)) (Ze ZJ ZJ))))
  (ZP (Zo (Qq (Mm (pv 1))) Xa Zt)
  (ZP (VM PassesOwn.never rfl (N7 rfl X.range (Ze ZJ (Zq (EX rfl) rfl X.max Oo (Ze ZJ (Zq (Eo rfl) rfl X.min ZN4 (Ze (Zq WK rfl X.len Xu (ZT (pv 0))) ZJ)))))) (Yc 2 nd)
   (ZP (Zx 3 nd (Zr DW c1 (Ze (pv 0) (pv 2))))
   (ZP (Zo (PW.pt (Vh (PW.pt (Px (YI Y1 (Zr DP c1 (Ze (pv 3) ZJ)) ZJ (Zz _)) (P3 (Xj (YU (Zr DU J (Ze (pv 3) (pv 1)))))))) (Up (Xj (YU (Zr DA J (Ze (pv 3) (pv 1)))))))) Xa Zt)
   (ZV (Zo (PW.pt (Px (YI Y1 (Z1 QS (pv 2) ZJ) ZJ (Zz _)) (P3 (Xj (YU (Zr DE e0 (MM (Zs K (pv 1) ZJ) (Zs K (pv 1) ZJ) (Zs K (pv 1) ZJ)))))))) Xa Zt)))))
  (ZV (Zl (Zr DE e0 (MM (Zs K (pv 1) ZJ) (Zs K (pv 1) ZJ) (Zs K (pv 1) ZJ))))))),?_⟩
 let G:∀{H:Hp}{T:aj}{q:Str},H T=some (.tbl #[])->ZQ H T q:=λhT=>⟨#[],hT,trivial,λl3 cv h=>by simp[PySem.codeAmong] at h⟩
 obtain⟨M,eM,M3,i9⟩:∃ M:Int,(if (if (41:Int)<((O.map V.int).length:Int) then (41:Int) else ((O.map V.int).length:Int)) > 16 then (if (41:Int)<((O.map V.int).length:Int) then (41:Int) else ((O.map V.int).length:Int)) else 16)=M/\16<=M/\M<=41:=by
  exists _,Z,?_
  ·(repeat' split) <;> lia
  ·(repeat' split) <;> lia
 exists _,Z,z,O,0,Z,c6,hn,∅,by lia
 intro p H1 np s1 W1;exists p,Z,W1,ZQ.ext (G c7) (YV.same s1);intro H2 D gt a m V2 e1 A2 e3 j l;let U:∀ c o,H c=some o->(∀ C,o≠.tbl C)->Zi a m c/\H2 c=some o:=λc o e q=>⟨(V2 _ _ (s1 _ _ e)).1,(V2 _ _ (s1 _ _ e)).2 (Za e np) (ZE e c7 (q _))⟩;let L2:Hg gt jg jh D T2 T3 H H2 20:=⟨a,m,e1,A2,e3,j,l,G ((V2 _ _ (s1 _ _ a4)).2 (Za a4 np) e9.symm),G ((V2 _ _ (s1 _ _ a7)).2 (Za a7 np) i0.symm),U⟩;clear V2 U A2 e1 e3 j l;let sq:∀(u:Hp),(∀ c o,H c=some o->(∀ C,o≠.tbl C)->u c=some o)->ZM K u z (O.map V.int):=λu i4=>BZ i4 c6;let c4:∀(u:Hp)(a:Pl)(m:Md)(Q':VK),LS gt jg jh u a m->(∀(H4:Hp)(a':Pl),(∀ c o,u c=some o->Zi a m c->Zi a' m c/\H4 c=some o)->(∀ T q,ZQ u T q->ZQ H4 T q)->LS gt jg jh H4 a' m->WE a'=WE a->Q' (.bl true) H4) ->
   (U8 λgt=>WH gt jg jh) [.ref a.S,.ref a.dT,.ref a.dH] u Q' E0:=λu a m Q' h2 h3=>⟨gt,a,m,Z,h2,h3⟩
 refine⟨_,Z,_,Z,Zm ?_⟩;let⟨a0,m0,_,_,_,_,_,_,_,R⟩:=L2.ex;exists _,Z,z,O.map V.int,Z,.inl (sq _ λc o e q=>(R c o e q).2),_,_,Z,_,_,Z,1,M,congrArg (λz=>[V.int 1,V.int z]) eM,⟨∅,∅,∅,∅⟩
 clear eM R;refine Pv (lo:=1) (n:=(M-1).toNat) (λi σ u=>∃(x y:jf),σ=[some (.ref z),some (.ref D),x,y]/\Hg gt jg jh D T2 T3 H u (20+i)) ⟨_,_,Z,L2⟩ ?_ ?_
 ·rintro i σ u hi ⟨x,y,rfl,a,m,L,A3,u3,j,l,t2,t3,t⟩;let⟨p2,i8,_⟩:=id t2;exists _,Z,_,Z,z,O,_,Z,sq _ λc o e q=>(t c o e q).2,hn,∅,by lia
  intro p H4 np s4 W4;let A4:=A3.same s4;let O4:=A3.off np;let c2:D≠p:=Za L np;let cp:∀ c o,H c=some o->(∀ C,o≠.tbl C)->c≠p:=λc o e q=>Za (t c o e q).2 np;let⟨l6,c0⟩:=W4.some;refine⟨_,Z,p,2,Z,W4,Wh (by decide) (by decide),λr H5 _ _ W5 x5=>⟨Z,_,Z,?_⟩⟩
  let A5:=A4.sx O4 c0 x5;let c5:YV H4 H5:=⟨λb φ e=>x5 _ _ e (ZE e c0),λb φ e=>x5 _ _ e (ZE e c0)⟩;let I:=(t2.ext (YV.same s4)).ext c5;let e5:=(t3.ext (YV.same s4)).ext c5;let d:=x5 _ _ (s4 _ _ L) c2;let W:∀ c o,H c=some o->(∀ C,o≠.tbl C)->Zi a m c/\H5 c=some o:=λc o e q=>⟨(t c o e q).1,x5 _ _ (s4 _ _ (t c o e q).2) (cp c o e q)⟩;apply ZQg (λv:Hp=>∃ a m,ZN v p/\v D=some (.tup (WE a))/\LS gt jg jh v a m/\Wk a m p/\m.ts.length<=21+i/\12<=m.lv.length/\m.lv.length<=20/\ZQ v T2 qU/\ZQ v T3 qA/\∀ c o,H c=some o->(∀ C,o≠.tbl C)->Zi a m c/\v c=some o)
  case h=>
   intro N;refine X7 (λ_=>⟨_,Z,_,Z,gt,.mk W5 d A5 O4 ∅ ∅ ∅ I λv a6 m6 kp W6 A6 O6 eS ev el e7=>⟨_,Z,Zm (N v ⟨a6,m6,W6,?_,A6,O6,∅,by rw[ev];exact j,by rw[ev];exact l,e7,?_,λc o e q=>?_⟩)⟩⟩) (λ_=>Zm (N H5 ⟨a,m,W5,d,A5,O4,∅,j,l,I,e5,W⟩))
   ·let⟨i6,a9,_⟩:=id I;rw[eS];exact(kp _ _ d (A5.tup d)).2 c2 (ZE d a9)
   ·let⟨i6,a9,_⟩:=id I;let⟨l7,i2⟩:=W5.some;exact Ha e5 a9 c3.symm λc o n nl ni nd e=>(kp c o e (A5.kd e ni nd nl)).2 (ZE e i2 (nl _)) n
   ·let⟨v1,v2⟩:=W c o e q;exact⟨(kp c o v2 v1).1,(kp c o v2 v1).2 (cp c o e q) (ZE e a4 (q _))⟩
  rintro v ⟨a,m,W6,B,A6,O6,u6,j,l,i7,e6,Y⟩;refine⟨_,Z,_,Z,gt,.mk W6 B A6 O6 ∅ ∅ e6 λH7 a3 A7 a2=>⟨_,Z,Zm ?_⟩⟩
  let⟨l4,c8,_⟩:=id e6;let⟨l8,i3⟩:=W6.some;let e4:ZQ H7 T2 qU:=Ha i7 c8 c3 λc o n nl ni nd e=>a3 c o (ZE e i3 (nl _)) n e;let g:=a3 _ _ c2 (ZE B c8) B;let a1:∀ c o,H c=some o->(∀ C,o≠.tbl C)->Zi a m c/\H7 c=some o:=λc o e q=>⟨(Y c o e q).1,a3 _ _ (cp c o e q) (ZE e a7 (q _)) (Y c o e q).2⟩;refine⟨_,Z,_,_,Z,Z,(by show (0:Int)<6;decide),Z,_,Z,X7 (λc=>?_) (λc=>?_)⟩
  ·refine⟨_,Z,.inr (.inl ⟨D,_,0,.ref a.S,rfl,rfl,Zh.of g,rfl,_,rfl,.inr (.inl ⟨D,_,1,.ref a.dT,rfl,rfl,Zh.of g,rfl,_,rfl,.inr (.inl ⟨D,_,2,.ref a.dH,rfl,rfl,Zh.of g,rfl,c4 H7 a m _ A7 λH8 a8 e2 e8 A8 i1=>⟨_,rfl,Zm ?_⟩⟩)⟩)⟩)⟩;refine⟨_,_,Z,a8,m,?_,A8,∅,j,l,e8 _ _ e4,e8 _ _ a2,λc o e q=>?_⟩
   ·rw[i1];exact(e2 _ _ g (A7.tup g)).2
   ·let⟨v1,v2⟩:=a1 c o e q;exact e2 _ _ v2 v1
  ·exact⟨_,_,Z,a,m,g,A7,∅,j,l,e4,a2,a1⟩
 ·rintro σ H5 ⟨x,y,rfl,a5,m5,d,A5,_⟩;exact⟨_,Z,.inr (.inl ⟨D,_,0,.ref a5.S,rfl,rfl,Zh.of d,rfl,_,rfl,.inr (.inl ⟨D,_,1,.ref a5.dT,rfl,rfl,Zh.of d,rfl,_,rfl,.inr (.inl ⟨D,_,2,.ref a5.dH,rfl,rfl,Zh.of d,rfl,c4 H5 a5 m5 _ A5 λv a6 l2 l5 A6 l1=>k v⟩)⟩)⟩)⟩
def ZKs{gt:jp}{CB:aj}{C:Nat->aj}{c T:aj}(F:Zn K "_law_amiss" "_law_amiss" Uv f fd)(hf:zP K ap "_law_amiss" = some (some (.ref f)))(l6:yS K "_law_amiss" = some (c,T))(CC:xZ jX c T)(a7:jX.BuiltinsAt mg T)(X:YY mg)(L:YT K mg jg jh)(R0:∀ r:Rf,(r.2=none->r.1<3)->(r.2≠none->3<=r.1/\r.1<6)->Uw K CB C r)(DP:ZC P w K mg jX 1 "_law_pull" zEf YK)(DK:ZC P w K mg jX 2 "_law_picked" zEh YZ)(m2:ZC P w K mg jX 2 "_law_shared" zEj (Xo gt))(DR:ZC P w K mg jX 8 "_law_rows_due" zFe XG)(D1:ZA P w K mg jX (Zg P w) 68 jg "let_go" zEa (XT gt jg jh (C 4)))(D7:ZA P w K mg jX (Zg P w) 10 jg "change_leaf" zEt (Z6 gt jg jh C))(D8:ZA P w K mg jX (Zg P w) 10 jg "change_stem" zEq (Z8 gt jg jh C))(DQ:ZC P w K mg jX 71 "_law_asked" zEw (YN P w K mg jX CB C))(e7:ZC P w K mg jX 7 "_law_alike" zEd (YE 6)):
  ZH P w K mg jX Zd 72 f fd zEc (WM gt jg jh T):=by
 refine F.okC hf l6 Um (λvs H Q E h=>(by let⟨_,_,_,_,_,_,_,_⟩:=h;rfl)) (λA i4 s H vs Q E hr h=>?_)
 let⟨W,m7,S0,O,l0,n8,l9,k⟩:=h;rename_i p st a m
 let nd:=Um.nd;let hu:=UC hr;let c6:=hr.mono (show 1<=71 by lia)
 let l3:=hr.mono (show 2<=71 by lia)
 let e9:=hr.mono (show 7<=71 by lia)
 let m6:=hr.mono (show 8<=71 by lia)
 let⟨fA,n5,FA,bA,kA,mA⟩:=DQ.ex;refine⟨_,ZP (Qx (pv 1) (Pg rfl (Y9 (Qr (i:=2) nd rfl (Or.inr rfl)) (Y9 (Yc 3 nd) (Y9 (Yc 4 nd) (Y9 (Yc 5 nd) (Y9 (Yc 6 nd) Pf)))))))
  (ZP (V3 (i:=7) nd rfl (Or.inr rfl) (Zr DK l3 (Ze (pv 0) (Zq (Pz rfl) rfl X.sorted PO (ZT (pv 3))))))
  (ZP (Zx 8 nd (Z1 WJ (Zq (Lk rfl) rfl X.max Oo (ZT (pv 6))) ZJ))
  (ZP (Zx 9 nd (Zr m2 l3 (Vo (pv 3) (Ze (pv 4) (pv 7)))))
  (@ZP _ _ _ _ _ (@V3 _ _ 10 _ _ _ _ nd rfl (Or.inr rfl) (@Lz _ _ _ _ _ _ _ _ _ _ _ _ _ _ _ _ _ FS (LL (P8 Vw ZJ)) (LL (P8 ZJ P1)) (HH (P8 ZJ ZJ) (P8 ZJ ZJ)) (Zr DP c6 (Ze (pv 0) ZJ)) (λ_ _=>rfl)) rfl (.inl rfl))
  (ZP (V3 (i:=11) nd rfl (Or.inr rfl) (ZO6 Zw (ZT (pv 7)) (Ze (pv 8) (pv 8)) (Vo (pv 7) (Vo (pv 8) (Vo (pv 7) (Ze (pv 7) (pv 7))))) (Zr DP c6 (Ze (pv 0) ZJ)) (λ_ _=>rfl)))
  (ZP (Zo (PW.pt (Px (YI Y1 (Zr DP c6 (Ze (pv 0) ZJ)) ZJ (Zz _)) (P3 (YI Y1 (Vg hu (pv 4) (pv 7)) ZJ (Zz _)))))
   (ZV (Zl (Zr e7 e9 (Ze (MD (cl:=Yd ID s.heap.objs.size) (N:=["_law_shelf","_law_number"]) FA hr rfl mA kA bA (ZT (MT (P:=T) (cl:=Yd ID s.heap.objs.size) rfl CC a7 rfl rfl))
    (λy c h=>Mh (λp hp=>by simp only[zF,wQ,or_false] at hp;rcases hp with rfl | rfl <;> rfl) h) (MZ (by decide +kernel)) (λy hy=>⟨(show ∀ y∈[("_law_shelf" : Str),"_law_number"],(Zf Uv).names.lookup y=some .cell by decide +kernel) y hy,OC ((show ∀ y∈[("_law_shelf" : Str),"_law_number"],y∈ID.map (·.1) by decide +kernel) y hy)⟩) λ_=>rfl) (Yg (Ze Yk (pv 7))))))) Zt)
  (ZP (Zo (YI Y1 (Zr DP c6 (Ze (pv 0) ZJ)) ZJ (Zz _))
   (ZP (Zx 12 nd (Zr DR m6 (ZT (pv 10))))
   (ZP (Zo (YI Y1 (Zs K (Vg hu (pv 3) (pv 7)) ZJ) Yk (Zz _)) (ZV (Zx 12 nd (Yg (ZT Yk))))
    (ZV (Zo (Qq (Ld (pv 9))) (ZV (Zx 12 nd (Yg (Ze Yk (pv 9))))) Zt)))
   (ZV (Zl (Zr e7 e9 (Ze (MD (cl:=Yd OA s.heap.objs.size) (N:=zE3) FA hr rfl mA kA bA (ZT (MT (P:=T) (cl:=Yd OA s.heap.objs.size) rfl CC a7 rfl rfl))
    (λy c h=>Mh (λp hp=>by simp only[zF,wQ,or_false] at hp;rcases hp with rfl | rfl | rfl <;> rfl) h) (MZ (by decide +kernel)) (λy hy=>⟨(show ∀ y∈[("_law_shelf" : Str),"_law_number","_law_bad"],(Zf Uv).names.lookup y=some .cell by decide +kernel) y hy,OC ((show ∀ y∈[("_law_shelf" : Str),"_law_number","_law_bad"],y∈OA.map (·.1) by decide +kernel) y hy)⟩) λ_=>rfl) (pv 12))))))) Zt)
  (ZP (Zx 12 nd (Yg (ZT Yk)))
  (ZP (Zo (PW.pt (Px (YI Y1 (Zs K (Vg hu (pv 3) (pv 7)) ZJ) Yk (Zz _)) (P3 (Qq (Ld (pv 9)))))) (ZV (Zx 12 nd (Yg (Ze Yk (pv 9)))))
   (ZV (Zo (PW.pt (Px (YI Y1 (Zs K (Vg hu (pv 3) (pv 7)) ZJ) Yk (Zz _)) (P3 (YI (r:=JX K false) Ih (pv 8) (pv 11) rfl)))) (ZV (Zx 12 nd (Yg (Ze Yk (pv 8))))) Zt)))
  (ZV (Zl (Zr e7 e9 (Ze (MD (cl:=Yd Pk s.heap.objs.size) (N:=zEy) FA hr rfl mA kA bA (ZT (MT (P:=T) (cl:=Yd Pk s.heap.objs.size) rfl CC a7 rfl rfl))
    (λy c h=>Mh (λp hp=>by simp only[zF,wQ,or_false] at hp;rcases hp with rfl | rfl | rfl <;> rfl) h) (MZ (by decide +kernel)) (λy hy=>⟨(show ∀ y∈[("_law_shelf" : Str),"_law_number","_law_wrong_here"],(Zf Uv).names.lookup y=some .cell by decide +kernel) y hy,OC ((show ∀ y∈[("_law_shelf" : Str),"_law_number","_law_wrong_here"],y∈Pk.map (·.1) by decide +kernel) y hy)⟩) λ_=>rfl) (pv 12)))))))))))))),?_⟩
 let⟨o4,Y⟩:=W.some;let⟨n9,hT,_⟩:=id l9;let⟨m0,Lw⟩:=S0.lw;let⟨m8,c5,hH⟩:=S0.hd;let⟨gs,G⟩:=S0.gr;let l7:=S0.l64;let bp:∀ i:Nat,i∈m.lv->a.bs.getD i 0≠p:=λi hi=>(O.tw i hi).2.2;let eL:(m.lv.map λi:Nat=>(i:Int)).map V.int=iN m.lv:=by rw[zJ];rfl
 let eI:((zV m.ts.length).map λi:Nat=>(i:Int)).map V.int=iN (zV m.ts.length):=by rw[zJ];rfl
 let m9:0<m.ts.length:=by
  let⟨i,hi⟩:=vR l0;have:=S0.lt hi
  lia
 let I:∀ u,ZF p H u->ZQ u T qA:=λu x=>ZQ.ext l9 ⟨λb φ e=>x _ _ e (ZE e Y),λb φ e=>x _ _ e (ZE e Y)⟩;let m3:∀(u l:Hp),ZF p H u->(∀ c o,c≠T->u c=some o->l c=some o)->ZQ l T qA->Q (.bl true) l:=λu l x fr tb=>by
  let⟨n3,e8,_⟩:=I u x;exact k l (λc o n1 n2 e=>fr c o n2 (x _ _ e n1)) (K9 (S0.sx O Y x) λc o z e=>fr _ _ (ZE e e8 (z _)) e) tb
 let a4:∀(r:Rf)(t J:aj)(u l:Hp),ZF p H u->(∀ c o,c≠T->u c=some o->l c=some o)->ZQ l T qA->l t=some (.tup (Og r))->l J=some (.tup (Og r))->YE 6 [.ref t,.ref J] l Q E0:=λr t J u l x fr tb h1 h2=>⟨.ref t,.ref J,KY r,5,Z,FZ h1,FZ h2,ZM1 r,by decide,λg s9=>m3 u g x (λc o n e=>s9 _ _ (fr c o n e)) (ZQ.ext tb (YV.same s9))⟩
 exists _,Z,st,_,Z,Zh.of m7,Z,_,_,Z,_,_,Z,_,_,Z,_,_,Z,_,_,Z,Z;exists _,Z,_,Z,a.dT,m0,m.lv.map λi:Nat=>(i:Int),Z,Lw.dict,(by rw[Lw.keys,zJ];rfl),Qz Lw.vl.up,by simpa using l7
 intro q nq;rw[eL];let g1:=ZX nq (.lst (iN m.lv));exists p,q,_,Z,W.same g1,(Za Y nq).symm,ZO,by rw[show (iN m.lv).length=m.lv.length from zX _];exact l0,by rw[show (iN m.lv).length=m.lv.length from zX _];lia
 intro x H2 x2 W2 hx;let⟨b,hb,rfl⟩:=zO.mp hx;let c8:ZF p H H2:=(ZF.of g1).trans x2;let S2:=S0.sx O Y c8;refine⟨_,Z,a.tl,(zV m.ts.length).map (λi:Nat=>(i:Int)),Z,ZM.of (by rw[eI];exact S2.told),uE (by rw[zX,vC];exact m9),λmx n6 i9=>⟨_,_,Z,Z,?_⟩⟩
 let i7:Z2 m.lv (mx+1)=false:=Lo λi hi=>by
  have:=i9 (i:Int) (zO.mpr ⟨i,yC.mpr (S0.lt hi),Z⟩)
  lia
 exists _,Z,_,Z,_,Z,a.dT,a.dH,b,m.ts,m.lv,m0,m8,m.ho,Z,(Lw.sx W bp c8).lawT S0.wf G.len G.up,l7,hb,c8 _ _ c5 (ZE c5 Y),hH;intro H3 o s3 l5;refine GR Z (W2.same s3) λH4 lb rs x4 W4 i1 B=>?_;refine ZPr Z Z Z W4 λH5 lw ns x5 W5 i3 i8 Wr=>?_;let m1:ZF p H H5:=((c8.trans (ZF.of s3)).trans x4).trans x5;let⟨c9,e5,n7,i6⟩:=B;rename_i us
 let c7:lb≠p:=λz=>by
  let⟨xs,e'⟩:=(W2.same s3).some;rw[z,e'] at i1;cases i1
 let i0:lw≠p:=λz=>by
  let⟨xs,e'⟩:=W4.some;rw[z,e'] at i3;cases i3
 let e0:=x5 _ _ c9 c7;let⟨o1,l1⟩:=W4.some;let e6:YC H5 rs us:=e5.mono λc xs e=>x5 _ _ e (ZE e l1);let⟨o2,l2⟩:=W5.some;clear x4 x5 W4 W2 l1 e5 c9 i1 i3 x2 g1 nq hx S2;let⟨f1,f2,f5⟩:=ZNl Wr hb i7;let sh:∀(u HL:Hp),ZF p H u->(∀ c o,c≠T->u c=some o->HL c=some o)->∃ a0 ls,XB gt jg jh HL a.S a.d a.lk m.ts m.lv m.av m.ho a.as a0 ls:=λu HL x fr=>by
  let⟨a0,ls,U,_⟩:=(S0.sx O Y x).sh;exact⟨a0,ls,U.frame (M4 U.sh (I u x) fr)⟩
 let l8:∀(u:Hp)(c:aj)(us:je),ZF p H u->u c=some (.lst us)->c≠T:=λu c us x e=>by
  let⟨n3,e8,_⟩:=I u x;exact ZE e e8
 let m4:(gd m.ts b).h<64:=by
  let a7:=S0.lt hb;let h1:=JW S0.wf _ b (xV _) a7;let h2:=(S0.wf b _ (Wx a7)).len G.up;rw[G.len] at h2
  lia
 refine⟨_,Z,p,4,Z,W5,Wh (by decide) (by decide),λr7 H6 _ _ W6 x6=>⟨Z,_,Z,?_⟩⟩
 let a3:=m1.trans x6;let e1:=x6 _ _ e0 c7;let e3:=x6 _ _ i8 i0;let l4:YC H6 rs us:=e6.mono λc xs e=>x6 _ _ e (ZE e l2);clear e0 i8 e6 l2 x6 m1 W5;let hg:YD H6 a.dH (.int (b:Nat)) (some (.int (m.ho b:Nat))):=hH.2 b hb ▸ YD.k (k:=Sum.inl (b:Int)) (a3 _ _ c5 (ZE c5 Y));apply ZQf
 case h=>
  intro a1;refine X7 (λ_=>⟨_,Z,_,Z,a.dH,_,Z,hg,Z,_,Z,X7 (λc0=>?_) λ_=>a1⟩) (λ_=>Zm a1);let h0:m.ho b=0:=by
   have:=V.int.inj (of_decide_eq_true c0)
   lia
  refine Pw (Mq (spB:=XT gt jg jh (C 4)) (ws:=[.ref a.S,.int (b:Nat)]) (r:=(4,some (b:Int))) (λf c' co pm i5 a9=>Mp (by decide +kernel) (by decide +kernel) (by decide +kernel) Z Z Z (by decide +kernel) a9 λA i4 s H ws Q E hr h=>?_) Z (R0 _ (λz=>by cases z) λ_=>⟨zA Z,zA Z⟩) (I H6 a3) Z (λi y v h1 h2=>?_) (λHL Q' E' R a8=>?_) λl t a5 a2 ht=>?_)
  ·let⟨S,d,lk,ts,lv,av,ho,as,a0,ls,b,rfl,U,_⟩:=id h;let⟨dx,hS⟩:=U.sh.sh.self;exact⟨_,YL (E:=E) (pv 0) L.cS D1 (hr.mono ∅) (Yv (E1:=E) Os λ_ _ _ h=>h) (ZT (pv 1)),_,Z,_,dx,_,Z,hS,Z,_,Z,h⟩
  ·let i2:=(yH.mp h2).1
   match i,i2,h1,h2 with
   | 0,_,h1,h2=>cases h1;cases h2;exact⟨2,Z,Z⟩
   | 1,_,h1,h2=>cases h1;cases h2;exact⟨7,Z,Z⟩
   | i+2,i2,_,_=>exact absurd (show i+2<2 from i2) ∅
  ·let⟨a0,ls,U⟩:=sh H6 HL a3 R;exact⟨a.S,a.d,a.lk,m.ts,m.lv,m.av,m.ho,a.as,a0,ls,b,Z,U,m4,hb,λ_=>a8,λz=>absurd z ∅⟩
  ·exists _,Z,Zu;intro t2 n0;let g9:=ZX n0 (.tup [.str "held",.int (b:Nat)]);exact a4 (4,some (b:Int)) t t2 H6 _ a3 (λc o n e=>g9 _ _ (a5 c o n e)) (ZQ.ext a2 (YV.same g9)) (g9 _ _ ht) ZO
 refine⟨_,Z,p,2,Z,W6,Wh (by decide) (by decide),λr8 u _ _ W7 x7=>⟨Z,_,Z,?_⟩⟩
 let o0:=a3.trans x7;let⟨o3,m5⟩:=W6.some;let c2:∀(g:Hp)(c:aj)(us:je),ZF p H6 g->c≠p->H6 c=some (.lst us)->g c=some (.lst us):=λg c us x n e=>x _ _ e n;let c3:∀ g:Hp,ZF p H6 g->YC g rs us:=λg x=>l4.mono λc xs e=>x _ _ e (ZE e m5);let kind:∀ g:Hp,ZF p H6 g->∃ tp tl,YD g a.dT (.int (b:Nat)) (some (.ref tp))/\g tp=some (.tup [.str (kindOf (gd m.ts b)),.ref tl]):=λg x=>by
  let⟨tp,tl,_,q1,q2,_⟩:=((Lw.sx W bp (a3.trans x)).lawT S0.wf G.len G.up).get hb;exact⟨tp,tl,q1,q2⟩
 let kS:(gd m.ts b).h≠0->decide (V.str (kindOf (gd m.ts b))=V.str "stem")=true:=λh=>aO (by unfold kindOf;rw[aP h])
 let kL:(gd m.ts b).h=0->decide (V.str (kindOf (gd m.ts b))=V.str "stem")=false:=λh=>aM (by unfold kindOf;rw[aQ h];decide)
 refine X7 (λ_=>?B) (λ_=>?C)
 case B=>
  let R6:Uw K CB C (Pa (gd m.ts b).h o (X5 rs)):=by
   unfold Pa;split
   ·cases o with
    | some j=>exact R0 _ (λz=>by cases z) λ_=>⟨zA Z,zA Z⟩
    | none=>exact R0 _ (λ_=>show X5 rs<3 by lia) λz=>absurd Z z
   ·exact R0 _ (λ_=>by decide) λz=>absurd Z z
  let D:∀(g:Hp)(J:aj),ZF p H6 g->g J=some (.tup (Og (Pa (gd m.ts b).h o (X5 rs)))) ->
    MB (YN P w K mg jX CB C) (Yd OA s.heap.objs.size) zE3 IH (Z9 (Nr T Xk.1 Xk.2.1 Xk.2.2 qA (Yd OA s.heap.objs.size)) Y0) [some (.ref p),some (.ref st),some (.ref a.S),some (.ref a.dT),some (.ref a.dH),some (.ref a.gl),some (.ref a.tl),some (.int (b:Nat)),some (.int (mx+1)),some (oV o),some (.ref lb),some (.ref lw),some (.ref J)] g (λv l=>Y7 12 [some (.ref p),some (.ref st),some (.ref a.S),some (.ref a.dT),some (.ref a.dH),some (.ref a.gl),some (.ref a.tl),some (.int (b:Nat)),some (.int (mx+1)),some (oV o),some (.ref lb),some (.ref lw),some (.ref J)] l λw g=>YE 6 [v,w] g Q E0):=λg J x9 c1=>by
   let M:=a3.trans x9;let e2:=c2 g lb us x9 c7 e1;let⟨n4,c4,_⟩:=I g M;refine Mq (spB:=Z6 gt jg jh C) (ws:=[.ref a.S,.int (b:Nat),.ref lb]) (λf c' co pm i5 a9=>ZLO L D7 a9) Z R6 (I g M) Z (Gi (j0:=2) (j1:=7) (j2:=10) Z Z Z Z Z Z Z) (λHL Q' E' R a8=>?_) λl t a5 a2 ht=>⟨_,Z,a4 _ t J g l M a5 a2 ht (a5 _ _ (ZE c1 c4) c1)⟩;let⟨a0,ls,U⟩:=sh g HL M R;exact .mk U hb (R _ _ (l8 g lb us M e2) e2) ((c3 g x9).mono λc xs e=>R _ _ (ZE e c4) e) ∅ l5 i6 a8
  apply Di (fun(l:Hp)(t:aj)=>ZD u l/\l t=some (.tup (Og (X5 rs,none))))
  case h=>
   intro a1;refine⟨_,Z,.mk (x7 _ _ e1 c7) (c3 u x7) ∅ (λe t l s8 ht=>a1 l t ⟨s8,by rw[e];exact ht⟩) (λe t l s8 ht=>a1 l t ⟨s8,by rw[e];exact ht⟩) λe=>absurd e ∅⟩
  rintro l t ⟨s8,ht⟩;let x8:=x7.trans (ZF.of s8);let⟨tp,tl,q1,q2⟩:=kind l x8;refine⟨_,Z,_,Z,a.dT,.ref tp,Z,q1,.inr (.inl ⟨tp,_,0,_,rfl,rfl,Zh.of q2,rfl,rfl,_,rfl,?_⟩)⟩;by_cases h0:(gd m.ts b).h=0
  ·rw[kL h0]
   cases o with
   | some j=>exact Zm ⟨_,Z,_,Z,Z3 ⟨_,Z,Zu,λJ a6=>M6 (OF (Pw (D _ J (x8.trans (ZF.of (ZX a6 _))) (by unfold Pa;rw[aQ h0];exact ZO))))⟩⟩
   | none=>exact Zm ⟨_,Z,_,Z,Zm (KD (OF (Pw (D l t x8 (by unfold Pa;rw[aQ h0];exact ht)))))⟩
  ·rw[kS h0];exact Z3 ⟨Zu,λJ a6=>M6 (OF (Pw (D _ J (x8.trans (ZF.of (ZX a6 _))) (by unfold Pa;rw[aP h0];exact ZO))))⟩
 case C=>
  let R6:Uw K CB C (PU (gd m.ts b).h o (ns.find? λx=>!Z2 m.lv x)):=by
   unfold PU;split
   ·exact R0 _ (λ_=>by decide) λz=>absurd Z z
   ·cases o with
    | some j=>exact R0 _ (λz=>by cases z) λ_=>⟨zA Z,zA Z⟩
    | none=>
     cases ns.find? λx=>!Z2 m.lv x with
     | some y=>exact R0 _ (λz=>by cases z) λ_=>⟨zA Z,zA Z⟩
     | none=>exact R0 _ (λ_=>by decide) λz=>absurd Z z
  let D:∀(g:Hp)(J:aj),ZF p H6 g->g J=some (.tup (Og (PU (gd m.ts b).h o (ns.find? λx=>!Z2 m.lv x)))) ->
    MB (YN P w K mg jX CB C) (Yd Pk s.heap.objs.size) zEy IH (Z9 (Nr T Xp.1 Xp.2.1 Xp.2.2 qA (Yd Pk s.heap.objs.size)) Y0) [some (.ref p),some (.ref st),some (.ref a.S),some (.ref a.dT),some (.ref a.dH),some (.ref a.gl),some (.ref a.tl),some (.int (b:Nat)),some (.int (mx+1)),some (oV o),some (.ref lb),some (.ref lw),some (.ref J)] g (λv l=>Y7 12 [some (.ref p),some (.ref st),some (.ref a.S),some (.ref a.dT),some (.ref a.dH),some (.ref a.gl),some (.ref a.tl),some (.int (b:Nat)),some (.int (mx+1)),some (oV o),some (.ref lb),some (.ref lw),some (.ref J)] l λw g=>YE 6 [v,w] g Q E0):=λg J x9 c1=>by
   let M:=a3.trans x9;let e4:=c2 g lw _ x9 i0 e3;let⟨n4,c4,_⟩:=I g M;refine Mq (spB:=Z8 gt jg jh C) (ws:=[.ref a.S,.int (b:Nat),.ref lw]) (λf c' co pm i5 a9=>ZKn L D8 a9) Z R6 (I g M) Z (Gi (j0:=2) (j1:=7) (j2:=11) Z Z Z Z Z Z Z) (λHL Q' E' R a8=>?_) λl t a5 a2 ht=>⟨_,Z,a4 _ t J g l M a5 a2 ht (a5 _ _ (ZE c1 c4) c1)⟩;let⟨a0,ls,U⟩:=sh g HL M R;exact .mk U hb (R _ _ (l8 g lw _ M e4) e4) ∅ l5 f2 a8
  exists Zu;intro t nt;let x8:=x7.trans (ZF.of (ZX nt (.tup [.str "stem"])));let ht:=ZO (H:=u) (a:=t) (o:=.tup [.str "stem"]);generalize upd u t (.tup [.str "stem"])=l at x8 ht⊢;let⟨tp,tl,q1,q2⟩:=kind l x8;refine⟨_,Z,_,Z,a.dT,.ref tp,Z,q1,.inr (.inl ⟨tp,_,0,_,rfl,rfl,Zh.of q2,rfl,rfl,_,rfl,?_⟩)⟩;by_cases h0:(gd m.ts b).h=0
  ·rw[kL h0];refine Zm (Zm ⟨_,Z,_,Z,a.dT,.ref tp,Z,q1,.inr (.inl ⟨tp,_,0,_,rfl,rfl,Zh.of q2,rfl,rfl,_,rfl,?_⟩)⟩);rw[kL h0];exact Zm (Zm (KD (OF (Pw (D l t x8 (by unfold PU;rw[aQ h0];exact ht))))))
  rw[kS h0]
  cases o with
  | some j=>exact Z3 ⟨_,Z,_,Z,Z3 ⟨_,Z,Zu,λJ a6=>M6 (OF (Pw (D _ J (x8.trans (ZF.of (ZX a6 _))) (by unfold PU;rw[aP h0];exact ZO))))⟩⟩
  | none=>
   refine Z3 ⟨_,Z,_,Z,Zm ⟨_,Z,_,Z,a.dT,.ref tp,Z,q1,.inr (.inl ⟨tp,_,0,_,rfl,rfl,Zh.of q2,rfl,rfl,_,rfl,?_⟩)⟩⟩;rw[kS h0];refine Z3 ⟨_,Z,_,Z,lw,ns.map V.int,Z,.inl (ZM.of (c2 l lw _ x8 i0 e3)),Z,(by cases Wr <;> rfl),_,Z,?_⟩
   rw[aP zS];refine X7 (λz=>⟨_,Z,Zu,λJ a6=>M6 (OF (Pw (D _ J (x8.trans (ZF.of (ZX a6 _))) ?_)))⟩) (λz=>KD (OF (Pw (D l t x8 ?_))))
   ·unfold PU;rw[aP h0,f1,aQ z];exact ZO
   ·unfold PU;rw[aP h0,f1,aP z];exact ht
end Tw
namespace L2
open PySem PySem.Spec
def xC(K:zZ)(C:aj):Bool:=
 (zD K (.ref C) "__getattribute__" == some (some (.builtin "BaseException.__getattribute__")))&&((zD K (.ref C) "__getattr__" == some none)&&((zE K C (.type "BaseException")==some true)&&((zE K C (.type "object")==some true) &&
 ((zD K (.ref C) "__class__" == some (some (.builtin "object.__class__")))&&((PySem.W.specialIn K (.builtin "object.__class__") "__get__" == some (some (.builtin "getset_descriptor.__get__")))&&(PySem.W.takesIn K (.builtin "object.__class__")==some true))))))
def EH{K:zZ}{C:aj}(h:xC K C=true):Wc K C:=by
 unfold xC at h;simp only[zR,beq_iff_eq] at h;let⟨a,b,c,d,e,f,g⟩:=h;exact⟨a,b,c,d,e,f,g⟩
def xF(K:zZ)(C a:aj)(f:Str):Bool:=
 xC K C&&(Hm K C&&((zD K (.ref C) "__init__" == some (some (.ref a)))&&(wT K (.ref a)&&(yX K (.ref C)&&((zD K (.ref C) "__setattr__" == some (some (.builtin "object.__setattr__"))) &&
 ((zD K (.ref C) f==some none)&&(wJ K C&&HE K C)))))))
def Pm{K:zZ}{C k:aj}{f:Str}(h:xF K C k f=true):Y5 K C k f:=by
 unfold xF at h;simp only[zR,beq_iff_eq] at h;let⟨a,b,c,d,e,f,g,i,j⟩:=h;exact⟨EH a,b,c,d,e,f,g,i,j⟩
def Kv(K:zZ)(a:ju)(b:jd):Bool:=
 (zV a.length).all λk=>xC K (a.getD k 0)&&((zV a.length).all (λj=>yW K (.ref (a.getD k 0)) (.ref (a.getD j 0))==some (k==j))&&b.all λv=>yW K (.ref (a.getD k 0)) v==some true)
def DX{K:zZ}{a:ju}{c:jd}(h:Kv K a c=true){k:Nat}(e:k<a.length):Wc K (a.getD k 0)/\(∀ j,j<a.length->yW K (.ref (a.getD k 0)) (.ref (a.getD j 0))=some (k==j))/\∀ v∈c,yW K (.ref (a.getD k 0)) v=some true:=by
 let b:=zN.mp h k (yC.mpr e);simp only[zR] at b;exact⟨EH b.1,λj d=>beq_iff_eq.mp (zN.mp b.2.1 j (yC.mpr d)),λv f=>beq_iff_eq.mp (zN.mp b.2.2 v f)⟩
end L2
namespace Tw
open PySem PySem.Spec L2 PyProof.Rows
variable{jg jh CS CT CH CK CP CB:aj}
def ZPp{K:zZ}{c:aj}{a:ju}(h:Kv K a [.type "ValueError"]=true)(j:a.length=6){k:Nat}(m:k<6)(b:zE K (a.getD k 0) (.ref c)=some true):XC K c (λi=>a.getD i 0) k:=by
 let⟨d,e,f⟩:=DX h (k:=k) ∅
 exists d,b,f _ (by simp)
 intro i l;have:=e i ∅
 rw[this]
 congr 1
 by_cases z:k=i
 ·subst z;simp
 ·let g:¬ i=k:=λy=>z y.symm;simp[z,g]
abbrev Oq:Stmt:=Xy (top 5) 0
def ZKH:ZB zEa zEa (Zf Oq):=YA
def ZH3{C:aj}(F:Zn K "__init__" "NoTwig.__init__" Oq f fd):ZH P w K mg jX Zd 1 f fd zEa (NE K C f "number"):=by
 refine F.ok ZKH (λg H Q E h=>(by let⟨_,_,_,rfl,_⟩:=h;rfl)) (λb A a s H g Q E i h=>?_)
 let⟨c,d,y,rfl,e,k⟩:=h;exact⟨_,ZV (JD (pv 0) (pv 1) rfl),⟨_,Z,_,Z,QV,d,_,_,Z,e,c,k⟩⟩
abbrev Of:Stmt:=Xy (top 6) 0
def E3:ZB zEa zEa (Zf Of):=YA
def ZGt{C:aj}(F:Zn K "__init__" "NotHeld.__init__" Of f fd):ZH P w K mg jX Zd 1 f fd zEa (NE K C f "number"):=by
 refine F.ok E3 (λg H Q E h=>(by let⟨_,_,_,rfl,_⟩:=h;rfl)) (λb A a s H g Q E i h=>?_)
 let⟨c,d,y,rfl,e,k⟩:=h;exact⟨_,ZV (JD (pv 0) (pv 1) rfl),⟨_,Z,_,Z,QV,d,_,_,Z,e,c,k⟩⟩
abbrev Oy:Stmt:=Xy (top 7) 0
def ZIo:ZB zEa zEa (Zf Oy):=YA
def Cp{C:aj}(F:Zn K "__init__" "Shared.__init__" Oy f fd):ZH P w K mg jX Zd 1 f fd zEa (NE K C f "number"):=by
 refine F.ok ZIo (λg H Q E h=>(by let⟨_,_,_,rfl,_⟩:=h;rfl)) (λb A a s H g Q E i h=>?_)
 let⟨c,d,y,rfl,e,k⟩:=h;exact⟨_,ZV (JD (pv 0) (pv 1) rfl),⟨_,Z,_,Z,QV,d,_,_,Z,e,c,k⟩⟩
end Tw
namespace L2
open PySem PySem.Spec PyProof.Rows
def En{P:am}{w:aw}{K:zZ}{L mb:jb}{k:Nat}{fa a:aj}{l:List (aj×aj)}{fd:ao}{x:Str}{sp:Sp}{c:al}{N:jd}{ns:jw}(KX:K.In c.heap)(R:c.heap.Ns ap L)(i:c.heap.Ns builtinsNs mb)(c0:∀ x:Str,x ≠ "__name__"->mb x=ay x)(a4:c.heap.NoLimit)(hg:c.gens=#[])(c1:∃ Y M,L "__builtins__" = some (.ref Y)/\Y≠builtinsNs/\c.heap.get? Y=some M/\M.cls=.type "module" /\ M.dict=some builtinsNs/\M.data=.plain)(hC:∀ x∈l,xZ c.heap x.1 x.2)(B:∀ x∈l,c.heap.get? x.2=some (wL #[]))(c5:sH K=true)(U:c.heap.get? a=some { cls:=.type "list",data:=.seq N.toArray })(hi:IntsAre N ns)(hl:ns.length<=aq)(hr:Zc k callerA)(F:∀ t:aD,K.In t->t.Ns ap L->(∀ x∈l,xZ t x.1 x.2/\t.BuiltinsAt L x.2)->ZH P w K L t Zd k fa fd [x] sp)(Q:∀ (s:al) (u:ai),BindsTo s fd ⟨[u],[]⟩ [(x,u)])(c2:∀ H:Hp,(∀ x∈l,H x.2=some (.tbl #[]))->ZM K H a (ns.map V.int)->sp [.ref a] H (λv _=>v=.bl true) λ_ _ _=>False):
  aH (aA P w) callerA (.call (.ref fa) ⟨[.ref a],[]⟩) (λr y=>r=.ok (.ret (.bool true))/\OldK c.heap y.heap/\y.os=c.os/\AllBare y.gens) c:=by
 let rv:=Ls hi;let a6:=hi.length;let hT:∀ b∈l.map (·.2),c.heap.get? b=some (wL #[]):=λb i=>by
  let⟨x,j,rfl⟩:=zO.mp i;exact B x j
 let mT:∀ x∈l,x.2∈l.map (·.2):=λx j=>zO.mpr ⟨x,j,Z⟩;let aT:a∉l.map (·.2):=λz=>by rw[hT a z] at U;cases U
 let E:∀ H:Hp,(∀ x∈l,H x.2=some (.tbl #[]))->ZM K H a (ns.map V.int)->YW P w H c.heap->(∀ b,H b≠none->b=a\/b∈l.map (·.2))->(H a≠none->K.lookup a=none/\∃ o xs,H a=some (.frz o (.lst xs))) ->
   aH (aA P w) callerA (.call (.ref fa) ⟨[.ref a],[]⟩) (λr y=>r=.ok (.ret (.bool true))/\OldK c.heap y.heap/\y.os=c.os/\AllBare y.gens) c:=by
  intro H hO hS a5 hA hK;let f:∀{b:aj}{o:aJ},c.heap.get? b=some o->H b=none->(UA c.heap H).get? b=some o:=λe n=>Hi e n;let S:∀{b:aj}{o:aJ},c.heap.get? b=some o->(∀ c4 n,o.data≠.seq c4 n)->(∀ v,o≠wL v)->H b=none:=fun{b o} e d1 d2=>by
   cases q:H b with
   | none=>rfl
   | some u=>
    rcases hA b (by rw[q];simp) with A | A
    ·subst A;rw[U] at e;cases e;exact absurd Z (d1 _ _)
    ·rw[hT b A] at e;cases e;exact absurd Z (d2 _)
  let C:∀{b:aj}{m:jb},c.heap.Ns b m->(UA c.heap H).Ns b m:=fun{b m} ⟨o,es,ep,e,d,r⟩=>⟨o,es,ep,f e (S e (λ_ _ z=>by rw[d] at z;cases z) (λ_ z=>by rw[z] at d;cases d)),d,r⟩
  let a2:K.In (UA c.heap H):=λb o e=>f (KX b o e) (by
   cases q:H b with
   | none=>rfl
   | some u=>
    rcases hA b (by rw[q];simp) with A | A
    ·subst A;rw[(hK (by rw[q];simp)).1] at e;cases e
    ·let G:=KX _ _ e;rw[hT b A] at G;cases G;let h2:=zN.mp c5 _ (PySem.W.mem_of_lookupK e);exact absurd (show false=true from h2) zS)
  let hM:Mod K L (UA c.heap H):=⟨a2,C R,⟨mb,C i,c0⟩,let ⟨mc,h1,h2⟩:=a4;⟨mc,C h1,h2⟩⟩;let a9:∀ x∈l,xZ (UA c.heap H) x.1 x.2:=λx j=>by
   let⟨o,N,a0,tf,O,tg,c3,a7,tt,e1,G,e3,r⟩:=hC x j;exact⟨o,N,a0,tf,O,tg,c3,a7,tt,f e1 (S e1 (λ_ _ z=>by rw[e3] at z;cases z) (λ_ z=>by rw[z] at G;cases G)),G,e3,r⟩
  let a8:∀ x∈l,(UA c.heap H).BuiltinsAt L x.2:=λx j=>by
   let⟨Y,M,b1,b2,T,b4,b5,b6⟩:=c1;refine⟨Y,M,b1,b2,λz=>?_,λz=>?_,f T (S T (λ_ _ z=>by rw[b6] at z;cases z) (λ_ z=>by rw[z] at b4;cases b4)),b4,b5,b6⟩
   ·let⟨o,es,ep,e,d,_⟩:=R;rw[z,e] at T;cases T;rw[d] at b6;cases b6
   ·rw[z,B x j] at T;cases T;cases b4
  let e0:Wy P w K L (UA c.heap H) callerA [] c H:=⟨Z,hM,λb o e=>GU e,wC (Fp _ _),trivial,λb i=>absurd (show b∈([]:ju) from i) (by simp),a5,.of_eq hg⟩
  refine codeAny_mono ((F _ a2 (C R) λx j=>⟨a9 x j,a8 x j⟩).run callerA [] c H ⟨[.ref a],[]⟩ [.ref a] [.ref a] _ _ hr e0 (Q c (.ref a)) (.cons rfl .nil) (c2 H hO hS)) λr y h=>?_
  cases r with
  | error e=>exact h.elim
  | ok fl=>
   cases fl with
   | next=>exact False.elim h
   | brk=>exact False.elim h
   | cont=>exact False.elim h
   | ret u=>
    let⟨v,H',os,X,un,I,r',q⟩:=h;let q':v=.bl true:=q;subst q';obtain rfl:u=Value.bool true:=r';let a1:∀ x∈l,∃ p,y.heap.get? x.2=some (wL (#[]++p)):=λx j=>by
     let⟨p,z⟩:=un.tbls x.2 #[] (hO x j);exact⟨p,I x.2 _ z⟩
    let J:∀ b o,b∉l.map (·.2)->c.heap.get? b=some o->y.heap.get? b=some o:=λb o n e=>by
     cases q:H b with
     | none=>exact un.keep b o e q (by intro z;exact absurd (show b∈([]:ju) from z) (by simp)) (by simp)
     | some u=>
      let A:b=a:=(hA b (by rw[q];simp)).resolve_right n
      subst A;let⟨_,M,xs,z⟩:=hK (by rw[q];simp)
      let z2:=un.frzs b M _ z;let⟨e1,_⟩:=a5 b _ z;let⟨G,_⟩:=I b _ z2;rw[e] at e1;cases e1;exact G
    refine⟨Z,⟨λb o e=>?_,λb o e=>?_⟩,os,X⟩
    ·by_cases z:b∈l.map (·.2)
     ·let⟨x,j,rfl⟩:=zO.mp z;let⟨p,g⟩:=a1 x j;rw[B x j] at e;cases e;exact .inr (.inl ⟨((hC x j).tab (B x j)).isCodeTable,rfl,#[],p,rfl,g⟩)
     ·exact .inl (J b o z e)
    ·by_cases z:b∈l.map (·.2)
     ·let⟨x,j,rfl⟩:=zO.mp z;let⟨p,g⟩:=a1 x j;exact⟨_,g⟩
     ·exact⟨o,J b o z e⟩
 cases hk:K.lookup a with
 | some o=>
  let e:=KX a o hk;rw[U] at e;cases e;refine E (λb=>if b∈l.map (·.2) then some (.tbl #[]) else none) (λx j=>aQ (mT x j)) (.inr ⟨_,N.toArray,_,hk,rfl,rfl,rfl,by rw[zL,a6];exact hl,by simpa using rv⟩) (λb u z=>?_) (λb z=>?_) λz=>absurd (aP aT) z
  ·by_cases i:b∈l.map (·.2)
   ·let D:=(aQ i).symm.trans z;cases D;exact hT b i
   ·let D:=(aP i).symm.trans z;cases D
  ·by_cases i:b∈l.map (·.2)
   ·exact .inr i
   ·exact absurd (aP i) z
 | none=>
  refine E (λb=>if b∈l.map (·.2) then some (.tbl #[]) else if b=a then some (.frz { cls:=.type "list",data:=.seq N.toArray } (.lst (ns.map V.int))) else none) (λx j=>aQ (mT x j)) (.inl (.inr ⟨{ cls:=.type "list",data:=.seq N.toArray },(aP aT).trans (aQ rfl)⟩)) (λb u z=>?_) (λb z=>?_) λ_=>⟨hk,_,_,(aP aT).trans (aQ rfl)⟩
  ·by_cases i:b∈l.map (·.2)
   ·let D:=(aQ i).symm.trans z;cases D;exact hT b i
   ·let z:=(aP i).symm.trans z;by_cases i:b=a
    ·let D:=(aQ i).symm.trans z;cases D;subst i;exact⟨U,by rw[zX];exact hl,N,_,rv,U⟩
    ·let D:=(aP i).symm.trans z;cases D
  ·by_cases i:b∈l.map (·.2)
   ·exact .inr i
   ·by_cases a3:b=a
    ·exact .inl a3
    ·exact absurd ((aP i).trans (aP a3)) z
def J8(K:zZ)(a:jq):List (aj×aj):=a.filterMap λp=>yS K p
def Nc{l:uS}{n k:Nat}{q:am}{t:jq}{XP:(jb)->aD->Prop}{R:aw->aD->Prop}{d:DefRec}{K:Params->zZ}{sp:zZ->Sp}{x:Str}{ps:jq}(hn:l.most=some n)(N:n<=aq)(L:d.params.defaults=[])(hr:Zc k callerA)(hY:∀ (w:aw) (h:aD),R w h->(K w.params).In h)(B:∀ p∈ps,((recsOf q).find? (λe=>e.name==p)).isSome=true)(O:∀ w:aw,sH (K w.params)=true)(F:∀ (w:aw) (z:jb) (D:aj) (h:aD),(K w.params).In h->h.Ns ap z->z d.name=some (.ref D) ->
   ∃ J:ao,(∀ (s:al) (u:ai),BindsTo s J ⟨[u],[]⟩ [(x,u)]) /\
    ∀ i:aD,(K w.params).In i->i.Ns ap z->(∀ y∈J8 (K w.params) ps,xZ i y.1 y.2/\i.BuiltinsAt z y.2)->ZH l.prog w (K w.params) z i Zd k D J [x] (sp (K w.params)))(Q:∀ (w:aw) (H:Hp) (a:aj) (E:jw),E.length<=n->(∀ y∈J8 (K w.params) ps,H y.2=some (.tbl #[]))->ZM (K w.params) H a (E.map V.int)->sp (K w.params) [.ref a] H (λv _=>v=.bl true) λ_ _ _=>False):
  tU q t XP R l.row.toRowW d [] (λf X=>PySem.call f X):=by
 refine Att.attach_call hn L λw S m z mb D o pm cd a0 a X E G Y ho hd a1 M A r j hg=>?_;let I:=hY w _ Y;let⟨J,hb,hF⟩:=F w z D _ I G.T.g M;let U:∀ y∈J8 (K w.params) ps,xZ m.heap y.1 y.2/\m.heap.get? y.2=some (wL #[]):=λy C=>by
  let⟨p,hp,e⟩:=xU.mp C;exact PySem.W.tab_of (c:=y.1) (P:=y.2) G.T I (Option.some_get (B p hp)).symm e
 exact En I G.T.g G.T.b G.T.builtins G.T.nolimit hg G.T.bmain (λy C=>(U y C).1) (λy C=>(U y C).2) (O w) A r (zC j N) hr hF hb (λH hO hS=>Q w H a E j hO hS)
end L2
namespace Tw
open PySem PySem.Spec L2 PyProof.Rows
def N8{K:zZ}{C f:aj}{m q:Str}{d:aC}{j:jq}{t e:jv}{u:Array (jc)}{s kV o i n ct:ai}(v:zD K (.ref C) m=some (some (.ref f)))(l:K.lookup f=some ⟨s,t,.func (yK m q (Ve d) (Xz d) (Zf d) .none kV o i e n ct),u⟩)(p:wT K (.ref f)=true)(c:xW K n q=true)(k:yX K (.ref f)=true)(r:∀ (kV h i:ai) (e:jv) (g ct:ai) (a:jd),a.length=j.length->bindArgs (yK m q (Ve d) (Xz d) (Zf d) .none kV h i e g ct) ⟨a,[]⟩=pure (j.zip a):=by first | exact(λ_ _ _ _ _ _ a b=>match a,b with | [_],_=>rfl) | exact(λ_ _ _ _ _ _ a b=>match a,b with | [_,_],_=>rfl) | exact(λ_ _ _ _ _ _ a b=>match a,b with | [_,_,_],_=>rfl) | exact(λ_ _ _ _ _ _ a b=>match a,b with | [_,_,_,_],_=>rfl) | exact(λ_ _ _ _ _ _ a b=>match a,b with | [_,_,_,_,_],_=>rfl)):Zv K C m q d j:=
 ⟨f,_,⟨v,p,k⟩,VP (st:=d) l c k,(VP (st:=d) l c k).binds r⟩
structure Qh(K:zZ)(C:aj)(q:Str)(st:aC)(ps:jq):Prop where
 ex:∃ f fd,zD K (.ref C) "__init__" = some (some (.ref f))/\wT K (.ref f)=true/\Zn K "__init__" q st f fd/\YB K fd ps []
def Nt{K:zZ}{C f:aj}{q:Str}{d:aC}{j:jq}{s e:jv}{t:Array (jc)}{r kV n i m ct:ai}(v:zD K (.ref C) "__init__" = some (some (.ref f)))(l:K.lookup f=some ⟨r,s,.func (yK "__init__" q (Ve d) (Xz d) (Zf d) .none kV n i e m ct),t⟩)(o:wT K (.ref f)=true)(c:xW K m q=true)(k:yX K (.ref f)=true)(p:∀ (kV h i:ai) (e:jv) (g ct:ai) (a:jd),a.length=j.length->bindArgs (yK "__init__" q (Ve d) (Xz d) (Zf d) .none kV h i e g ct) ⟨a,[]⟩=pure (j.zip a):=by first | exact(λ_ _ _ _ _ _ a b=>match a,b with | [_],_=>rfl) | exact(λ_ _ _ _ _ _ a b=>match a,b with | [_,_],_=>rfl) | exact(λ_ _ _ _ _ _ a b=>match a,b with | [_,_,_],_=>rfl) | exact(λ_ _ _ _ _ _ a b=>match a,b with | [_,_,_,_],_=>rfl) | exact(λ_ _ _ _ _ _ a b=>match a,b with | [_,_,_,_,_],_=>rfl)):Qh K C q d j:=
 ⟨f,_,v,o,VP (st:=d) l c k,(VP (st:=d) l c k).binds p⟩
def ZQI{K:zZ}{x:Str}{f c P:aj}{k:ai}{m:jv}{h:ao}{n:Array (jc)}{b:ai}{d:jv}{i:jz}{g:Array (jc)}(a:zP K ap x=some (some (.ref f)))(l:K.lookup f=some ⟨k,m,.func h,n⟩)(e:h.code=.ref c)(j:K.lookup c=some ⟨b,d,.fields i,g⟩)(v:i[11]? = some (.ref P)):yS K x=some (c,P):=by
 unfold yS;rw[a];simp only;rw[l];simp only;rw[e];simp only;rw[j];simp only;rw[v]
def JU{l:uS}{w:aw}{K:zZ}{h:aD}{mg:jb}{fa cb0 tb0 cb1 tb1 cb2 tb2 f34 f38 f39 f41 CB CK CL CS CT CH CD jg jh jN jH jD:aj}(X:K.In h)(G:h.Ns ap mg)(hfa:mg "law" = some (.ref fa))(hta:yS K "_law_put_stem" = some (cb0,tb0))(htb:yS K "_law_unknown" = some (cb1,tb1))(htc:yS K "_law_amiss" = some (cb2,tb2)){od34 an34 od38 an38 od39 an39 od41 an41:jv}{sl34 sl38 sl39 sl41:Array (jc)}{oc34 kV34 dc34 pm34 cd34 ct34 oc38 kV38 dc38 pm38 cd38 ct38 oc39 kV39 dc39 pm39 cd39 ct39 oc41 kV41 dc41 pm41 cd41 ct41:ai}{t1 t2 t3 t4 t5 t6 t7 t8 t9 t10:Tok}(L1:Zp K mg "is_key" IT zE4)(L2:Zp K mg "checked" KC zE4)(L3:Zp K mg "fits" MQ zEp)(L4:Zp K mg "has_few_figures" KO zFc)(L5:Zp K mg "is_sign" Jx ["sign"])(L6:Zp K mg "ahead" Jk zE5)(L7:Zp K mg "standing" La zFd)(L8:Zp K mg "checked_rows" Jq zEu)(L9:Zp K mg "own_rows" J9 zEu)(L10:Zp K mg "rise" Kl ["keys"])(L11:Zp K mg "label_of_rows" Ja zEu)(L12:Zp K mg "label_over" K0 ["labels"])(L13:Zp K mg "stand_side_by_side" Jp zE1)(L14:Zp K mg "is_stem" JS zFb)(L15:Zp K mg "_law_well" KR zE2)(L16:Zp K mg "_law_pull" IP zEf)(L17:Zp K mg "_law_rank" LI zE6)(L18:Zp K mg "_law_less" Kb zEr)(L19:Zp K mg "_law_alike" Lu zEd)(L20:Zp K mg "_law_grid" KK zE8)(L21:Zp K mg "_law_leaf_rows" IB zEl)(L22:Zp K mg "_law_rows_of" JM zEb)(L23:Zp K mg "_law_label" KH zEb)(L24:Zp K mg "_law_above" Jb zEb)(L25:Zp K mg "_law_shared" JY zEj)(L26:Zp K mg "_law_count" JO zEd)(L27:Zp K mg "_law_exact" J1 zEo)(L28:Zp K mg "_law_asked" Jh zEw)(L29:Zp K mg "_law_wrong" JL zEk)(L30:Zp K mg "_law_unheld" IN zEs)(L31:Zp K mg "_law_picked" IQ zEh)(L32:Zp K mg "_law_run" Jo zEg)(L33:Zp K mg "_law_put_leaf" K5 zEn)(a34:zP K ap "_law_put_stem" = some (some (.ref f34)))(l34:K.lookup f34=some ⟨oc34,od34,.func (yK "_law_put_stem" "_law_put_stem" (Ve V4) (Xz V4) (Zf V4) .none kV34 dc34 pm34 an34 cd34 ct34),sl34⟩)(c34:xW K cd34 "_law_put_stem" = true)(k34:yX K (.ref f34)=true)(L35:Zp K mg "_law_begun" KB zEm)(L36:Zp K mg "_law_strange" Jz zEc)(L37:Zp K mg "_law_call" KW zE0)(a38:zP K ap "_law_unknown" = some (some (.ref f38)))(l38:K.lookup f38=some ⟨oc38,od38,.func (yK "_law_unknown" "_law_unknown" (Ve Po) (Xz Po) (Zf Po) .none kV38 dc38 pm38 an38 cd38 ct38),sl38⟩)(c38:xW K cd38 "_law_unknown" = true)(k38:yX K (.ref f38)=true)(a39:zP K ap "_law_amiss" = some (some (.ref f39)))(l39:K.lookup f39=some ⟨oc39,od39,.func (yK "_law_amiss" "_law_amiss" (Ve Uv) (Xz Uv) (Zf Uv) .none kV39 dc39 pm39 an39 cd39 ct39),sl39⟩)(c39:xW K cd39 "_law_amiss" = true)(k39:yX K (.ref f39)=true)(L40:Zp K mg "_law_rows_due" JK zFe)(a41:zP K ap "law" = some (some (.ref f41)))(l41:K.lookup f41=some ⟨oc41,od41,.func (yK "law" "law" (Ve PX) (Xz PX) (Zf PX) .none kV41 dc41 pm41 an41 cd41 ct41),sl41⟩)(c41:xW K cd41 "law" = true)(k41:yX K (.ref f41)=true)(z1:zP K ap "isinstance" = some none)(z2:zP K ap "bool" = some none)(z3:zP K ap "int" = some none)(z4:zP K ap "str" = some none)(z5:zP K ap "tuple" = some none)(z6:zP K ap "list" = some none)(z7:zP K ap "len" = some none)(z8:zP K ap "all" = some none)(z9:zP K ap "abs" = some none)(z10:zP K ap "max" = some none)(z11:zP K ap "min" = some none)(z12:zP K ap "range" = some none)(z13:zP K ap "sorted" = some none)(z14:zP K ap "ValueError" = some none)(z15:zP K ap "sum" = some none)(z16:zP K ap "reversed" = some none)(m1_:zP K ap "MOST_SIGNS" = some (some (.int 40 t1)))(m2_:zP K ap "MOST_THINGS" = some (some (.int 4 t2)))(m3_:zP K ap "MOST_DEEP" = some (some (.int 3 t3)))(m4_:zP K ap "MOST_ROWS" = some (some (.int 4 t4)))(m5_:zP K ap "FEWEST_BRANCHES" = some (some (.int 2 t5)))(m6_:zP K ap "MOST_BRANCHES" = some (some (.int 4 t6)))(m7_:zP K ap "HEIGHT" = some (some (.int 0 t7)))(m8_:zP K ap "LEAST" = some (some (.int 1 t8)))(m9_:zP K ap "GREATEST" = some (some (.int 2 t9)))(m10_:zP K ap "MANY" = some (some (.int 3 t10)))(IjS:Qh K jg "Shelf.__init__" Ku zEi)(IjT:Qh K jh "Twig.__init__" KZ zEx){ocjN kVjN dcjN pmjN cdjN ctjN:ai}{odjN anjN:jv}{sljN:Array (jc)}(iljN:K.lookup jN=some ⟨ocjN,odjN,.func (yK "__init__" "NoTwig.__init__" (Ve Oq) (Xz Oq) (Zf Oq) .none kVjN dcjN pmjN anjN cdjN ctjN),sljN⟩)(icjN:xW K cdjN "NoTwig.__init__" = true)(ikjN:yX K (.ref jN)=true){ocjH kVjH dcjH pmjH cdjH ctjH:ai}{odjH anjH:jv}{sljH:Array (jc)}(iljH:K.lookup jH=some ⟨ocjH,odjH,.func (yK "__init__" "NotHeld.__init__" (Ve Of) (Xz Of) (Zf Of) .none kVjH dcjH pmjH anjH cdjH ctjH),sljH⟩)(icjH:xW K cdjH "NotHeld.__init__" = true)(ikjH:yX K (.ref jH)=true){ocjD kVjD dcjD pmjD cdjD ctjD:ai}{odjD anjD:jv}{sljD:Array (jc)}(iljD:K.lookup jD=some ⟨ocjD,odjD,.func (yK "__init__" "Shared.__init__" (Ve Oy) (Xz Oy) (Zf Oy) .none kVjD dcjD pmjD anjD cdjD ctjD),sljD⟩)(icjD:xW K cdjD "Shared.__init__" = true)(ikjD:yX K (.ref jD)=true)(Mm1:Zv K jg "put_leaf" "Shelf.put_leaf" JZ zE9)(Mm2:Zv K jg "put_stem" "Shelf.put_stem" JH zEe)(Mm3:Zv K jg "put_twig" "Shelf.put_twig" Kc zEv)(Mm4:Zv K jg "holders" "Shelf.holders" Ms zEa)(Mm5:Zv K jg "outside" "Shelf.outside" LJ zEa)(Mm6:Zv K jg "alone" "Shelf.alone" Lm zEa)(Mm7:Zv K jg "look" "Shelf.look" Mg zEa)(Mm8:Zv K jg "label" "Shelf.label" Ng zEa)(Mm9:Zv K jg "forget" "Shelf.forget" IW zEi)(Mm10:Zv K jg "numbers" "Shelf.numbers" IR zEi)(Mm11:Zv K jg "many" "Shelf.many" Kx zEi)(Mm12:Zv K jg "twig_of" "Shelf.twig_of" LV zEa)(Mm13:Zv K jg "labels_of" "Shelf.labels_of" Kt zEe)(Mm14:Zv K jg "check_held" "Shelf.check_held" Lp zEe)(Mm15:Zv K jg "take_over" "Shelf.take_over" KU zEz)(Mm16:Zv K jg "road_up" "Shelf.road_up" Ma zEa)(Mm17:Zv K jg "hold" "Shelf.hold" JF zEa)(Mm18:Zv K jg "let_go" "Shelf.let_go" Mr zEa)(Mm19:Zv K jg "drop_unheld" "Shelf.drop_unheld" My zEa)(Mm20:Zv K jg "change_leaf" "Shelf.change_leaf" Jw zEt)(Mm21:Zv K jg "change_stem" "Shelf.change_stem" Kk zEq)(Mm22:Zv K jg "looked" "Shelf.looked" IO zEi)(xCB:zP K ap "TwigError" = some (some (.ref CB)))(xCK:zP K ap "NoKey" = some (some (.ref CK)))(xCL:zP K ap "NoLeaf" = some (some (.ref CL)))(xCS:zP K ap "NoStem" = some (some (.ref CS)))(xCT:zP K ap "NoTwig" = some (some (.ref CT)))(xCH:zP K ap "NotHeld" = some (some (.ref CH)))(xCD:zP K ap "Shared" = some (some (.ref CD)))(xCSh:zP K ap "Shelf" = some (some (.ref jg)))(xCTw:zP K ap "Twig" = some (some (.ref jh)))(vjN:zD K (.ref CT) "__init__" = some (some (.ref jN)))(vjH:zD K (.ref CH) "__init__" = some (some (.ref jH)))(vjD:zD K (.ref CD) "__init__" = some (some (.ref jD)))(mkCSh:uR K jg=true)(kpCSh:yX K (.ref jg)=true)(pgCSh:vX K jg Str.empty=true)(hdCSh:wJ K jg=true)(poCSh:uN K jg=true)(saCSh:zD K (.ref jg) "__setattr__" = some (some (.builtin "object.__setattr__")))(mkCTw:uR K jh=true)(kpCTw:yX K (.ref jh)=true)(pgCTw:vX K jh Str.empty=true)(hdCTw:wJ K jh=true)(poCTw:uN K jh=true)(saCTw:zD K (.ref jh) "__setattr__" = some (some (.builtin "object.__setattr__")))(na_kept:zD K (.ref jg) "kept" = some none)(na_following:zD K (.ref jg) "following" = some none)(na_looks:zD K (.ref jg) "looks" = some none)(na_things:zD K (.ref jh) "things" = some none)(na_tag:zD K (.ref jh) "tag" = some none)(na_above:zD K (.ref jh) "above" = some none)(na_holds:zD K (.ref jh) "holds" = some none)(tyB:yM K (.ref CB)=some (.type "type"))(mB:zE K CB (.type "BaseException")=some true)(kitx:Kv K [CK,CL,CS,CT,CH,CD] [.type "ValueError"]=true)(wCT:xF K CT jN "number" = true)(tyCT:yM K (.ref CT)=some (.type "type"))(wCH:xF K CH jH "number" = true)(tyCH:yM K (.ref CH)=some (.type "type"))(wCD:xF K CD jD "number" = true)(tyCD:yM K (.ref CD)=some (.type "type"))(sbCK:zE K CK (.ref CB)=some true)(sbCL:zE K CL (.ref CB)=some true)(sbCS:zE K CS (.ref CB)=some true)(sbCT:zE K CT (.ref CB)=some true)(sbCH:zE K CH (.ref CB)=some true)(sbCD:zE K CD (.ref CB)=some true)(exCK:wM K CK Qd "ValueError.__new__" = true)(kpCK:yX K (.ref CK)=true)(mBCK:zE K CK (.type "BaseException")=some true)(tyCK:yM K (.ref CK)=some (.type "type"))(exCL:wM K CL Qd "ValueError.__new__" = true)(kpCL:yX K (.ref CL)=true)(mBCL:zE K CL (.type "BaseException")=some true)(tyCL:yM K (.ref CL)=some (.type "type"))(exCS:wM K CS Qd "ValueError.__new__" = true)(kpCS:yX K (.ref CS)=true)(mBCS:zE K CS (.type "BaseException")=some true)(tyCS:yM K (.ref CS)=some (.type "type"))(ntD:zE K CT (.ref CD)=some false)(mBCD:zE K CD (.type "BaseException")=some true)(slCD:zE K CD (.ref CD)=some true):
  ∃ k:ao,(∀(s:al)(v:ai),BindsTo s k ⟨[v],[]⟩ [("_law_script",v)])/\∀ a:aD,K.In a->a.Ns ap mg->xZ a cb0 tb0->a.BuiltinsAt mg tb0->xZ a cb1 tb1->a.BuiltinsAt mg tb1->xZ a cb2 tb2->a.BuiltinsAt mg tb2->ZH l.prog w K mg a Zd 80 fa k zFf (VY tb0 tb1 tb2 K):=by
 let e:=hfa.symm.trans (zB X G a41);cases e;let T:YY mg:=⟨yB X G z1,yB X G z2,yB X G z3,yB X G z4,yB X G z5,yB X G z6,yB X G z7,yB X G z8,yB X G z9,yB X G z10,yB X G z11,yB X G z12,yB X G z13,yB X G z14,yB X G z15,⟨_,zB X G m1_⟩,⟨_,zB X G m2_⟩,⟨_,zB X G m3_⟩,⟨_,zB X G m4_⟩,⟨_,zB X G m5_⟩,⟨_,zB X G m6_⟩,⟨_,zB X G m7_⟩,⟨_,zB X G m8_⟩,⟨_,zB X G m9_⟩,⟨_,zB X G m10_⟩⟩;exists yK "law" "law" (Ve PX) (Xz PX) (Zf PX) .none kV41 dc41 pm41 an41 cd41 ct41,λs v=>.of_eq Z;intro a L _ hC hB n1 m9 n2 n0;let Tr:mg "reversed" = none:=yB X G z16;let m4:Nm K mg CB (λi=>[CK,CL,CS,CT,CH,CD].getD i 0):=⟨zB X G xCB,tyB,mB,zB X G xCK,zB X G xCL,zB X G xCS,zB X G xCT,zB X G xCH,zB X G xCD⟩;let XA:∀ j,j<6->XC K CB (λi=>[CK,CL,CS,CT,CH,CD].getD i 0) j:=λj hj=>ZPp kitx Z hj (by match j,hj with | 0,_=>exact sbCK | 1,_=>exact sbCL | 2,_=>exact sbCS | 3,_=>exact sbCT | 4,_=>exact sbCH | 5,_=>exact sbCD | j+6,hj=>exact absurd hj ∅)
 let RA:∀ r:Rf,(r.2=none->r.1<3)->(r.2≠none->3<=r.1/\r.1<6)->Uw K CB (λi=>[CK,CL,CS,CT,CH,CD].getD i 0) r:=λr h1 h2=>by let h6:r.1<6:=(by cases e:r.2 with | none=>exact yN (h1 e) (by decide) | some x=>exact(h2 (by rw[e];intro z;cases z)).2);exact⟨h6,XA _ h6,h1,λz=>⟨(h2 z).1,by let⟨j,x⟩:=r;match j,(h2 z).1,h6 with | 3,_,_=>exact⟨_,Pm wCT⟩ | 4,_,_=>exact⟨_,Pm wCH⟩ | 5,_,_=>exact⟨_,Pm wCD⟩ | 0,y,_=>exact absurd (show 3<=0 from y) (by decide) | 1,y,_=>exact absurd (show 3<=1 from y) (by decide) | 2,y,_=>exact absurd (show 3<=2 from y) (by decide) | j+6,_,y=>exact absurd y ∅⟩⟩
 let c:YT K mg jg jh:=⟨zB X G xCSh,zB X G xCTw,⟨pgCSh,hdCSh,poCSh,saCSh⟩,⟨pgCTw,hdCTw,poCTw,saCTw⟩,na_kept,na_following,na_looks,na_things,na_tag,na_above,na_holds⟩;let m7:XN l.prog w K mg a "NoTwig" CT:=⟨⟨jN,_,Pm wCT,ZH3 (VP (st:=Oq) iljN icjN ikjN),(VP (st:=Oq) iljN icjN ikjN).binds λ_ _ _ _ _ _ n o=>match n,o with | [_,_],_=>rfl⟩,zB X G xCT,tyCT⟩
 let m0:XN l.prog w K mg a "NotHeld" CH:=⟨⟨jH,_,Pm wCH,ZGt (VP (st:=Of) iljH icjH ikjH),(VP (st:=Of) iljH icjH ikjH).binds λ_ _ _ _ _ _ n o=>match n,o with | [_,_],_=>rfl⟩,zB X G xCH,tyCH⟩
 let m6:XN l.prog w K mg a "Shared" CD:=⟨⟨jD,_,Pm wCD,Cp (VP (st:=Oy) iljD icjD ikjD),(VP (st:=Oy) iljD icjD ikjD).binds λ_ _ _ _ _ _ n o=>match n,o with | [_,_],_=>rfl⟩,zB X G xCD,tyCD⟩
 let m8:XS l.prog w K mg a CS:=⟨zB X G xCS,exCS,kpCS,mBCS,tyCS⟩;let c1:XD K mg CD:=⟨zB X G xCD,tyCD,mBCD,slCD⟩;let e5:Ut l.prog w K mg a 1 jg zEi (QP jg):=by let⟨f,k,v,fn,F,b⟩:=IjS.ex;exact⟨f,k,⟨mkCSh,v,fn,kpCSh⟩,Bu F c,b⟩
 let e6:Ut l.prog w K mg a 1 jh zEx (Qk jh):=by let⟨f,k,v,fn,F,b⟩:=IjT.ex;exact⟨f,k,⟨mkCTw,v,fn,kpCTw⟩,BO F c,b⟩
 let d:ZA l.prog w K mg a Zd 1 jg "twig_of" zEa (Z4 jg):=Mm12.of λ_ _ F=>Aj F c;let a3:ZA l.prog w K mg a Zd 2 jg "outside" zEa (X0 jg jh λ_ ho _=>.int ho):=Mm5.of λ_ _ F=>AS F c d;let i9:ZA l.prog w K mg a Zd 2 jg "label" zEa (X0 jg jh λtg _ _=>tg):=Mm8.of λ_ _ F=>ZKw F c d;let I:ZA l.prog w K mg a Zd 2 jg "holders" zEa (X0 jg jh λ_ ho n=>.int ((n.length:Nat)+(ho:Nat):Int)):=Mm4.of λ_ _ F=>ZHx F T c d;let J:∀ gt,ZA l.prog w K mg a (Zg l.prog w) 3 jg "road_up" zEa (Wa gt jg jh CD):=λgt=>Mm16.of λ_ _ F=>AI F c m6 d I;let i8:∀ gt,ZA l.prog w K mg a Zd 4 jg "alone" zEa (VS gt jg jh):=λgt=>Mm6.of λ_ _ F=>ZKd F c c1 (J gt);let a0:ZA l.prog w K mg a Zd 1 jg "forget" zEi (Xq jg jh):=Mm9.of λ_ _ F=>C7 F c;let q:ZC l.prog w K mg a 1 "is_stem" zFb (Xb jh):=L14.of λ_ _ F=>AU F T c;let l3:ZA l.prog w K mg a Zd 2 jg "look" zEa (UT jg jh):=Mm7.of λ_ _ F=>ZNp F T c d q;let l4:ZA l.prog w K mg a Zd 1 jg "many" zEi (UE jg):=Mm11.of λ_ _ F=>Et F T c;let l5:ZA l.prog w K mg a Zd 1 jg "numbers" zEi (Xw jg):=Mm10.of λ_ _ F=>AZ F T c;let a6:ZA l.prog w K mg a Zd 3 jg "put_twig" zEv (XL jg jh):=Mm3.of λ_ _ F=>Dm F c e6;let l6:ZA l.prog w K mg a Zd 2 jg "take_over" zEz (Xh jg jh):=Mm15.of λ_ _ F=>AA F c d;let g:ZA l.prog w K mg a (Zg l.prog w) 3 jg "twig_of" zEa (Zy jg CT):=Mm12.of λ_ _ F=>ZIG F c m7;let l0:ZA l.prog w K mg a (Zg l.prog w) 4 jg "label" zEa (WO jg jh CT):=Mm8.of λ_ _ F=>Hn F c g;let a2:ZA l.prog w K mg a (Zg l.prog w) 5 jg "labels_of" zEe (Yt jg jh CT):=Mm13.of λ_ _ F=>Ea F c l0;let D:ZA l.prog w K mg a (Zg l.prog w) 3 jg "check_held" zEe (Yj jg jh CH):=Mm14.of λ_ _ F=>ZFG F c m0 a3;let t:ZC l.prog w K mg a 1 "_law_pull" zEf (YK):=L16.of λ_ _ F=>ZNS F;let DW:ZC l.prog w K mg a 1 "_law_well" zE2 (UH K):=L15.of λ_ _ F=>BM F T;let DN:ZC l.prog w K mg a 1 "has_few_figures" zFc (Vi):=L4.of λ_ _ F=>ZOY F T;let A:ZC l.prog w K mg a 1 "is_sign" ["sign"] (WW):=L5.of λ_ _ F=>ZNB F;let i4:ZC l.prog w K mg a 6 "standing" zFd (UG 5):=GO T L7 5;let O:ZC l.prog w K mg a 7 "ahead" zE5 (Yi):=L6.of λ_ _ F=>ZKT F i4;let ZK:XZ K mg "NoKey" CK:=⟨zB X G xCK,exCK,kpCK,mBCK,tyCK⟩;let ZL:XZ K mg "NoLeaf" CL:=⟨zB X G xCL,exCL,kpCL,mBCL,tyCL⟩;let ZS:XZ K mg "NoStem" CS:=⟨zB X G xCS,exCS,kpCS,mBCS,tyCS⟩;let c9:ZC l.prog w K mg a 5 "fits" zEp (λM H Q E=>Y4 4 M H Q E\/WN M H Q E):=L3.of λ_ _ F=>Aq (FQ F T DN A (Jn T L3 DN A 3)) (ZKQ F T DN A (Jn T L3 DN A 3)) (zY _);let e2:ZC l.prog w K mg a 6 "is_key" zE4 (Xm):=L1.of λ_ _ F=>ZJV F T c9;let c4:X9 l.prog w K mg a 7 "checked" zE4 (Ua CK):=by let⟨f,k,F,b,m⟩:=(L2).ex;exact⟨f,k,Bi F L ZK e2,b,F.kp,m⟩
 let V:X9 l.prog w K mg a 8 "own_rows" zEu (VV CK):=by let⟨f,k,F,b,m⟩:=(L9).ex;exact⟨f,k,ZMO F c4,b,F.kp,m⟩
 let S:ZC l.prog w K mg a 8 "rise" ["keys"] (WG):=L10.of λ_ _ F=>D3 F T O;let e1:X9 l.prog w K mg a 9 "checked_rows" zEu (Vu CK CL):=by let⟨f,k,F,b,m⟩:=(L8).ex;exact⟨f,k,EW F L T ZL V S,b,F.kp,m⟩
 let c7:ZC l.prog w K mg a 9 "checked_rows" zEu (WY):=L8.of λ_ _ F=>F6 (EW F L T ZL V S) λ_ _ _ _=>De;let e3:ZC l.prog w K mg a 1 "label_of_rows" zEu (Xv):=L11.of λ_ _ F=>ZHy F T;let a4:ZA l.prog w K mg a Zd 10 jg "put_leaf" zE9 (XE jg jh):=Mm1.of λ_ _ F=>ZIE F c c7 e3 a6;let i2:ZC l.prog w K mg a 8 "stand_side_by_side" zE1 (UU):=L13.of λ_ _ F=>Ch F T O;let R:X9 l.prog w K mg a 9 "label_over" ["labels"] (Vc CS):=by let⟨f,k,F,b,m⟩:=(L12).ex;exact⟨f,k,E2 F L T m8 i2,b,F.kp,m⟩
 let a5:∀ gt,ZA l.prog w K mg a (Zg l.prog w) 10 jg "put_stem" zEe (Z7 gt jg jh CS CT CH):=λgt=>Mm2.of λ_ _ F=>Da F T c a2 R D a6 l6;let P:ZC l.prog w K mg a 7 "_law_less" zEr (Yi):=L18.of λ_ _ F=>E7 F (Ik T L17 5);let p:ZC l.prog w K mg a 7 "_law_alike" zEd (YE 6):=Fx T L19 6;let e0:ZC l.prog w K mg a 2 "_law_grid" zE8 (UR):=L20.of λ_ _ F=>ZMp F T t;let e4:ZC l.prog w K mg a 2 "_law_leaf_rows" zEl (Xf):=L21.of λ_ _ F=>AV F T t;let i1:∀ gt,ZC l.prog w K mg a 1 "_law_rows_of" zEb (WX gt):=λgt=>L22.of λ_ _ F=>ZI8 F T Tr;let B:∀ gt,ZC l.prog w K mg a 2 "_law_label" zEb (Y8 gt):=λgt=>L23.of λ_ _ F=>Ck F T (i1 gt);let N:∀ gt,ZC l.prog w K mg a 1 "_law_above" zEb (WL gt):=λgt=>L24.of λ_ _ F=>Db F T;let U:∀ gt,ZC l.prog w K mg a 2 "_law_shared" zEj (Xo gt):=λgt=>L25.of λ_ _ F=>Dx F T (N gt);let c6:ZC l.prog w K mg a 1 "_law_count" zEd (VL):=L26.of λ_ _ F=>B8 F T;let u:ZC l.prog w K mg a 2 "_law_picked" zEh (YZ):=L31.of λ_ _ F=>An F T t;let i6:ZC l.prog w K mg a 1 "_law_unheld" zEs (Xl):=L30.of λ_ _ F=>ZJ2 F T;let i7:∀ gt,ZC l.prog w K mg a 8 "_law_wrong" zEk (WI gt):=λgt=>L29.of λ_ _ F=>AT F T (B gt) P;let i0:∀ gt,ZC l.prog w K mg a 4 "_law_run" zEg (Uf gt):=λgt=>L32.of λ_ _ F=>C3 F T t u (B gt);let DQ:ZC l.prog w K mg a 71 "_law_asked" zEw (YN l.prog w K mg a CB (λi=>[CK,CL,CS,CT,CH,CD].getD i 0)):=L28.of λ_ _ F=>ZLe F T m4;let c8:ZC l.prog w K mg a 8 "_law_exact" zEo (U8 λgt=>WH gt jg jh):=L27.of λ_ _ F=>Nz λgt=>B0 F T c l5 l4 l3 i9 a3 I (i8 gt) a0 p c6 (B gt) (N gt) (U gt);let e7:ZC l.prog w K mg a 11 "_law_put_leaf" zEn (U8 λgt=>XY gt jg jh):=L33.of λ_ _ F=>Nz λgt=>Cc F T c e4 a4;let e8:ZC l.prog w K mg a 72 "_law_put_stem" zEc (U8 λgt=>Xe gt jg jh tb0):=⟨f34,_,Nz (λgt=>ZGY (C:=λi=>[CK,CL,CS,CT,CH,CD].getD i 0) (VP (st:=V4) l34 c34 k34) a34 hta hC hB T c (XA 2 (by decide)) (XA 3 (by decide)) (XA 4 (by decide)) (Pm wCT) (Pm wCH) (a5 gt) DQ (i0 gt) t u (i7 gt) i6 p),(VP (st:=V4) l34 c34 k34).binds λ_ _ _ _ _ _ n o=>match n,o with | [_,_],_=>rfl,k34,zB X G a34⟩
 let c3:ZC l.prog w K mg a 73 "_law_begun" zEm (VZ jg jh tb0):=L35.of λ_ _ F=>BD F T c e5 e0 e7 e8;let Y:∀ gt,ZA l.prog w K mg a Zd 67 jg "drop_unheld" zEa (λM H Q E=>∃ m,m<64/\WQ gt m jg jh M H Q E):=λgt=>Hz Mm19 c I d q 64;let l1:∀ gt,ZA l.prog w K mg a (Zg l.prog w) 68 jg "let_go" zEa (XT gt jg jh CH):=λgt=>Mm18.of λ_ _ F=>EG F c D d (Y gt);let a1:∀ gt,ZA l.prog w K mg a Zd 68 jg "let_go" zEa (λM H Q E=>XT gt jg jh CH M H Q E0):=λgt=>Mm18.of λ_ _ F=>F6 (EG F c D d (Y gt)) λ_ _ _ _ h=>h;let l9:ZA l.prog w K mg a (Zg l.prog w) 4 jg "hold" zEa (YH jg CT):=Mm17.of λ_ _ F=>Cy F c g;let a9:ZA l.prog w K mg a (Zg l.prog w) 4 jg "holders" zEa (YH jg CT):=Mm4.of λ_ _ F=>Bz F c g;let m3:ZA l.prog w K mg a (Zg l.prog w) 4 jg "look" zEa (YH jg CT):=Mm7.of λ_ _ F=>Ad F c g;let c0:ZA l.prog w K mg a (Zg l.prog w) 4 jg "outside" zEa (YH jg CT):=Mm5.of λ_ _ F=>ZGF F c g;let m5:ZA l.prog w K mg a (Zg l.prog w) 5 jg "road_up" zEa (YH jg CT):=Mm16.of λ_ _ F=>ZKx F c a9;let l7:ZA l.prog w K mg a (Zg l.prog w) 6 jg "alone" zEa (YH jg CT):=Mm6.of λ_ _ F=>Dr F c c1 ntD m5;let l8:ZA l.prog w K mg a (Zg l.prog w) 5 jg "check_held" zEe (Vb jg CT):=Mm14.of λ_ _ F=>ZIV F c c0;let m2:ZA l.prog w K mg a (Zg l.prog w) 6 jg "let_go" zEa (YH jg CT):=Mm18.of λ_ _ F=>BB F c l8;let m1:ZA l.prog w K mg a (Zg l.prog w) 4 jg "label" zEa (YH jg CT):=Mm8.of λ_ _ F=>Bx F c g;let a7:∀ gt,ZA l.prog w K mg a (Zg l.prog w) 10 jg "change_leaf" zEt (Z6 gt jg jh (λi=>[CK,CL,CS,CT,CH,CD].getD i 0)):=λgt=>Mm20.of λ_ _ F=>ZHo (C:=λi=>[CK,CL,CS,CT,CH,CD].getD i 0) F L c ZL g q (J gt) e1;let a8:∀ gt,ZA l.prog w K mg a (Zg l.prog w) 10 jg "change_stem" zEq (Z8 gt jg jh (λi=>[CK,CL,CS,CT,CH,CD].getD i 0)):=λgt=>Mm21.of λ_ _ F=>DV (C:=λi=>[CK,CL,CS,CT,CH,CD].getD i 0) F L T c ZS g q (J gt) a2 R;let l2:ZA l.prog w K mg a Zd 1 jg "looked" zEi (Xn jg):=Mm22.of λ_ _ F=>CI F T c;let c5:∀ gt,X9 l.prog w K mg a 11 "_law_call" P5 (WZ gt jg jh (λi=>[CK,CL,CS,CT,CH,CD].getD i 0)):=λgt=>by let⟨f,k,F,b,m⟩:=(L37).ex;exact⟨f,k,ZMd (C:=λi=>[CK,CL,CS,CT,CH,CD].getD i 0) F c l9 m2 a9 c0 l7 m1 m3 (a7 gt) (a8 gt) (a5 gt),b,F.kp,m⟩
 let i3:∀ gt,ZC l.prog w K mg a 69 "_law_strange" zEc (XF gt jg jh):=λgt=>L36.of λ_ _ F=>ZHs F T c t a4 a1;let e9:ZC l.prog w K mg a 8 "_law_rows_due" zFe (XG):=L40.of λ_ _ F=>ZIC F T P;let i5:ZC l.prog w K mg a 72 "_law_unknown" zEc (U8 λgt=>XQ gt jg jh tb1):=⟨f38,_,Nz (λgt=>ZIK (C:=λi=>[CK,CL,CS,CT,CH,CD].getD i 0) (VP (st:=Po) l38 c38 k38) a38 htb n1 m9 T c (λx=>RA _ (λz=>by cases z) λ_=>⟨zA Z,zA Z⟩) (i3 gt) t u a0 l2 (c5 gt) DQ p),(VP (st:=Po) l38 c38 k38).binds λ_ _ _ _ _ _ n o=>match n,o with | [_,_],_=>rfl,k38,zB X G a38⟩
 let c2:ZC l.prog w K mg a 72 "_law_amiss" zEc (U8 λgt=>WM gt jg jh tb2):=⟨f39,_,Nz (λgt=>ZKs (C:=λi=>[CK,CL,CS,CT,CH,CD].getD i 0) (VP (st:=Uv) l39 c39 k39) a39 htc n2 n0 T c RA t u (U gt) e9 (l1 gt) (a7 gt) (a8 gt) DQ p),(VP (st:=Uv) l39 c39 k39).binds λ_ _ _ _ _ _ n o=>match n,o with | [_,_],_=>rfl,k39,zB X G a39⟩
 exact B3 (VP (st:=PX) l41 c41 k41) T DW t c3 i5 c2 c8
def tT(K:zZ)(p:Str):Addr:=((yS K p).getD (0,0)).2
def KL(K:zZ):Bool:=match yS K "_law_put_stem",yS K "_law_unknown",yS K "_law_amiss" with
 | some a,some b,some c=>a.2 != b.2&&a.2 != c.2&&b.2 != c.2
 | _,_,_=>false
def Gv{K:zZ}(h:KL K=true):∃ a b c:aj×aj,yS K "_law_put_stem" = some a/\yS K "_law_unknown" = some b/\yS K "_law_amiss" = some c/\a.2≠b.2/\a.2≠c.2/\b.2≠c.2:=by
 unfold KL at h
 cases d:yS K "_law_put_stem" with
 | none=>rw[d] at h;cases h
 | some a=>
  cases e:yS K "_law_unknown" with
  | none=>rw[d,e] at h;cases h
  | some b=>
   cases f:yS K "_law_amiss" with
   | none=>rw[d,e,f] at h;cases h
   | some c=>
    rw[d,e,f] at h;simp at h;exact⟨a,b,c,Z,Z,Z,h.1.1,h.1.2,h.2⟩
def walk{l:uS}{q:am}{o:jq}{S:(jb)->aD->Prop}{N:aw->aD->Prop}{d:DefRec}{K:Params->zZ}(hn:l.most=some 63)(L:d.params.defaults=[])(hY:∀ (w:aw) (h:aD),N w h->(K w.params).In h)(A:((recsOf q).find? (λe=>e.name==(("_law_put_stem" : String):Str))).isSome=true)(j:((recsOf q).find? (λe=>e.name==(("_law_unknown" : String):Str))).isSome=true)(m:((recsOf q).find? (λe=>e.name==(("_law_amiss" : String):Str))).isSome=true)(i:∀ w:aw,KL (K w.params)=true)(M:∀ w:aw,sH (K w.params)=true)(F:∀ (w:aw) (g:jb) (D:aj) (h:aD) (c T O B P C:aj),(K w.params).In h->h.Ns ap g->g d.name=some (.ref D)->yS (K w.params) "_law_put_stem" = some (c,T)->yS (K w.params) "_law_unknown" = some (O,B)->yS (K w.params) "_law_amiss" = some (P,C) ->
   ∃ E:ao,(∀ (s:al) (u:ai),BindsTo s E ⟨[u],[]⟩ [("_law_script",u)])/\∀ b:aD,(K w.params).In b->b.Ns ap g->xZ b c T->b.BuiltinsAt g T->xZ b O B->b.BuiltinsAt g B->xZ b P C->b.BuiltinsAt g C->ZH l.prog w (K w.params) g b Zd 80 D E zFf (VY T B C (K w.params))):
  tU q o S N l.row.toRowW d [] (λf vs=>PySem.call f vs):=by
 refine L2.Nc (n:=63) (k:=80) (x:= "_law_script") (ps:=["_law_put_stem","_law_unknown","_law_amiss"]) (sp:=λK=>VY (tT K "_law_put_stem") (tT K "_law_unknown") (tT K "_law_amiss") K) hn (by decide) L ⟨Z,by decide,by decide⟩ hY (λp Q=>?_) M (λw g D h R G hm=>?_) (λw H a ns hl J Y=>?_)
 ·simp only[zF,wQ,or_false] at Q;rcases Q with rfl | rfl | rfl
  ·exact A
  ·exact j
  ·exact m
 ·let⟨x,y,z,r,t,v,_⟩:=Gv (i w);let⟨E,hb,X⟩:=F w g D h x.1 x.2 y.1 y.2 z.1 z.2 R G hm r t v;exists E,hb;intro b U V I;let⟨p1,p2⟩:=I x (xU.mpr ⟨_,zK,r⟩);let⟨p3,p4⟩:=I y (xU.mpr ⟨_,zI _ zK,t⟩);let⟨p5,p6⟩:=I z (xU.mpr ⟨_,zI _ (zI _ zK),v⟩);have:=X b U V p1 p2 p3 p4 p5 p6;unfold tT;rw[r,t,v];exact this
 ·let⟨x,y,z,r,t,v,n1,n2,n3⟩:=Gv (i w);let q1:=J x (xU.mpr ⟨_,zK,r⟩);let q2:=J y (xU.mpr ⟨_,zI _ zK,t⟩);let q3:=J z (xU.mpr ⟨_,zI _ (zI _ zK),v⟩);unfold tT;rw[r,t,v];exact⟨a,ns,Z,Y,hl,q1,q2,q3,n1,n2,n3,λ_=>rfl⟩
end Tw
open PySem PySem.W PyProof.Rows
namespace PySem.W.Fast
local macro_rules|`(universe $x*)=>return .node .none `null (←x.mapM λi=>`(def $i:ident:=0))
universe tw10041163976757814686 tw10043380807108772124 tw10126703105699293879 tw10132996885883451379 tw10140281627764118294 tw10150804896641578389 tw10162918353415273457 tw10223329102573321436 tw10249489730703351981 tw10255874566075410117 tw10265899906796901931 tw10283611584832176248 tw1030511011957533557 tw10336366978362536827 tw10343820321961741659 tw10344517572048277124 tw10359034934579189695 tw10370160594336983585 tw10414650871886566846 tw10425442155461575547 tw10441618992086098853 tw1048609231911219423 tw10487711562068104107 tw10518256013599929925 tw10545159393694818670 tw10550468192493880271 tw10552340452876766061 tw10555728069069360389 tw10574018753053958765 tw10613014706287515239 tw10620404112609169031 tw10638013924877372736 tw1064358359926076647 tw10658016230805545272 tw10665512940372396054 tw10690000990018991888 tw10744286729771850111 tw10766131708890226079 tw10767596908858470071 tw10772336407256632151 tw10796165955868205994 tw10823953399036410151 tw10842385489368136826 tw10876072369202108341 tw10879717940832057711 tw10916660145767855022 tw10944867366935290480 tw10986317787350488943 tw11055813284330510040 tw11100175480342095812 tw11140953832005101711 tw11143476133450479200 tw11168338915489323062 tw11170303016974926467 tw11200906571350228827 tw11245814686620694446 tw112705783455076853 tw1127760770514031270 tw11286202900918911011 tw11303322409347790283 tw11330164579192340845 tw11332705648904689037 tw11372846478090179481 tw11389612536551008261 tw11412050430447844079 tw11476750658129375107 tw11515753722000705629 tw1153462078238433317 tw1156006994542307696 tw11560849688278890711 tw11570103547407725891 tw11581776618044838458 tw1162393346755032822 tw11694190686917129067 tw1170679788089494734 tw11740433805382258517 tw11794220512206100024 tw1186569652089167077 tw11869888533682754157 tw1187285259722463465 tw1188193208764413129 tw11883892494134063569 tw11892373672516954828 tw11913653870081373010 tw11914107777081152656 tw11956548014727148157 tw12012496400229906216 tw12017759384509872927 tw12038842341090869065 tw12108472015819702171 tw12163835585622809253 tw12173335554976726822 tw12205069934394933847 tw12206564223712812313 tw12210450363194386602 tw12242328964562180680 tw12243047115066588954 tw12274075385401880426 tw12285849035739713389 tw12322189557699734206 tw12346443306883864047 tw12409911243254727448 tw12410174261306852796 tw12412003715042813952 tw12417931003849207188 tw12468905244326902608 tw12501093929851100722 tw12510046629502589778 tw12515199217552536464 tw12518290321512265266 tw12528796826668224412 tw12549742465695773941 tw12578463108331876086 tw1258020995912489341 tw12588871480829503475 tw12606482011811432282 tw12609483811059572295 tw12611664981443044866 tw12613005692837332000 tw12613796895666025950 tw12650761957219043575 tw12657285921581232643 tw12664226243222988811 tw12666303788493481783 tw12714941648360199696 tw127490617271041836 tw12757971285300780143 tw12764437298040160378 tw1277347878738076870 tw1278244094634010066 tw12790901869527371478 tw127979261520723571 tw12831321517168835737 tw12835832680816658100 tw12853672211472512074 tw12882539870606449541 tw12949776835916226183 tw12962297533867150176 tw12970694281736087011 tw12989483829714931656 tw13004431198907813672 tw1303095188637832267 tw1303762702801535916 tw13048314410075896664 tw1306344782966213102 tw13197669415343289560 tw13229698204457783119 tw13242666199875421638 tw13285386470902878323 tw13287832750108735192 tw13300926208335367512 tw13309248626262084890 tw13333655228051711574 tw13339006346398085591 tw13348628906223717265 tw13355614108075054258 tw13376581886961333109 tw13381501140648115525 tw13451717434894749884 tw1345276103192445526 tw13460295717158131880 tw13470375071105239132 tw13484272062307023887 tw13506666214734153087 tw13536938999406878861 tw13548735063608549982 tw13578209403919903810 tw13594746179680599474 tw13626551060107691301 tw13650406059573316930 tw1369341022253222497 tw13702881538272623836 tw13718725703209992036 tw13737054933338288824 tw1376589613899869965 tw13772139015767725109 tw13779709348275997016 tw13940143212260823010 tw13953433034829107758 tw13955296131552565203 tw14040520381060537224 tw14042713023688453663 tw14055081575677200091 tw14073104923301799407 tw14078451174778630637 tw14099562937282858819 tw14114508378030207493 tw14114693321458198248 tw14118486781809382913 tw14156441571047390443 tw14160362493279863490 tw14194881337946534288 tw14210413438460694501 tw1422074895018097699 tw1423426634926175593 tw1424203931847547460 tw14285985131141011430 tw14287065072129533552 tw14309224504383083124 tw14313776809350259964 tw14318972759936697121 tw14381065721102262591 tw14386339820826811409 tw14402408775954596534 tw14413226906011163340 tw14450344491636743661 tw14466122705585559659 tw14572705429728827970 tw14604999737449714794 tw14609003247102658938 tw14630753999482537801 tw14640262768380775260 tw1466507892496074968 tw14734504300117082559 tw14838317427235589224 tw14878626069272064714 tw14908547995278353084 tw1492335534730810989 tw14951161141155017142 tw14951775198399250970 tw14967190345463871437 tw14993322152502085966 tw15017266145254755565 tw15049353262463855781 tw15052108131959064484 tw15092849018051706225 tw15127424226800715995 tw15136724851167506143 tw1514239649803807359 tw15160764273024760587 tw15185177696160735372 tw15219572694868611134 tw15228669583642067465 tw15275340267650306666 tw15278661379111194359 tw15282695091608069569 tw15300919127400167850 tw15309937782667724820 tw15335177281168276956 tw15335314855451200918 tw15356678087536564915 tw15379278309858189865 tw15416652352611936376 tw15430419743373732987 tw15446753976702519763 tw1546008498362924673 tw15522105746740243802 tw15596067046716593930 tw15602896254181964786 tw15603383688642378072 tw15645045775329657883 tw15667507688953066395 tw15677657121630868700 tw1573085425700460002 tw1573981148894449350 tw15741772270550686247 tw15801190313923371265 tw15810006968877442187 tw15828285734928668297 tw15845376258249534002 tw1586277995481898781 tw15876972086831571400 tw15912161800877615562 tw15918773083758205227 tw15962698798849257847 tw16001698195961946798 tw16033900731475383304 tw16100176118501360787 tw16211920529021035 tw16223650153715912656 tw16244551084994853746 tw16381245752558438544 tw16391816599949545947 tw1639859018463810166 tw16402299698744696331 tw16464292174368790092 tw16469674856591696359 tw16476043316104531061 tw16497671864789719361 tw16555735498480107352 tw16561245568989797886 tw1658383416618856245 tw16610722297229844985 tw16655689381075184975 tw16708552917501770856 tw16713099642642909318 tw16715071826684666225 tw16750233161948571405 tw16753949469948791732 tw16812177226777182058 tw16823054283559505185 tw16834887490289233850 tw16850855549856086784 tw16855004338607507556 tw16860937647551903206 tw16916558315617366418 tw16951626685023184877 tw16956188597291674151 tw16998325865732721014 tw17016560882900202580 tw1702230466805093757 tw1705547281136477053 tw17066654980052873113 tw17069372775417944890 tw17110691741248395417 tw17113728665522972969 tw1711974993471184812 tw17148881164627253141 tw17154305342478782189 tw17165282764305856319 tw17170174139267713186 tw17188923003473450076 tw17190298796543231994 tw17242541285017570642 tw1729428273808516266 tw17319487862464604192 tw17346214732246533345 tw17354356102282366187 tw17377884207910524388 tw17385157772443687823 tw17396355245143737341 tw17410807812569736944 tw17418978172029096349 tw17425442084817374175 tw1743616815026004744 tw17465028231452898506 tw1753873303480167579 tw17557039944751365113 tw17573823623502719369 tw17580846125768908035 tw17590418786482057473 tw17607192382100269610 tw17629910470230509838 tw17632137101410061277 tw17639210196145802922 tw1767783680528859739 tw17717092537221393877 tw17771912482039678131 tw17777407934763530670 tw17828198121724910570 tw17832082235809915326 tw1784079129165787424 tw17841887253981234872 tw17896319913415389388 tw17932667334860377670 tw17948504339412487804 tw17967810138435112607 tw1798481679554586004 tw18011745813967806069 tw18067499505552812816 tw18084597787908914139 tw18116144987490083734 tw18151559630176520927 tw18187227962008417379 tw18196547043316794770 tw18234574763313672031 tw18344251049349765501 tw18378143045353695642 tw18379519221796238608 tw18384177259373386231 tw18435682215976744438 tw18435714868430899917 tw1899068385338594357 tw1910899673565457820 tw1912226680659333621 tw1931943632225706354 tw1948838012252955017 tw1990443111921909051 tw1991913069210942644 tw2002960641455004841 tw2004134472096611353 tw2011364918452335503 tw2015997211900629908 tw2069164800725209348 tw2076099844489579447 tw2086660489179861352 tw2092525150678220246 tw2103948094393566948 tw2117466445861829568 tw2157308428497253233 tw2160969262177082047 tw219334124797999028 tw2196216991811460545 tw2232151395485490565 tw2234902843934174078 tw2236392646616478259 tw2253891690071698227 tw2279908360383946037 tw2340465522374760943 tw236060780738761324 tw2390122476484110654 tw2426219864297635434 tw2437946747720490627 tw2467552733550723821 tw2559638508872996192 tw2614054047400944918 tw2619570207914870171 tw2643810103935985815 tw2651124030613599489 tw2653821347654123272 tw2689712638509635671 tw2691800715077105413 tw2697433892706078486 tw2746521564664350109 tw2758496948273297741 tw2816312251646932324 tw2833594030893323960 tw283462264398318540 tw2847126254571073996 tw2876107361406802916 tw2888568387075520613 tw2946242021941327544 tw294800416555687740 tw2963560562227923032 tw2975456244937138221 tw3035653121586400274 tw3042327107369298759 tw3053172693173187317 tw3089819563058302515 tw310568153626385302 tw3125585542342508710 tw3166207152225869204 tw3176902127127972947 tw3195991536048430705 tw3207565080327892806 tw3222003690160568434 tw3223689931919555713 tw3317266450820535942 tw3330663203541068935 tw3337677511607079734 tw3382452892402295624 tw3391267464559611112 tw3394459196849829981 tw3433883171992323373 tw3438511757502683476 tw3456784137243697039 tw3540875095509839820 tw3570903085970994979 tw3605768766344966977 tw3619245005404161052 tw3620760480307531662 tw3622621967133240090 tw3626512239349355947 tw3641708326046958112 tw3673232530766268752 tw3688963634907977355 tw3716981703231997708 tw3857075833444255986 tw3875295441314719480 tw3877533048258909 tw3912682307599776101 tw3979176329493466522 tw3995145815552570061 tw402518638697878329 tw4036272789110151468 tw4051576176535972124 tw4062408071707498269 tw411837389736947849 tw4158545285411666527 tw4161507878956725596 tw4171430130372847245 tw4209804765592592223 tw4210362160345889909 tw4218597279817471624 tw439500918396168882 tw4399396142775720894 tw4409076773179810152 tw442383764311527372 tw4427758916047652218 tw4429829819101347241 tw4431479651781516462 tw4510780487404723570 tw4519197133850555528 tw4530958428932428719 tw4541751344518994965 tw4542045287738213726 tw4566705804958924682 tw4571762464851574956 tw4615644267007125171 tw4664807993407413932 tw4677113889112385401 tw4679446052938946277 tw4680281958460899745 tw4696891809458779924 tw4701248685661410910 tw4735117504132717071 tw4760546966766094107 tw4792109473574138999 tw4811031259568648065 tw4842310222773276222 tw4856575463922514390 tw4877238593382974377 tw4890554364618331384 tw4958699376392123588 tw4963933737361547661 tw4966545513894733333 tw497041671283313136 tw4974127684601149178 tw4994657218293234118 tw4997102669648613703 tw5023497144621354406 tw5041695342149171493 tw5178751702428128916 tw5238493639902083725 tw5271623960400151145 tw5304880335630980375 tw5358745743590370603 tw5365252417551378834 tw5398620530675920371 tw5412087993341227621 tw5453323555056224729 tw5476993048388303162 tw5477029973164937661 tw5524808459053825539 tw5534273807874547523 tw5538177176963643058 tw5570977965874239813 tw558430220326425364 tw5683931547244928285 tw5697360484465174361 tw5704338809228473594 tw5720308381834905176 tw5720685796687841846 tw5746576697874932621 tw5778352750770149173 tw5780733530103397164 tw5789283933703195971 tw5793384941308872883 tw5800775811869126731 tw5826522633324509004 tw5886058161842726772 tw5896777411284515946 tw5913555406528152388 tw5960600740535399871 tw5967278597850899629 tw5978357020547936315 tw5992025703887007640 tw600213539733110552 tw6012559131664668562 tw602663042451216552 tw6036202604629042431 tw604091330991859481 tw6057804820446170765 tw6059110605195593231 tw6064974265538472204 tw6079718134667693115 tw6091818578685094099 tw6117171511459023264 tw6171876495596458384 tw6193220270362221285 tw6217114570555025831 tw6231558685699939921 tw6255086647048149154 tw6255798493150485503 tw6267105145390155966 tw626874225776552462 tw6310531469387635962 tw633985655049992625 tw6365875938976147394 tw6388963320072088735 tw6389135940490918757 tw6389449112079778496 tw6420274530656676387 tw6434106829748418675 tw650704004901118891 tw6509451611848917609 tw6516240957073268479 tw6516991616727465670 tw6549584354642156885 tw6558400357325156309 tw6560109689940749990 tw6587051279062819595 tw6628438760136039265 tw6650176159718050068 tw6732698216986037705 tw6740676489421775437 tw6800141812920646742 tw6802169613915789906 tw6827986268636460259 tw6873427125065249388 tw6878632770158391662 tw6884795401279057195 tw6910065469516117468 tw695393388579642071 tw6960085709200411530 tw6962123130456840874 tw6976265181076707063 tw6978913460658918014 tw700725136428290754 tw7024662110958712332 tw7075552622838609910 tw7119825771085935035 tw7122032811453119518 tw7135813351886100331 tw7139360997144782845 tw7167718471309852162 tw7195026551620602841 tw7290087631048263833 tw731147568684083139 tw7334088290850745114 tw7339002618722186151 tw7349031583443775748 tw7354906471034516902 tw7356011717020096286 tw7385972803007409918 tw7467174691658067571 tw7467449704850635954 tw7485006799358643088 tw7525001049106997065 tw7526127474202237388 tw7536578789534104673 tw7575271649303114396 tw7654607928414129266 tw7659120816758058014 tw7676774478422271177 tw7732600620650256333 tw7735365000044539399 tw7754792387868877317 tw7847685772933103321 tw7848429190708471159 tw7887820725328884981 tw7995069841497646952 tw7998051445049943817 tw8112763310574268267 tw8124426492056447507 tw8124544142721918357 tw8141205116499014592 tw8152952298370092353 tw8175160690897899470 tw8184933686183495428 tw8279376236438959039 tw8330725907413557233 tw8340597695127948616 tw8349647883156294552 tw8409438327461873018 tw8413149827014141533 tw8415047454901447860 tw8429155152671984808 tw845139070368304331 tw8464457039062270231 tw8519562455776216094 tw8534031100894281067 tw8537553637480310345 tw8567878655942224567 tw857796736504931499 tw8607898402688088727 tw8617841480075680070 tw863827837603220412 tw8649670562494627162 tw8663755714942550584 tw8683828744736397656 tw8689873075201518200 tw8695751622243031014 tw8705919899131438643 tw8759087024476817079 tw8768525509033663224 tw8779008833529787919 tw8871103616096948734 tw8908464721379386175 tw8910653186409434855 tw8929400176745155485 tw8971537498261036161 tw8994122249241895275 tw9025869762080544075 tw9095057686520152950 tw9101519836273966784 tw9105833391568286595 tw9143101705132560660 tw9148208452559312925 tw916638506263501845 tw9180162805279573581 tw921540602939383572 tw9249171020782839999 tw9259005427059659319 tw9281954659035928547 tw9287093641666559303 tw9322305263501168269 tw9328921358840858570 tw9347939507178200411 tw935994535160389940 tw9377776120256928520 tw9395970317254811302 tw9430142786194492589 tw9444113093936911815 tw9452955878138720204 tw9501700825008379680 tw9531551040364477696 tw9615390527310823597 tw9616154096115466363 tw9649070801922572785 tw9662325594166992360 tw966235117061424616 tw9674592540068197039 tw9703881597686123377 tw9710785683008043542 tw9741130551127813869 tw9761948559034727520 tw9765867354270827430 tw9807350763088648481 tw9825009296370742856 tw983575558325723488 tw9860520778670259622 tw9872410668430642499 tw9875731630024072948 tw9914715088857550911 tw9934906107816447341 tw9937785329040685663 tw9956684326267021278 tw997760233995506914
end PySem.W.Fast
set_option maxRecDepth 100000 in
set_option maxHeartbeats 0 in
theorem PySem.Challenge.cw_twigmap_k23_refused_of_the_shelf_holds : PySem.Challenge.rw_twigmap_k23_refused_of_the_shelf.Holds := by
 w_on;o_law;k_head;(case hw=>w_witness2)
 k_fill
 refine Tw.walk (l:=PySem.Challenge.rw_twigmap_k23_refused_of_the_shelf) Z Z (λw h Y=>PySem.W.km_in_of Y) ?qRec ?qRec2 ?qRec3 ?qTab ?qNot ?qFun
 case qRec=>first | kernel_rfl | exact rfl
 case qRec2=>first | kernel_rfl | exact rfl
 case qRec3=>first | kernel_rfl | exact rfl
 case qTab=>intro w;kernel_rfl
 case qNot=>intro w;kernel_rfl
 case qFun=>
  intro w mg fa h cb tb cc tc cd td KX G hmg hta htb htc;refine' Tw.JU KX G hmg hta htb htc (Tw.Mw KX G ?a1 ?l1 ?c1 ?k1) (Tw.Mw KX G ?a2 ?l2 ?c2 ?k2) (Tw.Mw KX G ?a3 ?l3 ?c3 ?k3) (Tw.Mw KX G ?a4 ?l4 ?c4 ?k4) (Tw.Mw KX G ?a5 ?l5 ?c5 ?k5) (Tw.Mw KX G ?a6 ?l6 ?c6 ?k6) (Tw.Mw KX G ?a7 ?l7 ?c7 ?k7) (Tw.Mw KX G ?a8 ?l8 ?c8 ?k8) (Tw.Mw KX G ?a9 ?l9 ?c9 ?k9) (Tw.Mw KX G ?A0 ?A1 ?A2 ?A3) (Tw.Mw KX G ?A4 ?A5 ?A6 ?A7) (Tw.Mw KX G ?A8 ?A9 ?Aa ?Ab) (Tw.Mw KX G ?Ac ?Ad ?Ae ?Af) (Tw.Mw KX G ?Ag ?Ah ?Ai ?Aj) (Tw.Mw KX G ?Ak ?Al ?Am ?An) (Tw.Mw KX G ?Ao ?Ap ?Aq ?Ar) (Tw.Mw KX G ?As ?At ?Au ?Av) (Tw.Mw KX G ?Aw ?Ax ?Ay ?Az) (Tw.Mw KX G ?B0 ?B1 ?B2 ?B3) (Tw.Mw KX G ?B4 ?B5 ?B6 ?B7) (Tw.Mw KX G ?B8 ?B9 ?Ba ?Bb) (Tw.Mw KX G ?Bc ?Bd ?Be ?Bf) (Tw.Mw KX G ?Bg ?Bh ?Bi ?Bj) (Tw.Mw KX G ?Bk ?Bl ?Bm ?Bn) (Tw.Mw KX G ?Bo ?Bp ?Bq ?Br) (Tw.Mw KX G ?Bs ?Bt ?Bu ?Bv) (Tw.Mw KX G ?Bw ?Bx ?By ?Bz) (Tw.Mw KX G ?C0 ?C1 ?C2 ?C3) (Tw.Mw KX G ?C4 ?C5 ?C6 ?C7) (Tw.Mw KX G ?C8 ?C9 ?Ca ?Cb) (Tw.Mw KX G ?Cc ?Cd ?Ce ?Cf) (Tw.Mw KX G ?Cg ?Ch ?Ci ?Cj) (Tw.Mw KX G ?Ck ?Cl ?Cm ?Cn) ?Co ?Cp ?Cq ?Cr (Tw.Mw KX G ?Cs ?Ct ?Cu ?Cv) (Tw.Mw KX G ?Cw ?Cx ?Cy ?Cz) (Tw.Mw KX G ?D0 ?D1 ?D2 ?D3) ?D4 ?D5 ?D6 ?D7 ?D8 ?D9 ?Da ?Db (Tw.Mw KX G ?Dc ?Dd ?De ?Df) ?Dg ?Dh ?Di ?Dj ?z1 ?z2 ?z3 ?z4 ?z5 ?z6 ?z7 ?z8 ?z9 ?Dk ?Dl ?Dm ?Dn ?Do ?Dp ?Dq ?Dr ?Ds ?Dt ?Du ?Dv ?Dw ?Dx ?Dy ?Dz ?E0 (Tw.Nt ?E1 ?E2 ?E3 ?E4 ?E5) (Tw.Nt ?E6 ?E7 ?E8 ?E9 ?Ea) ?Eb ?Ec ?Ed ?Ee ?Ef ?Eg ?Eh ?Ei ?Ej (Tw.N8 ?Ek ?El ?Em ?En ?Eo) (Tw.N8 ?Ep ?Eq ?Er ?Es ?Et) (Tw.N8 ?Eu ?Ev ?Ew ?Ex ?Ey) (Tw.N8 ?Ez ?F0 ?F1 ?F2 ?F3) (Tw.N8 ?F4 ?F5 ?F6 ?F7 ?F8) (Tw.N8 ?F9 ?Fa ?Fb ?Fc ?Fd) (Tw.N8 ?Fe ?Ff ?Fg ?Fh ?Fi) (Tw.N8 ?Fj ?Fk ?Fl ?Fm ?Fn) (Tw.N8 ?Fo ?Fp ?Fq ?Fr ?Fs) (Tw.N8 ?Ft ?Fu ?Fv ?Fw ?Fx) (Tw.N8 ?Fy ?Fz ?G0 ?G1 ?G2) (Tw.N8 ?G3 ?G4 ?G5 ?G6 ?G7) (Tw.N8 ?G8 ?G9 ?Ga ?Gb ?Gc) (Tw.N8 ?Gd ?Ge ?Gf ?Gg ?Gh) (Tw.N8 ?Gi ?Gj ?Gk ?Gl ?Gm) (Tw.N8 ?Gn ?Go ?Gp ?Gq ?Gr) (Tw.N8 ?Gs ?Gt ?Gu ?Gv ?Gw) (Tw.N8 ?Gx ?Gy ?Gz ?H0 ?H1) (Tw.N8 ?H2 ?H3 ?H4 ?H5 ?H6) (Tw.N8 ?H7 ?H8 ?H9 ?Ha ?Hb) (Tw.N8 ?Hc ?Hd ?He ?Hf ?Hg) (Tw.N8 ?Hh ?Hi ?Hj ?Hk ?Hl) ?Hm ?Hn ?Ho ?Hp ?Hq ?Hr ?Hs ?Ht ?Hu ?Hv ?Hw ?Hx ?Hy ?Hz ?I0 ?I1 ?I2 ?I3 ?I4 ?I5 ?I6 ?I7 ?I8 ?I9 ?Ia ?Ib ?Ic ?Id ?Ie ?If ?Ig ?Ih ?mB ?Ii ?Ij ?Ik ?Il ?Im ?In ?Io ?Ip ?Iq ?Ir ?Is ?It ?Iu ?Iv ?Iw ?Ix ?Iy ?Iz ?J0 ?J1 ?J2 ?J3 ?J4 ?J5 ?J6 ?J7 ?J8 ?J9
  (case Hm|Hn|Ho|Hp|Hq|Hr|Hs|Ht|Hu|E1|E6|Hv|Hw|Hx|Ek|Ep|Eu|Ez|F4|F9|Fe|Fj|Fo|Ft|Fy|G3|G8|Gd|Gi|Gn|Gs|Gx|H2|H7|Hc|Hh|a1|l1|c1|k1|a2|l2|c2|k2|a3|l3|c3|k3|a4|l4|c4|k4|a5|l5|c5|k5|a6|l6|c6|k6|a7|l7|c7|k7|a8|l8|c8|k8|a9|l9|c9|k9|A0|A1|A2|A3|A4|A5|A6|A7|A8|A9|Aa|Ab|Ac|Ad|Ae|Af|Ag|Ah|Ai|Aj|Ak|Al|Am|An|Ao|Ap|Aq|Ar|As|At|Au|Av|Aw|Ax|Ay|Az|B0|B1|B2|B3|B4|B5|B6|B7|B8|B9|Ba|Bb|Bc|Bd|Be|Bf|Bg|Bh|Bi|Bj|Bk|Bl|Bm|Bn|Bo|Bp|Bq|Br|Bs|Bt|Bu|Bv|Bw|Bx|By|Bz|C0|C1|C2|C3|C4|C5|C6|C7|C8|C9|Ca|Cb|Cc|Cd|Ce|Cf|Cg|Ch|Ci|Cj|Ck|Cl|Cm|Cn|Co|Cp|Cq|Cr|Cs|Ct|Cu|Cv|Cw|Cx|Cy|Cz|D0|D1|D2|D3|D4|D5|D6|D7|D8|D9|Da|Db|Dc|Dd|De|Df|Dg|Dh|Di|Dj|z1|z2|z3|z4|z5|z6|z7|z8|z9|Dk|Dl|Dm|Dn|Do|Dp|Dq|Dr|Ds|Dt|Du|Dv|Dw|Dx|Dy|Dz|E0|E2|E4|E5|E7|E9|Ea|Eb|Ec|Ed|Ee|Ef|Eg|Eh|Ei|Ej|El|En|Eo|Eq|Es|Et|Ev|Ex|Ey|F0|F2|F3|F5|F7|F8|Fa|Fc|Fd|Ff|Fh|Fi|Fk|Fm|Fn|Fp|Fr|Fs|Fu|Fw|Fx|Fz|G1|G2|G4|G6|G7|G9|Gb|Gc|Ge|Gg|Gh|Gj|Gl|Gm|Go|Gq|Gr|Gt|Gv|Gw|Gy|H0|H1|H3|H5|H6|H8|Ha|Hb|Hd|Hf|Hg|Hi|Hk|Hl|E3|E8|Em|Er|Ew|F1|F6|Fb|Fg|Fl|Fq|Fv|G0|G5|Ga|Gf|Gk|Gp|Gu|Gz|H4|H9|He|Hj|Hy|Hz|I0|I1|I2|I3|I4|I5|I6|I7|I8|I9|Ia|Ib|Ic|Id|Ie|If|Ig|Ih|mB=>k_is)
  (case Ii|Ij=>kernel_rfl)
  (case Ik=>k_is)
  (case Il=>kernel_rfl)
  (case Im=>k_is)
  (case In=>kernel_rfl)
  (case Io|Ip|Iq|Ir|Is|It|Iu=>k_is)
  (case Iv=>k_exc)
  (case Iw|Ix|Iy=>k_is)
  (case Iz=>k_exc)
  (case J0|J1|J2=>k_is)
  (case J3=>k_exc)
  (case J4|J5|J6|J7|J8|J9=>k_is)
