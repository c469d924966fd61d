import PyProof.Rows.All
import Wide.All
import OpenK.AllK
import Wide.FinOn
import Lean
import PyProof.EqAt
import PyProof.EqKinds
import PyProof.TupleCall
import PyProof.NeKinds
import PyProof.TupleKey
import PyProof.DictFindH
import PyProof.NsDelKeeps
import PyProof.ExcBaseAll.ValueError
import KE.KIsAll
import PyProof.ExcArgsOwn
import PyProof.ExcAttrAll.ValueError
import KE.KDictList
import PyProof.Rows.SortWalk
import KE.KSortTup
import KE.KEqDict
import KE.KLam
import KE.KRevIter
import PyProof.InstStoreFacts
import PyProof.ExcClass3
import PyProof.Rows.SumAny
import KE.KFind
import PyProof.Rows.Range3
import PySem.Challenge.RW_twigmap_k41_puts
open PySem renaming wpAny_bind→aa,wpAny_pure→ae,wpAny_mono→af,wpAny_holding→ag,wpAny_Call_Name_kw→ah,wpAny_rule→ai,Value→aj,Addr→ak,Shared→al,Program→am,FuncData→ao,mainGlobals→aq,sizeLine→ar,starEach→aw,World→ax,Around→ay,bootBuiltins→az,compareOp→aA,model→aB,wpAny→aC,Stmt→aD,Heap→aE,Scope→aF,backTo→aG,eval→aH,Obj→aI,Pos→aJ
universe u
noncomputable section
def aK{p:Prop}[Decidable p](h:¬p):decide p=false:=decide_eq_false h
def aM{p:Prop}[Decidable p](h:p):decide p=true:=decide_eq_true h
def aO{c:Prop}{h:Decidable c}(n:¬c){α:Sort u}{t e:α}:(ite c t e)=e:=if_neg n
def aP{c:Prop}{h:Decidable c}(n:c){α:Sort u}{t e:α}:(ite c t e)=t:=if_pos n
set_option Elab.async false
set_option compiler.extract_closed false
set_option linter.all false
set_option maxRecDepth 100000
set_option maxHeartbeats 8000000
open PySem.W renaming Frag->zZ,findIn->yX,nsIn->zF,kitOne->yS,mg_of->yM,mg_none_of->xV,keepIn->yG,mroIn->yI,fnOf->yB,kia_one->xG,emptyDict->wK,typeIn->xB,codeIn->wN,instObj->wA,plainGet->vT,hasDictIn->uW,isFn->wE,callWith_K->uJ,plainOver->uK,methodCall_KW->sU,kas_item->uM,makesIn->uO,hideAll->uP,lookIn->tR,plainGet_of->qX,looks_mroIn->qY,callWith_K0->qZ,of_hideAll->rC,Looks->tU,methodObj->rO,takerIn->rW,OpenLaw->rX,kitAny->sG,KdlSrc->sH,cellsFrom_some->qM,looks_typeIn->qR,hideAll_none->qS,hideAll_get->pU
open List renaming getD_eq_getElem?_getD->zU,getElem?_eq_getElem->zV,length_map->zX,length_append->zS,getElem?_eq_some_iff->zE,mem_cons_of_mem->zK,mem_of_getElem?->zJ,mem_cons_self->zM,length_cons->zO,take_of_length_le->yY,size_toArray->zL,mem_map->zR,getElem?_map->zH,mem_cons->zQ,all_eq_true->zI,mem_singleton->yZ,map_append->zC,mem_append->zA,mem_append_right->yJ,take_add_one->yR,length_take->yP,map_cons->yW,append_nil->yQ,pairwise_append->xY,mem_append_left->xZ,getElem?_append_right->xE,append_assoc->yF,take_append_drop->xQ,length_drop->yD,getElem?_append_left->wR,mem_filter->yC,length_singleton->wY,filter_append->xI,flatMap_cons->xJ,pairwise_cons->xD,mem_flatMap->xK,getElem_mem->xL,eq_nil_of_length_eq_zero->vP,drop_eq_getElem_cons->vY,Pairwise->yA,nodup_cons->xM,filter_cons->xF,range->yL,mem_range->xN,lookup_cons->xA,drop_of_length_le->vQ,getElem?_of_mem->vR,length_set->wM,flatMap_append->vS,filter_eq_nil_iff->uZ,sublist_append_right->uD,extract_eq_take_drop->uE,mem_of_mem_drop->vC,sublist_append_left->uG,toArray->wW,Sublist->wX,take_succ_cons->vD,filter_eq_self->vE,replicate->wD,find?_cons->vO,cons_lt_cons_iff->uA,nodup_append->uY,any_cons->vW,drop_drop->vU,cons_append->vH,length->wO,getElem?_take_of_lt->sT,getElem?_set_self->sV,take_sublist->uL,lookup->wH,take_zero->vK,mem_iff_getElem?->sW,getElem?_eq_none->sY,any_eq_true->uN,getElem?_set_ne->sZ,not_lt_nil->uQ,length_pos_iff->tF,filter_sublist->tG,filterMap_cons->tH,mem_filterMap->tJ,all_map->vM,pairwise_iff_getElem->rF,pairwise_map->tM,all_cons->uS,not_mem_nil->tQ,pairwise_reverse->rL,map_nil->uV,length_filter_le->rM,eq_nil_or_concat->qV,concat_eq_append->qW,mem_of_mem_take->rA,drop_zero->tV,getElem?_drop->rR,Perm->vN,reverse_perm->rS,getElem?_inj->rT,eraseIdx_eq_take_drop_succ->qA,drop_sublist->rV,take_length->sC,nil_lt_cons->sE,mem_reverse->sF,exists_mem_of_length_pos->qC,dropLast_concat_getLast->qF,of_mem_zip->sL,forIn_cons->sM,perm_ext_iff_of_nodup->qL,take_add->sP,pairwise_singleton->qU,map_take->sQ,map_drop->sR,getLast_eq_getElem->pT,getElem_cons_drop->pV,pairwise_flatMap->pW,countP_mono_left->pX
open Bool renaming false_ne_true->zW,and_eq_true->zP,false_eq_true->wT,eq_iff_iff->wC,false_and->vV,true_and->uT,not_true->uU,and_false->tW
open Nat renaming le_refl->zY,le_of_ble_eq_true->yT,lt_of_lt_of_le->yV,le_trans->zN,zero_le->zD,ne_of_lt->yK,lt_of_le_of_lt->wZ,exists_eq_add_of_le->vZ,not_lt_zero->xH,lt_or_ge->xT,le_of_not_lt->wU,le_of_lt->xU,le_add_right->wV,le_of_eq->xO,lt_succ_self->wL,add_sub_cancel_left->uH,succ->xW,lt_irrefl->vX,succ_le_succ->vI,add_assoc->vL,sub_lt_sub_left->tI,min_eq_left->uR,add_sub_cancel->tL,lt_of_add_lt_add_left->rG,le_of_add_le_add_left->rH,sub_le->vG,add_le_add_left->rP,le_succ_of_le->rZ,zero_add->tX,sub_self->tY,min_le_right->sI,min_eq_right->sJ,le_succ->tZ
open PySem.Heap renaming get?_push_of_some->zB,get?_push_size->yO,lt_size->zG,SameBut->xR,get?_update_other->vA,get?_update_self->vB,get?_none_of_le->rB,size_push->sN
open Array renaming getElem?_toList->yN,length_toList->yE,getElem?_eq_getElem->wI,toList_append->wJ,getElem?_eq_some_iff->uC,toList_push->uX,toList_extract->uB,perm_iff_toList_perm->rE,toList_inj->tP,forIn_toList->rQ,toList_eraseIdxIfInBounds->pZ,eq_empty_of_size_eq_zero->qB,toList_setIfInBounds->qI,isEmpty->sO,toList->rN,toList_reverse->pY
open Option renaming map_eq_some_iff->xX,some->yU,map_some->wB,isSome_iff_exists->uF,none->uI,bind_eq_some_iff->qP
open PySem.F renaming plainAttrs_list->xP,type_list_append->wP,slot_list_append->wQ,slot_dict_keyiterator_next->rD,slot_tuple_hash->sS,slot_dict_get->rJ,slot_dict_getitem->qE,type_list_extend->qG,slot_list_extend->qH,plain_list_iadd->qJ,args_dict_get_3->qK,slot_dict_iter->qN,entry_dict_get->qO,slot_dict_eq->qT
open PySem.Str renaming ofString->yH
open Int renaming emod_lt_of_pos->vF,le_refl->wS,le_trans->wF,le_of_lt->wG,emod_nonneg->vJ,toNat_natCast->tO,fdiv_eq_ediv_of_nonneg->qQ,not_lt->tS
open PyProof.Rows renaming wpS_bind->jM,wpS_pure->jN,arrOf->jO,SortSt->jP,pendingOf->jQ,wpS_forRange->jR,wpS_mono->jS,Keyed->jT,setArr->jU
local macro_rules|`(tactic|exists $e,*)=>`(tactic|refine ⟨$e,*, ?_⟩)
def Z{α:Sort u}{a:α}:a=a:=rfl
local macro_rules|`(∅)=>`(by lia)
local macro_rules|`(nofun)=>`(by lia (splits:=8))
local macro_rules|`(tactic|let $d:letDecl)=>let n:=d.raw[0];let l(s:Lean.Syntax)k:Lean.Syntax:=.node .none `Lean.Parser.Tactic.rcasesPatLo #[.node .none `Lean.Parser.Tactic.rcasesPatMed #[Lean.mkNullNode #[.node .none k s.getArgs]],Lean.mkNullNode];if n.getKind== ``Lean.Parser.Term.letPatDecl then let m:Lean.TSyntax `Lean.Parser.Tactic.rcasesPatMed:=⟨(n[0].rewriteBottomUp λs=>match s.getKind with|`ident=>l (Lean.mkNullNode #[s]) `Lean.Parser.Tactic.rcasesPat.one|`Lean.Parser.Term.hole=>l s `Lean.Parser.Tactic.rcasesPat.ignore|`Lean.Parser.Term.anonymousCtor=>l s `Lean.Parser.Tactic.rcasesPat.tuple|_=>s)[0]⟩;`(tactic|obtain $m:rcasesPatMed:=$(⟨n[4]⟩)) else `(tactic|have $d:letDecl)
abbrev ja:=PySem.Value->PySem.Shared->Prop
abbrev jc:=PySem.Str->Option PySem.Value
abbrev jd:=Option PySem.Value
abbrev je:=List PySem.Value
abbrev zEa:List PySem.Str:=["self","number"]
abbrev zEb:List PySem.Str:=["_law_found","_law_due"]
abbrev zEc:List PySem.Str:=["_law_well_here","_law_many"]
abbrev zEd:List PySem.Str:=["shelf","root"]
abbrev zEe:List PySem.Str:=["self","numbers"]
abbrev zEf:List PySem.Str:=["shelf","root","key"]
abbrev zEg:List PySem.Str:=["_law_well_here","_law_room"]
abbrev zEh:List PySem.Str:=["_law_well_here","_law_table","_law_model","_law_known"]
abbrev zEi:List PySem.Str:=["self","stem","branches"]
abbrev zEj:List PySem.Str:=["_law_table","_law_spot","_law_value_here"]
abbrev zEk:List PySem.Str:=["_law_well_here","_law_table","_law_spot"]
abbrev zEl:List PySem.Str:=["_law_well_here"]
abbrev zEm:List PySem.Str:=["_law_well_here","_law_shelf","_law_rows"]
abbrev zEn:List PySem.Str:=["self","shelf","root"]
abbrev zEo:List PySem.Str:=["self"]
abbrev zEp:List PySem.Str:=["_law_well_here","_law_bound"]
abbrev zEq:List PySem.Str:=["thing"]
abbrev zEr:List PySem.Str:=["_law_table","_law_bad"]
abbrev zEs:List PySem.Str:=["shelf","stems","places","added"]
abbrev zEt:List PySem.Str:=["self","key"]
abbrev zEu:List PySem.Str:=["_law_spot"]
abbrev zEv:List PySem.Str:=["_law_well_here","_law_known"]
abbrev zEw:List PySem.Str:=["self","key","value"]
abbrev zEx:List PySem.Str:=["rows"]
abbrev zEy:List PySem.Str:=["self","things","label"]
abbrev zEz:List PySem.Str:=["shelf","stem","at","number"]
abbrev zE0:List PySem.Str:=["shelf","root","key","value"]
abbrev zE1:List PySem.Str:=["_law_well_here","_law_most"]
abbrev zE2:List PySem.Str:=["_law_script","_law_k"]
abbrev zE3:List PySem.Str:=["shelf","root","added"]
abbrev zE4:List PySem.Str:=["self","things","tag"]
abbrev zE5:List PySem.Str:=["self","road","label"]
abbrev zE6:List PySem.Str:=["shelf","leaf","rows"]
abbrev zE7:List PySem.Str:=["one","other"]
abbrev zE8:List PySem.Str:=["self","rows"]
abbrev zE9:List PySem.Str:=["self","number","numbers"]
abbrev zFa:List PySem.Str:=["thing","room"]
abbrev zFb:List PySem.Str:=["label","following"]
abbrev zFc:List PySem.Str:=["_law_model"]
abbrev zFd:List PySem.Str:=["shelf","stem","number"]
abbrev zFe:List PySem.Str:=["self","number","rows"]
abbrev zFf:List PySem.Str:=["shelf","found","key"]
abbrev zFg:List PySem.Str:=["rows","row","at"]
abbrev zFh:List PySem.Str:=["self","labels"]
abbrev zFi:List PySem.Str:=["found"]
abbrev zFj:List PySem.Str:=["shelf","steps"]
abbrev zFk:List PySem.Str:=["found","at"]
abbrev zFl:List PySem.Str:=["key"]
abbrev zFm:List PySem.Str:=["number"]
abbrev zFn:List PySem.Str:=["labels"]
abbrev zFo:List PySem.Str:=["keys","key"]
abbrev zFp:List PySem.Str:=["_law_script"]
abbrev jl:=List Nat
abbrev jm:=Array PyProof.Rows.Keyed
abbrev jp:=List PySem.Str
abbrev jq:=List (ak×aI)
abbrev jr:=Option Nat
abbrev js:=Array aj
abbrev ju:=Option ak
abbrev jv:=List PyProof.Rows.Keyed
abbrev jw:=List PySem.Env
abbrev jx:=List PySem.Expr
abbrev jz:=List ak
abbrev jA:=Option Int
abbrev jB:=List Int
abbrev jC:=List aD
abbrev jD:=List (PySem.Str×ak)
abbrev jF:=Array (Nat×Nat×Nat)
abbrev jH:=List (PySem.Str×aj)
abbrev jI:=Option Bool
abbrev jJ:=List (Nat×Nat)
abbrev jK:=Option PySem.Expr
namespace L2
open PySem PySem.Spec PyProof.Rows
abbrev Zc:=Sum Int Str
abbrev jy:=List Zc
def Ov:Zc->aj->Bool
 | .inl k,v=>Value.isInt k v
 | .inr x,v=>Value.isStrOf x v
def GW(w:ax):Zc->Int
 | .inl k=>hashInt k
 | .inr x=>hashStr w x
def PJ:∀{k:Zc}{v:aj},Ov k v=true->(∃ i t,k=Sum.inl i/\v=Value.int i t)\/(∃ x t,k=Sum.inr x/\v=Value.str x t)
 | .inl i,v,h=>by
  let⟨t,e⟩:=Value.isInt_shape (k:=i) (v:=v) h;exact .inl ⟨i,t,Z,e⟩
 | .inr x,v,h=>by
  let⟨t,e⟩:=Value.isStrOf_shape (x:=x) (v:=v) h;exact .inr ⟨x,t,Z,e⟩
def ZJk(i:Int)(t:Tok):Ov (.inl i) (.int i t)=true:=by simp[Ov,Value.isInt]
def C1(x:Str)(t:Tok):Ov (.inr x) (.str x t)=true:=by simp[Ov,Value.isStrOf]
def ZOp(a b:Int):decide ((Sum.inl a:Zc)=Sum.inl b)=(a==b):=by
 by_cases e:a=b
 ·subst e;simp
 ·let h:¬ (Sum.inl a:Zc)=Sum.inl b:=λq=>e (Sum.inl.inj q);rw[aK h];exact(beq_eq_false_iff_ne.mpr e).symm
def ZPq(a b:Str):decide ((Sum.inr a:Zc)=Sum.inr b)=decide (a=b):=by
 by_cases e:a=b
 ·subst e;simp
 ·let h:¬ (Sum.inr a:Zc)=Sum.inr b:=λq=>e (Sum.inr.inj q);rw[aK h,aK e]
def ZOj(a:Int)(b:Str):decide ((Sum.inl a:Zc)=Sum.inr b)=false:=aK (λq=>nomatch q)
def ZOX(a:Str)(b:Int):decide ((Sum.inr a:Zc)=Sum.inl b)=false:=aK (λq=>nomatch q)
def VQ(c:am)(w:ax):PySem.KeyKind c w Zc where
 is:=Ov
 hash:=GW w
 inj:=λv a b g f=>by
  rcases PJ g with ⟨i,t,rfl,rfl⟩ | ⟨x,t,rfl,rfl⟩
  ·rcases PJ f with ⟨j,u,rfl,e⟩ | ⟨y,u,rfl,e⟩
   ·injection e with e1 _;rw[e1]
   ·exact nomatch e
  ·rcases PJ f with ⟨j,u,rfl,e⟩ | ⟨y,u,rfl,e⟩
   ·exact nomatch e
   ·injection e with e1 _;rw[e1]
 byValue:=λk v h=>by
  rcases PJ h with ⟨i,t,rfl,rfl⟩ | ⟨x,t,rfl,rfl⟩ <;> rfl
 pyHash:=λd h=>by
  rcases PJ d with ⟨i,t,rfl,rfl⟩ | ⟨x,t,rfl,rfl⟩
  ·exact wpAny_pyHash_int h
  ·exact wpAny_pyHash_str h
 eqBool:=λl d h=>by
  rcases PJ l with ⟨i,t,rfl,rfl⟩ | ⟨x,t,rfl,rfl⟩
  ·rcases PJ d with ⟨j,u,rfl,rfl⟩ | ⟨y,u,rfl,rfl⟩
   ·rw[ZOp] at h;exact wpAny_eqBool_int h
   ·rw[ZOj] at h;exact SeqAt.EqAt.int_str i t y u _ _ _ _ h
  ·rcases PJ d with ⟨j,u,rfl,rfl⟩ | ⟨y,u,rfl,rfl⟩
   ·rw[ZOX] at h;exact SeqAt.EqAt.str_int x t j u _ _ _ _ h
   ·rw[ZPq] at h;exact wpAny_eqBool_str h
 «strs» :=λk x t v h=>by
  rcases PJ h with ⟨i,u,rfl,e⟩ | ⟨y,u,rfl,e⟩
  ·exact nomatch e
  ·injection e with e1 _;subst e1;cases v <;> rfl
def ZGi(a:am)(w:ax)(i:Int)(t:Tok):(VQ a w).is (.inl i) (.int i t)=true:=ZJk i t
def B9(a:am)(w:ax)(x:Str)(t:Tok):(VQ a w).is (.inr x) (.str x t)=true:=C1 x t
inductive V where
 | non | bl (b:Bool) | int (i:Int) | str (x:Str) | byt (b:Array UInt8) | flt (b:UInt64) | ref (a:ak) | ty (n:String)
 deriving DecidableEq
abbrev jf:=List V
abbrev jg:=Option V
def ZN:V->aj->Prop
 | .non,u=>u=Value.none
 | .bl b,u=>u=Value.bool b
 | .int i,u=>∃ t,u=Value.int i t
 | .str x,u=>∃ t,u=Value.str x t
 | .byt b,u=>∃ t,u=Value.bytes b t
 | .flt b,u=>∃ t,u=Value.float b t
 | .ref a,u=>u=Value.ref a
 | .ty n,u=>u=Value.type n
abbrev ZP:jf->je->Prop:=Paired ZN
def ZP.length{b:jf}{a:je}(r:ZP b a):b.length=a.length:=Paired.length r
theorem ZP.get:∀{b:jf}{a:je}{i:Nat}{x:V},ZP b a->b[i]? = some x->∃ u,a[i]? = some u/\ZN x u
 | _,_,_,_,.nil,e=>by simp at e
 | _,_,0,_,.cons r _,e=>by simp at e;subst e;exact⟨_,Z,r⟩
 | _,_,i+1,x,.cons _ t,e=>by
  let⟨u,c,d⟩:=ZP.get (i:=i) (x:=x) t (by simpa using e)
  exact⟨u,by simpa using c,d⟩
theorem ZP.set{x:V}{u:aj}(r:ZN x u):∀{b:jf}{a:je}(i:Nat),ZP b a->ZP (b.set i x) (a.set i u)
 | _,_,_,.nil=>.nil
 | _,_,0,.cons _ t=>.cons r t
 | _,_,i+1,.cons q t=>.cons q (ZP.set r i t)
def ZP.append:∀{c d:jf}{a b:je},ZP c a->ZP d b->ZP (c++d) (a++b):=by intro _ _ _ _ h g;induction h with
 | nil=>exact g
 | cons r _ e=>exact .cons r e
theorem ZP.take:∀{b:jf}{a:je}(n:Nat),ZP b a->ZP (b.take n) (a.take n)
 | _,_,0,_=>.nil
 | _,_,_+1,.nil=>.nil
 | _,_,n+1,.cons r t=>.cons r (ZP.take n t)
theorem ZP.drop:∀{b:jf}{a:je}(n:Nat),ZP b a->ZP (b.drop n) (a.drop n)
 | _,_,0,r=>r
 | _,_,_+1,.nil=>.nil
 | _,_,n+1,.cons _ t=>ZP.drop n t
def Y0:jg->jd->Prop
 | some v,some u=>ZN v u
 | none,none=>True
 | _,_=>False
def KV{a:Type}:List (a×V)->List (a×aj)->Prop:=Paired fun(p:a×V)(q:a×aj)=>p.1=q.1/\ZN p.2 q.2
def kV:Zc->V
 | .inl i=>.int i
 | .inr x=>.str x
inductive HO where
 | lst (xs:jf)
 | tup (xs:jf)
 | dK (kvs:List (Zc×V)) | dT (kvs:List (jy×V))
 | set (S:Int->Bool) (n:Nat)
 | ins (C dx:ak) (fs:List (Str×V))
 | own (x:ak)
 | xd (fs:List (Str×V))
 | met (f x:ak)
 | rng (lo hi:Int)
 | frz (o:aI) (u:HO)
 | tbl (ps:js)
 | ext (φ:aE->Prop)
abbrev Hp:=ak->Option HO
def upd(H:Hp)(a:ak)(o:HO):Hp:=λb=>if b=a then some o else H b
def ZV{H:Hp}{a:ak}{o:HO}:upd H a o a=some o:=by unfold upd;rw[aP rfl]
def ZR{H:Hp}{a b:ak}{o:HO}(h:b≠a):upd H a o b=H b:=by unfold upd;rw[aO h]
def NM{H:Hp}{a:ak}{o u:HO}:upd (upd H a o) a u=upd H a u:=by
 funext b;unfold upd;split <;> rfl
def ZY{H:Hp}{a b:ak}{o u:HO}(h:H a=some o)(c:H b=some u)(d:o≠u:=by intro z;cases z):a≠b:=by
 intro e;subst e;rw[h] at c;exact d (yU.inj c)
def Zd{H:Hp}{a b:ak}{o:HO}(h:H a=some o)(c:H b=none):a≠b:=by
 intro e;subst e;rw[h] at c;cases c
section
variable(P:am)(w:ax)
def Zb(H:Hp)(h:aE)(a:ak):HO->Prop
 | .lst c=>c.length<=ar/\∃(b:je)(n:Nat),ZP c b/\h.get? a=some { cls:=.type "list",data:=.seq b.toArray n }
 | .tup c=>c.length<=ar/\∃ b:je,ZP c b/\IsTup h a b.toArray
 | .dK kvs=>kvs.length<=ar/\(a==sysModules)=false/\∃ l,KV kvs l/\h.DictOf (VQ P w) a l
 | .dT kvs=>kvs.length<=ar/\(a==sysModules)=false/\∃ c:List (jy×ak×aj),
   Paired (fun(p:jy×V)(q:jy×ak×aj)=>p.1=q.1/\H q.2.1=some (.tup (p.1.map kV))/\ZN p.2 q.2.2) kvs c /\
   ∃ o i m,h.get? a=some o/\o.ExactDict/\o.data=.dict i m/\i.toList=c.map (entryOfKey (tupleKind (VQ P w)))/\(c.map (·.1)).Nodup
 | .set S n=>h.SetOf (intKind P w) a S n
 | .ins C g e=>H g=some (.own a)/\e.length<=1000/\g≠a/\h.get? a=some (wA C g) /\
   ∃ d,h.Ns1 g d/\(∀ f,Y0 (e.lookup f) (d f))/\PySem.Within d (e.map (·.1))
 | .own _=>∃ o,h.get? a=some o
 | .xd e=>∃ d,h.Ns1 a d/\∀ f,Y0 (e.lookup f) (d f)
 | .rng lo r=>∃ t u v,h.get? a=some { cls:=.type "range",data:=.fields #[.int lo t,.int r u,.int 1 v] }
 | .frz o u=>h.get? a=some o/\Zb H h a u
 | .tbl ps=>h.get? a=some { cls:=.none,data:=.fields ps }
 | .met f x=>h.get? a=some (rO (.ref f) (.ref x))
 | .ext φ=>φ h/\(∃ o,h.get? a=some o)/\∀ j k:aE,φ j->(∀ o,j.get? a=some o->k.get? a=some o)->φ k
def Y5(H:Hp)(h:aE):Prop:=∀ a o,H a=some o->Zb P w H h a o
end
section
variable{P:am}{w:ax}{H H':Hp}{h h':aE}{a:ak}{o:HO}
def Zb.lt(x:Zb P w H h a o):a<h.objs.size:=by
 cases o with
 | lst d=>let⟨_,_,_,_,e⟩:=x;exact zG e
 | tup d=>let⟨_,_,_,p⟩:=x;exact p.lt
 | dK b=>let⟨_,_,_,_,o,_,_,e,_⟩:=x;exact zG e
 | dT b=>let⟨_,_,_,_,o,_,_,e,_⟩:=x;exact zG e
 | set S n=>let⟨o,_,_,_,e,_⟩:=x;exact zG e
 | ins C g c=>let⟨_,_,_,e,_⟩:=x;exact zG e
 | own y=>let⟨_,e⟩:=x;exact zG e
 | xd c=>let⟨_,⟨_,_,_,e,_⟩,_⟩:=x;exact zG e
 | rng j i=>let⟨_,_,_,e⟩:=x;exact zG e
 | frz k u=>let⟨e,_⟩:=x;exact zG e
 | tbl l=>exact zG (show h.get? a=some _ from x)
 | met f y=>exact zG (show h.get? a=some _ from x)
 | ext m=>let⟨_,⟨_,e⟩,_⟩:=x;exact zG e
def Paired.mapP{e g:Type}{F G:e->g->Prop}:∀{c:List e}{d:List g},Paired F c d->(∀ a b,F a b->G a b)->Paired G c d:=by intro _ _ h f;induction h with
 | nil=>exact .nil
 | cons r _ i=>exact .cons (f _ _ r) i
def Zb.stay(x:Zb P w H h a o)(k:∀ b u,(b=a\/H b=some (.own a))->h.get? b=some u->h'.get? b=some u)(I:∀ b,H b=some (.own a)->H' b=some (.own a))(J:∀ b m,H b=some (.tup m)->H' b=some (.tup m)):Zb P w H' h' a o:=by
 induction o with
 | lst m=>let⟨z,l,n,r,e⟩:=x;exact⟨z,l,n,r,k _ _ (.inl rfl) e⟩
 | tup m=>let⟨z,l,r,g,e,c⟩:=x;exact⟨z,l,r,g,k _ _ (.inl rfl) e,c⟩
 | dK s=>let⟨z,y,M,r,g,j,i,e,c⟩:=x;exact⟨z,y,M,r,g,j,i,k _ _ (.inl rfl) e,c⟩
 | dT s=>
  let⟨z,y,m,r,g,j,i,e,c⟩:=x;exact⟨z,y,m,Paired.mapP r λp q z=>⟨z.1,J _ _ z.2.1,z.2.2⟩,g,j,i,k _ _ (.inl rfl) e,c⟩
 | set S n=>let⟨g,j,i,t,e,c⟩:=x;exact⟨g,j,i,t,k _ _ (.inl rfl) e,c⟩
 | ins C N G=>
  let⟨d,z,L,e,A,⟨B,j,i,F,c⟩,r⟩:=x;exact⟨I _ d,z,L,k _ _ (.inl rfl) e,A,⟨B,j,i,k _ _ (.inr d) F,c⟩,r⟩
 | own y=>let⟨g,e⟩:=x;exact⟨g,k _ _ (.inl rfl) e⟩
 | xd G=>let⟨A,⟨B,j,i,e,c⟩,r⟩:=x;exact⟨A,⟨B,j,i,k _ _ (.inl rfl) e,c⟩,r⟩
 | rng Q O=>let⟨t,u,v,e⟩:=x;exact⟨t,u,v,k _ _ (.inl rfl) e⟩
 | frz g u K=>let⟨e,q⟩:=x;exact⟨k _ _ (.inl rfl) e,K q⟩
 | tbl D=>
  let e:h.get? a=some { cls:=.none,data:=.fields D }:=x;show h'.get? a=some { cls:=.none,data:=.fields D };exact k a _ (.inl rfl) e
 | met f y=>
  let e:h.get? a=some (rO (.ref f) (.ref y)):=x;show h'.get? a=some (rO (.ref f) (.ref y));exact k a _ (.inl rfl) e
 | ext R=>let⟨p,⟨o,e⟩,E⟩:=x;exact⟨E _ _ p λo q=>k _ _ (.inl rfl) q,⟨o,k _ _ (.inl rfl) e⟩,E⟩
def Y5.lt(x:Y5 P w H h)(e:H a=some o):a<h.objs.size:=(x a o e).lt
def Y5.fresh(x:Y5 P w H h)(e:h.objs.size<=a):H a=none:=by
 cases q:H a with
 | none=>rfl
 | some u=>exact absurd (yV (x.lt q) e) (vX _)
def Y5.kept(x:Y5 P w H h)(k:∀ b u,h.get? b=some u->h'.get? b=some u):Y5 P w H h':=λa o e=>
 (x a o e).stay (λb u _ q=>k b u q) (λ_ q=>q) λ_ _ q=>q
def Y5.laid(x:Y5 P w H h)(k:∀ b u,h.get? b=some u->h'.get? b=some u)(i:h.objs.size<=a)(d:Zb P w (upd H a o) h' a o):Y5 P w (upd H a o) h':=λb u e=>by
 let g:=x.fresh i;by_cases f:b=a
 ·subst f;rw[ZV] at e;cases e;exact d
 ·rw[ZR f] at e;exact(x b u e).stay (λc v _ q=>k c v q) (λc q=>by rw[ZR (Zd q g)];exact q) λc j q=>by rw[ZR (Zd q g)];exact q
end
def Rd(H:Hp)(a:ak)(u:HO):Prop:=H a=some u\/∃ o,H a=some (.frz o u)
def Rd.ok{P:am}{w:ax}{H:Hp}{h:aE}{a:ak}{u:HO}(r:Rd H a u)(x:Y5 P w H h):Zb P w H h a u:=by
 rcases r with r | ⟨o,r⟩
 ·exact x a u r
 ·let⟨_,q⟩:=x a _ r;exact q
def Ni:Option HO->Prop
 | some (.lst _)=>True
 | some (.dK _)=>True
 | some (.dT _)=>True
 | some (.set _ _)=>True
 | some (.ins _ _ _)=>True
 | some (.ext _)=>True
 | _=>False
section
variable{P:am}{w:ax}{H:Hp}{h h':aE}{x e:ak}{o':HO}
def Y5.write(t:Y5 P w H h)(j:Ni (H x))(o:e=x\/H e=some (.own x))(k:∀ b u,b≠e->h.get? b=some u->h'.get? b=some u)(m:∃ u,h'.get? e=some u)(n:Zb P w (upd H x o') h' x o'):Y5 P w (upd H x o') h':=λb u q=>by
 let d:∀ c y,H c=some (.own y)->c≠x:=λc y r z=>by subst z;rw[r] at j;exact j
 let f:∀ c l,H c=some (.tup l)->c≠x:=λc l r z=>by subst z;rw[r] at j;exact j
 by_cases g:b=x
 ·subst g;rw[ZV] at q;cases q;exact n
 ·rw[ZR g] at q;by_cases a:b=e
  ·let p:H b=some (.own x):=by
    rcases o with z | z
    ·exact absurd (a.trans z) g
    ·rw[a];exact z
   rw[q] at p;cases p;let⟨v,s⟩:=m;exact⟨v,by rw[a];exact s⟩
  ·refine(t b u q).stay (λc v i r=>k c v ?_ r) (λc r=>by rw[ZR (d c b r)];exact r) λc l r=>by rw[ZR (f c l r)];exact r
   rcases i with rfl | i
   ·exact a
   ·rintro rfl;rcases o with z | z
    ·exact d c b i z
    ·rw[i] at z;cases z;exact g Z
end
structure Un(fs ex:jz)(H H':Hp)(h h':aE):Prop where
 keep:∀ b o,h.get? b=some o->H b=none->b∉fs->b∉ex->h'.get? b=some o
 slot:∀ b o,h.get? b=some o->H b=none->b∈fs->b∉ex->∃ sl,h'.get? b=some { o with slots:=sl }
 free:∀ b o,h.get? b=some o->H b=none->b∉ex->H' b=none
 there:∀ b o,h.get? b=some o->b∉ex->∃ o',h'.get? b=some o'
 tups:∀ b xs,H b=some (.tup xs)->H' b=some (.tup xs)
 frzs:∀ b o u,H b=some (.frz o u)->H' b=some (.frz o u)
 tbls:∀ b ps,H b=some (.tbl ps)->∃ more,H' b=some (.tbl (ps++more))
section
variable{fs fs' ex ex':jz}{H H1 H2:Hp}{h h1 h2 h':aE}{a x e:ak}{o:HO}
def Un.any(u:Un fs ex H H1 h h1){b:ak}{c:aI}(q:h.get? b=some c)(n:H b=none)(f:b∉ex):∃ g,h1.get? b=some { c with slots:=g }:=by
 by_cases d:b∈fs
 ·exact u.slot b c q n d f
 ·exact⟨c.slots,u.keep b c q n d f⟩
def Un.kept(k:∀ b u,h.get? b=some u->h'.get? b=some u):Un fs ex H H h h':=
 ⟨λb c q _ _ _=>k b c q,λb c q _ _ _=>⟨c.slots,k b c q⟩,λ_ _ _ n _=>n,λb c q _=>⟨c,k b c q⟩,λ_ _ q=>q,λ_ _ _ q=>q,λ_ d q=>⟨#[],by rw[q];simp⟩⟩
def Un.refl:Un fs ex H H h h:=Un.kept λ_ _ q=>q
def Un.laid(k:∀ b u,h.get? b=some u->h'.get? b=some u)(d:h.objs.size<=a)(c:H a=none):Un fs ex H (upd H a o) h h' where
 keep:=λb u q _ _ _=>k b u q
 slot:=λb u q _ _ _=>⟨u.slots,k b u q⟩
 free:=λb u q n _=>by rw[ZR (yK (yV (zG q) d))];exact n
 there:=λb u q _=>⟨u,k b u q⟩
 tups:=λb f q=>by rw[ZR (Zd q c)];exact q
 frzs:=λb u f q=>by rw[ZR (Zd q c)];exact q
 tbls:=λb g q=>⟨#[],by rw[ZR (Zd q c),q];simp⟩
def Un.write(d:Ni (H x))(l:e=x\/H e=some (.own x))(k:∀ b u,b≠e->h.get? b=some u->h'.get? b=some u)(f:∃ u,h'.get? e=some u):Un fs ex H (upd H x o) h h':=by
 let j:∀ b,H b=none->b≠x:=λb n z=>by subst z;rw[n] at d;exact d
 let i:∀ b,H b=none->b≠e:=λb n z=>by
  subst z;rcases l with r | r
  ·exact j b n r
  ·rw[n] at r;cases r
 let g:∀ b u,H b=some u->¬ Ni (some u)->b≠x:=λb u q m z=>by subst z;rw[q] at d;exact m d
 refine⟨λb u q n _ _=>k b u (i b n) q,λb u q n _ _=>⟨u.slots,k b u (i b n) q⟩,λb u q n _=>by rw[ZR (j b n)];exact n,λb u q _=>?_,
  λb p q=>by rw[ZR (g b _ q λz=>z)];exact q,λb u p q=>by rw[ZR (g b _ q λz=>z)];exact q,λb s q=>⟨#[],by rw[ZR (g b _ q λz=>z),q];simp⟩⟩
 by_cases c:b=e
 ·subst c;exact f
 ·exact⟨u,k b u c q⟩
end
def Lz(h:aE)(H:Hp):List Addr:=(yL h.objs.size).filter λa=>(H a).isSome
def PU(h:aE)(H:Hp):Heap:=uP h (Lz h H)
def ZIh(h:aE)(H:Hp):(PU h H).objs.size=h.objs.size:=PySem.W.hideAll_size _ _
def ZKs{h:aE}{H:Hp}{b:ak}{o:aI}(e:h.get? b=some o)(n:H b=none):(PU h H).get? b=some o:=
 pU _ e λa=>by
  let q:(H b).isSome=true:=(yC.mp a).2;rw[n] at q;simp at q
def Bl{h:aE}{H:Hp}{b:ak}{o:aI}(e:(PU h H).get? b=some o):h.get? b=some o/\H b=none:=by
 let a:h.get? b=some o:=rC (Lz h H) e;exists a
 cases q:H b with
 | none=>rfl
 | some x=>
  let c:b∈Lz h H:=yC.mpr ⟨xN.mpr (zG a),by simp[q]⟩
  let z:(PU h H).get? b=none:=qS (Lz h H) c;rw[z] at e;cases e
def BL(g h:aE)(L:ak):jq:=(yL h.objs.size).filterMap λa=>if a=L\/(g.get? a).isSome=true then none else (h.get? a).map λo=>(a,o)
def rest(g h:aE)(L d:ak):jq:=(BL g h L).filter λp=>decide (p.1≠d)
structure Mod(K:zZ)(mg:jc)(kh:aE):Prop where
 kin:K.In kh
 glob:kh.Ns aq mg
 blt:∃ mb,kh.Ns builtinsNs mb/\∀ x:Str,x ≠ "__name__"->mb x=az x
 nolimit:kh.NoLimit
structure Cx where
 prog:am
 w:ax
 K:zZ
 mg:jc
 base:aE
 A:ay
 N:jp
 s₀:al
 H₀:Hp
 env:Env
 outer:jw
 stack:jw
 ex:jz
 fn:Str->Bool
 calm:Bool
 pn:jq
 xe:ja
def frs(l:jw):List Addr:=l.filterMap (·.frame)
abbrev Cx.fs(X:Cx):List Addr:=frs X.outer
def Ii(a:aF)(x:Str):Prop:=a.names.lookup x=some .local\/a.names.lookup x=some .cell\/a.names.lookup x=some .free
def Nk(a:aF)(x:Str):Prop:=a.names.lookup x=some .local\/a.names.lookup x=some .cell
def ZRV(a:Env)(h:aE)(m:jc)(x:Str)(u:aj):Prop:=
 (a.kindOf x=some .local/\m x=some u)\/((a.kindOf x=some .cell\/a.kindOf x=some .free)/\∃ c,a.cells.lookup x=some c/\h.IsCell c (some u))
structure Cx.Ok(X:Cx):Prop where
 mod:Mod X.K X.mg X.base
 kind:X.env.scope.kind=.function
 glob:X.env.globals=aq
 blt:X.env.builtins=builtinsNs
 above:X.s₀.heap.objs.size<=X.env.locals
 inj:∀ x y c,X.env.cells.lookup x=some c->X.env.cells.lookup y=some c->x=y
 has:∀ x,(X.env.kindOf x=some .cell\/X.env.kindOf x=some .free)->∃ c,X.env.cells.lookup x=some c
 cab:∀ x c,X.fn x=true->X.env.cells.lookup x=some c->X.s₀.heap.objs.size<=c
 hd:X.calm=true->X.A.handled=none
 frames:X.A.frames=some X.stack
 stk:X.stack=X.outer\/(X.stack=X.env::X.outer/\X.env.frame=some X.env.locals)
 exf:∀ b∈X.ex,b≠X.env.locals/\∀ x c,X.env.cells.lookup x=some c->c≠b
 bs:∀ b o,X.base.get? b=some o->X.s₀.heap.get? b=some o/\X.H₀ b=none
 bsz:X.base.objs.size<=X.s₀.heap.objs.size
 noex:∀ b o,X.base.get? b=some o->b∉X.ex
 exfs:∀ b∈X.ex,b∉X.fs
 funs:X.s₀.heap.FunFrames X.base X.outer
 frf:∀ b∈X.fs,X.H₀ b=none
structure ZF(X:Cx)(kg:jq)(σ:List (jg))(H:Hp)(s:al):Prop where
 ok:X.Ok
 os:s.os=X.s₀.os
 bare:AllBare s.gens
 base:Un X.fs X.ex X.H₀ H X.s₀.heap s.heap
 loc:∃ m,s.heap.Ns X.env.locals m/\∀(i:Nat)(x:Str)(v:V),X.N[i]? = some x->σ[i]? = some (some v)->Ii X.env.scope x->∃ u,ZN v u/\ZRV X.env s.heap m x u
 cell:∀ x c,X.env.cells.lookup x=some c->∃ v,s.heap.IsCell c v
 free:H X.env.locals=none
 freeC:∀ x c,X.env.cells.lookup x=some c->H c=none
 pin:∀ p∈X.pn++kg,s.heap.get? p.1=some p.2/\H p.1=none/\p.1≠X.env.locals/\p.1∉X.fs/\∀ v,p.2.data≠.cell v
 hok:Y5 X.prog X.w H s.heap
 len:σ.length=X.N.length
section
variable{X:Cx}{kg:jq}{σ:List (jg)}{H H':Hp}{s:al}{h':aE}
def Cx.Ok.nofr(c:X.Ok){b:ak}{o:aI}(e:X.base.get? b=some o):b∉X.fs:=λa=>by
 have:=(c.funs.mem a).1;rw[e] at this;cases this
def ZF.bs(I:ZF X kg σ H s):∀ b o,X.base.get? b=some o->s.heap.get? b=some o/\H b=none:=λb o e=>
 ⟨I.base.keep b o (I.ok.bs b o e).1 (I.ok.bs b o e).2 (I.ok.nofr e) (I.ok.noex b o e),I.base.free b o (I.ok.bs b o e).1 (I.ok.bs b o e).2 (I.ok.noex b o e)⟩
def ZF.bk(I:ZF X kg σ H s):∀ b o,X.base.get? b=some o->s.heap.get? b=some o:=λb o e=>(I.bs b o e).1
def ZF.mod(I:ZF X kg σ H s):Mod X.K X.mg X.base:=I.ok.mod
def ZF.kIn(I:ZF X kg σ H s):X.K.In s.heap:=I.ok.mod.kin.keeps I.bk
def ZF.lt(I:ZF X kg σ H s):X.env.locals<s.heap.objs.size:=let ⟨_,hn,_⟩:=I.loc;hn.lt
def ZF.sz(I:ZF X kg σ H s):X.s₀.heap.objs.size<=s.heap.objs.size:=zN I.ok.above (xU I.lt)
def ZF.nofs(I:ZF X kg σ H s){a:ak}(h:s.heap.objs.size<=a):a∉X.fs:=λb=>by
 let⟨_,o,c,_⟩:=I.ok.funs.mem b;exact absurd (yV (zG c) (zN I.sz h)) (vX _)
def ZF.cne(I:ZF X kg σ H s):∀ x c,X.env.cells.lookup x=some c->c≠X.env.locals:=λx c e z=>by
 let⟨v,o,f,d⟩:=I.cell x c e;let⟨m,⟨i,h,g,b,a,_⟩,_⟩:=I.loc;rw[z,b] at f;cases f;rw[a] at d;cases d
def ZF.funs(I:ZF X kg σ H s):s.heap.FunFrames X.base X.outer:=by
 let a:∀(l:jw),(∀ b∈frs l,b∈X.fs)->X.s₀.heap.FunFrames X.base l->s.heap.FunFrames X.base l:=by
  intro l
  induction l with
  | nil=>intro _ _;trivial
  | cons h r q=>
   intro g k;let⟨j,⟨L,o,f,m,n,i⟩,p⟩:=k;let c:L∈X.fs:=g L (by unfold frs;rw[tH,f];exact zM)
   let⟨t,e⟩:=I.base.slot L o n (I.ok.frf L c) c λz=>I.ok.exfs L z c;exact⟨j,⟨L,_,f,m,e,i⟩,q (λb d=>g b (by unfold frs;rw[tH,f];exact zK _ d)) p⟩
 exact a X.outer (λ_ d=>d) I.ok.funs
def ZF.stack(I:ZF X kg σ H s):s.heap.FunFrames X.base X.stack:=by
 rcases I.ok.stk with e | ⟨e,a⟩
 ·rw[e];exact I.funs
 ·rw[e];let⟨m,b,_⟩:=I.loc;refine .cons (by rw[I.ok.kind];decide) a b ?_ I.funs
  exact rB (zN I.ok.bsz I.ok.above)
def ZF.stkSub(I:ZF X kg σ H s):∀ b∈frs X.stack,b∈X.env.locals::X.fs:=λb a=>by
 rcases I.ok.stk with e | ⟨e,c⟩
 ·rw[e] at a;exact zK _ a
 ·rw[e] at a;unfold frs at a;rw[tH,c] at a;exact a
def ZF.stkFree(I:ZF X kg σ H s):∀ b∈frs X.stack,H b=none:=λb a=>by
 rcases zQ.mp (I.stkSub b a) with e | a
 ·rw[e];exact I.free
 ·let⟨_,o,c,_⟩:=I.ok.funs.mem a;exact I.base.free b o c (I.ok.frf b a) λz=>I.ok.exfs b z a
def ZF.step{g':Array GenState}{t':Nat}{d':Drawn}{ch:jz}(I:ZF X kg σ H s)(h:∀ b∈ch,(b∈X.ex\/X.s₀.heap.objs.size<=b)/\b≠X.env.locals/\(∀ x c,X.env.cells.lookup x=some c->c≠b)/\∀ p∈X.pn++kg,p.1≠b)(j:∀ b o,b≠X.env.locals->b∉X.fs->b∉ch->s.heap.get? b=some o->H b=none->h'.get? b=some o)(B:∀ b o,b≠X.env.locals->b∈X.fs->b∉ch->s.heap.get? b=some o->H b=none->∃ S,h'.get? b=some { o with slots:=S })(f:∀ b o,b∉ch->s.heap.get? b=some o->H b=none->H' b=none)(E:∀ b o,b∉ch->s.heap.get? b=some o->∃ M,h'.get? b=some M)(O:∀ b C,H b=some (.tup C)->H' b=some (.tup C))(J:∀ b o u,H b=some (.frz o u)->H' b=some (.frz o u))(N:∀ b P,H b=some (.tbl P)->∃ K,H' b=some (.tbl (P++K)))(ns:∀ m,s.heap.Ns X.env.locals m->h'.Ns X.env.locals m)(R:Y5 X.prog X.w H' h')(hg:AllBare g'):
  ZF X kg σ H' { s with heap:=h',gens:=g',drawn:=d',toks:=t' }:=by
 let L:∀ b o,X.s₀.heap.get? b=some o->b≠X.env.locals:=λb o e=>yK (yV (zG e) I.ok.above);let A:∀ b o,X.s₀.heap.get? b=some o->b∉X.ex->b∉ch:=λb o e a D=>by
  rcases(h b D).1 with z | z
  ·exact a z
  ·exact absurd (yV (zG e) z) (vX _)
 let g:∀ x c,X.env.cells.lookup x=some c->∀ v,s.heap.IsCell c v->h'.IsCell c v:=λx c e v ⟨o,F,Q⟩=>by
  let t:c∉ch:=λz=>(h c z).2.2.1 x c e Z;by_cases U:c∈X.fs
  ·let⟨S,q⟩:=B c o (I.cne x c e) U t F (I.freeC x c e);exact⟨_,q,Q⟩
  ·exact⟨o,j c o (I.cne x c e) U t F (I.freeC x c e),Q⟩
 refine⟨I.ok,I.os,hg,⟨λb o e n D a=>?_,λb o e n D a=>?_,λb o e n a=>?_,λb o e a=>?_,λb C e=>O b C (I.base.tups b C e),λb o C e=>J b o C (I.base.frzs b o C e),λb P e=>?_⟩,?_,λx c e=>?_,?_,λx c e=>?_,λp V=>?_,R,I.len⟩
 ·exact j b o (L b o e) D (A b o e a) (I.base.keep b o e n D a) (I.base.free b o e n a)
 ·let⟨S,y⟩:=I.base.slot b o e n D a;let⟨T,G⟩:=B b _ (L b o e) D (A b o e a) y (I.base.free b o e n a);exact⟨T,G⟩
 ·let⟨M,y⟩:=I.base.there b o e a;exact f b M (A b o e a) y (I.base.free b o e n a)
 ·let⟨M,y⟩:=I.base.there b o e a;exact E b M (A b o e a) y
 ·let⟨m1,y⟩:=I.base.tbls b P e;let⟨m2,G⟩:=N b _ y;exact⟨m1++m2,by rw[G,Array.append_assoc]⟩
 ·let⟨m,hn,hl⟩:=I.loc;exists m,ns m hn;intro i x v y G e3;let⟨u,r,l⟩:=hl i x v y G e3;exists u,r;rcases l with l | ⟨k,c,e,z⟩
  ·exact .inl l
  ·exact .inr ⟨k,c,e,g x c e _ z⟩
 ·let⟨v,z⟩:=I.cell x c e;exact⟨v,g x c e v z⟩
 ·let⟨m,⟨o,_,_,F,_⟩,_⟩:=I.loc;exact f _ o (λz=>(h _ z).2.1 Z) F I.free
 ·let⟨v,o,F,Q⟩:=I.cell x c e;exact f c o (λz=>(h c z).2.2.1 x c e Z) F (I.freeC x c e)
 ·let⟨e,n,W,Y,d⟩:=I.pin p V;let t:p.1∉ch:=λz=>(h p.1 z).2.2.2 p V Z;exact⟨j p.1 p.2 W Y t e n,f p.1 p.2 t e n,W,Y,d⟩
def ZF.un{t':Nat}(I:ZF X kg σ H s)(u:Un X.fs [] H H' s.heap h')(g:Y5 X.prog X.w H' h'):ZF X kg σ H' { s with heap:=h',toks:=t' }:=by
 let⟨m,⟨o,p,l,h,r⟩,_⟩:=id I.loc;let⟨v,i⟩:=u.any h I.free (by simp)
 exact I.step (g':=s.gens) (d':=s.drawn) (ch:=[]) (λ_ z=>nomatch z) (λb o _ f _ e n=>u.keep b o e n f (by simp)) (λb o _ f _ e n=>u.slot b o e n f (by simp)) (λb o _ e n=>u.free b o e n (by simp)) (λb o _ e=>u.there b o e (by simp)) u.tups u.frzs u.tbls (λq j=>by
  let⟨t,d,c,a,k⟩:=j;rw[h] at a;cases a;exact⟨_,d,c,i,k⟩) g I.bare
def ZF.call{g':Array GenState}{t':Nat}{d':Drawn}{ch:jz}(I:ZF X kg σ H s)(u:Un (frs X.stack) ch H H' s.heap h')(j:Y5 X.prog X.w H' h')(q:AllBare g')(d:∀ b∈ch,(b∈X.ex\/X.s₀.heap.objs.size<=b)/\b≠X.env.locals/\(∀ x c,X.env.cells.lookup x=some c->c≠b)/\∀ p∈X.pn++kg,p.1≠b):
  ZF X kg σ H' { s with heap:=h',gens:=g',drawn:=d',toks:=t' }:=by
 let⟨m,⟨o,A,y,k,r⟩,_⟩:=id I.loc;let⟨D,i⟩:=u.any k I.free λz=>(d _ z).2.1 Z;exact I.step (ch:=ch) d (λb o i l a e n=>u.keep b o e n (λz=>(zQ.mp (I.stkSub b z)).elim i l) a) (λb o _ _ a e n=>u.any e n a) (λb o a e n=>u.free b o e n a) (λb o a e=>u.there b o e a) u.tups u.frzs u.tbls (λB t=>by
  let⟨C,h,g,f,v⟩:=t;rw[k] at f;cases f;exact⟨_,h,g,i,v⟩) j q
def ZF.turned{t':Nat}{it:ak}(I:ZF X kg σ H s)(k:∀ b o,b≠it->s.heap.get? b=some o->h'.get? b=some o)(y:H it=none)(f:it≠X.env.locals)(i:it∈X.ex\/X.s₀.heap.objs.size<=it)(j:∀ x c,X.env.cells.lookup x=some c->c≠it)(l:∀ p∈X.pn++kg,p.1≠it):ZF X kg σ H { s with heap:=h',toks:=t' }:=by
 let d:∀ b u,H b=some u->b≠it:=λb u e z=>by rw[z,y] at e;cases e
 refine I.step (g':=s.gens) (d':=s.drawn) (ch:=[it]) (λb t=>?_) (λb o _ _ a e _=>k b o (λz=>a (by simp[z])) e) (λb o _ _ a e _=>⟨o.slots,k b o (λz=>a (by simp[z])) e⟩) (λ_ _ _ _ n=>n)
  (λb o a e=>⟨o,k b o (λz=>a (by simp[z])) e⟩) (λ_ _ e=>e) (λ_ _ _ e=>e) (λb B e=>⟨#[],by rw[e];simp⟩) (λm w=>?_) (λb u e=>?_) I.bare
 ·let e:b=it:=by simpa using t
  subst e;exact⟨i,f,j,l⟩
 ·let⟨o,h,g,A,r⟩:=w;exact⟨o,h,g,k _ o (Ne.symm f) A,r⟩
 ·refine(I.hok b u e).stay (λc v a q=>k c v ?_ q) (λ_ q=>q) λ_ _ q=>q;rcases a with z | z
  ·rw[z];exact d b u e
  ·exact d c _ z
def ZF.tok(I:ZF X kg σ H s)(t:Nat):ZF X kg σ H { s with toks:=t }:=I.un (h':=s.heap) (t':=t) Un.refl I.hok
def ZF.kept{t':Nat}(I:ZF X kg σ H s)(k:∀ b u,s.heap.get? b=some u->h'.get? b=some u):ZF X kg σ H { s with heap:=h',toks:=t' }:=I.un (Un.kept k) (I.hok.kept k)
def ZF.laid{a:ak}{o:HO}{t':Nat}(I:ZF X kg σ H s)(k:∀ b u,s.heap.get? b=some u->h'.get? b=some u)(c:s.heap.objs.size<=a)(d:Zb X.prog X.w (upd H a o) h' a o):
  ZF X kg σ (upd H a o) { s with heap:=h',toks:=t' }:=I.un (Un.laid k c (I.hok.fresh c)) (I.hok.laid k c d)
def ZF.write{x e:ak}{o:HO}{g:Nat}(I:ZF X kg σ H s)(f:Ni (H x))(d:e=x\/H e=some (.own x))(k:∀ b u,b≠e->s.heap.get? b=some u->h'.get? b=some u)(a:∃ u,h'.get? e=some u)(c:Zb X.prog X.w (upd H x o) h' x o):ZF X kg σ (upd H x o) { s with heap:=h',toks:=g }:=I.un (Un.write f d k a) (I.hok.write f d k a c)
def ZF.pins_of{a:jq}(I:ZF X kg σ H s)(h:∀ p∈a,s.heap.get? p.1=some p.2/\H p.1=none/\p.1≠X.env.locals/\p.1∉X.fs/\∀ v,p.2.data≠.cell v):ZF X a σ H s:=
 ⟨I.ok,I.os,I.bare,I.base,I.loc,I.cell,I.free,I.freeC,λp b=>(zA.mp b).elim (λz=>I.pin p (xZ _ z)) (h p),I.hok,I.len⟩
def Iu{N:jp}(e:N.Nodup){i j:Nat}{x:Str}(a:N[i]? = some x)(b:N[j]? = some x):i=j:=by
 let⟨f,c⟩:=zE.mp a;let⟨g,d⟩:=zE.mp b;exact(List.getElem_inj e).mp (c.trans d.symm)
def Fk{M:Model}{A:ay}{E:ja}{i:Nat}{x:Str}{v:V}{u:aj}{Q:Unit->al->Prop}(I:ZF X kg σ H s)(hN:X.N.Nodup)(T:X.N[i]? = some x)(B:Nk X.env.scope x)(r:ZN v u)(h:∀ s',ZF X kg (σ.set i (some v)) H s'->(∃ a,xR a s.heap s'.heap/\(a=X.env.locals\/X.env.cells.lookup x=some a))->Q () s')(hf:X.fn x=true\/X.env.scope.names.lookup x=some .local:=by first | exact .inl rfl | exact .inr rfl | assumption):aC M A (storeName X.env x u) Q E s:=by
 let⟨m,hn,hl⟩:=id I.loc;let S:(X.env.scope.kind==.class || (X.env.scope.kind==.module&&X.env.locals != X.env.globals))=false:=by rw[I.ok.kind];rfl
 let F:i<σ.length:=by rw[I.len];exact(zE.mp T).1
 let J:=I.cne;let l:∀{a:ak}{h':aE},(∃ o,s.heap.get? a=some o/\H a=none)->xR a s.heap h'->Y5 X.prog X.w H h':=fun{a h'} ha f b ob e=>by
  let⟨_,_,C⟩:=ha;refine(I.hok b ob e).stay (λc w' t q=>(f.2 c ?_).trans q) (λ_ q=>q) λ_ _ q=>q;rintro rfl;rcases t with rfl | t
  ·rw[C] at e;cases e
  ·rw[C] at t;cases t
 rcases B with G | G
 ·refine wpAny_storeName_local G hn (λh' a0 f=>?_) S;let⟨oL,_,_,a1,_⟩:=id hn;refine h _ ⟨I.ok,I.os,I.bare,⟨λb o e n K B=>?_,λb o e n K B=>?_,I.base.free,λb o e B=>?_,I.base.tups,I.base.frzs,I.base.tbls⟩,⟨_,a0,λj y v' g D e3=>?_⟩,λy c e=>?_,I.free,I.freeC,λp hp=>?_,l ⟨oL,a1,I.free⟩ f,by simpa using I.len⟩ ⟨_,f,.inl Z⟩
  ·exact(f.2 b (yK (yV (zG e) I.ok.above))).trans (I.base.keep b o e n K B)
  ·let⟨sl,g⟩:=I.base.slot b o e n K B;exact⟨sl,(f.2 b (yK (yV (zG e) I.ok.above))).trans g⟩
  ·let⟨o',g⟩:=I.base.there b o e B;exact⟨o',(f.2 b (yK (yV (zG e) I.ok.above))).trans g⟩
  ·by_cases O:j=i
   ·subst O;rw[T] at g;cases g;rw[sV F] at D;cases D;exact⟨u,r,.inl ⟨G,by simp⟩⟩
   ·rw[sZ (Ne.symm O)] at D;let⟨u',r',q⟩:=hl j y v' g D e3;exists u',r';rcases q with ⟨k,e⟩ | ⟨k,c,e,z⟩
    ·refine .inl ⟨k,?_⟩;have:y≠x:=λe=>O (Iu hN g (e ▸ T));simp[this,e]
    ·exact .inr ⟨k,c,e,z.sameBut f (J y c e)⟩
  ·let⟨w',z⟩:=I.cell y c e;exact⟨w',z.sameBut f (J y c e)⟩
  ·let⟨e,n,ne,nf,d⟩:=I.pin p hp;exact⟨(f.2 p.1 ne).trans e,n,ne,nf,d⟩
 ·let L:X.fn x=true:=by
   rcases hf with z | z
   ·exact z
   ·rw[z] at G;cases G
  let⟨c,t⟩:=I.ok.has x (.inl G);let⟨w',z⟩:=I.cell x c t;refine wpAny_storeName_cell I.ok.kind G t z (λh' P f=>?_);let⟨oc,U,W⟩:=id z;refine h { s with heap:=h' } ⟨I.ok,I.os,I.bare,⟨λb o e n K B=>?_,λb o e n K B=>?_,I.base.free,λb o e B=>?_,I.base.tups,I.base.frzs,I.base.tbls⟩,⟨m,hn.sameBut f (Ne.symm (J x c t)),λj y v' g D e3=>?_⟩,λy Y e=>?_,I.free,I.freeC,λp hp=>?_,l ⟨oc,U,I.freeC x c t⟩ f,by simpa using I.len⟩ ⟨c,f,.inr t⟩
  ·exact(f.2 b (yK (yV (zG e) (I.ok.cab x c L t)))).trans (I.base.keep b o e n K B)
  ·let⟨sl,g⟩:=I.base.slot b o e n K B;exact⟨sl,(f.2 b (yK (yV (zG e) (I.ok.cab x c L t)))).trans g⟩
  ·let⟨o',g⟩:=I.base.there b o e B;exact⟨o',(f.2 b (yK (yV (zG e) (I.ok.cab x c L t)))).trans g⟩
  ·by_cases O:j=i
   ·subst O;rw[T] at g;cases g;rw[sV F] at D;cases D;exact⟨u,r,.inr ⟨.inl G,c,t,P⟩⟩
   ·rw[sZ (Ne.symm O)] at D;let⟨u',r',q⟩:=hl j y v' g D e3;exists u',r';rcases q with q | ⟨k,Y,e,z'⟩
    ·exact .inl q
    ·refine .inr ⟨k,Y,e,z'.sameBut f ?_⟩;rintro rfl;exact O (Iu hN g (I.ok.inj _ _ _ e t ▸ T))
  ·by_cases R:Y=c
   ·subst R;exact⟨_,P⟩
   ·let⟨w2,z2⟩:=I.cell y Y e;exact⟨w2,z2.sameBut f R⟩
  ·let⟨e,n,ne,nf,d⟩:=I.pin p hp;refine⟨(f.2 p.1 ?_).trans e,n,ne,nf,d⟩;intro q;rw[q,U] at e;let q':oc=p.2:=yU.inj e;exact d w' (by rw[<-q'];exact W)
def JN{M:Model}{A:ay}{E:ja}{i:Nat}{x:Str}{v:V}{u:aj}{Q:Unit->al->Prop}(I:ZF X kg σ H s)(c:X.N.Nodup)(e:X.N[i]? = some x)(f:Nk X.env.scope x)(r:ZN v u)(h:∀ a,ZF X kg (σ.set i (some v)) H a->Q () a)(d:X.fn x=true\/X.env.scope.names.lookup x=some .local:=by first | exact .inl rfl | exact .inr rfl | assumption):aC M A (storeName X.env x u) Q E s:=
 Fk I c e f r (λa b _=>h a b) d
def ZF.call'{s':al}{ch:jz}(I:ZF X kg σ H s)(i:s'.os=s.os)(u:Un (frs X.stack) ch H H' s.heap s'.heap)(d:Y5 X.prog X.w H' s'.heap)(h:AllBare s'.gens)(a:∀ b∈ch,(b∈X.ex\/X.s₀.heap.objs.size<=b)/\b≠X.env.locals/\(∀ x c,X.env.cells.lookup x=some c->c≠b)/\∀ p∈X.pn++kg,p.1≠b):ZF X kg σ H' s':=by
 let⟨h',g,f,k,j⟩:=s';let e:j=s.os:=i;subst e;exact I.call (g':=g) (t':=k) (d':=f) u d h a
end
abbrev XK:=aj->ju->Hp->Prop
abbrev St:=List (jg)
abbrev VK:=V->Hp->Prop
abbrev TE:=St->Hp->VK->Prop
abbrev jL:=List (TE×TE)
abbrev TT:=St->Hp->(Bool->Hp->Prop)->Prop
abbrev TA:=St->Hp->(jf->Hp->Prop)->Prop
structure YM where
 nx:St->Hp->Prop
 rt:VK
 bk:St->Hp->Prop:=λ_ _=>False
 ct:St->Hp->Prop:=λ_ _=>False
abbrev TS:=YM->St->Hp->Prop
def EP(X:Cx)(a:jq)(d:St)(Q:VK)(u:aj)(c:al):Prop:=∃ v b,ZF X a d b c/\ZN v u/\Q v b
def TP(X:Cx)(a:jq)(e:St)(Q:Bool->Hp->Prop)(b:Bool)(d:al):Prop:=∃ c,ZF X a e c d/\Q b c
def AP(X:Cx)(a:jq)(f:St)(Q:jf->Hp->Prop)(e:je)(d:al):Prop:=∃ c b,ZF X a f b d/\ZP c e/\Q c b
def SP(X:Cx)(b:jq)(D:YM)(f:Flow)(d:al):Prop:=
 match f with
 | .next=>∃ a c,ZF X b a c d/\D.nx a c
 | .brk=>∃ a c,ZF X b a c d/\D.bk a c
 | .cont=>∃ a c,ZF X b a c d/\D.ct a c
 | .ret u=>∃ v a c,ZF X b a c d/\ZN v u/\D.rt v c
def PE(X:Cx)(e:Expr)(t:TE):Prop:=
 ∀(a:jq)(s:al)(b:St)(H:Hp)(Q:VK),ZF X a b H s->t b H Q->aC (aB X.prog X.w) X.A (aH e X.env) (EP X a b Q) X.xe s
def PT(X:Cx)(e:Expr)(t:TT):Prop:=
 ∀(a:jq)(s:al)(b:St)(H:Hp)(Q:Bool->Hp->Prop),ZF X a b H s->t b H Q->aC (aB X.prog X.w) X.A (isTrue e X.env (aH e X.env)) (TP X a b Q) X.xe s
def PW(X:Cx)(e:Expr)(t:TT):Prop:=
 ∀(b:Sem aj)(a:jq)(s:al)(c:St)(H:Hp)(Q:Bool->Hp->Prop),ZF X a c H s->t c H Q->aC (aB X.prog X.w) X.A (isTrue e X.env b) (TP X a c Q) X.xe s
def PW.pt{X:Cx}{e:Expr}{t:TT}(h:PW X e t):PT X e t:=h _
def PA(X:Cx)(d:jx)(t:TA):Prop:=
 ∀(b:aJ)(a:jq)(s:al)(c:St)(H:Hp)(Q:jf->Hp->Prop),ZF X a c H s->t c H Q->aC (aB X.prog X.w) X.A (spliced (aG b (aw d X.env))) (AP X a c Q) X.xe s
def PS(X:Cx)(c:aD)(t:TS):Prop:=
 ∀(a:jq)(s:al)(b:St)(H:Hp)(D:YM),ZF X a b H s->t D b H->aC (aB X.prog X.w) X.A (exec c X.env) (SP X a D) X.xe s
def X5(X:Cx)(c:jC)(t:TS):Prop:=
 ∀(a:jq)(s:al)(b:St)(H:Hp)(D:YM),ZF X a b H s->t D b H->aC (aB X.prog X.w) X.A (execs c X.env) (SP X a D) X.xe s
def Z2{c:Type}{t:Sem c}{Q b:c->al->Prop}{M:Model}{A:ay}{E:ja}{s:al}(h:aC M A t Q E s)(d:∀ a s,Q a s->b a s):aC M A t b E s:=af h d λ_ _ x=>x
def Z7{d g i:Type}{t:Sem d}{a b c:d->al->g->i->Prop}{e:d->al->Prop}{M:Model}{A:ay}{E:ja}{s:al}(h:aC M A t (λv s=>∃ x H,a v s x H/\b v s x H/\c v s x H) E s)(f:∀ v s x H,a v s x H->b v s x H->c v s x H->e v s):aC M A t e E s:=Z2 h (by rintro v s ⟨x,H,p,q,r⟩;exact f v s x H p q r)
variable{X:Cx}
section
inductive Qv(i:Nat)(a:L2.St)(H:Hp)(Q:VK):Prop
 |mk(v:_)(_:a[i]? = some (some v))(_:Q v H)
def tC(v:V):TE:=λ_ H Q=>Q v H
def ZOz{i:Nat}{x:Str}{k:aJ}(o:X.N[i]? = some x)(w:Ii X.env.scope x)(j:(x==("__debug__" : Str))=false:=by decide)(g:(x==("__classdict__" : Str))=false:=by decide):PE X (.Name x k) (Qv i):=by
 intro f s y H Q I h;let⟨v,e,h⟩:=h;let⟨m,t,p⟩:=I.loc;let⟨u,r,l⟩:=p i x v o e w;let b:EP X f y Q u s:=⟨v,H,I,r,h⟩;rcases l with ⟨d,q⟩ | ⟨d,c,n,a⟩
 ·exact wpAny_Name (wpAny_loadName_local I.ok.kind d t q b) j
 ·rcases d with d | d
  ·exact wpAny_Name (wpAny_loadName_cell I.ok.kind d n a b) j
  ·exact wpAny_Name (wpAny_loadName_free I.ok.kind d n a b g) j
def ZL{i j a}:PE X (.Constant (.int i) j a) (tC (.int i)):=λ_ _ _ H _ I h=>wpAny_Constant_int ⟨.int i,H,I.tok _,⟨_,Z⟩,h⟩
def PF{b j a}:PE X (.Constant (.bool b) j a) (tC (.bl b)):=λ_ _ _ H _ I h=>Constant_bool ⟨.bl b,H,I,Z,h⟩
def OE{j a}:PE X (.Constant .none j a) (tC .non):=λ_ _ _ H _ I h=>Constant_none ⟨.non,H,I,Z,h⟩
def U5{x j a}:PE X (.Constant (.str x) j a) (tC (.str x)):=λ_ _ _ H _ I h=>Calls.Constant_str ⟨.str x,H,I.tok _,⟨_,Z⟩,h⟩
def Gl(X:Cx)(x:Str):Prop:=X.env.kindOf x=some .globalImplicit
def OX{E:ja}{a:jq}{s:al}{f:St}{H:Hp}{x:Str}{u:aj}{b:aJ}{Q:ja}(I:ZF X a f H s)(d:Gl X x)(e:X.mg x=some u)(h:Q u s)(c:(x==("__debug__" : Str))=false:=by decide):aC (aB X.prog X.w) X.A (aH (.Name x b) X.env) Q E s:=
 Calls.Name_function_global I.ok.kind d (Calls.loadGlobal_global (by rw[I.ok.glob];exact I.mod.glob.keeps I.bk) e h) c
def Oh{E:ja}{a:jq}{s:al}{k:St}{H:Hp}{x:Str}{u:aj}{b:aJ}{Q:ja}(I:ZF X a k H s)(f:Gl X x)(g:X.mg x=none)(j:az x=some u)(h:Q u s)(i:x ≠ "__name__" :=by decide)(e:(x==("__debug__" : Str))=false:=by decide):aC (aB X.prog X.w) X.A (aH (.Name x b) X.env) Q E s:=by
 let⟨l,c,d⟩:=I.mod.blt;exact Calls.Name_function_global I.ok.kind f (Calls.loadGlobal_builtin (by rw[I.ok.glob];exact I.mod.glob.keeps I.bk) g (by rw[I.ok.blt];exact c.keeps I.bk) ((d x i).trans j) h) e
def Xp{x:Str}{v:V}{u:aj}{pos:aJ}(b:Gl X x)(c:X.mg x=some u)(r:ZN v u)(a:(x==("__debug__" : Str))=false:=by decide):PE X (.Name x pos) (tC v):=
 λ_ _ _ H _ I h=>OX I b c ⟨v,H,I,r,h⟩ a
def VR{x:Str}{v:V}{u:aj}{a:aJ}(c:Gl X x)(d:X.mg x=none)(f:az x=some u)(r:ZN v u)(e:x ≠ "__name__" :=by decide)(b:(x==("__debug__" : Str))=false:=by decide):PE X (.Name x a) (tC v):=
 λ_ _ _ H _ I h=>Oh I c d f ⟨v,H,I,r,h⟩ e b
variable{a b:Expr}{ta tb:TE}{pos:aJ}
def PC(X:Cx)(g:CmpOp)(a b:Expr)(t:TE):Prop:=
 ∀(c:jq)(s:al)(f:St)(H:Hp)(Q:VK),ZF X c f H s->t f H Q ->
  aC (aB X.prog X.w) X.A (aH a X.env) (λv d=>aC (aB X.prog X.w) X.A (aH b X.env) (λu e=>aC (aB X.prog X.w) X.A (aA g v u) (EP X c f Q) X.xe e) X.xe d) X.xe s
def FV(b:Expr){c:CmpOp}(h:c≠.In)(f:c≠.NotIn):behindInMarks c b=false:=by
 let d:(c==CmpOp.In)=false:=by cases c <;> first | rfl | exact absurd rfl h
 let e:(c==CmpOp.NotIn)=false:=by cases c <;> first | rfl | exact absurd rfl f
 cases b <;> simp[behindInMarks,d,e]
def BT(ta:TE):TE:=λd H Q=>ta d H λx c=>Q (.bl (decide (x=.non))) c
def ZQe(ta:TE):TE:=λd H Q=>ta d H λx c=>Q (.bl (!decide (x=.non))) c
def ZN.none_iff{x:V}{v:aj}(r:ZN x v):(v==Value.none)=decide (x=.non):=by
 cases x with
 | non=>cases r;rfl
 | bl _=>cases r;rfl
 | int _=>let⟨t,rfl⟩:=r;rfl
 | str _=>let⟨t,rfl⟩:=r;rfl
 | byt _=>let⟨t,rfl⟩:=r;rfl
 | flt _=>let⟨t,rfl⟩:=r;rfl
 | ref _=>cases r;rfl
 | ty _=>cases r;rfl
def Nz{j d}(g:PE X a ta):PC X .Is a (.Constant .none j d) (BT ta):=by
 intro c s l H Q I h;refine Z7 (g c s l H _ I h) λv m x e f k i=>?_;exact Constant_none (is_none_gen ⟨.bl _,e,f,by rw[k.none_iff];rfl,i⟩)
def Jd{j d}(g:PE X a ta):PC X .IsNot a (.Constant .none j d) (ZQe ta):=by
 intro c s l H Q I h;refine Z7 (g c s l H _ I h) λv m x e f k i=>?_;exact Constant_none (isnot_none_gen ⟨.bl _,e,f,by rw[k.none_iff];rfl,i⟩)
def tB(t:TE):TT:=λe H Q=>t e H λx d=>∃ c,x=.bl c/\Q c d
def ZOU{d:CmpOp}{t:TE}(h:PC X d a b t)(e:behindInMarks d b=false:=by first | exact FV _ (by decide) (by decide) | rfl):PE X (.Compare a [d] [b] pos) t:=λc s g H Q I f=>wpAny_Compare1 (h c s g H Q I f) e
def PZ{g:CmpOp}{t:TE}(h:PC X g a b t)(f:behindInMarks g b=false:=by first | exact FV _ (by decide) (by decide) | rfl):PT X (.Compare a [g] [b] pos) (tB t):=by
 intro e s o H Q I l;refine wpAny_isTrue_Compare1 (Z2 (h e s o H _ I l) λv p f=>Z2 f λu r k=>Z7 k λc w x i j n m=>?_) f;let⟨d,rfl,q⟩:=m;cases n;exact wpAny_truthy_bool ⟨i,j,q⟩
def XG{e:Expr}{t:TE}(h:PE X e t)(j:∀ c,isTrue e X.env c=(do let v<-c;standAt e.pos;holding [v] (truthy v)):=by intro _;rfl):PT X e (tB t):=by
 intro f s n H Q I k;refine isTrue_plain (Z7 (h f s n H _ I k) λv o x g i m l=>?_) (j _);let⟨d,rfl,q⟩:=l;cases m;exact wpAny_truthy_bool ⟨g,i,q⟩
variable{tA tB':TT}{rest:jx}
def ZRC(t u:TT):TT:=λe H Q=>t e H λc d=>if c=true then u e d Q else Q false d
def tOr(t u:TT):TT:=λe H Q=>t e H λc d=>if c=true then Q true d else u e d Q
def ZRG(t:TT):TT:=λe H Q=>t e H λc d=>Q (!c) d
def JE(f:PT X a tA):PW X (.BoolOp .And [a] pos) tA:=by
 intro j d s g H Q I h;refine isTrue_and (Z2 (f d s g H Q I h) λc i e=>?_)
 cases c with
 | true=>exact isTrue_and_nil e
 | false=>exact e
def NS(f:PT X a tA):PW X (.BoolOp .Or [a] pos) tA:=by
 intro j d s g H Q I h;refine isTrue_or (Z2 (f d s g H Q I h) λc i e=>?_)
 cases c with
 | false=>exact isTrue_or_nil e
 | true=>exact e
def IX(j:PT X a tA)(k:PW X (.BoolOp .And (b::rest) pos) tB'):PW X (.BoolOp .And (a::b::rest) pos) (ZRC tA tB'):=by
 intro m d s i H Q I h;refine isTrue_and (Z2 (j d s i H _ I h) ?_);rintro c l ⟨e,f,g⟩
 cases c with
 | true=>exact k m d l i e Q f g
 | false=>exact⟨e,f,g⟩
def NK(j:PT X a tA)(k:PW X (.BoolOp .Or (b::rest) pos) tB'):PW X (.BoolOp .Or (a::b::rest) pos) (tOr tA tB'):=by
 intro m d s i H Q I h;refine isTrue_or (Z2 (j d s i H _ I h) ?_);rintro c l ⟨e,f,g⟩
 cases c with
 | true=>exact⟨e,f,g⟩
 | false=>exact k m d l i e Q f g
def Va(f:PT X a tA):PT X (.UnaryOp .Not a pos) (ZRG tA):=by
 intro d s g H Q I h;exact isTrue_not (f d s g H (λc e=>Q (!c) e) I h)
inductive Oq(tb:TE)(e:L2.St)(Q:VK)(x:V)(d:Hp):Prop
 |mk(c:_)(_:x=.bl c)(_:if c=true then tb e d Q else Q (.bl false) d)
def ZQs(ta tb:TE):TE:=λc H Q=>ta c H λx d=>Oq tb c Q x d
inductive Mf(tb:TE)(e:L2.St)(Q:VK)(x:V)(d:Hp):Prop
 |mk(c:_)(_:x=.bl c)(_:if c=true then Q (.bl true) d else tb e d Q)
def ZRJ(ta tb:TE):TE:=λc H Q=>ta c H λx d=>Mf tb c Q x d
inductive OZ(Q:VK)(x:V)(d:Hp):Prop
 |mk(c:_)(_:x=.bl c)(_:Q (.bl (!c)) d)
def ZQJ(ta:TE):TE:=λd H Q=>ta d H λx c=>OZ Q x c
def Qb{e}{t:TE}(h:PE X a t):PE X (.BoolOp e [a] pos) t:=λc s f H Q I d=>BoolOp_one (h c s f H Q I d)
def UA(j:PE X a ta)(k:PE X (.BoolOp .And (b::rest) pos) tb):PE X (.BoolOp .And (a::b::rest) pos) (ZQs ta tb):=by
 intro d s i H Q I h;refine BoolOp_and (Z7 (j d s i H _ I h) λv m x f g l e=>?_);let⟨c,rfl,e⟩:=e;cases l;refine wpAny_truthy_bool ?_
 cases c with
 | true=>exact k d m i f Q g e
 | false=>exact⟨.bl false,f,g,Z,e⟩
def ZQj(j:PE X a ta)(k:PE X (.BoolOp .Or (b::rest) pos) tb):PE X (.BoolOp .Or (a::b::rest) pos) (ZRJ ta tb):=by
 intro d s i H Q I h;refine BoolOp_or (Z7 (j d s i H _ I h) λv m x f g l e=>?_);let⟨c,rfl,e⟩:=e;cases l;refine wpAny_truthy_bool ?_
 cases c with
 | false=>exact k d m i f Q g e
 | true=>exact⟨.bl true,f,g,Z,e⟩
def Ls(i:PE X a ta):PE X (.UnaryOp .Not a pos) (ZQJ ta):=by
 intro d s k H Q I h;refine UnaryOp_ (Z7 (i d s k H _ I h) λv l x f g j e=>?_);let⟨c,rfl,e⟩:=e;cases j;exact not_of (wpAny_truthy_bool ⟨.bl (!c),f,g,Z,e⟩)
def tIf(t:TT)(ta tb:TE):TE:=λd H Q=>t d H λc e=>if c=true then ta d e Q else tb d e Q
def ZLY{c:Expr}(n:PT X c tA)(l:PE X a ta)(m:PE X b tb):PE X (.IfExp c a b pos) (tIf tA ta tb):=by
 intro e s f H Q I h;refine wpAny_IfExp (Z2 (n e s f H _ I h) ?_);rintro d k ⟨g,i,j⟩
 cases d with
 | true=>exact l e k f g Q i j
 | false=>exact m e k f g Q i j
end
def ZK(K:zZ)(H:Hp)(a:ak)(c:jf):Prop:=
 Rd H a (.lst c) \/
  ∃(o:aI)(b:js)(n:Nat),K.lookup a=some o/\o.cls=.type "list" /\ o.dict=none/\o.data=.seq b n/\b.size<=ar/\ZP c b.toList
def Zv(K:zZ)(H:Hp)(a:ak)(c:jf):Prop:=
 Rd H a (.tup c) \/
  ∃(o:aI)(b:js)(n:Nat),K.lookup a=some o/\o.cls=.type "tuple" /\ o.data=.seq b n/\b.size<=ar/\ZP c b.toList
def ZRa:aj->jg
 | .none=>some .non
 | .bool b=>some (.bl b)
 | .int i _=>some (.int i)
 | .str x _=>some (.str x)
 | .bytes b _=>some (.byt b)
 | .float b _=>some (.flt b)
 | .ref a=>some (.ref a)
 | .type n=>some (.ty n)
 | _=>none
def ZN.abs{x:V}{u:aj}(r:ZN x u):ZRa u=some x:=by
 cases x with
 | non=>cases r;rfl
 | bl _=>cases r;rfl
 | int _=>let⟨t,rfl⟩:=r;rfl
 | str _=>let⟨t,rfl⟩:=r;rfl
 | byt _=>let⟨t,rfl⟩:=r;rfl
 | flt _=>let⟨t,rfl⟩:=r;rfl
 | ref _=>cases r;rfl
 | ty _=>cases r;rfl
def ZN.inj{x y:V}{u:aj}(r:ZN x u)(q:ZN y u):x=y:=yU.inj (r.abs.symm.trans q.abs)
def ZP.inj:∀{c a:jf}{b:je},ZP c b->ZP a b->c=a:=by intro _ a _ h g;induction h generalizing a with
 | nil=>cases g;rfl
 | cons r _ d=>cases g with
  | cons e f=>rw[r.inj e,d f]
section
variable{kg:jq}{σ:St}{H:Hp}{s:al}{a:ak}{xs ys:jf}
def ZK.of{K:zZ}(h:H a=some (.lst xs)):ZK K H a xs:=.inl (.inl h)
def Zv.of{K:zZ}(h:H a=some (.tup xs)):Zv K H a xs:=.inl (.inl h)
theorem ZF.list(I:ZF X kg σ H s)(h:ZK X.K H a xs):∃ b:je,ZP xs b/\PlainL s.heap a b.toArray/\xs.length<=sizeLine:=by
 rcases h with h | ⟨o,b,n,f,c,d,g,i,r⟩
 ·let⟨z,b,n,r,e⟩:=h.ok I.hok;exact⟨b,r,⟨_,n,e,Z,Z,Z⟩,z⟩
 ·exists b.toList,r,⟨o,n,I.kIn a o f,c,d,by simpa using g⟩
  let e:=r.length;simp only[yE] at e
  lia
def ZF.tuple(I:ZF X kg σ H s)(h:Zv X.K H a xs):∃ b:je,ZP xs b/\IsTup s.heap a b.toArray/\xs.length<=sizeLine:=by
 rcases h with h | ⟨o,b,n,d,c,f,g,r⟩
 ·let⟨z,b,r,p⟩:=h.ok I.hok;exact⟨b,r,p,z⟩
 ·exists b.toList,r,⟨o,I.kIn a o d,c,n,by simpa using f⟩
  let e:=r.length;simp only[yE] at e
  lia
def ZF.list_inj(I:ZF X kg σ H s)(h:ZK X.K H a xs)(i:ZK X.K H a ys):xs=ys:=by
 let⟨c,r,⟨o,n,e,_,_,d⟩,_⟩:=I.list h;let⟨b,j,⟨l,k,g,_,_,f⟩,_⟩:=I.list i;rw[e] at g;cases g;rw[d] at f;injection f with d1 _;have:c=b:=by simpa using congrArg rN d1
 subst this;exact r.inj j
def ZF.tuple_inj(I:ZF X kg σ H s)(h:Zv X.K H a xs)(i:Zv X.K H a ys):xs=ys:=by
 let⟨c,r,⟨o,e,_,n,d⟩,_⟩:=I.tuple h;let⟨b,j,⟨l,g,_,k,f⟩,_⟩:=I.tuple i;rw[e] at g;cases g;rw[d] at f;injection f with d1 _;have:c=b:=by simpa using congrArg rN d1
 subst this;exact r.inj j
end
abbrev Cx.wish(X:Cx)(E:ja):Cx:={ X with xe:=E }
abbrev Cx.nox(X:Cx):Cx:=X.wish λ_ _=>False
def Cx.Ok.wish{X:Cx}(a:X.Ok)(E:ja):(X.wish E).Ok:=
 ⟨a.mod,a.kind,a.glob,a.blt,a.above,a.inj,a.has,a.cab,a.hd,a.frames,a.stk,a.exf,a.bs,a.bsz,a.noex,a.exfs,a.funs,a.frf⟩
def Cx.Ok.unwish{X:Cx}{E:ja}(a:(X.wish E).Ok):X.Ok:=
 ⟨a.mod,a.kind,a.glob,a.blt,a.above,a.inj,a.has,a.cab,a.hd,a.frames,a.stk,a.exf,a.bs,a.bsz,a.noex,a.exfs,a.funs,a.frf⟩
section
variable{kg:jq}{σ:St}{H:Hp}{s:al}{E:ja}
def ZF.wish(I:ZF X kg σ H s)(E:ja):ZF (X.wish E) kg σ H s:=⟨I.ok.wish E,I.os,I.bare,I.base,I.loc,I.cell,I.free,I.freeC,I.pin,I.hok,I.len⟩
def ZF.unwish(I:ZF (X.wish E) kg σ H s):ZF X kg σ H s:=⟨I.ok.unwish,I.os,I.bare,I.base,I.loc,I.cell,I.free,I.freeC,I.pin,I.hok,I.len⟩
def SP.unwish{D:YM}{f:Flow}{c:al}(h:SP (X.wish E) kg D f c):SP X kg D f c:=by
 cases f with
 | next=>let⟨a,b,I,q⟩:=h;exact⟨a,b,I.unwish,q⟩
 | brk=>let⟨a,b,I,q⟩:=h;exact⟨a,b,I.unwish,q⟩
 | cont=>let⟨a,b,I,q⟩:=h;exact⟨a,b,I.unwish,q⟩
 | ret u=>let⟨v,a,b,I,r,q⟩:=h;exact⟨v,a,b,I.unwish,r,q⟩
def X5.nox{a:jC}{t:TS}(h:X5 X.nox a t):X5 X a t:=λkg s σ H D I b=>
 af (h kg s σ H D (I.wish _) b) (λ_ _ q=>q.unwish) λ_ _ z=>False.elim z
end
section
variable{st:aD}{rest:jC}{t u:TS}{e:Expr}{te:TE}{pos:aJ}
def ZP1:TS:=λD a H=>D.nx a H
def BN(t u:TS):TS:=λD a H=>t { D with nx:=u D } a H
def Z4:X5 X [] ZP1:=λ_ _ a H _ I h=>wpAny_execs_nil ⟨a,H,I,h⟩
def ZM(g:PS X st t)(i:X5 X rest u):X5 X (st::rest) (BN t u):=by
 intro a s k H D I h;refine wpAny_execs_cons (Z2 (g a s k H { D with nx:=u D } I h) λf j q=>?_)
 cases f with
 | next=>
  let⟨b,c,d,q⟩:=q;exact i a j b c D d q
 | ret v=>exact q
 | brk=>exact q
 | cont=>exact q
def ZT(b:PS X st t):X5 X [st] t:=by
 intro a s c H D I h;refine wpAny_execs_cons (Z2 (b a s c H D I h) λf d q=>?_)
 cases f with
 | next=>exact wpAny_execs_nil q
 | ret v=>exact q
 | brk=>exact q
 | cont=>exact q
def ZF.quiet{a:jq}{b:St}{H:Hp}{s:al}(I:ZF X a b H s):interactive X.env=false:=by simp[interactive,I.ok.kind]
def AE(te:TE):TS:=λD a H=>te a H λ_ b=>D.nx a b
def XS(f:PE X e te)(g:swapsWith e none pos.line X.env=pure false:=by rfl):PS X (.Expr e pos) (AE te):=by
 intro a s b H D I h;exact wpAny_Expr_any (Z7 (f a s b H _ I h) λv k x c d j i=>⟨b,c,d,i⟩) I.quiet g
def ZRY(te:TE):TS:=λD a H=>te a H D.rt
def Zf(f:PE X e te):PS X (.Return (some e) pos) (ZRY te):=by
 intro a s b H D I h;exact wpAny_Return_some (Z7 (f a s b H _ I h) λv j x c d i g=>⟨x,b,c,d,i,g⟩)
def BH(c:TT)(t u:TS):TS:=λD a H=>c a H λb d=>if b=true then t D a d else u D a d
def Z3{c:Expr}{a b:jC}{m:TT}(p:PT X c m)(n:X5 X a t)(o:X5 X b u):PS X (.If c a b pos) (BH m t u):=by
 intro f s g H D I h;refine wpAny_If (Z2 (p f s g H _ I h) ?_);rintro d l ⟨i,j,k⟩
 cases d with
 | true=>exact n f l g i D j k
 | false=>exact o f l g i D j k
def ZOo:TS:=λ_ _ _=>False
def VX{a:jC}:X5 X a ZOo:=λ_ _ _ _ _ _ h=>h.elim
end
abbrev TG:=V->St->Hp->(St->Hp->Prop)->Prop
def PG(X:Cx)(a:Expr)(t:TG):Prop:=
 ∀(b:jq)(s:al)(e:St)(H:Hp)(v:V)(u:aj)(Q:St->Hp->Prop),ZF X b e H s->ZN v u->t v e H Q ->
  aC (aB X.prog X.w) X.A (assign a X.env u) (λ_ f=>∃ c d,ZF X b c d f/\Q c d) X.xe s
abbrev K5:=V->V->V->Hp->(Hp->Prop)->Prop
def En(X:Cx)(t:K5):Prop:=
 ∀(a:jq)(s:al)(e:St)(H:Hp)(o i v:V)(d c u:aj)(Q:Hp->Prop),ZF X a e H s->ZN o d->ZN i c->ZN v u->t o i v H Q ->
  aC (aB X.prog X.w) X.A (setItem d c u) (λ_ f=>∃ b,ZF X a e b f/\Q b) X.xe s
section
variable{pos:aJ}
def Pn(i:Nat):TG:=λv a H Q=>Q (a.set i (some v)) H
def IP{i:Nat}{x:Str}(c:X.N.Nodup)(e:X.N[i]? = some x)(f:Nk X.env.scope x)(d:X.fn x=true\/X.env.scope.names.lookup x=some .local:=by first | exact .inl rfl | exact .inr rfl | assumption):PG X (.Name x pos) (Pn i):=by
 intro a s j H v u Q I r h;exact wpAny_assign_Name (JN I c e f r (λg b=>⟨_,H,b,h⟩) d)
def UC(i:Nat){x:Str}(a:X.N.Nodup)(c:X.N[i]? = some x:=by rfl)(d:Nk X.env.scope x:=by exact Or.inl Z)(b:X.fn x=true\/X.env.scope.names.lookup x=some .local:=by first | exact .inl rfl | exact .inr rfl | assumption):PG X (.Name x pos) (Pn i):=IP a c d b
def ZRE(f e:TE)(t:K5):TG:=λv a H Q=>f a H λo b=>e a b λi c=>t o i v c λd=>Q a d
def JS{o i:Expr}{f e:TE}{t:K5}(w:PE X o f)(q:PE X i e)(z:En X t)(p:∀ v,assign (.Subscript o i pos) X.env v=(do
   let b<-holding [v] (aH o X.env)
   let c<-holding [v,b] (aH i X.env)
   standAt pos
   holding [v,b,c] (setItem b c v)
   release [v,b,c] []):=by intro _;rfl):PG X (.Subscript o i pos) (ZRE f e t):=by
 intro a s d H v u Q I r h;rw[p];refine aa (ag (Z7 (w a s d H _ I h) λb F x g l D A=>?_));refine aa (ag (Z7 (q a F d g _ l A) λc G y j m E B=>?_));refine aa (wpAny_standAt (aa (ag (Z2 (z a G d j x y v b c u _ m D E r B) ?_))));rintro _ J ⟨k,n,C⟩;exact wpAny_release ⟨d,k,n,C⟩
def HH(c:TE)(g:TG):TS:=λD a H=>c a H λx b=>g x a b D.nx
def Kw{b e:Expr}{c:TE}{g:TG}(k:PE X e c)(l:PG X b g)(m:swapsWithSole [b] e pos.line X.env=pure false:=by rfl)(n:swappedStores [b] e X.env=pure none:=by rfl)(j:(assignEach [b] X.env).map (·.2)=[assign b X.env]:=by rfl):PS X (.Assign [b] e pos) (HH c g):=by
 intro a s d H D I h;refine wpAny_Assign_stores (Z7 (k a s d H _ I h) λv r x f i p o=>?_) m n;rw[j];exact Z2 (l a r d f x v _ i p o) λ_ t q=>q
def LY{i:Nat}{x:Str}{e:Expr}{c:TE}{a:aJ}(j:X.N.Nodup)(m:X.N[i]? = some x)(o:Nk X.env.scope x)(k:PE X e c)(n:swapsWith e (some (.Name x a)) pos.line X.env=pure false:=by rfl)(l:X.fn x=true\/X.env.scope.names.lookup x=some .local:=by first | exact .inl rfl | exact .inr rfl | assumption):
  PS X (.Assign [.Name x a] e pos) (HH c (Pn i)):=by
 intro b s r H D I h;refine wpAny_Assign_Name (Z7 (k b s r H _ I h) λv t y d f q p=>?_) n;exact JN f j m o q (λu g=>⟨_,d,g,p⟩) l
def Zg(i:Nat){x:Str}{e:Expr}{b:TE}{a:aJ}(c:X.N.Nodup)(d:PE X e b)(g:X.N[i]? = some x:=by rfl)(j:Nk X.env.scope x:=by exact Or.inl Z)(h:swapsWith e (some (.Name x a)) pos.line X.env=pure false:=by rfl)(f:X.fn x=true\/X.env.scope.names.lookup x=some .local:=by first | exact .inl rfl | exact .inr rfl | assumption):
  PS X (.Assign [.Name x a] e pos) (HH b (Pn i)):=LY c g j d h f
inductive OP(c:TT)(h:TS)(D:YM)(a:L2.St)(H:Hp):Prop
 |mk(W:Nat->St->Hp->Prop)(_:∃ m,W m a H)(_:∀ m a H,W m a H->c a H λb f=>if b=true then ∃ N:St->Hp->Prop,(∀ d e,N d e->∃ g,g<m/\W g d e)/\h { D with nx:=N,ct:=N,bk:=D.nx } a f else D.nx a f)
def Nf{c:Expr}{g:jC}{F:TT}{E:TS}(C:PassesOwn (aB X.prog X.w) X.A X.env X.xe)(K:PT X c F)(J:X5 X g E):PS X (.While c g [] pos) (OP F E):=by
 intro a s S H D I h;let⟨W,⟨L,Q⟩,j⟩:=h;refine wpAny_While (codeAny_whileLoop (λn M=>∃ k u,ZF X a k u M/\W n k u) ?_ L ⟨S,H,I,Q⟩);rintro n O ⟨e,x,G,R⟩;refine wpAny_passesOwn C (Z2 (K a O e x _ G (j n e x R)) ?_);rintro b P ⟨y,z,l⟩
 cases b with
 | true=>
  let⟨N,B,l⟩:=l;rw[aP rfl];refine wpAny_passesOwn C (Z2 (J a P e y _ z l) λf T m=>?_)
  cases f with
  | next=>
   let⟨d,i,o,r⟩:=m;let⟨q,p,t⟩:=B d i r;exact⟨q,p,d,i,o,t⟩
  | cont=>
   let⟨d,i,o,r⟩:=m;let⟨q,p,t⟩:=B d i r;exact⟨q,p,d,i,o,t⟩
  | brk=>exact m
  | ret v=>exact m
 | false=>
  rw[aO zW];exact wpAny_execs_nil ⟨e,y,z,l⟩
end
structure It where
 go:Nat->Hp->Prop
 yld:Nat->Hp->V->Hp->Prop
 stop:Nat->Hp->Prop
def VW(X:Cx)(a:jq)(H:Hp)(b:ak):Prop:=
 H b=none/\b≠X.env.locals/\b∉X.fs/\(b∈X.ex\/X.s₀.heap.objs.size<=b)/\(∀ x c,X.env.cells.lookup x=some c->c≠b)/\∀ p∈X.pn++a,p.1≠b
def ZF.fpOk{X:Cx}{a:jq}{i:St}{H f:Hp}{s:al}{b:ak}(I:ZF X a i H s)(d:s.heap.objs.size<=b)(g:f b=none):VW X a f b:=by
 refine⟨g,Nat.ne_of_gt (yV I.lt d),I.nofs d,.inr (zN I.sz d),λx c e z=>?_,λp h z=>?_⟩
 ·let⟨v,q⟩:=I.cell x c e;exact absurd (yV q.lt (by rw[z];exact d)) (vX _)
 ·exact absurd (yV (zG (I.pin p h).1) (by rw[z];exact d)) (vX _)
structure Vo(P:am)(w:ax)(K:zZ)(tg:Expr)(J:It)(fp:jz)(it:ak)(tn:Nat->aE->Prop):Prop where
 mem:it∈fp
 obj:∀ i h,tn i h->∀ b∈fp,∃ o,h.get? b=some o/\∀ v,o.data≠.cell v
 keep:∀ i h h',tn i h->(∀ b∈fp,∀ o,h.get? b=some o->h'.get? b=some o)->tn i h'
 item:∀(X:Cx),X.prog=P->X.w=w->X.K=K->X.calm=true->∀(i:Nat)(kg:jq)(s:al)(σ:St)(H:Hp)(E:ja),ZF X kg σ H s->(∀ b∈fp,VW X kg H b)->tn i s.heap->J.go i H ->
  aC (aB P w) X.A (pyNext (.ref it)) (λr s1=>∃ u,r=some u /\
   aC (aB P w) X.A (letOwnedTupleGo tg (.ref it) u) (λ_ s2=>∃ x H',ZF X kg σ H' s2/\ZN x u/\J.yld i H x H'/\tn (i+1) s2.heap/\∀ b∈fp,H' b=none) E s1) E s
 done:∀(X:Cx),X.prog=P->X.w=w->X.K=K->X.calm=true->∀(i:Nat)(kg:jq)(s:al)(σ:St)(H:Hp)(E:ja),ZF X kg σ H s->(∀ b∈fp,VW X kg H b)->tn i s.heap->J.stop i H ->
  aC (aB P w) X.A (pyNext (.ref it)) (λr s1=>r=none/\ZF X kg σ H s1) E s
 self:∀(A:ay)(i:Nat)(s:al)(Q:ja)(E:ja),tn i s.heap->Q (.ref it) s->aC (aB P w) A (pyIter (.ref it)) Q E s
abbrev TI:=St->Hp->(It->Hp->Prop)->Prop
def EF(X:Cx)(a:jq)(j:St)(i:Expr)(R:It->Hp->Prop)(d:aj)(g:al):Prop:=
 ∃(f:ak)(e:jz)(h:Nat->aE->Prop)(J:It)(c:Hp),d=.ref f/\ZF X a j c g/\Vo X.prog X.w X.K i J e f h/\h 0 g.heap/\(∀ b∈e,VW X a c b)/\R J c
def PI(X:Cx)(e b:Expr)(f:TI):Prop:=
 ∀(a:jq)(s:al)(c:St)(H:Hp)(R:It->Hp->Prop),ZF X a c H s->f c H R ->
  aC (aB X.prog X.w) X.A (aH b X.env) (λv d=>aC (aB X.prog X.w) X.A (pyIter v) (EF X a c e R) X.xe d) X.xe s
def N9{M:Model}{A:ay}{E:ja}{s:al}{c:Expr}{b:ak}{u:aj}{o:aI}{n:String}{d:js}{Q:Unit->al->Prop}(i:s.heap.get? b=some o)(e:o.cls=.type n)(f:o.data=.fields d)(g:["enumerate","zip","dict_itemiterator","dict_reverseitemiterator","odict_iterator","itertools.zip_longest","itertools.pairwise"].contains n=false)(a:Q () s):aC M A (letOwnedTupleGo c (.ref b) u) Q E s:=by
 unfold letOwnedTupleGo;cases c <;> first
  | exact ae a
  | (cases u <;> first
    | exact ae a
    | (refine aa (wpAny_load i ?_);rw[e,f];show aC M A (if (["enumerate","zip","dict_itemiterator","dict_reverseitemiterator","odict_iterator","itertools.zip_longest","itertools.pairwise"].contains n&&d[0]? == some (rawInt _))=true then _ else _) Q E s;rw[aO (by intro h;rw[g,vV] at h;cases h)];exact ae a))
def Nh(K:zZ)(a:ak):It:=
 ⟨λi H=>∃ b x,ZK K H a b/\b[i]? = some x,λi H x c=>c=H/\∀ b,ZK K H a b->b[i]? = some x,λi H=>∃ b,ZK K H a b/\b.length<=i⟩
def Dr(K:zZ)(a:ak):It:=
 ⟨λi H=>∃ b x,Zv K H a b/\b[i]? = some x,λi H x c=>c=H/\∀ b,Zv K H a b->b[i]? = some x,λi H=>∃ b,Zv K H a b/\b.length<=i⟩
def Oo(b:Int)(n:Nat):It:=⟨λi _=>i<n,λi H x a=>a=H/\x=.int (b+i),λi _=>n<=i⟩
theorem ZI2{P:am}{w:ax}{K:zZ}{tg:Expr}(a l:ak):Vo P w K tg (Nh K a) [l] l (λi h=>h.IsListIter l a i) where
 mem:=by simp
 obj:=λi h f b j=>by
  let e:b=l:=by simpa using j
  subst e;let⟨o,e,c,d⟩:=f;exact⟨o,e,λv z=>by rw[d] at z;cases z⟩
 keep:=λi h n f k=>f.at λo e=>k l (by simp) o e
 item:=by
  intro X F J D O i g s Q H E I q f G;subst F J D;let⟨xs,x,r,L⟩:=G;let⟨M,N,p,Y⟩:=I.list r;let⟨u,U,ru⟩:=N.get L;let⟨t,y,T,A,B,C⟩:=q l (by simp)
  refine wpAny_pyNext_list_item f p.isList (x:=u) (by simpa using U) λn m sb=>?_
  let R:ZF X g Q H { s with heap:=n }:=I.turned (t':=s.toks) (λb o j e=>(sb.2 b j).trans e) t y A B C;let⟨o,e,c,d⟩:=id m;exact⟨u,Z,N9 (s:={ s with heap:=n }) e c d (by decide) ⟨x,H,R,ru,⟨Z,λys V=>by rw[I.list_inj V r];exact L⟩,m,λb j=>(q b j).1⟩⟩
 done:=by
  intro X F J D O i g s Q H E I q f G;subst F J D;let⟨xs,r,L⟩:=G;let⟨M,N,p,Y⟩:=I.list r;let⟨t,y,T,A,B,C⟩:=q l (by simp)
  let hl:=N.length;exact wpAny_pyNext_list_end (I.ok.hd O) f p.isList (by simp;lia) λn S=>⟨Z,I.turned (t':=s.toks) (λb o j e=>S b o j e) t y A B C⟩
 self:=λ_ _ _ _ _ f h=>wpAny_pyIter_listiter f h
def ZIN{P:am}{w:ax}{K:zZ}{tg:Expr}(a l:ak):Vo P w K tg (Dr K a) [l] l (λi h=>h.IsTupleIter l a i) where
 mem:=by simp
 obj:=λi h f b j=>by
  let e:b=l:=by simpa using j
  subst e;let⟨o,e,c,d⟩:=f;exact⟨o,e,λv z=>by rw[d] at z;cases z⟩
 keep:=λi h q f k=>f.at λo e=>k l (by simp) o e
 item:=by
  intro X G L F O i g s Q H E I r f J;subst G L F;let⟨xs,x,t,M⟩:=J;let⟨m,N,p,Y⟩:=I.tuple t;let⟨u,U,ru⟩:=N.get M;let⟨y,A,T,B,C,D⟩:=r l (by simp)
  refine wpAny_pyNext_tuple_item f (show s.heap.IsTuple a m.toArray from p) (x:=u) (by simpa using U) λq n sb=>?_
  let R:ZF X g Q H { s with heap:=q }:=I.turned (t':=s.toks) (λb o j e=>(sb.2 b j).trans e) y A B C D;let⟨o,e,c,d⟩:=id n;exact⟨u,Z,N9 (s:={ s with heap:=q }) e c d (by decide) ⟨x,H,R,ru,⟨Z,λys V=>by rw[I.tuple_inj V t];exact M⟩,n,λb j=>(r b j).1⟩⟩
 done:=by
  intro X G L F O i g s Q H E I r f J;subst G L F;let⟨xs,t,M⟩:=J;let⟨m,N,p,Y⟩:=I.tuple t;let⟨y,A,T,B,C,D⟩:=r l (by simp)
  let hl:=N.length;exact wpAny_pyNext_tuple_end (I.ok.hd O) f (show s.heap.IsTuple a m.toArray from p) (by simp;lia) λq S=>⟨Z,I.turned (t':=s.toks) (λb o j e=>S b o j e) y A B C D⟩
 self:=λ_ _ _ _ _ f h=>wpAny_pyIter_tupleiter f h
theorem ZIX{P:am}{w:ax}{K:zZ}{Q:Expr}(c:ak)(m:Int)(n:Nat):Vo P w K Q (Oo m n) [c] c (λi h=>IsRangeIter h c (m+(i:Nat) * 1) ((n:Int)-(i:Nat)) 1) where
 mem:=by simp
 obj:=λi h a b f=>by
  let e:b=c:=by simpa using f
  subst e;exact⟨_,a,λv z=>by
   let R:Data.fields _=Data.cell v:=z;cases R⟩
 keep:=λi h j a k=>k c (by simp) _ a
 item:=by
  intro X A D y B i d s G H E I l a C;subst A D y;let⟨p,q,M,r,u,x⟩:=l c (by simp)
  let W:=Walks.range (prog:=X.prog) (w:=X.w) (I.ok.hd B) c m 1 n;refine W.item i s _ _ C a λv j F N g O=>?_;let⟨t,rfl⟩:=N;let J:ZF X d G H { s with heap:=j,toks:=F }:=I.turned (λb o f e=>O b o (by simpa using f) e) p q r u x
  refine⟨_,Z,N9 (s:={ s with heap:=j,toks:=F }) (n:= "range_iterator") g Z Z (by decide) ⟨.int (m+i),H,J,⟨t,?_⟩,⟨Z,Z⟩,g,λb f=>(l b f).1⟩⟩
  rw[Int.mul_one]
 done:=by
  intro X A D y B i d s G H E I l a C;subst A D y;let⟨p,q,M,r,u,x⟩:=l c (by simp)
  exact wpAny_pyNext_range_end (I.ok.hd B) a (by have:n<=i:=C;lia) λj L=>⟨Z,I.turned (t':=s.toks) (λb o f e=>L b o f e) p q r u x⟩
 self:=λ_ _ _ _ _ a h=>wpAny_pyIter_rangeiter a h
section
variable{tg:Expr}
inductive OM(K:zZ)(R:It->Hp->Prop)(x:V)(b:Hp):Prop
 |mk(a:_)(_:x=.ref a)(_:∃ c,ZK K b a c)(_:R (Nh K a) b)
def ZQL(K:zZ)(b:TE):TI:=λc H R=>b c H λx a=>OM K R x a
inductive Ml(K:zZ)(R:It->Hp->Prop)(x:V)(b:Hp):Prop
 |mk(a:_)(_:x=.ref a)(_:∃ c,Zv K b a c)(_:R (Dr K a) b)
def ZRP(K:zZ)(b:TE):TI:=λc H R=>b c H λx a=>Ml K R x a
def Wj{l:Expr}{g:TE}(k:PE X l g):PI X tg l (ZQL X.K g):=by
 intro c s u H R I h;refine Z7 (k c s u H _ I h) λv f x i d t r=>?_;let⟨a,e,⟨z,m⟩,q⟩:=r;subst e;cases t;let⟨n,y,p,w⟩:=d.list m;refine wpAny_pyIter_list p.isList ?_;refine⟨f.heap.objs.size,[f.heap.objs.size],_,_,i,Z,d.kept (t':=f.toks) λb o e=>zB _ e,ZI2 a _,⟨_,yO _ Z,Z,Z⟩,λb j=>?_,q⟩;let e:b=f.heap.objs.size:=by simpa using j
 subst e;exact d.fpOk (zY _) (d.hok.fresh (zY _))
def II{l:Expr}{i:TE}(m:PE X l i):PI X tg l (ZRP X.K i):=by
 intro c s u H R I h;refine Z7 (m c s u H _ I h) λv d x j f t r=>?_;let⟨a,e,⟨z,n⟩,q⟩:=r;subst e;cases t;let⟨g,y,p,w⟩:=f.tuple n;refine wpAny_pyIter_tuple (show d.heap.IsTuple a g.toArray from p) ?_;refine⟨d.heap.objs.size,[d.heap.objs.size],_,_,j,Z,f.kept (t':=d.toks) λb o e=>zB _ e,ZIN a _,⟨_,yO _ Z,Z,Z⟩,λb k=>?_,q⟩;let e:b=d.heap.objs.size:=by simpa using k
 subst e;exact f.fpOk (zY _) (f.hok.fresh (zY _))
theorem Fy{d:jq}{h:St}{H:Hp}{s:al}{R:It->Hp->Prop}{E:ja}{a c:Int}{t u v:Tok}{g:Nat}(I:ZF X d h H s)(k : -(2 ^ 62)<=a)(l:a<2 ^ 62)(m : -(2 ^ 62)<=c)(n:c<2 ^ 62)(q:R (Oo a (c-a).toNat) H):aC (aB X.prog X.w) X.A (pyIter (.ref s.heap.objs.size)) (EF X d h tg R) E { s with heap:=s.heap.push { cls:=.type "range",data:=.fields #[.int a t,.int c u,.int 1 v] },toks:=g }:=by
 refine wpAny_pyIter_range (IsRange.new ..) (small_one k l m n) ?_;let f:ZF X d h H { s with heap:=s.heap.push { cls:=.type "range",data:=.fields #[.int a t,.int c u,.int 1 v] },toks:=g }:=I.kept λb o e=>zB _ e;refine⟨(s.heap.push { cls:=.type "range",data:=.fields #[.int a t,.int c u,.int 1 v] }).objs.size,[(s.heap.push { cls:=.type "range",data:=.fields #[.int a t,.int c u,.int 1 v] }).objs.size],_,_,H,Z,
  f.kept (t':=g) λb o e=>zB _ e,ZIX _ a (c-a).toNat,?_,λb p=>?_,q⟩
 ·let i:a+((0:Nat):Int) * 1=a:=by simp
  let j:(((c-a).toNat:Nat):Int)-((0:Nat):Int)=Builtin.Range.rangeSize a c 1:=by rw[rangeSize_one];split <;> lia
  show IsRangeIter _ _ (a+((0:Nat):Int) * 1) ((((c-a).toNat:Nat):Int)-((0:Nat):Int)) 1;rw[i,j];exact yO _ Z
 ·let e:b=(s.heap.push { cls:=.type "range",data:=.fields #[.int a t,.int c u,.int 1 v] }).objs.size:=by simpa using p
  subst e;exact f.fpOk (zY _) (f.hok.fresh (zY _))
inductive OO(R:It->Hp->Prop)(b:jf)(a:Hp):Prop
 |mk(j:Int)(_:b=[.int j])(_ : -(2 ^ 62)<=j)(_:j<2 ^ 62)(_:R (Oo 0 j.toNat) a)
def ZP4(b:TA):TI:=λd H R=>b d H λc a=>OO R c a
inductive OL(R:It->Hp->Prop)(b:jf)(a:Hp):Prop
 |mk(i j:Int)(_:b=[.int i,.int j])(_ : -(2 ^ 62)<=i/\i<2 ^ 62 /\ -(2 ^ 62)<=j/\j<2 ^ 62)(_:R (Oo i (j-i).toNat) a)
def ZQU(b:TA):TI:=λd H R=>b d H λc a=>OL R c a
theorem Mw{a:Expr}{f:TA}{p c:aJ}(k:Gl X "range")(l:X.mg "range" = none)(i:PA X [a] f)(m:aw [a] X.env=[(false,aH a X.env)]:=by rfl):PI X tg (.Call (.Name "range" p) [a] [] c) (ZP4 f):=by
 intro b s v H R I h;refine Call_ (Oh I k l boot_range (PyProof.Rows.callWith_type1 (Z7 (i c b s v H _ I h) λy x z w g o d=>?_) m rfl));let⟨j,e,d,n,q⟩:=d;subst e
 cases o with
 | cons r u=>
  cases u;let⟨t,rfl⟩:=r;exact call_range_1 (Fy g ∅ ∅ d n (by simpa using q))
def Hk{a b:Expr}{l:TA}{p f:aJ}(o:Gl X "range")(u:X.mg "range" = none)(n:PA X [a,b] l)(v:aw [a,b] X.env=[(false,aH a X.env),(false,aH b X.env)]:=by rfl)(c:aw [b] X.env=[(false,aH b X.env)]:=by rfl):
  PI X tg (.Call (.Name "range" p) [a,b] [] f) (ZQU l):=by
 intro d s B H R I h;refine Call_ (Oh I o u boot_range (PyProof.Rows.callWith_type1 (Z7 (n f d s B H _ I h) λF D G C m A g=>?_) (by rw[v,c]) (by rw[c];rfl)))
 let⟨i,j,e,⟨g,w,x,y⟩,q⟩:=g;subst e
 cases A with
 | cons r k=>
  cases k with
  | cons z k=>
   cases k;let⟨t,rfl⟩:=r;let⟨E,rfl⟩:=z;exact call_range_2 (Fy m g w x y q)
def BR(k:TI)(g:TG)(j:TS):TS:=λD a H=>k a H λJ f=>∃ W:Nat->Nat->St->Hp->Prop,(∃ m,W 0 m a f)/\∀ i m a H,W i m a H ->
 (J.stop i H/\D.nx a H)\/(J.go i H/\∃ N:St->Hp->Prop,(∀ c b,N c b->∃ e,e<m/\W (i+1) e c b)/\∀ x b,J.yld i H x b->g x a b λd h=>j { D with nx:=N,ct:=N,bk:=D.nx } d h)
def MQ(a:jz)(h:aE):jq:=a.filterMap λb=>(h.get? b).map λo=>(b,o)
def LL{a:jz}{h:aE}{b:ak}{o:aI}(c:b∈a)(e:h.get? b=some o):(b,o)∈MQ a h:=tJ.mpr ⟨b,c,by rw[e];rfl⟩
def ZJb{a:jz}{h:aE}{p:ak×aI}(f:p∈MQ a h):p.1∈a/\h.get? p.1=some p.2:=by
 let⟨b,d,e⟩:=tJ.mp f
 cases q:h.get? b with
 | none=>rw[q] at e;cases e
 | some o=>
  rw[q] at e;let c:(b,o)=p:=yU.inj e;subst c;exact⟨d,q⟩
def ZF.pinned{a:jq}{h:St}{H:Hp}{s:al}{c:jz}(I:ZF X a h H s)(l:∀ b∈c,VW X a H b)(m:∀ b∈c,∃ o,s.heap.get? b=some o/\∀ v,o.data≠.cell v):ZF X (a++MQ c s.heap) h H s:=
 I.pins_of λp n=>(zA.mp n).elim (λz=>I.pin p (yJ _ z)) λz=>by
  let⟨g,e⟩:=ZJb z;let⟨i,j,k,_⟩:=l p.1 g;let⟨o,f,d⟩:=m p.1 g;rw[e] at f;cases f;exact⟨e,i,j,k,d⟩
def ZF.unpinned{a d:jq}{b:St}{H:Hp}{s:al}(I:ZF X (a++d) b H s):ZF X a b H s:=I.pins_of λp c=>I.pin p (yJ _ (xZ _ c))
def UE{q:Expr}{C:jC}{wi:TI}{g:TG}{tb:TS}{Y:aJ}(L:PassesOwn (aB X.prog X.w) X.A X.env X.xe)(hc:X.calm=true)(hi:PI X tg q wi)(hg:PG X tg g)(p:X5 X C tb)(hs:∀ x,foldedSetIterable q X.env x=pure x:=by intro _;rfl):PS X (.For tg q C [] Y) (BR wi g tb):=by
 intro a s σ H D I h;refine wpAny_For (Z2 (hi a s σ H _ I h) λv s1 h1=>Z2 h1 λa2 s2 h2=>?_) hs;let⟨it,G,tn,J,H2,e,I2,T,a0,f2,W,⟨m0,w0⟩,Q⟩:=h2;subst e;let t:∀{B:Hp},(∀ b∈G,B b=none)->∀ b∈G,VW X a B b:=λhn b p=>⟨hn b p,(f2 b p).2⟩;refine codeAny_forLoop_any (λn s'=>∃ i y B,ZF X a y B s'/\tn i s'.heap/\(∀ b∈G,B b=none)/\W i n y B) ?_ m0 ⟨0,σ,H2,I2,a0,λb p=>(f2 b p).1,w0⟩;rintro n s3 ⟨i,z,R,I3,O,K,w3⟩;rcases Q i n z R w3 with ⟨P,qn⟩ | ⟨go,N,hN,step⟩
 ·refine wpAny_passesOwn L (Z2 (T.done X rfl rfl rfl hc i a s3 z R X.xe I3 (t K) O P) ?_);rintro r s4 ⟨V,I4⟩;subst V;exact wpAny_execs_nil ⟨z,R,I4,qn⟩
 ·refine wpAny_passesOwn L (Z2 (T.item X rfl rfl rfl hc i a s3 z R X.xe I3 (t K) O go) ?_);rintro r s4 ⟨u,V,h4⟩;subst V;refine wpAny_passesOwn L (Z2 h4 ?_);rintro _ s5 ⟨x,H5,I5,r5,y5,F,U⟩;let S:=I5.pinned (t U) (T.obj _ _ F);refine wpAny_passesOwn L (Z2 (hg _ s5 z H5 x u _ S r5 (step x H5 y5)) ?_);rintro _ s6 ⟨a1,H6,I6,q6⟩;refine wpAny_passesOwn L (Z2 (p _ s6 a1 H6 _ I6 q6) λf s7 E=>?_);let l:∀{c:St}{j:Hp},ZF X (a++MQ G s5.heap) c j s7->N c j->∃ m,m<n/\∃ i y B,ZF X a y B s7/\tn i s7.heap/\(∀ b∈G,B b=none)/\W i m y B:=fun{c j} k M=>by
   let⟨m',hm,w7⟩:=hN c j M;refine⟨m',hm,i+1,c,j,k.unpinned,T.keep _ _ _ F λb p o e=>(k.pin (b,o) (yJ _ (yJ _ (LL p e)))).1,λb p=>?_,w7⟩;let⟨o,e,d⟩:=T.obj _ _ F b p;exact(k.pin (b,o) (yJ _ (yJ _ (LL p e)))).2.1
  cases f with
  | next=>let⟨c,j,k,M⟩:=E;exact l k M
  | cont=>let⟨c,j,k,M⟩:=E;exact l k M
  | brk=>let⟨c,j,k,E⟩:=E;exact⟨c,j,k.unpinned,E⟩
  | ret v=>let⟨x7,c,j,k,r7,E⟩:=E;exact⟨x7,c,j,k.unpinned,r7,E⟩
end
theorem Pa{K:zZ}{a:ak}{xs:jf}{g:TG}{n:TS}{D:YM}{b:St}{H:Hp}(c:Nat->St->Hp->Prop)(o:c 0 b H)(t:∀ i b H,i<=xs.length->c i b H->ZK K H a xs)(u:∀ i x b H,xs[i]? = some x->c i b H->g x b H λh k=>n { D with nx:=c (i+1),ct:=c (i+1),bk:=D.nx } h k)(r:∀ b H,c xs.length b H->D.nx b H):
  ∃ W:Nat->Nat->St->Hp->Prop,(∃ m,W 0 m b H)/\∀ i m b H,W i m b H ->
   ((Nh K a).stop i H/\D.nx b H)\/((Nh K a).go i H/\∃ N:St->Hp->Prop,(∀ f d,N f d->∃ l,l<m/\W (i+1) l f d)/\∀ x d,(Nh K a).yld i H x d->g x b d λh k=>n { D with nx:=N,ct:=N,bk:=D.nx } h k):=by
 exists λi m b H=>m=xs.length-i/\i<=xs.length/\c i b H,⟨xs.length,by simp,zD _,o⟩
 rintro i m b H ⟨rfl,s,p⟩;let q:=t i b H s p;by_cases j:i<xs.length
 ·refine .inr ⟨⟨xs,xs[i],q,by simp[j]⟩,c (i+1),λf d v=>⟨xs.length-(i+1),by exact tI ‹_› (wL _),Z,j,v⟩,λx d y=>?_⟩
  let⟨e,y⟩:=y;subst e;exact u i x b _ (y xs q) p
 ·let e:i=xs.length:=∅
  subst e;exact .inl ⟨⟨xs,q,zY _⟩,r b H p⟩
theorem MM{lo:Int}{n:Nat}{g:TG}{l:TS}{D:YM}{a:St}{H:Hp}(c:Nat->St->Hp->Prop)(o:c 0 a H)(r:∀ i a H,i<n->c i a H->g (.int (lo+i)) a H λh j=>l { D with nx:=c (i+1),ct:=c (i+1),bk:=D.nx } h j)(q:∀ a H,c n a H->D.nx a H):
  ∃ W:Nat->Nat->St->Hp->Prop,(∃ m,W 0 m a H)/\∀ i m a H,W i m a H ->
   ((Oo lo n).stop i H/\D.nx a H)\/((Oo lo n).go i H/\∃ N:St->Hp->Prop,(∀ f b,N f b->∃ k,k<m/\W (i+1) k f b)/\∀ x b,(Oo lo n).yld i H x b->g x a b λh j=>l { D with nx:=N,ct:=N,bk:=D.nx } h j):=by
 exists λi m a H=>m=n-i/\i<=n/\c i a H,⟨n,by simp,zD _,o⟩
 rintro i m a H ⟨rfl,t,p⟩;by_cases d:i<n
 ·refine .inr ⟨d,c (i+1),λf b s=>⟨n-(i+1),by exact tI ‹_› (wL _),Z,d,s⟩,λx b y=>?_⟩
  let⟨e,y⟩:=y;subst e y;exact r i a _ d p
 ·let e:i=n:=∅
  subst e;exact .inl ⟨zY _,q a H p⟩
abbrev R2:=V->V->Hp->VK->Prop
def Yy(X:Cx)(f:aj->aj->Sem aj)(r:R2):Prop:=
 ∀(a:jq)(s:al)(b:St)(H:Hp)(x y:V)(v u:aj)(Q:VK),ZF X a b H s->ZN x v->ZN y u->r x y H Q ->
  aC (aB X.prog X.w) X.A (f v u) (EP X a b Q) X.xe s
def HQ(X:Cx)(f:aj->Sem aj)(r:V->Hp->VK->Prop):Prop:=
 ∀(a:jq)(s:al)(b:St)(H:Hp)(x:V)(v:aj)(Q:VK),ZF X a b H s->ZN x v->r x H Q ->
  aC (aB X.prog X.w) X.A (f v) (EP X a b Q) X.xe s
def Vp(X:Cx)(f:aj)(r:jf->Hp->VK->Prop):Prop:=
 ∀(a:jq)(s:al)(d:St)(H:Hp)(c:jf)(b:je)(Q:VK),ZF X a d H s->ZP c b->r c H Q ->
  aC (aB X.prog X.w) X.A (call f b) (EP X a d Q) X.xe s
def Nj(r:R2)(d e:TE):TE:=λa H Q=>d a H λx b=>e a b λy c=>r x y c Q
def AU(r:V->Hp->VK->Prop)(b:TE):TE:=λc H Q=>b c H λx a=>r x a Q
inductive rI(C:Int->Int->Prop)(g:Int->Int->V)(x y:V)(H:Hp)(Q:VK):Prop
 |mk(i j:_)(_:x=.int i)(_:y=.int j)(_:C i j)(_:Q (g i j) H)
inductive P9(g:Int->Int->V)(x y:V)(H:Hp)(Q:VK):Prop
 |mk(i j:_)(_:x=.int i)(_:y=.int j)(_:Q (g i j) H)
inductive rU(g:Int->V)(x:V)(H:Hp)(Q:VK):Prop
 |mk(i:_)(_:x=.int i)(_:Q (g i) H)
section
variable{a b c:Expr}{ta tb tc:TE}{pos:aJ}
def Jt(o:PE X a ta)(p:PE X b tb){d:jq}{s:al}{g:St}{H:Hp}{R:V->V->Hp->Prop}(I:ZF X d g H s)(h:ta g H λx l=>tb g l λy e=>R x y e){Q:ja}{f:aj->aj->Sem aj}(q:∀ v u k x y e,ZF X d g e k->ZN x v->ZN y u->R x y e->aC (aB X.prog X.w) X.A (f v u) Q X.xe k):
  aC (aB X.prog X.w) X.A (aH a X.env) (λv i=>aC (aB X.prog X.w) X.A (aH b X.env) (λu j=>aC (aB X.prog X.w) X.A (f v u) Q X.xe j) X.xe i) X.xe s:=by
 refine Z7 (o d s g H _ I h) λv C x l m z r=>?_;refine Z7 (p d C g l _ m r) λu k y e n B t=>?_;exact q v u k x y e n z B t
def Zx{e:Operator}{r:R2}(k:Yy X (binaryOp e) r)(i:PE X a ta)(j:PE X b tb):PE X (.BinOp a e b pos) (Nj r ta tb):=by
 intro d s o H Q I h;exact wpAny_BinOp (Jt i j I h λv u n x y f g l m q=>k d n o f x y v u Q g l m q)
def QQ{e:UnaryOp}{r:V->Hp->VK->Prop}(k:HQ X (unaryOp e) r)(j:PE X a ta):PE X (.UnaryOp e a pos) (AU r ta):=by
 intro d s f H Q I h;exact UnaryOp_ (Z7 (j d s f H _ I h) λv n x g i m l=>k d n f g x v Q i m l)
def Mt{f:aj->aj->Sem aj}{C:Int->Int->Prop}{g:Int->Int->Int}(d:∀ (i j:Int) (t u:Tok) (s:al) (Q:ja) (E:ja),C i j->Q (.int (g i j) s.toks) { s with toks:=s.toks+1 }->aC (aB X.prog X.w) X.A (f (.int i t) (.int j u)) Q E s):
  Yy X f (rI C λi j=>.int (g i j)):=by
 intro e s o H x y v u Q I l m h;let⟨i,j,rfl,rfl,k,q⟩:=h;let⟨t,rfl⟩:=l;let⟨n,rfl⟩:=m;exact d i j t n s _ _ k ⟨.int (g i j),H,I.tok _,⟨_,Z⟩,q⟩
def EQ{f:aj->aj->Sem aj}{g:Int->Int->Int}(d:∀ (i j:Int) (t u:Tok) (s:al) (Q:ja) (E:ja),Q (.int (g i j) s.toks) { s with toks:=s.toks+1 }->aC (aB X.prog X.w) X.A (f (.int i t) (.int j u)) Q E s):
  Yy X f (P9 λi j=>.int (g i j)):=by
 intro e s n H x y v u Q I k l h;let⟨i,j,rfl,rfl,q⟩:=h;let⟨t,rfl⟩:=k;let⟨m,rfl⟩:=l;exact d i j t m s _ _ ⟨.int (g i j),H,I.tok _,⟨_,Z⟩,q⟩
def KB{f:aj->aj->Sem aj}{g:Int->Int->Bool}(d:∀ (i j:Int) (t u:Tok) (s:al) (Q:ja) (E:ja),Q (.bool (g i j)) s->aC (aB X.prog X.w) X.A (f (.int i t) (.int j u)) Q E s):
  Yy X f (P9 λi j=>.bl (g i j)):=by
 intro e s n H x y v u Q I k l h;let⟨i,j,rfl,rfl,q⟩:=h;let⟨t,rfl⟩:=k;let⟨m,rfl⟩:=l;exact d i j t m s _ _ ⟨.bl (g i j),H,I,Z,q⟩
def ZRD(i j:Int):Prop:=0<j/\j<1073741824
def Ae(i j:Int):Prop:=0<=j/\j<=1000000/\i.natAbs<2 ^ 64
def Pi(i j:Int):Prop:=(-(2 ^ 64)<i/\i<2 ^ 64)\/(-(2 ^ 64)<j/\j<2 ^ 64)
def Pi.ok{i j:Int}(h:Pi i j):IntMulOk i j:=by
 rcases h with ⟨d,e⟩ | ⟨d,e⟩
 ·exact .of_left (intBits_le_64 d e)
 ·exact .of_right (intBits_le_64 d e)
def VB:Yy X (binaryOp .Add) (P9 λi j=>.int (i+j)):=EQ λ_ _ _ _ _ _ _ q=>add_int q
def Uy:Yy X (binaryOp .Sub) (P9 λi j=>.int (i-j)):=EQ λ_ _ _ _ _ _ _ q=>sub_int q
def OJ:Yy X (binaryOp .Mult) (rI Pi λi j=>.int (i * j)):=Mt λ_ _ _ _ _ _ _ d q=>mul_int q d.ok
theorem Ld:Yy X (binaryOp .FloorDiv) (rI ZRD λi j=>.int (i / j)):=Mt λi j _ _ _ _ _ d q=>by
 let e:(0:Int)<j:=d.1;let f:j<1073741824:=d.2;exact floordiv_int ∅ (by rw[qQ i ∅];exact q) (.inl (PyProof.noPylong_small ∅))
def Pl:Yy X (binaryOp .Mod) (rI (λ_ j=>0<j) λi j=>.int (i % j)):=Mt λi j _ _ _ _ _ d q=>by
 exact mod_int' ∅ (by rw[Int.fmod_eq_emod_of_nonneg i ∅];exact q)
def Mr:Yy X (binaryOp .Pow) (rI Ae λi j=>.int (i ^ j.toNat)):=Mt λ_ _ _ _ _ _ _ d q=>pow_int_small d.1 d.2.1 d.2.2 q
def Aw{f:aj->Sem aj}{g:Int->Int}(d:∀ (i:Int) (t:Tok) (s:al) (Q:ja) (E:ja),Q (.int (g i) s.toks) { s with toks:=s.toks+1 }->aC (aB X.prog X.w) X.A (f (.int i t)) Q E s):
  HQ X f (rU λi=>.int (g i)):=by
 intro e s k H x v Q I j h;let⟨i,rfl,q⟩:=h;let⟨t,rfl⟩:=j;exact d i t s _ _ ⟨.int (g i),H,I.tok _,⟨_,Z⟩,q⟩
def QV:HQ X (unaryOp .USub) (rU λi=>.int (-i)):=Aw λ_ _ _ _ _ q=>neg_int q
end
def EJ:V->V->Bool
 | .non,.non=>true | .non,.int _=>true | .int _,.non=>true | .non,.bl _=>true | .bl _,.non=>true | .non,.str _=>true | .str _,.non=>true
 | .int _,.int _=>true | .bl _,.bl _=>true | .str _,.str _=>true | .byt _,.byt _=>true
 | .int _,.str _=>true | .str _,.int _=>true | .bl _,.str _=>true | .str _,.bl _=>true
 | _,_=>false
def rEq:R2:=λx y H Q=>EJ x y=true/\Q (.bl (decide (x=y))) H
def Af:R2:=λx y H Q=>EJ x y=true/\Q (.bl (!decide (x=y))) H
def GQ{i j:Int}:decide (V.int i=V.int j)=(i==j):=by
 rw[wC];simp
def EK{i j:Bool}:decide (V.bl i=V.bl j)=(i==j):=by
 rw[wC];simp
def DJ{i j:Str}:decide (V.str i=V.str j)=(i==j):=by
 rw[wC];simp
def FQ{i j:Array UInt8}:decide (V.byt i=V.byt j)=(i.toList==j.toList):=by
 rw[wC];cases i;cases j;simp
section
variable{a b c:Expr}{ta tb tc:TE}{pos:aJ}
def Y4{d:jq}{g:St}{H:Hp}{s:al}{Q:VK}{k f:Bool}(I:ZF X d g H s)(q:Q (.bl k) H)(e:k=f):EP X d g Q (.bool f) s:=by
 subst e;exact⟨.bl k,H,I,Z,q⟩
def UG:Yy X (aA .Eq) rEq:=by
 intro k s l H x y v u Q I g d h;let⟨f,q⟩:=h
 cases x with
 | non=>
  cases g
  cases y with
  | non=>cases d;exact PySem.EqNone.eq_none_none (Y4 I q (by simp))
  | bl j=>cases d;exact PySem.EqNone.eq_none_bool (Y4 I q (by simp))
  | int j=>let⟨e,rfl⟩:=d;exact PySem.EqNone.eq_none_int (Y4 I q (by simp))
  | str j=>let⟨e,rfl⟩:=d;exact PySem.EqNone.eq_none_str (Y4 I q (by simp))
  | _=>exact absurd (show false=true from f) zW
 | bl i=>
  cases g
  cases y with
  | non=>cases d;exact PySem.EqNone.eq_bool_none (Y4 I q (by simp))
  | bl j=>cases d;exact eq_bool (Y4 I q EK)
  | str j=>let⟨e,rfl⟩:=d;exact PySem.EqMixed.eq_bool_str (Y4 I q (by simp))
  | _=>exact absurd (show false=true from f) zW
 | int i=>
  let⟨t,rfl⟩:=g
  cases y with
  | non=>cases d;exact PySem.EqNone.eq_int_none (Y4 I q (by simp))
  | int j=>let⟨e,rfl⟩:=d;exact eq_int (Y4 I q GQ)
  | str j=>let⟨e,rfl⟩:=d;exact PySem.EqMixed.eq_int_str (Y4 I q (by simp))
  | _=>exact absurd (show false=true from f) zW
 | str i=>
  let⟨t,rfl⟩:=g
  cases y with
  | non=>cases d;exact PySem.EqNone.eq_str_none (Y4 I q (by simp))
  | bl j=>cases d;exact PySem.EqMixed.eq_str_bool (Y4 I q (by simp))
  | int j=>let⟨e,rfl⟩:=d;exact PySem.EqMixed.eq_str_int (Y4 I q (by simp))
  | str j=>let⟨e,rfl⟩:=d;exact eq_str (Y4 I q DJ)
  | _=>exact absurd (show false=true from f) zW
 | byt i=>
  let⟨t,rfl⟩:=g
  cases y with
  | byt j=>let⟨e,rfl⟩:=d;exact PySem.W.eq_bytes (Y4 I q FQ)
  | _=>exact absurd (show false=true from f) zW
 | _=>cases y <;> exact absurd (show false=true from f) zW
def IR:Yy X (aA .NotEq) Af:=by
 intro k s l H x y v u Q I g d h;let⟨f,q⟩:=h
 cases x with
 | non=>
  cases g
  cases y with
  | non=>cases d;exact PySem.EqNone.ne_none_none (Y4 I q (by simp))
  | bl j=>cases d;exact PySem.EqNone.ne_none_bool (Y4 I q (by simp))
  | int j=>let⟨e,rfl⟩:=d;exact PySem.EqNone.ne_none_int (Y4 I q (by simp))
  | str j=>let⟨e,rfl⟩:=d;exact PySem.EqNone.ne_none_str (Y4 I q (by simp))
  | _=>exact absurd (show false=true from f) zW
 | bl i=>
  cases g
  cases y with
  | non=>cases d;exact PySem.EqNone.ne_bool_none (Y4 I q (by simp))
  | bl j=>cases d;exact ne_bool (Y4 I q (congrArg not EK))
  | str j=>let⟨e,rfl⟩:=d;exact PySem.EqMixed.ne_bool_str (Y4 I q (by simp))
  | _=>exact absurd (show false=true from f) zW
 | int i=>
  let⟨t,rfl⟩:=g
  cases y with
  | non=>cases d;exact PySem.EqNone.ne_int_none (Y4 I q (by simp))
  | int j=>let⟨e,rfl⟩:=d;exact ne_int (Y4 I q (congrArg not GQ))
  | str j=>let⟨e,rfl⟩:=d;exact PySem.EqMixed.ne_int_str (Y4 I q (by simp))
  | _=>exact absurd (show false=true from f) zW
 | str i=>
  let⟨t,rfl⟩:=g
  cases y with
  | non=>cases d;exact PySem.EqNone.ne_str_none (Y4 I q (by simp))
  | bl j=>cases d;exact PySem.EqMixed.ne_str_bool (Y4 I q (by simp))
  | int j=>let⟨e,rfl⟩:=d;exact PySem.EqMixed.ne_str_int (Y4 I q (by simp))
  | str j=>let⟨e,rfl⟩:=d;exact ne_str (Y4 I q (congrArg not DJ))
  | _=>exact absurd (show false=true from f) zW
 | byt i=>
  let⟨t,rfl⟩:=g
  cases y with
  | byt j=>let⟨e,rfl⟩:=d;exact PySem.W.ne_bytes (Y4 I q (congrArg not FQ))
  | _=>exact absurd (show false=true from f) zW
 | _=>cases y <;> exact absurd (show false=true from f) zW
def Oi:Yy X (aA .Lt) (P9 λi j=>.bl (decide (i<j))):=KB λ_ _ _ _ _ _ _ q=>lt_int q
def P2:Yy X (aA .LtE) (P9 λi j=>.bl (decide (i<=j))):=KB λ_ _ _ _ _ _ _ q=>le_int q
def OH:Yy X (aA .Gt) (P9 λi j=>.bl (decide (j<i))):=KB λ_ _ _ _ _ _ _ q=>gt_int q
def ZQN:Yy X (aA .GtE) (P9 λi j=>.bl (decide (j<=i))):=KB λ_ _ _ _ _ _ _ q=>ge_int q
def YW(b:Expr){d:CmpOp}(h:d≠.In:=by decide)(g:d≠.NotIn:=by decide):behindInMarks d b=false:=by
 let e:(d==CmpOp.In)=false:=by cases d <;> first | rfl | exact absurd rfl h
 let f:(d==CmpOp.NotIn)=false:=by cases d <;> first | rfl | exact absurd rfl g
 cases b <;> simp[behindInMarks,e,f]
def UB{e:CmpOp}{r:R2}(l:Yy X (aA e) r)(i:PE X a ta)(j:PE X b tb)(k:behindInMarks e b=false):PE X (.Compare a [e] [b] pos) (Nj r ta tb):=by
 intro d s p H Q I h;exact wpAny_Compare1 (Jt i j I h λv u o x y f g m n q=>l d o p f x y v u Q g m n q) k
inductive Oz(Q:Bool->Hp->Prop)(x:V)(d:Hp):Prop
 |mk(k:_)(_:x=.bl k)(_:Q k d)
def Ee(t:TE):TT:=λe H Q=>t e H λx d=>Oz Q x d
def Y2{f:CmpOp}{r:R2}(w:Yy X (aA f) r)(p:PE X a ta)(q:PE X b tb)(t:behindInMarks f b=false):PT X (.Compare a [f] [b] pos) (Ee (Nj r ta tb)):=by
 intro d s g H Q I h;refine wpAny_isTrue_Compare1 (Z7 (p d s g H _ I h) λv G x i m D A=>Z7 (q d G g i _ m A) λu J y j n E B=>
  Z2 (w d J g j x y v u _ n D E B) λc K ⟨z,l,o,F,k,e,C⟩=>?_) t
 subst e;cases F;exact wpAny_truthy_bool ⟨l,o,C⟩
inductive PV(f:R2)(tc:TE)(h:L2.St)(Q:VK)(y z:V)(d:Hp):Prop
 |mk(k:_)(_:z=.bl k)(_:if k=true then tc h d λg e=>f y g e Q else Q (.bl false) d)
def Ec(r h:R2)(ta tb tc:TE):TE:=λd H Q=>ta d H λx e=>tb d e λy f=>r x y f λz g=>PV h tc d Q y z g
def A7{l g:CmpOp}{r p:R2}(K:Yy X (aA l) r)(j:Yy X (aA g) p)(E:PE X a ta)(F:PE X b tb)(G:PE X c tc)(J:lastMarks [l,g] [b,c]=false:=by with_unfolding_all rfl):PE X (.Compare a [l,g] [b,c] pos) (Ec r p ta tb tc):=by
 intro f s i H Q I h;refine Compare_chain (Z7 (E f s i H _ I h) λv S x t B O L=>chain_link (Z7 (F f S i t _ B L) λu T y w C q M=>
  Z2 (K f T i w x y v u _ C O q M) λd U ⟨z,m,n,P,k,e,o⟩=>?_)) J
 subst e;cases P;refine wpAny_truthy_bool ?_
 cases k with
 | false=>exact ite_ff ⟨.bl false,m,n,Z,o⟩
 | true=>exact ite_tt (chain_last (Z7 (G f U i m _ n o) λW V Y A D R N=>j f V i A y Y u W Q D q R N))
def Gp{l g:CmpOp}{r p:R2}(O:Yy X (aA l) r)(j:Yy X (aA g) p)(K:PE X a ta)(L:PE X b tb)(M:PE X c tc)(N:lastMarks [l,g] [b,c]=false:=by with_unfolding_all rfl):PT X (.Compare a [l,g] [b,c] pos) (Ee (Ec r p ta tb tc)):=by
 intro f s i H Q I h;refine isTrue_chain (Z7 (K f s i H _ I h) λv s1 x t C V R=>test_link (Z7 (L f s1 i t _ C R) λu s2 y w D q S=>
  Z2 (O f s2 i w x y v u _ D V q S) λd s3 ⟨z,m,n,W,k,e,o⟩=>?_)) N
 subst e;cases W;refine wpAny_truthy_bool ?_
 cases k with
 | false=>
  let⟨k',G,P⟩:=o;cases G;exact ite_ff ⟨m,n,P⟩
 | true=>
  refine ite_tt (test_last (Z7 (M f s3 i m _ n o) λw' s4 z' A E Y T=>Z2 (j f s4 i A y z' u w' _ E q Y T) λd' s5 ⟨z2,B,F,r5,k2,J,U⟩=>?_));subst J;cases r5;exact wpAny_truthy_bool ⟨B,F,U⟩
def Ot:(ar:Nat)<2 ^ 63:=by rw[sizeLine_eq];decide
inductive Vl(x y:V)(H:Hp)(Q:VK):Prop
 |mk(i j:_)(_:x=.str i)(_:y=.str j)(_:i.length+j.length<=ar)(_:Q (.str (i++j)) H)
def ZIY:Yy X (binaryOp .Add) (Vl):=by
 intro d s m H x y v u Q I f g h;let⟨i,j,rfl,rfl,e,q⟩:=h;let⟨t,rfl⟩:=f;let⟨k,rfl⟩:=g;exact add_str (λk l=>⟨.str (i++j),H,I.tok _,⟨_,Z⟩,q⟩) e
def QF{x:V}{d:je}(r:ZP [x] d):∃ u,d=[u]/\ZN x u:=by
 cases r with
 | cons e f=>cases f;exact⟨_,Z,e⟩
def N0{x y:V}{d:je}(r:ZP [x,y] d):∃ u e,d=[u,e]/\ZN x u/\ZN y e:=by
 cases r with
 | cons f g=>
  cases g with
  | cons h i=>cases i;exact⟨_,_,Z,f,h⟩
inductive QL(d:jf)(H:Hp)(Q:VK):Prop
 |mk(i:_)(_:d=[.int i])(_:Q (.int (if i<0 then -i else i)) H)
def HV:Vp X (.builtin "abs") (QL):=by
 intro d s j H g f Q I r h;let⟨i,rfl,q⟩:=h;let⟨u,rfl,t,rfl⟩:=QF r;exact call_abs_int λu e=>⟨.int (if i<0 then -i else i),H,I.tok _,⟨_,Z⟩,q⟩
inductive UI(d:jf)(H:Hp)(Q:VK):Prop
 |mk(i j:_)(_:d=[.int i,.int j])(_:Q (.int (if j > i then j else i)) H)
def IK(f:X.calm=true):Vp X (.builtin "max") (UI):=by
 intro e s v H p n Q I r h;let⟨i,j,rfl,q⟩:=h;let⟨u,o,rfl,⟨t,rfl⟩,⟨l,rfl⟩⟩:=N0 r;refine max_two_ints (I.ok.hd f) λg m k=>⟨_,H,I.kept k,?_,q⟩;by_cases d:j > i
 ·rw[aP d,aP d];exact⟨_,Z⟩
 ·rw[aO d,aO d];exact⟨_,Z⟩
inductive UJ(d:jf)(H:Hp)(Q:VK):Prop
 |mk(i j:_)(_:d=[.int i,.int j])(_:Q (.int (if j<i then j else i)) H)
def EG(f:X.calm=true):Vp X (.builtin "min") (UJ):=by
 intro e s v H p n Q I r h;let⟨i,j,rfl,q⟩:=h;let⟨u,o,rfl,⟨t,rfl⟩,⟨l,rfl⟩⟩:=N0 r;refine min_two_ints (I.ok.hd f) λg m k=>⟨_,H,I.kept k,?_,q⟩;by_cases d:j<i
 ·rw[aP d,aP d];exact⟨_,Z⟩
 ·rw[aO d,aO d];exact⟨_,Z⟩
def Id:Vp X (.type "int") (λd H Q=>(∃ i,d=[.int i]/\Q (.int i) H)\/∃ k,d=[.bl k]/\Q (.int (if k then 1 else 0)) H):=by
 intro e s j H d g Q I r h;rcases h with ⟨i,rfl,q⟩ | ⟨k,rfl,q⟩
 ·let⟨u,rfl,t,rfl⟩:=QF r;exact call_int_int ⟨.int i,H,I,⟨_,Z⟩,q⟩
 ·let⟨u,rfl,f⟩:=QF r;cases f;exact call_int_bool ⟨.int (if k then 1 else 0),H,I.tok _,⟨_,Z⟩,q⟩
end
structure UN(h:aE)(x dx C:ak)(mA:jc):Prop where
 obj:h.get? x=some (wA C dx)
 ns:h.Ns1 dx mA
 ne:dx≠x
def ZJu{h:aE}{d:ak}{g:jc}(n:h.Ns1 d g):∃ i,h.get? d=some i/\∀ b,tR b i=some (g b):=by
 let⟨o,f,s,p,k,l,_,m⟩:=n;exists o,p;intro b;let e:=m b;unfold nsFind findBy at e;rw[<-Array.find?_toList] at e;unfold tR;rw[k];dsimp only;split
 ·rename_i y q
  rw[q] at e;exact congrArg some e
 ·rename_i q
  rw[q] at e;let a:f.toList.any (·.refKey)=false:=by
   rw[List.any_eq_false];intro y r;let⟨z,t,c⟩:=l y (Array.mem_toList_iff.mp r);simp[DictEntry.refKey,c]
  let j:¬ f.toList.any (·.refKey)=true:=by rw[a];exact zW
  rw[aO j];exact congrArg some e
def UN.look{h:aE}{x c C:ak}{d:jc}(I:UN h x c C d):∃ b,PySem.W.InstAt h x (wA C c) C (some b)/\∀ a,tR a b=some (d a):=
 let ⟨b,ho,hl⟩:=ZJu I.ns
 ⟨b,⟨I.obj,rfl,rfl,ho⟩,hl⟩
section
variable{prog:am}{w:ax}{A:ay}{E:ja}{s:al}{K:zZ}{x dx C f:ak}{mA:jc}{name:Str}{v:aj}
def ZOE{a:Bool}{Q:ja}(X:K.In s.heap)(I:UN s.heap x dx C mA)(d:vT K C name=true)(e:uW K C=true)(c:yX K (.ref C) name=some none)(i:mA name=some v)(b:PySem.W.handedIn v=true)(h:Q v { s with toks:=s.toks+1 }):
  aC (aB prog w) A (getAttr (.ref x) name a) Q E s:=by
 let⟨j,J,g⟩:=I.look;exact PySem.W.get_value X J (qX d).1 (PySem.W.findObj_own e c Z (by rw[g,i])) b h
def ZLt{i:Sem Bool}{Q:aj×je->al->Prop}(X:K.In s.heap)(I:UN s.heap x dx C mA)(a:vT K C name=true)(b:yX K (.ref C) name=some (some (.ref f)))(d:wE K (.ref f)=true)(e:mA name=none)(h:Q (.ref f,[.ref x]) s):
  aC (aB prog w) A (getMethod (.ref x) name i) Q E s:=by
 let⟨g,J,c⟩:=I.look;exact PySem.W.method_fn X J (qX a).1 (qX a).2 b (beq_iff_eq.mp d) (by show (tR name g).map (·.isSome)=some false;rw[c,e];rfl) h
theorem ZM9{l:jp}{Q:Unit->al->Prop}(X:K.In s.heap)(I:UN s.heap x dx C mA)(t:yX K (.ref C) "__setattr__" = some (some (.builtin "object.__setattr__")))(q:uK K C=true)(z:rW K C name=some none)(p:uW K C=true)(B:PySem.Within mA l)(u:l.length<=ar)(h:∀ e,UN e x dx C (λy=>if y=name then some v else mA y)->xR dx s.heap e->Q () { s with heap:=e,toks:=s.toks+2 }):
  aC (aB prog w) A (setAttr (.ref x) name v) Q E s:=by
 let⟨L,J,G⟩:=I.look;refine PySem.W.set_plain X J t (PySem.W.osa_open (s:={ s with toks:=s.toks+1 }) (r:=none) X J q z λb=>?_);let⟨F,o,i⟩:=PySem.W.any_some p;let D:s.heap.get? x=some ⟨.ref C,some dx,.plain,#[]⟩:=I.obj;refine aa (ae (aa (aa (wpAny_loadPart D (aa (tU.here (s:={ s with toks:=s.toks+1 }) (PySem.W.looks_clsIn X o) ?_))))));rw[i];refine ae (a:=some dx) (aa (ae (aa ?_)));refine wpAny_nsSet1 (s:={ s with toks:=s.toks+1 }) I.ns λe c d=>?_;let⟨H,n,m,k,j,g⟩:=c.count (PySem.Within.cons name v B);refine aa (wpAny_lookBehind k (by rw[j];exact pastItsLine_dict (zN g (by rw[zO];lia))) ?_)
 exact ae (h _ ⟨(d.2 _ (Ne.symm I.ne)).trans I.obj,c,I.ne⟩ d)
def ZLA{R:Result->al->Prop}{c:je}{b:jH}(X:K.In s.heap)(j:uO K C=true)(i:yX K (.ref C) "__init__" = some (some (.ref f)))(e:xB K (.ref f)=some (.type "function"))(h:codeAny (aB prog w) (A.under (.builtin "type.__call__" ⟨.ref C::c,b⟩)) (.call (.ref f) ⟨.ref (s.heap.objs.size+1)::c,b⟩) (PySem.W.InitBack (s.heap.objs.size+1) R)
   { s with heap:=(s.heap.push wK).push (wA C s.heap.objs.size) }):
  codeAny (aB prog w) A (.call (.ref C) ⟨c,b⟩) R s:=by
 let⟨k,g,d,t,l⟩:=s;exact PySem.W.make_core (PySem.W.makes_of X j) (PySem.W.looks_findIn X i) (λa=>PySem.W.bind_fn X a e) (.inl rfl) h
end
def Ys(f:Str)(v:V):List (Str×V)->List (Str×V)
 | []=>[(f,v)]
 | (g,x)::r=>if g=f then (g,v)::r else (g,x)::Ys f v r
theorem GA(f g:Str)(v:V):∀ c:List (Str×V),(Ys f v c).lookup g=if g=f then some v else c.lookup g
 | []=>by
  show wH g [(f,v)]=_;by_cases h:g=f
  ·let a:(g==f)=true:=beq_iff_eq.mpr h;simp only[wH,a,aP h]
  ·let a:(g==f)=false:=beq_eq_false_iff_ne.mpr h;simp only[wH,a,aO h]
 | (k,x)::r=>by
  let d:=GA f g v r;rw[show Ys f v ((k,x)::r)=(if k=f then (k,v)::r else (k,x)::Ys f v r) from rfl]
  by_cases b:k=f
  ·rw[aP b];by_cases h:g=k
   ·let a:(g==k)=true:=beq_iff_eq.mpr h;simp only[wH,a,aP (h.trans b)]
   ·let a:(g==k)=false:=beq_eq_false_iff_ne.mpr h;simp only[wH,a,aO (λe:g=f=>h (e.trans b.symm))]
  ·rw[aO b];by_cases h:g=k
   ·let a:(g==k)=true:=beq_iff_eq.mpr h;simp only[wH,a,aO (λe:g=f=>b (h.symm.trans e))]
   ·let a:(g==k)=false:=beq_eq_false_iff_ne.mpr h;simp only[wH,a];exact d
theorem HS(f:Str)(v:V):∀ a:List (Str×V),f∈(Ys f v a).map (·.1)/\∀ g,g∈a.map (·.1)->g∈(Ys f v a).map (·.1)
 | []=>⟨by simp[Ys],λg h=>by simp at h⟩
 | (k,x)::r=>by
  let⟨c,d⟩:=HS f v r;rw[show Ys f v ((k,x)::r)=(if k=f then (k,v)::r else (k,x)::Ys f v r) from rfl]
  by_cases b:k=f
  ·rw[aP b];subst b;exact⟨by simp,λg h=>by simpa using h⟩
  ·rw[aO b];refine⟨?_,λg h=>?_⟩
   ·rw[yW];exact zK _ c
   ·rw[yW] at h⊢;rcases zQ.mp h with e | e
    ·exact zQ.mpr (.inl e)
    ·exact zK _ (d g e)
theorem Cp(f:Str)(v:V):∀ a:List (Str×V),(Ys f v a).length<=a.length+1
 | []=>by simp[Ys]
 | (k,x)::r=>by
  let c:=Cp f v r;rw[show Ys f v ((k,x)::r)=(if k=f then (k,v)::r else (k,x)::Ys f v r) from rfl]
  by_cases b:k=f
  ·rw[aP b,zO,zO];lia
  ·rw[aO b,zO,zO];lia
def Y0.some_of{v:V}{o:jd}(r:Y0 (some v) o):∃ u,o=some u/\ZN v u:=by
 cases o with
 | none=>exact(show False from r).elim
 | some u=>exact⟨u,Z,r⟩
def Y0.none_of{o:jd}(r:Y0 none o):o=none:=by
 cases o with
 | none=>rfl
 | some u=>exact(show False from r).elim
def ZKi{v:V}{u:aj}(r:ZN v u):PySem.W.handedIn u=true:=by
 cases v with
 | non=>cases(show u=Value.none from r);rfl
 | bl b=>cases(show u=Value.bool b from r);rfl
 | int i=>let⟨t,e⟩:=(show ∃ t,u=Value.int i t from r);cases e;rfl
 | str x=>let⟨t,e⟩:=(show ∃ t,u=Value.str x t from r);cases e;rfl
 | byt b=>let⟨t,e⟩:=(show ∃ t,u=Value.bytes b t from r);cases e;rfl
 | flt b=>let⟨t,e⟩:=(show ∃ t,u=Value.float b t from r);cases e;rfl
 | ref a=>cases(show u=Value.ref a from r);rfl
 | ty n=>cases(show u=Value.type n from r);rfl
section
variable{P:am}{w:ax}{H H':Hp}{h h':aE}{a C dx:ak}{fs fs':List (Str×V)}
def KI(c:Y5 P w H h)(e:H a=some (.ins C dx fs)):∃ b,UN h a dx C b/\(∀ f,Y0 (fs.lookup f) (b f))/\PySem.Within b (fs.map (·.1))/\fs.length<=1000/\H dx=some (.own a):=by
 let⟨d,z,g,i,b,n,r,q⟩:=(show Zb P w H h a (.ins C dx fs) from c a _ e);exact⟨b,⟨i,n,g⟩,r,q,z,d⟩
end
structure VY(K:zZ)(C:ak):Prop where
 pg:vT K C Str.empty=true
 hd:uW K C=true
 po:uK K C=true
 sa:yX K (.ref C) "__setattr__" = some (some (.builtin "object.__setattr__"))
def VY.get{K:zZ}{C:ak}(c:VY K C)(f:Str):vT K C f=true:=c.pg
def Zw(K:zZ)(C:ak)(f:Str):Prop:=yX K (.ref C) f=some none
def Zw.taker{K:zZ}{C:ak}{f:Str}(n:Zw K C f):rW K C f=some none:=by
 unfold rW;rw[show yX K (.ref C) f=some none from n];rfl
structure UY(K:zZ)(C:ak)(m:Str)(f:ak):Prop where
 at_:yX K (.ref C) m=some (some (.ref f))
 fn:wE K (.ref f)=true
 kp:yG K (.ref f)=true
section
variable{kg:jq}{σ:St}{H:Hp}{s:al}{a C dx:ak}{fs:List (Str×V)}{f:Str}{v:V}{A:ay}{E:ja}
def FN{b:Bool}{Q:ja}(I:ZF X kg σ H s)(e:H a=some (.ins C dx fs))(c:VY X.K C)(n:Zw X.K C f)(l:fs.lookup f=some v)(h:∀ u g,ZF X kg σ H g->ZN v u->Q u g):aC (aB X.prog X.w) A (getAttr (.ref a) f b) Q E s:=by
 let⟨j,O,r,_,_,_⟩:=KI I.hok e;let⟨u,i,d⟩:=Y0.some_of (v:=v) (o:=j f) (by rw[<-l];exact r f)
 exact ZOE I.kIn O (c.get f) c.hd n i (ZKi d) (h u _ (I.tok _) d)
def Lf{m:Str}{g:ak}{i:Sem Bool}{Q:aj×je->al->Prop}(I:ZF X kg σ H s)(e:H a=some (.ins C dx fs))(c:VY X.K C)(k:UY X.K C m g)(l:fs.lookup m=none)(h:Q (.ref g,[.ref a]) s):aC (aB X.prog X.w) A (getMethod (.ref a) m i) Q E s:=by
 let⟨d,O,r,_,_,_⟩:=KI I.hok e;let b:d m=none:=Y0.none_of (by rw[<-l];exact r m)
 exact ZLt I.kIn O (c.get m) k.at_ k.fn b h
theorem Fc{y:V}{u:aj}{Q:Unit->al->Prop}(I:ZF X kg σ H s)(e:H a=some (.ins C dx fs))(c:VY X.K C)(n:Zw X.K C f)(J:fs.length<1000)(F:ZN y u)(h:∀ k,ZF X kg σ (upd H a (.ins C dx (Ys f y fs))) k->Q () k):aC (aB X.prog X.w) A (setAttr (.ref a) f u) Q E s:=by
 let⟨j,O,r,l,_,i⟩:=KI I.hok e;let D:(fs.map (·.1)).length<=sizeLine:=by rw[zX,sizeLine_eq];lia
 refine ZM9 I.kIn O c.sa c.po n.taker c.hd l D λm d G=>h _ ?_;let t:∃ o,m.get? dx=some o:=let ⟨o,_,_,e',_⟩:=d.ns;⟨o,e'⟩;refine I.write (x:=a) (e:=dx) (by rw[e];exact True.intro) (.inr i) (λb q p z=>(G.2 b p).trans z) t ?_
 refine⟨by rw[ZR O.ne];exact i,?_,O.ne,d.obj,_,d.ns,λg=>?_,λg B=>?_⟩
 ·have:=Cp f y fs;lia
 ·show Y0 ((Ys f y fs).lookup g) (if g=f then some u else j g)
  rw[GA];by_cases q:g=f
  ·rw[aP q,aP q];exact F
  ·rw[aO q,aO q];exact r g
 ·by_cases q:g=f
  ·rw[q];exact(HS f y fs).1
  ·refine(HS f y fs).2 g (l g λz=>B ?_);show (if g=f then some u else j g)=none
   rw[aO q];exact z
def ZF.made(I:ZF X kg σ H s):ZF X kg σ (upd (upd H s.heap.objs.size (.own (s.heap.objs.size+1))) (s.heap.objs.size+1) (.ins C s.heap.objs.size []))
  { s with heap:=(s.heap.push wK).push (wA C s.heap.objs.size) }:=by
 let c:(s.heap.push wK).get? s.heap.objs.size=some wK:=yO s.heap Z;let h:((s.heap.push wK).push (wA C s.heap.objs.size)).get? (s.heap.objs.size+1)=some (wA C s.heap.objs.size):=by
  have:=yO (s.heap.push wK) (o:=wA C s.heap.objs.size) Z
  rwa [sN] at this
 let i:(s.heap.push wK).Ns s.heap.objs.size (λ_=>none):=⟨wK,#[],_,c,Z,(λe j=>absurd j (by simp)),λ_=>rfl⟩
 let g:=I.laid (a:=s.heap.objs.size) (o:=.own (s.heap.objs.size+1)) (h':=s.heap.push wK) (t':=s.toks) (λb u q=>zB _ q) (zY _) ⟨_,c⟩;refine g.laid (a:=s.heap.objs.size+1) (o:=.ins C s.heap.objs.size []) (t':=s.toks) (λb u q=>zB _ q) (xO (sN _ _)) ?_;let d:s.heap.objs.size≠s.heap.objs.size+1:=yK (wL _);refine⟨by rw[ZR d,ZV],zD _,d,h,λ_=>none,(Heap.Ns1.of_empty i).at λo q=>zB _ q,λ_=>True.intro,λy k=>absurd Z k⟩
def C9{c:am}{w:ax}{b:Env}{e:Expr}{f:Str}{g:aJ}{s:al}{Q:ja}(i:attributeBase e f b (aH e b)=aH e b)(h:aC (aB c w) A (aH e b) (λo d=>aC (aB c w) A (getAttr o f true) Q E d) E s):aC (aB c w) A (aH (.Attribute e f g) b) Q E s:=
 Attribute_any_ h (by rw[arm_eval_Attribute,i])
end
inductive MX(K:zZ)(f:Str)(Q:VK)(x:V)(b:Hp):Prop
 |mk(a C d c v:_)(_:x=.ref a)(_:b a=some (.ins C d c))(_:VY K C)(_:Zw K C f)(_:c.lookup f=some v)(_:Q v b)
def ZRW(K:zZ)(b:TE)(f:Str):TE:=λc H Q=>b c H λx a=>MX K f Q x a
inductive Ms(K:zZ)(f:Str)(D:YM)(e:L2.St)(y x:V)(c:Hp):Prop
 |mk(a C d b:_)(_:x=.ref a)(_:c a=some (.ins C d b))(_:VY K C)(_:Zw K C f)(_:b.length<1000)(_:D.nx e (upd c a (.ins C d (Ys f y b))))
def ZRK(K:zZ)(d e:TE)(f:Str):TS:=λD a H=>e a H λy b=>d a b λx c=>Ms K f D a y x c
def IS(X:Cx)(c:Operator)(rd:V->V->Hp->VK->Prop):Prop:=
 ∀(a:jq)(s:al)(b:St)(H:Hp)(x y:V)(u v:aj)(Q:VK),ZF X a b H s->ZN x u->ZN y v->rd x y H Q->aC (aB X.prog X.w) X.A (inplaceOp c u v) (EP X a b Q) X.xe s
inductive Q2(K:zZ)(k:TE)(rd:V->V->Hp->VK->Prop)(f:Str)(D:YM)(h:L2.St)(x:V)(d:Hp):Prop
 |mk(a C j g v:_)(_:x=.ref a)(_:d a=some (.ins C j g))(_:VY K C)(_:Zw K C f)(_:g.lookup f=some v)(_:k h d λy i=>rd v y i λz e=>∃ c b,e a=some (.ins C c b)/\b.length<1000/\D.nx h (upd e a (.ins C c (Ys f z b))))
def C2(K:zZ)(c d:TE)(rd:V->V->Hp->VK->Prop)(f:Str):TS:=λD a H=>c a H λx b=>Q2 K d rd f D a x b
section
variable{o e value:Expr}{f:Str}{pos pos' tpos:aJ}{ta tv:TE}
def Xz(p:PE X e ta)(m:attributeBase e f X.env (aH e X.env)=aH e X.env):PE X (.Attribute e f pos) (ZRW X.K ta f):=by
 intro b s w H Q I h;refine C9 m (Z2 (p b s w H _ I h) ?_);rintro u A ⟨x,d,g,t,a,C,y,z,v,k,j,c,n,l,q⟩;subst k;obtain rfl:u=Value.ref a:=t;exact FN g j c n l λD B i r=>⟨v,d,i,r,q⟩
def Ui(r:PE X o ta)(v:PE X value tv)(t:swapsWith value (some (.Attribute o f pos')) pos.line X.env=pure false):PS X (.Assign [.Attribute o f pos'] value pos) (ZRK X.K ta tv f):=by
 intro b s d H D I h;refine plainObj_wpAny_Assign_Attribute (Z7 (v b s d H _ I h) λu E y g i B q=>Z2 (r b E d g _ i q) λw L ⟨x,F,j,A,a,C,G,J,p,m,c,n,l,z⟩=>?_) t;subst p;obtain rfl:w=Value.ref a:=A;exact Fc j m c n l B λM k=>⟨d,_,k,z⟩
def Co{j:Operator}{rd:V->V->Hp->VK->Prop}(J:PE X o ta)(L:PE X value tv)(i:IS X j rd):PS X (.AugAssign (.Attribute o f tpos) j value pos) (C2 X.K ta tv rd f):=by
 intro b s d H D I h;refine wpAny_AugAssign_AttributeAny (Z2 (J b s d H _ I h) ?_);rintro N s1 ⟨x,k,p,R,a,C,dx,fs,v,F,E,c,n,l,q⟩;subst F;obtain rfl:N=Value.ref a:=R;refine FN p E c n l λu U r Q=>Z7 (L b U d k _ r q) λY W y m t S O=>Z2 (i b W d m v y u Y _ t Q S O) ?_;rintro w4 s4 ⟨z,H3,w,T,B,G,g,M,P⟩;exact Fc w g c n M T λs5 A=>⟨d,_,A,P⟩
inductive Km(x y:V)(H:Hp)(Q:VK):Prop
 |mk(i j:_)(_:x=.int i)(_:y=.int j)(_:Q (.int (i+j)) H)
inductive K8(x y:V)(H:Hp)(Q:VK):Prop
 |mk(i j:_)(_:x=.int i)(_:y=.int j)(_:Q (.int (i-j)) H)
def ZPe:IS X .Add Km:=by
 rintro a s g H x y u v Q I c d ⟨i,j,rfl,rfl,q⟩;let⟨t,rfl⟩:=(show ∃ t,u=Value.int i t from c);let⟨b,rfl⟩:=(show ∃ b,v=Value.int j b from d);exact PyProof.Rows.iadd_int ⟨.int (i+j),H,I.tok _,⟨_,Z⟩,q⟩
def ZPZ:IS X .Sub K8:=by
 rintro a s g H x y u v Q I c d ⟨i,j,rfl,rfl,q⟩;let⟨t,rfl⟩:=(show ∃ t,u=Value.int i t from c);let⟨b,rfl⟩:=(show ∃ b,v=Value.int j b from d);exact PyProof.Rows.isub_int ⟨.int (i-j),H,I.tok _,⟨_,Z⟩,q⟩
end
section
variable{kg:jq}{σ:St}{H:Hp}{s:al}{A:ay}{E Q:ja}{c:aj}{b:Bool}
inductive XC(K:zZ)(H:Hp):V->aj->Prop where
 | non:XC K H .non (.type "NoneType")
 | bl (x:Bool):XC K H (.bl x) (.type "bool")
 | int (i:Int):XC K H (.int i) (.type "int")
 | str (x:Str):XC K H (.str x) (.type "str")
 | flt (x:UInt64):XC K H (.flt x) (.type "float")
 | lst {a:ak} {xs:jf} (e:H a=some (.lst xs)):XC K H (.ref a) (.type "list")
 | frz {a:ak} {o:aI} {xs:jf} (e:H a=some (.frz o (.lst xs))):XC K H (.ref a) (.type "list")
 | tup {a:ak} {xs:jf} (e:H a=some (.tup xs)):XC K H (.ref a) (.type "tuple")
 | dK {a:ak} {kvs:List (Zc×V)} (e:H a=some (.dK kvs)):XC K H (.ref a) (.type "dict")
 | dT {a:ak} {kvs:List (jy×V)} (e:H a=some (.dT kvs)):XC K H (.ref a) (.type "dict")
 | ins {a C dx:ak} {fs:List (Str×V)} (e:H a=some (.ins C dx fs)) (cl:VY K C) (ha:yX K (.ref C) "__class__" = some (some (.builtin "object.__class__")))
   (hn:PySem.W.specialIn K (.builtin "object.__class__") "__get__" = some (some (.builtin "getset_descriptor.__get__"))) (htk:PySem.W.takesIn K (.builtin "object.__class__")=some true)
   (hm:yI K C (.type "object")=some true):XC K H (.ref a) (.ref C)
def ZJV{x:V}{u t:aj}(I:ZF X kg σ H s)(f:ZN x u)(N:XC X.K H x t)(e:yS X.K t c=some b)(h:∀ M,Q (.bool b) { s with toks:=M }):
  aC (aB X.prog X.w) A (call (.builtin "isinstance") [u,c]) Q E s:=by
 cases N with
 | non=>cases(show u=Value.none from f);exact xG PySem.W.kitx_none I.kIn True.intro e (λz=>nomatch z) h
 | bl y=>cases(show u=Value.bool y from f);exact xG PySem.W.kitx_bool I.kIn True.intro e (λz=>nomatch z) h
 | int i=>let⟨t,q⟩:=(show ∃ t,u=Value.int i t from f);cases q;exact xG PySem.W.kitx_int I.kIn True.intro e (λz=>nomatch z) h
 | str y=>let⟨t,q⟩:=(show ∃ t,u=Value.str y t from f);cases q;exact xG PySem.W.kitx_str I.kIn True.intro e (λz=>nomatch z) h
 | flt y=>let⟨t,q⟩:=(show ∃ t,u=Value.float y t from f);cases q;exact xG PySem.W.kitx_float I.kIn True.intro e (λz=>nomatch z) h
 | @lst a k d=>
  cases(show u=Value.ref a from f);let⟨_,_,n,_,g⟩:=(show Zb X.prog X.w H s.heap a (.lst k) from I.hok a _ d);exact xG PySem.W.kitx_list I.kIn ⟨_,g,Z⟩ e (λz=>nomatch z) h
 | @frz a L k d=>
  cases(show u=Value.ref a from f);let⟨_,_,_,n,_,g⟩:=(show Zb X.prog X.w H s.heap a (.frz L (.lst k)) from I.hok a _ d);exact xG PySem.W.kitx_list I.kIn ⟨_,g,Z⟩ e (λz=>nomatch z) h
 | @tup a k d=>
  cases(show u=Value.ref a from f);let⟨_,_,_,p⟩:=(show Zb X.prog X.w H s.heap a (.tup k) from I.hok a _ d);let⟨o,g,l,_⟩:=p;exact xG PySem.W.kitx_tuple I.kIn ⟨o,g,l⟩ e (λz=>nomatch z) h
 | @dK a j d=>
  cases(show u=Value.ref a from f);let⟨_,_,U,_,p⟩:=(show Zb X.prog X.w H s.heap a (.dK j) from I.hok a _ d);let⟨o,B,v,g,l,_⟩:=p;exact xG PySem.W.kitx_dict I.kIn ⟨o,g,l.1⟩ e (λz=>nomatch z) h
 | @dT a j d=>
  cases(show u=Value.ref a from f);let⟨_,_,k,_,o,B,v,g,l,_⟩:=(show Zb X.prog X.w H s.heap a (.dT j) from I.hok a _ d);exact xG PySem.W.kitx_dict I.kIn ⟨o,g,l.1⟩ e (λz=>nomatch z) h
 | @ins a C P R d r D G m F=>
  cases(show u=Value.ref a from f);let⟨S,O,_⟩:=KI I.hok d;let⟨T,J,_⟩:=O.look;exact xG (PySem.W.kitx_own (r.get _) r.hd D G m F) I.kIn J e (λz=>nomatch z) h
end
structure ZS(k:Nat)(A:ay):Prop where
 hd:A.handled=none
 dp:A.depth+3 * k+5<recursionLimit
 un:A.units+16 * k+200<cLine
theorem ZS.mono{j k:Nat}{A:ay}(r:ZS k A)(h:j<=k):ZS j A:=⟨r.hd,by have:=r.dp;lia,by have:=r.un;lia⟩
def ZS.to{j:Nat}{A:ay}(r:ZS j A)(k:Nat)(h:k<=j:=by decide):ZS k A:=r.mono h
theorem ZS.deeper{k:Nat}{A:ay}(r:ZS (k+1) A)(a:Env):ZS k (A.deeper a):=
 ⟨r.hd,by have:=r.dp;show A.depth+1+3 * k+5<_;lia,by have:=r.un;show A.units+3+16 * k+200<_;lia⟩
theorem ZS.in1{k:Nat}{A:ay}(r:ZS (k+1) A):ZS k A.in1:=
 ⟨r.hd,by have:=r.dp;show A.depth+3 * k+5<_;lia,by have:=r.un;show A.units+1+16 * k+200<_;lia⟩
def ZIA{A:ay}{C:ak}{b:je}{a:jH}:(A.under (.builtin "type.__call__" ⟨.ref C::b,a⟩)).depth=A.depth+1:=by
 first | rfl | simp[Around.under,Code.weight,Code.isCreation,Code.isGuard,Code.isCaller,Code.frames,Code.isFrame,guardIds]
def ZIC{A:ay}{C:ak}{b:je}{a:jH}:(A.under (.builtin "type.__call__" ⟨.ref C::b,a⟩)).units=A.units+1:=by
 first | rfl | simp[Around.under,Code.cUnits,Code.frames,Code.isFrame]
theorem ZS.make{k:Nat}{A:ay}(r:ZS (k+1) A)(C:ak)(b:je)(a:jH):ZS k (A.under (.builtin "type.__call__" ⟨.ref C::b,a⟩)):=
 ⟨r.hd,by have:=r.dp;rw[ZIA];lia,by have:=r.un;rw[ZIC];lia⟩
theorem ZS.depth{k:Nat}{A:ay}(r:ZS k A):A.depth<recursionLimit:=by have:=r.dp;lia
theorem ZS.units{k:Nat}{A:ay}(r:ZS k A):A.units+64<cLine:=by have:=r.un;lia
theorem ZS.units0{k:Nat}{A:ay}(r:ZS k A):A.units<cLine:=by have:=r.un;lia
def U8:TA:=λ_ H Q=>Q [] H
def XN(d:TE)(e:TA):TA:=λa H Q=>d a H λx b=>e a b λf c=>Q (x::f) c
section
variable{e:Expr}{es:jx}{te:TE}{t:TA}{pos:aJ}
def Zj:PA X [] U8:=λ_ _ _ _ H Q I h=>Calls.spliced_nil ⟨[],H,I,.nil,h⟩
def ZW(i:PE X e te)(j:PA X es t)(k:aw (e::es) X.env=(false,aH e X.env)::aw es X.env:=by rfl):PA X (e::es) (XN te t):=by
 intro pos a s b H Q I h;rw[k];show aC _ _ (spliced ((false,aH e X.env)::aG pos (aw es X.env))) _ _ s;refine Calls.spliced_cons (Z7 (i a s b H _ I h) λu p x c f n l=>?_);exact Z7 (j pos a p b c _ f l) λv r q d g o m=>⟨x::q,d,g,.cons n o,m⟩
def ZRF(t:TA):TE:=λc H Q=>t c H λb a=>b.length<=ar/\∀ p,a p=none->Q (.ref p) (upd a p (.tup b))
def ZRH(t:TA):TE:=λc H Q=>t c H λb a=>b.length<=ar/\∀ p,a p=none->Q (.ref p) (upd a p (.lst b))
def X9{k}(h:PA X es t):PE X (.Tuple es k pos) (ZRF t):=by
 intro a s m H Q I i;refine wpAny_Tuple_spliced (Z2 (h pos a s m H _ I i) λj c ⟨l,d,f,r,z,q⟩=>⟨by rw[<-r.length];exact z,?_⟩)
 let g:d c.heap.objs.size=none:=f.hok.fresh (zY _);refine⟨.ref c.heap.objs.size,upd d c.heap.objs.size (.tup l),f.laid (t':=c.toks) (λb u e=>zB _ e) (zY _) ?_,Z,q _ g⟩;exact⟨z,j,r,⟨_,yO _ Z,Z,_,Z⟩⟩
def Y3(h:PA X es t):PE X (.List es pos) (ZRH t):=by
 intro a s l H Q I i;refine wpAny_List_spliced (Z2 (h pos a s l H _ I i) λj c ⟨k,d,f,r,z,q⟩=>⟨by rw[<-r.length];exact z,?_⟩)
 let g:d c.heap.objs.size=none:=f.hok.fresh (zY _);refine⟨.ref c.heap.objs.size,upd d c.heap.objs.size (.lst k),f.laid (t':=c.toks) (λb u e=>zB _ e) (zY _) ?_,Z,q _ g⟩;exact⟨z,j,0,r,yO _ Z⟩
end
abbrev Sp:=jf->Hp->VK->XK->Prop
abbrev VU:=jw->Hp->al->XK->ja
structure Vj(P:am)(w:ax)(K:zZ)(mg:jc)(kh:aE)(A:ay)(outer:jw)(s:al)(H:Hp):Prop where
 frames:A.frames=some outer
 mod:Mod K mg kh
 bs:∀ b o,kh.get? b=some o->s.heap.get? b=some o/\H b=none
 bsz:kh.objs.size<=s.heap.objs.size
 funs:s.heap.FunFrames kh outer
 frf:∀ b∈frs outer,H b=none
 hok:Y5 P w H s.heap
 bare:AllBare s.gens
def CE(a:jw)(P:am)(w:ax)(H:Hp)(s:al)(Q:VK)(u:aj)(b:al):Prop:=
 ∃ v c,b.os=s.os/\AllBare b.gens/\Un (frs a) [] H c s.heap b.heap/\Y5 P w c b.heap/\ZN v u/\Q v c
def CR(c:VU)(a:jw)(P:am)(w:ax)(H:Hp)(s:al)(Q:VK)(E:XK)(r:Result)(b:al):Prop:=
 match r with
 | .ok (.ret u)=>CE a P w H s Q u b
 | .ok _=>False
 | .error e=>c a H s E e b
structure ZI(P:am)(w:ax)(K:zZ)(mg:jc)(kh:aE)(CX:VU)(k:Nat)(f:ak)(fd:ao)(ps:jp)(sp:Sp):Prop where
 len:∀ vs H Q E,sp vs H Q E->vs.length=ps.length
 run:∀(A:ay)(outer:jw)(s:al)(H:Hp)(args:Args)(us:je)(vs:jf)(Q:VK)(E:XK),ZS k A->Vj P w K mg kh A outer s H->BindsTo s fd args (ps.zip us)->ZP vs us->sp vs H Q E ->
  codeAny (aB P w) A (.call (.ref f) args) (CR CX outer P w H s Q E) s
def ZI.mono{P:am}{w:ax}{K:zZ}{e:jc}{a:aE}{c:VU}{j k:Nat}{f:ak}{d:ao}{g:jp}{i:Sp}(F:ZI P w K e a c j f d g i)(h:j<=k):
  ZI P w K e a c k f d g i:=⟨F.len,λA b s H args m n Q E l=>F.run A b s H args m n Q E (l.mono h)⟩
def ZI.imp{P:am}{w:ax}{K:zZ}{i:jc}{a:aE}{e:VU}{k:Nat}{f:ak}{g:ao}{j:jp}{l d:Sp}(F:ZI P w K i a e k f g j l)(h:∀ c H Q E,d c H Q E->l c H Q E):ZI P w K i a e k f g j d:=
 ⟨λc H Q E q=>F.len c H Q E (h _ _ _ _ q),λA b s H args t c Q E o n m r p=>F.run A b s H args t c Q E o n m r (h _ _ _ _ p)⟩
def Vj.make{P:am}{w:ax}{K:zZ}{c:jc}{b:aE}{A:ay}{a:jw}{s:al}{H:Hp}(e:Vj P w K c b A a s H)(C:ak)(f:je)(d:jH):
  Vj P w K c b (A.under (.builtin "type.__call__" ⟨.ref C::f,d⟩)) a s H:=⟨by first | exact e.frames | (simpa [Around.under,Code.envs,Code.isFrame,pushEnvs] using e.frames),e.mod,e.bs,e.bsz,e.funs,e.frf,e.hok,e.bare⟩
section
variable{kg:jq}{σ:St}{H:Hp}{s s':al}
def ZF.env0(I:ZF X kg σ H s):Vj X.prog X.w X.K X.mg X.base X.A X.stack s H:=
 ⟨I.ok.frames,I.ok.mod,I.bs,zN I.ok.bsz I.sz,I.stack,I.stkFree,I.hok,I.bare⟩
def ZF.after{Q:VK}{u:aj}(I:ZF X kg σ H s)(h:CE X.stack X.prog X.w H s Q u s'):EP X kg σ Q u s':=by
 let⟨v,f,j,a,k,c,r,q⟩:=h;let⟨i,g,d,t,e⟩:=s';obtain rfl:e=s.os:=j;exact⟨v,f,I.call (h':=i) (g':=g) (d':=d) (t':=t) (ch:=[]) k c a (λb z=>absurd z (by simp)),r,q⟩
end
def KZ(c:Sp)(a:jf)(E:XK)(t:TA):TE:=λe H Q=>t e H λd b=>c (d++a) b Q E
inductive Oa(C:ak)(m:Str)(g:Sp)(b:jf)(E:XK)(t:TA)(i:L2.St)(Q:VK)(x:V)(c:Hp):Prop
 |mk(a f d:_)(_:x=.ref a)(_:c a=some (.ins C f d))(_:d.lookup m=none)(_:t i c λh e=>g (x::(h++b)) e Q E)
def LD(C:ak)(m:Str)(d:Sp)(a:jf)(E:XK)(e:TE)(t:TA):TE:=λb H Q=>e b H λx c=>Oa C m d a E t b Q x c
def Nm(C:ak)(e:Sp)(c:jf)(E:XK)(t:TA):TE:=λg H Q=>t g H λf b=>∀ x a,b x=none->b a=none->a≠x ->
 e (.ref x::(f++c)) (upd (upd b a (.own x)) x (.ins C a [])) (λv d=>v=.non/\Q (.ref x) d) E
def Zq(K:zZ)(d:ao)(c:jp)(b:je):Prop:=
 ∀(s:al)(a:je),K.In s.heap->(a++b).length=c.length->BindsTo s d ⟨a,[]⟩ (c.zip (a++b))
def Zq.all{K:zZ}{c:ao}{b:jp}(h:∀ a:je,a.length=b.length->bindArgs c ⟨a,[]⟩=pure (b.zip a)):Zq K c b []:=λs a _ d=>by
 rw[yQ] at d⊢;exact .of_eq (h a d)
def QP(c:VU)(X:Cx)(E:XK):Prop:=∀(a:jq)(d:St)(H:Hp)(s:al)(e:aj)(b:al),ZF X a d H s->c X.stack H s E e b->X.xe e b
section
variable{CX:VU}{k:Nat}{f C:ak}{fd:ao}{ps:jp}{sp:Sp}{jj:jf}{ds:je}{E:XK}{x m:Str}{p pos ji:aJ}{e o:Expr}{es:jx}{ta:TE}{t:TA}
def HB{a:jq}{c:St}{H:Hp}{s:al}{Q:VK}{us:je}{vs:jf}(F:ZI X.prog X.w X.K X.mg X.base CX k f fd ps sp)(n:ZS k X.A)(i:Zq X.K fd ps ds)(j:ZP jj ds)(q:QP CX X E)(I:ZF X a c H s)(r:ZP vs us)(h:sp (vs++jj) H Q E):aC (aB X.prog X.w) X.A (call (.ref f) us) (EP X a c Q) X.xe s:=by
 let d:ZP (vs++jj) (us++ds):=r.append j;let l:(us++ds).length=ps.length:=by rw[<-d.length];exact F.len _ _ _ _ h
 refine wpAny_call (codeAny_mono (F.run X.A X.stack s H ⟨us,[]⟩ (us++ds) (vs++jj) Q E n I.env0 (i s us I.kIn l) d h) λr v b=>?_)
 cases r with
 | error e=>exact q a c H s e v I b
 | ok g=>
  cases g with
  | ret u=>exact I.after b
  | next=>exact False.elim b
  | brk=>exact False.elim b
  | cont=>exact False.elim b
def E3(F:ZI X.prog X.w X.K X.mg X.base CX k f fd ps sp)(y:ZS k X.A)(n:Gl X x)(v:X.mg x=some (.ref f))(u:yG X.K (.ref f)=true)(i:Zq X.K fd ps ds)(j:ZP jj ds)(z:QP CX X E)(g:PA X (e::es) t)(b:(x==("__debug__" : Str))=false:=by decide)(l:aw (e::es) X.env=(false,aH e X.env)::aw es X.env:=by rfl)(c:(aG pos (aw es X.env)).any (·.1)=false:=by rfl):
  PE X (.Call (.Name x p) (e::es) [] pos) (KZ sp jj E t):=by
 intro a s B H Q I h;refine ah (OX I n v ?_ b);refine uJ (h₀:=X.base) I.ok.mod.kin u (Z7 (g pos a s B H _ I h) λJ G L D d r q=>⟨d.kIn,?_⟩) l c;exact HB F y i j z d r q
def AV{v:Sem Bool}(M:PE X o ta)(c:VY X.K C)(n:UY X.K C m f)(F:ZI X.prog X.w X.K X.mg X.base CX k f fd ps sp)(N:ZS k X.A)(J:Zq X.K fd ps ds)(L:ZP jj ds)(P:QP CX X E)(G:PA X (e::es) t)(g:aw (e::es) X.env=(false,aH e X.env)::aw es X.env:=by rfl)(d:(aG pos (aw es X.env)).any (·.1)=false:=by rfl)(O:aH (.Call (.Attribute o m ji) (e::es) [] pos) X.env=(do
   let ov<-aH o X.env
   standAt ji.atName
   let (f,first)<-holding [ov] (getMethod ov m v)
   callWith pos f first (aG pos (aw (e::es) X.env)) (backToKw pos (keywordEach [] X.env))):=by rfl):
  PE X (.Call (.Attribute o m ji) (e::es) [] pos) (LD C m sp jj E ta t):=by
 intro b s y H Q I h;refine sU (pl:=v) (Z2 (M b s y H _ I h) λu T ⟨x,z,i,S,a,dx,fs,D,B,l,q⟩=>?_) O;subst D;obtain rfl:u=Value.ref a:=S;refine Lf i B c n l ?_;refine uJ (first:=[.ref a]) (h₀:=X.base) I.ok.mod.kin n.kp (Z7 (G pos b T y z _ i q) λU s2 V Y j r R=>⟨j.kIn,?_⟩) g d
 exact HB (us:=.ref a::U) (vs:=.ref a::V) F N J L P j (.cons rfl r) R
def ZLM{i:Sem Bool}(y:PE X o ta)(c:VY X.K C)(g:UY X.K C m f)(F:ZI X.prog X.w X.K X.mg X.base CX k f fd ps sp)(z:ZS k X.A)(r:Zq X.K fd ps ds)(v:ZP jj ds)(D:QP CX X E)(B:aH (.Call (.Attribute o m ji) [] [] pos) X.env=(do
   let ov<-aH o X.env
   standAt ji.atName
   let (f,first)<-holding [ov] (getMethod ov m i)
   callWith pos f first (aG pos (aw [] X.env)) (backToKw pos (keywordEach [] X.env))):=by rfl):
  PE X (.Call (.Attribute o m ji) [] [] pos) (LD C m sp jj E ta U8):=by
 intro b s J H Q I h;refine sU (pl:=i) (Z2 (y b s J H _ I h) λu O ⟨x,L,d,G,a,M,N,n,j,l,q⟩=>?_) B;subst n;obtain rfl:u=Value.ref a:=G;refine Lf d j c g l ?_;exact qZ (first:=[.ref a]) d.kIn g.kp (HB (us:=[.ref a]) (vs:=[.ref a]) F z r v D d (.cons rfl .nil) q)
structure Mk(K:zZ)(C f:ak):Prop where
 makes:uO K C=true
 init:yX K (.ref C) "__init__" = some (some (.ref f))
 fn:wE K (.ref f)=true
 kp:yG K (.ref C)=true
def Ea{b:jq}{i:St}{H:Hp}{s:al}{Q:VK}{us:je}{g:jf}(M:Mk X.K C f)(F:ZI X.prog X.w X.K X.mg X.base CX k f fd ps sp)(L:ZS (k+1) X.A)(D:Zq X.K fd ps ds)(G:ZP jj ds)(N:QP CX X E)(I:ZF X b i H s)(r:ZP g us)(h:∀ x d,H x=none->H d=none->d≠x->sp (.ref x::(g++jj)) (upd (upd H d (.own x)) x (.ins C d [])) (λv q=>v=.non/\Q (.ref x) q) E):
  aC (aB X.prog X.w) X.A (call (.ref C) us) (EP X b i Q) X.xe s:=by
 let j:=h (s.heap.objs.size+1) s.heap.objs.size (I.hok.fresh (tZ _)) (I.hok.fresh (zY _)) (yK (wL _));let c:=ZF.made (C:=C) I;let l:ZP (V.ref (s.heap.objs.size+1)::(g++jj)) (Value.ref (s.heap.objs.size+1)::(us++ds)):=.cons Z (r.append G);let J:(Value.ref (s.heap.objs.size+1)::us++ds).length=ps.length:=by
  let e:=l.length;rw[F.len _ _ _ _ j] at e;exact e.symm
 refine wpAny_call (ZLA (f:=f) I.kIn M.makes M.init (beq_iff_eq.mp M.fn) (codeAny_mono (F.run _ X.stack _ _ ⟨Value.ref (s.heap.objs.size+1)::us,[]⟩ (Value.ref (s.heap.objs.size+1)::(us++ds)) _ _ E (L.make C us [])
  (c.env0.make C us []) (D _ (Value.ref (s.heap.objs.size+1)::us) c.kIn J) l j) λr R a=>?_))
 cases r with
 | error e=>exact N b i _ _ e R c a
 | ok B=>
  cases B with
  | ret u=>
   let⟨v,n,y,P,z,O⟩:=c.after a;subst z;exact⟨P,⟨V.ref (s.heap.objs.size+1),n,y,Z,O⟩⟩
  | next=>exact False.elim a
  | brk=>exact False.elim a
  | cont=>exact False.elim a
def Hl(M:Mk X.K C f)(F:ZI X.prog X.w X.K X.mg X.base CX k f fd ps sp)(v:ZS (k+1) X.A)(n:Gl X x)(u:X.mg x=some (.ref C))(i:Zq X.K fd ps ds)(j:ZP jj ds)(y:QP CX X E)(g:PA X (e::es) t)(b:(x==("__debug__" : Str))=false:=by decide)(l:aw (e::es) X.env=(false,aH e X.env)::aw es X.env:=by rfl)(c:(aG pos (aw es X.env)).any (·.1)=false:=by rfl):
  PE X (.Call (.Name x p) (e::es) [] pos) (Nm C sp jj E t):=by
 intro a s z H Q I h;refine ah (OX I n u ?_ b);refine uJ (h₀:=X.base) I.ok.mod.kin M.kp (Z7 (g pos a s z H _ I h) λG D J B d r q=>⟨d.kIn,?_⟩) l c;exact Ea M F v i j y d r q
def ZK5(M:Mk X.K C f)(F:ZI X.prog X.w X.K X.mg X.base CX k f fd ps sp)(j:ZS (k+1) X.A)(g:Gl X x)(i:X.mg x=some (.ref C))(c:Zq X.K fd ps ds)(d:ZP jj ds)(l:QP CX X E)(a:(x==("__debug__" : Str))=false:=by decide):PE X (.Call (.Name x p) [] [] pos) (Nm C sp jj E U8):=by
 intro b s n H Q I h;refine ah (OX I g i ?_ a);exact qZ I.kIn M.kp (Ea (us:=[]) M F j c d l I .nil h)
end
def PK(X:Cx)(b:List Keyword)(t:TA):Prop:=
 ∀(c:aJ)(a:jq)(s:al)(d:St)(H:Hp)(Q:jf->Hp->Prop),ZF X a d H s->t d H Q->aC (aB X.prog X.w) X.A (evalAll ((backToKw c (keywordEach b X.env)).map (·.2))) (AP X a d Q) X.xe s
section
variable{CX:VU}{k:Nat}{f C:ak}{fd:ao}{ps ks:jp}{sp:Sp}{E:XK}{x m:Str}{p pos ji kpos:aJ}{e o:Expr}{es:jx}{kws:List Keyword}{te ta:TE}{t tk:TA}{nm:Option Str}
def ZPo:PK X [] U8:=λ_ _ _ _ H Q I h=>wpAny_evalAll_nil ⟨[],H,I,.nil,h⟩
def ZNf(j:PE X e te)(l:PK X kws t):PK X (⟨nm,e,kpos⟩::kws) (XN te t):=by
 intro pos a s b H Q I h;show aC _ _ (evalAll ((do let v<-aH e X.env;standAt pos;pure v)::(backToKw pos (keywordEach kws X.env)).map (·.2))) _ _ s
 refine wpAny_evalAll_cons (aa (Z7 (j a s b H _ I h) λu y x c g r n=>aa (wpAny_standAt (ae ?_))));exact Z7 (l pos a y b c _ g n) λB A z d i w q=>⟨x::z,d,i,.cons r w,q⟩
variable{g:je->je->je}{gV:jf->jf->jf}
end
structure ZB(N P:jp)(sc:aF):Prop where
 kind:sc.kind=.function
 co:sc.isCoroutine=false
 gen:sc.isGenerator=false
 nd:N.Nodup
 pre:N.take P.length=P
 par:∀ x∈P,sc.names.lookup x=some .local\/sc.names.lookup x=some .cell
 nofree:∀ y∈sc.names,y.2≠.free
def Zr{N P:jp}{a:aF}(b:a.kind=.function:=by rfl)(c:a.isCoroutine=false:=by rfl)(d:a.isGenerator=false:=by rfl)(e:N.Nodup:=by decide +kernel)(f:N.take P.length=P:=by rfl)(g:∀ x∈P,a.names.lookup x=some .local\/a.names.lookup x=some .cell:=by decide +kernel)(h:∀ y∈a.names,y.2≠.free:=by decide +kernel):ZB N P a:=⟨b,c,d,e,f,g,h⟩
theorem Ef{kindOf:Str->Option NameKind}{x:Str}:∀{a:jH}{m:jc},(∀ v,(x,v)∉a)->bindL kindOf a m x=m x
 | [],_,_=>rfl
 | (n,v)::r,m,h=>by
  unfold bindL;rw[Ef λw b=>h w (zK _ b)];split
  ·have:x≠n:=by rintro rfl;exact h v zM
   simp[this]
  ·rfl
theorem E7{kindOf:Str->Option NameKind}{x:Str}:∀{a:jH}{m:jc},(∀ v,(x,v)∉a)->bindC kindOf a m x=m x
 | [],_,_=>rfl
 | (n,v)::r,m,h=>by
  unfold bindC;rw[E7 λw b=>h w (zK _ b)];split
  ·rfl
  ·have:x≠n:=by rintro rfl;exact h v zM
   simp[this]
theorem Eh{kindOf:Str->Option NameKind}{x:Str}{v:aj}:∀{P:jp}{a:je}{i:Nat}{m:jc},P.Nodup->P[i]? = some x->a[i]? = some v->kindOf x=some .local ->
  bindL kindOf (P.zip a) m x=some v
 | [],_,_,_,_,h,_,_=>by simp at h
 | _::_,[],_,_,_,_,h,_=>by simp at h
 | p::P,w::a,0,m,nd,h1,h2,hk=>by
  simp at h1 h2;subst h1;subst h2;show bindL kindOf ((p,w)::P.zip a) m p=_;unfold bindL;rw[Ef λv b=>(xM.mp nd).1 (sL b).1,aP hk];simp
 | p::P,w::a,i+1,m,nd,h1,h2,hk=>by
  show bindL kindOf ((p,w)::P.zip a) m x=_;unfold bindL;exact Eh (i:=i) (xM.mp nd).2 (by simpa using h1) (by simpa using h2) hk
theorem G9{kindOf:Str->Option NameKind}{x:Str}{v:aj}:∀{P:jp}{a:je}{i:Nat}{m:jc},P.Nodup->P[i]? = some x->a[i]? = some v->kindOf x≠some .local ->
  bindC kindOf (P.zip a) m x=some v
 | [],_,_,_,_,h,_,_=>by simp at h
 | _::_,[],_,_,_,_,h,_=>by simp at h
 | p::P,w::a,0,m,nd,h1,h2,hk=>by
  simp at h1 h2;subst h1;subst h2;show bindC kindOf ((p,w)::P.zip a) m p=_;unfold bindC;rw[E7 λv b=>(xM.mp nd).1 (sL b).1,aO hk];simp
 | p::P,w::a,i+1,m,nd,h1,h2,hk=>by
  show bindC kindOf ((p,w)::P.zip a) m x=_;unfold bindC;exact G9 (i:=i) (xM.mp nd).2 (by simpa using h1) (by simpa using h2) hk
def QW(N:jp)(a:jf):St:=a.map some++wD (N.length-a.length) none
def Wu(CX:VU)(P:am)(w:ax)(K:zZ)(mg:jc)(kh:aE)(N:jp)(qual:Str)(scope:aF)(f:ak)(cd:aj)(A:ay)(outer:jw)(s:al)(H:Hp)(E:XK):Cx where
 prog:=P
 w:=w
 K:=K
 mg:=mg
 base:=kh
 A:=A.deeper (envOfC qual scope s.heap.objs.size f cd)
 N:=N
 s₀:=s
 H₀:=H
 env:=envOfC qual scope s.heap.objs.size f cd
 outer:=outer
 stack:=envOfC qual scope s.heap.objs.size f cd::outer
 ex:=[]
 calm:=true
 fn:=λ_=>true
 pn:=[]
 xe:=λe s'=>aC (aB P w) (A.deeper (envOfC qual scope s.heap.objs.size f cd)) (leaving (envOfC qual scope s.heap.objs.size f cd) e) (λ_ s''=>CX outer H s E e s'') (λe' s''=>CX outer H s E e' s'') s'
def E2{a:aF}{n:Nat}{x:Str}(h:a.names.lookup x=some .cell):∃ c,(cellsFrom n a.names []).lookup x=some c:=by
 let q:=qM a.names n [] (.inl h);exact uF.mp q
theorem ZKJ{Q:VU}{P:am}{w:ax}{K:zZ}{M:jc}{m:aE}{N C:jp}{j:Str}{d:aF}{f:ak}{I:aj}{A:ay}{g:jw}{s U:al}{H:Hp}{E:XK}{O:je}{D:jf}(S:ZB N C d)(Y:A.handled=none)(o:Vj P w K M m A g s H)(hl:D.length=C.length)(r:ZP D O)(x:InCallC s s.heap.objs.size (bindL (envOfC j d s.heap.objs.size f I).kindOf (C.zip O) λ_=>none) (cellsFrom (s.heap.objs.size+1) d.names []) (bindC (envOfC j d s.heap.objs.size f I).kindOf (C.zip O) λ_=>none) U):
  ZF (Wu Q P w K M m N j d f I A g s H E) [] (QW N D) H U:=by
 let a0:C.length<=N.length:=by have:=congrArg wO S.pre;rw[yP] at this;lia
 let⟨J,tk,rfl,R⟩:=x.done;let B:∀ b:ak,b∉(Wu Q P w K M m N j d f I A g s H E).ex:=λb z=>absurd (show b∈([]:jz) from z) (by simp)
 refine⟨⟨o.mod,S.kind,Z,Z,zY _,λy z c J l=>?_,λy t=>?_,λy c _ h=>?_,λ_=>Y,Around.frames_deeper o.frames,.inr ⟨Z,Z⟩,λb z=>absurd z (B b),o.bs,o.bsz,λb _ _=>B b,λb z=>absurd z (B b),o.funs,o.frf⟩,
  Z,o.bare,Un.kept R,⟨_,x.toInCall.ns,λi y v J l h3=>?_⟩,λy c h=>⟨_,x.cell y c h⟩,o.hok.fresh (zY _),λy c h=>?_,λp F=>absurd (show p∈([]:jq) from F) (by simp),o.hok.kept R,?_⟩
 ·exact name_of_addr x.apart (PySem.mem_of_lookup J) (PySem.mem_of_lookup l)
 ·let t:d.names.lookup y=some .cell\/d.names.lookup y=some .free:=t;rcases t with t | t
  ·exact E2 t
  ·exact absurd Z (S.nofree _ (PySem.mem_of_lookup t))
 ·exact xU (x.above y c (PySem.mem_of_lookup h))
 ·let L:i<D.length:=by
   unfold QW at l;by_cases L:i<D.length
   ·exact L
   ·rw[xE (by simpa using L)] at l
    rw[List.getElem?_replicate] at l;split at l <;> cases l
  let X:D[i]? = some v:=by
   unfold QW at l;rw[wR (by simpa using L),zH] at l
   cases e:D[i]? with
   | none=>rw[e] at l;cases l
   | some a=>rw[e] at l;cases l;rfl
  let⟨u,T,rv⟩:=r.get X;let F:C[i]? = some y:=by
   rw[<-S.pre,sT ∅];exact J
  let G:C.Nodup:=by rw[<-S.pre];exact S.nd.sublist (uL _ _)
  exists u,rv;rcases S.par y (zJ F) with k | k
  ·exact .inl ⟨k,Eh G F T k⟩
  ·let⟨c,e⟩:=E2 (n:=s.heap.objs.size+1) k;refine .inr ⟨.inl k,c,e,?_⟩;let q:=x.cell y c e;rw[G9 G F T (by show d.names.lookup y≠_;rw[k];decide)] at q
   exact q
 ·exact o.hok.fresh (xU (x.above y c (PySem.mem_of_lookup h)))
 ·unfold QW;show _=N.length;rw[zS,zX,List.length_replicate]
  lia
def JO{R:VU}{P:am}{w:ax}{K:zZ}{T:jc}{h:aE}{k:Nat}{f:ak}{z d:Str}{i:Arguments}{j:jC}{a:aF}{dV kV F pm g ct oc:aj}{an od:ju}{a1:Array (jd)}{N U:jp}{sp:Sp}(lk:K.lookup f=some ⟨oc,od,.func (yB z d i j a dV kV F pm an g ct),a1⟩)(X:wN K g d=true)(S:ZB N U a)(O:∀ l H Q E,sp l H Q E->l.length=U.length)(B:∀ (A:ay) (c:jw) (s:al) (H:Hp) (l:jf) (Q:VK) (E:XK),ZS k (A.deeper (envOfC d a s.heap.objs.size f g))->sp l H Q E ->
   ∃ t,X5 (Wu R P w K T h N d a f g A c s H E) j t/\t { nx:=λ_ p=>Q .non p,rt:=Q } (QW N l) H):
  ZI P w K T h R (k+1) f (yB z d i j a dV kV F pm an g ct) U sp:=by
 exists O;intro A c s H args us l Q E Y G hb r M;let hl:=O _ _ _ _ M;let KX:K.In s.heap:=G.mod.kin.keeps λb o e=>(G.bs b o e).1;let a0:s.heap.NoLimit:=G.mod.nolimit.keeps λb o e=>(G.bs b o e).1;let C:∀ y∈U.zip us,a.names.lookup y.1=some .local\/(a.names.lookup y.1=some .cell/\((cellsFrom (s.heap.objs.size+1) a.names []).lookup y.1).isSome=true):=λ⟨n,v⟩ hy=>by
  rcases S.par n (sL hy).1 with q | q
  ·exact .inl q
  ·exact .inr ⟨q,qM _ _ _ (.inl q)⟩
 refine codeAny_call_function Y.depth (KX _ _ lk) Z S.co S.gen Z (PySem.W.codeRec_of KX X) (hb _ _ _ _ ?_);refine wpAny_newFunctionEnv_cells S.kind C λa2 he s1 x=>?_;subst he;refine⟨a0.keeps x.toInCall.keep,codeAny_func ?_⟩;let⟨t,ht,hq⟩:=B A c s H l Q E (Y.deeper _) M;let I:ZF (Wu R P w K T h N d a f g A c s H E) [] (QW N l) H s1:=ZKJ S Y.hd G hl r x;refine af (ht [] s1 (QW N l) H _ I hq) (λfl s' D=>?_) λe s' D=>D;let L:∀{m:St}{p:Hp}{v:V}{u:aj},ZF (Wu R P w K T h N d a f g A c s H E) [] m p s'->ZN v u->Q v p->CE c P w H s Q u s':=
  fun{m p v u} J rv q=>⟨v,p,J.os,J.bare,J.base,J.hok,rv,q⟩
 cases fl with
 | ret u=>
  let⟨v,m,p,J,rv,q⟩:=D;exact L J rv q
 | next=>
  let⟨m,p,J,q⟩:=D;exact L (v:=V.non) (u:=Value.none) J Z q
 | brk=>
  let⟨_,_,_,q⟩:=D;exact False.elim q
 | cont=>
  let⟨_,_,_,q⟩:=D;exact False.elim q
section
variable{x:Str}{p pos:aJ}{e:Expr}{es:jx}{t:TA}{id T:String}{r:jf->Hp->VK->Prop}
def Ho(r:jf->Hp->VK->Prop)(t:TA):TE:=λc H Q=>t c H λb a=>r b a Q
def Z6(j:Vp X (.builtin id) r)(l:Gl X x)(m:X.mg x=none)(o:az x=some (.builtin id))(i:PA X (e::es) t)(n:x ≠ "__name__" :=by decide)(b:(x==("__debug__" : Str))=false:=by decide)(k:aw (e::es) X.env=(false,aH e X.env)::aw es X.env:=by rfl)(c:(aG pos (aw es X.env)).any (·.1)=false:=by rfl):PE X (.Call (.Name x p) (e::es) [] pos) (Ho r t):=by
 intro a s d H Q I h;refine ah (Oh I l m o ?_ n b);exact PyProof.Rows.callWith_builtin1 (Z7 (i pos a s d H _ I h) λw v y f g u q=>j a v d f y w Q g u q) k c
def UO(j:Vp X (.type T) r)(l:Gl X x)(m:X.mg x=none)(o:az x=some (.type T))(i:PA X (e::es) t)(n:x ≠ "__name__" :=by decide)(b:(x==("__debug__" : Str))=false:=by decide)(k:aw (e::es) X.env=(false,aH e X.env)::aw es X.env:=by rfl)(c:(aG pos (aw es X.env)).any (·.1)=false:=by rfl):PE X (.Call (.Name x p) (e::es) [] pos) (Ho r t):=by
 intro a s d H Q I h;refine ah (Oh I l m o ?_ n b);exact PyProof.Rows.callWith_type1 (Z7 (i pos a s d H _ I h) λw v y f g u q=>j a v d f y w Q g u q) k c
end
end L2
variable{X:L2.Cx}{prog P:am}{w:ax}{A:ay}{E:ja}{s:al}{K:zZ}{mg:jc}{f:ak}{fd:ao}{kh:aE}
namespace HT
open PySem PyProof.Rows
def rcLt_int(A:ay)(s:al)(a:Int)(t:Tok)(c:Int)(u:Tok)(b:am)(w:ax)(E Q:ja)(h:Q (.bool (decide (a<c))) s):
  aC (aB b w) A (richCompare .Lt (.int a t) (.int c u)) Q E s:=
 (PyProof.Rows.lt_int h:aC (aB b w) A (aA .Lt (.int a t) (.int c u)) Q E s)
section
open PySem.SeqAt
open PySem.AutoSeq1 (wpAny_loadPart')
open PySem.MeetsSeq PySem.MeetsSeq2 PySem.MeetsSeq3
end
def sIx(n d:Nat):jA->Nat
 | none=>d
 | some v=>if v<0 then (v+(n:Int)).toNat else min v.toNat n
def sIx_none(n d:Nat):sIx n d none=d:=rfl
def sIx_nat(n d k:Nat):sIx n d (some (k:Int))=min k n:=by
 show (if (k:Int)<0 then ((k:Int)+(n:Int)).toNat else min (k:Int).toNat n)=min k n
 rw[aO ∅,tO]
end HT
namespace L2
open PySem PySem.Spec PyProof.Rows
abbrev TO:=St->Hp->(jA->Hp->Prop)->Prop
def PO(X:Cx)(e:jK)(t:TO):Prop:=
 ∀(a:jq)(s:al)(b:St)(H:Hp)(Q:jA->Hp->Prop),ZF X a b H s->t b H Q ->
  aC (aB X.prog X.w) X.A (evalPart e X.env) (λu d=>∃ o c,ZF X a b c d/\IsPart u o/\Q o c) X.xe s
def AJ:TO:=λ_ H Q=>Q none H
inductive Om(Q:jA->Hp->Prop)(x:V)(a:Hp):Prop
 |mk(i:_)(_:x=.int i)(_:Q (some i) a)
def Bi(t:TE):TO:=λb H Q=>t b H λx a=>Om Q x a
def ZHz{a:jB}:∀{b:je},ZP (a.map V.int) b->IntsAre b a:=by
 induction a with
 | nil=>intro b r;rw[uV] at r;cases r;exact .nil
 | cons n a c=>
  intro b r;rw[yW] at r
  cases r with
  | cons d f=>
   let⟨t,e⟩:=d;subst e;exact .cons n t (c f)
section
variable{e:Expr}{te:TE}{lo hi:jK}{tl th:TO}{pos p2:aJ}
def Pq:PO X none AJ:=by
 intro a s b H Q I h;rw[evalPart_none];exact ae ⟨none,H,I,.none,h⟩
def QN(h:PE X e te):PO X (some e) (Bi te):=by
 intro a s j H Q I d;rw[evalPart_some];refine Z7 (h a s j H _ I d) λu k x b c g f=>?_;let⟨i,rfl,q⟩:=f;let⟨t,rfl⟩:=g;exact⟨some i,b,c,.int i t,q⟩
def Fb(X:Cx)(r:V->jA->jA->Hp->VK->Prop):Prop:=
 ∀(a:jq)(s:al)(f:St)(H:Hp)(x:V)(v c d:aj)(lo hi:jA)(b:ak)(Q:VK),ZF X a f H s->ZN x v->s.heap.IsSliceOf b c d .none->IsPart c lo->IsPart d hi->r x lo hi H Q ->
  ∃ T id,typeLookup (.type T) "__getitem__" = pure (some (.builtin id))/\s.TypeIs v T/\aC (aB X.prog X.w) X.A (getItem v (.ref b)) (EP X a f Q) X.xe s
def B5(r:V->jA->jA->Hp->VK->Prop)(te:TE)(tl th:TO):TE:=λa H Q=>te a H λx b=>tl a b λl c=>th a c λu d=>r x l u d Q
def Qe{r:V->jA->jA->Hp->VK->Prop}(C:Fb X r)(y:PE X e te)(B:PO X lo tl)(E:PO X hi th):PE X (.Subscript e (.Slice lo hi none p2) pos) (B5 r te tl th):=by
 intro a s d H Q I h;refine Subscript_ (Z7 (y a s d H _ I h) λv N x j m M J=>?_);refine wpAny_Slice (Z7 (B a N d j _ m J) λf O l k n F K=>Z7 (E a O d k _ n K) λg c u i o G L=>?_);rw[evalPart_none];refine ae ?_;let p:ZF X a d i { c with heap:=c.heap.push { cls:=.type "slice",data:=.fields #[f,g,.none] } }:=o.kept (t':=c.toks) λb P q=>zB _ q;let⟨T,id,t,D,z⟩:=C a { c with heap:=c.heap.push { cls:=.type "slice",data:=.fields #[f,g,.none] } } d i x v f g l u c.heap.objs.size Q p M (Heap.IsSliceOf.new ..) F G L;show aC (aB X.prog X.w) X.A (subscriptTail e (.Slice lo hi none p2) v (.ref c.heap.objs.size)) (EP X a d Q) X.xe { c with heap:=c.heap.push { cls:=.type "slice",data:=.fields #[f,g,.none] } };exact tail_any (ops:=[.ref c.heap.objs.size,v]) D t z (by with_unfolding_all rfl)
def VH(a:jf)(lo hi:jA):jf:=(a.drop (HT.sIx a.length 0 lo)).take (HT.sIx a.length a.length hi-HT.sIx a.length 0 lo)
def ZGM(a:jf)(lo hi:jA):(VH a lo hi).length<=a.length:=by
 unfold VH;rw[yP,yD];exact zN (sI _ _) (vG _ _)
end
def QR(n:Nat)(i:Int):jr:=if 0<=i then (if i<n then some i.toNat else none) else if -(n:Int)<=i then some (i+n).toNat else none
def Xq{b:Type}(a:List b)(i:Int):Option b:=(QR a.length i).bind λj=>a[j]?
theorem EV{n:Nat}{i:Int}{j:Nat}(h:QR n i=some j):seqIndex? i n=some j/\j<n /\ -(n:Int)<=i/\i<n:=by
 unfold QR at h;by_cases b:0<=i
 ·rw[aP b] at h;by_cases a:i<n
  ·rw[aP a] at h;let e:i.toNat=j:=yU.inj h;exact⟨by rw[seqIndex_of b a,e],∅,∅,a⟩
  ·rw[aO a] at h;cases h
 ·rw[aO b] at h;by_cases a : -(n:Int)<=i
  ·rw[aP a] at h;let e:(i+n).toNat=j:=yU.inj h;exact⟨by rw[seqIndex_neg ∅ a,e],∅,a,∅⟩
  ·rw[aO a] at h;cases h
def JC{b:Type}{a:List b}{i:Int}{v:b}(h:Xq a i=some v):∃ j,seqIndex? i a.length=some j/\a[j]? = some v/\j<a.length /\ -(a.length:Int)<=i/\i<a.length:=by
 unfold Xq at h
 cases e:QR a.length i with
 | none=>rw[e] at h;cases h
 | some j=>
  rw[e] at h;let⟨c,d,f,g⟩:=EV e;exact⟨j,c,h,d,f,g⟩
theorem VD{b:Type}{a:List b}{j:Nat}{v:b}(h:a[j]? = some v):Xq a (j:Int)=some v:=by
 let c:j<a.length:=(zE.mp h).1;let e:QR a.length (j:Int)=some j:=by
  unfold QR;rw[aP ∅,aP ∅];simp
 unfold Xq;rw[e];exact h
theorem Er{b:Type}(a:List b)(v:b):Xq (a++[v]) (-1)=some v:=by
 let c:(a++[v]).length=a.length+1:=by simp
 let e:QR (a++[v]).length (-1)=some a.length:=by
  unfold QR;rw[c,aO (by decide),aP ∅]
  congr 1
  lia
 unfold Xq;rw[e];show (a++[v])[a.length]? = some v;simp
def Io(b:Expr):Prop:=∀ o i,subscripted b false o i=operate [o,i] (getItem o i)
def Qx(X:Cx)(r:R2):Prop:=
 ∀(c a:Expr)(b:jq)(s:al)(d:St)(H:Hp)(x y:V)(v u:aj)(Q:VK),ZF X b d H s->ZN x v->ZN y u->r x y H Q ->
  subscripted a false v u=operate [v,u] (getItem v u)->aC (aB X.prog X.w) X.A (subscriptTail c a v u) (EP X b d Q) X.xe s
def MtR(X:Cx)(id:String)(r:V->jf->Hp->VK->Prop):Prop:=
 ∀(a:jq)(s:al)(d:St)(H:Hp)(x:V)(c:jf)(v:aj)(b:je)(Q:VK),ZF X a d H s->ZN x v->ZP c b->r x c H Q ->
  aC (aB X.prog X.w) X.A (call (.builtin id) (v::b)) (EP X a d Q) X.xe s
section
variable{a b:Expr}{ta tb:TE}{pos:aJ}
def Qx.or{r g:R2}(h:Qx X r)(l:Qx X g):Qx X (λx y H Q=>r x y H Q\/g x y H Q):=by
 intro d c e s k H x y v u Q I i j q f;rcases q with q | q
 ·exact h d c e s k H x y v u Q I i j q f
 ·exact l d c e s k H x y v u Q I i j q f
def UF{r:R2}(i:Qx X r)(f:PE X a ta)(g:PE X b tb)(j:Io b):PE X (.Subscript a b pos) (Nj r ta tb):=by
 intro c s n H Q I h;exact Subscript_ (Jt f g I h λv u m x y d e k l q=>i a b c m n d x y v u Q e k l q (j _ _))
inductive MU(K:zZ)(x y:V)(H:Hp)(Q:VK):Prop
 |mk(p c i v:_)(_:x=.ref p)(_:y=.int i)(_:ZK K H p c)(_:Xq c i=some v)(_:Q v H)
inductive Pc(K:zZ)(x y:V)(H:Hp)(Q:VK):Prop
 |mk(p c i v:_)(_:x=.ref p)(_:y=.int i)(_:Zv K H p c)(_:Xq c i=some v)(_:Q v H)
inductive MY(x y:V)(H:Hp)(Q:VK):Prop
 |mk(z i c:_)(_:x=.str z)(_:y=.int i)(_:z.length<=ar)(_:Xq z.cps.toList i=some c)(_:Q (.str ⟨#[c]⟩) H)
theorem Zu:Qx X (MU X.K):=by
 intro n m c s C H x y v u Q I M N h B;let⟨p,T,i,z,rfl,rfl,L,G,q⟩:=h;cases M;let⟨t,rfl⟩:=N;let⟨g,r,k,S⟩:=I.list L;let⟨j,e,D,P,E,F⟩:=JC G;let⟨w,o,l⟩:=r.get D;let J:=r.length;let R:=Ot;let d:EP X c C Q w s:=⟨z,H,I,l,q⟩;by_cases A:0<=i
 ·let f:i.toNat=j:=by
   rw[seqIndex_of A F] at e;exact yU.inj e
  exact item_listR k.isList A ∅ (by rw[f];simpa using o) d B
 ·let f:(i+(g.toArray.size:Int)).toNat=j:=by
   rw[seqIndex_neg ∅ E] at e
   rw[zL,<-J];exact yU.inj e
  exact subscriptTail_builtinR (x:=w) k.isList.typeIs slot_list_getitem.lookup
   (wpAny_getItem_list_neg (Q:=λr O=>r=w/\EP X c C Q r O) k.isList ∅ (by rw[zL] <;> lia) ∅ (by rw[f];simpa using o) ⟨rfl,d⟩) B
def Qz:Qx X (Pc X.K):=by
 intro g f c s l H x y v u Q I F G h D;let⟨p,R,i,z,rfl,rfl,C,A,q⟩:=h;cases F;let⟨t,rfl⟩:=G;let⟨E,r,k,P⟩:=I.tuple C;let⟨j,n,o,L,M,N⟩:=JC A;let⟨w,m,e⟩:=r.get o;let B:=r.length;let O:=Ot;let d:EP X c l Q w s:=⟨z,H,I,e,q⟩;exact subscriptTail_builtinR (x:=w) k.typeIs slot_tuple_getitem.lookup
  (getItem_tuple (j:=j) (Q:=λr J=>r=w/\EP X c l Q r J) k ∅ ∅ (by rw[zL,<-B];exact n) (by simpa using m) ⟨rfl,d⟩) D
theorem Gf:Qx X MY:=by
 intro e d g s G H x y v u Q I A B h w;let⟨z,i,c,rfl,rfl,E,p,q⟩:=h;let⟨t,rfl⟩:=A;let⟨F,rfl⟩:=B;let⟨j,f,m,C,n,o⟩:=JC p;let r:z.cps.toList.length=z.length:=by simp[Str.length]
 rw[r] at f n o;let D:=Ot;exact tail_any (typeIs_str s z t) slot_str_getitem.lookup (getItem_str (c:=c) (by
  let k:decide (i < -(2 ^ 63:Int))=false:=aK ∅
  let l:decide (i ≥ 2 ^ 63)=false:=aK ∅
  rw[k,l,Bool.or_false]) (by rw[f];simpa using m) ⟨.str ⟨#[c]⟩,H,I.tok _,⟨_,Z⟩,q⟩) w
def Ik(K:zZ):R2:=λx y H Q=>MU K x y H Q\/Pc K x y H Q\/MY x y H Q
def BQ:Qx X (Ik X.K):=Zu.or (Qz.or Gf)
def Wf{X:Cx}{a b:Expr}{ta tb:TE}{pos:aJ}(K:zZ)(c:PE X a ta)(d:PE X b tb)(f:Io b:=by exact λ_ _=>rfl)(e:Qx X (Pc K):=by exact Qz):PE X (.Subscript a b pos) (Nj (Pc K) ta tb):=UF e c d f
def YS{X:Cx}{a b:Expr}{ta tb:TE}{pos:aJ}(K:zZ)(c:PE X a ta)(d:PE X b tb)(f:Io b:=by exact λ_ _=>rfl)(e:Qx X (Ik K):=by exact BQ):PE X (.Subscript a b pos) (Nj (Ik K) ta tb):=UF e c d f
def ZIV(c:je)(n j:Nat)(u:aj):Obj.mapSeq (·.setIfInBounds j u) { cls:=.type "list",data:=.seq c.toArray n }={ cls:=.type "list",data:=.seq (c.set j u).toArray n }:=by
 simp[Obj.mapSeq]
def ZF.lst{d:jq}{g:St}{H:Hp}{s:al}{p:ak}{f:jf}(I:ZF X d g H s)(h:H p=some (.lst f)):
  ∃(c:je)(n:Nat),ZP f c/\s.heap.get? p=some { cls:=.type "list",data:=.seq c.toArray n }/\f.length<=sizeLine:=by
 let⟨z,c,n,r,e⟩:=I.hok p _ h;exact⟨c,n,r,e,z⟩
def ZF.lstUpd{d:jq}{l:St}{H:Hp}{s:al}{p:ak}{w j:jf}{g c:je}{n i:Nat}{f:aI->aI}(I:ZF X d l H s)(h:H p=some (.lst w))(o:s.heap.get? p=some { cls:=.type "list",data:=.seq g.toArray n })(k:f { cls:=.type "list",data:=.seq g.toArray n }={ cls:=.type "list",data:=.seq c.toArray i })(r:ZP j c)(v:j.length<=ar)(t:Nat):
  ZF X d l (upd H p (.lst j)) { s with heap:=s.heap.update p f,toks:=t }:=by
 let e:(s.heap.update p f).get? p=some { cls:=.type "list",data:=.seq c.toArray i }:=by
  rw[vB f o (by rw[k] <;> rfl),k]
 refine I.write (x:=p) (e:=p) (by rw[h];trivial) (.inl rfl) (λb u m q=>(vA _ _ (Ne.symm m)).trans q) ⟨_,e⟩ ?_
 exact⟨v,c,i,r,e⟩
inductive N6(o i v:V)(H:Hp)(Q:Hp->Prop):Prop
 |mk(p c k j:_)(_:o=.ref p)(_:i=.int k)(_:H p=some (.lst c))(_:QR c.length k=some j)(_:Q (upd H p (.lst (c.set j v))))
def Jc:En X N6:=by
 intro d s G H o i v M L u Q I D C E h;let⟨p,F,k,j,rfl,rfl,z,A,q⟩:=h;cases D;let⟨t,rfl⟩:=C;let⟨c,n,r,l,B⟩:=I.lst z;let⟨e,J,x,y⟩:=EV A;let g:=r.length;let K:=Ot;let m:ZF X d G (upd H p (.lst (F.set j v))) { s with heap:=s.heap.update p (Obj.mapSeq (·.setIfInBounds j u)) }:=
  I.lstUpd z l (ZIV c n j u) (r.set E j) (by rw[wM];exact B) s.toks
 by_cases w:0<=k
 ·let f:k.toNat=j:=by
   rw[seqIndex_of w y] at e;exact yU.inj e
  exact PySem.W.ki_setAt l w ∅ (by rw[zL,<-g];exact y) (by rw[f];exact⟨_,m,q⟩)
 ·let f:(k+(c.toArray.size:Int)).toNat=j:=by
   rw[seqIndex_neg ∅ x] at e
   rw[zL,<-g];exact yU.inj e
  exact PySem.W.ki_setBack l ∅ (by rw[zL,<-g];exact x) ∅ (by rw[f];exact⟨_,m,q⟩)
theorem ZFS(d c:jA)(n:Nat):(sliceBounds d c none n).1=((HT.sIx n 0 d:Nat):Int)/\(sliceBounds d c none n).2.1=((HT.sIx n n c:Nat):Int)/\(sliceBounds d c none n).2.2=1:=by
 refine⟨?_,?_,Z⟩
 ·cases d with
  | none=>simp[sliceBounds,HT.sIx]
  | some i=>
   simp only[sliceBounds,HT.sIx,Option.getD_none,show (1:Int) > 0 by decide,if_true]
   by_cases h:i<0
   ·simp only[h,if_true] <;> lia
   ·simp only[h,if_false] <;> lia
 ·cases c with
  | none=>simp[sliceBounds,HT.sIx]
  | some i=>
   simp only[sliceBounds,HT.sIx,Option.getD_none,show (1:Int) > 0 by decide,if_true]
   by_cases h:i<0
   ·simp only[h,if_true] <;> lia
   ·simp only[h,if_false] <;> lia
def ZEZ(c:je)(d e:jA):slicePick c.toArray d e none=((c.drop (HT.sIx c.length 0 d)).take (HT.sIx c.length c.length e-HT.sIx c.length 0 d)).toArray:=by
 let⟨f,g,h⟩:=ZFS d e c.toArray.size;unfold slicePick;rw[f,g,h];simp only[sliceRange_one,pick_run,zL] <;> rfl
inductive HA(K:zZ)(x:V)(e d:jA)(H:Hp)(Q:VK):Prop
 |mk(a c:_)(_:x=.ref a)(_:ZK K H a c)(_:∀ p,H p=none->Q (.ref p) (upd H p (.lst (VH c e d))))
theorem Qo:Fb X (HA X.K):=by
 intro i s A H x v y z e f w Q I t j n p h;let⟨a,c,rfl,k,q⟩:=h;cases t;let⟨m,r,g,l⟩:=I.list k;let d:=r.length;exists "list",_,slot_list_getitem.lookup,g.isList.typeIs;refine wpAny_getItem_list_slice g.isList j n p .none (by simp) ?_ (by rw[zL] <;> lia)
 rw[ZEZ,<-d];refine⟨.ref s.heap.objs.size,_,I.laid (t':=s.toks) (o:=.lst (VH c e f)) (λb u q=>zB _ q) (zY _) ?_,Z,q _ (I.hok.fresh (zY _))⟩;exact⟨zN (ZGM c e f) l,_,0,(r.drop (HT.sIx c.length 0 e)).take (HT.sIx c.length c.length f-HT.sIx c.length 0 e),yO _ Z⟩
def Pd:V->Bool
 | .non=>true
 | .bl _=>true
 | .int _=>true
 | .str _=>true
 | _=>false
def Qg:V->V->Bool
 | .non,.non=>true
 | .bl a,.bl b=>a==b
 | .bl a,.int b=>(if a then 1 else 0)==b
 | .int a,.bl b=>a==(if b then 1 else 0)
 | .int a,.int b=>a==b
 | .str a,.str b=>a==b
 | _,_=>false
def AN{A:ay}{s:al}{y x:V}{u v:aj}(f:ZN y u)(c:ZN x v)(g:Pd y=true)(e:Pd x=true):SeqAt.EqAt A s u v (Qg y x):=by
 cases y with
 | non=>
  cases f
  cases x with
  | non=>cases c;exact SeqAt.EqAt.same _
  | bl b=>cases c;exact SeqAt.EqAt.none_bool b
  | int b=>let⟨t,rfl⟩:=c;exact SeqAt.EqAt.none_int b t
  | str b=>let⟨t,rfl⟩:=c;exact SeqAt.EqAt.none_str b t
  | _=>exact absurd (show false=true from e) zW
 | bl a=>
  cases f
  cases x with
  | non=>cases c;exact SeqAt.EqAt.bool_none a
  | bl b=>cases c;exact SeqAt.EqAt.bool_bool a b
  | int b=>let⟨t,rfl⟩:=c;exact SeqAt.EqAt.bool_int a b t
  | str b=>let⟨t,rfl⟩:=c;exact SeqAt.EqAt.bool_str a b t
  | _=>exact absurd (show false=true from e) zW
 | int a=>
  let⟨d,rfl⟩:=f
  cases x with
  | non=>cases c;exact SeqAt.EqAt.int_none a d
  | bl b=>cases c;exact SeqAt.EqAt.int_bool a d b
  | int b=>let⟨t,rfl⟩:=c;exact SeqAt.EqAt.int_int a d b t
  | str b=>let⟨t,rfl⟩:=c;exact SeqAt.EqAt.int_str a d b t
  | _=>exact absurd (show false=true from e) zW
 | str a=>
  let⟨d,rfl⟩:=f
  cases x with
  | non=>cases c;exact SeqAt.EqAt.str_none a d
  | bl b=>cases c;exact SeqAt.EqAt.str_bool a d b
  | int b=>let⟨t,rfl⟩:=c;exact SeqAt.EqAt.str_int a d b t
  | str b=>let⟨t,rfl⟩:=c;exact SeqAt.EqAt.str_str a d b t
  | _=>exact absurd (show false=true from e) zW
 | _=>exact absurd (show false=true from g) zW
def Pf(x:V)(u:aj):Bool:=match u with
 | .none=>Qg .non x
 | .bool b=>Qg (.bl b) x
 | .int i _=>Qg (.int i) x
 | .str z _=>Qg (.str z) x
 | _=>false
def Fv{x y:V}{u:aj}(r:ZN y u)(f:Pd y=true):Pf x u=Qg y x:=by
 cases y with
 | non=>cases r;rfl
 | bl b=>cases r;rfl
 | int i=>let⟨t,rfl⟩:=r;rfl
 | str z=>let⟨t,rfl⟩:=r;rfl
 | _=>exact absurd (show false=true from f) zW
theorem Ic{x:V}:∀{c:jf}{d:je},ZP c d->c.all Pd=true->d.any (Pf x)=c.any λy=>Qg y x
 | _,_,.nil,_=>rfl
 | y::c,u::d,.cons r t,f=>by
  rw[uS,zP] at f;rw[vW,vW,Fv r f.1,Ic t f.2]
theorem Kq{A:ay}{s:al}{x:V}{v:aj}(h:ZN x v)(g:Pd x=true):∀{e:jf}{d:je},ZP e d->e.all Pd=true->∀ u∈d,SeqAt.EqAt A s u v (Pf x u)
 | _,_,.nil,_=>λu c=>by cases c
 | y::e,u::d,.cons r t,f=>λi c=>by
  rw[uS,zP] at f;rcases zQ.mp c with rfl | c
  ·rw[Fv r f.1];exact AN r h f.1 g
  ·exact Kq h g t f.2 i c
def NO(x:V)(c:jf):Bool:=c.any λy=>Qg y x
inductive JT(K:zZ)(d:Bool)(x y:V)(H:Hp)(Q:VK):Prop
 |mk(p c:_)(_:y=.ref p)(_:ZK K H p c\/Zv K H p c)(_:Pd x=true)(_:c.all Pd=true)(_:Q (.bl (if d then !NO x c else NO x c)) H)
def Es:Yy X (aA .NotIn) (JT X.K true):=by
 intro j s o H x y v u Q I k m h;let⟨p,n,rfl,d,i,e,q⟩:=h;cases m;rcases d with d | d
 ·let⟨c,r,g,l⟩:=I.list d;refine SeqAt.notIn_listAt (Pf x) g.isList (λw f=>Kq k i r e w (by simpa using f)) ⟨.bl _,H,I,Z,?_⟩
  rw[show c.toArray.any (Pf x)=c.any (Pf x) by simp,Ic r e]
  exact q
 ·let⟨c,r,g,l⟩:=I.tuple d;refine SeqAt.notIn_tupleAt (Pf x) g (λw f=>Kq k i r e w (by simpa using f)) ⟨.bl _,H,I,Z,?_⟩
  rw[show c.toArray.any (Pf x)=c.any (Pf x) by simp,Ic r e]
  exact q
inductive Wo(d:zZ)(e:jf)(H:Hp)(Q:VK):Prop
 |mk(p c:_)(_:e=[.ref p])(_:ZK d H p c\/Zv d H p c)(_:Q (.int c.length) H)
theorem WK:Vp X (.builtin "len") (Wo X.K):=by
 intro i s t H o n Q I r h;let⟨p,j,rfl,d,q⟩:=h;let⟨u,rfl,l⟩:=QF r;cases l;let m:=Ot;rcases d with d | d
 ·let⟨e,g,f,k⟩:=I.list d;let c:=g.length;exact Calls.call_len_list f.isList (by simp only[zL] <;> lia) ⟨.int j.length,H,I.tok _,⟨s.toks+1,by rw[zL,c]⟩,q⟩
 ·let⟨e,g,f,k⟩:=I.tuple d;let c:=g.length;exact len_tuple f (by simp only[zL] <;> lia) ⟨.int j.length,H,I.tok _,⟨s.toks+1,by rw[zL,c]⟩,q⟩
inductive Wv(c:jf)(H:Hp)(Q:VK):Prop
 |mk(z:_)(_:c=[.str z])(_:z.length<=ar)(_:Q (.int z.length) H)
theorem ZFb:Vp X (.builtin "len") (Wv):=by
 intro c s i H g f Q I r h;let⟨z,rfl,e,q⟩:=h;let⟨u,rfl,t,rfl⟩:=QF r;let d:=Ot;exact len_str ∅ ⟨.int z.length,H,I.tok _,⟨_,Z⟩,q⟩
inductive Wn(d:zZ)(e:jf)(H:Hp)(Q:VK):Prop
 |mk(p c:_)(_:e=[.ref p])(_:ZK d H p c\/Zv d H p c)(_:∀ l,H l=none->Q (.ref l) (upd H l (.lst c)))
def NA:Vp X (.type "list") (Wn X.K):=by
 intro t s D H F E Q I r h;let⟨p,A,rfl,k,q⟩:=h;let⟨u,rfl,C⟩:=QF r;cases C;let i:∀(c:je),ZP A c->A.length<=ar->∀(d:aE)(f:Nat),(∀ b B,s.heap.get? b=some B->d.get? b=some B) ->
   d.get? s.heap.objs.size=some { cls:=.type "list",dict:=none,data:=.seq c.toArray f,slots:=#[] }->EP X t D Q (.ref s.heap.objs.size) { s with heap:=d }:=λc g l d f m e=>
  ⟨.ref s.heap.objs.size,_,I.laid (t':=s.toks) m (zY _) (show Zb X.prog X.w _ d _ (.lst A) from ⟨l,c,f,g,e⟩),rfl,q _ (I.hok.fresh (zY _))⟩
 rcases k with k | k
 ·let⟨c,g,z,l⟩:=I.list k;let j:=g.length;let⟨o,y,v,n,x⟩:=z.isList;exact call_list_seq p (.inl rfl) y v x (λd f m e=>i c g l d f m e) (by simp only[zL] <;> lia)
 ·let⟨c,g,z,l⟩:=I.tuple k;let j:=g.length;let⟨o,y,v,n,x⟩:=z;exact call_list_seq p (.inr rfl) y v x (λd f m e=>i c g l d f m e) (by simp only[zL] <;> lia)
inductive WV(d:zZ)(e:jf)(H:Hp)(Q:VK):Prop
 |mk(p c:_)(_:e=[.ref p])(_:(ZK d H p c/\∀ l,H l=none->Q (.ref l) (upd H l (.tup c)))\/(Zv d H p c/\Q (.ref p) H))
def MN:Vp X (.type "tuple") (WV X.K):=by
 intro c s t H A z Q I r h;let⟨p,n,rfl,h⟩:=h;let⟨u,rfl,y⟩:=QF r;cases y;rcases h with ⟨g,q⟩ | ⟨g,q⟩
 ·let⟨d,j,i,m⟩:=I.list g;let l:=j.length;refine call_tuple_list i.isList (λf x=>?_) (by simp only[zL] <;> lia)
  let k:ZF X c t H { s with heap:=f }:=I.kept (t':=s.toks) x;let v:ZF X c t (upd H f.objs.size (.tup n)) { s with heap:=f.push { cls:=.type "tuple",data:=.seq d.toArray } }:=
   k.laid (t':=s.toks) (λb o e=>zB _ e) (zY _) (show Zb X.prog X.w _ _ _ (.tup n) from ⟨m,d,j,IsTup.new _ _⟩)
  exact⟨.ref f.objs.size,_,v,Z,q _ (k.hok.fresh (zY _))⟩
 ·let⟨d,j,i,m⟩:=I.tuple g;exact call_tuple_same i ⟨.ref p,H,I,Z,q⟩
def FT(K:zZ)(T:String)(x:V)(H:Hp):Prop:=match x with
 | .str _=>T = "str"
 | .int _=>T = "int"
 | .ref p=>(T = "list" /\ ∃ d,ZK K H p d)\/(T = "tuple" /\ ∃ o,K.lookup p=some o/\o.cls=.type "tuple" /\ o.dict=none) \/
   (T = "dict" /\ ((∃ c,H p=some (.dK c))\/∃ c,H p=some (.dT c)))\/(T = "set" /\ ∃ S n,H p=some (.set S n))
 | _=>False
def C0{g:jq}{A:St}{H:Hp}{s:al}{T:String}{x:V}{v:aj}(I:ZF X g A H s)(r:ZN x v)(h:FT X.K T x H):
  s.TypeIs v T/\∀ a,v=.ref a->∃ m,s.heap.get? a=some m/\m.dict=none:=by
 cases x with
 | str z=>
  let⟨t,rfl⟩:=r;cases(show T = "str" from h);exact⟨typeIs_str s z t,λ_ e=>nomatch e⟩
 | int i=>
  let⟨t,rfl⟩:=r;cases(show T = "int" from h);exact⟨typeIs_int s i t,λ_ e=>nomatch e⟩
 | ref p=>
  cases r;rcases h with ⟨rfl,B,w⟩ | ⟨rfl,o,d,u,k⟩ | ⟨rfl,d⟩ | ⟨rfl,S,n,d⟩
  ·let⟨y,_,q,_⟩:=I.list w;exists q.isList.typeIs;intro a e;cases e;let⟨o,n,e,c,k,_⟩:=q;exact⟨o,e,k⟩
  ·exists ⟨o,I.kIn p o d,u⟩;intro a e;cases e;exact⟨o,I.kIn _ o d,k⟩
  ·let z:∃ o,s.heap.get? p=some o/\o.ExactDict:=by
    rcases d with ⟨l,d⟩ | ⟨l,d⟩
    ·let⟨_,_,_,_,o,_,_,e,f,_⟩:=I.hok p _ d;exact⟨o,e,f⟩
    ·let⟨_,_,_,_,o,_,_,e,f,_⟩:=I.hok p _ d;exact⟨o,e,f⟩
   let⟨o,e,f⟩:=z;exists ⟨o,e,f.1⟩;intro a j;cases j;exact⟨o,e,f.2.1⟩
  ·let⟨o,_,_,_,e,f,_⟩:=I.hok p _ d;exists ⟨o,e,f.1⟩;intro a j;cases j;exact⟨o,e,f.2.1⟩
 | _=>exact False.elim h
def tBM(K:zZ)(T:String)(r:V->jf->Hp->VK->Prop)(f:TE)(t:TA):TE:=λd H Q=>f d H λx c=>FT K T x c/\t d c λg e=>r x g e Q
variable{o e:Expr}{es:jx}{to:TE}{t:TA}{name:Str}{ji jh:aJ}{T id:String}{r:V->jf->Hp->VK->Prop}
def Ug(E:PlainAttrs T)(j:Slot T name id)(k:typeOf (.builtin id)=pure (.type "method_descriptor"))(B:MtR X id r)(C:PE X o to)(A:PA X (e::es) t)(f:attributeBase o name X.env (aH o X.env)=aH o X.env:=by rfl)(i:((aG jh (aw (e::es) X.env)).all (λx=>!x.1)&&(backToKw jh (keywordEach [] X.env)).all (λx=>x.1.isSome)
   && decide ((e::es).length+([]:List Keyword).length+(if ([]:List Keyword).isEmpty then 0 else 1)<30))=true:=by rfl)(g:(ji.endLine==jh.line)=true:=by rfl)(D:aw (e::es) X.env=(false,aH e X.env)::aw es X.env:=by rfl)(d:(aG jh (aw es X.env)).any (·.1)=false:=by rfl):
  PE X (.Call (.Attribute o name ji) (e::es) [] jh) (tBM X.K T r to t):=by
 intro c s l H Q I h;refine wpAny_Call_method_late f i g Z (Z2 (C c s l H _ I h) ?_);rintro v L ⟨x,q,m,p,N,F⟩;let⟨y,z⟩:=C0 m p N;exists T,id,E,j,k,y,z;let n:=A jh c L l q _ m F;rw[D] at n⊢;refine Calls.callWith_builtin (by show (false || (aG jh (aw es X.env)).any (·.1))=false;rw[d] <;> rfl) (Calls.evalArgs_plain ?_)
 exact Z7 n λO M P u w J G=>B c M l u x P v O Q w p J G
end
def Lj(X:Cx)(id:String)(r:V->jf->Hp->VK->Prop):Prop:=
 ∀(a:jq)(s:al)(d:St)(H:Hp)(x:V)(c:jf)(v:aj)(b:je)(Q:VK),ZF X a d H s->ZN x v->ZP c b->r x c H Q ->
  aC (aB X.prog X.w) X.A (call (.builtin id) (v::b)) (EP X a d Q) X.xe s
def ZP.one:∀{x:V}{a:je},ZP [x] a->∃ u,a=[u]/\ZN x u:=λh=>by cases h with | cons r n=>cases n;exact⟨_,Z,r⟩
def ZP.two:∀{x y:V}{a:je},ZP [x,y] a->∃ u v,a=[u,v]/\ZN x u/\ZN y v
 | _,_,_,.cons r (.cons q .nil)=>⟨_,_,Z,r,q⟩
section
variable{kg:jq}{σ:St}{H:Hp}{l b:ak}{xs ys zs:jf}
def ZF.lset{a its':je}{n:Nat}{f:js->js}{k:Nat}(I:ZF X kg σ H s)(c:H l=some (.lst xs))(e:s.heap.get? l=some { cls:=.type "list",data:=.seq a.toArray n })(g:f a.toArray=its'.toArray)(i:ZP ys its')(j:ys.length<=ar):
  ZF X kg σ (upd H l (.lst ys)) { s with heap:=s.heap.update l (Obj.mapSeq f),toks:=k }:=by
 let q:=PySem.IsL.update e f;rw[g] at q;refine I.write (x:=l) (e:=l) (by rw[c];exact trivial) (.inl rfl) (λm u d h=>(vA s.heap (Obj.mapSeq f) (Ne.symm d)).trans h) ⟨_,q⟩ ?_
 exact⟨j,its',_,i,q⟩
def ZF.lnew{a:je}{t':Nat}(I:ZF X kg σ H s)(c:ZP ys a)(d:ys.length<=ar):
  ZF X kg σ (upd H s.heap.objs.size (.lst ys)) { s with heap:=s.heap.push { cls:=.type "list",data:=.seq a.toArray },toks:=t' }:=
 I.laid (λ_ _ q=>zB _ q) (zY _) ⟨d,a,0,c,yO _ rfl⟩
def ZF.fresh(I:ZF X kg σ H s):H s.heap.objs.size=none:=I.hok.fresh (zY _)
def ZF.lstM(I:ZF X kg σ H s)(c:H l=some (.lst xs)):xs.length<=ar/\∃(a:je)(n:Nat),ZP xs a/\xs.length=a.length/\s.heap.get? l=some { cls:=.type "list",data:=.seq a.toArray n }:=by
 let⟨z,a,n,r,e⟩:=I.hok l _ c;exact⟨z,a,n,r,r.length,e⟩
theorem ZLS{n:Nat}(h:n<=ar):Builtin.List.listTooLong n=false:=by
 unfold Builtin.List.listTooLong;exact aK ∅
end
inductive PN(x:V)(b:jf)(H:Hp)(Q:VK):Prop
 |mk(l a y:_)(_:x=.ref l)(_:b=[y])(_:H l=some (.lst a))(_:a.length<ar)(_:Q .non (upd H l (.lst (a++[y]))))
theorem Q0:Lj X "list.append" PN:=by
 intro c s p H x m v k Q I g f h;let⟨l,o,y,rfl,rfl,b,j,q⟩:=h;cases g;let⟨u,rfl,d⟩:=f.one;let⟨z,a,n,r,i,e⟩:=I.lstM b;refine call_meets F.slot_list_append ⟨_,e,Z⟩ F.entry_list_append (F.args_list_append_2 _ _) (PySem.list_append l a.toArray n u (by rw[zL];lia)) ⟨e,?_⟩
 refine⟨.non,_,I.lset (its':=a++[u]) b e (by simp) (r.append (.cons d .nil)) ?_,Z,q⟩
 rw[zS,wY]
 lia
inductive Pt(x:V)(d:jf)(H:Hp)(Q:VK):Prop
 |mk(l b a c:_)(_:x=.ref l)(_:d=[.ref b])(_:H l=some (.lst a))(_:H b=some (.lst c))(_:a.length+c.length<=ar)(_:Q .non (upd H l (.lst (a++c))))
theorem Hz:Lj X "list.extend" Pt:=by
 intro i s K H x D v C Q I y w h;let⟨l,b,E,J,rfl,rfl,g,k,B,q⟩:=h;cases y;let⟨u,rfl,t⟩:=w.one;cases t;let⟨z,c,n,r,A,e⟩:=I.lstM g;let⟨G,a,o,p,m,j⟩:=I.lstM k;let f:c.toArray.size+a.toArray.size<=sizeLine:=by rw[zL,zL];lia
 let d:¬ (!c.toArray.isEmpty&&Builtin.List.listTooLong (c.toArray.size+a.toArray.size))=true:=by
  rw[ZLS f,tW];exact zW
 refine call_meets F.slot_list_extend ⟨_,e,Z⟩ F.entry_list_extend (F.args_list_extend_2 _ _)
  (AutoSeq1.list_extend_list_list_0 l c.toArray n b a.toArray o d (by rw[zL];lia) ∅) ⟨e,j,?_⟩
 refine⟨.non,_,I.lset (its':=c++a) g e (by simp) (r.append p) ?_,Z,q⟩
 rw[zS]
 lia
inductive Ig(x y:V)(H:Hp)(Q:VK):Prop
 |mk(l b a c:_)(_:x=.ref l)(_:y=.ref b)(_:H l=some (.lst a))(_:H b=some (.lst c))(_:a.length+c.length<=ar)(_:∀ p,H p=none->Q (.ref p) (upd H p (.lst (a++c))))
def MK:Yy X (binaryOp .Add) Ig:=by
 intro d s E H x y v u Q I o p h;let⟨l,b,B,D,rfl,rfl,j,i,w,q⟩:=h;cases o;cases p;let⟨z,c,n,r,t,e⟩:=I.lstM j;let⟨C,a,A,m,k,f⟩:=I.lstM i;refine PySem.P.add_list e f ?_ (by rw[zL,zL];lia)
 let g:c.toArray++a.toArray=(c++a).toArray:=by simp
 rw[g];exact⟨.ref _,_,I.lnew (t':=s.toks) (r.append m) (by rw[zS];lia),Z,q _ I.fresh⟩
end L2
namespace Att
open PySem PySem.W PySem.Calls PyProof.Rows
def ZDK{P:Params}{h:aE}:∀(c:jB)(d:je),WellAll P h d (c.map WData.int)->IntsAre d c:=by
 intro c
 induction c with
 | nil=>
  intro d w;rw[uV] at w;cases w;exact .nil
 | cons n c e=>
  intro d w;rw[yW] at w
  cases w with
  | cons a b=>
   cases a;exact .cons _ _ (e _ b)
def Am{l:OpenLaw}{n:Nat}(v:l.most=some n){P:Params}{h:aE}{args:List WData}{e:je}(c:l.row.toRowW.claim.pre args=true)(m:WellAll P h e args):
  ∃ a p b,e=[Value.ref a]/\args=[WData.list (b.map WData.int)]/\h.get? a=some { cls:=.type "list",data:=.seq p.toArray }/\IntsAre p b/\b.length<=n:=by
 let k:WShape.hasAll [] args [.list .int]=true:=(pre_splitW c).1;let o:l.pre.holds [] { args:=args }=true:=(pre_splitW c).2;let⟨d,r,rfl,s,t⟩:=hasAllW_cons k;obtain rfl:=hasAllW_nil t;let⟨A,rfl,u⟩:=hasW_list s;let⟨b,rfl⟩:=items_int u;let g:b.length<=n:=by
  unfold OpenLaw.pre at o;let i:(WTm.not (.lt (.lit (.int (n:Int))) (.len (.arg 0)))).holds [] { args:=[.list (b.map .int)] }=true:=by
   let i:=(holds_andW o).1;rw[v] at i;exact i
  let j:=condW_of i (w_not (w_lt w_lit (w_len_list (w_arg rfl))));rw[zX] at j;refine wU λq=>?_;let x:(n:Int)<((b.length:Nat):Int):=∅
  first
   | (rw[aM x] at j;exact absurd j (by decide))
   | (simp at j;lia)
 cases m with
 | cons y z=>
  cases z
  cases y with
  | list w f=>exact⟨_,_,b,Z,Z,w,ZDK b _ f,g⟩
def ZKl(l:OpenLaw)(args:List WData):l.row.toRowW.claim.post args (.bool true) args=true:=
 postW_of (r:=l.row.toRowW) (X:=(true==true))
  (show WShape.has [] (.bool true) .bool=true by first | rfl | decide | simp[WShape.has,WShape.arms,WShape.armsAll])
  (show (WTm.eq .res (.lit (.bool true))).value [] { args:=args,res:=some (.bool true),after:=args }=some (.bool (true==true)) from w_eq_bool (w_res rfl) w_lit) rfl
def attach_call{l:OpenLaw}{n:Nat}{q:am}{c:jp}{E:(jc)->aE->Prop}{F:ax->aE->Prop}{d:DefRec}(S:l.most=some n)(z:d.params.defaults=[])(j:∀ (w:ax) (e b:al) (u C:jc) (k:ak) (o:aI) (D t g:aj) (a:ak) (i:je) (v:jB),
   Ground q c [] E w e u C b.heap->F w b.heap ->
   b.heap.get? k=some o->o.data=.func (docDef d.name d.params d.body d.scope D t g)->b.heap.CodeRec t d.name->u d.name=some (.ref k) ->
   b.heap.get? a=some { cls:=.type "list",data:=.seq i.toArray }->IntsAre i v->v.length<=n->b.gens=#[] ->
   codeAny (aB l.prog w) callerA (.call (.ref k) ⟨[.ref a],[]⟩) (λr x=>r=.ok (.ret (.bool true))/\OldK b.heap x.heap/\x.os=b.os/\AllBare x.gens) b):
  WalkO q c E F l.row.toRowW d [] (λf i=>PySem.call f i):=by
 intro w e b u C G Y k o D t g K kV T O y H A P args J W s I V B Q;obtain rfl:K=.none:=Dflts.none H z;obtain rfl:kV=.none:=Dflts.noKw H;let⟨a,i,v,rfl,rfl,p,h,m⟩:=Am S s B;refine enter_call (codeAny_mono (j w e b u C k o D t g a i v G Y T (fd_plain O) y A p h m P) λr x U=>?_);let⟨rfl,L,M,N⟩:=U;exact⟨.inl ⟨.bool true,.bool true,[],Z,λ_=>rfl,.bool true,ZKl l _,λ_=>⟨yA.nil,λ_ R=>(nomatch R)⟩⟩,L,M,N⟩
section
variable{K:Frag}
def ZQ4(h:aE)(L d:ak):jq:=(yL h.objs.size).filterMap λa=>if a=L\/a=d then none else (h.get? a).map λo=>(a,o)
end
end Att
namespace L2
open PySem PySem.Spec PyProof.Rows
def ZJi:∀{b:je}{a:jB},IntsAre b a->ZP (a.map V.int) b:=by intro _ _ h;induction h with
 | nil=>exact .nil
 | cons n t _ c=>exact .cons ⟨t,Z⟩ c
def Hh(H:Hp):Prop:=∀ b,H b=none\/∃ o a,H b=some (.frz o (.lst a))
def ZLw{P:am}{w:ax}{K:zZ}{M mb:jc}{CX:VU}{k:Nat}{S a:ak}{fd:ao}{x:Str}{sp:Sp}{c:al}{y:je}{N:jB}(KX:K.In c.heap)(G:c.heap.Ns aq M)(g:c.heap.Ns builtinsNs mb)(U:∀ x:Str,x ≠ "__name__"->mb x=az x)(E:c.heap.NoLimit)(hg:c.gens=#[])(Q:c.heap.get? a=some { cls:=.type "list",data:=.seq y.toArray })(hi:IntsAre y N)(hl:N.length<=ar)(hr:ZS k callerA)(F:∀ i:aE,K.In i->i.Ns aq M->ZI P w K M i CX k S fd [x] sp)(t:∀ (s:al) (u:aj),BindsTo s fd ⟨[u],[]⟩ [(x,u)])(Y:∀ H:Hp,Hh H->ZK K H a (N.map V.int)->sp [.ref a] H (λv _=>v=.bl true) λ_ _ _=>False)(T:∀ H e j,CX [] H c (λ_ _ _=>False) e j->False):
  codeAny (aB P w) callerA (.call (.ref S) ⟨[.ref a],[]⟩) (λr j=>r=.ok (.ret (.bool true))/\OldK c.heap j.heap/\j.os=c.os/\AllBare j.gens) c:=by
 let rv:=ZJi hi;let L:=hi.length;let p:∀ H:Hp,Hh H->ZK K H a (N.map V.int)->Y5 P w H c.heap->(∀ b,H b≠none->b=a)->(H a≠none->K.lookup a=none) ->
   codeAny (aB P w) callerA (.call (.ref S) ⟨[.ref a],[]⟩) (λr j=>r=.ok (.ret (.bool true))/\OldK c.heap j.heap/\j.os=c.os/\AllBare j.gens) c:=by
  intro H hO hS I hA hK;let f:∀{b:ak}{o:aI},c.heap.get? b=some o->H b=none->(PU c.heap H).get? b=some o:=λe n=>ZKs e n;let a0:∀{b:ak}{o:aI}{C:Array DictEntry}{B:Nat},c.heap.get? b=some o->o.data=.dict C B->H b=none:=fun{b o C B} e d=>by
   cases q:H b with
   | none=>rfl
   | some u=>
    let R:b=a:=hA b (by rw[q];simp)
    subst R;rw[Q] at e;cases e;let d':Data.seq y.toArray _=Data.dict C B:=d;cases d'
  let l:∀{b:ak}{m:jc},c.heap.Ns b m->(PU c.heap H).Ns b m:=fun{b m} ⟨o,C,B,e,d,r⟩=>⟨o,C,B,f e (a0 e d),d,r⟩;let D:K.In (PU c.heap H):=λb o e=>f (KX b o e) (by
   cases q:H b with
   | none=>rfl
   | some u=>
    let R:b=a:=hA b (by rw[q];simp)
    subst R;rw[hK (by rw[q];simp)] at e;cases e)
  let hM:Mod K M (PU c.heap H):=⟨D,l G,⟨mb,l g,U⟩,let ⟨mc,h1,h2⟩:=E;⟨mc,l h1,h2⟩⟩;let e0:Vj P w K M (PU c.heap H) callerA [] c H:=⟨Z,hM,λb o e=>Bl e,xO (ZIh _ _),trivial,λb g=>absurd (show b∈([]:jz) from g) (by simp),I,.of_eq hg⟩
  refine codeAny_mono ((F _ D (l G)).run callerA [] c H ⟨[.ref a],[]⟩ [.ref a] [.ref a] _ _ hr e0 (t c (.ref a)) (.cons rfl .nil) (Y H hO hS)) λr j h=>?_
  cases r with
  | error e=>exact(T H e j h).elim
  | ok fl=>
   cases fl with
   | next=>exact False.elim h
   | brk=>exact False.elim h
   | cont=>exact False.elim h
   | ret u=>
    let⟨v,H',os,A,un,J,r',q⟩:=h;let q':v=.bl true:=q;subst q';obtain rfl:u=Value.bool true:=r';refine⟨Z,OldK.of_keep λb o e=>?_,os,A⟩
    cases q:H b with
    | none=>exact un.keep b o e q (by intro z;exact absurd (show b∈([]:jz) from z) (by simp)) (by simp)
    | some u=>
     rcases hO b with z | ⟨ob,xs,z⟩
     ·rw[q] at z;cases z
     ·let z2:=un.frzs b ob _ z;let⟨e1,_⟩:=I b _ z;let⟨e2,_⟩:=J b _ z2;rw[e] at e1;cases e1;exact e2
 cases X:K.lookup a with
 | some o=>
  let e:=KX a o X;rw[Q] at e;cases e;refine p (λ_=>none) (λ_=>.inl Z) (.inr ⟨_,y.toArray,_,X,rfl,rfl,rfl,by rw[zL,L];exact hl,by simpa using rv⟩) (λb u z=>by let O:(none:Option HO)=some u:=z;cases O) (λb z=>absurd Z z) λz=>absurd Z z
 | none=>
  refine p (λb=>if b=a then some (.frz { cls:=.type "list",data:=.seq y.toArray } (.lst (N.map V.int))) else none) (λb=>?_) (.inl (.inr ⟨{ cls:=.type "list",data:=.seq y.toArray },aP rfl⟩)) (λb u z=>?_) (λb z=>?_) λ_=>X
  ·by_cases g:b=a
   ·exact .inr ⟨_,_,aP g⟩
   ·exact .inl (aO g)
  ·by_cases g:b=a
   ·let O:=(aP g).symm.trans z;cases O;subst g;exact⟨Q,by rw[zX];exact hl,y,_,rv,Q⟩
   ·let O:=(aO g).symm.trans z;cases O
  ·by_cases g:b=a
   ·exact g
   ·exact absurd (aO g) z
abbrev KOf{K:zZ}{h:aE}(_:K.In h):zZ:=K
def Mz{l:rX}{n k:Nat}{q:am}{loose:jp}{XP:(jc)->aE->Prop}{YP:ax->aE->Prop}{d:DefRec}{K:Params->zZ}{CX:ax->VU}{sp:ax->Sp}{x:Str}(hn:l.most=some n)(hn2:n<=ar)(hdf:d.params.defaults=[])(hr:ZS k callerA)(hY:∀ (w:ax) (h:aE),YP w h->(K w.params).In h)(F:∀ (w:ax) (m:jc) (t:ak) (h:aE),(K w.params).In h->h.Ns aq m->m d.name=some (.ref t) ->
   ∃ z:ao,(∀ (s:al) (u:aj),BindsTo s z ⟨[u],[]⟩ [(x,u)]) /\
    ∀ c:aE,(K w.params).In c->c.Ns aq m->ZI l.prog w (K w.params) m c (CX w) k t z [x] (sp w))(hsp:∀ (w:ax) (H:Hp) (a:ak) (y:jB),y.length<=n->Hh H->ZK (K w.params) H a (y.map V.int)->sp w [.ref a] H (λv _=>v=.bl true) λ_ _ _=>False)(hCX:∀ (w:ax) (H:Hp) (s:al) (e:aj) (B:al),CX w [] H s (λ_ _ _=>False) e B->False):
  PySem.W.WalkO q loose XP YP l.row.toRowW d [] (λf E=>PySem.call f E):=by
 refine Att.attach_call hn hdf λw D r m U t o X Q I a E y G Y S R O A p j i P=>?_;let C:=hY w _ Y;let⟨z,N,J⟩:=F w m t _ C G.T.g A;exact ZLw C G.T.g G.T.b G.T.builtins G.T.nolimit P p j (zN i hn2) hr J N (λH L M=>hsp w H a y i L M) λH e B=>hCX w H r e B
def WC(s:aD)(j:Nat):Stmt:=match s with
 | .ClassDef _ _ _ a _ _ _ _ _ _ _=>a.getD j (.Pass ⟨0,0,0,0⟩)
 | _=>.Pass ⟨0,0,0,0⟩
def Ux(s:aD):Arguments:=match s with
 | .FunctionDef _ a _ _ _ _ _ _ _ _=>a
 | _=>{ posonlyargs:=[],args:=[],vararg:=none,kwonlyargs:=[],kw_defaults:=[],kwarg:=none,defaults:=[] }
def WJ(s:aD):List Stmt:=match s with
 | .FunctionDef _ _ b _ _ _ _ _ _ _=>b
 | _=>[]
def Za(s:aD):Scope:=match s with
 | .FunctionDef _ _ _ _ _ _ a _ _ _=>a
 | _=>{ kind:=.function,names:=[],isGenerator:=false,isCoroutine:=false }
abbrev ZO:VU:=λ_ _ _ _ _ _=>False
abbrev E0:XK:=λ_ _ _=>False
def YG{X:Cx}:QP ZO X E0:=λ_ _ _ _ _ _ _ h=>h.elim
structure Zh(K:zZ)(x qual:Str)(st:aD)(f:ak)(fd:ao):Prop where
 ex:∃(oc:aj)(od:ju)(kV doc pm:aj)(an:ju)(cdv ct:aj)(osl:Array (jd)),
  fd=yB x qual (Ux st) (WJ st) (Za st) .none kV doc pm an cdv ct/\K.lookup f=some ⟨oc,od,.func fd,osl⟩/\wN K cdv qual=true
 kp:yG K (.ref f)=true
def Zh.ok{x b:Str}{g:aD}{f:ak}{o:ao}{N m:jp}{k:Nat}{n:Sp}(F:Zh K x b g f o)(S:ZB N m (Za g))(l:∀ e H Q E,n e H Q E->e.length=m.length)(d:∀ (c:aj) (A:ay) (a:jw) (s:al) (H:Hp) (e:jf) (Q:VK) (E:XK),ZS k (A.deeper (envOfC b (Za g) s.heap.objs.size f c))->n e H Q E ->
   let X:=(Wu ZO P w K mg kh N b (Za g) f c A a s H E).nox;∃ t,X5 X (WJ g) t/\t { nx:=λ_ p=>Q .non p,rt:=Q } (QW N e) H):ZI P w K mg kh ZO (k+1) f o m n:=by
 let⟨B,C,kV,r,D,z,c,ct,y,rfl,v,i⟩:=F.ex;refine JO v i S l λA a s H e Q E u j=>?_;let⟨t,h,q⟩:=d c A a s H e Q E u j;exact⟨t,h.nox,q⟩
def Zh.ko{x a:Str}{g:aD}{f:ak}{m:ao}{N j:jp}{k:Nat}{l:Sp}(F:Zh K x a g f m)(S:ZB N j (Za g))(b:∀ (e:aj) (A:ay) (c:jw) (s:al) (H:Hp) (d:jf) (Q:VK) (E:XK),ZS k (A.deeper (envOfC a (Za g) s.heap.objs.size f e))->l d H Q E ->
   let X:=(Wu ZO P w K mg kh N a (Za g) f e A c s H E).nox;∃ t,X5 X (WJ g) t/\t { nx:=λ_ n=>Q .non n,rt:=Q } (QW N d) H)(i:∀ d H Q E,l d H Q E->d.length=j.length:=by intro d _ _ _ h;cases h;(try subst d);rfl):ZI P w K mg kh ZO (k+1) f m j l:=F.ok S i b
def Zh.binds{x a:Str}{d:aD}{f:ak}{k:ao}{i:jp}(F:Zh K x a d f k)(h:∀ (kV c g:aj) (e:ju) (b ct:aj) (j:je),j.length=i.length->bindArgs (yB x a (Ux d) (WJ d) (Za d) .none kV c g e b ct) ⟨j,[]⟩=pure (i.zip j)):Zq K k i []:=by
 let⟨o,p,kV,c,g,e,b,ct,m,rfl,n,l⟩:=F.ex;exact .all (h kV c g e b ct)
def OY{x a:Str}{st:aD}{f:ak}{i:aj}{j g:ju}{e:Array (jd)}{kV d h b ct:aj}(l:K.lookup f=some ⟨i,j,.func (yB x a (Ux st) (WJ st) (Za st) .none kV d h g b ct),e⟩)(c:wN K b a=true)(k:yG K (.ref f)=true):Zh K x a st f (yB x a (Ux st) (WJ st) (Za st) .none kV d h g b ct):=⟨⟨i,j,kV,d,h,g,b,ct,e,Z,l,c⟩,k⟩
def LX{A:ay}{k:Nat}(a:ZS k A):A.units+1<cLine:=wZ (rP (by decide:1<=64) _) a.units
def XU{n:Nat}(h:n<=1000):n<sizeLine:=wZ h (by decide)
def pv(i:Nat){x:Str}{b:aJ}(c:X.N[i]? = some x:=by rfl)(e:Ii X.env.scope x:=by first | exact Or.inl rfl | exact Or.inr (Or.inl rfl) | exact Or.inr (Or.inr rfl))(d:(x==("__debug__" : Str))=false:=by decide)(a:(x==("__classdict__" : Str))=false:=by decide):PE X (.Name x b) (Qv i):=ZOz c e d a
def Zo{A B:Prop}(h:B):if false=true then A else B:=by
 rw[aO zW];exact h
def Z0{A B:Prop}(h:A):if true=true then A else B:=by
 rw[aP rfl];exact h
def Ve{c A B:Prop}[Decidable c](a:c->A)(b:¬ c->B):if c then A else B:=by
 by_cases h:c
 ·rw[aP h];exact a h
 ·rw[aO h];exact b h
def ZP5{c A B:Prop}[Decidable c](a:c)(h:B):if (!decide c)=true then A else B:=by
 rw[aM a];exact Zo h
def ZE(H a:Hp):Prop:=∀ b o,H b=some o->a b=some o
def ZE.refl(H:Hp):ZE H H:=λ_ _ h=>h
def ZE.trans{H d e:Hp}(a:ZE H d)(b:ZE d e):ZE H e:=λc o h=>b c o (a c o h)
def ZE.free{H a:Hp}(e:ZE H a){l:ak}(h:a l=uI):H l=uI:=by
 cases q:H l with
 | none=>rfl
 | some o=>
  rw[e l o q] at h;cases h
def ZE.seq{K:zZ}{H b:Hp}{a:ak}{c:jf}(e:ZE H b)(h:ZK K H a c):ZK K b a c:=by
 rcases h with (h | ⟨o,h⟩) | h
 ·exact .inl (.inl (e _ _ h))
 ·exact .inl (.inr ⟨o,e _ _ h⟩)
 ·exact .inr h
section
variable{R:Result->al->Prop}
def Bd{elt target iter:Expr}{ifs:jx}{scope:aF}{pos:aJ}{it acc:aj}{env:Env}(I:Nat->al->Prop)(turn:∀ n s,I n s->aC (aB prog w) A (pyNext it) (λr d=>match r with
   | none=>R (.ok .next) d
   | some v=>aC (aB prog w) A (letOwnedTupleGo target it v) (λ_ j=>aC (aB prog w) A (assign target env v) (λ_ k=>
     aC (aB prog w) A (forIn ifs true λc r=>if r=true then do let y<-isTrue c env (aH c env);pure (ForInStep.yield y) else pure (ForInStep.yield r)) (λy f=>
      if y=true then aC (aB prog w) A (aH elt env) (λx l=>
       aC (aB prog w) A (call (.builtin "list.append") [acc,x]) (λ_ o=>∃ m,m<n/\I m o) (notedBy (aB prog w) A env λe b=>R (.error e) b) l) (notedBy (aB prog w) A env λe b=>R (.error e) b) f
      else ∃ m,m<n/\I m f) (notedBy (aB prog w) A env λe b=>R (.error e) b) k) (notedBy (aB prog w) A env λe b=>R (.error e) b) j) (notedBy (aB prog w) A env λe b=>R (.error e) b) d) (notedBy (aB prog w) A env λe b=>R (.error e) b) s)(n:Nat)(h:I n s):
  codeAny (aB prog w) A (.compLoop (.ListComp elt [⟨target,iter,ifs,0⟩] scope pos) 0 it acc env) R s:=by
 refine codeAny_loop Z I (λn s z=>?_) n h;show aC _ A ((compTurn (.ListComp elt [⟨target,iter,ifs,0⟩] scope pos) 0 it acc env).onRaise (λx=>do noteFrame x env;theTreesLotGoes x)) _ _ s
 refine wpAny_noted ?_;rw[compTurn_list];refine aa (wpAny_standAt (aa (af (turn n s z) (λr d g=>?_) λ_ _ a=>a)))
 cases r with
 | none=>exact ae g
 | some v=>
  refine aa (af g (λ_ j p=>?_) λ_ _ a=>a);refine aa (af p (λ_ k q=>aa (af q (λy f i=>?_) λ_ _ a=>a)) λ_ _ a=>a)
  cases y with
  | false=>exact ae ⟨Z,i⟩
  | true=>
   exact aa (aa (af i (λx l t=>aa (af t (λ_ o u=>ae (ae ⟨Z,u⟩)) λ_ _ a=>a)) λ_ _ a=>a))
end
def Wh(b:Env)(l:List (Str×NameKind)):jD->jD:=λa=>l.foldl (λa p=>if p.2==.free then (p.1,(b.cells.lookup p.1).getD 0)::a else a) a
def N4(a:Env)(l:List (Str×NameKind)):Prop:=∀ p∈l,p.2=.free->∃ c,a.cells.lookup p.1=some c
def CW{b:Env}{d:aF}(h:N4 b d.names):closureFor d b=pure (Wh b d.names []):=by
 let i:∀(l:List (Str×NameKind))(f:jD),N4 b l->(forIn l f λx r=>if (x.2==.free)=true then do let a<-cellOf b x.1;pure (ForInStep.yield ((x.1,a)::r)) else pure (ForInStep.yield r):Sem (jD))=pure (Wh b l f):=by
  intro l
  induction l with
  | nil=>intro f _;rfl
  | cons p r n=>
   intro f j;let e:Wh b (p::r) f=Wh b r (if p.2==.free then (p.1,(b.cells.lookup p.1).getD 0)::f else f):=rfl
   rw[sM,e]
   cases o:(p.2==NameKind.free) with
   | true=>
    let⟨c,m⟩:=j p zM (eq_of_beq o);let g:cellOf b p.1=pure c:=by unfold cellOf;rw[m]
    simp only[if_true,g,pure_bind];rw[n _ λq k=>j q (zK _ k),m];rfl
   | false=>
    simp only[wT,if_false,pure_bind];exact n _ λq k=>j q (zK _ k)
 have:=i d.names [] h;simpa [closureFor] using this
theorem Cq{a:Env}:∀{l:List (Str×NameKind)}{b:jD}{x:Str}{c:ak},N4 a l->(Wh a l b).lookup x=some c->b.lookup x=some c\/a.cells.lookup x=some c
 | [],_,_,_,_,h=>.inl h
 | p::r,b,x,c,hf,h=>by
  let i:(Wh a r (if p.2==.free then (p.1,(a.cells.lookup p.1).getD 0)::b else b)).lookup x=some c:=h
  rcases Cq (λq j=>hf q (zK _ j)) i with q | q
  ·cases f:(p.2==NameKind.free) with
   | true=>
    rw[f,aP rfl,xA] at q
    cases e:x==p.1 with
    | true=>
     rw[e] at q;let⟨d,g⟩:=hf p zM (eq_of_beq f);refine .inr ?_;rw[eq_of_beq e,g];rw[g] at q;exact q
    | false=>
     rw[e] at q;exact .inl q
   | false=>
    rw[f,aO zW] at q;exact .inl q
  ·exact .inr q
theorem CA{a:Env}{x:Str}:∀{l:List (Str×NameKind)}{b:jD},(b.lookup x).isSome=true->((Wh a l b).lookup x).isSome=true
 | [],_,h=>h
 | p::r,b,h=>by
  show ((Wh a r (if p.2==.free then (p.1,(a.cells.lookup p.1).getD 0)::b else b)).lookup x).isSome=true
  refine CA ?_
  cases c:(p.2==NameKind.free) with
  | true=>
   rw[aP rfl,xA]
   cases e:x==p.1 with
   | true=>rfl
   | false=>exact h
  | false=>rw[aO zW];exact h
theorem Gw{a:Env}{x:Str}:∀{l:List (Str×NameKind)}{b:jD},(x,NameKind.free)∈l->((Wh a l b).lookup x).isSome=true
 | [],_,h=>by cases h
 | p::r,b,h=>by
  show ((Wh a r (if p.2==.free then (p.1,(a.cells.lookup p.1).getD 0)::b else b)).lookup x).isSome=true
  rcases zQ.mp h with e | h
  ·subst e;refine CA ?_;show (wH x ((x,(a.cells.lookup x).getD 0)::b)).isSome=true;rw[xA,beq_self_eq_true];rfl
  ·exact Gw h
def Y7(a:Env)(b:jD):Prop:=∀ x c,b.lookup x=some c->a.cells.lookup x=some c
def Y7.get{a:Env}{b:jD}{x:Str}{c:ak}(h:Y7 a b)(e:b.lookup x=some c):a.cells.lookup x=some c:=h x c e
def GB{a:Env}{l:List (Str×NameKind)}(h:N4 a l):Y7 a (Wh a l []):=λx c e=>by
 rcases Cq h e with q | q
 ·cases q
 ·exact q
theorem CJ{env:Env}:∀{names:List (Str×NameKind)}{x:Str},names.lookup x=some .free ->
  (names.map fun(n,k)=>if (k==NameKind.free&&env.scope.kind==.function&&env.kindOf n==some .cell) then (n,NameKind.cell) else (n,k)).lookup x=some .cell \/
  (names.map fun(n,k)=>if (k==NameKind.free&&env.scope.kind==.function&&env.kindOf n==some .cell) then (n,NameKind.cell) else (n,k)).lookup x=some .free
 | [],_,h=>by simp at h
 | (n,k)::r,x,h=>by
  rw[xA] at h;simp only[yW]
  cases a:x==n with
  | true=>
   rw[a] at h;cases h;split
   ·exact .inl (by rw[xA,a])
   ·exact .inr (by rw[xA,a])
  | false=>
   rw[a] at h;let b:=CJ (env:=env) h;split
   ·rw[xA,a];exact b
   ·rw[xA,a];exact b
theorem Em{env:Env}:∀{names:List (Str×NameKind)}{x:Str},(∀ y∈names,y.2≠.cell) ->
  ((names.map fun(n,k)=>if (k==NameKind.free&&env.scope.kind==.function&&env.kindOf n==some .cell) then (n,NameKind.cell) else (n,k)).lookup x=some .cell \/
  (names.map fun(n,k)=>if (k==NameKind.free&&env.scope.kind==.function&&env.kindOf n==some .cell) then (n,NameKind.cell) else (n,k)).lookup x=some .free)->(x,NameKind.free)∈names
 | [],_,_,h=>by simp at h
 | (n,k)::r,x,hc,h=>by
  let e:∀ y∈r,y.2≠.cell:=λy f=>hc y (zK _ f);simp only[yW] at h
  cases b:x==n with
  | true=>
   let c:=eq_of_beq b;subst c;by_cases a:k=.free
   ·subst a;exact zM
   ·let d:(k==NameKind.free)=false:=by simpa using a
    simp only[d,vV,wT,if_false,xA,beq_self_eq_true] at h;rcases h with h | h
    ·exact absurd (yU.inj h) (hc _ zM)
    ·exact absurd (yU.inj h) a
  | false=>
   refine zK _ (Em (env:=env) e ?_);split at h
   ·simpa only [xA,b] using h
   ·simpa only [xA,b] using h
def YK(X:Cx)(a:aF):jl->jp->Prop
 | [],[]=>True
 | i::is,y::ys=>X.N[i]? = some y/\(X.env.kindOf y=some .cell\/X.env.kindOf y=some .free)/\a.names.lookup y=some .free/\YK X a is ys
 | _,_=>False
theorem YK.len{X:Cx}{a:aF}:∀{b:jl}{c:jp},YK X a b c->b.length=c.length
 | [],[],_=>rfl
 | _::_,_::_,h=>congrArg (· + 1) h.2.2.2.len
theorem YK.get{X:Cx}{a:aF}:∀{b:jl}{c:jp}{j:Nat}{y:Str},YK X a b c->c[j]? = some y ->
  ∃ i,b[j]? = some i/\X.N[i]? = some y/\(X.env.kindOf y=some .cell\/X.env.kindOf y=some .free)/\a.names.lookup y=some .free
 | [],[],_,_,_,h=>by simp at h
 | i::_,z::_,0,y,f,h=>by
  simp at h;subst h;exact⟨i,Z,f.1,f.2.1,f.2.2.1⟩
 | _::b,_::c,j+1,y,f,h=>by
  let⟨i,e,r⟩:=YK.get (j:=j) f.2.2.2 (by simpa using h)
  exact⟨i,by simpa using e,r⟩
def Wg(X:Cx)(N:jp)(a:aF)(b:jD)(C:ak)(s:al)(H:Hp)(c:jz)(E:ja):Cx where
 prog:=X.prog
 w:=X.w
 K:=X.K
 mg:=X.mg
 base:=X.base
 A:=X.A
 N:=N
 s₀:=s
 H₀:=H
 env:=compEnvC a b C X.env
 outer:=X.stack
 stack:=X.stack
 ex:=c
 fn:=λ_=>false
 calm:=X.calm
 pn:=[]
 xe:=E
def OF(b:St)(a:jl)(x:V):St:=some x::a.map λi=>(b[i]?).join
def OU(X:Cx)(b:jx)(e:TT):Prop:=
 ∀(a:jq)(s:al)(d:St)(H:Hp)(Q:Bool->Hp->Prop),ZF X a d H s->e d H Q ->
  aC (aB X.prog X.w) X.A (forIn b true λc r=>if r=true then do let ok<-isTrue c X.env (aH c X.env);pure (ForInStep.yield ok) else pure (ForInStep.yield r)) (TP X a d Q) X.xe s
def He:TT:=λ_ H Q=>Q true H
def UV{X:Cx}:OU X [] He:=λ_ _ _ H _ I h=>wpAny_tests_nil ⟨H,I,h⟩
def Mo{X:Cx}{c:Expr}{t:TT}(h:PT X c t):OU X [c] t:=λa s d H Q I b=>wpAny_tests_one (h a s d H Q I b)
def Wq(J:It)(j:St)(h:jl)(l:TT)(k:TE)(e:Hp)(Q:VK):Prop:=
 ∀ D,e D=none->∃ W:Nat->Nat->Hp->Prop,(∃ m,W 0 m (upd e D (.lst [])))/\∀ i m H,W i m H ->
  (J.stop i H/\Q (.ref D) H)\/(J.go i H/\∀ x d,J.yld i H x d->l (OF j h x) d λc f=>
   if c=true then k (OF j h x) f λy g=>∃ b a,g D=some (.lst b)/\b.length<ar/\a<m/\W (i+1) a (upd g D (.lst (b++[y])))
   else ∃ a,a<m/\W (i+1) a f)
def Ey(f:TI)(c:jl)(e:TT)(d:TE):TE:=λa H Q=>f a H λJ b=>Wq J a c e d b Q
section
variable{kg:jq}{σ:St}{H:Hp}
def C7{b:jl}{j:Nat}{v:V}(h:(b.map λi=>(σ[i]?).join)[j]? = some (some v)):∃ i,b[j]? = some i/\σ[i]? = some (some v):=by
 rw[zH] at h
 cases e:b[j]? with
 | none=>rw[e] at h;cases h
 | some i=>
  rw[e] at h;let a:(σ[i]?).join=some v:=yU.inj h;exists i,Z
  cases q:σ[i]? with
  | none=>rw[q] at a;cases a
  | some o=>
   rw[q] at a
   cases o with
   | none=>cases a
   | some z=>cases a;rfl
def Mu(a:Env)(l:List (Str×NameKind)):Bool:=l.all λp=>!(p.2==.free) || a.kindOf p.1==some .cell || a.kindOf p.1==some .free
def FS{X:Cx}{l:List (Str×NameKind)}(a:X.Ok)(h:Mu X.env l=true):N4 X.env l:=λp c b=>by
 let q:=zI.mp h p c;rw[b] at q;let d:(X.env.kindOf p.1==some .cell || X.env.kindOf p.1==some .free)=true:=by simpa using q
 rcases Bool.or_eq_true_iff.mp d with q | q
 ·exact a.has p.1 (.inl (eq_of_beq q))
 ·exact a.has p.1 (.inr (eq_of_beq q))
def NY(a:aF)(x:Str):Bool:=a.kind==.function&&a.names.lookup x==some .local&&a.names.all (λp=>!(p.2==.cell))&&a.names.all (λp=>!(p.2==.local) || a.names.lookup p.1==some .local)
structure Pw(scope:aF)(x:Str):Prop where
 kind:scope.kind=.function
 own:scope.names.lookup x=some .local
 cell:∀ y∈scope.names,y.2≠.cell
 names:∀ y∈scope.names,y.2=.local->scope.names.lookup y.1=some .local
def M7{a:aF}{x:Str}(h:NY a x=true):Pw a x:=by
 unfold NY at h;rw[zP,zP,zP] at h;let⟨⟨⟨c,d⟩,e⟩,f⟩:=h;refine⟨eq_of_beq c,eq_of_beq d,λy b z=>?_,λy b z=>?_⟩
 ·have:=zI.mp e y b;rw[z] at this;cases this
 ·have:=zI.mp f y b;rw[z] at this;let q:(a.names.lookup y.1==some NameKind.local)=true:=by simpa using this
  exact eq_of_beq q
def Eb{a:aF}{b:Env}(d:∀ y∈a.names,y.2≠.cell)(y:Str)(h:(relabel a b).names.lookup y=some .cell\/(relabel a b).names.lookup y=some .free):∃ c,(Wh b a.names []).lookup y=some c:=
 uF.mp (Gw (Em d h))
def GL(i:Nat)(t:TE):TS:=λD σ H=>t σ H λv a=>D.nx (σ.set i (some v)) a
end
def Lo(b:jp)(c:St)(a:jl):St:=b.map (λ_=>(none:jg))++a.map λi=>(c[i]?).join
def JU(J:It)(k:Nat)(g:TG)(p:St)(n:jl)(s:TT)(r:TE)(h:Hp)(Q:VK):Prop:=
 ∀ D,h D=none->∃ W:Nat->Nat->Hp->Prop,(∃ m,W 0 m (upd h D (.lst [])))/\∀ i m H,W i m H ->
  (J.stop i H/\Q (.ref D) H)\/(J.go i H/\∀ x f,J.yld i H x f->∀ o:St,o.length=k->g x (o++n.map λi=>(p[i]?).join) f λa q=>(∃ d:St,d.length=k/\a=d++n.map λi=>(p[i]?).join)/\s a q λc j=>
   if c=true then r a j λy l=>∃ e b,l D=some (.lst e)/\e.length<ar/\b<m/\W (i+1) b (upd l D (.lst (e++[y])))
   else ∃ b,b<m/\W (i+1) b j)
def D4(k:Nat)(g:TG)(f:TI)(c:jl)(e:TT)(d:TE):TE:=λa H Q=>f a H λJ b=>JU J k g a c e d b Q
section
variable{kg:jq}{σ:St}{H:Hp}
def ZKL{t K:jp}{J:jl}{a:aF}{L:jD}{fp:jz}{E:ja}{g:aE}{D C n tk:Nat}{m:jc}(I:ZF X kg σ H s)(N:∀ b∈fp,VW X kg H b/\b<s.heap.objs.size)(f:Y7 X.env L)(B:a.kind=.function)(w:∀ y,((relabel a X.env).names.lookup y=some .cell\/(relabel a X.env).names.lookup y=some .free)->∃ c,L.lookup y=some c)(fo:YK X a J K)(M:s.heap.objs.size<=D)(R:s.heap.objs.size<=C)(S:D≠C)(T:g.Ns C m)(k:∀ b o,s.heap.get? b=some o->g.get? b=some o)(hd:g.get? D=some { cls:=.type "list",data:=.seq ([]:je).toArray n }):
  ZF (Wg X (t++K) a L C s H fp E) [] (Lo t σ J) (upd H D (.lst [])) { s with heap:=g,toks:=tk }:=by
 let d:∀ y c,L.lookup y=some c->c<s.heap.objs.size:=λy c e=>by
  let⟨v,q⟩:=I.cell y c (f.get e);exact q.lt
 refine⟨⟨I.ok.mod,B,I.ok.glob,I.ok.blt,R,λy z c h1 h2=>I.ok.inj y z c (f.get h1) (f.get h2),w,λy c h _=>absurd h (by simp[Wg]),I.ok.hd,I.ok.frames,.inl Z,λb G=>⟨?_,λy c e=>?_⟩,I.bs,zN I.ok.bsz I.sz,λb o e G=>?_,λb G z=>?_,I.stack,I.stkFree⟩,
  Z,I.bare,Un.laid k M (I.hok.fresh M),⟨m,T,λj y v e1 e2 F=>?_⟩,λy c e=>?_,?_,λy c e=>?_,λp hp=>absurd (show p∈([]:jq) from hp) (by simp),I.hok.laid k M ?_,?_⟩
 ·exact yK (yV (N b G).2 R)
 ·exact(N b G).1.2.2.2.2.1 y c (f.get e)
 ·let⟨_,_,_,z,_⟩:=(N b G).1;rcases z with z | z
  ·exact I.ok.noex b o e z
  ·exact absurd (yV (zG (I.ok.bs b o e).1) z) (vX _)
 ·let⟨_,z1,z2,_⟩:=(N b G).1;rcases zQ.mp (I.stkSub b z) with q | q
  ·exact z1 q
  ·exact z2 q
 ·by_cases O:j<t.length
  ·exfalso
   let F:(t.map (λ_=>(none:jg))++J.map λi=>(σ[i]?).join)[j]? = some (some v):=e2;rw[wR (by rw[zX];exact O),zH,zV O] at F
   cases F
  ·let Y:(t++K)[j]? = some y:=e1;let P:K[j-t.length]? = some y:=by rw[xE (wU O)] at Y;exact Y
   let F:(t.map (λ_=>(none:jg))++J.map λi=>(σ[i]?).join)[j]? = some (some v):=e2;let Q:(J.map λi=>(σ[i]?).join)[j-t.length]? = some (some v):=by
    rw[xE (by rw[zX];exact wU O),zX] at F
    exact F
   let⟨i,q1,q2⟩:=C7 Q;let⟨i',p1,p2,x,W⟩:=fo.get P;rw[q1] at p1;cases p1;let p4:(relabel a X.env).names.lookup y=some .cell\/(relabel a X.env).names.lookup y=some .free:=CJ W;let⟨c,p5⟩:=w y p4;let⟨m0,a0,hl⟩:=I.loc;let⟨u,r,l⟩:=hl i y v p2 q2 (.inr x);refine⟨u,r,.inr ⟨p4,c,p5,?_⟩⟩;rcases l with ⟨l1,_⟩ | ⟨_,c',l2,l3⟩
   ·rcases x with x | x
    ·rw[l1] at x;cases x
    ·rw[l1] at x;cases x
   ·rw[f.get p5] at l2;cases l2;let⟨o,U,A⟩:=l3;exact⟨o,k _ _ U,A⟩
 ·let⟨v,o,U,A⟩:=I.cell y c (f.get e);exact⟨v,o,k _ _ U,A⟩
 ·show upd H D (.lst []) C=none;rw[ZR (Ne.symm S)];exact I.hok.fresh R
 ·show upd H D (.lst []) c=none;rw[ZR (yK (yV (d y c e) M))];exact I.freeC y c (f.get e)
 ·exact⟨zD _,[],n,.nil,hd⟩
 ·show (Lo t σ J).length=(t++K).length;unfold Lo;rw[zS,zX,zX,fo.len,zS]
def DQ(k:Nat)(c:jl)(σ a:St):Prop:=∃ b:St,b.length=k/\a=b++c.map λi=>(σ[i]?).join
inductive IN(Y:Cx)(k:Nat)(f:jl)(σ:St)(g:Nat->aE->Prop)(e:jz)(W:Nat->Nat->Hp->Prop)(n:Nat)(d:al):Prop
 |mk(i:Nat)(a:St)(c:Hp):ZF Y [] a c d->DQ k f σ a->g i d.heap->(∀ b∈e,c b=none)->W i n c->IN Y k f σ g e W n d
theorem GI{elt iter tg:Expr}{xs:jp}{g:TG}{ifs:jx}{scope:aF}{cl:jD}{pos:aJ}{ix:jl}{ys:jp}{tt:TT}{te:TE}{it:ak}{fp:jz}{tn:Nat->aE->Prop}{J:It}{Q:VK}{E:ja}{RR:aj->ak->Result->al->Prop}(hc:X.calm=true)(hg:∀ C s H fp E,PG (Wg X (xs++ys) scope cl C s H fp E) tg g)(ht:∀ C s H fp E,OU (Wg X (xs++ys) scope cl C s H fp E) ifs tt)(he:∀ C s H fp E,PE (Wg X (xs++ys) scope cl C s H fp E) elt te)(sub:Y7 X.env cl)(hkind:scope.kind=.function)(hcell:∀ y∈scope.names,y.2≠.cell)(hhas:∀ y,((relabel scope X.env).names.lookup y=some .cell\/(relabel scope X.env).names.lookup y=some .free)->∃ c,cl.lookup y=some c)(fo:YK X scope ix ys)(I:ZF X kg σ H s)(T:Vo X.prog X.w X.K tg J fp it tn)(st:tn 0 s.heap)(hf:∀ b∈fp,VW X kg H b)(q:JU J xs.length g σ ix tt te H Q)(hRR:∀ D C s' H' m,s.heap.objs.size<=C->ZF X kg σ H' s'->VW X kg H' C->s'.heap.Ns C m->Q (.ref D) H'->RR (.ref D) C (.ok .next) s'):
  aC (aB X.prog X.w) X.A (newList []) (λacc s₃=>aC (aB X.prog X.w) X.A (newFunctionEnv scope X.env.globals cl [] X.env.qual none .none (some X.env)) (λcenv s₄=>
   codeAny (aB X.prog X.w) X.A (.compStart (.ListComp elt [⟨tg,iter,ifs,0⟩] scope pos) 0 (.ref it) acc { cenv with scope:=relabel scope X.env }) (RR acc cenv.locals) s₄) E s₃) E s:=by
 refine wpAny_newObj_type (wpAny_newFunctionEnv hcell (by intro y hy;simp at hy) (λh₁ hns₁ hsb₁=>?_) hkind)
 dsimp only at hns₁ hsb₁⊢;generalize hH2:s.heap.push { cls:=.type "list",dict:=none,data:=.seq ([]:je).toArray }=H2 at hns₁ hsb₁⊢;let hC:H2.objs.size=s.heap.objs.size+1:=by rw[<-hH2,sN]
 let hDC:s.heap.objs.size≠H2.objs.size:=by rw[hC];exact yK (wL _)
 let hCle:s.heap.objs.size<=H2.objs.size:=by rw[hC];exact tZ _
 let below:∀ b,b<s.heap.objs.size->b≠H2.objs.size/\b≠s.heap.objs.size:=λb hb=>⟨by rw[hC];exact yK (Nat.lt_succ_of_lt hb),yK hb⟩
 let old:∀ b o,s.heap.get? b=some o->h₁.get? b=some o:=λb o e=>hsb₁.extBut b o (below b (zG e)).1 (zB _ (hH2 ▸ zB _ e));let hacc:∃ n,h₁.get? s.heap.objs.size=some { cls:=.type "list",data:=.seq ([]:je).toArray n }:=⟨_,hsb₁.extBut _ _ hDC (zB _ (hH2 ▸ yO _ rfl))⟩;let⟨nD,hacc⟩:=hacc;let hf':∀ b∈fp,VW X kg H b/\b<s.heap.objs.size:=λb hb=>⟨hf b hb,by let⟨o,e,_⟩:=T.obj 0 _ st b hb;exact zG e⟩
 let hDn:H s.heap.objs.size=none:=I.hok.fresh (zY _);let⟨W,⟨m0,w0⟩,turn⟩:=q _ hDn;generalize hE:notedBy (aB X.prog X.w) X.A (compEnvC scope cl H2.objs.size X.env) (λe s'=>RR (.ref s.heap.objs.size) H2.objs.size (.error e) s')=EE;let I0:ZF (Wg X (xs++ys) scope cl H2.objs.size s H fp EE) [] (Lo xs σ ix) (upd H s.heap.objs.size (.lst [])) { s with heap:=h₁,toks:=s.toks+([]:jH).length }:=
  ZKL I hf' sub hkind hhas fo (zY _) hCle hDC hns₁ old hacc
 let st1:tn 0 h₁:=T.keep _ _ _ st λb _ o e=>old b o e;let fr1:∀ b∈fp,upd H s.heap.objs.size (.lst []) b=none:=λb hb=>by rw[ZR (below b (hf' b hb).2).2];exact(hf b hb).1
 let stat:∀{H':Hp},(∀ b∈fp,H' b=none)->∀ b∈fp,VW (Wg X (xs++ys) scope cl H2.objs.size s H fp EE) [] H' b:=λhn b hb=>
  ⟨hn b hb,(I0.ok.exf b hb).1,I0.ok.exfs b hb,.inl hb,(I0.ok.exf b hb).2,λp hp=>absurd (show p∈([]:jq) from hp) (by simp)⟩
 let loop:∀ s₃:al,s₃={ s with heap:=h₁,toks:=s.toks+([]:jH).length } ->
   codeAny (aB X.prog X.w) X.A (.compLoop (.ListComp elt [⟨tg,iter,ifs,0⟩] scope pos) 0 (.ref it) (.ref s.heap.objs.size) (compEnvC scope cl H2.objs.size X.env)) (RR (.ref s.heap.objs.size) H2.objs.size) s₃:=by
  rintro s₃ rfl;refine Bd (IN (Wg X (xs++ys) scope cl H2.objs.size s H fp EE) xs.length ix σ tn fp W) ?_ m0 ⟨0,_,_,I0,⟨_,zX _,Z⟩,st1,fr1,w0⟩;rintro n s3 ⟨i,σ3,H3,I3,⟨o3,ho3,hσ3⟩,st3,fr3,w3⟩;rw[hE];rcases turn i n H3 w3 with ⟨stop,qn⟩ | ⟨go,step⟩
  ·refine Z2 (T.done (Wg X (xs++ys) scope cl H2.objs.size s H fp EE) Z Z Z hc i [] s3 σ3 H3 EE I3 (stat fr3) st3 stop) ?_;rintro r s4 ⟨hr,I4⟩;subst hr;let⟨m4,hn4,_⟩:=I4.loc;let Ix:ZF X kg σ H3 s4:=I.call' (s':=s4) (ch:=fp) I4.os I4.base I4.hok I4.bare λb hb=>by
    let⟨_,z1,_,z3,z4,z5⟩:=hf b hb;exact⟨z3,z1,z4,z5⟩
   exact hRR _ _ s4 H3 m4 hCle Ix (I.fpOk hCle I4.free) hn4 qn
  ·refine Z2 (T.item (Wg X (xs++ys) scope cl H2.objs.size s H fp EE) Z Z Z hc i [] s3 σ3 H3 EE I3 (stat fr3) st3 go) ?_;rintro r s4 ⟨u,hr,h4⟩;subst hr;refine Z2 h4 ?_;rintro _ s5 ⟨xv,H5,I5,r5,y5,st5,fr5⟩;let I5':=I5.pinned (stat fr5) (T.obj _ _ st5);let again:∀{σ7:St}{H7:Hp}{s7:al}{m':Nat},ZF (Wg X (xs++ys) scope cl H2.objs.size s H fp EE) ([]++MQ fp s5.heap) σ7 H7 s7->DQ xs.length ix σ σ7->m'<n->W (i+1) m' H7 ->
     ∃ m,m<n/\IN (Wg X (xs++ys) scope cl H2.objs.size s H fp EE) xs.length ix σ tn fp W m s7:=fun{σ7 H7 s7 m'} I7 e7 hm w7=>by
    refine⟨m',hm,.mk (i+1) σ7 H7 I7.unpinned e7 (T.keep _ _ _ st5 λb hb o e=>(I7.pin (b,o) (yJ _ (yJ _ (LL hb e)))).1) (λb hb=>?_) w7⟩;let⟨o,e,d⟩:=T.obj _ _ st5 b hb;exact(I7.pin (b,o) (yJ _ (yJ _ (LL hb e)))).2.1
   let stp:=step xv _ y5 o3 ho3;rw[<-hσ3] at stp;refine Z2 (hg _ _ _ _ _ _ s5 σ3 H5 xv u _ I5' r5 stp) ?_;rintro _ s6 ⟨σ6,H6,I6,e6,q6⟩;refine Z2 (ht _ _ _ _ _ _ s6 _ _ _ I6 q6) ?_;rintro ok s7 ⟨H7,I7,q7⟩
   cases ok with
   | false=>
    rw[aO zW] at q7⊢;let⟨m',hm,w7⟩:=q7;exact again I7 e6 hm w7
   | true=>
    rw[aP rfl] at q7⊢;refine Z2 (he _ _ _ _ _ _ s7 _ _ _ I7 q7) ?_;rintro y s8 ⟨yv,H8,I8,r8,ys8,m',e8,z8,hm,w8⟩;refine Z2 (Q0 _ s8 _ H8 (.ref s.heap.objs.size) [yv] (.ref s.heap.objs.size) [y] (λ_ H9=>W (i+1) m' H9) I8 Z (.cons r8 .nil) ⟨_,ys8,yv,Z,Z,e8,z8,w8⟩) ?_;rintro _ s9 ⟨_,H9,I9,_,w9⟩;exact again I9 e6 hm w9
 exact codeAny_compStart_list (loop _ Z) (T.self _ 0 _ _ _ st1 (loop _ rfl))
def ZLp{f c t:Expr}(j:jp)(x:Str){g:TG}{i:jx}{a:aF}{p:aJ}{G:TI}{z:TT}{y:TE}(u:jl)(k:jp)(hc:X.calm=true)(hg:∀ C s H d E,PG (Wg X (j++k) a (Wh X.env a.names []) C s H d E) t g)(hi:PI X t c G)(ht:∀ C s H d E,OU (Wg X (j++k) a (Wh X.env a.names []) C s H d E) i z)(he:∀ C s H d E,PE (Wg X (j++k) a (Wh X.env a.names []) C s H d E) f y)(W:YK X a u k)(hk:Mu X.env a.names=true:=by rfl)(n:NY a x=true:=by rfl)(hs:∀ x,foldedSetIterable c X.env x=pure x:=by intro _;rfl):
  PE X (.ListComp f [⟨t,c,i,0⟩] a p) (D4 j.length g G u z y):=by
 intro kg s σ H Q I h;let B:=M7 n;let F:=FS I.ok hk;rw[eval_ListComp];refine wpAny_comprehension_free (use:=none) Z hs (CW F) B.kind B.names (Z2 (hi kg s σ H _ I h) λv s1 Y=>Z2 Y λa0 s2 h2=>?_);let⟨it,d,tn,J,H2,e,L,T,r,P,q2⟩:=h2;subst e;refine GI (RR:=λl C=>compPost (aB X.prog X.w) X.A X.xe none (EP X kg σ Q) l C) hc hg ht he (GB F) B.kind B.cell (Eb B.cell) W L T r P q2 ?_;intro D C s' K m hC M V hn q;refine⟨m,hn,λh' sb=>⟨.ref D,K,?_,Z,q⟩⟩;let⟨N,O,_,R,S,U⟩:=V;exact M.turned (t':=s'.toks) (λb o n e=>(sb.2 b n).trans e) N O R S U
def ZGQ{f d u:Expr}(G:jp)(x:Str){g:TG}{y:Str}{p:aJ}{j:jx}{c:aF}{l k:aJ}{wi:TI}{tt:TT}{te:TE}{i:Nat}(ix:jl)(K:jp)(hN:X.N.Nodup)(O:X.N[i]? = some y)(Y:X.env.scope.names.lookup y=some .local)(hc:X.calm=true)(hg:∀ C s H n E,PG (Wg X (G++K) c (Wh X.env c.names []) C s H n E) u g)(hi:PI X u d wi)(ht:∀ C s H n E,OU (Wg X (G++K) c (Wh X.env c.names []) C s H n E) j tt)(he:∀ C s H n E,PE (Wg X (G++K) c (Wh X.env c.names []) C s H n E) f te)(fo:YK X c ix K)(P:swapsWith (.ListComp f [⟨u,d,j,0⟩] c l) (some (.Name y p)) k.line X.env=pure true:=by rfl)(hk:Mu X.env c.names=true:=by rfl)(M:NY c x=true:=by rfl)(hs:∀ x,foldedSetIterable d X.env x=pure x:=by intro _;rfl):
  PS X (.Assign [.Name y p] (.ListComp f [⟨u,d,j,0⟩] c l) k) (GL i (D4 G.length g wi ix tt te)):=by
 intro kg s σ H D I h;let B:=M7 M;let F:=FS I.ok hk;rw[exec_Assign_Name_used _ _ _ _ P];refine aa (wpAny_standAt (aa ?_));show aC _ X.A (do let _<-comprehension (.ListComp f [⟨u,d,j,0⟩] c l) c X.env _ (newList []) false (aH d X.env) (some (assign (.Name y p) X.env))) _ _ s
 refine aa (af (wpAny_comprehension_free (use:=some (assign (.Name y p) X.env)) (Q:=λ_ t=>SP X kg D .next t) rfl hs (CW F) B.kind B.names
  (Z2 (hi kg s σ H _ I h) λv s1 h1=>Z2 h1 λa0 s2 h2=>?_)) (λ_ t hq=>ae (ae hq)) λ_ _ e=>e)
 let⟨it,n,tn,J,H2,e,I2,T,S,f2,q2⟩:=h2;subst e;refine GI (RR:=λL C=>compPost (aB X.prog X.w) X.A X.xe (some (assign (.Name y p) X.env)) (λ_ t=>SP X kg D .next t) L C) hc hg ht he (GB F) B.kind B.cell (Eb B.cell) fo I2 T S f2 q2 ?_;intro U C t H' m hC Ix fC hn q;let⟨f0,V,_,f3,W,f5⟩:=fC;show aC _ X.A (assign (.Name y p) X.env (.ref U)) _ _ _;refine wpAny_assign_Name (Fk Ix hN O (.inl Y) (v:=.ref U) Z (λs3 I3 ⟨a,sb,r⟩=>?_) (.inr Y));let ne:C≠a:=by
  rcases r with r | r
  ·rw[r];exact V
  ·exact λz=>W y a r z.symm
 refine⟨m,hn.sameBut sb ne,λh' R=>⟨_,H',?_,q⟩⟩;exact I3.turned (t':=s3.toks) (λb o M e=>(R.2 b M).trans e) f0 V f3 W f5
def Wq.toT{J:It}{a:jl}{c:TT}{b:TE}{Q:VK}(h:Wq J σ a c b H Q):JU J 1 (Pn 0) σ a c b H Q:=λD f=>by
 let⟨W,e,j⟩:=h D f;refine⟨W,e,λi m H k=>(j i m H k).imp id λq=>⟨q.1,λx d y l g=>?_⟩⟩;let⟨_,rfl⟩:=List.length_eq_one_iff.mp g;exact⟨⟨[some x],Z,Z⟩,q.2 x d y⟩
inductive Mp(c:TI)(σ:L2.St)(H:Hp)(K:It->Hp->Prop):Prop
 |mk(b:It->Hp->Prop)(_:c σ H b)(_:∀ J a,b J a->K J a)
def PI.more{i g:Expr}{j:TI}(h:PI X i g j):PI X i g (Mp j):=λkg s σ H R I ⟨l,n,f⟩=>
 af (h kg s σ H l I n) (λ_ _ z=>af z (by rintro _ _ ⟨o,m,p,J,k,a,b,c,d,e,r⟩;exact⟨o,m,p,J,k,a,b,c,d,e,f _ _ r⟩) λ_ _ z=>z) λ_ _ z=>z
def Vm{c b:Expr}{x:Str}{o:aJ}{d:jx}{a:aF}{l:aJ}{r:TI}{q:TT}{p:TE}(k:jl)(e:jp)(u:X.calm=true)(w:PI X (.Name x o) b r)(B:∀ C s H f E,OU (Wg X (x::e) a (Wh X.env a.names []) C s H f E) d q)(v:∀ C s H f E,PE (Wg X (x::e) a (Wh X.env a.names []) C s H f E) c p)(t:YK X a k e)(y:Mu X.env a.names=true:=by rfl)(m:NY a x=true:=by rfl)(j:(x::e).Nodup:=by decide +kernel)(A:∀ x,foldedSetIterable b X.env x=pure x:=by intro _;rfl):
  PE X (.ListComp c [⟨.Name x o,b,d,0⟩] a l) (Ey r k q p):=by
 intro kg s σ H Q I h;let n:(relabel a X.env).names.lookup x=some .local:=lookup_relabel_local (M7 m).own;exact ZLp [x] x (g:=Pn 0) k e u (λ_ _ _ _ _=>IP (i:=0) j Z (Or.inl n) (Or.inr n)) (PI.more w) B v t y m A kg s σ H Q I ⟨_,h,λ_ _ z=>Wq.toT z⟩
def JD{d b:Expr}{x y:Str}{p t:aJ}{e:jx}{a:aF}{f c:aJ}{w:TI}{v:TT}{u:TE}{i:Nat}(o:jl)(j:jp)(B:X.N.Nodup)(l:X.N[i]? = some y)(O:X.env.scope.names.lookup y=some .local)(F:X.calm=true)(J:PI X (.Name x p) b w)(M:∀ C s H k E,OU (Wg X (x::j) a (Wh X.env a.names []) C s H k E) e v)(G:∀ C s H k E,PE (Wg X (x::j) a (Wh X.env a.names []) C s H k E) d u)(A:YK X a o j)(n:swapsWith (.ListComp d [⟨.Name x p,b,e,0⟩] a f) (some (.Name y t)) c.line X.env=pure true:=by rfl)(K:Mu X.env a.names=true:=by rfl)(q:NY a x=true:=by rfl)(m:(x::j).Nodup:=by decide +kernel)(L:∀ x,foldedSetIterable b X.env x=pure x:=by intro _;rfl):
  PS X (.Assign [.Name y t] (.ListComp d [⟨.Name x p,b,e,0⟩] a f) c) (GL i (Ey w o v u)):=by
 intro kg s σ H D I h;let r:(relabel a X.env).names.lookup x=some .local:=lookup_relabel_local (M7 q).own;exact ZGQ [x] x (g:=Pn 0) o j B l O F (λ_ _ _ _ _=>IP (i:=0) m Z (Or.inl r) (Or.inr r)) (PI.more J) M G A n K q L kg s σ H D I ⟨_,h,λ_ _ z=>Wq.toT z⟩
end
end L2
local macro_rules|`(tactic|lia)=>`(tactic|first|assumption|exact wZ ‹_› ‹_›|exact yV ‹_› ‹_›|exact zN ‹_› ‹_›|exact zN ‹_› (yT rfl)|exact yV ‹_› (yT rfl)|exact wZ ‹_› (yT rfl)|exact zN (zN ‹_› ‹_›) (yT rfl)|exact zN (xO ‹_›) (zN ‹_› (yT rfl))|exact zN (xO (Eq.symm ‹_›)) (zN ‹_› (yT rfl))|exact xU ‹_›|exact Nat.pos_of_ne_zero ‹_›|exact rZ ‹_›|exact vI ‹_›|exact yT rfl|exact zY _|exact wV _ _|exact Nat.le_add_left _ _|exact vG _ _|exact Int.natCast_nonneg _|exact Nat.lt_of_not_le ‹_›|exact wU ‹_›|exact Int.lt_of_not_ge ‹_›|exact tS.mp ‹_›|exact tI ‹_› (wL _)|exact Nat.lt_of_lt_of_eq ‹_› (Eq.symm ‹_›)|exact Nat.lt_of_lt_of_eq ‹_› ‹_›|exact Eq.symm (Nat.succ_pred_eq_of_ne_zero ‹_›)|exact Nat.add_sub_of_le ‹_›|exact Nat.add_lt_of_lt_sub' ‹_›|exact Int.ofNat_lt.mpr ‹_›|exact wZ (wV _ _) ‹_›|exact zN (sI _ _) (vG _ _)|exact zN (sI _ _) (zN (vG _ _) ‹_›)|exact zN (vG _ _) ‹_›|exact Nat.le_sub_of_add_le' ‹_›|exact Nat.le_sub_of_add_le ‹_›|exact wF ‹_› ‹_›|exact wZ (xO ‹_›) ‹_›|lia (splits:=8))
namespace L2
open PySem PySem.Spec PyProof.Rows
inductive Kb(K:zZ)(a:jf)(H:Hp)(Q:VK):Prop
 |mk(x n t b:_)(_:a=[x,.ty n])(_:XC K H x t)(_:yS K t (.type n)=some b)(_:Q (.bl b) H)
def VZ:Vp X (.builtin "isinstance") (Kb X.K):=by
 intro a s l H k j Q I r h;let⟨x,n,t,b,rfl,g,e,q⟩:=h;let⟨u,i,rfl,d,c⟩:=N0 r;cases(show i=Value.type n from c);exact ZJV I d g e λf=>⟨.bl b,H,I.tok f,Z,q⟩
def Cs{K:zZ}:yS K (.type "bool") (.type "bool")=some true:=by kernel_rfl
def KU{K:zZ}:yS K (.type "int") (.type "bool")=some false:=by kernel_rfl
def ZOM{K:zZ}:yS K (.type "str") (.type "bool")=some false:=by kernel_rfl
def ZPQ{K:zZ}:yS K (.type "tuple") (.type "bool")=some false:=by kernel_rfl
def ME{K:zZ}:yS K (.type "int") (.type "int")=some true:=by kernel_rfl
def KO{K:zZ}:yS K (.type "str") (.type "int")=some false:=by kernel_rfl
def KR{K:zZ}:yS K (.type "tuple") (.type "int")=some false:=by kernel_rfl
def kit_is'{K:zZ}:yS K (.type "int") (.type "str")=some false:=by kernel_rfl
def Nu{K:zZ}:yS K (.type "str") (.type "str")=some true:=by kernel_rfl
def LR{K:zZ}:yS K (.type "tuple") (.type "str")=some false:=by kernel_rfl
def Gv{K:zZ}:yS K (.type "int") (.type "tuple")=some false:=by kernel_rfl
def FM{K:zZ}:yS K (.type "str") (.type "tuple")=some false:=by kernel_rfl
def Kt{K:zZ}:yS K (.type "tuple") (.type "tuple")=some true:=by kernel_rfl
theorem Ww:az "isinstance" = some (.builtin "isinstance"):=by decide +kernel
theorem KP:az "all" = some (.builtin "all"):=by decide +kernel
theorem HM:az "max" = some (.builtin "max"):=by decide +kernel
theorem FE:az "min" = some (.builtin "min"):=by decide +kernel
theorem Ir:az "abs" = some (.builtin "abs"):=by decide +kernel
theorem X3:az "len" = some (.builtin "len"):=by decide +kernel
theorem Lg:az "bool" = some (.type "bool"):=by decide +kernel
theorem P4:az "int" = some (.type "int"):=by decide +kernel
theorem MB:az "str" = some (.type "str"):=by decide +kernel
theorem Pz:az "tuple" = some (.type "tuple"):=by decide +kernel
theorem P0:az "list" = some (.type "list"):=by decide +kernel
inductive UP(x y:V)(H:Hp)(Q:VK):Prop
 |mk(i j:_)(_:x=.str i)(_:y=.str j)(_:Q (.bl (!decide (j.cps.toList<i.cps.toList))) H)
def Dk:Yy X (aA .LtE) (UP):=by
 intro a s e H x y v u Q I b c h;let⟨i,j,rfl,rfl,q⟩:=h;let⟨t,rfl⟩:=b;let⟨d,rfl⟩:=c;exact PySem.P.le_str (Y4 I q (by simp))
inductive UQ(a:zZ)(x y:V)(H:Hp)(Q:VK):Prop
 |mk(p b c:_)(_:x=.ref p)(_:y=.ref b)(_:ZK a H p c)(_:ZK a H b [])(_:Q (.bl c.isEmpty) H)
def Gb(f:X.A.units<cLine):Yy X (aA .Eq) (UQ X.K):=by
 intro l s G H x y v u Q I B C h;let⟨p,b,D,rfl,rfl,c,o,q⟩:=h;cases B;cases C;let⟨d,w,i,E⟩:=I.list c;let⟨a,z,k,F⟩:=I.list o;let g:=w.length;let t:=z.length;let n:a=[]:=vP (by rw[<-t];rfl)
 subst n
 cases D with
 | nil=>
  let m:d=[]:=vP (by rw[<-g];rfl)
  subst m;exact PySem.SeqAt.eq_listAt (e:=λ_=>true) i.isList k.isList Z f (λj c _=>absurd c (by simp)) (Y4 I q (by simp))
 | cons x r=>exact PySem.SeqAt.eq_list_lengthsAt i.isList k.isList (by simp;intro e;subst e;simp at g) f (Y4 I q Z)
def ZQm(i j:Int):Prop:=0<j/\j.natAbs.log2<9000
def ZNx:Yy X (binaryOp .FloorDiv) (rI ZQm λi j=>.int (i / j)):=Mt λi j _ _ _ _ _ a q=>by
 let b:(0:Int)<j:=a.1;exact floordiv_int ∅ (by rw[qQ i ∅];exact q) (.inl (PyProof.noPylong_of_log2 a.2))
inductive Po(x:V)(b:jf)(H:Hp)(Q:VK):Prop
 |mk(l:ak)(a:jf)(i:Nat)(y:V)(_:x=.ref l)(_:b=[.int (i:Int),y])(_:H l=some (.lst a))(_:i<=a.length)(_:a.length<ar)(_:Q .non (upd H l (.lst (a.take i++y::a.drop i))))
theorem ZFN{l:ak}{a:je}{n:Nat}{x:Int}{t:Tok}{u:aj}{A:ay}{b:am}{w:ax}{E:ja}{s:al}{Q:ja}(e:s.heap.get? l=some { cls:=.type "list",data:=.seq a.toArray n })(c:Builtin.List.listFitsIndex x=true)(d:a.length<=ar)(j:0<=x)(k:x.toNat<=a.length)(h:∀ g:js->js,g a.toArray=(a.take x.toNat++u::a.drop x.toNat).toArray->Q .none { s with heap:=s.heap.update l (Obj.mapSeq g) }):aC (aB b w) A (call (.builtin "list.insert") [.ref l,.int x t,u]) Q E s:=by
 refine call_meets F.slot_list_insert ⟨_,e,Z⟩ F.entry_list_insert (F.args_list_insert_3 _ _ _) (PySem.AutoSeq1.list_insert_list_int_val_1 l a.toArray n x t u (by rw[c];exact zW) (by rw[zL];exact d)) ⟨e,h _ ?_⟩
 let f:¬ (x<0):=∅
 let i:min x.toNat a.length=x.toNat:=∅
 simp only[zL,f,if_false,i];apply tP.mp;simp;exact yY (by rw[yD];exact zY _)
theorem ZIi:Lj X "list.insert" Po:=by
 intro k s K H x G v F Q I B A h;let⟨l,J,i,y,rfl,rfl,d,u,D,q⟩:=h;cases B;let⟨E,C,rfl,⟨t,rfl⟩,w⟩:=A.two;let⟨z,b,n,r,j,e⟩:=I.lstM d;let p:=Ot;let c:(i:Int).toNat=i:=tO i;let a:Builtin.List.listFitsIndex (i:Int)=true:=by
  unfold Builtin.List.listFitsIndex;let m:(-(2 ^ 63:Int)<=(i:Int)):=nofun
  let o:((i:Int)<2 ^ 63):=nofun
  exact Bool.and_eq_true_iff.mpr ⟨aM m,aM o⟩
 refine ZFN e a (by rw[<-j];exact z) nofun (by rw[c,<-j];exact u) λg f=>?_
 rw[c] at f;refine⟨.non,_,I.lset (its':=b.take i++C::b.drop i) d e f ((r.take i).append (.cons w (r.drop i))) ?_,Z,q⟩;rw[zS,zO,yP,yD]
 lia (splits:=8)
inductive Pb(b:zZ)(c:jf)(H:Hp)(Q:VK):Prop
 |mk(p:ak)(a:List Bool)(_:c=[.ref p])(_:ZK b H p (a.map V.bl))(_:Q (.bl (a.all id)) H)
def Lh(C:X.calm=true):Vp X (.builtin "all") (Pb X.K):=by
 intro w s Y H W V Q I r h;let⟨p,a,rfl,G,q⟩:=h;let⟨u,rfl,L⟩:=QF r;cases L;let⟨c,y,k,T⟩:=I.list G;let t:=y.length;let g:p<s.heap.objs.size:=by let⟨_,e,_⟩:=k.isList;exact zG e
 let j:p≠s.heap.objs.size:=yK g;let D:=I.ok.hd C;let N:∀(i:Nat)(v:aj),c.toArray[i]? = some v->v=.bool (a.getD i true):=λi v J=>by
  let d:c[i]? = some v:=by simpa using J
  let S:i<c.length:=(zE.mp d).1;let n:i<a.length:=by rw[zX] at t;lia
  let⟨u,l,f⟩:=y.get (i:=i) (x:=.bl a[i]) (by rw[zH,zV n];rfl)
  rw[d] at l;cases l;rw[show v=Value.bool a[i] from f,zU,zV n];rfl
 refine call_all_walk (wpAny_pyIter_list k.isList ?_);refine⟨_,_,_,_,_,_,(λi=>a.getD i true),Z,Walks.list (A:=X.A.in1) D s.heap.objs.size p j c.toArray,⟨⟨_,yO _ Z,Z,Z⟩,k.isList.push _⟩,λi v U P O z B=>?_,λR M E=>?_⟩
 ·rw[N i v z];exact wpAny_truthy_bool B
 ·let e:(yL c.toArray.size).all (λi=>a.getD i true)=a.all id:=by
   rw[zL,<-t,zX];let f:a.all id=((yL a.length).map λi=>a.getD i true).all id:=by rw[range_getD]
   rw[f,vM];rfl
  rw[e];refine⟨.bl (a.all id),H,I.kept (t':=M) λb o m=>E b o ?_ (zB _ m),Z,q⟩;intro F;exact absurd (zG m) (by rw[yZ.mp F];exact vX _)
section
variable{R:Result->al->Prop}
end
def GZ(x:Str):It:=⟨λi _=>i<x.cps.size,λi H v a=>a=H/\∃ c,x.cps[i]? = some c/\v=.str ⟨#[c]⟩,λi _=>i=x.cps.size⟩
def Ez{P:am}{w:ax}{K:zZ}{tg:Expr}(ty:String)(hty:["enumerate","zip","dict_itemiterator","dict_reverseitemiterator","odict_iterator","itertools.zip_longest","itertools.pairwise"].contains ty=false)(x:Str)(t:Tok)(it:ak)(W:∀ A:ay,A.handled=none->Walks P w A it [it] [it] x.cps.size (SignAt x) (λi h=>h.IsStrIter it ty x t i))(self:∀ (A:ay) (i:Nat) (s:al) (Q:ja) (E:ja),s.heap.IsStrIter it ty x t i->Q (.ref it) s->aC (aB P w) A (pyIter (.ref it)) Q E s):
  Vo P w K tg (GZ x) [it] it (λi h=>h.IsStrIter it ty x t i) where
 mem:=by simp
 obj:=λi h st b hb=>by
  let e:b=it:=by simpa using hb
  subst e;let⟨o,e,c,d⟩:=st;exact⟨o,e,λv z=>by rw[d] at z;cases z⟩
 keep:=λi h h' ⟨o,e,r⟩ k=>⟨o,k it (by simp) o e,r⟩
 item:=by
  intro X hP hw hK hc i kg s σ H E I hf st hg;subst hP hw hK;let⟨f0,f1,f2,f3,f4,f5⟩:=hf it (by simp)
  refine(W X.A (I.ok.hd hc)).item i s _ _ hg st λv h' tk hv st' kk=>?_;let⟨c,u,hx,rfl⟩:=hv;let I1:ZF X kg σ H { s with heap:=h',toks:=tk }:=I.turned (λb o hb e=>kk b o (by simpa using hb) e) f0 f1 f3 f4 f5
  let⟨o,e,cl,d⟩:=id st';exact⟨_,Z,N9 (s:={ s with heap:=h',toks:=tk }) e cl d hty ⟨.str ⟨#[c]⟩,H,I1,⟨u,Z⟩,⟨Z,c,hx,Z⟩,st',λb hb=>(hf b hb).1⟩⟩
 done:=by
  intro X hP hw hK hc i kg s σ H E I hf st hg;subst hP hw hK;let⟨f0,f1,f2,f3,f4,f5⟩:=hf it (by simp)
  let hi:i=x.cps.size:=hg;subst hi;exact(W X.A (I.ok.hd hc)).done s _ _ st λh' tk kk=>⟨Z,I.turned (λb o hb e=>kk b o (by simpa using hb) e) f0 f1 f3 f4 f5⟩
 self:=self
section
variable{tg:Expr}
inductive N8(R:It->Hp->Prop)(v:V)(a:Hp):Prop
 |mk(x:_)(_:v=.str x)(_:R (GZ x) a)
def ZRb(b:TE):TI:=λc H R=>b c H λv a=>N8 R v a
def ZPT{l:Expr}{n:TE}(r:PE X l n):PI X tg l (ZRb n):=by
 intro a s w H R I h;refine Z2 (r a s w H _ I h) ?_;rintro v c ⟨z,f,d,u,x,e,q⟩;subst e;let⟨t,rfl⟩:=u;let k:∀ b∈[c.heap.objs.size],VW X a f b:=λb p=>by
  rw[yZ.mp p];exact d.fpOk (zY _) (d.hok.fresh (zY _))
 cases m:x.cps.all (· < 128)
 ·exact wpAny_pyIter_wide m ⟨c.heap.objs.size,[c.heap.objs.size],_,_,f,Z,d.kept (t':=c.toks) λb o e=>zB _ e,
   Ez "str_iterator" (by decide) x t _ (λA g=>Walks.strWide g _ x t) (λA i s Q E j h=>wpAny_pyIter_striter_wide j h),⟨_,yO _ Z,Z,Z⟩,k,q⟩
 ·exact wpAny_pyIter_ascii m ⟨c.heap.objs.size,[c.heap.objs.size],_,_,f,Z,d.kept (t':=c.toks) λb o e=>zB _ e,
   Ez "str_ascii_iterator" (by decide) x t _ (λA g=>Walks.strAscii g _ x t) (λA i s Q E j h=>wpAny_pyIter_striter_ascii j h),⟨_,yO _ Z,Z,Z⟩,k,q⟩
end
section
variable{σ:St}{H:Hp}{ix:jl}{te:TE}{Q:VK}
theorem Ue{J:It}{n:Nat}(d:Nat->V->Prop)(c:ak->Nat->jf->Hp->Prop)(z:n<ar)(k:∀ D i a H,i<n->c D i a H->J.go i H)(t:∀ D i a H x g,i<n->c D i a H->J.yld i H x g->g=H/\d i x)(f:∀ D a H,c D n a H->J.stop n H)(q:∀ D,H D=none->c D 0 [] (upd H D (.lst [])))(step:∀ D i a H x,H D=some (.lst a)->a.length<=i->i<n->d i x->c D i a H->∀ R:VK,(∀ y h,h D=some (.lst a)->c D (i+1) (a++[y]) (upd h D (.lst (a++[y])))->R y h)->te (OF σ ix x) H R)(j:∀ D a H,H D=some (.lst a)->c D n a H->Q (.ref D) H):Wq J σ ix He te H Q:=by
 intro D r;exists λi m H=>m=n-i/\i<=n/\∃ a,H D=some (.lst a)/\a.length<=i/\c D i a H,⟨n,rfl,zD _,[],ZV,zY _,q D r⟩;rintro i m H ⟨rfl,w,a,e,s,p⟩;by_cases b:i<n
 ·refine .inr ⟨k D i a H b p,λx g y=>?_⟩;let⟨rfl,u⟩:=t D i a H x g b p y;unfold He;dsimp only;rw[aP rfl];refine step D i a _ x e s b u p _ λy h o v=>?_;exact⟨a,n-(i+1),o,∅,∅,Z,b,a++[y],ZV,by rw[zS,wY];lia,v⟩
 ·let l:i=n:=∅
  subst l;exact .inl ⟨f D a H p,j D a H e p⟩
def ZGt{J:It}{n:Nat}{s:TT}(c:Nat->V->Prop)(d:V->Bool)(f:ak->Nat->jf->Hp->Prop)(C:n<ar)(l:∀ D i a H,i<n->f D i a H->J.go i H)(z:∀ D i a H x j,i<n->f D i a H->J.yld i H x j->j=H/\c i x)(g:∀ D a H,f D n a H->J.stop n H)(u:∀ D,H D=none->f D 0 [] (upd H D (.lst [])))(h:∀ D i a H x,i<n->c i x->f D i a H->∀ R:Bool->Hp->Prop,R (d x) H->s (OF σ ix x) H R)(q:∀ D i a H x,H D=some (.lst a)->i<n->c i x->d x=true->f D i a H->f D (i+1) (a++[x]) (upd H D (.lst (a++[x]))))(A:∀ D i a H x,H D=some (.lst a)->i<n->c i x->d x=false->f D i a H->f D (i+1) a H)(k:∀ D a H,H D=some (.lst a)->f D n a H->Q (.ref D) H):Wq J σ ix s (Qv 0) H Q:=by
 intro D v;exists λi m H=>m=n-i/\i<=n/\∃ a,H D=some (.lst a)/\a.length<=i/\f D i a H,⟨n,rfl,zD _,[],ZV,zY _,u D v⟩;rintro i m H ⟨rfl,B,a,e,w,p⟩;by_cases b:i<n
 ·refine .inr ⟨l D i a H b p,λx j y=>?_⟩;let⟨rfl,o⟩:=z D i a H x j b p y;refine h D i a _ x b o p _ ?_
  cases r:d x with
  | true=>
   rw[aP rfl];exact⟨x,Z,a,n-(i+1),e,∅,∅,Z,b,a++[x],ZV,by rw[zS,wY];lia,q D i a _ x e b o r p⟩
  | false=>
   rw[aO zW];exact⟨n-(i+1),∅,Z,b,a,e,rZ w,A D i a _ x e b o r p⟩
 ·let t:i=n:=∅
  subst t;exact .inl ⟨g D a H p,k D a H e p⟩
end
end L2
namespace Tw
open PySem
inductive KT where
 | int (i:Int)
 | str (x:Str)
 | tup (l:List KT)
abbrev jk:=List KT
abbrev jG:=Option KT
mutual
noncomputable def KT.depth:KT->Nat
 | .int _=>0
 | .str _=>0
 | .tup l=>1+jY l
noncomputable def jY:jk->Nat
 | []=>0
 | t::r=>max t.depth (jY r)
end
mutual
noncomputable def KT.size:KT->Nat
 | .int _=>1
 | .str _=>1
 | .tup l=>1+sizeL l
noncomputable def sizeL:jk->Nat
 | []=>0
 | t::r=>t.size+sizeL r
end
noncomputable def QY(c:Nat):Bool:=decide (32<=c)&&decide (c<=126)
def Qw(x:Str):Bool:=decide (x.length<=40)&&x.cps.toList.all QY
mutual
def KT.fits:KT->Nat->Bool
 | .int i,_=>decide (i.natAbs<10 ^ 60)
 | .str x,_=>Qw x
 | .tup l,r=>decide (0<r)&&(decide (l.length<=4)&&fitsL l (r-1))
def fitsL:jk->Nat->Bool
 | [],_=>true
 | t::l,r=>t.fits r&&fitsL l r
end
theorem M0(r:Nat):∀ l:jk,fitsL l r=l.all λt=>t.fits r
 | []=>by simp[fitsL]
 | t::l=>by rw[fitsL,uS,M0 r l]
mutual
theorem Vf:∀(t:KT)(r:Nat),t.fits r=true->t.depth<=r
 | .int _,r,_=>by rw[KT.depth];exact zD _
 | .str _,r,_=>by rw[KT.depth];exact zD _
 | .tup l,r,h=>by
  rw[KT.fits,zP,zP] at h;let⟨h1,_,h3⟩:=h;let h1':0<r:=of_decide_eq_true h1;have:=fitsL_depth l (r-1) h3;rw[KT.depth]
  lia
theorem fitsL_depth:∀(l:jk)(r:Nat),fitsL l r=true->jY l<=r
 | [],r,_=>by rw[jY];exact zD _
 | t::l,r,h=>by
  rw[fitsL,zP] at h;let a:=Vf t r h.1;let b:=fitsL_depth l r h.2;rw[jY]
  lia
end
noncomputable def KT.things:KT->jk
 | .tup l=>l
 | _=>[]
def below(l:jk):jk:=l.flatMap KT.things
end Tw
namespace Tw
open PySem PySem.Spec L2
structure ZA(P:am)(w:ax)(K:zZ)(mg:jc)(kh:aE)(k:Nat)(x:Str)(ps:jp)(sp:Sp):Prop where
 ex:∃ f fd,ZI P w K mg kh ZO k f fd ps sp/\Zq K fd ps []/\yG K (.ref f)=true/\mg x=some (.ref f)
def Ze{X:Cx}{k:Nat}{x:Str}{q:jp}{h:Sp}{e:Expr}{a:jx}{t:TA}{p c:aJ}(D:ZA X.prog X.w X.K X.mg X.base k x q h)(n:ZS k X.A)(i:PA X (e::a) t)(l:Gl X x:=by rfl)(d:(x==("__debug__" : Str))=false:=by decide)(j:aw (e::a) X.env=(false,aH e X.env)::aw a X.env:=by rfl)(g:(aG c (aw a X.env)).any (·.1)=false:=by rfl):
  PE X (.Call (.Name x p) (e::a) [] c) (KZ h [] E0 t):=by
 let⟨f,r,F,b,o,m⟩:=D.ex;exact E3 F n l m o b .nil YG i d j g
mutual
def ZC(H:Hp):KT->V->Prop
 | .int i,v=>v=.int i
 | .str x,v=>v=.str x
 | .tup l,v=>∃ a vs,v=.ref a/\H a=some (.tup vs)/\jV H l vs
def jV(H:Hp):jk->jf->Prop
 | [],vs=>vs=[]
 | t::l,vs=>∃ v r,vs=v::r/\ZC H t v/\jV H l r
end
def Zz(H c:Hp):Prop:=∀ b a,H b=some (.tup a)->c b=some (.tup a)
mutual
theorem ZC.mono{H H':Hp}(m:Zz H H'):∀(t:KT)(v:V),ZC H t v->ZC H' t v
 | .int _,_,h=>by rw[ZC] at h⊢;exact h
 | .str _,_,h=>by rw[ZC] at h⊢;exact h
 | .tup l,_,h=>by
  rw[ZC] at h⊢;let⟨a,vs,e,h1,h2⟩:=h;exact⟨a,vs,e,m a vs h1,jV.mono m l vs h2⟩
theorem jV.mono{H H':Hp}(m:Zz H H'):∀(l:jk)(vs:jf),jV H l vs->jV H' l vs
 | [],_,h=>by rw[jV] at h⊢;exact h
 | t::l,_,h=>by
  rw[jV] at h⊢;let⟨v,r,e,h1,h2⟩:=h;exact⟨v,r,e,ZC.mono m t v h1,jV.mono m l r h2⟩
end
def jV.nil{H:Hp}:jV H [] []:=by rw[jV]
def jV.cons{H:Hp}{t:KT}{l:jk}{v:V}{r:jf}(h:ZC H t v)(a:jV H l r):jV H (t::l) (v::r):=by
 rw[jV];exact⟨v,r,Z,h,a⟩
def ZC.tup{H:Hp}{a:ak}{b:jf}{l:jk}(e:H a=some (.tup b))(h:jV H l b):ZC H (.tup l) (.ref a):=by
 rw[ZC];exact⟨a,b,Z,e,h⟩
def ZC.int{H:Hp}(i:Int):ZC H (.int i) (.int i):=by rw[ZC]
def ZC.str{H:Hp}(x:Str):ZC H (.str x) (.str x):=by rw[ZC]
theorem jV.append{H:Hp}:∀{l m:jk}{a b:jf},jV H l a->jV H m b->jV H (l++m) (a++b)
 | [],m,a,b,h,g=>by rw[jV] at h;subst h;exact g
 | t::l,m,a,b,h,g=>by
  rw[jV] at h;let⟨v,r,rfl,c,d⟩:=h;exact .cons c (d.append g)
theorem jV.length{H:Hp}:∀{l:jk}{a:jf},jV H l a->l.length=a.length
 | [],a,h=>by rw[jV] at h;subst h;rfl
 | t::l,a,h=>by
  rw[jV] at h;let⟨v,r,rfl,_,b⟩:=h;rw[zO,zO,b.length]
theorem jV.get{H:Hp}:∀{l:jk}{a:jf}{i:Nat}{v:V},jV H l a->a[i]? = some v->∃ t,l[i]? = some t/\ZC H t v
 | [],a,i,v,h,e=>by rw[jV] at h;subst h;simp at e
 | t::l,a,0,v,h,e=>by
  rw[jV] at h;let⟨j,r,rfl,d,_⟩:=h;simp at e;subst e;exact⟨t,Z,d⟩
 | t::l,a,i+1,v,h,e=>by
  rw[jV] at h;let⟨j,r,rfl,_,f⟩:=h;let⟨g,b,c⟩:=f.get (i:=i) (by simpa using e)
  exact⟨g,by simpa using b,c⟩
theorem jV.take{H:Hp}:∀{l:jk}{a:jf}(n:Nat),jV H l a->jV H (l.take n) (a.take n)
 | l,a,0,_=>by simp only[vK];exact .nil
 | [],a,n+1,h=>by rw[jV] at h;subst h;exact .nil
 | t::l,a,n+1,h=>by
  rw[jV] at h;let⟨d,r,rfl,b,c⟩:=h;exact .cons b (c.take n)
theorem jV.drop{H:Hp}:∀{l:jk}{a:jf}(n:Nat),jV H l a->jV H (l.drop n) (a.drop n)
 | l,a,0,h=>h
 | [],a,n+1,h=>by rw[jV] at h;subst h;exact .nil
 | t::l,a,n+1,h=>by
  rw[jV] at h;let⟨d,r,rfl,c,b⟩:=h;exact b.drop n
noncomputable def KT.ty:KT->aj
 | .int _=>.type "int"
 | .str _=>.type "str"
 | .tup _=>.type "tuple"
def ZC.ty{H:Hp}{K:zZ}{t:KT}{v:V}(h:ZC H t v):XC K H v t.ty:=by
 cases t with
 | int i=>rw[ZC] at h;subst h;exact .int i
 | str x=>rw[ZC] at h;subst h;exact .str x
 | tup l=>rw[ZC] at h;let⟨a,b,rfl,e,_⟩:=h;exact .tup e
def ZH(p:ak)(H a:Hp):Prop:=∀ b o,H b=some o->b≠p->a b=some o
def ZH.refl(p:ak)(H:Hp):ZH p H H:=λ_ _ h _=>h
def ZH.trans{p:ak}{H d e:Hp}(a:ZH p H d)(b:ZH p d e):ZH p H e:=λc o h n=>b c o (a c o h n) n
def ZH.upd{p:ak}{H b:Hp}{o:HO}(a:ZH p H b):ZH p H (L2.upd b p o):=λc u h n=>by rw[ZR n];exact a c u h n
def ZH.of{p:ak}{H b:Hp}(a:ZE H b):ZH p H b:=λc o h _=>a c o h
def ZH.tups{p:ak}{H c:Hp}{d:jf}(a:ZH p H c)(h:H p=some (.lst d)):Zz H c:=λb f e=>a b _ e (ZY e h)
def ZE.tups{H c:Hp}(a:ZE H c):Zz H c:=λb d e=>a b _ e
def ZC.sm{H a:Hp}{t:KT}{v:V}(h:ZC H t v)(s:ZE H a):ZC a t v:=h.mono (ZE.tups s) _ _
def jV.sm{H a:Hp}{t:jk}{v:jf}(h:jV H t v)(s:ZE H a):jV a t v:=h.mono (ZE.tups s) _ _
def Zl{H:Hp}{p:ak}(h:H p=none)(o:HO):ZE H (L2.upd H p o):=λb u q=>by rw[ZR (Zd q h)];exact q
structure ZJ(H:Hp)(p:ak):Prop where
 ex:∃ a b c d:Int,H p=some (.lst [.int a,.int b,.int c,.int d])/\0<=a/\a<2147483647/\0<=c/\0<=d
def ZJ.stay{H f:Hp}{p q:ak}(w:ZJ H p)(s:ZH q H f)(n:p≠q):ZJ f p:=by
 let⟨a,b,c,d,e,r⟩:=w.ex;exact⟨a,b,c,d,s p _ e n,r⟩
def ZJ.same{H f:Hp}{p:ak}(w:ZJ H p)(s:ZE H f):ZJ f p:=by
 let⟨a,b,c,d,e,r⟩:=w.ex;exact⟨a,b,c,d,s p _ e,r⟩
def ZJ.some{H:Hp}{p:ak}(w:ZJ H p):∃ f,H p=yU (.lst f):=by
 let⟨a,b,c,d,e,r⟩:=w.ex;exact⟨_,e⟩
def ZH.tupsW{p:ak}{H b:Hp}(a:ZH p H b)(w:ZJ H p):Zz H b:=by
 let⟨c,e⟩:=w.some;exact a.tups e
def small(m:Int):Prop:=0<m/\m.natAbs.log2<9000
inductive VP(K:zZ)(d:jf)(H:Hp)(Q:VK)(_:XK):Prop
 |mk(a:ak)(c:jB)(k:Int)(_:d=[.ref a,.int k])(_:ZK K H a (c.map V.int))(_:c.length<=63)(_:0<=k)(_:k<=1000)(_:∀(p:ak)(b:Hp),H p=none->ZE H b->ZJ b p->Q (.ref p) b)
inductive Zy(b:jf)(H:Hp)(Q:VK)(_:XK):Prop
 |mk(p:ak)(m:Int)(_:b=[.ref p,.int m])(_:ZJ H p)(_:small m)(_:∀(r:Int)(a:Hp),0<=r->r<m->ZJ a p->ZH p H a->Q (.int r) a)
inductive WX(b:jf)(H:Hp)(Q:VK)(_:XK):Prop
 |mk(p:ak)(_:b=[.ref p])(_:ZJ H p)(_:∀(x:Str)(a:Hp),Qw x=true->ZJ a p->ZH p H a->Q (.str x) a)
inductive XT(n:Nat)(b:jf)(H:Hp)(Q:VK)(_:XK):Prop
 |mk(p:ak)(r:Nat)(_:b=[.ref p,.int (r:Int)])(_:ZJ H p)(_:r<n)(_:∀(v:V)(t:KT)(a:Hp),ZC a t v->t.fits r=true->ZJ a p->ZH p H a->Q v a)
inductive Us(a:jf)(H:Hp)(Q:VK)(_:XK):Prop
 |mk(i:Int)(_:a=[.int i])(_:Q (.bl (decide (i.natAbs<10 ^ 60))) H)
inductive VI(a:jf)(H:Hp)(Q:VK)(_:XK):Prop
 |mk(c:Nat)(_:a=[.str ⟨#[c]⟩])(_:Q (.bl (QY c)) H)
inductive U0(b:jf)(H:Hp)(Q:VK)(_:XK):Prop
 |mk(v:V)(t:KT)(q:Nat)(_:b=[v])(_:ZC H t v)(_:t.fits q=true)(_:∀ a,ZE H a->Q (.bl (t.fits 3)) a)
inductive QC(K:zZ)(d:jf)(H:Hp)(Q:VK)(_:XK):Prop
 |mk(a:ak)(b:jB)(_:d=[.ref a])(_:ZK K H a (b.map V.int))(_:b.length<=63)(_:∀ c,Q (.bl true) c)
def nn{n:Nat}(h:n<=1000):n<=sizeLine:=xU (XU h)
def YQ{n:Nat}(h:Nat.ble n 1000=true:=by rfl):n<=sizeLine:=nn (yT h)
theorem MZ{x y:V}{i:Int}(a:0<=i)(b:i<2):∃ v,Xq [x,y] i=some v/\(v=x\/v=y):=by
 rcases(show i=0\/i=1 by lia) with e | e
 ·subst e;exact⟨x,Z,.inl Z⟩
 ·subst e;exact⟨y,Z,.inr Z⟩
theorem Nd{b:Type}{xs:List b}{i:Int}(c:0<=i)(d:i<(xs.length:Int)):∃ v,Xq xs i=some v/\v∈xs:=by
 let a:i.toNat<xs.length:=∅
 let e:i=((i.toNat:Nat):Int):=∅
 rw[e];exact⟨xs[i.toNat],VD (zV a),xL a⟩
theorem Wy{m:Int}(a:0<m)(b:m.natAbs<2 ^ 250):small m:=by
 exists a;have:m.natAbs.log2<250:=(Nat.log2_lt ∅).mpr b
 lia
def NC{i j:Int}(h:V.int i=V.int j):i=j:=by injection h
theorem ZLf(c:Nat):((!decide ([c]<[32])) && !decide ([126]<[c]))=QY c:=by
 unfold QY;let a:([c]<[32]) ↔ c<32:=by simp[uA]
 let b:([126]<[c]) ↔ 126<c:=by simp[uA]
 rw[wC];simp only[zP,Bool.not_eq_true',decide_eq_false_iff_not,decide_eq_true_eq,a,b]
 lia
theorem ZOs(i:Int):decide ((if i<0 then -i else i)<10 ^ (60:Int).toNat)=decide (i.natAbs<10 ^ 60):=by
 let e:((10:Int) ^ (60:Int).toNat)=((10 ^ 60:Nat):Int):=by decide +kernel
 rw[e];generalize (10 ^ 60:Nat)=N;apply decide_eq_decide.mpr;split <;> lia
end Tw
namespace Tw
open PySem
mutual
noncomputable def KT.eqb:KT->KT->Bool
 | .int i,.int j=>i==j
 | .str x,.str y=>x==y
 | .tup l,.tup m=>jX l m
 | _,_=>false
noncomputable def jX:jk->jk->Bool
 | [],[]=>true
 | a::l,b::m=>a.eqb b&&jX l m
 | _,_=>false
end
mutual
def KT.plt:KT->KT->Bool
 | .int i,.int j=>decide (i<j)
 | .str x,.str y=>decide (x.cps.toList<y.cps.toList)
 | .tup l,.tup m=>pltL l m
 | _,_=>false
def pltL:jk->jk->Bool
 | [],[]=>false
 | [],_::_=>true
 | _::_,[]=>false
 | a::l,b::m=>if a.eqb b=true then pltL l m else a.plt b
end
mutual
def KT.cmp:KT->KT->Bool
 | .int _,.int _=>true
 | .str _,.str _=>true
 | .tup l,.tup m=>cmpL l m
 | _,_=>false
def cmpL:jk->jk->Bool
 | [],_=>true
 | _::_,[]=>true
 | a::l,b::m=>if a.eqb b=true then cmpL l m else a.cmp b
end
def KT.kind:KT->Nat
 | .int _=>0
 | .str _=>1
 | .tup _=>2
mutual
def KT.lt:KT->KT->Bool
 | .int i,.int j=>decide (i<j)
 | .int _,.str _=>true
 | .int _,.tup _=>true
 | .str _,.int _=>false
 | .str x,.str y=>decide (x.cps.toList<y.cps.toList)
 | .str _,.tup _=>true
 | .tup _,.int _=>false
 | .tup _,.str _=>false
 | .tup l,.tup m=>ltL l m
def ltL:jk->jk->Bool
 | [],[]=>false
 | [],_::_=>true
 | _::_,[]=>false
 | a::l,b::m=>if a.eqb b=true then ltL l m else a.lt b
end
mutual
noncomputable def KT.st:KT->KT
 | .int i=>.tup [.int 0,.int i]
 | .str x=>.tup [.int 1,.str x]
 | .tup l=>.tup [.int 2,.tup (stL l)]
noncomputable def stL:jk->jk
 | []=>[]
 | t::l=>t.st::stL l
end
theorem GO:∀ l:jk,stL l=l.map KT.st
 | []=>by rw[stL];rfl
 | t::l=>by rw[stL,GO l];rfl
mutual
theorem Vw:∀(a b:KT),a.eqb b=true->a=b
 | .int i,.int j,h=>by rw[KT.eqb] at h;rw[eq_of_beq h]
 | .str x,.str y,h=>by rw[KT.eqb] at h;rw[eq_of_beq h]
 | .tup l,.tup m,h=>by rw[KT.eqb] at h;rw[eqbL_eq l m h]
 | .int _,.str _,h=>by simp[KT.eqb] at h
 | .int _,.tup _,h=>by simp[KT.eqb] at h
 | .str _,.int _,h=>by simp[KT.eqb] at h
 | .str _,.tup _,h=>by simp[KT.eqb] at h
 | .tup _,.int _,h=>by simp[KT.eqb] at h
 | .tup _,.str _,h=>by simp[KT.eqb] at h
theorem eqbL_eq:∀(l m:jk),jX l m=true->l=m
 | [],[],_=>rfl
 | a::l,b::m,h=>by
  rw[jX,zP] at h;rw[Vw a b h.1,eqbL_eq l m h.2]
 | [],_::_,h=>by simp[jX] at h
 | _::_,[],h=>by simp[jX] at h
end
mutual
theorem V6:∀ a:KT,a.eqb a=true
 | .int i=>by rw[KT.eqb];exact beq_self_eq_true i
 | .str x=>by rw[KT.eqb];exact beq_self_eq_true x
 | .tup l=>by rw[KT.eqb];exact eqbL_self l
theorem eqbL_self:∀ l:jk,jX l l=true
 | []=>by rw[jX]
 | a::l=>by rw[jX,V6 a,eqbL_self l];rfl
end
def Yx{a b:KT}:a.eqb b=true ↔ a=b:=⟨Vw a b,λe=>by rw[e];exact V6 b⟩
mutual
theorem Dt:∀ a b:KT,a.st.eqb b.st=a.eqb b
 | .int i,.int j=>by simp[KT.st,KT.eqb,jX]
 | .str x,.str y=>by simp[KT.st,KT.eqb,jX]
 | .tup l,.tup m=>by simp[KT.st,KT.eqb,jX,eqbL_st l m]
 | .int _,.str _=>by simp[KT.st,KT.eqb,jX]
 | .int _,.tup _=>by simp[KT.st,KT.eqb,jX]
 | .str _,.int _=>by simp[KT.st,KT.eqb,jX]
 | .str _,.tup _=>by simp[KT.st,KT.eqb,jX]
 | .tup _,.int _=>by simp[KT.st,KT.eqb,jX]
 | .tup _,.str _=>by simp[KT.st,KT.eqb,jX]
theorem eqbL_st:∀ l m:jk,jX (stL l) (stL m)=jX l m
 | [],[]=>by simp[stL,jX]
 | a::l,b::m=>by simp[stL,jX,Dt a b,eqbL_st l m]
 | [],_::_=>by simp[stL,jX]
 | _::_,[]=>by simp[stL,jX]
end
theorem Fi:∀ l:jk,ltL l l=false
 | []=>by rw[ltL]
 | a::l=>by rw[ltL,V6 a,aP rfl,Fi l]
def Cr{l m:jk}(h:jX l m=true):ltL l m=false:=by
 rw[eqbL_eq l m h];exact Fi m
mutual
theorem Ev:∀ a b:KT,a.st.cmp b.st=true
 | .int i,.int j=>by simp[KT.st,KT.eqb,KT.cmp,cmpL]
 | .str x,.str y=>by simp[KT.st,KT.eqb,KT.cmp,cmpL]
 | .tup l,.tup m=>by simp[KT.st,KT.eqb,KT.cmp,cmpL,cmpL_st l m]
 | .int _,.str _=>by simp[KT.st,KT.eqb,KT.cmp,cmpL]
 | .int _,.tup _=>by simp[KT.st,KT.eqb,KT.cmp,cmpL]
 | .str _,.int _=>by simp[KT.st,KT.eqb,KT.cmp,cmpL]
 | .str _,.tup _=>by simp[KT.st,KT.eqb,KT.cmp,cmpL]
 | .tup _,.int _=>by simp[KT.st,KT.eqb,KT.cmp,cmpL]
 | .tup _,.str _=>by simp[KT.st,KT.eqb,KT.cmp,cmpL]
theorem cmpL_st:∀ l m:jk,cmpL (stL l) (stL m)=true
 | [],_=>by simp[stL,cmpL]
 | _::_,[]=>by simp[stL,cmpL]
 | a::l,b::m=>by
  rw[stL,stL,cmpL,cmpL_st l m,Ev a b];split <;> rfl
end
mutual
theorem Gi:∀ a b:KT,a.st.plt b.st=a.lt b
 | .int i,.int j=>by
  simp only[KT.st,KT.eqb,KT.plt,pltL,KT.lt,beq_self_eq_true,if_true];by_cases h:i=j
  ·subst h;simp
  ·simp[h]
 | .str x,.str y=>by
  simp only[KT.st,KT.eqb,KT.plt,pltL,KT.lt,beq_self_eq_true,if_true];by_cases h:x=y
  ·subst h;simp
  ·simp[h]
 | .tup l,.tup m=>by
  simp only[KT.st,KT.eqb,KT.plt,pltL,KT.lt,beq_self_eq_true,if_true,eqbL_st,pltL_st l m]
  cases h:jX l m with
  | true=>rw[aP rfl,Cr h]
  | false=>rw[aO zW]
 | .int _,.str _=>by simp[KT.st,KT.eqb,KT.plt,pltL,KT.lt]
 | .int _,.tup _=>by simp[KT.st,KT.eqb,KT.plt,pltL,KT.lt]
 | .str _,.int _=>by simp[KT.st,KT.eqb,KT.plt,pltL,KT.lt]
 | .str _,.tup _=>by simp[KT.st,KT.eqb,KT.plt,pltL,KT.lt]
 | .tup _,.int _=>by simp[KT.st,KT.eqb,KT.plt,pltL,KT.lt]
 | .tup _,.str _=>by simp[KT.st,KT.eqb,KT.plt,pltL,KT.lt]
theorem pltL_st:∀ l m:jk,pltL (stL l) (stL m)=ltL l m
 | [],[]=>by simp[stL,pltL,ltL]
 | [],_::_=>by simp[stL,pltL,ltL]
 | _::_,[]=>by simp[stL,pltL,ltL]
 | a::l,b::m=>by rw[stL,stL,pltL,ltL,Dt a b,pltL_st l m,Gi a b]
end
mutual
theorem D3:∀ t:KT,t.st.depth<=2 * t.depth+1
 | .int i=>by simp[KT.st,KT.depth,jY]
 | .str x=>by simp[KT.st,KT.depth,jY]
 | .tup l=>by
  have:=depthL_st l;simp only[KT.st,KT.depth,jY]
  lia
theorem depthL_st:∀ l:jk,jY (stL l)<=2 * jY l+1
 | []=>by simp[stL,jY]
 | t::l=>by
  let a:=D3 t;let b:=depthL_st l;rw[stL,jY,jY]
  lia
end
def Bt{x:Str}(h:Qw x=true):x.cps.size<=40/\x.cps.toList.all QY=true:=by
 unfold Qw at h;rw[zP] at h;exact⟨of_decide_eq_true h.1,h.2⟩
theorem Hw:∀(l m:jl),l<m->¬ m<l
 | [],[],h,_=>absurd h (uQ _)
 | [],_::_,_,h=>absurd h (uQ _)
 | _::_,[],h,_=>absurd h (uQ _)
 | a::l,b::m,h,c=>by
  rw[uA] at h c;rcases h with h | ⟨rfl,h⟩
  ·rcases c with c | ⟨rfl,c⟩
   ·lia
   ·lia
  ·rcases c with c | ⟨_,c⟩
   ·lia
   ·exact Hw l m h c
theorem Fw:∀(l m:jl),¬ l<m->¬ m<l->l=m
 | [],[],_,_=>rfl
 | [],_::_,h,_=>absurd (sE _ _) h
 | _::_,[],_,h=>absurd (sE _ _) h
 | a::l,b::m,h,h'=>by
  rw[uA] at h h';let e:a=b:=by
   rcases Nat.lt_trichotomy a b with c | c | c
   ·exact absurd (.inl c) h
   ·exact c
   ·exact absurd (.inl c) h'
  subst e;rw[Fw l m (λz=>h (.inr ⟨rfl,z⟩)) λz=>h' (.inr ⟨rfl,z⟩)]
theorem Fn:∀(l m k:jl),l<m->m<k->l<k
 | _,_,[],_,h=>absurd h (uQ _)
 | [],_,_::_,_,_=>sE _ _
 | _::_,[],_,h,_=>absurd h (uQ _)
 | a::l,b::m,c::k,h,d=>by
  rw[uA] at h d⊢;rcases h with h | ⟨rfl,h⟩
  ·rcases d with d | ⟨rfl,d⟩
   ·exact .inl (Nat.lt_trans h d)
   ·exact .inl h
  ·rcases d with d | ⟨rfl,d⟩
   ·exact .inl d
   ·exact .inr ⟨Z,Fn l m k h d⟩
def eqb_comm'(a b:KT):a.eqb b=b.eqb a:=by
 rw[wC,Yx,Yx];exact eq_comm
mutual
theorem Pv:∀(a b:KT),a.lt b=true->b.lt a=false
 | .int i,.int j,h=>by rw[KT.lt] at h⊢;have:=of_decide_eq_true h;exact aK ∅
 | .int _,.str _,_=>by rw[KT.lt]
 | .int _,.tup _,_=>by rw[KT.lt]
 | .str _,.int _,h=>by rw[KT.lt] at h;cases h
 | .str x,.str y,h=>by rw[KT.lt] at h⊢;exact aK (Hw _ _ (of_decide_eq_true h))
 | .str _,.tup _,_=>by rw[KT.lt]
 | .tup _,.int _,h=>by rw[KT.lt] at h;cases h
 | .tup _,.str _,h=>by rw[KT.lt] at h;cases h
 | .tup l,.tup m,h=>by rw[KT.lt] at h⊢;exact ltL_asym l m h
theorem ltL_asym:∀(l m:jk),ltL l m=true->ltL m l=false
 | [],[],h=>by rw[ltL] at h;cases h
 | [],_::_,_=>by rw[ltL]
 | _::_,[],h=>by rw[ltL] at h;cases h
 | a::l,b::m,h=>by
  rw[ltL] at h⊢;rw[eqb_comm' b a]
  cases e:a.eqb b with
  | true=>rw[e,aP rfl] at h;rw[aP rfl];exact ltL_asym l m h
  | false=>rw[e,aO zW] at h;rw[aO zW];exact Pv a b h
end
mutual
theorem ML:∀(a b:KT),a.lt b=false->b.lt a=false->a=b
 | .int i,.int j,h,h'=>by rw[KT.lt] at h h';have:=of_decide_eq_false h;have:=of_decide_eq_false h';rw[show i=j by lia]
 | .int _,.str _,h,_=>by rw[KT.lt] at h;cases h
 | .int _,.tup _,h,_=>by rw[KT.lt] at h;cases h
 | .str _,.int _,_,h=>by rw[KT.lt] at h;cases h
 | .str x,.str y,h,h'=>by
  rw[KT.lt] at h h';let e:=Fw _ _ (of_decide_eq_false h) (of_decide_eq_false h');let⟨⟨x⟩⟩:=x;let⟨⟨y⟩⟩:=y;dsimp only at e;rw[e]
 | .str _,.tup _,h,_=>by rw[KT.lt] at h;cases h
 | .tup _,.int _,_,h=>by rw[KT.lt] at h;cases h
 | .tup _,.str _,_,h=>by rw[KT.lt] at h;cases h
 | .tup l,.tup m,h,h'=>by rw[KT.lt] at h h';rw[ltL_total l m h h']
theorem ltL_total:∀(l m:jk),ltL l m=false->ltL m l=false->l=m
 | [],[],_,_=>rfl
 | [],_::_,h,_=>by rw[ltL] at h;cases h
 | _::_,[],_,h=>by rw[ltL] at h;cases h
 | a::l,b::m,h,h'=>by
  rw[ltL] at h h';rw[eqb_comm' b a] at h'
  cases e:a.eqb b with
  | true=>rw[e,aP rfl] at h h';rw[Yx.mp e,ltL_total l m h h']
  | false=>
   rw[e,aO zW] at h h';have:=ML a b h h';rw[this,V6] at e;cases e
end
def VG(a:KT):a.lt a=false:=by
 cases h:a.lt a with
 | false=>rfl
 | true=>have:=Pv a a h;rw[h] at this;cases this
mutual
theorem lt_trans':∀(a b c:KT),a.lt b=true->b.lt c=true->a.lt c=true
 | .int i,.int j,.int k,h,h'=>by rw[KT.lt] at h h'⊢;have:=of_decide_eq_true h;have:=of_decide_eq_true h';exact aM ∅
 | .int _,_,.str _,_,_=>by rw[KT.lt]
 | .int _,_,.tup _,_,_=>by rw[KT.lt]
 | .str _,_,.tup _,_,_=>by rw[KT.lt]
 | .int _,.str _,.int _,_,h=>by rw[KT.lt] at h;cases h
 | .int _,.tup _,.int _,_,h=>by rw[KT.lt] at h;cases h
 | .str _,.int _,_,h,_=>by rw[KT.lt] at h;cases h
 | .str x,.str y,.str z,h,h'=>by rw[KT.lt] at h h'⊢;exact aM (Fn _ _ _ (of_decide_eq_true h) (of_decide_eq_true h'))
 | .str _,.str _,.int _,_,h=>by rw[KT.lt] at h;cases h
 | .str _,.tup _,.str _,_,h=>by rw[KT.lt] at h;cases h
 | .str _,.tup _,.int _,_,h=>by rw[KT.lt] at h;cases h
 | .tup _,.int _,_,h,_=>by rw[KT.lt] at h;cases h
 | .tup _,.str _,_,h,_=>by rw[KT.lt] at h;cases h
 | .tup l,.tup m,.tup k,h,h'=>by rw[KT.lt] at h h'⊢;exact ltL_trans l m k h h'
 | .tup _,.tup _,.int _,_,h=>by rw[KT.lt] at h;cases h
 | .tup _,.tup _,.str _,_,h=>by rw[KT.lt] at h;cases h
theorem ltL_trans:∀(l m k:jk),ltL l m=true->ltL m k=true->ltL l k=true
 | _,[],[],_,h=>by rw[ltL] at h;cases h
 | _,_::_,[],_,h=>by rw[ltL] at h;cases h
 | [],_,_::_,_,_=>by rw[ltL]
 | _::_,[],_::_,h,_=>by rw[ltL] at h;cases h
 | a::l,b::m,c::k,h,h'=>by
  rw[ltL] at h h'⊢
  cases e:a.eqb b with
  | true=>
   rw[e,aP rfl] at h;let ab:=Yx.mp e;subst ab
   cases e2:a.eqb c with
   | true=>rw[e2,aP rfl] at h';rw[aP rfl];exact ltL_trans l m k h h'
   | false=>rw[e2,aO zW] at h';rw[aO zW];exact h'
  | false=>
   rw[e,aO zW] at h
   cases e2:b.eqb c with
   | true=>
    let bc:=Yx.mp e2;subst bc;rw[e,aO zW];exact h
   | false=>
    rw[e2,aO zW] at h';let ac:=lt_trans' a b c h h'
    cases e3:a.eqb c with
    | true=>
     have:=Yx.mp e3;subst this;rw[VG] at ac;cases ac
    | false=>rw[aO zW];exact ac
end
def le_trans'{a b c:KT}(f:b.lt a=false)(d:c.lt b=false):c.lt a=false:=by
 cases h:c.lt a with
 | false=>rfl
 | true=>
  cases e:a.lt b with
  | true=>rw[lt_trans' c a b h e] at d;cases d
  | false=>rw[ML a b e f,d] at h;cases h
def Mc{a b c:KT}(e:b.lt a=false)(d:b.lt c=true):a.lt c=true:=by
 cases h:a.lt c with
 | true=>rfl
 | false=>rw[le_trans' h e] at d;cases d
end Tw
namespace Tw
open PySem PySem.Spec L2 PyProof.Rows
mutual
def ZG(h:aE):KT->aj->Prop
 | .int i,v=>∃ t,v=.int i t
 | .str x,v=>∃ t,v=.str x t
 | .tup l,v=>∃(a:ak)(its:je),v=.ref a/\IsTup h a its.toArray/\jW h l its
def jW(h:aE):jk->je->Prop
 | [],vs=>vs=[]
 | t::l,vs=>∃ v r,vs=v::r/\ZG h t v/\jW h l r
end
section
variable{kg:jq}{σ:L2.St}{H:Hp}
mutual
theorem Vd(I:ZF X kg σ H s):∀(t:KT)(x:V)(v:aj),ZC H t x->ZN x v->ZG s.heap t v
 | .int i,x,v,h,r=>by
  rw[ZC] at h;subst h;rw[ZG];exact r
 | .str y,x,v,h,r=>by
  rw[ZC] at h;subst h;rw[ZG];exact r
 | .tup l,x,v,h,r=>by
  rw[ZC] at h;let⟨a,vs,rfl,e,hk⟩:=h;let⟨its,rv,pl,_⟩:=I.tuple (Zv.of e);rw[ZG];exact⟨a,its,r,pl,kvals_of I l vs its hk rv⟩
theorem kvals_of(I:ZF X kg σ H s):∀(l:jk)(vs:jf)(us:je),jV H l vs->ZP vs us->jW s.heap l us
 | [],vs,us,h,r=>by
  rw[jV] at h;subst h;rw[jW];cases r;rfl
 | t::l,vs,us,h,r=>by
  rw[jV] at h;let⟨v,q,rfl,h1,h2⟩:=h
  cases r with
  | cons r1 r2=>
   rw[jW];exact⟨_,_,Z,Vd I t v _ h1 r1,kvals_of I l q _ h2 r2⟩
end
end
def ZJA{h:aE}{a:ak}{c b:je}(x:IsTup h a c.toArray)(y:IsTup h a b.toArray):c=b:=by
 let⟨o,e,_,n,d⟩:=x;let⟨j,g,_,i,f⟩:=y;rw[e] at g;cases g;rw[d] at f;injection f with d1 _;simpa using congrArg rN d1
mutual
theorem ZG.inj{h:aE}:∀(a b:KT)(v:aj),ZG h a v->ZG h b v->a.eqb b=true
 | .int i,b,v,x,y=>by
  rw[ZG] at x;let⟨t,rfl⟩:=x
  cases b with
  | int j=>rw[ZG] at y;let⟨u,e⟩:=y;injection e with e _;rw[KT.eqb,e];exact beq_self_eq_true j
  | str z=>rw[ZG] at y;let⟨u,e⟩:=y;cases e
  | tup m=>rw[ZG] at y;let⟨_,_,e,_⟩:=y;cases e
 | .str w,b,v,x,y=>by
  rw[ZG] at x;let⟨t,rfl⟩:=x
  cases b with
  | int j=>rw[ZG] at y;let⟨u,e⟩:=y;cases e
  | str z=>rw[ZG] at y;let⟨u,e⟩:=y;injection e with e _;rw[KT.eqb,e];exact beq_self_eq_true z
  | tup m=>rw[ZG] at y;let⟨_,_,e,_⟩:=y;cases e
 | .tup l,b,v,x,y=>by
  rw[ZG] at x;let⟨p,its,rfl,px,kx⟩:=x
  cases b with
  | int j=>rw[ZG] at y;let⟨u,e⟩:=y;cases e
  | str z=>rw[ZG] at y;let⟨u,e⟩:=y;cases e
  | tup m=>
   rw[ZG] at y;let⟨q,its',e,py,ky⟩:=y;cases e;cases ZJA px py;rw[KT.eqb];exact jW.inj l m its kx ky
theorem jW.inj{h:aE}:∀(l m:jk)(us:je),jW h l us->jW h m us->jX l m=true
 | [],m,us,x,y=>by
  rw[jW] at x;subst x
  cases m with
  | nil=>rw[jX]
  | cons b m=>rw[jW] at y;let⟨_,_,e,_⟩:=y;cases e
 | a::l,m,us,x,y=>by
  rw[jW] at x;let⟨v,r,rfl,x1,x2⟩:=x
  cases m with
  | nil=>rw[jW] at y;cases y
  | cons b m=>
   rw[jW] at y;let⟨v',r',e,y1,y2⟩:=y;injection e with e1 e2;subst e1 e2;rw[jX,ZG.inj a b v x1 y1,jW.inj l m r x2 y2];rfl
end
theorem jW.length{h:aE}:∀{l:jk}{b:je},jW h l b->l.length=b.length
 | [],b,x=>by rw[jW] at x;subst x;rfl
 | a::l,b,x=>by
  rw[jW] at x;let⟨v,r,rfl,_,c⟩:=x;rw[zO,zO,c.length]
theorem jW.get{h:aE}:∀{l:jk}{b:je}{j:Nat}{u:aj},jW h l b->b[j]? = some u->∃ t,l[j]? = some t/\ZG h t u
 | [],b,j,u,x,e=>by rw[jW] at x;subst x;simp at e
 | a::l,b,0,u,x,e=>by
  rw[jW] at x;let⟨v,r,rfl,f,_⟩:=x;simp at e;subst e;exact⟨a,Z,f⟩
 | a::l,b,j+1,u,x,e=>by
  rw[jW] at x;let⟨v,r,rfl,_,g⟩:=x;let⟨t,c,d⟩:=g.get (j:=j) (by simpa using e)
  exact⟨t,by simpa using c,d⟩
theorem Pg:∀{l:jk}{t:KT},t∈l->t.depth<=jY l
 | [],_,h=>by cases h
 | u::l,t,h=>by
  rw[jY];rcases zQ.mp h with e | h
  ·subst e;lia
  ·have:=Pg h;lia
theorem OA:∀(l m:jk),((yL (min l.length m.length)).all (λj=>(l.getD j (.int 0)).eqb (m.getD j (.int 0)))&&l.length==m.length)=jX l m
 | [],[]=>by simp[jX]
 | [],_::_=>by simp[jX]
 | _::_,[]=>by simp[jX]
 | a::l,b::m=>by
  let c:=OA l m;let e:min (a::l).length (b::m).length=min l.length m.length+1:=by simp only[zO];lia
  rw[e,List.range_succ_eq_map,uS,vM,jX,<-c,Bool.and_assoc];simp[Function.comp_def]
theorem Pr{s:al}:∀(n:Nat)(a b:KT)(A:ay)(v u:aj),a.depth<=n->ZG s.heap a v->ZG s.heap b u->A.units+a.depth<cLine->SeqAt.EqAt A s v u (a.eqb b)
 | n,.int i,b,A,v,u,_,x,y,o=>by
  rw[ZG] at x;let⟨t,rfl⟩:=x;let d:A.units<cLine:=∅
  cases b with
  | int j=>rw[ZG] at y;let⟨g,rfl⟩:=y;rw[KT.eqb];exact SeqAt.EqAt.int_int i t j g
  | str z=>rw[ZG] at y;let⟨g,rfl⟩:=y;rw[show (KT.int i).eqb (.str z)=false by simp[KT.eqb]];exact SeqAt.EqAt.int_str i t z g
  | tup m=>rw[ZG] at y;let⟨p,f,rfl,k,_⟩:=y;rw[show (KT.int i).eqb (.tup m)=false by simp[KT.eqb]];exact SeqAt.EqAt.int_tuple i t k d
 | n,.str w,b,A,v,u,_,x,y,o=>by
  rw[ZG] at x;let⟨t,rfl⟩:=x;let d:A.units<cLine:=∅
  cases b with
  | int j=>rw[ZG] at y;let⟨g,rfl⟩:=y;rw[show (KT.str w).eqb (.int j)=false by simp[KT.eqb]];exact SeqAt.EqAt.str_int w t j g
  | str z=>rw[ZG] at y;let⟨g,rfl⟩:=y;rw[KT.eqb];exact SeqAt.EqAt.str_str w t z g
  | tup m=>rw[ZG] at y;let⟨p,f,rfl,k,_⟩:=y;rw[show (KT.str w).eqb (.tup m)=false by simp[KT.eqb]];exact SeqAt.EqAt.str_tuple w t k d
 | 0,.tup l,b,A,v,u,C,x,y,o=>by
  rw[KT.depth] at C
  lia
 | n+1,.tup l,b,A,v,u,C,x,y,o=>by
  let U:=x;rw[ZG] at x;let⟨p,f,rfl,D,G⟩:=x;rw[KT.depth] at C o;let d:A.units<cLine:=∅
  cases b with
  | int j=>rw[ZG] at y;let⟨g,rfl⟩:=y;rw[show (KT.tup l).eqb (.int j)=false by simp[KT.eqb]];exact SeqAt.EqAt.tuple_int j g D d
  | str z=>rw[ZG] at y;let⟨g,rfl⟩:=y;rw[show (KT.tup l).eqb (.str z)=false by simp[KT.eqb]];exact SeqAt.EqAt.tuple_str z g D d
  | tup m=>
   let V:=y;rw[ZG] at y;let⟨q,c,rfl,k,H⟩:=y;by_cases h:p=q
   ·subst h;rw[ZG.inj _ _ _ U V];exact SeqAt.EqAt.same _
   ·let S:=G.length;let T:=H.length;let I:=SeqAt.RcAt.tuples (A:=A) (s:=s) (e:=λj=>(l.getD j (.int 0)).eqb (m.getD j (.int 0))) D k d (λj O P=>by
     let r:j<f.length:=by simpa using O
     let B:j<c.length:=by simpa using P
     let⟨E,F,Q⟩:=G.get (j:=j) (u:=f[j]) (by simp[r])
     let⟨J,K,R⟩:=H.get (j:=j) (u:=c[j]) (by simp[B])
     let W:=Pg (zJ F);let M:l.getD j (.int 0)=E:=by rw[zU,F];rfl
     let N:m.getD j (.int 0)=J:=by rw[zU,K];rfl
     have:=Pr n E J A.in1 f[j] c[j] ∅ Q R (by show A.units+1+E.depth<cLine;lia)
     show SeqAt.EqAt A.in1 s _ _ ((l.getD j (.int 0)).eqb (m.getD j (.int 0)));rw[M,N];simpa using this)
    let L:((yL (min f.toArray.size c.toArray.size)).all (λj=>(l.getD j (.int 0)).eqb (m.getD j (.int 0)))&&f.toArray.size==c.toArray.size)=(KT.tup l).eqb (.tup m):=by
     rw[zL,zL,<-S,<-T,KT.eqb];exact OA l m
    rw[L] at I;exact .of_refs h I
theorem AK{s:al}(a b:KT)(A:ay)(v u:aj)(x:ZG s.heap a v)(y:ZG s.heap b u)(M:A.units+a.depth<cLine):SeqAt.RcNeAt A s v u (!a.eqb b):=by
 let f:A.units<cLine:=∅
 cases a with
 | int i=>
  rw[ZG] at x;let⟨t,rfl⟩:=x
  cases b with
  | int j=>rw[ZG] at y;let⟨g,rfl⟩:=y;rw[KT.eqb];exact SeqAt.RcNeAt.int_int i t j g
  | str z=>rw[ZG] at y;let⟨g,rfl⟩:=y;rw[show (KT.int i).eqb (.str z)=false by simp[KT.eqb]];exact SeqAt.RcNeAt.int_str i t z g
  | tup m=>rw[ZG] at y;let⟨p,d,rfl,h,_⟩:=y;rw[show (KT.int i).eqb (.tup m)=false by simp[KT.eqb]];exact SeqAt.RcNeAt.int_tuple i t h f
 | str w=>
  rw[ZG] at x;let⟨t,rfl⟩:=x
  cases b with
  | int j=>rw[ZG] at y;let⟨g,rfl⟩:=y;rw[show (KT.str w).eqb (.int j)=false by simp[KT.eqb]];exact SeqAt.RcNeAt.str_int w t j g
  | str z=>rw[ZG] at y;let⟨g,rfl⟩:=y;rw[KT.eqb];exact SeqAt.RcNeAt.str_str w t z g
  | tup m=>rw[ZG] at y;let⟨p,d,rfl,h,_⟩:=y;rw[show (KT.str w).eqb (.tup m)=false by simp[KT.eqb]];exact SeqAt.RcNeAt.str_tuple w t h f
 | tup l=>
  rw[ZG] at x;let⟨p,d,rfl,r,C⟩:=x;rw[KT.depth] at M
  cases b with
  | int j=>rw[ZG] at y;let⟨g,rfl⟩:=y;rw[show (KT.tup l).eqb (.int j)=false by simp[KT.eqb]];exact SeqAt.RcNeAt.tuple_int j g r f
  | str z=>rw[ZG] at y;let⟨g,rfl⟩:=y;rw[show (KT.tup l).eqb (.str z)=false by simp[KT.eqb]];exact SeqAt.RcNeAt.tuple_str z g r f
  | tup m=>
   rw[ZG] at y;let⟨q,c,rfl,h,D⟩:=y;let P:=C.length;let Q:=D.length;let E:=SeqAt.RcNeAt.tuples (A:=A) (s:=s) (e:=λj=>(l.getD j (.int 0)).eqb (m.getD j (.int 0))) r h f (λj K L=>by
    let n:j<d.length:=by simpa using K
    let o:j<c.length:=by simpa using L
    let⟨k,B,N⟩:=C.get (j:=j) (u:=d[j]) (by simp[n])
    let⟨F,G,O⟩:=D.get (j:=j) (u:=c[j]) (by simp[o])
    let R:=Pg (zJ B);let I:l.getD j (.int 0)=k:=by rw[zU,B];rfl
    let J:m.getD j (.int 0)=F:=by rw[zU,G];rfl
    have:=Pr k.depth k F A.in1 d[j] c[j] (zY _) N O (by show A.units+1+k.depth<cLine;lia)
    show SeqAt.EqAt A.in1 s _ _ ((l.getD j (.int 0)).eqb (m.getD j (.int 0)));rw[I,J];simpa using this)
   let H:((yL (min d.toArray.size c.toArray.size)).all (λj=>(l.getD j (.int 0)).eqb (m.getD j (.int 0)))&&d.toArray.size==c.toArray.size)=(KT.tup l).eqb (.tup m):=by
    rw[zL,zL,<-P,<-Q,KT.eqb];exact OA l m
   rw[H] at E;exact E
def UD(o:Bool)(a b:KT):Bool:=bif o then !b.plt a else a.plt b
def PM(o:Bool)(l m:jk):Bool:=bif o then !pltL m l else pltL l m
def C6{o:Bool}{a c:KT}{l m:jk}:PM o (a::l) (c::m)=if a.eqb c=true then PM o l m else UD o a c:=by
 unfold PM UD;rw[pltL,pltL,eqb_comm' c a];cases o <;> cases a.eqb c <;> rfl
theorem ZNL{o:Bool}{l m:jk}{i j:Nat}(h:l=[]\/m=[])(e:l.length+j=m.length+i):PM o l m=bif o then decide (i<=j) else decide (i<j):=by
 rcases h with rfl | rfl
 ·cases m <;> cases o <;> simp[PM,pltL] at e⊢ <;> lia
 ·cases l <;> cases o <;> simp[PM,pltL] at e⊢ <;> lia
def KK(o:Bool)(A:ay)(s:al)(v u:aj)(b:Bool):Prop:=
 ∀(a:am)(w:ax)(E:ja)(Q:ja),Q (.bool b) s->aC (aB a w) A (richCompare (bif o then .LtE else .Lt) v u) Q E s
section
open PySem.SeqAt
open PySem.AutoSeq1 (wpAny_loadPart')
open PySem.MeetsSeq PySem.MeetsSeq2 PySem.MeetsSeq3
inductive Df(c:aE)(d:jk)(n m:Nat)(G:jk->jk->Prop)(rest:List (aj×aj)):Prop
 |mk(e f:je)(a b:jk):rest=e.zip f->jW c a e->jW c b f->(∀ x∈a,x∈d)->cmpL a b=true->a.length+m=b.length+n->G a b->Df c d n m G rest
theorem Be(o:Bool)(l b:ak)(f e:js)(n n2:Nat)(dd K:ju)(sl O:Array (jd))(D J:jk):
  Meets ((bif o then Builtin.«tuple.__le__» else Builtin.«tuple.__lt__») ⟨[.ref l,.ref b],[]⟩)
   (λA R s=>s.heap.get? l=some { cls:=.type "tuple",dict:=dd,data:=.seq f n,slots:=sl }/\s.heap.get? b=some { cls:=.type "tuple",dict:=K,data:=.seq e n2,slots:=O } /\
    jW s.heap D f.toList/\jW s.heap J e.toList/\cmpL D J=true /\
    (∀ x y v u,x∈D->ZG s.heap x v->ZG s.heap y u->EqAt A.in1 s v u (x.eqb y))/\(∀ x y v u,x∈D->ZG s.heap x v->ZG s.heap y u->x.cmp y=true->KK o A.in1 s v u (UD o x y)) /\
    R (.ok (.ret (.bool (PM o D J)))) s):=by
 let P:=@C6 o;let Q:=@ZNL o;generalize PM o=F at P Q⊢;cases o
 all_goals
  dsimp only[cond_true,cond_false];refine .of_wp λC w A R s h=>?_;let⟨L,g,d,Y,X⟩:=s;let⟨hl,hb,S,T,hc,hE,hL,h⟩:=h;let f2:=AutoSeq1.sub_tuple_tuple;let z1:f.size=D.length:=by rw[S.length];simp
  let z2:e.size=J.length:=by rw[T.length];simp
  wp_walk using wpAny_loadPart' hl,wpAny_loadPart' hb,wpAny_forIn_list _ (λrest b N=>b.1=none/\N=⟨L,g,d,Y,X⟩/\Df L D f.size e.size (λa b=>R (.ok (.ret (.bool (F a b)))) ⟨L,g,d,Y,X⟩) rest) _
  case turn=>
   rintro⟨y,x⟩ rest b N ⟨E,rfl,vs,ws,q,r,p,i,j,t,k,m,B⟩
   cases q with
   | nil=>rw[jW] at i;subst i;rw[List.zip_nil_left] at p;cases p
   | cons a q=>
    cases r with
    | nil=>rw[jW] at j;subst j;rw[List.zip_nil_right] at p;cases p
    | cons c r=>
     rw[jW] at i j;let⟨v,vr,rfl,V,H⟩:=i;let⟨u,ur,rfl,W,I⟩:=j;rw[List.zip_cons_cons] at p;injection p with hyx hrest;injection hyx with hy M;subst hy M;rw[P] at B;rw[cmpL] at k;simp only[zO] at m;let he:=hE a c y x (t a zM) V W;refine aa (he C w _ _ ?_)
     cases U:a.eqb c with
     | true=>
      rw[U,aP rfl] at B k
      wp_walk
      exact⟨Z,Z,_,_,_,_,hrest,H,I,λz p=>t z (zK _ p),k,∅,B⟩
     | false=>
      rw[U,aO zW] at B k;let G:=hL a c y x (t a zM) V W k C w;dsimp only[cond_true,cond_false] at G
      wp_walk using G
      exact⟨_,Z,by simpa using B⟩
  case fin=>
   rintro⟨b1,b2⟩ N ⟨E,rfl,vs,ws,q,r,p,i,j,t,k,m,B⟩;simp only at E;subst E;rw[Q (by
    cases q with
    | nil=>exact .inl Z
    | cons a q=>
     cases r with
     | nil=>exact .inr Z
     | cons c r=>
      rw[jW] at i j;let⟨v,vr,rfl,_,_⟩:=i;let⟨u,ur,rfl,_,_⟩:=j;rw[List.zip_cons_cons] at p;cases p) m] at B
   wp_walk
   exact⟨_,Z,by simpa [Builtin.Tuple.tupleCompareSizes] using B⟩
  case h=>
   exact⟨Z,Z,f.toList,e.toList,D,J,Z,S,T,λ_ M=>M,hc,∅,h⟩
end
theorem Ep(o:Bool){s:al}:∀(n:Nat)(a b:KT)(A:ay)(v u:aj),a.depth<=n->ZG s.heap a v->ZG s.heap b u->a.cmp b=true->A.units+a.depth<cLine->KK o A s v u (UD o a b)
 | n,.int i,b,A,v,u,_,x,y,d,H=>by
  rw[ZG] at x;let⟨t,rfl⟩:=x
  cases b with
  | int j=>
   rw[ZG] at y;let⟨D,rfl⟩:=y;unfold UD;rw[KT.plt,KT.plt];intro c w E Q h;cases o
   ·exact HT.rcLt_int A s i t j D c w E Q h
   ·exact(le_int (by rw[show decide (i<=j) = !decide (j<i) by by_cases z:j<i <;> simp[z] <;> lia];exact h):aC (aB c w) A (aA .LtE (.int i t) (.int j D)) Q E s)
  | str z=>simp[KT.cmp] at d
  | tup m=>simp[KT.cmp] at d
 | n,.str w,b,A,v,u,_,x,y,d,H=>by
  rw[ZG] at x;let⟨t,rfl⟩:=x
  cases b with
  | int j=>simp[KT.cmp] at d
  | str z=>
   rw[ZG] at y;let⟨D,rfl⟩:=y;unfold UD;rw[KT.plt,KT.plt];intro c w' E Q h;cases o
   ·exact(lt_str h:aC (aB c w') A (aA .Lt (.str w t) (.str z D)) Q E s)
   ·exact(PySem.P.le_str h:aC (aB c w') A (aA .LtE (.str w t) (.str z D)) Q E s)
  | tup m=>simp[KT.cmp] at d
 | 0,.tup l,b,A,v,u,K,x,y,d,H=>by
  rw[KT.depth] at K
  lia
 | n+1,.tup l,b,A,v,u,K,x,y,d,H=>by
  rw[ZG] at x;let⟨p,M,rfl,px,kx⟩:=x;rw[KT.depth] at K H;let B:A.units<cLine:=∅
  cases b with
  | int j=>simp[KT.cmp] at d
  | str z=>simp[KT.cmp] at d
  | tup m=>
   rw[ZG] at y;let⟨q,C,rfl,py,ky⟩:=y;rw[KT.cmp] at d;let e:UD o (.tup l) (.tup m)=PM o l m:=by
    unfold UD PM;rw[KT.plt,KT.plt]
   rw[e];intro c w E Q h;let⟨⟨cls,dd,data,sl⟩,G,k,R,Y⟩:=id px;let⟨⟨V,J,I,U⟩,f,g,S,r⟩:=id py;simp only at k Y g r;subst k Y g r;let W:∀ x y v u,x∈l->ZG s.heap x v->ZG s.heap y u->SeqAt.EqAt A.in1 s v u (x.eqb y):=λx y v u L N O=>by
    let d1:=Pg L;exact Pr x.depth x y A.in1 v u (zY _) N O (by show A.units+1+x.depth<cLine;lia)
   let X:∀ x y v u,x∈l->ZG s.heap x v->ZG s.heap y u->x.cmp y=true->KK o A.in1 s v u (UD o x y):=λx y v u L N O k3=>by
    let d1:=Pg L;exact Ep o n x y A.in1 v u ∅ N O k3 (by show A.units+1+x.depth<cLine;lia)
   let T:=Be o p q M.toArray C.toArray R S dd J sl U l m;cases o
   ·exact richCompare_meets_room (op:=.Lt) ⟨_,G,Z⟩ ⟨_,f,Z⟩ PySem.F.slot_tuple_lt PySem.F.entry_tuple_lt (PySem.F.args_tuple_lt_2 _ _) T ⟨G,f,kx,ky,d,W,X,(λx=>nomatch x),h⟩ B
   ·exact richCompare_meets_room (op:=.LtE) ⟨_,G,Z⟩ ⟨_,f,Z⟩ PySem.F.slot_tuple_le PySem.F.entry_tuple_le (PySem.F.args_tuple_le_2 _ _) T ⟨G,f,kx,ky,d,W,X,(λx=>nomatch x),h⟩ B
def FK{s:al}(n:Nat)(a b:KT)(A:ay)(v u:aj):a.depth<=n->ZG s.heap a v->ZG s.heap b u->a.cmp b=true->A.units+a.depth<cLine->KK false A s v u (a.plt b):=Ep false n a b A v u
theorem ZS.key{k:Nat}{A:ay}(r:ZS k A){n:Nat}(h:n<=200):A.units+n<cLine:=by have:=r.un;lia
inductive Iv(x y:V)(H:Hp)(Q:VK):Prop
 |mk(a b:_)(_:ZC H a x)(_:ZC H b y)(_:a.depth<=200)(_:Q (.bl (!a.eqb b)) H)
inductive JJ(x y:V)(H:Hp)(Q:VK):Prop
 |mk(a b:_)(_:ZC H a x)(_:ZC H b y)(_:a.cmp b=true)(_:a.depth<=200)(_:Q (.bl (a.plt b)) H)
def AI{k:Nat}(g:ZS k X.A):Yy X (aA .NotEq) Iv:=by
 intro c s l H x y v u Q I i j h;let⟨a,b,d,e,f,q⟩:=h;exact AK a b X.A v u (Vd I a x v d i) (Vd I b y u e j) (ZS.key g f) X.prog X.w X.xe _ ⟨.bl _,H,I,Z,q⟩
def ZPD{k:Nat}(i:ZS k X.A):Yy X (aA .Lt) JJ:=by
 intro c s m H x y v u Q I j l h;let⟨a,b,d,e,f,g,q⟩:=h;exact FK a.depth a b X.A v u (zY _) (Vd I a x v d j) (Vd I b y u e l) f (ZS.key i g) X.prog X.w X.xe _ ⟨.bl _,H,I,Z,q⟩
mutual
noncomputable def We(w:ax):KT->Int
 | .int i=>hashInt i
 | .str x=>GW w (.inr x)
 | .tup l=>reduceHash (Builtin.Tuple.tupleHashOf (hashL w l))
noncomputable def hashL(w:ax):jk->jB
 | []=>[]
 | t::l=>We w t::hashL w l
end
theorem Fh(w:ax):∀(l m:jk),hashL w (l++m)=hashL w l++hashL w m
 | [],m=>by rw[hashL];rfl
 | t::l,m=>by rw[vH,hashL,hashL,Fh w l m];rfl
theorem Ja:∀(n:Nat)(t:KT){A:ay}{E:ja}{s:al}{v:aj}{Q:Int->al->Prop},t.depth<=n->ZG s.heap t v->A.units+t.depth<cLine->(∀ d,s.toks<=d->Q (We w t) { s with toks:=d })->aC (aB prog w) A (pyHash v) Q E s
 | n,.int i,A,E,s,v,Q,_,x,B,q=>by
  rw[ZG] at x;let⟨t,rfl⟩:=x;rw[We] at q;exact wpAny_pyHash_int (q _ (tZ _))
 | n,.str i,A,E,s,v,Q,_,x,B,q=>by
  rw[ZG] at x;let⟨t,rfl⟩:=x;rw[We] at q;exact wpAny_pyHash_str (q _ (tZ _))
 | 0,.tup l,A,E,s,v,Q,D,x,B,q=>by rw[KT.depth] at D;lia
 | n+1,.tup l,A,E,s,v,Q,D,x,B,q=>by
  rw[KT.depth] at D B;rw[ZG] at x;let⟨a,N,rfl,I,R⟩:=x;let z:=I.typeIs;let⟨o,M,S,nn,K⟩:=I;unfold pyHash
  first | unfold pyHashByItsType | skip
  first | refine aa (wpAny_cRoomFor_or (.inr ∅) ?_) | skip
  refine aa (wpAny_specialOf z sS.lookup ?_);show aC _ _ (if (some (Value.builtin "tuple.__hash__")==some Value.none)=true then _ else _) Q E s
  rw[aO (by rw[beq_builtin_none];exact zW)]
  refine aa (wpAny_specialOf z sS.lookup ?_);show aC _ _ (callSpecialIfBoundUnlessNone? (.ref a) "__hash__" _ >>= _) Q E s;refine aa (wpAny_callSpecialIfBoundUnlessNone?_slot z sS (wpAny_call_entry sS z PySem.F.entry_tuple_hash ?_ (PySem.F.args_tuple_hash_1 _)));show aC _ _ (Builtin.Tuple.tupleItemsOf (.ref a) >>= _) _ _ s;refine aa (wpAny_tupleItemsOf M K (aa ?_));rw[<-rQ];refine wpAny_forIn_list _ (λrest (b:Array Int) H=>∃ h c d,l=h++c/\jW s.heap c rest/\b.toList=hashL w h/\H={ s with toks:=d }/\s.toks<=d) _ ?_ ?_ _ _ ⟨[],l,s.toks,Z,R,by rw[hashL],Z,zY _⟩
  ·rintro x rest b H ⟨h,c,d,k,f,C,rfl,p⟩
   cases c with
   | nil=>rw[jW] at f;cases f
   | cons t c=>
    rw[jW] at f;let⟨U,T,e,O,P⟩:=f;injection e with e1 e2;subst e1 e2;let L:t.depth<=jY l:=by rw[k];exact Pg (by simp)
    refine aa (Ja n t (s:={ s with toks:=d }) ∅ O (by show A.units+1+_<_;lia) λy J=>?_)
    let m:∃ j r u,l=j++r/\jW s.heap r rest/\(b.push (We w t)).toList=hashL w j/\({ s with toks:=y }:al)={ s with toks:=u }/\s.toks<=u:=
     ⟨h++[t],c,y,by rw[k];simp,P,by rw[uX,C,Fh,hashL,hashL],rfl,zN p J⟩
    first | exact ae m | exact aa (ae (ae m))
  ·rintro b H ⟨h,c,d,k,f,C,rfl,p⟩
   cases c with
   | cons t c=>rw[jW] at f;let⟨_,_,e,_⟩:=f;cases e
   | nil=>
    rw[yQ] at k;subst k;show aC _ _ (retInt (Builtin.Tuple.tupleHashOf b.toList)) _ _ _;rw[C];refine wpAny_ret_mkInt ?_;show aC _ _ (if (decide (-(2:Int) ^ 63<=Builtin.Tuple.tupleHashOf (hashL w l))&&decide (Builtin.Tuple.tupleHashOf (hashL w l)<2 ^ 63))=true then _ else _) Q E _
    let g:=q (d+1) ∅
    rw[We] at g;unfold reduceHash at g;split
    ·rename_i G
     rw[aP G] at g;exact ae g
    ·rename_i G
     rw[aO G] at g;exact aa (ai (ae g))
theorem J4:∀(n:Nat)(t:KT){A:ay}{E:ja}{s:al}{v:aj}{Q:Bool->al->Prop},t.depth<=n->ZG s.heap t v->Q true s->aC (aB prog w) A (eqIsQuiet n v) Q E s
 | n,.int i,A,E,s,v,Q,_,x,q=>by
  rw[ZG] at x;let⟨t,rfl⟩:=x;rw[eqIsQuiet_byValue n rfl];exact ae q
 | n,.str i,A,E,s,v,Q,_,x,q=>by
  rw[ZG] at x;let⟨t,rfl⟩:=x;rw[eqIsQuiet_byValue n rfl];exact ae q
 | 0,.tup l,A,E,s,v,Q,f,x,q=>by rw[KT.depth] at f;lia
 | n+1,.tup l,A,E,s,v,Q,f,x,q=>by
  rw[KT.depth] at f;rw[ZG] at x;let⟨a,h,rfl,m,B⟩:=x;let k:=m.typeIs;let⟨o,u,C,nn,p⟩:=m;unfold eqIsQuiet;refine aa (wpAny_specialOf k PySem.F.slot_tuple_eq.lookup ?_);show aC _ _ (isInstance (.ref a) (.type "tuple") >>= _) _ _ s;refine aa (wpAny_isInstance k isSubtype_tuple_tuple ?_);simp only[uU,wT,if_false];refine aa (wpAny_seqItems u p (aa ?_));show aC _ _ (forIn h.toArray _ _) _ _ s;rw[<-rQ];refine wpAny_forIn_list _ (λrest r j=>r.1=none/\j=s/\∃ b,jW s.heap b rest/\jY b<=n) _ ?_ ?_ _ _ ⟨Z,Z,l,B,∅⟩
  ·rintro x rest r j ⟨g,rfl,b,c,d⟩
   cases b with
   | nil=>rw[jW] at c;cases c
   | cons t b=>
    rw[jW] at c;let⟨I,D,e,y,z⟩:=c;injection e with e1 e2;subst e1 e2;rw[jY] at d;refine aa (J4 n t ∅ y ?_)
    simp only[uU,wT,if_false];exact ae ⟨Z,Z,b,z,∅⟩
  ·rintro⟨G,H⟩ j ⟨g,rfl,_⟩;dsimp only at g;subst g;exact ae q
structure Ng(w:ax)(h:aE)(ks:jk)(es:Array DictEntry):Prop where
 len:es.size=ks.length
 ent:∀(i:Nat)(e:DictEntry),es[i]? = some e->∃ t,ks[i]? = some t/\e.hash=We w t/\ZG h t e.key/\t.depth<=3
 nd:ks.Nodup
def Ng.uniq{h:aE}{b:jk}{d:Array DictEntry}(x:Ng w h b d){i j:Nat}{t:KT}(c:b[i]? = some t)(e:b[j]? = some t):i=j:=by
 let⟨a,f⟩:=zE.mp c;exact(rT a x.nd).mp (c.trans e.symm)
def Ng.get{h:aE}{f:jk}{b:Array DictEntry}(x:Ng w h f b){j:Nat}{t:KT}(d:f[j]? = some t):∃ e,b[j]? = some e/\e.hash=We w t/\ZG h t e.key/\t.depth<=3:=by
 let⟨a,_⟩:=zE.mp d;let l:j<b.size:=by have:=x.len;lia
 let e:b[j]? = some b[j]:=wI l;let⟨m,c,g,i,k⟩:=x.ent j _ e;rw[d] at c;cases c;exact⟨_,e,g,i,k⟩
def K4{v:aj}{a:je}{Q:Bool->al->Prop}(i:∃ t,ZG s.heap t v/\t.depth<=8)(f:∀ u∈a,∃ t,ZG s.heap t u/\t.depth<=8)(h:Q false s):aC (aB prog w) A (tableMayTell v a) Q E s:=by
 unfold tableMayTell;refine wpAny_ite_split (λ_=>ae h) (λ_=>?_);let⟨t,kv,e⟩:=i;refine aa (J4 8 t e kv ?_);simp only[uU,wT,if_false];refine aa ?_;refine wpAny_forIn_list _ (λrest r c=>c=s/\r=(none,())/\∀ u∈rest,u∈a) _ ?_ ?_ _ _ ⟨Z,Z,λ_ z=>z⟩
 ·rintro u rest r c ⟨rfl,rfl,d⟩;let⟨j,UD,b⟩:=f u (d u (zM ..));refine aa (J4 8 j b UD ?_);simp only[uU,wT,if_false];exact ae ⟨Z,Z,λu g=>d u (zK _ g)⟩
 ·rintro r c ⟨rfl,rfl,_⟩;exact ae h
theorem ZNe{d:ak}{o:aI}{c:Array DictEntry}{ep:Nat}{X:jk}{t:KT}{v:aj}{Q:jr->al->Prop}(M:ZG s.heap t v)(dt:t.depth<=3)(hu:A.units+3<cLine)(U:s.heap.get? d=some o)(T:o.data=.dict c ep)(x:Ng w s.heap X c)(a2:t∉X->Q none s)(F:∀ j,X[j]? = some t->Q (some j) s):aC (aB prog w) A (dictFind d v (We w t)) Q E s:=by
 let N:∀ j,X[j]? = some t->j∈placesWithHash c.size (λi=>c[i]?.map (·.hash)) (We w t):=λj k=>by
  let⟨e,n,B,_⟩:=x.get k;let⟨lt,_⟩:=uC.mp n;unfold placesWithHash;rw[yC,xN];exact⟨lt,by show (Option.map _ c[j]? == _)=true;rw[n,wB,B];simp⟩
 let G:∀ i,i∈placesWithHash c.size (λi=>c[i]?.map (·.hash)) (We w t)->∃ e u,c[i]? = some e/\e.hash=We w t/\X[i]? = some u/\ZG s.heap u e.key/\u.depth<=3:=λi K=>by
  unfold placesWithHash at K;rw[yC,xN] at K;let n:c[i]? = some c[i]:=wI K.1;let⟨u,B,_,C,D⟩:=x.ent i _ n;have:(Option.map (·.hash) c[i]? == some (We w t))=true:=K.2;rw[n,wB] at this;exact⟨_,u,n,by simpa using this,B,C,D⟩
 let a5:(placesWithHash c.size (λi=>c[i]?.map (·.hash)) (We w t)).Nodup:=by
  unfold placesWithHash;exact List.nodup_range.filter _
 let p:∀(u:KT)(e:DictEntry),ZG s.heap u e.key->u.depth<=3->SeqAt.EqAt A s e.key v (u.eqb t):=λu e k1 d1=>Pr u.depth u t A e.key v (zY _) k1 M ∅
 let m:∀ u∈(placesWithHash c.size (λi=>c[i]?.map (·.hash)) (We w t)).filterMap (λi=>c[i]?.map (·.key)),∃ t,ZG s.heap t u/\t.depth<=8:=λu hu=>by
  let⟨i,K,e⟩:=tJ.mp hu;let⟨en,z,n,_,_,C,D⟩:=G i K;rw[n,wB] at e;cases e;exact⟨z,C,∅⟩
 unfold dictFind
 try with_reducible refine ag ?_
 refine aa (wpAny_dictEntries U T ?_);generalize hP:placesWithHash c.size (λi=>c[i]?.map (·.hash)) (We w t)=pl at N G a5 m;let O:aC (aB prog w) A (dictWalkPlain d v (We w t) c pl) Q E s:=by
  unfold dictWalkPlain;refine aa ?_;refine wpAny_forIn_list _ (λrest b s'=>s'=s/\b=(none,())/\(∀ i∈rest,i∈pl)/\∀ i∈pl,i∈rest\/X[i]? ≠ some t) _ ?_ ?_ _ _ ⟨Z,Z,λ_ z=>z,λ_ z=>.inl z⟩
  ·rintro i rest b s' ⟨rfl,rfl,h1,H⟩;let⟨e,u,n,B,J,C,D⟩:=G i (h1 i (zM ..));rw[n];dsimp only;rw[B,aP (by simp)]
   refine aa (wpAny_dictEpoch U T (aa (p u e C D prog w _ _ (aa (wpAny_dictEpoch U T ?_)))));rw[aO (by simp)]
   cases I:u.eqb t with
   | true=>
    have:u=t:=Vw u t I;subst this;rw[aP rfl];exact aa (ai (ae (ae (F i J))))
   | false=>
    rw[aO zW];refine aa (ai (ae ⟨rfl,rfl,λj k=>h1 j (zK _ k),λj k=>?_⟩));rcases H j k with z | z
    ·rcases zQ.mp z with z | z
     ·subst z;refine .inr λz=>?_;rw[J] at z;cases z;rw[V6] at I;cases I
     ·exact .inl z
    ·exact .inr z
  ·rintro b s' ⟨rfl,rfl,_,H⟩;refine ae (a2 λz=>?_);let⟨j,k⟩:=sW.mp z;rcases H j (N j k) with q | q
   ·cases q
   ·exact q k
 let L:∀(f:Nat->Option (jr)×jr->Sem (ForInStep (Option (jr)×jr)))(g:Option (jr)×jr->Sem (jr)),(∀ r,g (some r,none)=pure r)->(∀ h,g (none,h)=pure h) ->
   (∀ i u e (R:ForInStep (Option (jr)×jr)->al->Prop),c[i]? = some e->e.hash=We w t->ZG s.heap u e.key->u.depth<=3->u=t->R (.done (some (some i),none)) s->R (.yield (none,some i)) s->aC (aB prog w) A (f i (none,none)) R E s) ->
   (∀ i u e a1 (R:ForInStep (Option (jr)×jr)->al->Prop),c[i]? = some e->e.hash=We w t->ZG s.heap u e.key->u.depth<=3->u≠t->R (.yield (none,a1)) s->aC (aB prog w) A (f i (none,a1)) R E s) ->
   aC (aB prog w) A (forIn pl (none,none) f >>= g) Q E s:=λf g g1 g2 f1 f2=>by
  refine aa ?_;refine wpAny_forIn_list _ (λrest b s'=>s'=s/\rest.Nodup/\(∀ i∈rest,i∈pl)/\((b=(none,none)/\∀ i∈pl,i∈rest\/X[i]? ≠ some t)\/∃ j,b=(none,some j)/\X[j]? = some t/\j∉rest)) _ ?_ ?_ _ _ ⟨Z,a5,λ_ z=>z,.inl ⟨Z,λ_ z=>.inl z⟩⟩
  ·rintro i rest b s' ⟨rfl,nd,h1,H⟩;let⟨e,u,n,B,J,C,D⟩:=G i (h1 i (zM ..));let V:=xM.mp nd;let a0:∀ j∈rest,j∈pl:=λj k=>h1 j (zK _ k);by_cases I:u=t
   ·let S:=J;rw[I] at S;rcases H with ⟨rfl,H⟩ | ⟨j,rfl,k,hn⟩
    ·refine f1 i u e _ n B C D I ?_ ?_
     ·show aC _ _ (g (some (some i),none)) _ _ _;rw[g1];exact ae (F i S)
     ·exact⟨Z,V.2,a0,.inr ⟨i,Z,S,V.1⟩⟩
    ·have:i=j:=x.uniq S k;exact absurd (this ▸ zM ..) hn
   ·rcases H with ⟨rfl,H⟩ | ⟨j,rfl,k,hn⟩
    ·refine f2 i u e none _ n B C D I ⟨Z,V.2,a0,.inl ⟨Z,λj k=>?_⟩⟩;rcases H j k with z | z
     ·rcases zQ.mp z with z | z
      ·subst z;exact .inr λz=>I (by rw[J] at z;exact yU.inj z)
      ·exact .inl z
     ·exact .inr z
    ·exact f2 i u e (some j) _ n B C D I ⟨Z,V.2,a0,.inr ⟨j,Z,k,λz=>hn (zK _ z)⟩⟩
  ·rintro b s' ⟨rfl,_,_,H⟩;rcases H with ⟨rfl,H⟩ | ⟨j,rfl,k,hn⟩
   ·rw[g2];refine ae (a2 λz=>?_);let⟨j,k⟩:=sW.mp z;rcases H j (N j k) with q | q
    ·cases q
    ·exact q k
   ·rw[g2];exact ae (F j k)
 let vs:(∃ a,v=.ref a)\/(∃ i P,v=.int i P)\/∃ y P,v=.str y P/\t=.str y:=by
  cases t with
  | int i=>rw[ZG] at M;let⟨P,e⟩:=M;exact .inr (.inl ⟨i,P,e⟩)
  | str y=>rw[ZG] at M;let⟨P,e⟩:=M;exact .inr (.inr ⟨y,P,e,rfl⟩)
  | tup l=>rw[ZG] at M;let⟨a,_,e,_⟩:=M;exact .inl ⟨a,e⟩
 rcases vs with ⟨a,rfl⟩ | ⟨i,P,rfl⟩ | ⟨y,P,rfl,ht⟩
 case' inl=>
  dsimp only;rw[aO (by simp[carriedByValue])]
  let a3:¬ (c.any λe=>e.key==Value.ref a&&e.hash != We w t)=true:=by
   rw[<-Array.any_toList,uN];rintro⟨e,a6,hc⟩;let⟨j,k⟩:=sW.mp a6;rw[yN] at k;let⟨u,_,B,J,_⟩:=x.ent j e k;rw[zP] at hc;rw[eq_of_beq hc.1] at J;have:u=t:=Vw _ _ (ZG.inj _ _ _ J M);rw[B,this] at hc;simp at hc
  rw[aO a3];refine wpAny_ite_split (λ_=>aa (ae ?_)) (λ_=>aa (K4 ⟨t,M,∅⟩ m ?_))
 case' inr.inl=>
  dsimp only;refine wpAny_ite_split (λ_=>O) (λ_=>?_);refine wpAny_ite_split (λ_=>aa (ae ?_)) (λ_=>aa (K4 ⟨t,M,∅⟩ m ?_))
 case' inr.inr=>
  let Y:aC (aB prog w) A (foundByValue d (.str y P) c y) Q E s:=by
   unfold foundByValue
   cases hf:c.findIdx? (λe=>e.key.isStr y) with
   | none=>
    refine ae (a2 λz=>?_);let⟨j,k⟩:=sW.mp z;let⟨e,n,B,J,_⟩:=x.get k;have:=Array.findIdx?_eq_none_iff.mp hf e (Array.mem_of_getElem? n);rw[ht,ZG] at J;let⟨W,ek⟩:=J;rw[ek] at this;simp[Value.isStr] at this
   | some i=>
    let⟨a7,K,_⟩:=Array.findIdx?_eq_some_iff_getElem.mp hf;let n:c[i]? = some c[i]:=wI a7;let⟨u,B,J,C,D⟩:=x.ent i _ n;let a4:u=t:=by
     let hs:∃ W,c[i].key=.str y W:=by
      cases q:c[i].key with
      | str z tz=>rw[q] at K;simp[Value.isStr] at K;exact⟨tz,by rw[K]⟩
      | _=>rw[q] at K;simp[Value.isStr] at K
     let⟨W,ek⟩:=hs;let hk:ZG s.heap (.str y) c[i].key:=by rw[ZG];exact⟨W,ek⟩
     rw[ht];exact Vw _ _ (ZG.inj _ _ _ C hk)
    dsimp only;rw[n];dsimp only;refine aa (wpAny_dictEpoch U T (aa (p u _ C D prog w _ _ (aa (wpAny_dictEpoch U T ?_)))));rw[aO (by simp),a4,V6,aP rfl]
    exact aa (ai (ae (F i (by rw[B,a4]))))
  dsimp only;refine wpAny_ite_split (λ_=>Y) (λ_=>?_);refine wpAny_ite_split (λ_=>O) (λ_=>?_);refine wpAny_ite_split (λ_=>aa (ae ?_)) (λ_=>aa (K4 ⟨t,M,∅⟩ m ?_))
 all_goals
  rw[aO (by simp)]
  refine L _ _ (λr=>rfl) (λh=>rfl) (λi u e R n B C D I r1 r2=>?_) (λi u e a1 R n B C D I r1=>?_)
  ·rw[n];dsimp only;rw[B,aP (by simp)]
   refine aa (wpAny_dictEpoch U T (aa (p u e C D prog w _ _ (aa (wpAny_dictEpoch U T ?_)))));rw[aO (by simp),I,V6,aP rfl]
   simp only[Option.isSome_none,wT,if_false];refine aa (ai (wpAny_ite_split (λ_=>ae r1) (λ_=>ae r2)))
  ·rw[n];dsimp only;rw[B,aP (by simp)]
   refine aa (wpAny_dictEpoch U T (aa (p u e C D prog w _ _ (aa (wpAny_dictEpoch U T ?_)))));let hf:u.eqb t=false:=by
    cases q:u.eqb t with
    | false=>rfl
    | true=>exact absurd (Vw _ _ q) I
   rw[aO (by simp),hf,aO zW]
   refine aa (ai ?_);rw[aO (by simp)]
   exact ae r1
end Tw
namespace L2
open PySem PySem.Spec PyProof.Rows
def Zb.there{P:am}{w:ax}{H:Hp}{h:aE}{a:ak}:∀{o:HO},Zb P w H h a o->∃ b,h.get? a=some b:=by
 intro o x
 induction o with
 | lst l=>let⟨z,j,n,r,e⟩:=x;exact⟨_,e⟩
 | tup l=>let⟨z,j,r,b,e,c⟩:=x;exact⟨_,e⟩
 | dK k=>let⟨z,y,G,r,b,i,g,e,c⟩:=x;exact⟨_,e⟩
 | dT k=>let⟨z,y,l,r,b,i,g,e,c⟩:=x;exact⟨_,e⟩
 | set S n=>let⟨b,i,g,t,e,c⟩:=x;exact⟨_,e⟩
 | ins C p m=>let⟨d,z,D,e,_⟩:=x;exact⟨_,e⟩
 | own y=>exact x
 | xd m=>let⟨B,⟨E,i,g,e,c⟩,r⟩:=x;exact⟨_,e⟩
 | rng A q=>let⟨t,u,v,e⟩:=x;exact⟨_,e⟩
 | frz b u s=>exact⟨_,x.1⟩
 | tbl F=>exact⟨_,x⟩
 | met f y=>exact⟨_,x⟩
 | ext I=>exact x.2.1
def Y5.there{P:am}{w:ax}{H:Hp}{h:aE}{a:ak}(x:Y5 P w H h)(n:H a≠none):∃ b,h.get? a=some b:=by
 cases e:H a with
 | none=>exact absurd e n
 | some o=>exact Zb.there (x a o e)
def Y5.keptT{P:am}{w:ax}{H:Hp}{h d:aE}(x:Y5 P w H h)(k:∀ b u,h.get? b=some u->H b≠none->d.get? b=some u):Y5 P w H d:=λa o e=>
 (x a o e).stay (λb u c q=>k b u q (by
  rcases c with rfl | c
  ·rw[e];exact λz=>nomatch z
  ·rw[c];exact λz=>nomatch z)) (λ_ q=>q) λ_ _ q=>q
section
variable{kg:jq}{σ:St}{H H':Hp}{s':al}{E:XK}
def ZF.noloc(I:ZF X kg σ H s):X.s₀.heap.get? X.env.locals=none:=rB I.ok.above
def Jx(I:ZF X kg σ H s):∀ b∈frs X.stack,∀ o,s.heap.get? b=some o->∀ a,o.data≠.fields a:=λb c o q a z=>by
 let⟨_,f,e,d⟩:=I.stack.mem c;rw[q] at e;cases e;exact d a z
end
end L2
namespace L2
open PySem PySem.Spec PySem.W PyProof.Rows
def WQ(x C:ak)(h:aE):Prop:=∃ o,h.get? x=some o/\o.cls=.ref C
def WQ.ty{x C:ak}{h:aE}(I:WQ x C h)(M:Model):Looks M h (typeOf (.ref x)) (.ref C):=by
 let⟨o,e,c⟩:=I;rw[<-c];exact Looks.andThen (Looks.ld e) Looks.now
structure Wr(K:Frag)(C:ak):Prop where
 ga:findIn K (.ref C) "__getattribute__" = some (some (.builtin "BaseException.__getattribute__"))
 hk:findIn K (.ref C) "__getattr__" = some none
 mB:mroIn K C (.type "BaseException")=some true
 mO:mroIn K C (.type "object")=some true
 ca:findIn K (.ref C) "__class__" = some (some (.builtin "object.__class__"))
 hn:specialIn K (.builtin "object.__class__") "__get__" = some (some (.builtin "getset_descriptor.__get__"))
 tk:takesIn K (.builtin "object.__class__")=some true
section
variable{K:Frag}{x C:ak}
theorem ZKa{f:aj}{Q:Unit->al->Prop}(X:K.In s.heap)(I:WQ x C s.heap)(a:mroIn K C (.type "BaseException")=some true)(b:Q () s):
  aC (aB prog w) A (checkBuiltinCall "BaseException.__getattribute__" ⟨[.ref x,f],[]⟩) Q E s:=by
 let⟨h,g,d,t,k⟩:=s;let c:builtinKind "BaseException.__getattribute__" = some .slot:=by decide +kernel
 let e:splitId "BaseException.__getattribute__" = some ("BaseException","__getattribute__"):=by decide +kernel
 let i:=I.ty (aB prog w);let j:=looks_mroIn (M:=aB prog w) X a;simp only[checkBuiltinCall,c,e];refine aa ?_;unfold isInstance
 repeat lk
 exact b
def ZIo{b:Str}{i:Tok}{r:Builtin.ObjectAttr.Found}{Q:Fin->al->Prop}(X:K.In s.heap)(I:WQ x C s.heap)(e:Looks (aB prog w) s.heap (Builtin.ObjectAttr.find (.ref x) (.ref C) b) r)(h:match r with
   | .value v=>Q (.done (.ret v)) s
   | .bind g a=>aC (aB prog w) A (call g [a,.ref x,.ref C]) (λv c=>Q (.done (.ret v)) c) E s
   | .missing=>False):aC (aB prog w) A (Builtin.«object.__getattribute__» ⟨[.ref x,.str b i],[]⟩) Q E s:=by
 let⟨j,g,d,t,k⟩:=s;let f:=I.ty (aB prog w);unfold Builtin.«object.__getattribute__»;refine aa (ae ?_);refine aa (ae ?_);refine aa (f.at ?_);refine aa (e.at ?_)
 cases r with
 | value v=>exact ae h
 | bind g a=>
  show aC _ _ (holding [a] (call g [a,.ref x,.ref C]) >>= ret) _ _ _;exact aa (ag (af h (λv c z=>ae z) λ_ _ z=>z))
 | missing=>exact h.elim
theorem Ay{c:Str}{r:Builtin.ObjectAttr.Found}{b f:Bool}{k:Tok}{Q:ja}(X:K.In s.heap)(I:WQ x C s.heap)(e:Wr K C)(l:Looks (aB prog w) s.heap (Builtin.ObjectAttr.find (.ref x) (.ref C) c) r)(h:match r with
   | .value v=>handedIn v=true/\Q v s
   | .bind g a=>aC (aB prog w) A.in1 (call g [a,.ref x,.ref C]) (λv j=>handedIn v=true/\Q v j) (λ_ _=>False) s
   | .missing=>False):aC (aB prog w) A (getAttrBy (.ref x) (.str c k) f b) Q E s:=by
 let i:=F.excAttr_ValueError;let m:=I.ty (aB prog w);let n:=looks_findIn (M:=aB prog w) X e.ga;let o:=looks_findIn (M:=aB prog w) X e.hk;let p:(Value.builtin "BaseException.__getattribute__" == Value.builtin "object.__getattribute__")=false:=by decide +kernel
 let⟨q,g,d,t,u⟩:=s;unfold getAttrBy;refine ag (aa (m.at (aa (n.at ?_))));show aC _ _ (if (true&&(Value.builtin "BaseException.__getattribute__" == Value.builtin "object.__getattribute__"))=true then _ else getAttrByItsOwn (.ref x) (.str c k) (.ref C) (.builtin "BaseException.__getattribute__") f b) _ _ _
 rw[p,aO (by decide)]
 unfold getAttrByItsOwn hookBefore;refine aa (o.at ?_);refine aa (wpAny_attempt (ag ?_));unfold callGetattribute;rw[aO (by cases b <;> decide)]
 unfold boundAndCalled;rw[i.ga.bind (.ref x)];refine aa (ae ?_);refine wpAny_call (codeAny_call_builtin i.ga.plain F.entry_bexc_ga (ZKa X I e.mB (ZIo X I l ?_)))
 cases r with
 | value v=>exact handed_on h.1 h.2
 | bind g a=>exact af h (λv j z=>handed_on z.1 z.2) λ_ _ z=>z.elim
 | missing=>exact h.elim
theorem AY{R:Result->al->Prop}{b:aj}(X:K.In s.heap)(I:WQ x C s.heap)(e:Wr K C)(h:R (.ok (.ret (.ref C))) s):
  codeAny (aB prog w) A (.call (.builtin "getset_descriptor.__get__") ⟨[.builtin "object.__class__",.ref x,b],[]⟩) R s:=by
 let⟨f,d,c,j,a⟩:=s;let g:=I.ty (aB prog w);let i:=looks_mroIn (M:=aB prog w) X e.mO;refine codeAny_call_builtin KF.slot_gs.plain KF.entry_gs ?_;refine KF.slot_gs.check _ _ _ _ _ _ _ _ KF.type_class (KF.args_gs _ _ _) ?_;unfold Builtin.«getset_descriptor.__get__»;unfold Builtin.Getset_descriptor.descrGet;rw[dga_obj];refine aa (ae ?_);unfold Builtin.Getset_descriptor.descrGetter;unfold Builtin.Getset_descriptor.descrCheckInstance;unfold Builtin.Getset_descriptor.descrNameAndClass;unfold isInstance;simp only[KF.owner_class]
 repeat lk
 exists Code.quiet_builtin _ (by decide +kernel)
 refine codeAny_builtin KF.entry_class ?_;unfold Builtin.«object.__class__»;unfold shownTypeOf
 repeat lk
 exact h
def Bb(X:K.In s.heap)(e:Wr K C)(M:Model):Looks M s.heap (Builtin.ObjectAttr.find (.ref x) (.ref C) "__class__") (.bind (.builtin "getset_descriptor.__get__") (.builtin "object.__class__")):=by
 let a:=looks_findIn (M:=M) X e.ca;let b:=looks_specialIn (M:=M) X e.hn;let c:=looks_takesIn (M:=M) X e.tk;refine Looks.andThen a (Looks.andThen b ?_);exact Looks.andThen (show Looks M s.heap (Builtin.ObjectAttr.dataDescriptor? (some (.builtin "object.__class__")) (some (.builtin "getset_descriptor.__get__"))) (some (_,_)) from Looks.andThen c Looks.now) (Looks.tag Looks.now)
end
def Wr.cls{K:Frag}{C:ak}(e:Wr K C):∃ g d c k,K.lookup C=some ⟨g,d,.cls c,k⟩:=by
 let⟨c,h,_⟩:=qP.mp e.mB;unfold clsIn at h;split at h
 ·rename_i f i a b j
  exact⟨f,i,a,b,j⟩
 ·cases h
def E5{K:Frag}{x C:ak}(e:Wr K C):KitX K (.ref x) (.ref C) (WQ x C) where
 ty:=λM _ _ I=>I.ty M
 it:=λ_ _ X _=>by
  let⟨i,d,g,m,b⟩:=e.cls;intro p t r v k q;unfold isType loadHead;let z:=k _ _ (X _ _ b);exact aa (wpAny_loadPart z (ae q))
 ne:=λh f u l n m X a=>by
  let⟨i,d,g,o,b⟩:=e.cls
  cases q:(Value.ref C==Value.ref f) with
  | false=>rfl
  | true=>
   let j:C=f:=Value.ref.inj (eq_of_beq q);rw[<-j,X _ _ b] at a;cases a
 ca:=fun{c w A E Q s} X I k=>by
  unfold getAttr? getAttrBy?;refine aa (wpAny_mkText (aa (wpAny_attempt ?_)));refine Ay (s:={ s with toks:=s.toks+1 }) X I e (Bb (s:={ s with toks:=s.toks+1 }) X e _) ?_;exact wpAny_call (AY (s:={ s with toks:=s.toks+1 }) X I e ⟨Z,ae k⟩)
end L2
namespace L2
open PySem PySem.Spec PyProof.Rows
def Cx.held(X:Cx)(a:ak)(E:ja):Cx:={ X with A:=X.A.mark (some (.ref a)),calm:=false,xe:=E }
section
variable{kg:jq}{σ:St}{H H':Hp}{s':al}{ea:ak}
def ZF.held(I:ZF X kg σ H s)(ea:ak)(E:ja):ZF (X.held ea E) kg σ H s:=
 ⟨⟨I.ok.mod,I.ok.kind,I.ok.glob,I.ok.blt,I.ok.above,I.ok.inj,I.ok.has,I.ok.cab,λz=>absurd z zW,I.ok.frames,I.ok.stk,I.ok.exf,I.ok.bs,I.ok.bsz,I.ok.noex,I.ok.exfs,I.ok.funs,I.ok.frf⟩,
  I.os,I.bare,I.base,I.loc,I.cell,I.free,I.freeC,I.pin,I.hok,I.len⟩
def ZF.unheld(a:X.Ok)(I:ZF (X.held ea E) kg σ H s):ZF X kg σ H s:=⟨a,I.os,I.bare,I.base,I.loc,I.cell,I.free,I.freeC,I.pin,I.hok,I.len⟩
def ZF.track{a:ak}{o:HO}(I:ZF X kg σ H s)(l:X.s₀.heap.get? a=none)(t:a≠X.env.locals)(m:∀ x c,X.env.cells.lookup x=some c->c≠a)(y:∀ p∈X.pn++kg,p.1≠a)(v:H a=none)(h:Zb X.prog X.w (upd H a o) s.heap a o):ZF X kg σ (upd H a o) s:=by
 let g:∀{b:ak}{u:HO},H b=some u->b≠a:=fun{b u} e z=>by rw[z,v] at e;cases e
 refine⟨I.ok,I.os,I.bare,⟨I.base.keep,I.base.slot,λb i q n A=>?_,I.base.there,λb k q=>?_,λb i u q=>?_,λb B q=>?_⟩,I.loc,I.cell,?_,λx c e=>?_,λp d=>?_,λb u e=>?_,I.len⟩
 ·rw[ZR (λz=>by rw[z,l] at q;cases q)]
  exact I.base.free b i q n A
 ·let e:=I.base.tups b k q;rw[ZR (g e)];exact e
 ·let e:=I.base.frzs b i u q;rw[ZR (g e)];exact e
 ·let⟨f,e⟩:=I.base.tbls b B q;exact⟨f,by rw[ZR (g e)];exact e⟩
 ·rw[ZR (Ne.symm t)];exact I.free
 ·rw[ZR (m x c e)];exact I.freeC x c e
 ·let⟨e,n,r⟩:=I.pin p d;exact⟨e,by rw[ZR (y p d)];exact n,r⟩
 ·by_cases j:b=a
  ·subst j;rw[ZV] at e;cases e;exact h
  ·rw[ZR j] at e;exact(I.hok b u e).stay (λ_ _ _ q=>q) (λc q=>by rw[ZR (g q)];exact q) λc k q=>by rw[ZR (g q)];exact q
def ZF.goes{i:Nat}{n:Str}{M:Model}{A:ay}{Q:Unit->al->Prop}{D:aJ}(I:ZF X kg σ H s)(O:X.N.Nodup)(F:X.N[i]? = some n)(f:X.env.scope.names.lookup n=some .local)(h:∀ s',ZF X kg (σ.set i none) H s'->Q () s'):aC M A (do bindName X.env n .none;unbindBehindTheSuite X.env n D) Q E s:=by
 let⟨m,G,P⟩:=id I.loc;let r:(X.env.scope.kind==.class || (X.env.scope.kind==.module&&X.env.locals != X.env.globals))=false:=by rw[I.ok.kind];rfl
 let t:i<σ.length:=by rw[I.len];exact(zE.mp F).1
 refine wpAny_nameGoes_keeps f G r λh' v C a=>h _ ?_;let⟨oL,_,_,R,_⟩:=id G;let g:∀ b o,X.s₀.heap.get? b=some o->b≠X.env.locals:=λb o e=>yK (yV (zG e) I.ok.above);refine⟨I.ok,I.os,I.bare,⟨λb o e n x f=>?_,λb o e n x f=>?_,I.base.free,λb o e f=>?_,I.base.tups,I.base.frzs,I.base.tbls⟩,⟨_,C,λj y v' l u L=>?_⟩,λy c e=>?_,I.free,I.freeC,λp S=>?_,λb V e=>?_,by simpa using I.len⟩
 ·exact(a.2 b (g b o e)).trans (I.base.keep b o e n x f)
 ·let⟨Y,l⟩:=I.base.slot b o e n x f;exact⟨Y,(a.2 b (g b o e)).trans l⟩
 ·let⟨U,l⟩:=I.base.there b o e f;exact⟨U,(a.2 b (g b o e)).trans l⟩
 ·by_cases B:j=i
  ·subst B;rw[sV t] at u;cases u
  ·rw[sZ (Ne.symm B)] at u;let⟨u',W,q⟩:=P j y v' l u L;exists u',W;rcases q with ⟨k,e⟩ | ⟨k,c,e,z⟩
   ·refine .inl ⟨k,?_⟩;have:y≠n:=λe=>B (Iu O l (e ▸ F));simp[this,e]
   ·exact .inr ⟨k,c,e,z.sameBut a (I.cne y c e)⟩
 ·let⟨K,z⟩:=I.cell y c e;exact⟨K,z.sameBut a (I.cne y c e)⟩
 ·let⟨e,n,J,T,d⟩:=I.pin p S;exact⟨(a.2 p.1 J).trans e,n,J,T,d⟩
 ·refine(I.hok b V e).stay (λc K w q=>(a.2 c ?_).trans q) (λ_ q=>q) λ_ _ q=>q;rintro rfl;rcases w with rfl | w
  ·rw[I.free] at e;cases e
  ·rw[I.free] at w;cases w
end
section
variable{x C CB:ak}
def Fz{b:Bool}{Q:Bool->al->Prop}(X:K.In s.heap)(I:WQ x C s.heap)(o:xB K (.ref CB)=some (.type "type"))(c:yI K CB (.type "BaseException")=some true)(l:yI K C (.ref CB)=some b)(h:Q b s):aC (aB prog w) A (excMatches (.ref x) (.ref CB)) Q E s:=by
 let⟨m,g,d,t,H⟩:=s;let v:=I.ty (aB prog w);let y:=qY (M:=aB prog w) X c;let z:=qY (M:=aB prog w) X l;let e:=qR (M:=aB prog w) X o;let f:=tc_notTuple;let B:tU (aB prog w) m (isType (.ref CB)) true:=by
  let⟨j,a,_⟩:=qP.mp c;unfold PySem.W.clsIn at a;split at a
  ·rename_i F G i p n
   intro r D u J k q;unfold isType loadHead;exact aa (wpAny_loadPart (k _ _ (X _ _ n)) (ae q))
  ·cases a
 unfold excMatches isInstance isExcClass;refine aa (aa (e.at ?_));rw[f];refine ae ?_;rw[aO zW];refine aa (ae ?_);simp only[sM,List.forIn_nil]
 cases b with
 | true=>
  repeat (first | lk | wp_step)
  all_goals first | exact h | trace_state
 | false=>
  repeat (first | lk | wp_step)
  all_goals first | exact h | trace_state
end
end L2
namespace Tw
open PySem
inductive TG where
 | int (i:Int)
 | str (x:Str)
 | tup (l:List TG)
 | odd (n:String)
mutual
def TG.fits:TG->Nat->Bool
 | .int i,_=>decide (i.natAbs<10 ^ 60)
 | .str x,_=>Qw x
 | .tup l,r=>decide (0<r)&&(decide (l.length<=4)&&gfitsL l (r-1))
 | .odd _,_=>false
def gfitsL:List TG->Nat->Bool
 | [],_=>true
 | t::l,r=>t.fits r&&gfitsL l r
end
theorem GX(r:Nat):∀ l:List TG,gfitsL l r=l.all λt=>t.fits r
 | []=>by simp[gfitsL]
 | t::l=>by rw[gfitsL,uS,GX r l]
mutual
noncomputable def KT.emb:KT->TG
 | .int i=>.int i
 | .str x=>.str x
 | .tup l=>.tup (embL l)
noncomputable def embL:jk->List TG
 | []=>[]
 | t::l=>t.emb::embL l
end
theorem Mx:∀ l:jk,embL l=l.map KT.emb
 | []=>by rw[embL];rfl
 | t::l=>by rw[embL,Mx l];rfl
mutual
theorem Ib:∀(t:KT)(r:Nat),t.emb.fits r=t.fits r
 | .int i,r=>by rw[KT.emb,TG.fits,KT.fits]
 | .str x,r=>by rw[KT.emb,TG.fits,KT.fits]
 | .tup l,r=>by rw[KT.emb,TG.fits,KT.fits,embL_fits l (r-1),Mx,zX]
theorem embL_fits:∀(l:jk)(r:Nat),gfitsL (embL l) r=fitsL l r
 | [],r=>by rw[embL,gfitsL,fitsL]
 | t::l,r=>by rw[embL,gfitsL,fitsL,Ib t r,embL_fits l r]
end
mutual
def TG.neat:TG->Prop
 | .int _=>True
 | .str x=>x.length<=1000
 | .tup l=>l.length<=5/\neatL l
 | .odd _=>True
def neatL:List TG->Prop
 | []=>True
 | t::l=>t.neat/\neatL l
end
theorem Cc:∀{l:List TG}{t:TG},neatL l->t∈l->t.neat
 | [],_,_,h=>by cases h
 | u::l,t,h,hm=>by
  rw[neatL] at h;rcases zQ.mp hm with e | e
  ·subst e;exact h.1
  ·exact Cc h.2 e
mutual
theorem Kj:∀(t:KT)(r:Nat),t.fits r=true->t.emb.neat
 | .int i,r,h=>by rw[KT.emb,TG.neat];trivial
 | .str x,r,h=>by
  rw[KT.fits] at h;rw[KT.emb,TG.neat];have:=(Bt h).1;exact zN this (by decide)
 | .tup l,r,h=>by
  rw[KT.fits,zP,zP] at h;rw[KT.emb,TG.neat,Mx,zX,<-Mx];have:=of_decide_eq_true h.2.1;exact⟨∅,embL_neat l (r-1) h.2.2⟩
theorem embL_neat:∀(l:jk)(r:Nat),fitsL l r=true->neatL (embL l)
 | [],r,h=>by rw[embL,neatL];trivial
 | t::l,r,h=>by
  rw[fitsL,zP] at h;rw[embL,neatL];exact⟨Kj t r h.1,embL_neat l r h.2⟩
end
end Tw
namespace L2
open PySem PySem.Spec PyProof.Rows
def ZF.big{a:jq}{b:St}{H:Hp}{s:al}(I:ZF X a b H s):sysModules<s.heap.objs.size:=by
 let h:aq<s.heap.objs.size:=(I.mod.glob.keeps I.bk).lt;exact Nat.lt_trans (by decide) h
def Fl{P:am}{w:ax}{H:Hp}(h:aE)(a:sysModules<h.objs.size):Zb P w H (h.push { cls:=.type "dict",data:=.dict #[] }) h.objs.size (.dK []):=
 ⟨zD _,beq_eq_false_iff_ne.mpr (Ne.symm (yK a)),[],.nil,Heap.DictOf.new h⟩
def Bf:TE:=λ_ H Q=>∀ p,H p=none->Q (.ref p) (upd H p (.dK []))
def FI{b:aJ}:PE X (.Dict [] [] b) Bf:=λc s d H Q I h=>
 wpAny_Dict_empty ⟨.ref s.heap.objs.size,_,I.laid (a:=s.heap.objs.size) (o:=.dK []) (t':=s.toks) (λ_ _ q=>zB _ q) (zY _) (Fl s.heap I.big),rfl,h _ (I.hok.fresh (zY _))⟩
def Pu(x:Str)(n:Int):Str:=⟨(wD n.toNat x.cps).foldl (· ++ ·) #[]⟩
theorem Fj(a:Array Nat):∀(k:Nat)(b:Array Nat),((wD k a).foldl (· ++ ·) b).size=b.size+k * a.size
 | 0,b=>by simp
 | k+1,b=>by
  rw[List.replicate_succ,List.foldl_cons,Fj a k,Array.size_append,Nat.succ_mul]
  lia
inductive Vy(x y:V)(H:Hp)(Q:VK):Prop
 |mk(i n:_)(_:x=.str i)(_:y=.int n)(_:i.length=1)(_:2<=n)(_:n<=1000)(_:Q (.str (Pu i n)) H)
theorem ZH2:Yy X (binaryOp .Mult) (Vy):=by
 intro b s o H x y v u Q I f g h;let⟨i,n,rfl,rfl,a,k,l,q⟩:=h;let⟨t,rfl⟩:=f;let⟨m,rfl⟩:=g;let c:¬ n<1:=∅
 let d:¬ ((n==1 || i.length==0)=true):=by rw[a];simp;lia
 let j:(Pu i n).length<=sizeLine:=by
  show ((wD n.toNat i.cps).foldl (· ++ ·) #[]).size<=ar;let e:i.cps.size=1:=a;rw[Fj,e];exact xU (XU (by simp;lia))
 refine PySem.P.mul_str ?_ (λ_ _=>?_) (λ_ _=>?_) ?_
 ·rw[aK ∅,aK ∅];rfl
 ·rw[a];have:(1:Int)<=(2 ^ 63-1) / n:=(Int.le_ediv_iff_mul_le ∅).mpr ∅
  lia
 ·rw[a];unfold Builtin.Str.tooLong ar;exact aK ∅
 ·rw[aO c,aO d];exact⟨j,⟨.str (Pu i n),H,I.tok _,⟨_,Z⟩,q⟩⟩
def cV:V->aj
 | .ty n=>.type n
 | .ref a=>.ref a
 | _=>.none
def MT:V->Bool
 | .ty _=>true
 | .ref _=>true
 | _=>false
def EI{c:V}{u:aj}(r:ZN c u)(h:MT c=true):u=cV c:=by
 cases c with
 | ty n=>exact r
 | ref a=>exact r
 | _=>cases h
theorem GT:∀{a:jf}{b:je},ZP a b->(∀ c∈a,MT c=true)->b=a.map cV
 | _,_,.nil,_=>rfl
 | _,_,.cons r t,h=>by rw[EI r (h _ zM),GT t λc d=>h c (zK _ d)];rfl
section
variable{κ:Type}[DecidableEq κ]
def Yo(a:List (κ×V))(k:κ):jg:=(a.find? λkv=>decide (kv.1=k)).map (·.2)
def Y1(a:List (κ×V))(k:κ)(v:V):List (κ×V):=
 if (a.any λkv=>decide (kv.1=k))=true then a.map (λkv=>if kv.1=k then (kv.1,v) else kv) else a++[(k,v)]
def QU{p:κ×V}{r:List (κ×V)}{k:κ}(e:p.1=k):Yo (p::r) k=some p.2:=by simp[Yo,vO,e]
def Qt{p:κ×V}{r:List (κ×V)}{k:κ}(e:¬ p.1=k):Yo (p::r) k=Yo r k:=by simp[Yo,vO,e]
theorem Na(k:κ):∀ a:List (κ×V),(a.any λkv=>decide (kv.1=k))=(Yo a k).isSome
 | []=>rfl
 | p::r=>by
  rw[vW];by_cases e:p.1=k
  ·simp only[QU e,aM e,Bool.true_or,Option.isSome_some]
  ·rw[Qt e,aK e,Bool.false_or];exact Na k r
theorem Fu(k j:κ)(y:V):∀ a:List (κ×V),Yo (a.map λkv=>if kv.1=k then (kv.1,y) else kv) j=(Yo a j).map λx=>if j=k then y else x
 | []=>rfl
 | p::r=>by
  let b:=Fu k j y r;rw[yW];by_cases h:p.1=k
  ·rw[aP h];by_cases e:p.1=j
   ·rw[QU (p:=(p.1,y)) e,QU e,wB,aP (e.symm.trans h)]
   ·rw[Qt (p:=(p.1,y)) e,Qt e,b]
  ·rw[aO h];by_cases e:p.1=j
   ·rw[QU (p:=p) e,QU e,wB,aO (λz=>h (e.trans z))]
   ·rw[Qt (p:=p) e,Qt e,b]
theorem GE(k j:κ)(y:V):∀ a:List (κ×V),Yo a k=none->Yo (a++[(k,y)]) j=if j=k then some y else Yo a j
 | [],_=>by
  by_cases e:k=j
  ·rw[aP e.symm];exact QU (p:=(k,y)) e
  ·rw[aO (λz=>e z.symm)];exact Qt (p:=(k,y)) e
 | p::r,hn=>by
  rw[vH];let b:¬ p.1=k:=λz=>by rw[QU z] at hn;cases hn
  rw[Qt b] at hn;let c:=GE k j y r hn;by_cases e:p.1=j
  ·rw[QU e,QU e,aO (λz=>b (e.trans z))]
  ·rw[Qt e,Qt e,c]
def Cn(b:List (κ×V))(k j:κ)(y:V):Yo (Y1 b k y) j=if j=k then some y else Yo b j:=by
 unfold Y1;by_cases a:(b.any λkv=>decide (kv.1=k))=true
 ·rw[aP a,Fu];rw[Na] at a;by_cases e:j=k
  ·let⟨x,c⟩:=uF.mp a;rw[aP e,e,c,wB,aP rfl]
  ·rw[aO e]
   cases Yo b j with
   | none=>rfl
   | some x=>rw[wB,aO e]
 ·rw[aO a];refine GE k j y b ?_;rw[Na] at a
  cases q:Yo b k with
  | none=>rfl
  | some x=>rw[q] at a;exact(a Z).elim
def JG(a:List (κ×V))(k:κ)(v:V):(Y1 a k v).length<=a.length+1:=by
 unfold Y1;split
 ·rw[zX];lia
 ·rw[zS,zO,List.length_nil];lia
def FL{a:List (κ×V)}{k:κ}(v:V)(h:Yo a k=none):Y1 a k v=a++[(k,v)]:=by
 unfold Y1;rw[Na,h];exact aO (by decide)
def Y0.isSome_eq{o:jg}{u:jd}(r:Y0 o u):o.isSome=u.isSome:=by
 cases o with
 | none=>cases u with
  | none=>rfl
  | some _=>exact(show False from r).elim
 | some _=>cases u with
  | none=>exact(show False from r).elim
  | some _=>rfl
def Y0.getD{o:jg}{u:jd}{d:V}{a:aj}(r:Y0 o u)(rd:ZN d a):ZN (o.getD d) (u.getD a):=by
 cases o with
 | none=>cases u with
  | none=>exact rd
  | some _=>exact(show False from r).elim
 | some _=>cases u with
  | none=>exact(show False from r).elim
  | some _=>exact r
def KV.val{a:List (κ×V)}{g:List (κ×aj)}(r:KV a g)(k:κ):Y0 (Yo a k) (valueAt g k):=by
 unfold KV at r
 induction r with
 | nil=>exact True.intro
 | @cons p q l d h t j=>
  let⟨f,i⟩:=h;by_cases e:p.1=k
  ·let c:q.1=k:=f.symm.trans e;let b:valueAt (q::d) k=some q.2:=by simp[valueAt,vO,c]
   rw[QU e,b];exact i
  ·let c:¬ q.1=k:=λz=>e (f.trans z);let b:valueAt (q::d) k=valueAt d k:=by simp[valueAt,vO,c]
   rw[Qt e,b];exact j
def KV.any{a:List (κ×V)}{b:List (κ×aj)}(r:KV a b)(k:κ):(a.any λkv=>decide (kv.1=k))=b.any λkv=>decide (kv.1=k):=by
 unfold KV at r
 induction r with
 | nil=>rfl
 | cons h t c=>rw[vW,vW,c,h.1]
def KV.repl{a:List (κ×V)}{c:List (κ×aj)}(r:KV a c)(k:κ){y:V}{u:aj}(g:ZN y u):
  KV (a.map λkv=>if kv.1=k then (kv.1,y) else kv) (c.map λkv=>if kv.1=k then (kv.1,u) else kv):=by
 unfold KV at r⊢
 induction r with
 | nil=>exact .nil
 | @cons p q i j h t f=>
  rw[yW,yW];refine .cons ?_ f;let⟨b,d⟩:=h;by_cases e:p.1=k
  ·rw[aP e,aP (b.symm.trans e)];exact⟨b,g⟩
  ·rw[aO e,aO (λz=>e (b.trans z))];exact⟨b,d⟩
def KV.put{a:List (κ×V)}{b:List (κ×aj)}(r:KV a b)(k:κ){y:V}{u:aj}(c:ZN y u):KV (Y1 a k y) (stored b k u):=by
 unfold Y1 stored;rw[r.any k];by_cases e:(b.any λkv=>decide (kv.1=k))=true
 ·rw[aP e,aP e];exact r.repl k c
 ·rw[aO e,aO e];exact Paired.snoc r ⟨Z,c⟩
def KV.length{a:List (κ×V)}{b:List (κ×aj)}(r:KV a b):a.length=b.length:=Paired.length r
end
def NN{P:am}{w:ax}{k:Zc}{u:aj}(r:ZN (kV k) u):(VQ P w).is k u=true:=by
 cases k with
 | inl i=>let⟨t,e⟩:=(show ∃ t,u=Value.int i t from r);subst e;exact ZGi P w i t
 | inr x=>let⟨t,e⟩:=(show ∃ t,u=Value.str x t from r);subst e;exact B9 P w x t
theorem EL{P:am}{w:ax}:∀{a:jy}{b:je},ZP (a.map kV) b->ItemsAre (VQ P w) a b
 | [],_,r=>by rw[uV] at r;cases r;exact .nil
 | k::a,_,r=>by
  rw[yW] at r
  cases r with
  | cons h t=>exact .cons (NN h) (EL t)
abbrev KT(H:Hp):List (jy×V)->List (jy×ak×aj)->Prop:=Paired λp q=>p.1=q.1/\H q.2.1=some (.tup (p.1.map kV))/\ZN p.2 q.2.2
def KT.val{H:Hp}{a:List (jy×V)}{g:List (jy×ak×aj)}(r:KT H a g)(k:jy):Y0 (Yo a k) ((atKey g k).map (·.2)):=by
 induction r with
 | nil=>exact True.intro
 | @cons p q l d h t j=>
  let⟨f,_,i⟩:=h;by_cases e:p.1=k
  ·let c:q.1=k:=f.symm.trans e;let b:atKey (q::d) k=some q.2:=by simp[atKey,vO,c]
   rw[QU e,b];exact i
  ·let c:¬ q.1=k:=λz=>e (f.trans z);let b:atKey (q::d) k=atKey d k:=by simp[atKey,vO,c]
   rw[Qt e,b];exact j
def KT.repl{H:Hp}{a:List (jy×V)}{d:List (jy×ak×aj)}(r:KT H a d)(k:jy){y:V}{u:aj}(i:ZN y u):
  KT H (a.map λkv=>if kv.1=k then (kv.1,y) else kv) (d.map (putAt k u)):=by
 induction r with
 | nil=>exact .nil
 | @cons p q j l h t g=>
  rw[yW,yW];refine .cons ?_ g;let⟨b,c,f⟩:=h;unfold putAt;by_cases e:p.1=k
  ·rw[aP e,aP (b.symm.trans e)];exact⟨b,c,i⟩
  ·rw[aO e,aO (λz=>e (b.trans z))];exact⟨b,c,f⟩
def KT.put{H:Hp}{a:List (jy×V)}{c:List (jy×ak×aj)}(r:KT H a c)(k:jy){b:ak}{y:V}{u:aj}(f:H b=some (.tup (k.map kV)))(d:ZN y u):
  KT H (Y1 a k y) (storedH c k b u):=by
 let e:(a.any λkv=>decide (kv.1=k))=(atKey c k).isSome:=by
  rw[Na,(r.val k).isSome_eq,Option.isSome_map]
 unfold Y1 storedH;rw[e];by_cases q:(atKey c k).isSome=true
 ·rw[aP q,aP q];exact r.repl k d
 ·rw[aO q,aO q];exact Paired.snoc r ⟨Z,f,d⟩
def KT.keeps{H c:Hp}{a:List (jy×V)}{d:List (jy×ak×aj)}(r:KT H a d)(f:∀ b e,H b=some (.tup e)->c b=some (.tup e)):KT c a d:=
 Paired.mapP r λ_ _ z=>⟨z.1,f _ _ z.2.1,z.2.2⟩
section
variable{H:Hp}{h:aE}{a:ak}
def Ca{u:HO}(b:Y5 P w H h)(e:Rd H a u):Zb P w H h a u:=e.ok b
def NW{b:List (Zc×V)}(d:Y5 P w H h)(e:Rd H a (.dK b)):b.length<=ar/\(a==sysModules)=false/\∃ c,KV b c/\h.DictOf (VQ P w) a c:=
 show Zb P w H h a (.dK b) from Ca d e
def Jy{b:List (Zc×V)}(d:Y5 P w H h)(e:H a=some (.dK b)):b.length<=ar/\(a==sysModules)=false/\∃ c,KV b c/\h.DictOf (VQ P w) a c:=NW d (.inl e)
def N7{c:jy}(i:Y5 P w H h)(e:H a=some (.tup (c.map kV))):(tupleKind (VQ P w)).is h c a:=by
 let⟨_,b,r,o,d,f,n,g⟩:=(show Zb P w H h a (.tup (c.map kV)) from i a _ e);exact⟨o,b.toArray,n,d,f,g,by simpa using EL r⟩
def Nc{b:List (jy×V)}(i:Y5 P w H h)(e:Rd H a (.dT b)):b.length<=ar/\(a==sysModules)=false /\
  ∃ d,KT H b d/\h.DictOfH (tupleKind (VQ P w)) a d:=by
 let⟨z,y,d,r,o,k,j,n,s,u,v,A⟩:=(show Zb P w H h a (.dT b) from Ca i e);refine⟨z,y,d,r,o,k,j,n,s,u,v,λx c=>?_,A⟩;let f:∀{l:List (jy×V)}{m:List (jy×ak×aj)},KT H l m->∀ x∈m,(tupleKind (VQ P w)).is h x.1 x.2.1:=by
  intro l m q
  induction q with
  | nil=>intro x c;exact nomatch c
  | @cons p q C D g t B=>
   intro x c;rcases zQ.mp c with e | c
   ·subst e;exact N7 i (by rw[<-g.1];exact g.2.1)
   ·exact B x c
 exact f r x c
def ZP7{b:List (jy×V)}(d:Y5 P w H h)(e:H a=some (.dT b)):b.length<=ar/\(a==sysModules)=false /\
  ∃ c,KT H b c/\h.DictOfH (tupleKind (VQ P w)) a c:=Nc d (.inl e)
end
def Xv(H:Hp)(a:ak)(y:V)(r:jg):Prop:=
 (∃ c k,Rd H a (.dK c)/\y=kV k/\r=Yo c k)\/∃ c k b,Rd H a (.dT c)/\y=.ref b/\H b=some (.tup (k.map kV))/\r=Yo c k
def QM(H:Hp)(a:ak)(y v:V)(d:Hp):Prop:=
 (∃ c k,H a=some (.dK c)/\y=kV k/\c.length<ar/\d=upd H a (.dK (Y1 c k v))) \/
 ∃ c k b,H a=some (.dT c)/\y=.ref b/\H b=some (.tup (k.map kV))/\c.length<ar/\d=upd H a (.dT (Y1 c k v))
def Xv.k{H:Hp}{a:ak}{b:List (Zc×V)}{k:Zc}(e:H a=some (.dK b)):Xv H a (kV k) (Yo b k):=.inl ⟨b,k,.inl e,Z,Z⟩
def QM.k{H:Hp}{a:ak}{b:List (Zc×V)}{k:Zc}{v:V}(e:H a=some (.dK b))(c:b.length<ar):QM H a (kV k) v (upd H a (.dK (Y1 b k v))):=.inl ⟨b,k,e,Z,c,Z⟩
section
variable{kg:jq}{σ:St}{H:Hp}{a:ak}{y v:V}{u r:aj}{o:jg}
def ZJn{Q:ja}(F:A.units+1<cLine)(I:ZF X kg σ H s)(g:Xv H a y (some v))(t:ZN y u)(h:∀ f x,ZF X kg σ H x->ZN v f->Q f x):
  aC (aB X.prog X.w) A (getItem (.ref a) u) Q E s:=by
 rcases g with ⟨q,k,e,j,l⟩ | ⟨q,k,b,e,j,B,l⟩
 ·subst j;let⟨z,C,G,c,i⟩:=NW I.hok e;let⟨f,n,d⟩:=Y0.some_of (v:=v) (o:=valueAt G k) (by rw[l];exact c.val k)
  exact wpAny_getItem_of (NN t) i.mapOf n (h f _ (I.tok _) d)
 ·subst j;cases(show u=Value.ref b from t);let⟨z,C,J,c,i⟩:=Nc I.hok e;let⟨f,n,d⟩:=Y0.some_of (v:=v) (o:=(atKey J k).map (·.2)) (by rw[l];exact c.val k)
  let⟨p,D,m⟩:=xX.mp n;refine wpAny_getItem_heap (tupleKind_room_in1 F) (N7 I.hok B) i D ?_;rw[m];exact h f _ (I.tok _) d
def ZMw{Q:ja}(t:A.units+1<cLine)(I:ZF X kg σ H s)(g:Xv H a y o)(m:ZN y u)(h:∀ n,ZF X kg σ H n->Q (.bool (!o.isSome)) n):
  aC (aB X.prog X.w) A (aA .NotIn u (.ref a)) Q E s:=by
 rcases g with ⟨j,k,e,f,l⟩ | ⟨j,k,b,e,f,p,l⟩
 ·subst f;let⟨z,i,x,c,d⟩:=NW I.hok e;refine wpAny_notIn_of (NN m) i d.mapOf ?_;rw[<-(c.val k).isSome_eq,<-l];exact h _ (I.tok _)
 ·subst f;cases(show u=Value.ref b from m);let⟨z,i,B,c,d⟩:=Nc I.hok e;refine wpAny_notIn_heap (tupleKind_room_in1 t) (N7 I.hok p) i d ?_;let q:=(c.val k).isSome_eq;rw[Option.isSome_map] at q;rw[<-q,<-l];exact h _ (I.tok _)
def Lr{c:aE}{k:Nat}{f:HO}(I:ZF X kg σ H s)(j:Ni (H a))(i:xR a s.heap c)(h:∃ q,c.get? a=some q)(d:Zb X.prog X.w (upd H a f) c a f):
  ZF X kg σ (upd H a f) { s with heap:=c,toks:=k }:=
 I.write (x:=a) (e:=a) j (.inl rfl) (λb q g z=>(i.2 b g).trans z) h d
def Di{P:am}{w:ax}{f:Hp}{e:aE}{b:List (Zc×V)}{d:List (Zc×aj)}(z:b.length<=ar)(h:(a==sysModules)=false)(c:KV b d)(g:e.DictOf (VQ P w) a d):
  Zb P w f e a (.dK b):=⟨z,h,d,c,g⟩
def ZKA{D:Hp}{Q:Unit->al->Prop}(V:A.units+1<cLine)(I:ZF X kg σ H s)(g:QM H a y v D)(L:ZN y u)(K:ZN v r)(h:∀ M,ZF X kg σ D M->Q () M):
  aC (aB X.prog X.w) A (setItem (.ref a) u r) Q E s:=by
 rcases g with ⟨d,k,e,p,l,n⟩ | ⟨d,k,b,e,p,F,l,n⟩
 ·subst p n;let⟨z,t,W,f,m⟩:=Jy I.hok e;let C:W.length<=sizeLine:=by rw[<-f.length];exact z
  let x:(Y1 d k v).length<=sizeLine:=by have:=JG d k v;lia
  refine wpAny_setItem_pairs (hsz:=C) (NN L) m λJ i B=>h _ ?_;let U:∃ q,J.get? a=some q:=let ⟨q,_,_,j,_⟩:=i;⟨q,j⟩;exact Lr I (by rw[e];exact True.intro) B U (Di x t (f.put k K) i)
 ·subst p n;cases(show u=Value.ref b from L);let⟨z,t,Y,f,m⟩:=ZP7 I.hok e;let C:Y.length<=sizeLine:=by rw[<-Paired.length f];exact z
  let x:(Y1 d k v).length<=sizeLine:=by have:=JG d k v;lia
  refine wpAny_setItem_heap (hsz:=C) (tupleKind_room_in1 V) (N7 I.hok F) m λJ i B=>h _ ?_;let⟨q,O,N,j,P,R,S,_,T⟩:=i;refine Lr I (by rw[e];exact True.intro) B ⟨q,j⟩ ⟨x,t,_,(f.put k F K).keeps λc ys G=>?_,q,O,N,j,P,R,S,T⟩
  rw[ZR (ZY G e (λz=>nomatch z))];exact G
end
section
variable{kg:jq}{σ:St}{H:Hp}{a:ak}{kvs:List (Zc×V)}{k:Zc}{u:aj}
end
def LZ(i:Expr):Prop:=∀ b a,subscripted i false b a=operate [b,a] (getItem b a)
def GF{a:am}{w:ax}{A:ay}{E:ja}{s:al}{j:Env}{c b:Expr}{n:aJ}{T id:String}{Q:ja}(q:typeLookup (.type T) "__getitem__" = pure (some (.builtin id)))(t:LZ b)(h:aC (aB a w) A (aH c j) (λo f=>aC (aB a w) A (aH b j) (λi d=>d.TypeIs o T/\aC (aB a w) A (getItem o i) Q E d) E f) E s):
  aC (aB a w) A (aH (.Subscript c b n) j) Q E s:=by
 refine Subscript_ (af h (λo f l=>af l (λi d e=>?_) λ_ _ x=>x) λ_ _ x=>x);let⟨p,e⟩:=e;unfold subscriptTail;refine aa ?_;rw[getitemInPython_of_ne p.not_modules];refine aa (wpAny_specialOf p q ?_);let k:aC (aB a w) A (subscripted b false o i) (λr g=>aC (aB a w) A (letTemporaryGo c o r >>= λ_=>pure r) Q E g) E d:=by
  rw[t o i];exact wpAny_operating (af e (λr g m=>aa (wpAny_letTemporaryGo (ae m))) λ_ _ x=>x)
 first
  | exact ae (aa k)
  | exact aa (ae (aa k))
  | exact aa k
def ZGw{X:Cx}{c:jq}{h:St}{H:Hp}{s:al}{a:ak}{y:V}{o:jg}(I:ZF X c h H s)(g:Xv H a y o):s.TypeIs (.ref a) "dict" :=by
 rcases g with ⟨f,k,e,_,_⟩ | ⟨f,k,b,e,_,_,_⟩
 ·let⟨_,_,i,_,d⟩:=NW I.hok e;exact d.typeIs
 ·let⟨_,_,j,_,d⟩:=Nc I.hok e;exact d.typeIs
inductive OT(Q:VK)(x y:V)(b:Hp):Prop
 |mk(a v:_)(_:x=.ref a)(_:Xv b a y (some v))(_:Q v b)
def ZQM(d e:TE):TE:=λa H Q=>d a H λx b=>e a b λy c=>OT Q x y c
inductive Qq(Q:VK)(y x:V)(b:Hp):Prop
 |mk(a o:_)(_:x=.ref a)(_:Xv b a y o)(_:Q (.bl (!o.isSome)) b)
def ZMo(e d:TE):TE:=λa H Q=>e a H λy b=>d a b λx c=>Qq Q y x c
inductive OQ(D:YM)(d:L2.St)(v x y:V)(c:Hp):Prop
 |mk(a b:_)(_:x=.ref a)(_:QM c a y v b)(_:D.nx d b)
def ZQq(e g f:TE):TS:=λD a H=>f a H λv b=>e a b λx c=>g a c λy d=>OQ D a v x y d
section
variable{o i e value:Expr}{pos pos' tpos:aJ}{td ty tv:TE}
def Ft(t:X.A.units+1<cLine)(q:PE X o td)(p:PE X i ty)(r:LZ i:=by exact λ_ _=>rfl):PE X (.Subscript o i pos) (ZQM td ty):=by
 intro b s f H Q I h;refine GF qE.lookup r (Z7 (q b s f H _ I h) λu D x j l B w=>Z2 (p b D f j _ l w) ?_);rintro E G ⟨y,k,d,C,a,v,n,g,z⟩;subst n;obtain rfl:u=Value.ref a:=B;exact⟨ZGw d g,ZJn t d g C λK J m c=>⟨v,k,m,c,z⟩⟩
def ZKH(q:X.A.units+1<cLine)(n:PE X i ty)(p:PE X o td):PC X .NotIn i o (ZMo ty td):=by
 intro b s c H Q I h;refine Z7 (n b s c H _ I h) λC B y d j z t=>Z2 (p b B c d _ j t) ?_;rintro u D ⟨x,f,k,w,a,r,m,g,v⟩;subst m;obtain rfl:u=Value.ref a:=w;exact ZMw q k g z λE l=>⟨.bl (!r.isSome),f,l,Z,v⟩
def D7(z:X.A.units+1<cLine)(t:PE X o td)(q:PE X i ty)(B:PE X value tv)(w:swapsWith value (some (.Subscript o i pos')) pos.line X.env=pure false):
  PS X (.Assign [.Subscript o i pos'] value pos) (ZQq td ty tv):=by
 intro b s c H D I h;refine wpAny_Assign_Subscript (Z7 (B b s c H _ I h) λr L v d k G C=>Z7 (t b L c d _ k C) λu M x f l J E=>Z2 (q b M c f _ l E) λO P ⟨y,N,m,K,a,j,p,g,F⟩=>?_) w;subst p;obtain rfl:u=Value.ref a:=J;exact ZKA z m g K G λQ n=>⟨c,j,n,F⟩
end
section
variable{pos:aJ}
end
def Kl:jL->St->Hp->(List (V×V)->Hp->Prop)->Prop
 | [],_,H,Q=>Q [] H
 | (e,f)::r,σ,H,Q=>e σ H λx a=>f σ a λy b=>Kl r σ b λd c=>Q ((x,y)::d) c
abbrev VV:List (V×V)->List (aj×aj)->Prop:=Paired λp q=>ZN p.1 q.1/\ZN p.2 q.2
def KN(X:Cx)(d:aJ)(c:List (jK))(a:jx)(e:jL):Prop:=
 ∀(b:jq)(s:al)(f:St)(H:Hp)(Q:List (V×V)->Hp->Prop),ZF X b f H s->Kl e f H Q ->
  aC (aB X.prog X.w) X.A (evalPairs (pairTrees c a X.env d)) (λj i=>∃ h g,ZF X b f g i/\VV h j/\Q h g) X.xe s
def ZMe{X:Cx}{a:aJ}:KN X a [] [] []:=λb s c H Q I h=>pairTrees_nil_walk ⟨[],H,I,.nil,h⟩
def ZKx{X:Cx}{b:aJ}{k v:Expr}{f:List (jK)}{j:jx}{g i:TE}{c:jL}(r:PE X k g)(w:PE X v i)(t:KN X b f j c):
  KN X b (some k::f) (v::j) ((g,i)::c):=λa s e H Q I h=>
 pairTrees_cons_walk (Z7 (r a s e H _ I h) λu F x l o D A=>Z7 (w a F e l _ o A) λK G y m p E B=>
  Z7 (t a G e m _ p B) λL J z n q d C=>⟨(x,y)::z,n,q,.cons ⟨D,E⟩ d,C⟩)
def NR(c a:List (Zc×V)):List (Zc×V):=a.foldl (λb kv=>Y1 b kv.1 kv.2) c
def KV.merge:∀{b:List (Zc×V)}{d:List (Zc×aj)}{a:List (Zc×V)}{c:List (Zc×aj)},KV b d->KV a c->KV (NR a b) (merged c d):=by
 intro b d a c r;unfold KV at r
 induction r generalizing a c with
 | nil=>intro q;exact q
 | @cons p q i j h t f=>
  intro g;let e:KV (Y1 a p.1 p.2) (stored c q.1 q.2):=by
   have:=g.put p.1 h.2;rw[<-h.1];exact this
  exact f e
theorem Ex:∀(b a:List (Zc×V)),(NR a b).length<=a.length+b.length
 | [],a=>by show a.length<=a.length+0;lia
 | p::r,a=>by
  let c:=Ex r (Y1 a p.1 p.2);let d:=JG a p.1 p.2;show (NR (Y1 a p.1 p.2) r).length<=_;rw[zO];lia
theorem Cj{P:am}{w:ax}:∀{d:List (Zc×V)}{f:List (aj×aj)},VV (d.map λkv=>(kV kv.1,kv.2)) f->∃ e,Carries (VQ P w) f e/\KV d e
 | [],_,r=>by rw[uV] at r;cases r;exact⟨[],True.intro,.nil⟩
 | p::d,_,r=>by
  rw[yW] at r
  cases r with
  | @cons a b i k h t=>
   let⟨e,c,q⟩:=Cj (P:=P) (w:=w) t;let⟨j,g⟩:=b;exact⟨(p.1,g)::e,⟨NN h.1,Z,c⟩,.cons ⟨Z,h.2⟩ q⟩
def ZQt(b:jL):TE:=λe H Q=>∀ p,H p=none->Kl b e (upd H p (.dK [])) λd c=>c p=some (.dK [])/\∃ a:List (Zc×V),d=a.map (λkv=>(kV kv.1,kv.2))/\a.length<=15/\Q (.ref p) (upd c p (.dK (NR [] a)))
theorem Bn{X:Cx}{k:aJ}{b:List (jK)}{d:jx}{l:jL}(h:KN X k b d l)(g:b.all (·.isSome)=true)(C:b.length=d.length)(x:b≠[])(m:b.length<=15):PE X (.Dict b d k) (ZQt l):=by
 intro j s M H Q I q;let D:=I.hok.fresh (zY s.heap.objs.size);let r:=I.laid (a:=s.heap.objs.size) (o:=.dK []) (h':=s.heap.push { cls:=.type "dict",data:=.dict #[] }) (t':=s.toks) (λ_ _ q=>zB _ q) (zY _) (Fl s.heap I.big);refine wpAny_Dict_walk (knd:=VQ X.prog X.w) g C x m (Z2 (h j _ M _ _ r (q _ D)) ?_);rintro T S ⟨R,N,p,n,e,i,u,O,G⟩;subst u;let⟨K,c,rk⟩:=Cj (P:=X.prog) (w:=X.w) n;let⟨z,A,L,J,t⟩:=Jy p.hok e;cases J;refine⟨K,c,t,λv f E=>⟨.ref s.heap.objs.size,_,?_,Z,G⟩⟩;let F:(NR [] i).length<=sizeLine:=by
  let y:=Ex i [];rw[List.length_nil] at y;rw[sizeLine_eq];lia
 let B:∃ q,v.get? s.heap.objs.size=some q:=let ⟨q,_,_,hq,_⟩:=f;⟨q,hq⟩;exact Lr p (by rw[e];exact True.intro) E B (Di F A (rk.merge .nil) f)
structure M1(X:Cx)(o:Expr)(m:Str)(ji:aJ)(e:Expr)(jh:aJ):Prop where
 base:attributeBase o m X.env (aH o X.env)=aH o X.env
 few:((aG jh (aw [e] X.env)).all (λx=>!x.1)&&(backToKw jh (keywordEach [] X.env)).all (λx=>x.1.isSome)
  && decide (([e]:jx).length+([]:List Keyword).length+(if ([]:List Keyword).isEmpty then 0 else 1)<30))=true
 line:(ji.endLine==jh.line)=true
 trees:aG jh (aw [e] X.env)=[(false,aH e X.env)]
structure M2(X:Cx)(o:Expr)(m:Str)(ji:aJ)(e f:Expr)(jh:aJ):Prop where
 base:attributeBase o m X.env (aH o X.env)=aH o X.env
 few:((aG jh (aw [e,f] X.env)).all (λx=>!x.1)&&(backToKw jh (keywordEach [] X.env)).all (λx=>x.1.isSome)
  && decide (([e,f]:jx).length+([]:List Keyword).length+(if ([]:List Keyword).isEmpty then 0 else 1)<30))=true
 line:(ji.endLine==jh.line)=true
 trees:aG jh (aw [e,f] X.env)=[(false,aH e X.env),(false,aH f X.env)]
def Eg(H:Hp)(a:ak):Prop:=(∃ b,Rd H a (.dK b))\/∃ b,Rd H a (.dT b)
def ZPS{X:Cx}{g:jq}{l:St}{H:Hp}{s:al}{a:ak}(I:ZF X g l H s)(d:Eg H a):
  s.TypeIs (.ref a) "dict" /\ (∀ b,Value.ref a=.ref b->∃ c,s.heap.get? b=some c/\c.dict=none)/\(a==sysModules)=false:=by
 rcases d with ⟨k,e⟩ | ⟨k,e⟩
 ·let⟨_,j,m,_,f⟩:=NW I.hok e;refine⟨f.typeIs,λb q=>?_,j⟩;cases q;let⟨c,_,_,h,i,_⟩:=f;exact⟨c,h,i.2.1⟩
 ·let⟨_,j,n,_,f⟩:=Nc I.hok e;refine⟨f.typeIs,λb q=>?_,j⟩;cases q;let⟨c,_,_,h,i,_⟩:=f;exact⟨c,h,i.2.1⟩
section
variable{kg:jq}{σ:St}{H:Hp}{a:ak}{y d:V}{u r:aj}{o:jg}
def ZOK{Q:ja}(v:A.units+1<cLine)(I:ZF X kg σ H s)(g:Xv H a y o)(n:ZN y u)(rd:ZN d r)(h:∀ q p,ZF X kg σ H p->ZN (o.getD d) q->Q q p):
  aC (aB X.prog X.w) A (call (.builtin "dict.get") [.ref a,u,r]) Q E s:=by
 rcases g with ⟨m,k,e,i,l⟩ | ⟨m,k,b,e,i,t,l⟩
 ·subst i;let⟨z,j,B,c,f⟩:=NW I.hok e;refine call_meetsIn rJ f.typeIs qO (qK _ _ _) (meets_dict_get_default (VQ X.prog X.w) a (NN n) j r) ⟨_,f.mapOf,h _ _ (I.tok _) ?_⟩;rw[l];exact(c.val k).getD rd
 ·subst i;cases(show u=Value.ref b from n);let⟨z,j,x,c,f⟩:=Nc I.hok e;refine call_meetsIn rJ f.typeIs qO (qK _ _ _) (meetsH_dict_get_default (tupleKind (VQ X.prog X.w)) a b j r) ⟨tupleKind_room_in1 v,k,x,N7 I.hok t,f,h _ _ (I.tok _) ?_⟩;rw[l];exact(c.val k).getD rd
end
inductive PQ(g f:TE)(d:L2.St)(Q:VK)(x:V)(b:Hp):Prop
 |mk(a:_)(_:x=.ref a)(_:Eg b a)(_:g d b λy e=>f d e λz c=>∃ o,Xv c a y o/\Q (o.getD z) c)
def A0(c e d:TE):TE:=λa H Q=>c a H λx b=>PQ e d a Q x b
section
variable{o e f:Expr}{ji jh:aJ}{td ty tx:TE}
def ZK0(C:X.A.units+1<cLine)(B:PE X o td)(v:PE X e ty)(w:PE X f tx)(m:M2 X o "get" ji e f jh):PE X (.Call (.Attribute o "get" ji) [e,f] [] jh) (A0 td ty tx):=by
 intro b s i H Q I h;refine wpAny_Call_method m.base m.few m.line PySem.F.plainAttrs_dict rJ PySem.F.type_dict_get (Z2 (B b s i H _ I h) ?_);rintro u M ⟨x,k,j,J,a,t,d,D⟩;subst t;obtain rfl:u=Value.ref a:=J;let⟨O,P,_⟩:=ZPS j d;exists O,P;rw[m.trees];refine Calls.callWith_builtin Z (Calls.evalArgs_plain (Calls.spliced_cons (Z7 (v b M i k _ j D) λS N y l p K E=>
  Calls.spliced_cons (Z2 (w b N i l _ p E) λR U ⟨z,n,q,L,T,g,G⟩=>Calls.spliced_nil ?_))))
 exact ZOK C q g K L λW V r c=>⟨_,n,r,c,G⟩
end
section
variable{kg:jq}{σ:St}{H:Hp}{a:ak}{kvs:List (Zc×V)}
end
section
variable{kg:jq}{σ:St}{H:Hp}{a:ak}{y:V}{u:aj}
end
section
variable{κ:Type}[DecidableEq κ]
def FH{a:List (κ×V)}{k:κ}{v:V}(h:Yo a k=some v):k∈a.map (·.1):=by
 let q:(a.any λkv=>decide (kv.1=k))=true:=by
  rw[Na,h]
  all_goals rfl
 let⟨p,b,e⟩:=uN.mp q;exact zR.mpr ⟨p,b,of_decide_eq_true e⟩
end
end L2
namespace Tw
open PySem PySem.Spec L2 PyProof.Rows
def Qu(d:ak)(a:Array DictEntry):HO:=.ext λh=>(d==sysModules)=false/\a.size<=ar/\∃ o b,h.get? d=some o/\o.ExactDict/\o.data=.dict a b
abbrev NT(w:ax)(x:KT×V×V)(e:DictEntry):Prop:=e.hash=We w x.1/\ZN x.2.1 e.key/\ZN x.2.2 e.val
structure Z1(w:ax)(H:Hp)(d:ak)(xs:List (KT×V×V)):Prop where
 ex:∃ es,H d=some (Qu d es)/\Paired (NT w) xs es.toList
 key:∀ x∈xs,ZC H x.1 x.2.1/\x.1.depth<=3
 nd:(xs.map (·.1)).Nodup
def Cg{P:am}{w:ax}{H:Hp}{h:aE}{d:ak}{e:Array DictEntry}(i:(d==sysModules)=false)(j:e.size<=ar)(f:∃ o c,h.get? d=some o/\o.ExactDict/\o.data=.dict e c):Zb P w H h d (Qu d e):=by
 exists ⟨i,j,f⟩,?_
 ·let⟨o,c,g,_⟩:=f;exact⟨o,g⟩
 ·rintro a b ⟨l,m,o,c,g,r⟩ k;exact⟨l,m,o,c,k o g,r⟩
theorem ON{d c:Type}{F:d->c->Prop}:∀{l:List d}{m:List c}{i:Nat}{b:c},Paired F l m->m[i]? = some b->∃ a,l[i]? = some a/\F a b
 | _,_,_,_,.nil,e=>by simp at e
 | _,_,0,_,.cons r _,e=>by simp at e;subst e;exact⟨_,Z,r⟩
 | _,_,i+1,b,.cons _ t,e=>by
  let⟨a,f,g⟩:=ON (i:=i) (b:=b) t (by simpa using e)
  exact⟨a,by simpa using f,g⟩
theorem Jv{c d:Type}{F:c->d->Prop}:∀{l:List c}{m:List d},l.length=m.length->(∀(i:Nat) a b,l[i]? = some a->m[i]? = some b->F a b)->Paired F l m
 | [],[],_,_=>.nil
 | [],_::_,h,_=>by simp at h
 | _::_,[],h,_=>by simp at h
 | a::l,b::m,h,f=>.cons (f 0 a b Z Z) (Jv (by simpa using h) λi x y e g=>f (i+1) x y (by simpa using e) (by simpa using g))
def LF{c d:Type}{F:c->d->Prop}{a:c}{b:d}(h:F a b){l:List c}{m:List d}(g:Paired F l m):Paired F (l++[a]) (m++[b]):=by
 induction g with
 | nil=>exact .cons h .nil
 | cons r _ e=>exact .cons r e
def VO(a:List (KT×V×V))(t:KT):jg:=(a.find? λx=>x.1.eqb t).map (·.2.2)
def OB(t:KT)(v:V)(x:KT×V×V):KT×V×V:=if x.1.eqb t=true then (x.1,x.2.1,v) else x
def Vt(a:List (KT×V×V))(t:KT)(y v:V):List (KT×V×V):=if (a.any λx=>x.1.eqb t)=true then a.map (OB t v) else a++[(t,y,v)]
def XE{b:List (KT×V×V)}{t:KT}:(b.any λx=>x.1.eqb t)=true ↔ t∈b.map (·.1):=by
 rw[uN,zR];constructor
 ·rintro⟨x,a,e⟩;exact⟨x,a,Vw _ _ e⟩
 ·rintro⟨x,a,e⟩;exact⟨x,a,by rw[e];exact V6 _⟩
def JK(t:KT)(v:V)(x:KT×V×V):(OB t v x).1=x.1/\(OB t v x).2.1=x.2.1:=by
 unfold OB;split <;> exact⟨Z,Z⟩
def IV(a:List (KT×V×V))(t:KT)(y v:V):(Vt a t y v).map (·.1)=if (a.any λx=>x.1.eqb t)=true then a.map (·.1) else a.map (·.1)++[t]:=by
 unfold Vt;split
 ·rw[List.map_map];exact List.map_congr_left λx _=>(JK t v x).1
 ·rw[zC];rfl
def Bg(a:List (KT×V×V))(t:KT)(y v:V):(Vt a t y v).length<=a.length+1:=by
 have:=congrArg wO (IV a t y v);rw[zX] at this;rw[this];split
 ·rw[zX];lia
 ·rw[zS,zX];simp
def GP{a:List (KT×V×V)}(c:(a.map (·.1)).Nodup){j:Nat}{x:KT×V×V}(e:a[j]? = some x):VO a x.1=some x.2.2:=by
 induction a generalizing j with
 | nil=>simp at e
 | cons z a f=>
  rw[yW,xM] at c
  cases j with
  | zero=>
   simp at e;subst e;simp[VO,V6]
  | succ j=>
   let d:a[j]? = some x:=by simpa using e
   let b:z.1.eqb x.1=false:=by
    cases q:z.1.eqb x.1 with
    | false=>rfl
    | true=>exact absurd (zR.mpr ⟨x,zJ d,(Vw _ _ q).symm⟩) c.1
   have:=f c.2 d;simpa [VO,vO,b] using this
def E8{a:List (KT×V×V)}{t:KT}(h:t∉a.map (·.1)):VO a t=none:=by
 unfold VO;rw[Option.map_eq_none_iff,List.find?_eq_none];intro x b z;exact h (zR.mpr ⟨x,b,Vw _ _ z⟩)
def Z1.same{w:ax}{H a:Hp}{d:ak}{c:List (KT×V×V)}(x:Z1 w H d c)(s:ZE H a):Z1 w a d c:=by
 let⟨e,f,g⟩:=x.ex;exact⟨⟨e,s _ _ f,g⟩,λz b=>⟨(x.key z b).1.mono (ZE.tups s),(x.key z b).2⟩,x.nd⟩
def Z1.but{w:ax}{H H':Hp}{d p:ak}{b:List (KT×V×V)}(x:Z1 w H d b)(s:ZH p H H')(t:Zz H H')(n:d≠p):Z1 w H' d b:=by
 let⟨c,e,f⟩:=x.ex;exact⟨⟨c,s _ _ e n,f⟩,λz a=>⟨(x.key z a).1.mono t,(x.key z a).2⟩,x.nd⟩
section
variable{kg:jq}{σ:L2.St}{H:Hp}
def Z1.es{d:ak}{a:List (KT×V×V)}{c:Array DictEntry}(I:ZF X kg σ H s)(x:Z1 X.w H d a)(r:Paired (NT X.w) a c.toList):Ng X.w s.heap (a.map (·.1)) c:=by
 refine⟨by have:=Paired.length r;simpa using this.symm,λi e f=>?_,x.nd⟩
 rw[<-yN] at f;let⟨z,b,h,j,k⟩:=ON r f;let g:=x.key z (zJ b);exact⟨z.1,by rw[zH,b];rfl,h,Vd I _ _ _ g.1 j,g.2⟩
def Et{d:ak}{f:List (KT×V×V)}{b:Array DictEntry}{o:aI}{q:Nat}{t:KT}{y:V}{u:aj}{Q:jr->al->Prop}(I:ZF X kg σ H s)(x:Z1 X.w H d f)(r:Paired (NT X.w) f b.toList)(B:s.heap.get? d=some o)(v:o.data=.dict b q)(D:ZC H t y)(m:t.depth<=3)(G:ZN y u)(C:A.units+3<cLine)(h:t∉f.map (·.1)->Q none s)(c:∀ j z e,f[j]? = some z->z.1=t->b[j]? = some e->NT X.w z e->Q (some j) s):aC (aB X.prog X.w) A (dictFind d u (We X.w t)) Q E s:=by
 refine ZNe (Vd I t y u D G) m C B v (x.es I r) h λj l=>?_;rw[zH] at l;let⟨z,g,n⟩:=xX.mp l;let F:j<b.size:=by
  have:=Paired.length r;let⟨a,_⟩:=zE.mp g;simp at this
  lia
 let i:b[j]? = some b[j]:=wI F;let⟨J,k,p⟩:=ON r (by rw[yN];exact i)
 rw[g] at k;cases k;exact c j z _ g n i p
theorem ZQd{d:ak}{l:List (KT×V×V)}{t:KT}{y v:V}{u r:aj}{Q:Unit->al->Prop}(hu:A.units+4<cLine)(I:ZF X kg σ H s)(x:Z1 X.w H d l)(hl:l.length<1000)(hy:ZC H t y)(dt:t.depth<=3)(ry:ZN y u)(rv:ZN v r)(h:∀ s' H',ZF X kg σ H' s'->ZH d H H'->Z1 X.w H' d (Vt l t y v)->Q () s'):aC (aB X.prog X.w) A (setItem (.ref d) u r) Q E s:=by
 let⟨p,hH,k⟩:=x.ex;let⟨⟨O,P,o,W,F,hx,B⟩,_⟩:=I.hok d _ hH;let S:p.size=l.length:=by have:=Paired.length k;simpa using this.symm
 let hT:s.TypeIs (.ref d) "dict" :=⟨o,F,hx.1⟩;unfold setItem
 try with_reducible refine ag ?_
 refine aa (wpAny_sequenceKey hT (by decide) ?_)
 refine aa (wpAny_callSpecial?_slot (name:=yH "__setitem__") hT slot_dict_setitem (wpAny_call_entry slot_dict_setitem hT entry_dict_setitem ?_ (args_dict_setitem _ _ _)));show aC _ _ (Builtin.Dict.notOrdered "__setitem__" ⟨[.ref d,u,r],[]⟩ >>= _) _ _ s;refine aa (wpAny_notOrdered_dict hT ?_);show aC _ _ (dictSet d u r >>= _) _ _ s;refine aa ?_;unfold dictSet
 try with_reducible refine ag ?_
 refine aa (Ja t.depth t (zY _) (Vd I t y u hy ry) (by show A.units+1+_<_;lia) λT a1=>?_)
 unfold dictSetHashed
 try with_reducible refine ag ?_
 let I1:ZF X kg σ H { s with toks:=T }:=I.tok T;let mu:Ni (H d):=by rw[hH];exact True.intro
 let f:∀ c,Zz H (upd H d (Qu d c)):=λc b ws e=>by rw[ZR (ZY e hH)];exact e
 let L:∀(c:Array DictEntry)(Y:aE),c.size<=ar->xR d s.heap Y->(∃ o W,Y.get? d=some o/\o.ExactDict/\o.data=.dict c W)->Paired (NT X.w) (Vt l t y v) c.toList->Q () { s with heap:=Y,toks:=T }:=λc Y G hs N hp=>by
  refine h _ (upd H d (Qu d c)) (Lr I mu hs (by let⟨o,_,g,_⟩:=N;exact⟨o,g⟩) (Cg O G N)) (λb o e n=>by rw[ZR n];exact e) ⟨⟨c,ZV,hp⟩,λz G=>?_,?_⟩
  ·unfold Vt at G;split at G
   ·let⟨z',R,rfl⟩:=zR.mp G;rw[(JK t v z').1,(JK t v z').2];exact⟨(x.key z' R).1.mono (f c),(x.key z' R).2⟩
   ·rcases zA.mp G with q | q
    ·exact⟨(x.key z q).1.mono (f c),(x.key z q).2⟩
    ·rw[yZ.mp q];exact⟨hy.mono (f c),dt⟩
  ·rw[IV];split
   ·exact x.nd
   ·rename_i hn
    rw[uY];exact⟨x.nd,by simp,λa ha b m=>by rw[yZ.mp m];exact λz=>hn (XE.mpr (z ▸ ha))⟩
 refine aa (Et (A:=A.in1) I1 x k F B hy dt ry (by show A.units+1+3<_;lia) (λhn=>?_) λj z e e1 U e3 e4=>?_)
 ·let D:¬ (l.any λx=>x.1.eqb t)=true:=λq=>hn (XE.mp q);refine aa (ai (wpAny_updateDictKeys (s:={ s with toks:=T }) (hz:=P) F B ?_));refine ae ⟨.none,Z,ae (L (p.push ⟨We X.w t,u,r⟩) _ (by rw[Array.size_push,S];exact xU (XU ∅)) (xR.update ..) ⟨_,W+1,vB _ F (Obj.isFreed_of_dict (Obj.data_mapDictKeys B _)),hx.mapDictKeys _,Obj.data_mapDictKeys B _⟩ ?_)⟩
  unfold Vt;rw[aO D,uX];exact LF ⟨Z,ry,rv⟩ k
 ·let D:(l.any λx=>x.1.eqb t)=true:=XE.mpr (zR.mpr ⟨z,zJ e1,U⟩);refine aa (ai (aa (wpAny_updateDict (s:={ s with toks:=T }) F B (wpAny_point ?_))));refine ae ⟨.none,Z,ae (L (p.modify j λe=>{ e with val:=r }) _ (by rw[Array.size_modify];exact P) (xR.update ..) ⟨_,W,vB _ F (Obj.isFreed_of_dict (Obj.data_mapDict B _)),hx.mapDict _,Obj.data_mapDict B _⟩ ?_)⟩
  unfold Vt;rw[aP D];let lm:(p.modify j λe=>{ e with val:=r }).toList.length=p.size:=by rw[yE];exact Array.size_modify
  refine Jv (by rw[lm,zX,S]) λi a b ha m=>?_
  rw[zH] at ha;let⟨a',J,rfl⟩:=xX.mp ha;rw[yN,Array.getElem?_modify] at m;let M:p[i]? = some (p[i]'(by let⟨l1,_⟩:=zE.mp J;lia)):=wI _
  let⟨a2,K,r1,r2,r3⟩:=ON k (by rw[yN];exact M)
  rw[J] at K;cases K;rw[M] at m;by_cases C:j=i
  ·subst C;rw[aP rfl,wB] at m;cases m;rw[e1] at J;cases J;unfold OB;rw[U,V6,aP rfl];rw[U] at r1;exact⟨r1,r2,rv⟩
  ·rw[aO C] at m;cases m;let a0:a'.1.eqb t=false:=by
    cases q:a'.1.eqb t with
    | false=>rfl
    | true=>
     let q1:(l.map (·.1))[i]? = some t:=by rw[zH,J];exact congrArg some (Vw _ _ q)
     let q2:(l.map (·.1))[j]? = some t:=by rw[zH,e1];exact congrArg some U
     let⟨l1,_⟩:=zE.mp q2;exact absurd ((rT l1 x.nd).mp (q2.trans q1.symm)) C
   unfold OB;rw[a0,aO zW];exact⟨r1,r2,r3⟩
end
end Tw
namespace L2
open PySem PySem.Spec PyProof.Rows
section
variable{T:String}{r d:ak}{n:Nat}{P:Nat->aj->Prop}{OK:aE->Prop}
def ZLv{R:Result->al->Prop}(K:sH prog w T r d n P OK)(l:A.handled=none)(h:OK s.heap)(S:ak)(g:S≠r)(f:S≠d)(c:Nat)(k:s.heap.get? S=some { cls:=.type "list",data:=.seq #[] c })(j:∀ e p a i,(∀ b o,b≠S->s.heap.get? b=some o->e.get? b=some o)->e.get? S=some { cls:=.type "list",dict:=none,data:=.seq a i,slots:=#[] }->ItemsOf P a n->R (.ok (.ret (.ref S))) { s with heap:=e,toks:=p })(m:n<=ar):
  codeAny (aB prog w) A (.builtin "list.__iadd__" ⟨[.ref S,.ref r],[]⟩) R s:=by
 refine codeAny_builtin PySem.F.entry_list_iadd ?_;rw[Around.under_plainId qJ _];exact PySem.W.kdl_extend (R:=R) K l h S g f (.ref S) c k j m
theorem ZGb{Q:je->al->Prop}(K:sH prog w T r d n P OK)(q:A.handled=none)(j:OK s.heap)(u:n<=ar)(m:∀ f k a,(∀ b o,s.heap.get? b=some o->f.get? b=some o)->s.heap.objs.size<f.objs.size->ItemsOf P a n->Q a.toList { s with heap:=f,toks:=k }):aC (aB prog w) A (collect (.ref r)) Q E s:=by
 let i:=K.there _ j;unfold collect;refine aa (wpAny_runValue (codeAny_builtin PySem.F.entry_proto_collect ?_));rw[Around.under_plainId PySem.F.plain_proto_collect _];show aC _ A.in1 (newList [] >>= λl=>again (.builtin "list.__iadd__" ⟨[l,.ref r],[]⟩)) _ _ s;refine aa (wpAny_newObj_type ?_);let p:(s.heap.push { cls:=.type "list",data:=.seq ([]:je).toArray }).get? s.heap.objs.size=some { cls:=.type "list",data:=.seq #[] 0 }:=yO _ Z;refine ae ⟨plainId_quiet qJ _,ZLv (s:={ s with heap:=s.heap.push { cls:=.type "list",data:=.seq ([]:je).toArray } }) K q (K.keep _ _ j λb _ o e=>zB _ e) s.heap.objs.size (Nat.ne_of_gt i.1) (Nat.ne_of_gt i.2) _ p (λf k c v t g h=>?_) u⟩;show aC _ A (load s.heap.objs.size >>= _) _ _ _;refine aa (wpAny_load g ?_);exact ae (m f k c (λb o e=>t b o (yK (zG e)) (zB _ e)) (zG g) h)
end
theorem nn'{n:Nat}(h:n<64):n<=sizeLine:=xU (XU ∅)
section
variable{T:String}{r d:ak}{n:Nat}{P:Nat->aj->Prop}{OK:aE->Prop}
end
class Ko where
 k0:SortKind
 k1:jT->Int
 k2:jT->Prop
section
variable[κ:Ko]
abbrev Qa:SortKind:=κ.k0
abbrev kv(p:jT):Int:=κ.k1 p
abbrev QX(p:jT):Prop:=κ.k2 p
class KoOk (prog:am) (w:ax) (A:ay) (s:al):Prop where
 lt:∀{E:ja}{p q:jT}{Q:Bool->al->Prop},QX p->QX q->Q (decide (kv p<kv q)) s->aC (aB prog w) A (keyLt' Qa p.1 q.1) Q E s
def Kk(a:jm)(i:Nat):Int:=match a[i]? with
 | some p=>kv p
 | none=>0
def PL(a:jm)(k:Nat):Prop:=∀ i j,i<=j->j<k->Kk a i<=Kk a j
def Wp(a:jm):Prop:=∀ p,p∈a.toList->QX p
def IQ{a b:jm}{i j:Nat}(h:a[i]? = b[j]?):Kk a i=Kk b j:=by unfold Kk;rw[h]
def Gm{b:jm}{a d:Nat}(g:a<b.size)(f:d<=a)(k:Nat):Kk (bubble b a d) k=if k=a-d then Kk b a else if a-d<k/\k<=a then Kk b (k-1) else Kk b k:=by
 unfold Kk;rw[getElem?_bubble g d f k];by_cases c:k=a-d
 ·rw[aP c,aP c]
 rw[aO c,aO c];by_cases e:a-d<k/\k<=a
 ·rw[aP e,aP e]
 ·rw[aO e,aO e]
def EX{a:jm}{i j:Nat}(b:j<=a.size)(k:Nat):Kk (mirror a i j ((j-i) / 2)) k=if i<=k/\k<j then Kk a (i+j-1-k) else Kk a k:=by
 unfold Kk;rw[getElem?_mirror_all b k];by_cases h:i<=k/\k<j
 ·rw[aP h,aP h]
 ·rw[aO h,aO h]
theorem Fe{a:jm}{i j:Nat}(b:j<=a.size)(h:∀ k,i<=k->k<j->Kk a k=Kk a (j-1))(k:Nat):Kk (mirror a i j ((j-i) / 2)) k=Kk a k:=by
 rw[EX b];split
 ·rw[h _ ∅ ∅,h k ∅ ∅]
 ·rfl
def gallop':Bool->jT->jm->Nat->Nat->Nat->StateT jP Sem (jr):=sortPriv% PySem.Builtin.gallop
section
variable{α:Type}{x y:StateT jP Sem α}{Q:α->jP->Prop}{st:jP}
def Vc{c:Prop}{_:Decidable c}(h:c->wpS (aB prog w) A E s x Q st)(g:¬c->wpS (aB prog w) A E s y Q st):wpS (aB prog w) A E s (if c then x else y) Q st:=by
 by_cases z:c
 ·rw[aP z];exact h z
 ·rw[aO z];exact g z
def NV{c:Prop}{_:Decidable c}(h:c->wpS (aB prog w) A E s x Q st)(g:¬c->wpS (aB prog w) A E s y Q st):wpS (aB prog w) A E s (if decide c=true then x else y) Q st:=Vc (λz=>h (of_decide_eq_true z)) λz=>g λe=>z (aM e)
def Ws{a b:Nat}(h:a=b->wpS (aB prog w) A E s x Q st)(g:¬a=b->wpS (aB prog w) A E s y Q st):wpS (aB prog w) A E s (if (a==b)=true then x else y) Q st:=Vc (λz=>h (eq_of_beq z)) λz=>g λe=>z (by rw[e];exact beq_self_eq_true _)
end
section
variable[KoOk prog w A s]
def LM{a:jP}{p q:jT}{Q:jI->jP->Prop}(b:kindOf a=Qa)(c:QX p)(d:QX q)(h:Q (some (decide (kv p<kv q))) a):wpS (aB prog w) A E s (lt' p q) Q a:=by
 rw[lt'_eq];refine jM (wpS_get ?_);rw[b];exact jM (wpS_lift (wpAny_attempt (KoOk.lt c d ⟨rfl,jN h⟩)))
def KL{a:jP}{b:jm}{i:Nat}{p:jT}{Q:jT->jP->Prop}(e:b[i]? = some p)(h:Q p a):wpS (aB prog w) A E s (elem' b i) Q a:=by
 rw[elem'_eq,e];exact jN h
def NG{b:Type}{r:String}{f:Unit->StateT jP Sem b}{a:jP}{Q:b->jP->Prop}(h:wpS (aB prog w) A E s (f ()) Q a):wpS (aB prog w) A E s (liftM (rule r) >>= f) Q a:=jM (wpS_lift (ai ⟨rfl,h⟩))
def KM{a:jm}{i:Nat}(b:Wp a)(c:i<a.size):∃ p,a[i]? = some p/\QX p/\Kk a i=kv p:=by
 let e:a[i]? = some a[i]:=getElem?_pos a i c;exists _,e,b _ (by simp)
 unfold Kk;rw[e]
section
variable{α:Type}{Q:α->jP->Prop}{st:jP}
def Px{a:jm}{i:Nat}{p:jT}{f:jT->StateT jP Sem α}(e:a[i]? = some p)(h:wpS (aB prog w) A E s (f p) Q st):wpS (aB prog w) A E s (elem' a i >>= f) Q st:=jM (KL e h)
def Qc{a:jm}{i:Nat}{f:jT->StateT jP Sem α}(c:Wp a)(d:i<a.size)(h:∀ p,a[i]? = some p->QX p->Kk a i=kv p->wpS (aB prog w) A E s (f p) Q st):wpS (aB prog w) A E s (elem' a i >>= f) Q st:=by
 let⟨p,e,g,b⟩:=KM c d;exact Px e (h p e g b)
def G0{p q:jT}{f:jI->StateT jP Sem α}(a:kindOf st=Qa)(b:QX p)(c:QX q)(h:wpS (aB prog w) A E s (f (some (decide (kv p<kv q)))) Q st):wpS (aB prog w) A E s (lt' p q >>= f) Q st:=jM (LM a b c h)
def P7{d:Type}{a b:Nat}{F:Nat->d->StateT jP Sem (ForInStep d)}{c:d}{g:d->StateT jP Sem α}(I:Nat->d->jP->Prop)(R:d->jP->Prop)(j:I a c st)(step:∀ i c st,a<=i->i<b->I i c st->wpS (aB prog w) A E s (F i c) (λr f=>match r with | .done c'=>R c' f | .yield c'=>I (i+1) c' f) st)(h:∀ c st,I (max a b) c st->R c st)(e:∀ c st,R c st->wpS (aB prog w) A E s (g c) Q st):wpS (aB prog w) A E s (forIn [a:b] c F >>= g) Q st:=jM (jS (jR I step h j) e)
end
def bK(c:Bool)(b:jT)(a:jm)(i:Nat):Bool:=if c then decide (Kk a i<kv b) else !decide (kv b<Kk a i)
def Me{d:jP}{a:Bool}{c:jT}{b:jm}{i:Nat}{Q:jI->jP->Prop}(f:kindOf d=Qa)(l:Wp b)(m:i<b.size)(j:QX c)(h:Q (some (bK a c b i)) d):
  wpS (aB prog w) A E s (elem' b i >>= λx=>if a=true then lt' x c else lt' c x >>= λr=>pure (r.map (!·))) Q d:=by
 let⟨p,e,g,k⟩:=KM l m;refine jM (KL e ?_);unfold bK at h;rw[k] at h;cases a
 ·rw[aO (by simp)]
  exact jM (LM f j g (jN h))
 ·rw[aP rfl];exact LM f g j h
theorem Ky{t:Type}{f:Nat->Option t×Nat×Nat->StateT jP Sem (ForInStep (Option t×Nat×Nat))}{n b a:Nat}{B:Nat->Bool}{o:jP}{Q:Option t×Nat×Nat->jP->Prop}(G:b<=a)(H:a<=n)(D:∀ i,i<b->B i=true)(z:∀ i,a<=i->i<n->B i=false)(d:∀ i j,i<=j->j<n->B j=true->B i=true)(J:∀ x b a (u:ForInStep (Option t×Nat×Nat)->jP->Prop),a<=n->(a<=b->u (.done (none,b,a)) o)->(∀ m,b<=m->m<a->u (.yield (if B m then (none,m+1,a) else (none,b,m))) o)->wpS (aB prog w) A E s (f x (none,b,a)) u o)(h:∀ k,k<=n->(∀ i,i<k->B i=true)->(∀ i,k<=i->i<n->B i=false)->Q (none,k,k) o):wpS (aB prog w) A E s (forIn [0:n] (none,b,a) f) Q o:=by
 refine jR (I:=λx c g=>g=o/\∃ b a,c=(none,b,a)/\b<=a/\a<=n/\a-b<=n-x/\(∀ i,i<b->B i=true)/\∀ i,a<=i->i<n->B i=false) ?_ ?_ ⟨Z,b,a,Z,G,H,∅,D,z⟩
 ·rintro x c g _ K ⟨rfl,b,a,rfl,F,e,v,q,r⟩;refine J x b a _ e (λc=>?_) λm p l=>?_
  ·have:b=a:=∅
   subst this;exact h _ e q r
  ·cases y:B m
   ·rw[aO (by simp)]
    exact⟨Z,b,m,Z,p,zN (xU l) e,Nat.le_sub_one_of_lt (yV (Nat.sub_lt_sub_right p l) v),q,λi p l=>by
     cases C:B i with
     | false=>rfl
     | true=>rw[d m i p l C] at y;cases y⟩
   ·rw[aP rfl];exact⟨Z,m+1,a,Z,l,e,zN (Nat.sub_le_sub_left (vI p) _) (Nat.sub_le_sub_right v 1),λi c=>d i m (Nat.le_of_lt_succ c) (yV l e) y,r⟩
 ·rintro c g ⟨rfl,b,a,rfl,F,e,v,q,r⟩;have:b=a:=∅
  subst this;exact h _ e q r
theorem Im{D:jP}{b:Bool}{g:jT}{f:jm}{a n d:Nat}{Q:jr->jP->Prop}(J:kindOf D=Qa)(K:QX g)(G:Wp f)(hn:a+n<=f.size)(X:d<n)(p:∀ i j,i<=j->j<n->bK b g f (a+j)=true->bK b g f (a+i)=true)(h:∀ k,k<=n->(∀ i,i<k->bK b g f (a+i)=true)->(∀ i,k<=i->i<n->bK b g f (a+i)=false)->Q (some k) D):wpS (aB prog w) A E s (gallop' b g f a n d) Q D:=by
 let y:∀ i j,i<=j->j<n->bK b g f (a+i)=false->bK b g f (a+j)=false:=λi j L M T=>by
  cases e:bK b g f (a+j) with
  | false=>rfl
  | true=>rw[p i j L M e] at T;cases T
 refine jM (Me J G ∅ K ?_)
 dsimp only;cases U:bK b g f (a+d)
 ·rw[aO (by simp)]
  refine jM (jS (jR (I:=λx c m=>m=D/\∃ l o,c=(none,l,o)/\l<o/\x+1<=o/\l<d+1/\bK b g f (a+(d-l))=false)
   (Q:=λc m=>m=D/\∃ l o,c=(none,l,o)/\l<o/\l<d+1/\bK b g f (a+(d-l))=false/\(d+1<=o\/bK b g f (a+(d-o))=true)) ?_ ?_ ⟨rfl,0,1,rfl,∅,∅,∅,U⟩) ?_)
  ·rintro x c m _ Y ⟨rfl,l,o,rfl,t,F,q,r⟩;dsimp only;refine Vc (λc=>?_) λc=>?_
   ·exact jN ⟨Z,l,o,Z,t,q,r,.inl c⟩
   refine jM (Me J G ∅ K ?_)
   dsimp only;cases u:bK b g f (a+(d-o))
   ·rw[aO (by simp)]
    exact jN ⟨Z,o,2 * o+1,Z,∅,∅,∅,u⟩
   ·rw[aP rfl];exact jN ⟨Z,l,o,Z,t,q,r,.inr u⟩
  ·rintro c m ⟨rfl,l,o,rfl,t,F,q,r⟩;exact⟨Z,l,o,Z,t,q,r,.inl ∅⟩
  ·rintro c m ⟨rfl,l,o,rfl,t,F,q,r⟩;dsimp only;refine jM (Ky (B:=λi=>bK b g f (a+i)) (zN (Nat.sub_le_sub_left (Nat.le_min.mpr ⟨t,F⟩) _) (xO (Nat.add_sub_add_right d 1 l))) (zN (vG _ _) (xU X)) (λi c=>?_) (λi L M=>y _ _ L M q) p (λx v H V W N O=>?_) λk P R S=>jN (h k P R S))
   ·rcases r with z | z
    ·rw[sJ z,tY] at c;exact absurd c (xH _)
    ·exact p i _ ∅ ∅ z
   ·dsimp only;refine Vc (λc=>?_) λc=>?_
    ·exact jN (N c)
    ·refine jM (Me J G ∅ K ?_)
     let C:=O (v+(H-v) / 2) ∅ ∅
     cases u:bK b g f (a+(v+(H-v) / 2)) <;> rw[u] at C
     ·exact jN C
     ·exact jN C
 ·rw[aP rfl];refine jM (jS (jR (I:=λx c m=>m=D/\∃ l o,c=(none,l,o)/\l<o/\x+1<=o/\l<n-d/\bK b g f (a+(d+l))=true)
   (Q:=λc m=>m=D/\∃ l o,c=(none,l,o)/\l<o/\l<n-d/\bK b g f (a+(d+l))=true/\(n-d<=o\/bK b g f (a+(d+o))=false)) ?_ ?_ ⟨rfl,0,1,rfl,∅,∅,∅,U⟩) ?_)
  ·rintro x c m _ Y ⟨rfl,l,o,rfl,t,F,q,r⟩;dsimp only;refine Vc (λc=>?_) λc=>?_
   ·exact jN ⟨Z,l,o,Z,t,q,r,.inl c⟩
   refine jM (Me J G ∅ K ?_)
   dsimp only;cases u:bK b g f (a+(d+o))
   ·rw[aP (by simp)]
    exact jN ⟨Z,l,o,Z,t,q,r,.inr u⟩
   ·rw[aO (by simp)]
    exact jN ⟨Z,o,2 * o+1,Z,∅,∅,∅,u⟩
  ·rintro c m ⟨rfl,l,o,rfl,t,F,q,r⟩;exact⟨Z,l,o,Z,t,q,r,.inl ∅⟩
  ·rintro c m ⟨rfl,l,o,rfl,t,F,q,r⟩;dsimp only;refine jM (Ky (B:=λi=>bK b g f (a+i)) ∅ ∅ (λi c=>p i _ ∅ ∅ q) (λi L M=>?_) p (λx v H V W N O=>?_) λk P R S=>jN (h k P R S))
   ·rcases r with z | z
    ·lia
    ·exact y (d+o) i ∅ ∅ z
   ·dsimp only;refine Vc (λc=>?_) λc=>?_
    ·exact jN (N c)
    ·refine jM (Me J G ∅ K ?_)
     let C:=O (v+(H-v) / 2) ∅ ∅
     cases u:bK b g f (a+(v+(H-v) / 2)) <;> rw[u] at C
     ·exact jN C
     ·exact jN C
end
structure MI(R:jT->jT->Prop)(L out ra rb:jv):Prop where
 perm:(out++(ra++rb)).Perm L
 sa:(out++ra).Pairwise R
 sb:(out++rb).Pairwise R
def MI.swap{R:jT->jT->Prop}{L a b c:jv}(h:MI R L a b c):MI R L a c b:=
 ⟨((vN.refl a).append List.perm_append_comm).trans h.perm,h.sb,h.sa⟩
def MI.takeA{R:jT->jT->Prop}{L a b c:jv}(h:MI R L a b c)(k:Nat)(l:∀ x∈b.take k,∀ y∈c,R x y):MI R L (a++b.take k) (b.drop k) c:=by
 let e:a++b.take k++b.drop k=a++b:=by rw[yF,xQ]
 exists ?_,by rw[e];exact h.sa
 ·rw[<-yF,e,yF];exact h.perm
 ·let d:=h.sa;rw[<-e] at d;let j:=(xY.mp d).1;let⟨_,g,i⟩:=xY.mp h.sb;refine xY.mpr ⟨j,g,λx m y f=>?_⟩;rcases zA.mp m with z | z
  ·exact i x z y f
  ·exact l x z y f
def MI.takeB{R:jT->jT->Prop}{L a c b:jv}(h:MI R L a c b)(k:Nat)(d:∀ x∈b.take k,∀ y∈c,R x y):MI R L (a++b.take k) c (b.drop k):=(h.swap.takeA k d).swap
def MP{a:jm}{i:Nat}{p:jT}(e:a[i]? = some p):a.toList.drop i=p::a.toList.drop (i+1):=by
 rw[<-yN] at e;let⟨h,e⟩:=zE.mp e;rw[<-e];exact vY h
def NX{a:jm}{i:Nat}{p:jT}(e:a[i]? = some p):Kk a i=kv p:=by
 unfold Kk;rw[e]
theorem OS{xs:jm}{i k:Nat}{p:jT}(h:p∈(xs.toList.drop i).take k):∃ j,i<=j/\j<i+k/\j<xs.size/\kv p=Kk xs j:=by
 let⟨m,a,e⟩:=List.mem_iff_getElem.mp h;rw[List.getElem_take,List.getElem_drop] at e;rw[yP,yD,yE] at a;exists i+m,∅,∅,by lia
 rw[<-e];exact(NX (by rw[<-yN];exact zV _)).symm
def Os{xs:jm}{i:Nat}{p:jT}(h:p∈xs.toList.drop i):∃ j,i<=j/\j<xs.size/\kv p=Kk xs j:=by
 let⟨j,a,_,b,c⟩:=OS (xs:=xs) (i:=i) (k:=xs.size) (by rw[yY (by rw[yD,yE];lia)];exact h)
 exact⟨j,a,b,c⟩
def Nl(a:jm)(i k:Nat):(a.extract i (i+k)).toList=(a.toList.drop i).take k:=by
 rw[uB,uE,uH]
def Lc(a:jm)(i:Nat):(a.extract i a.size).toList=a.toList.drop i:=by
 rw[uB,uE,yY (by rw[yD,yE];lia)]
def WH(p q:jT):Prop:=kv p<=kv q
def WO(L:jv)(r:jm):Prop:=r.toList.Perm L/\r.toList.Pairwise WH
structure Sm(st st':jP):Prop where
 kind:kindOf st'=kindOf st
 arr:jO st'=jO st
 pend:jQ st'=jQ st
 failed:failedOf st'=failedOf st
def setMinGallop':Nat->StateT jP Sem Unit:=sortPriv% PySem.Builtin.setMinGallop
def mergeLo':jm->jm->StateT jP Sem (jm):=sortPriv% PySem.Builtin.mergeLo
section
variable{a b out:jm}{ia ib:Nat}{L:jv}
def No(m:MI WH L out.toList (a.toList.drop ia) (b.toList.drop ib))(h:b.size<=ib\/a.size<=ia):WO L (out++a.extract ia a.size++b.extract ib b.size):=by
 unfold WO;rw[wJ,wJ,Lc,Lc];exists by rw[yF];exact m.perm
 rcases h with z | z
 ·rw[vQ (l:=b.toList) (by rw[yE];exact z),yQ]
  exact m.sa
 ·rw[vQ (l:=a.toList) (by rw[yE];exact z),yQ]
  exact m.sb
theorem LV(m:MI WH L out.toList (a.toList.drop ia) (b.toList.drop ib))(h:ia+1=a.size)(f:∀ j,j<b.size->Kk b j<=Kk a (a.size-1)):WO L (out++b.extract ib b.size++a.extract ia a.size):=by
 unfold WO;rw[wJ,wJ,Lc,Lc];exists by rw[yF];exact m.swap.perm
 let⟨_,d,e⟩:=xY.mp m.sa;refine xY.mpr ⟨m.sb,d,λx g y c=>?_⟩;rcases zA.mp g with z | z
 ·exact e x z y c
 ·let⟨j,_,l,n⟩:=Os z;let⟨i,o,p,k⟩:=Os c;have:=f j l;unfold WH;rw[n,k,show i=a.size-1 by lia]
  exact this
end
section
variable[KoOk prog w A s]
def Dl{d a:Type}{c:a->Prop}{_:∀ n,Decidable (c n)}{x J:a->StateT jP Sem d}{Q:d->jP->Prop}{b:jP}(f:∀ n,∃ m,x n=J m)(k:∀ n,wpS (aB prog w) A E s (J n) Q b)(n:a):wpS (aB prog w) A E s (if c n then x n else J n) Q b:=by
 refine Vc (λh=>?_) λh=>?_
 ·let⟨m,e⟩:=f n;rw[e];exact k m
 ·exact k n
def LJ{g b d:Type}{c:Prop}{_:Decidable c}{x J:b->d->StateT jP Sem g}{Q:g->jP->Prop}{a:jP}{e:b->d->Prop}(P:b->d->Prop)(k:∀ o i,P o i->wpS (aB prog w) A E s (J o i) Q a)(j:¬c->∀ o i,e o i->P o i)(l:c->(∀ o i,P o i->wpS (aB prog w) A E s (J o i) Q a)->∀ o i,e o i->wpS (aB prog w) A E s (x o i) Q a)(o:b)(i:d)(f:e o i):wpS (aB prog w) A E s (if c then x o i else J o i) Q a:=by
 refine Vc (λh=>?_) λh=>?_
 ·exact l h k o i f
 ·exact k o i (j h o i f)
def Au{a:jP}{g:Nat}{Q:Unit->jP->Prop}(h:∀ b,Sm a b->Q () b):wpS (aB prog w) A E s (setMinGallop' g) Q a:=
 wpS_modify (f:=λa=>SortSt.mk' (kindOf a) (jO a) (jQ a) g (failedOf a)) (h _ ⟨rfl,rfl,rfl,rfl⟩)
def Sm.trans{c b a:jP}(h:Sm c b)(g:Sm b a):Sm c a:=⟨g.kind.trans h.kind,g.arr.trans h.arr,g.pend.trans h.pend,g.failed.trans h.failed⟩
theorem HE{b:Bool}{d:jT}{c:jm}{a n:Nat}(h:∀ i j,i<=j->j<n->Kk c (a+i)<=Kk c (a+j)):∀ i j,i<=j->j<n->bK b d c (a+j)=true->bK b d c (a+i)=true:=λi j f g e=>by
 have:=h i j f g;unfold bK at e⊢;cases b
 ·simp at e⊢
  lia
 ·simp at e⊢
  lia
def QG{b:jT}{a:jm}{i:Nat}:(bK false b a i=true ↔ Kk a i<=kv b)/\(bK false b a i=false ↔ kv b<Kk a i):=by
 unfold bK;constructor <;> simp
def QE{b:jT}{a:jm}{i:Nat}:(bK true b a i=true ↔ Kk a i<kv b)/\(bK true b a i=false ↔ kv b<=Kk a i):=by
 unfold bK;constructor <;> simp
structure NH(a b:jm)(L:jv)(X:Nat)(out:jm)(ia ib:Nat):Prop where
 m:MI WH L out.toList (a.toList.drop ia) (b.toList.drop ib)
 ha:ia+1<a.size
 hb:ib<b.size
 hx:X<=ia+ib
inductive LN{γ:Type}(st:jP)(a b:jm)(L:jv)(x:Nat):Option (jm)×jm×Nat×Nat×γ->jP->Prop
 |mk{out:jm}{ia ib:Nat}{g:γ}{st':jP}:Sm st st'->NH a b L x out ia ib->LN st a b L x (none,out,ia,ib,g) st'
inductive KA{γ:Type}(st:jP)(a b:jm)(L:jv)(x:Nat):Option (jm)×jm×Nat×Nat×γ->jP->Prop
 |more{out:jm}{ia ib:Nat}{g:γ}{st':jP}:Sm st st'->NH a b L x out ia ib->KA st a b L x (none,out,ia,ib,g) st'
 |done{r:jm}{c:jm×Nat×Nat×γ}{st':jP}:Sm st st'->WO L r->KA st a b L x (some r,c) st'
inductive Ij{γ:Type}(st:jP)(L:jv):Option (jm)×γ->jP->Prop
 |mk{r:jm}{c:γ}{st':jP}:Sm st st'->WO L r->Ij st L (some r,c) st'
structure B6(a b:jm)(L:jv)(X:Nat)(p:jT)(k:Nat)(out:jm)(ia ib:Nat):Prop where
 I:NH a b L X out ia ib
 k1:k<=a.size-ia
 k2:∀ i,i<k->Kk a (ia+i)<=kv p
 k3:∀ i,k<=i->i<a.size-ia->kv p<Kk a (ia+i)
structure BF(a b:jm)(L:jv)(X:Nat)(p:jT)(out:jm)(ia ib:Nat):Prop where
 I:NH a b L X out ia ib
 hp:∀ j,ia<=j->j<a.size->kv p<=Kk a j
structure At(a b:jm)(L:jv)(q:jT)(k:Nat)(O:jm)(ia ib jb:Nat):Prop where
 m:MI WH L O.toList (a.toList.drop ia) (b.toList.drop jb)
 h1:jb<b.size
 h2:ib<jb
 k1:k<=b.size-jb
 k2:∀ i,i<k->Kk b (jb+i)<kv q
 k3:∀ i,k<=i->i<b.size-jb->kv q<=Kk b (jb+i)
structure Bh(a b:jm)(L:jv)(q:jT)(O:jm)(ia ib jb:Nat):Prop where
 m:MI WH L O.toList (a.toList.drop ia) (b.toList.drop jb)
 h1:jb<b.size
 h2:ib<jb
 hp:∀ j,jb<=j->j<b.size->kv q<=Kk b j
def Sm.refl(a:jP):Sm a a:=⟨Z,Z,Z,Z⟩
def NH.tb{a b:jm}{L:jv}{X:Nat}{c:jm}{d f:Nat}{p:jT}(I:NH a b L X c d f)(e:b[f]? = some p)(h:∀ j,d<=j->j<a.size->kv p<=Kk a j):MI WH L (c.push p).toList (a.toList.drop d) (b.toList.drop (f+1)):=by
 let m:=I.m.takeB 1 (λx g y i=>by
  let⟨j,k,l,n⟩:=Os (xs:=a) i;rw[MP e,vD,vK] at g;unfold WH;rw[yZ.mp g,n];exact h j k l)
 rw[vU,MP e,vD,vK,<-uX] at m;exact m
def MI.ta{a b:jm}{L:jv}{c:jm}{d f:Nat}{p:jT}(I:MI WH L c.toList (a.toList.drop d) (b.toList.drop f))(e:a[d]? = some p)(h:∀ j,f<=j->j<b.size->kv p<=Kk b j):MI WH L (c.push p).toList (a.toList.drop (d+1)) (b.toList.drop f):=by
 let m:=I.takeA 1 (λx g y i=>by
  let⟨j,k,l,n⟩:=Os (xs:=b) i;rw[MP e,vD,vK] at g;unfold WH;rw[yZ.mp g,n];exact h j k l)
 rw[vU,MP e,vD,vK,<-uX] at m;exact m
theorem LK{l:Type}{g:jP}{c:Bool}{d:jT}{a:jm}{b n e:Nat}{f:jr->StateT jP Sem l}{Q:l->jP->Prop}(p:kindOf g=Qa)(r:QX d)(m:Wp a)(t:PL a a.size)(q:b+n<=a.size)(o:e<n)(h:∀ k,k<=n->(∀ i,i<k->bK c d a (b+i)=true)->(∀ i,k<=i->i<n->bK c d a (b+i)=false)->wpS (aB prog w) A E s (f (some k)) Q g):wpS (aB prog w) A E s (gallop' c d a b n e >>= f) Q g:=
 jM (Im p r m q o (HE λi j u v=>t _ _ ∅ ∅) h)
def M9{c:Type}{b:jP}{g:Nat}{f:Unit->StateT jP Sem c}{Q:c->jP->Prop}(h:∀ a,Sm b a->wpS (aB prog w) A E s (f ()) Q a):wpS (aB prog w) A E s (setMinGallop' g >>= f) Q b:=jM (Au h)
def Jh{b:Type}{a:jP}{f:jP->StateT jP Sem b}{Q:b->jP->Prop}(h:wpS (aB prog w) A E s (f a) Q a):wpS (aB prog w) A E s (get >>= f) Q a:=jM (wpS_get h)
theorem ZGp{F:jP}{a b:jm}{Q:jm->jP->Prop}(hk:kindOf F=Qa)(ka:Wp a)(kb:Wp b)(a1:1<=a.size)(b1:1<=b.size)(sa:PL a a.size)(sb:PL b b.size)(h0:∀ i,i<a.size->Kk b 0<=Kk a i)(hl:∀ j,j<b.size->Kk b j<=Kk a (a.size-1))(pa:a.toList.Pairwise WH)(pb:b.toList.Pairwise WH)(h:∀ r f,Sm F f->WO (a.toList++b.toList) r->Q r f):wpS (aB prog w) A E s (mergeLo' a b) Q F:=by
 refine NG (Qc kb b1 λp0 e0 i0 k0=>?_);let m0:MI WH (a.toList++b.toList) #[p0].toList (a.toList.drop 0) (b.toList.drop 1):=by
  let m:MI WH (a.toList++b.toList) [] a.toList b.toList:=⟨vN.refl _,pa,pb⟩;let l:=m.takeB 1 (λx J y W=>by
   let⟨i,_,i1,_,Y⟩:=OS (xs:=b) (i:=0) (k:=1) J;let⟨j,_,t,B⟩:=Os (xs:=a) (i:=0) W;have:=h0 j t;unfold WH;rw[Y,B,show i=0 by lia]
   exact this)
  let e:=MP e0;rw[tV] at e;rw[e] at l⊢;exact l
 refine Ws (λc1=>jN (h _ _ (Sm.refl _) (No m0 (.inl ∅)))) λc1=>Ws (λc2=>jN (h _ _ (Sm.refl _) (LV m0 c2 hl))) λc2=>Jh ?_
 generalize hL:a.toList++b.toList=L at m0 h;refine P7 (LN F a b L) (Ij F L) ⟨Sm.refl _,m0,∅,∅,∅⟩ ?step ?fin ?post
 case post=>
  rintro _ f ⟨d,g⟩;exact jN (h _ f d g)
 case fin=>
  rintro _ f ⟨d,i⟩;have:=i.ha;have:=i.hb;have:=i.hx
  lia
 case step=>
  rintro X _ f _ hX ⟨d,I⟩;refine P7 (λx=>LN F a b L (X+x)) (KA F a b L (X+1)) ⟨d,I⟩ ?istep ?ifin ?ipost
  case ifin=>
   rintro _ z ⟨d,I⟩;exact .more d ⟨I.m,I.ha,I.hb,by have:=I.hx;lia⟩
  case istep=>
   clear d I;rintro x _ f _ J ⟨d,I⟩;dsimp only;let C:=I.ha;let R:=I.hb;let S:=I.hx;refine Qc kb I.hb λp T ip kp=>Qc ka ∅ λq U iq kq=>G0 (d.kind.trans hk) ip iq (NV (λc=>Px T ?_) λc=>Px U ?_)
   ·let l:=I.tb T λj M t=>by
     have:=sa _ j M t
     lia
    exact Ws (λu=>jN (.done d (No l (.inl ∅)))) λu=>Vc (λG=>jN (.more d ⟨l,∅,∅,∅⟩)) λG=>jN ⟨d,l,∅,∅,∅⟩
   ·let l:=I.m.ta U λj M t=>by
     have:=sb _ j M t
     lia
    exact Ws (λu=>jN (.done d (LV l u hl))) λu=>Vc (λG=>jN (.more d ⟨l,∅,∅,∅⟩)) λG=>jN ⟨d,l,∅,∅,∅⟩
  case ipost=>
   clear d I;rintro _ f (⟨d,I⟩ | ⟨d,gd⟩)
   rotate_left
   ·exact jN ⟨d,gd⟩
   refine NG (P7 (λ_=>LN F a b L (X+1)) (KA F a b L (X+1)) ⟨d,I⟩ ?gstep ?gfin ?gpost)
   case gfin=>
    rintro _ f ⟨d,I⟩;exact .more d I
   case gpost=>
    rintro _ f (⟨d,I⟩ | ⟨d,gd⟩)
    ·exact M9 λz D=>jN ⟨d.trans D,I⟩
    ·exact jN ⟨d,gd⟩
   case gstep=>
    clear d I;rintro x _ _ _ J (@⟨v,n,K,⟨g,ac,bc⟩,f,d,I⟩);dsimp only
    revert g
    refine Dl (λ_=>⟨_,Z⟩) λg=>M9 λz D=>?_;let d:=d.trans D;clear D;let V:kindOf z=Qa:=d.kind.trans hk;let C:=I.ha;let R:=I.hb;refine Qc kb I.hb λp T ip kp=>LK V ip ka sa ∅ ∅ λk k1 k2 k3=>?_
    dsimp only;let H:B6 a b L (X+1) p k v n K:=⟨I,k1,λi h=>QG.1.mp (k2 i h),λi h1 D=>QG.2.mp (k3 i h1 D)⟩;clear I k1 k2 k3 C
    revert H
    revert n
    revert v
    refine no_implicit_lambda% (LJ (λa0 a2=>BF a b L (X+1) p a0 a2 K) (λv n I=>?_) (λc v n H=>?_) (λc N v n H=>?_))
    ·let hp:=I.hp;let I:=I.I;let C:=I.ha;let S:=I.hx;refine Px T ?_;let l:=I.tb T hp;refine Ws (λu=>jN (.done d (No l (.inl ∅)))) λu=>Qc ka ∅ λq U iq kq=>LK V iq kb sb ∅ ∅ λk k1 k2 k3=>?_
     dsimp only;generalize v.push p=O at l⊢;let H:At a b L q k O n K (K+1):=⟨l,∅,∅,k1,λi h=>QE.1.mp (k2 i h),λi h1 D=>QE.2.mp (k3 i h1 D)⟩
     clear l k1 k2 k3 u
     revert H
     generalize K+1=o
     revert o
     revert O
     refine LJ (λO o=>Bh a b L q O n K o) (λO o I=>?_) (λc O o H=>?_) (λc N O o H=>?_)
     ·refine Px U ?_;let P:=I.m.ta U I.hp;let t:=I.h1;let B:=I.h2;refine Ws (λu=>jN (.done d (LV P u hl))) λu=>?_;split
      ·exact jN (.more d ⟨P,∅,∅,∅⟩)
      ·exact jN ⟨d,P,∅,∅,∅⟩
     ·let e:=H.k1;exists H.m,H.h1,H.h2;intro j t B;have:=H.k3 (j-o) ∅ ∅
      rw[show o+(j-o)=j by lia] at this
      lia
     ·let P:=H.m.takeB k (λx J y W=>by
       let⟨i,i0,i1,_,Y⟩:=OS (xs:=b) J;let⟨j,M,t,B⟩:=Os (xs:=a) W;have:=sa n j M t;have:=H.k2 (i-o) ∅
       rw[show o+(i-o)=i by lia] at this
       unfold WH;rw[Y,B]
       lia)
      rw[vU,<-Nl,<-wJ] at P;let h1:=H.h1;let D:=H.h2;refine Ws (λG=>jN (.done d (No P (.inl ∅)))) λG=>N _ _ ⟨P,?_,∅,λj t B=>?_⟩
      ·have:=H.k1
       lia
      ·have:=H.k3 (j-o) ∅ ∅
       rw[show o+(j-o)=j by lia] at this
       lia
    ·exists H.I;intro j t B;have:=H.k3 (j-n) ∅ ∅
     rw[show n+(j-n)=j by lia] at this
     lia
    ·let C:=H.I.ha;let S:=H.I.hx;let l:=H.I.m.takeA k (λx J y W=>by
      let⟨i,i0,i1,_,Y⟩:=OS (xs:=a) J;let⟨j,M,t,B⟩:=Os (xs:=b) W;have:=sb K j M t;have:=H.k2 (i-n) ∅
      rw[show n+(i-n)=i by lia] at this
      unfold WH;rw[Y,B]
      lia)
     rw[vU,<-Nl,<-wJ] at l;refine Ws (λu=>jN (.done d (LV l u hl))) λu=>Ws (λG=>jN (.done d (No l (.inr ∅)))) λG=>N _ _ ⟨⟨l,?_,R,∅⟩,λj t B=>?_⟩
     ·have:=H.k1
      lia
     ·have:=H.k3 (j-n) ∅ ∅
      rw[show n+(j-n)=j by lia] at this
      lia
end
abbrev XQ(a:jm)(n:Nat):jv:=(a.toList.take n).reverse
def BE{a:jm}{i:Nat}{p:jT}(e:a[i]? = some p):XQ a (i+1)=p::XQ a i:=by
 rw[<-yN] at e;show ((a.toList.take (i+1)).reverse)=_;rw[yR,e];simp
def ZOh{a:jm}{i:Nat}{p:jT}(e:a[i-1]? = some p)(h:1<=i):XQ a i=p::XQ a (i-1):=by
 have:=BE e;rw[Nat.sub_add_cancel h] at this;exact this
def MI.popA{R:jT->jT->Prop}{L c b:jv}{a:jm}{p:jT}(h:MI R L a.toList (p::c) b)(d:∀ y∈b,R p y):MI R L (a.push p).toList c b:=by
 have:=h.takeA 1 (λx f y g=>by
  let e:x=p:=by simpa using f
  rw[e];exact d y g)
 rw[vD,vK,<-uX] at this;exact this
theorem EU{a:jm}{n m:Nat}(h:m<=n)(b:n<=a.size):(XQ a n).drop (n-m)=XQ a m:=by
 show ((a.toList.take n).reverse).drop (n-m)=_;rw[List.drop_reverse,yP,yE,show min n a.size-(n-m)=m by lia,List.take_take,show min m n=m by lia]
def KW{a:jm}{n m:Nat}(h:m<=n)(b:n<=a.size):(XQ a n).take (n-m)=(a.extract m n).reverse.toList:=by
 show ((a.toList.take n).reverse).take (n-m)=_;rw[List.take_reverse,yP,yE,show min n a.size-(n-m)=m by lia,pY,uB,uE,List.drop_take]
theorem MG{a:jm}{n:Nat}{p:jT}(h:p∈XQ a n):∃ j,j<n/\j<a.size/\kv p=Kk a j:=by
 let⟨j,_,d,b,c⟩:=OS (xs:=a) (i:=0) (k:=n) (sF.mp h);exact⟨j,∅,b,c⟩
theorem Fd{a:jm}{n m:Nat}{p:jT}(d:m<=n)(e:n<=a.size)(h:p∈(XQ a n).take (n-m)):∃ j,m<=j/\j<n/\kv p=Kk a j:=by
 rw[KW d e,pY,uB,uE] at h;let⟨j,b,f,g,c⟩:=OS (xs:=a) (sF.mp h);exact⟨j,b,∅,c⟩
def UZ(p q:jT):Prop:=kv q<=kv p
def CQ{L l:jv}{r:jm}(a:l.Perm L)(b:l.Pairwise UZ)(e:r.toList=l.reverse):WO L r:=by
 unfold WO;rw[e];exact⟨(rS l).trans a,rL.mpr b⟩
def EO(a:jm)(n:Nat):(a.extract 0 n).toList=a.toList.take n:=by
 rw[uB,uE,tV,Nat.sub_zero]
section
variable{a b out:jm}{na nb:Nat}{L:jv}
def MF(m:MI UZ L out.toList (XQ a na) (XQ b nb))(h:na=0\/nb=0):WO L (a.extract 0 na++b.extract 0 nb++out.reverse):=by
 refine CQ m.swap.perm ?_ (by simp[EO,XQ])
 rcases h with rfl | rfl
 ·have:XQ a 0=[]:=rfl;rw[this,yQ];exact m.sb
 ·exact m.sa
theorem Lk(m:MI UZ L out.toList (XQ a na) (XQ b nb))(h:nb=1)(f:∀ i,i<a.size->Kk b 0<=Kk a i):WO L (b.extract 0 nb++a.extract 0 na++out.reverse):=by
 refine CQ m.perm ?_ (by simp[EO,XQ])
 let⟨_,d,e⟩:=xY.mp m.sb;rw[<-yF];refine xY.mpr ⟨m.sa,d,λx g y c=>?_⟩;rcases zA.mp g with z | z
 ·exact e x z y c
 ·let⟨j,_,l,n⟩:=MG z;let⟨i,o,p,k⟩:=MG c;have:=f j l;unfold UZ;rw[n,k,show i=0 by lia]
  exact this
end
def mergeHi':jm->jm->StateT jP Sem (jm):=sortPriv% PySem.Builtin.mergeHi
structure LI(a b:jm)(L:jv)(X:Nat)(out:jm)(na nb:Nat):Prop where
 m:MI UZ L out.toList (XQ a na) (XQ b nb)
 a0:1<=na
 a1:na<=a.size
 b0:2<=nb
 b1:nb<=b.size
 hx:na+nb+X<=a.size+b.size
inductive M5{γ:Type}(st:jP)(a b:jm)(L:jv)(x:Nat):Option (jm)×Nat×Nat×jm×γ->jP->Prop
 |mk{na nb:Nat}{out:jm}{g:γ}{st':jP}:Sm st st'->LI a b L x out na nb->M5 st a b L x (none,na,nb,out,g) st'
inductive M8{γ:Type}(st:jP)(a b:jm)(L:jv)(x:Nat):Option (jm)×Nat×Nat×jm×γ->jP->Prop
 |more{na nb:Nat}{out:jm}{g:γ}{st':jP}:Sm st st'->LI a b L x out na nb->M8 st a b L x (none,na,nb,out,g) st'
 |done{r:jm}{c:Nat×Nat×jm×γ}{st':jP}:Sm st st'->WO L r->M8 st a b L x (some r,c) st'
structure Bx(a b:jm)(L:jv)(X:Nat)(p:jT)(t k:Nat)(out:jm)(na nb:Nat):Prop where
 I:LI a b L X out na nb
 e:na-t=k
 k1:t<=na
 k3:∀ i,t<=i->i<na->kv p<Kk a i
structure HiH(a b:jm)(L:jv)(X:Nat)(p:jT)(out:jm)(na nb:Nat):Prop where
 I:LI a b L X out na nb
 hp:∀ j,j<na->Kk a j<=kv p
structure AZ(a b:jm)(L:jv)(q:jT)(t k:Nat)(O:jm)(na nb n2:Nat):Prop where
 m:MI UZ L O.toList (XQ a na) (XQ b n2)
 h1:n2<nb
 h2:2<=n2
 e:n2-t=k
 k1:t<=n2
 k3:∀ i,t<=i->i<n2->kv q<=Kk b i
structure HiJ(a b:jm)(L:jv)(q:jT)(O:jm)(na nb n2:Nat):Prop where
 m:MI UZ L O.toList (XQ a na) (XQ b n2)
 h1:n2<nb
 h2:2<=n2
 hp:∀ j,j<n2->Kk b j<=kv q
def MI.pa{a:jm}{L d:jv}{b:jm}{c:Nat}{p:jT}(m:MI UZ L b.toList (XQ a c) d)(e:a[c-1]? = some p)(h:1<=c)(f:∀ y∈d,kv y<=kv p):MI UZ L (b.push p).toList (XQ a (c-1)) d:=by
 rw[ZOh e h] at m;exact m.popA f
def MI.pb{b:jm}{L d:jv}{a:jm}{c:Nat}{p:jT}(m:MI UZ L a.toList d (XQ b c))(e:b[c-1]? = some p)(h:1<=c)(f:∀ y∈d,kv y<=kv p):MI UZ L (a.push p).toList d (XQ b (c-1)):=(m.swap.pa e h f).swap
def Ma{a:jm}{n:Nat}{p:jT}(h:∀ j,j<n->j<a.size->Kk a j<=kv p):∀ y∈XQ a n,kv y<=kv p:=λy b=>by
 let⟨j,c,d,e⟩:=MG b;rw[e];exact h j c d
section
variable[KoOk prog w A s]
theorem BK{K:jP}{a b:jm}{Q:jm->jP->Prop}(hk:kindOf K=Qa)(ka:Wp a)(kb:Wp b)(a1:1<=a.size)(b1:1<=b.size)(sa:PL a a.size)(sb:PL b b.size)(h0:∀ i,i<a.size->Kk b 0<=Kk a i)(hl:∀ j,j<b.size->Kk b j<=Kk a (a.size-1))(pa:a.toList.Pairwise WH)(pb:b.toList.Pairwise WH)(h:∀ r f,Sm K f->WO (a.toList++b.toList) r->Q r f):wpS (aB prog w) A E s (mergeHi' a b) Q K:=by
 refine NG (Qc ka (show a.size-1<a.size by lia) λp0 e0 i0 k0=>?_)
 let m0:MI UZ (a.toList++b.toList) #[p0].toList (XQ a (a.size-1)) (XQ b b.size):=by
  let ea:XQ a a.size=a.toList.reverse:=by show (a.toList.take a.size).reverse=_;rw[yY (by simp)]
  let eb:XQ b b.size=b.toList.reverse:=by show (b.toList.take b.size).reverse=_;rw[yY (by simp)]
  let m:MI UZ (a.toList++b.toList) #[].toList (XQ a a.size) (XQ b b.size):=⟨by rw[ea,eb];exact(rS _).append (rS _),by rw[ea];exact rL.mpr pa,by rw[eb];exact rL.mpr pb⟩
  exact m.pa e0 a1 (Ma λj _ S=>by rw[<-k0];exact hl j S)
 refine Ws (λc1=>jN (h _ _ (Sm.refl _) (MF m0 (.inl ∅)))) λc1=>Ws (λc2=>jN (h _ _ (Sm.refl _) (Lk m0 c2 h0))) λc2=>Jh ?_
 generalize hL:a.toList++b.toList=L at m0 h;refine P7 (M5 K a b L) (Ij K L) ⟨Sm.refl _,m0,∅,∅,∅,∅,∅⟩ ?step ?fin ?post
 case post=>
  rintro _ f ⟨d,g⟩;exact jN (h _ f d g)
 case fin=>
  rintro _ f ⟨d,i⟩;have:=i.a0;have:=i.b0;have:=i.hx
  lia
 case step=>
  rintro X _ f _ hX ⟨d,I⟩;refine P7 (λx=>M5 K a b L (X+x)) (M8 K a b L (X+1)) ⟨d,I⟩ ?istep ?ifin ?ipost
  case ifin=>
   rintro _ C ⟨d,I⟩;exact .more d ⟨I.m,I.a0,I.a1,I.b0,I.b1,by have:=I.hx;lia⟩
  case istep=>
   clear d I;rintro x _ _ _ hx (@⟨o,N,l,g,f,d,m,U,P,b0,b9,ix⟩);dsimp only;refine Qc kb ∅ λp V ip kp=>Qc ka ∅ λq W iq kq=>G0 (d.kind.trans hk) ip iq (NV (λc=>Px W ?_) λc=>Px V ?_)
   ·let n:=m.pa W U (Ma λj R S=>by
     have:=sb j (N-1) ∅ ∅
     lia)
    exact Ws (λu=>jN (.done d (MF n (.inl u)))) λu=>Vc (λG=>jN (.more d ⟨n,∅,∅,∅,∅,∅⟩)) λG=>jN ⟨d,n,∅,∅,∅,∅,∅⟩
   ·let n:=m.pb V ∅ (Ma λj R S=>by
     have:=sa j (o-1) ∅ ∅
     lia)
    exact Ws (λu=>jN (.done d (Lk n u h0))) λu=>Vc (λG=>jN (.more d ⟨n,∅,∅,∅,∅,∅⟩)) λG=>jN ⟨d,n,∅,∅,∅,∅,∅⟩
  case ipost=>
   clear d I;rintro _ f (⟨d,I⟩ | ⟨d,gd⟩)
   rotate_left
   ·exact jN ⟨d,gd⟩
   refine NG (P7 (λ_=>M5 K a b L (X+1)) (M8 K a b L (X+1)) ⟨d,I⟩ ?gstep ?gfin ?gpost)
   case gfin=>
    rintro _ f ⟨d,I⟩;exact .more d I
   case gpost=>
    rintro _ f (⟨d,I⟩ | ⟨d,gd⟩)
    ·exact M9 λC M=>jN ⟨d.trans M,I⟩
    ·exact jN ⟨d,gd⟩
   case gstep=>
    clear d I;rintro x _ _ _ hx (@⟨o,N,l,⟨g,ac,bc⟩,f,d,I⟩);dsimp only
    revert g
    refine Dl (λ_=>⟨_,Z⟩) λg=>M9 λC M=>?_;let d:=d.trans M;clear M;let Y:kindOf C=Qa:=d.kind.trans hk;let U:=I.a0;let P:=I.a1;let b0:=I.b0;let b9:=I.b1;refine Qc kb ∅ λp V ip kp=>LK Y ip ka sa ∅ ∅ λt D v F=>?_
    dsimp only;simp only[tX] at v F;generalize B:o-t=k;let H:Bx a b L (X+1) p t k l o N:=⟨I,B,D,λi h1 M=>QG.2.mp (F i h1 M)⟩
    replace v:∀ i,i<t->Kk a i<=kv p:=λi h=>QG.1.mp (v i h)
    clear I U P D F B
    revert H
    revert l
    revert o
    refine no_implicit_lambda% (LJ (λo l=>HiH a b L (X+1) p l o N) (λo l I=>?_) (λc o l H=>?_) (λc T o l H=>?_))
    ·let⟨⟨m,U,P,b0,b9,ix⟩,hp⟩:=I;refine Px V ?_;let n:=m.pb V ∅ (Ma λj R _=>hp j R)
     refine Ws (λu=>jN (.done d (Lk n u h0))) λu=>Qc ka ∅ λq W iq kq=>LK Y iq kb sb ∅ ∅ λt2 D v F=>?_
     dsimp only;simp only[tX] at v F;generalize l.push p=O at n⊢;generalize hn:N-1=J at n D v F u⊢;generalize B:J-t2=k';let H:AZ a b L q t2 k' O o N J:=⟨n,∅,∅,B,D,λi h1 M=>QE.2.mp (F i h1 M)⟩
     replace v:∀ i,i<t2->Kk b i<kv q:=λi h=>QE.1.mp (v i h)
     clear n D F B u hn
     revert H
     revert O
     revert J
     refine LJ (λJ O=>HiJ a b L q O o N J) (λJ O I=>?_) (λc J O H=>?_) (λc T J O H=>?_)
     ·let⟨n,S,j2,hp⟩:=I;refine Px W ?_;let z:=n.pa W U (Ma λj R _=>hp j R);refine Ws (λu=>jN (.done d (MF z (.inl u)))) λu=>?_;split
      ·exact jN (.more d ⟨z,∅,∅,∅,∅,∅⟩)
      ·exact jN ⟨d,z,∅,∅,∅,∅,∅⟩
     ·let e:=H.e;exact⟨H.m,H.h1,H.h2,λj c=>wG (v j ∅)⟩
     ·let S:=H.h1;let j3:=H.k1;let z:=H.m.takeB (J-t2) λx hx y hy=>by
       let⟨i,i0,i1,i3⟩:=Fd j3 ∅ hx
       let⟨j,R,S,j2⟩:=MG hy;have:=sa j (o-1) ∅ ∅
       have:=H.k3 i i0 i1;unfold UZ;rw[i3,j2]
       lia
      rw[EU j3 ∅,KW j3 ∅,<-wJ] at z
      exact Ws (λG=>jN (.done d (Lk z G h0))) λG=>Ws (λc5=>jN (.done d (MF z (.inr c5)))) λc5=>T _ _ ⟨z,∅,∅,λj c=>wG (v j c)⟩
    ·let e:=H.e;exact⟨H.I,λj c=>v j ∅⟩
    ·let⟨⟨m,U,P,b0,b9,ix⟩,e,D,F⟩:=H;let z:=m.takeA (o-t) λx hx y hy=>by
      let⟨i,i0,i1,i3⟩:=Fd D P hx;let⟨j,R,S,j2⟩:=MG hy;have:=sb j (N-1) ∅ ∅
      have:=F i i0 i1;unfold UZ;rw[i3,j2]
      lia
     rw[EU D P,KW D P,<-wJ] at z;exact Ws (λG=>jN (.done d (MF z (.inl G)))) λG=>T _ _ ⟨⟨z,∅,∅,∅,∅,∅⟩,v⟩
end
structure TB(a₀:jm)(p₀:jF)(st:jP):Prop where
 perm:(jO st).Perm a₀
 kind:kindOf st=Qa
 failed:failedOf st=none
 pend:jQ st=p₀
def Xb(b:jm)(a n:Nat):Prop:=∀ i j,i<=j->j<n->Kk b (a+i)<=Kk b (a+j)
def Vg(b:jm)(a n:Nat):Prop:=∀ i j,i<=j->j<n->Kk b (a+j)<=Kk b (a+i)
def Fr(b c:jm)(a:Nat):Prop:=∀ i,i<a->Kk c i=Kk b i
section
variable{a₀:jm}{p₀:jF}{st:jP}
def TB.size(h:TB a₀ p₀ st):(jO st).size=a₀.size:=h.perm.size_eq
def TB.setArr(h:TB a₀ p₀ st){a:jm}(b:a.Perm (jO st)):TB a₀ p₀ (jU st a):=⟨b.trans h.perm,h.kind,h.failed,h.pend⟩
def TB.ints(h:TB a₀ p₀ st)(a:Wp a₀):Wp (jO st):=λp b=>a p ((rE.mp h.perm).mem_iff.mp b)
end
section
variable[KoOk prog w A s]{a₀:jm}{p₀:jF}
def IC{b:Type}{c:Prop}{_:Decidable c}{x J:StateT jP Sem b}{Q:b->jP->Prop}{a:jP}(P:jP->Prop)(k:∀ a,P a->wpS (aB prog w) A E s J Q a)(d:¬c->P a)(e:c->(∀ a,P a->wpS (aB prog w) A E s J Q a)->wpS (aB prog w) A E s x Q a):wpS (aB prog w) A E s (if c then x else J) Q a:=by
 refine Vc (λh=>?_) λh=>?_
 ·exact e h k
 ·exact k a (d h)
def Ih{a:jP}{i j:Nat}{Q:jI->jP->Prop}(b:TB a₀ p₀ a)(c:Wp a₀)(f:i<a₀.size)(g:j<a₀.size)(h:Q (some (decide (Kk (jO a) i<Kk (jO a) j))) a):wpS (aB prog w) A E s (ltAt' i j) Q a:=by
 let⟨p,d,k,m⟩:=KM (b.ints c) (show i<(jO a).size by rw[b.size];exact f)
 let⟨q,e,l,n⟩:=KM (b.ints c) (show j<(jO a).size by rw[b.size];exact g)
 rw[m,n] at h;exact jM (wpS_get (jM (KL d (jM (KL e (LM b.kind k l h))))))
def HP{b:Type}{a:jP}{i j:Nat}{f:jI->StateT jP Sem b}{Q:b->jP->Prop}(d:TB a₀ p₀ a)(c:Wp a₀)(e:i<a₀.size)(g:j<a₀.size)(h:wpS (aB prog w) A E s (f (some (decide (Kk (jO a) i<Kk (jO a) j)))) Q a):wpS (aB prog w) A E s (ltAt' i j >>= f) Q a:=jM (Ih d c e g h)
def EB{d:Type}{a:jP}{i j:Nat}{x y:d}{f:jI->StateT jP Sem d}{Q:d->jP->Prop}(g:TB a₀ p₀ a)(e:Wp a₀)(k:i<a₀.size)(l:j<a₀.size)(q:Q (if Kk (jO a) i<Kk (jO a) j then x else y) a)(h:∀ b,f (some b)=if b=true then pure x else pure y:=by exact λ_=>rfl):wpS (aB prog w) A E s (ltAt' i j >>= f) Q a:=by
 refine HP g e k l ?_;rw[h];refine NV (λc=>?_) λc=>?_
 ·rw[aP c] at q;exact jN q
 ·rw[aO c] at q;exact jN q
structure Ke(a₀:jm)(p₀:jF)(st st2:jP):Prop where
 tb:TB a₀ p₀ st2
 eq:∀ k,Kk (jO st2) k=Kk (jO st) k
inductive Hi{γ:Type}(a₀:jm)(p₀:jF)(xs:jm)(lo n:Nat):Option γ×Unit->jP->Prop
 |mk{z:jP}:TB a₀ p₀ z->Fr xs (jO z) lo->Xb (jO z) lo n->Hi a₀ p₀ xs lo n (none,()) z
theorem ZL1{o:jP}{a n u:Nat}{Q:Bool->jP->Prop}(J:Wp a₀)(V:a+n<=a₀.size)(M:u<=n)(K:TB a₀ p₀ o)(N:Xb (jO o) a u)(h:∀ d,TB a₀ p₀ d->Fr (jO o) (jO d) a->Xb (jO d) a n->Q true d):wpS (aB prog w) A E s (binarySort' a n u) Q o:=by
 refine P7 (λk=>Hi a₀ p₀ (jO o) a (min k n)) (Hi a₀ p₀ (jO o) a n) ⟨K,λ_ _=>rfl,λi j e m=>?_⟩ ?_ ?_ ?_
 rotate_left
 ·rintro k _ z W X ⟨g,q,b⟩;let I:min k n=k:=∅
  rw[I] at b;let C:a+k<(jO z).size:=by rw[g.size];lia
  refine jM (Ky (B:=λi=>!decide (Kk (jO z) (a+k)<Kk (jO z) (a+i))) (zD _) (zY k) (λi c=>absurd c (xH _)) (λi e m=>by lia) (λi j e m H=>?_) (λx l r T U F G=>?_) λt Y O P=>?_)
  ·have:=b i j e m;simp at H⊢
   lia
  ·dsimp only;refine Vc (λc=>?_) λc=>?_
   ·exact jN (F c)
   refine jM (Ih g J ∅ ∅ ?_)
   let y:=G ((l+r) / 2) ∅ ∅
   cases L:decide (Kk (jO z) (a+k)<Kk (jO z) (a+(l+r) / 2)) <;> rw[L] at y
   ·exact jN y
   ·exact jN y
  ·refine jM (show wpS (aB prog w) A E s (moveDown' (a+k) (a+t)) _ z from ?_);rw[moveDown'_eq];refine wpS_modify (jN ⟨g.setArr (bubble_perm _ _ _),λi c=>?_,?_⟩)
   ·show Kk (bubble (jO z) (a+k) (a+k-(a+t))) i=_;rw[Gm C ∅,aO ∅,aO ∅]
    exact q i c
   rw[show min (k+1) n=k.succ by lia]
   let D:∀ i,i<=k->Kk (bubble (jO z) (a+k) (a+k-(a+t))) (a+i)=if i<t then Kk (jO z) (a+i) else if i=t then Kk (jO z) (a+k) else Kk (jO z) (a+(i-1)):=λi c=>by
    rw[Gm C ∅]
    by_cases p:i<t
    ·rw[aP p,aO ∅,aO ∅]
    rw[aO p];by_cases f:i=t
    ·rw[aP f,aP ∅]
    ·rw[aO f,aO ∅,aP ∅,show a+i-1=a+(i-1) by lia]
   let R:∀ i,i<t->Kk (jO z) (a+i)<=Kk (jO z) (a+k):=λi c=>by
    have:=O i c;simp at this
    lia
   let S:∀ i,t<=i->i<k->Kk (jO z) (a+k)<=Kk (jO z) (a+i):=λi e m=>by
    have:=P i e m;simp at this
    lia
   intro i j e m;show Kk (bubble (jO z) (a+k) (a+k-(a+t))) (a+i)<=Kk (bubble (jO z) (a+k) (a+k-(a+t))) (a+j);rw[D i ∅,D j ∅]
   by_cases p:i<t
   ·rw[aP p];by_cases f:j<t
    ·rw[aP f];exact b i j e ∅
    rw[aO f];by_cases v:j=t
    ·rw[aP v];exact R i p
    ·rw[aO v];exact b i (j-1) ∅ ∅
   rw[aO p,aO (by lia:¬j<t)]
   by_cases f:i=t
   ·rw[aP f];by_cases v:j=t
    ·rw[aP v];exact wS _
    ·rw[aO v];exact S (j-1) ∅ ∅
   ·rw[aO f,aO ∅]
    exact b (i-1) (j-1) ∅ ∅
 ·rintro _ z ⟨g,q,b⟩;rw[show min (max (max u 1) n) n=n by lia] at b
  exact⟨g,q,b⟩
 ·rintro _ z ⟨g,q,b⟩;exact jN (h z g q b)
 ·by_cases z:u=0
  ·rw[show i=j by lia]
   exact wS _
  ·exact N i j e ∅
theorem Xb.snoc{b:jm}{a x:Nat}(h:Xb b a x)(c:1<=x->Kk b (a+x-1)<=Kk b (a+x)):Xb b a (x+1):=λi j d g=>by
 by_cases e:j<x
 ·exact h i j d e
 by_cases f:i=j
 ·rw[f];exact wS _
 ·have:=h i (x-1) ∅ ∅
  rw[show j=x by lia]
  rw[show a+(x-1)=a+x-1 by lia] at this
  exact wF this (c ∅)
def Vg.snoc{b:jm}{a x:Nat}(h:Vg b a x)(c:1<=x->Kk b (a+x)<=Kk b (a+x-1)):Vg b a (x+1):=λi j d g=>by
 by_cases e:j<x
 ·exact h i j d e
 by_cases f:i=j
 ·rw[f];exact wS _
 ·have:=h i (x-1) ∅ ∅
  rw[show j=x by lia]
  rw[show a+(x-1)=a+x-1 by lia] at this
  exact wF (c ∅) this
theorem E9{f:Nat->Option (jr)×Nat->StateT jP Sem (ForInStep (Option (jr)×Nat))}{lo a b:Nat}{d:jP}{Q:Option (jr)×Nat->jP->Prop}(p:1<=a)(j:a<=b)(o:Xb (jO d) lo a)(m:∀ x n (i:ForInStep (Option (jr)×Nat)->jP->Prop),1<=n->n<b->i (if Kk (jO d) (lo+n)<Kk (jO d) (lo+n-1) then .done (none,n) else .yield (none,n+1)) d->wpS (aB prog w) A E s (f x (none,n)) i d)(h:∀ n,a<=n->n<=b->Xb (jO d) lo n->(n=b\/Kk (jO d) (lo+n)<Kk (jO d) (lo+n-1))->Q (none,n) d):wpS (aB prog w) A E s (forIn [a:b] (none,a) f) Q d:=by
 refine jR (I:=λx c e=>e=d/\c=(none,x)/\Xb (jO d) lo x) ?_ ?_ ⟨Z,Z,o⟩
 ·rintro x c e k l ⟨rfl,rfl,g⟩;refine m x x _ ∅ l ?_
  by_cases c:Kk (jO e) (lo+x)<Kk (jO e) (lo+x-1)
  ·rw[aP c];exact h x k ∅ g (.inr c)
  ·rw[aO c];exact⟨Z,Z,g.snoc λ_=>tS.mp c⟩
 ·rintro c e ⟨rfl,rfl,g⟩;rw[show max a b=b by lia] at g⊢
  exact h b j (zY _) g (.inl rfl)
structure KH(a₀:jm)(p₀:jF)(xs:jm)(lo x neq:Nat)(st':jP):Prop where
 tb:TB a₀ p₀ st'
 fr:Fr xs (jO st') lo
 sg:Vg (jO st') lo x
 le:neq+1<=x
 eq:∀ i,x-(neq+1)<=i->i<x->Kk (jO st') (lo+i)=Kk (jO st') (lo+x-1)
inductive Gq{γ:Type}(a₀:jm)(p₀:jF)(xs:jm)(lo x:Nat):Option γ×Nat×Nat->jP->Prop
 |mk{neq:Nat}{st':jP}:KH a₀ p₀ xs lo x neq st'->Gq a₀ p₀ xs lo x (none,x,neq) st'
inductive Cw{γ:Type}(a₀:jm)(p₀:jF)(xs:jm)(lo n nrem:Nat):Option γ×Nat×Nat->jP->Prop
 |mk{x neq:Nat}{st':jP}:n+1<=x->x<=nrem->KH a₀ p₀ xs lo x neq st'->Cw a₀ p₀ xs lo n nrem (none,x,neq) st'
theorem KH.mq{a₀:jm}{p₀:jF}{e:jm}{a x b:Nat}{c:jP}(h:KH a₀ p₀ e a x b c)(d:a+x<=a₀.size)(k:Nat):Kk (mirror (jO c) (a+x-(b+1)) (a+x) ((a+x-(a+x-(b+1))) / 2)) k=Kk (jO c) k:=Fe (by rw[h.tb.size];exact d) (λk f g=>by
 have:=h.le;have:=h.eq (k-a) ∅ ∅
 rwa [show a+(k-a)=k by lia] at this) k
theorem ZIG{l:jP}{a f:Nat}{Q:jr->jP->Prop}(C:Wp a₀)(hn:a+f<=a₀.size)(Y:1<=f)(v:TB a₀ p₀ l)(h:∀ m d,TB a₀ p₀ d->Fr (jO l) (jO d) a->1<=m->m<=f->Xb (jO d) a m->Q (some m) d):wpS (aB prog w) A E s (countRun' a f) Q l:=by
 refine jM (E9 (lo:=a) (zY 1) Y (λi j _ _=>by rw[show i=j by lia];exact wS _) (λx n X F G q=>EB v C ∅ ∅ q) λn F G I n4=>?_)
 dsimp only;refine Ws (λnn=>?_) λnn=>?_
 ·exact jN (h n l v (λ_ _=>rfl) F G I)
 let D:Kk (jO l) (a+n)<Kk (jO l) (a+n-1):=n4.resolve_left nn;refine IC (λd=>TB a₀ p₀ d/\Fr (jO l) (jO d) a/\Vg (jO d) a (n+1)) (λa2 H=>?_) (λc=>?_) (λc r=>?_)
 ·let⟨K,M,L⟩:=H;refine NG ?_;refine P7 (Gq a₀ p₀ (jO l) a) (Cw a₀ p₀ (jO l) a n f) ⟨K,M,L,(by lia:0+1<=n+1),λi t u=>by congr 1;lia⟩ ?step ?fin ?post
  case fin=>
   rintro _ d ⟨b⟩;rw[show max (n+1) f=f by lia] at b⊢
   exact⟨∅,∅,b⟩
  case step=>
   rintro x _ d a0 a1 (@⟨R,_,b⟩);dsimp only;refine HP b.tb C ∅ ∅ (NV (λp=>?_) λp=>HP b.tb C ∅ ∅ (NV (λU=>jN ⟨∅,∅,b⟩) λU=>jN ⟨b.tb,b.fr,?_,?_,λi t u=>?_⟩))
   ·refine IC (λg=>Ke a₀ p₀ d g) (λg H=>?_) (λc=>⟨b.tb,λ_=>rfl⟩) (λc r=>?_)
    ·refine jN ⟨H.1,λi c=>(H.2 i).trans (b.fr i c),Vg.snoc (λi j t u=>?_) λ_=>?_,(by lia:0+1<=x+1),λi t u=>by congr 1;lia⟩
     all_goals rw[H.2,H.2]
     ·exact b.sg i j t u
     ·exact wG p
    ·exact jM (wpS_reverse (r _ ⟨b.tb.setArr (mirror_perm _ _ _ _),b.mq ∅⟩))
   ·exact b.sg.snoc λ_=>tS.mp U
   ·exact vI b.le
   ·rw[show a+(x+1)-1=a+x by lia]
    by_cases z:i=x
    ·rw[z]
    ·let he:Kk (jO d) (a+x)=Kk (jO d) (a+x-1):=∅
     rw[he];exact b.eq i ∅ ∅
  case post=>
   rintro _ d (@⟨x,R,_,x1,x2,b⟩);dsimp only;refine IC (λg=>Ke a₀ p₀ d g) (λg H=>?_) (λc=>⟨b.tb,λ_=>rfl⟩) (λc r=>jM (wpS_reverse (r _ ⟨b.tb.setArr (mirror_perm _ _ _ _),b.mq ∅⟩)))
   refine jM (wpS_reverse (?_));let O:a+x<=(jO g).size:=by rw[H.1.size];lia
   generalize T:jU g (mirror (jO g) a (a+x) ((a+x-a) / 2))=B;let S:TB a₀ p₀ B:=by
    rw[<-T];exact H.1.setArr (mirror_perm _ _ _ _)
   let J:∀ k,Kk (jO B) k=if a<=k/\k<a+x then Kk (jO d) (a+(a+x)-1-k) else Kk (jO d) k:=λk=>by
    rw[<-T];show Kk (mirror (jO g) a (a+x) ((a+x-a) / 2)) k=_;rw[EX O,H.2,H.2]
   refine jM (E9 (lo:=a) ∅ x2 (λi j c3 c4=>?_) (λy m X F G q=>EB S C ∅ ∅ q) λm m1 m2 m3 m4=>jN (h m B S (λi c=>?_) ∅ m2 m3))
   ·rw[J,J,aP ∅,aP ∅]
    have:=b.sg (x-1-j) (x-1-i) ∅ ∅
    rwa [show a+(x-1-j)=a+(a+x)-1-(a+j) by lia,show a+(x-1-i)=a+(a+x)-1-(a+i) by lia] at this
   ·rw[J,aO ∅]
    exact b.fr i c
 ·let e:n=1:=∅
  subst e;refine⟨v,λ_ _=>rfl,Vg.snoc (λi j t u=>?_) λ_=>wG D⟩;rw[show i=j by lia]
  exact wS _
 ·refine jM (Ih v C ∅ ∅ ?_)
  dsimp only;refine NV (λhr=>?_) λhr=>?_
  ·exact jN (h n l v (λ_ _=>rfl) F G I)
  let N:a+n<=(jO l).size:=by rw[v.size];lia
  let o:∀ k,a<=k->k<a+n->Kk (jO l) k=Kk (jO l) (a+n-1):=λk t u=>by
   let V:=I 0 (k-a) ∅ ∅
   let W:=I (k-a) (n-1) ∅ ∅
   rw[show a+(k-a)=k by lia] at V W
   rw[show a+(n-1)=a+n-1 by lia] at W
   rw[Nat.add_zero] at V
   lia
  let P:∀ k,Kk (mirror (jO l) a (a+n) ((a+n-a) / 2)) k=Kk (jO l) k:=Fe N o;refine jM (wpS_reverse (r _ ⟨v.setArr (mirror_perm _ _ _ _),λi _=>P i,λi j t u=>?_⟩));show Kk (mirror (jO l) a (a+n) ((a+n-a) / 2)) _<=Kk (mirror (jO l) a (a+n) ((a+n-a) / 2)) _;rw[P,P];refine Vg.snoc (x:=n) (λi j t u=>?_) (λ_=>wG D) i j t u;rw[o (a+j) ∅ ∅,o (a+i) ∅ ∅]
  exact wS _
end
theorem Fs{o:Nat}:∀(l:jv)(d:Nat)(c:jm)(P M R:jv),c.toList=P++(M++R)->P.length=o+d->M.length=l.length->((l.zipIdx d).foldl (λa x=>a.setIfInBounds (o+x.2) x.1) c).toList=P++(l++R)
 | [],d,c,P,M,R,e,g,f=>by
  rw[List.zipIdx_nil,List.foldl_nil,e,vP f]
 | p::l,d,c,P,M,R,e,g,f=>by
  obtain⟨m,b,rfl⟩:∃ m b,M=m::b:=by
   cases M with
   | nil=>cases f
   | cons m b=>exact⟨m,b,Z⟩
  rw[List.zipIdx_cons,List.foldl_cons];have:=Fs (o:=o) l (d+1) (c.setIfInBounds (o+d) p) (P++[p]) b R (by
   rw[qI,e,<-g];simp) (by rw[zS];simp;lia) (by simpa using f)
  rw[this];simp
def wr(b:jm)(o:Nat)(l:jv):jm:=l.zipIdx.foldl (λa x=>a.setIfInBounds (o+x.2) x.1) b
theorem Aa{xs r:jm}{o n:Nat}(g:o+n<=xs.size)(b:r.toList.Perm ((xs.toList.drop o).take n)):(wr xs o r.toList).Perm xs/\(∀ i,i<o\/o+n<=i->Kk (wr xs o r.toList) i=Kk xs i)/\∀ i,i<n->Kk (wr xs o r.toList) (o+i)=Kk r i:=by
 let f:r.toList.length=n:=by
  rw[b.length_eq,yP,yD,yE]
  lia
 let d:xs.toList=xs.toList.take o++((xs.toList.drop o).take n++xs.toList.drop (o+n)):=by
  rw[<-vU,xQ,xQ]
 let c:(xs.toList.take o).length=o:=by
  rw[yP,yE]
  lia
 let a:(wr xs o r.toList).toList=xs.toList.take o++(r.toList++xs.toList.drop (o+n)):=Fs r.toList 0 xs _ _ _ d c (by rw[<-b.length_eq])
 refine⟨rE.mpr ?_,λi e=>IQ ?_,λi e=>IQ ?_⟩
 ·rw[a]
  conv=>rhs;rw[d]
  exact(vN.refl _).append (b.append (vN.refl _))
 ·rw[<-yN,<-yN,a];rcases e with z | z
  ·rw[wR ∅,sT z]
  ·rw[xE ∅,xE ∅,rR,c,f]
   congr 1
   lia
 ·rw[<-yN,<-yN,a,xE ∅,wR ∅,c]
  congr 1
  lia
def NQ{a:jm}{o n i:Nat}(b:i<n):Kk (a.extract o (o+n)) i=Kk a (o+i):=IQ (by
 rw[<-yN,Nl,sT b,rR,yN])
def N3{a:jm}(h:PL a a.size):a.toList.Pairwise WH:=rF.mpr λi j c b d=>by
 have:=h i j ∅ (by simpa using b)
 unfold WH;rw[NX (i:=i) (p:=a.toList[i]) (by rw[<-yN];exact zV c),NX (i:=j) (p:=a.toList[j]) (by rw[<-yN];exact zV b)] at this
 exact this
theorem Bu{a:jm}(h:a.toList.Pairwise WH):PL a a.size:=λi j e f=>by
 let d:j<a.toList.length:=by simpa using f
 let b:i<a.toList.length:=∅
 rw[NX (i:=i) (p:=a.toList[i]) (by rw[<-yN];exact zV b),NX (i:=j) (p:=a.toList[j]) (by rw[<-yN];exact zV d)]
 by_cases c:i=j
 ·subst c;exact wS _
 ·exact rF.mp h i j b d ∅
def AS(a:jm)(c b:Nat):Prop:=∀ i j,c<=i->i<=j->j<b->Kk a i<=Kk a j
def Xb.abs{d:jm}{a n:Nat}(h:Xb d a n):AS d a (a+n):=λi j b c e=>by
 let⟨f,rfl⟩:=vZ b;let⟨g,rfl⟩:=vZ (zN b c);exact h f g (rH c) (rG e)
def AS.seg{b:jm}{a n:Nat}(h:AS b a (a+n)):Xb b a n:=λi j c d=>h _ _ (wV _ _) (rP c _) (Nat.add_lt_add_left d _)
def AS.two{a:jm}{c m b:Nat}(h:AS a c m)(g:AS a m b)(f:∀ i j,c<=i->i<m->m<=j->j<b->Kk a i<=Kk a j):AS a c b:=λi j d e k=>by
 by_cases l:j<m
 ·exact h i j d e l
 by_cases n:i<m
 ·exact f i j d n (wU l) k
 ·exact g i j (wU n) e k
def AS.ext{b:jm}{e d o n:Nat}(h:AS b e d)(f:e<=o)(g:o+n<=d)(z:(b.extract o (o+n)).size=n):PL (b.extract o (o+n)) (b.extract o (o+n)).size:=λi j c a=>by
 rw[z] at a;rw[NQ (wZ c a),NQ a];exact h _ _ (zN f (wV _ _)) (rP c _) (yV (Nat.add_lt_add_left a _) g)
def AS.put{d ys:jm}{h o m e g:Nat}(t:AS d h m)(v:AS d m g)(A:h<=o)(r:m<=e)(l:o<=m)(y:e<=g)(s:∀ i j,h<=i->i<o->m<=j->j<g->Kk d i<=Kk d j)(B:∀ i j,h<=i->i<m->e<=j->j<g->Kk d i<=Kk d j)(f:∀ j,j<o\/e<=j->Kk ys j=Kk d j)(C:AS ys o e)(w:∀ j,o<=j->j<e->∃ u,o<=u/\u<e/\Kk ys j=Kk d u):AS ys h g:=by
 refine AS.two (m:=o) (λi j b a c=>?_) (AS.two C (λi j b a c=>?_) λi j b a c k=>?_) λi j b a c k=>?_
 ·rw[f i (.inl (wZ a c)),f j (.inl c)];exact t i j b a (yV c l)
 ·rw[f i (.inr b),f j (.inr (zN b a))];exact v i j (zN r b) a c
 ·let⟨u,n,p,q⟩:=w i b a;rw[q,f j (.inr c)];by_cases z:u<m
  ·exact B u j (zN A n) z c k
  ·exact v u j (wU z) (xU (yV p c)) k
 ·rw[f i (.inl a)];by_cases z:j<e
  ·let⟨u,n,p,q⟩:=w j c z;rw[q];by_cases x:u<m
   ·exact t i u b (xU (yV a n)) x
   ·exact s i u b a (wU x) (yV p y)
  ·rw[f j (.inr (wU z))];exact s i j b a (zN r (wU z)) k
section
variable[KoOk prog w A s]{a₀:jm}{p₀:jF}
def ZNF{b x:jP}{Q:PUnit->jP->Prop}(h:∀ a,a=x->Q ⟨⟩ a):wpS (aB prog w) A E s (set x:StateT jP Sem PUnit) Q b:=by
 unfold wpS;rw[StateT.run_set];exact ae ⟨Z,h _ Z⟩
theorem ZGZ{K:jP}{i b d V m a1:Nat}{Q:Bool->jP->Prop}(h0:Wp a₀)(M:TB a₀ p₀ K)(e1:p₀[i]? = some (b,d,V))(e2:p₀[i+1]? = some (b+d,m,a1))(a2:1<=d)(a3:1<=m)(hn:b+d+m<=a₀.size)(W:Xb (jO K) b d)(s2:Xb (jO K) (b+d) m)(h:∀ g,TB a₀ ((p₀.setIfInBounds i (b,d+m,V)).eraseIdxIfInBounds (i+1)) g->(∀ j,j<b\/b+d+m<=j->Kk (jO g) j=Kk (jO K) j)->Xb (jO g) b (d+m)->Q true g):wpS (aB prog w) A E s (mergeAt' i) Q K:=by
 let⟨kd,a,pd,gl,R⟩:=K
 replace W:Xb a b d:=W
 replace s2:Xb a (b+d) m:=s2
 let J:a.Perm a₀:=M.perm;let ep:pd=p₀:=M.pend;let ek:kd=Qa:=M.kind;let P:R=none:=M.failed
 replace h:∀ g,TB a₀ ((p₀.setIfInBounds i (b,d+m,V)).eraseIdxIfInBounds (i+1)) g->(∀ j,j<b\/b+d+m<=j->Kk (jO g) j=Kk a j)->Xb (jO g) b (d+m)->Q true g:=h
 subst ep;refine Jh ?_;dsimp only;rw[e1,e2];dsimp only;refine jM (ZNF λB G=>?_);let l:TB a₀ ((pd.setIfInBounds i (b,d+m,V)).eraseIdxIfInBounds (i+1)) B:=by
  rw[G];exact⟨J,ek,P,Z⟩
 let ea:jO B=a:=by rw[G]
 clear G;let hz:a.size=a₀.size:=J.size_eq;let N:Wp a:=M.ints h0;let H:=W.abs;let D:=s2.abs;refine Qc N ∅ λq eq iq kq=>jM (Im l.kind iq N ∅ ∅ (HE W) λk k1 k2 k3=>?_)
 dsimp only
 replace k2:∀ i,b<=i->i<b+k->Kk a i<=kv q:=λi T h2=>by
  let⟨i,rfl⟩:=vZ T;exact QG.1.mp (k2 i (rG h2))
 replace k3:kv q<Kk a (b+k)\/k=d:=by
  by_cases z:k<d
  ·exact .inl (QG.2.mp (k3 k (zY _) z))
  ·exact .inr ∅
 let q0:∀ j,b+d<=j->j<b+d+m->kv q<=Kk a j:=λj v c=>by
  rw[<-kq];exact D _ j (zY _) v c
 let O:∀ i j,b<=i->i<b+k->b+d<=j->j<b+d+m->Kk a i<=Kk a j:=λi j v y F I=>wF (k2 i v y) (q0 j F I);let x:(∀ i j,b<=i->i<b+d->b+d<=j->j<b+d+m->Kk a i<=Kk a j)->Q true B:=λf=>h B l (λj _=>by rw[ea]) (by
  rw[ea];exact AS.seg (by rw[<-vL];exact H.two D f))
 refine Ws (λy=>jN (x (by rw[show k=d by lia] at O;exact O))) λy=>?_
 obtain⟨n,a0⟩:∃ n,d=k+n:=vZ k1;subst a0;rw[uH] at y⊢;rw[<-vL] at H D O x hn q0 kq⊢;generalize ho:b+k=o at *;refine Qc N ∅ λp ep ip kp=>jM (Im l.kind ip N ∅ ∅ (HE (AS.seg D)) λt t1 t2 t3=>?_)
 dsimp only
 replace t2:t=0\/Kk a (o+n+(t-1))<kv p:=by
  by_cases z:t=0
  ·exact .inl z
  ·exact .inr (QE.1.mp (t2 (t-1) ∅))
 replace t3:∀ i,o+n+t<=i->i<o+n+m->kv p<=Kk a i:=λi T h2=>by
  let⟨i,rfl⟩:=vZ (zN (wV _ t) T);exact QE.2.mp (t3 i (rH T) (rG h2))
 let T3:∀ i j,b<=i->i<o+n->o+n+t<=j->j<o+n+m->Kk a i<=Kk a j:=λi j v y F I=>by
  refine wF (H i (o+n-1) v ∅ ∅) ?_
  rw[kp];exact t3 j F I
 refine Ws (λF=>jN (x λi j v y I c4=>T3 i j v y ∅ c4)) λF=>?_
 let zx:(a.extract o (o+n)).size=n:=by rw[Array.size_extract,uR ∅];exact uH ..
 let zy:(a.extract (o+n) (o+n+t)).size=t:=by rw[Array.size_extract,uR ∅];exact uH ..
 let U:∀{o n:Nat},Wp (a.extract o (o+n)):=λp J=>N p (by rw[Nl] at J;exact vC (rA J))
 let X:=H.ext (o:=o) (n:=n) ∅ (zY _) zx
 let Y:=D.ext (o:=o+n) (n:=t) (zY _) ∅ zy
 let f0:∀ i,i<(a.extract o (o+n)).size->Kk (a.extract (o+n) (o+n+t)) 0<=Kk (a.extract o (o+n)) i:=λi c=>by
  rw[zx] at c;rw[NQ ∅,NQ c,Nat.add_zero,kq]
  refine wF (wG (k3.resolve_right ∅)) (H o (o+i) ∅ ∅ ∅)
 let R:∀ j,j<(a.extract (o+n) (o+n+t)).size->Kk (a.extract (o+n) (o+n+t)) j<=Kk (a.extract o (o+n)) ((a.extract o (o+n)).size-1):=λj c=>by
  rw[zy] at c;rw[NQ c,zx,NQ ∅,<-Nat.add_sub_assoc ∅,kp]
  exact wF (D (o+n+j) (o+n+(t-1)) ∅ ∅ ∅) (wG (t2.resolve_left F))
 let L:∀ r e,Sm B e->WO ((a.extract o (o+n)).toList++(a.extract (o+n) (o+n+t)).toList) r->Q (failedOf (jU e (wr (jO e) o r.toList))).isNone (jU e (wr (jO e) o r.toList)):=λr e C gd=>by
  let⟨S,g2⟩:=gd;let el:(a.extract o (o+n)).toList++(a.extract (o+n) (o+n+t)).toList=(a.toList.drop o).take (n+t):=by
   rw[Nl,Nl,sP,vU]
  rw[el] at S;let⟨w1,w2,w3⟩:=Aa (xs:=a) (o:=o) (n:=n+t) ∅ S
  let ez:jO e=a:=C.arr.trans ea;rw[ez];let zr:r.size=n+t:=by
   rw[<-yE,S.length_eq,yP,yD,yE]
   lia
  let sr:=Bu g2;rw[zr] at sr;let P:failedOf (jU e (wr a o r.toList))=none:=C.failed.trans l.failed;rw[P];refine h _ ⟨w1.trans J,C.kind.trans l.kind,P,C.pend.trans l.pend⟩ (λj hj=>w2 j ∅) (AS.seg ?_)
  rw[<-vL,<-vL,ho];rw[<-vL] at w2;refine AS.put (ys:=wr a o r.toList) H D ∅ (wV _ t) (wV _ n) ∅ O T3 w2 (λi j v y F=>?_) λj v y=>?_
  ·let⟨i,rfl⟩:=vZ v;let⟨j,rfl⟩:=vZ (zN v y);rw[w3 i ∅,w3 j ∅]
   exact sr _ _ (rH y) ∅
  ·let⟨i,rfl⟩:=vZ v;rw[w3 i ∅]
   let hm:r.toList[i]'(by rw[yE];lia)∈(a.toList.drop o).take (n+t):=S.mem_iff.mp (xL _)
   let⟨u,u1,u2,_,u3⟩:=OS hm;exists u,u1,by lia
   rw[<-u3];exact NX (by rw[<-yN];exact zV _)
 refine Vc (λI=>?_) λI=>?_
 ·exact jM (ZGp l.kind U U ∅ ∅ X Y f0 R (N3 X) (N3 Y) λr e C gd=>jM (wpS_modify (jM (wpS_get (jN (L r e C gd))))))
 ·exact jM (BK l.kind U U ∅ ∅ X Y f0 R (N3 X) (N3 Y) λr e C gd=>jM (wpS_modify (jM (wpS_get (jN (L r e C gd))))))
end
abbrev Rs:=List (Nat×Nat×Nat)
def Rn(b:jm):Rs->Nat->Nat->Prop
 | [],a,c=>a=c
 | r::l,a,c=>r.1=a/\1<=r.2.1/\Xb b r.1 r.2.1/\Rn b l (r.1+r.2.1) c
theorem Rn.le{b:jm}:∀{l:Rs}{a c:Nat},Rn b l a c->a+l.length<=c
 | [],a,c,h=>by cases h;simp
 | r::l,a,c,⟨h1,h2,_,h4⟩=>by
  have:=h4.le;simp only[zO]
  lia
theorem Rn.app{f:jm}:∀{l m:Rs}{a c:Nat},Rn f (l++m) a c ↔ ∃ b,Rn f l a b/\Rn f m b c
 | [],m,a,c=>⟨λh=>⟨a,Z,h⟩,λ⟨b,d,e⟩=>by cases d;exact e⟩
 | r::l,m,a,c=>by
  show (r.1=a/\1<=r.2.1/\Xb f r.1 r.2.1/\Rn f (l++m) (r.1+r.2.1) c) ↔ _;rw[Rn.app];exact⟨λ⟨d,e,g,b,i,j⟩=>⟨b,⟨d,e,g,i⟩,j⟩,λ⟨b,⟨d,e,g,i⟩,j⟩=>⟨d,e,g,b,i,j⟩⟩
def Xb.frame{a b:jm}{o n:Nat}(h:Xb a o n)(e:∀ j,o<=j->j<o+n->Kk b j=Kk a j):Xb b o n:=λi j c d=>by
 rw[e _ ∅ ∅,e _ ∅ ∅]
 exact h i j c d
theorem Rn.frame{d f:jm}:∀{l:Rs}{a c:Nat},Rn d l a c->(∀ j,a<=j->j<c->Kk f j=Kk d j)->Rn f l a c
 | [],a,c,h,_=>h
 | r::l,a,c,⟨h1,h2,h3,h4⟩,e=>by
  have:=h4.le;exact⟨h1,h2,h3.frame λj g b=>e j ∅ ∅,h4.frame λj g b=>e j ∅ b⟩
theorem Rn.mod{d:jm}{f:Nat×Nat×Nat->Nat×Nat×Nat}(b:∀ r,(f r).1=r.1/\(f r).2.1=r.2.1):∀{l:Rs}{i a c:Nat},Rn d l a c->Rn d (l.modify i f) a c
 | [],i,a,c,h=>by simpa using h
 | r::l,0,a,c,⟨h1,h2,h3,h4⟩=>by
  rw[List.modify_zero_cons];exact⟨(b r).1.trans h1,by rw[(b r).2];exact h2,by rw[(b r).1,(b r).2];exact h3,by rw[(b r).1,(b r).2];exact h4⟩
 | r::l,i+1,a,c,⟨h1,h2,h3,h4⟩=>by
  rw[List.modify_succ_cons];exact⟨h1,h2,h3,h4.mod b⟩
structure RS(a₀:jm)(lo:Nat)(st:jP):Prop where
 tb:TB a₀ (jQ st) st
 rn:Rn (jO st) (jQ st).toList 0 lo
 le:lo<=a₀.size
section
variable[KoOk prog w A s]{a₀:jm}
theorem Cu{d:jP}{i g:Nat}{Q:Bool->jP->Prop}(K:Wp a₀)(r:RS a₀ g d)(L:i+1<(jQ d).size)(h:∀ a,RS a₀ g a->(jQ a).size+1=(jQ d).size->(∀ j,g<=j->Kk (jO a) j=Kk (jO d) j)->Q true a):wpS (aB prog w) A E s (mergeAt' i) Q d:=by
 let M:(jQ d).toList.length=(jQ d).size:=yE;generalize x:jQ d=p at L M h;let e:p.toList=p.toList.take i++p.toList[i]'∅::p.toList[i+1]'∅::p.toList.drop (i+2):=by
  rw[pV,pV,xQ]
 let H:Rn (jO d) p.toList 0 g:=by rw[<-x];exact r.rn
 let t:p[i]? = some (p.toList[i]'∅):=by rw[<-yN];exact zV _
 let u:p[i+1]? = some (p.toList[i+1]'∅):=by rw[<-yN];exact zV _
 generalize p.toList[i]'∅=U at e t
 generalize p.toList[i+1]'∅=V at e u
 let y:(p.toList.take i).length=i:=by rw[yP];lia
 generalize p.toList.take i=P at e y;generalize p.toList.drop (i+2)=R at e;rw[e] at H;let⟨b,O,S⟩:=Rn.app.mp H;let⟨q,k,o⟩:=U;let⟨sb,l,T⟩:=V;let⟨z,B,C,D,F,G,n⟩:=S;dsimp only at z B C D F G n;subst D;let l7:=n.le;let N:=r.le;let I:=r.tb;rw[x] at I;refine ZGZ K I t u B F ∅ C G λa f m W=>?_
 let J:((p.setIfInBounds i (q,k+l,o)).eraseIdxIfInBounds (i+1)).toList=P++(q,k+l,o)::R:=by
  rw[pZ,qI,e,<-y];simp[List.eraseIdx_append_of_length_le]
 let v:(jQ a).toList=P++(q,k+l,o)::R:=by rw[f.pend];exact J
 refine h a ⟨?_,?_,r.le⟩ ?_ λj c=>m j (.inr ∅)
 ·rw[f.pend];exact f
 ·rw[v];refine Rn.app.mpr ⟨b,O.frame λj _ c=>m j (.inl ∅),z,(by show 1<=k+l;lia),W,?_⟩
  dsimp only;rw[<-vL];exact n.frame λj c _=>m j (.inr c)
 ·let X:=congrArg wO v;let Y:=congrArg wO e;simp at X Y
  lia
theorem ZOy{c:Prop}{_:Decidable c}{n:Nat}(h:2<=n):(if c then n-2-1 else n-2)+1<n:=by split <;> lia
theorem ZPU{n:Nat}(h:n > 1):n-2+1<n:=∅
def ZRX{f b:Type}{c:b->Prop}{_:∀ n,Decidable (c n)}{x J:b->StateT jP Sem f}{Q:f->jP->Prop}{a:jP}{d:b->Prop}(P:b->jP->Prop)(k:∀ n a,P n a->wpS (aB prog w) A E s (J n) Q a)(g:∀ n,¬c n->d n->P n a)(i:∀ n,c n->(∀ n a,P n a->wpS (aB prog w) A E s (J n) Q a)->d n->wpS (aB prog w) A E s (x n) Q a)(n:b)(e:d n):wpS (aB prog w) A E s (if c n then x n else J n) Q a:=by
 refine Vc (λh=>?_) λh=>?_
 ·exact i n h k e
 ·exact k n a (g n h e)
def RS.push{b:jP}{a n:Nat}(r:RS a₀ a b)(h:Xb (jO b) a n)(d:1<=n)(c:a+n<=a₀.size):RS a₀ (a+n) (setPending b ((jQ b).push (a,n,0))):=by
 refine⟨⟨r.tb.perm,r.tb.kind,r.tb.failed,Z⟩,?_,c⟩;show Rn (jO b) ((jQ b).push (a,n,0)).toList 0 (a+n);rw[uX];exact Rn.app.mpr ⟨a,r.rn,Z,d,h,Z⟩
def RS.mod{a:jP}{b i:Nat}{f:Nat×Nat×Nat->Nat×Nat×Nat}(r:RS a₀ b a)(c:∀ r,(f r).1=r.1/\(f r).2.1=r.2.1):RS a₀ b (setPending a ((jQ a).modify i f)):=by
 refine⟨⟨r.tb.perm,r.tb.kind,r.tb.failed,Z⟩,?_,r.le⟩;show Rn (jO a) ((jQ a).modify i f).toList 0 b;rw[Array.toList_modify];exact r.rn.mod c
theorem ZNW{st:jP}{Q:Unit->jP->Prop}(C:Wp a₀)(v:TB a₀ #[] st)(h1:1<=a₀.size)(h:∀ z,(jO z).Perm a₀->failedOf z=none->PL (jO z) a₀.size->Q () z):wpS (aB prog w) A E s sortRuns' Q st:=by
 let⟨kd,X,T,gl,Y⟩:=st;let hz:X.size=a₀.size:=v.perm.size_eq;let r0:RS a₀ 0 (SortSt.mk' kd X T gl Y):=⟨⟨v.perm,v.kind,v.failed,Z⟩,by
  have:T=#[]:=v.pend;subst this;exact Z,zD _⟩
 refine jM (wpS_get ?_);dsimp only;rw[hz];generalize hm:minRun' a₀.size a₀.size 0=mr;refine jM (jS (jR (I:=λx c a=>∃ b,c=(none,b)/\RS a₀ b a/\x<=b) (Q:=λc a=>∃ b,c=(none,b)/\RS a₀ a₀.size a) ?step ?fin ⟨0,rfl,r0,zY _⟩) ?post)
 case fin=>
  rintro c a ⟨b,rfl,r,x⟩;have:=r.le;let e:b=a₀.size:=∅
  subst e;exact⟨_,Z,r⟩
 case post=>
  rintro c a ⟨b,rfl,r⟩;dsimp only;refine jM (jS (jR (I:=λx c a=>c=(none,())/\RS a₀ a₀.size a/\((jQ a).size<=1\/(jQ a).size+x<=a₀.size)) (Q:=λc a=>c=(none,())/\RS a₀ a₀.size a/\(jQ a).size<=1) ?_ ?_ ⟨rfl,r,.inr ?_⟩) ?_)
  ·rintro x c d _ hx ⟨rfl,g,z⟩;refine jM (wpS_get ?_);refine Vc (λc=>?_) λc=>?_
   ·exact jN ⟨Z,g,c⟩
   refine jM (Cu C g (ZOy (Nat.not_le.mp c)) λO D e3 _=>?_);rw[aO (by simp)]
   exact jN ⟨Z,D,.inr ∅⟩
  ·rintro c d ⟨rfl,g,z⟩;exists Z,g
   lia
  ·have:=r.rn.le;rw[yE] at this
   lia
  ·rintro c d ⟨rfl,g,z⟩;dsimp only;refine jN (h d g.tb.perm g.tb.failed ?_);let F:=g.rn;rw[<-yE] at z;generalize (jQ d).toList=l at F z
   match l,F,z with
   | [],F,_=>exact absurd F (by show ¬0=a₀.size;lia)
   | [q],⟨q1,q2,q3,U⟩,_=>
    let U:q.1+q.2.1=a₀.size:=U;intro i j G c2;have:=q3 i j G ∅
    rw[q1,tX,tX] at this;exact this
 case step=>
  rintro x c a _ hx ⟨b,rfl,r,xl⟩;dsimp only;refine Vc (λG=>?_) λG=>?_
  ·have:=r.le;let e:b=a₀.size:=∅
   subst e;exact jN ⟨_,Z,r⟩
  refine jM (ZIG C ∅ ∅ r.tb λm d p J M N B=>?_)
  dsimp only;let g:RS a₀ b d:=⟨by rw[p.pend];exact p,by rw[p.pend];exact r.rn.frame λj _ c=>J j c,r.le⟩
  let H:1<=m/\m<=a₀.size-b/\Xb (jO d) b m:=⟨M,N,B⟩;clear M N B
  revert H
  revert m
  refine ZRX (λn st=>RS a₀ b st/\Xb (jO st) b n/\1<=n/\b+n<=a₀.size) (λn O H=>?_) (λm _ H=>⟨g,H.2.2,H.1,∅⟩) (λm cm L H=>?_)
  ·let⟨D,W,S,R⟩:=H;refine jM (wpS_get ?_);split
   ·rename_i V P pw _
    refine jM (jS (jR (I:=λ_ c st=>c=(none,())/\RS a₀ b st/\Xb (jO st) b n) (Q:=λc st=>c=(none,())/\RS a₀ b st/\Xb (jO st) b n) ?_ (λ_ _ h=>h) ⟨rfl,D,W⟩) ?_)
    ·rintro y c k _ _ ⟨rfl,u,o⟩;refine jM (wpS_get ?_);by_cases c:(jQ k).size > 1
     ·rw[aP c];split
      ·split
       ·exact jN ⟨Z,u,o⟩
       ·refine jM (Cu C u (ZPU c) λa0 r5 _ k5=>?_);rw[aO (by simp)]
        exact jN ⟨Z,r5,o.frame λj c _=>k5 j c⟩
      ·exact jN ⟨Z,u,o⟩
     ·rw[aO c];exact jN ⟨Z,u,o⟩
    ·rintro c k ⟨rfl,u,o⟩;dsimp only;exact jM (wpS_modify (jM (wpS_modify (jN ⟨_,rfl,(u.mod (i:=(jQ k).size-1) (f:=λx=>(x.1,x.2.1,power' a₀.size (2 * V+P) (2 * V+P+P+n) a₀.size)) λ_=>⟨Z,Z⟩).push o S R,∅⟩))))
   ·exact jM (wpS_modify (jN ⟨_,rfl,D.push W S R,∅⟩))
  ·let⟨M,N,m3⟩:=H;refine NG ?_;refine jM (ZL1 C ∅ ∅ g.tb m3 λk t K o=>?_)
   rw[aO (by simp)]
   exact L _ k ⟨⟨by rw[t.pend];exact t,by rw[t.pend];exact g.rn.frame λj _ c=>K j c,g.le⟩,o,∅,∅⟩
end
end
end L2
namespace Tw
open PySem PySem.Spec L2 PyProof.Rows
structure Kg(g:KT->KT):Prop where
 plt:∀ t u,(g t).plt (g u)=t.lt u
 cmp:∀ t u,(g t).cmp (g u)=true
 shape:∃ n:Nat,∀ t,∃(k:Int)(r:jk),g t=.tup (.int k::r)/\r.length=n
def Q1(g:KT->KT)(h:aE)(t:KT)(v:aj):Prop:=ZG h (g t) v
section
variable{g:KT->KT}
theorem FB:∀{l m:jk}{f d:je}{i:Nat}{Q:Bool->al->Prop},l.length=m.length->jW s.heap l f->jW s.heap m d->cmpL l m=true->A.units+jY l<cLine->Q (pltL l m) s->PySem.W.KatLex prog w A true false Q (f.zip d) (i+1) s
 | [],m,f,d,i,Q,c,x,y,_,_,h=>by
  rw[jW] at x;subst x
  cases m with
  | nil=>rw[pltL] at h;exact PySem.W.kat_nil h
  | cons _ _=>simp at c
 | a::l,m,f,d,i,Q,c,x,y,hc,hu,h=>by
  cases m with
  | nil=>simp at c
  | cons b m=>
   rw[jW] at x y;let⟨v,r,rfl,k,o⟩:=x;let⟨j,q,rfl,n,p⟩:=y;rw[jY] at hu;rw[pltL] at h;rw[cmpL] at hc;refine PySem.W.kat_cons (Pr a.depth a b A v j (zY _) k n ∅ prog w _ _ ?_)
   refine PySem.W.kat_go (λe=>PySem.W.kat_yes ?_) (λe=>PySem.W.kat_no ?_)
   ·rw[e,aP rfl] at h hc;exact FB (by simpa using c) o p hc ∅ h
   ·rw[e,aO zW] at h hc;exact PySem.W.kat_one v j (FK a.depth a b A v j (zY _) k n hc ∅ prog w _ _ h)
theorem ZRA(z:Kg g){t u:KT}{x y:aj}{Q:Bool->al->Prop}(l:Q1 g s.heap t x)(o:Q1 g s.heap u y)(G:A.units+(g t).depth<cLine)(h:Q (t.lt u) s):aC (aB prog w) A (keyLt' (tuples' true) x y) Q E s:=by
 let⟨n,M⟩:=z.shape;let⟨k,r,S,la⟩:=M t;let⟨m,q,T,lc⟩:=M u;let b:=z.plt t u;let d:=z.cmp t u;unfold Q1 at l o;rw[S] at b d l G;rw[T] at b d o;rw[ZG] at l o;let⟨a,Y,rfl,⟨⟨cl,dd,O,sl⟩,X,U,n1,V⟩,i⟩:=l;let⟨c,H,rfl,⟨⟨N,R,P,a0⟩,B,F,n2,v⟩,j⟩:=o;let l1:=i.length;let l2:=j.length;rw[jW] at i j;let⟨v1,K,rfl,I,i⟩:=i;let⟨v2,L,rfl,J,j⟩:=j;rw[ZG] at I J;let⟨C,rfl⟩:=I;let⟨D,rfl⟩:=J;rw[KT.plt,pltL] at b;rw[KT.cmp,cmpL] at d;rw[KT.depth,jY] at G;refine PySem.W.kat_lt X V B v ?_;let f:decide ((Value.int k C::K).toArray.size<(Value.int m D::L).toArray.size)=false:=by
  simp only[zO] at l1 l2;simp only[zL,zO,decide_eq_false_iff_not]
  lia
 rw[f];show PySem.W.KatLex prog w A true false Q ((.int k C,.int m D)::K.zip L) 0 s;refine PySem.W.kat_cons (SeqAt.EqAt.int_int k C m D prog w _ _ ?_);refine PySem.W.kat_go (λe=>PySem.W.kat_yes ?_) (λe=>PySem.W.kat_no ?_)
 ·let p:(KT.int k).eqb (KT.int m)=true:=by rw[KT.eqb];exact e
  rw[p,aP rfl] at b d;refine FB (by rw[la,lc]) i j d ∅ ?_
  rw[b];exact h
 ·let p:(KT.int k).eqb (KT.int m)=false:=by rw[KT.eqb];exact e
  rw[p,aO zW,KT.plt] at b;refine oneLt_int ?_;rw[b];exact h
end
def Yz(g:KT->KT)(h:aE):jk->je->Prop
 | [],[]=>True
 | t::ts,v::vs=>Q1 g h t v/\Yz g h ts vs
 | _,_=>False
theorem Yz.len{g:KT->KT}{h:aE}:∀{a:jk}{b:je},Yz g h a b->a.length=b.length
 | [],[],_=>rfl
 | _::_,_::_,x=>congrArg (· + 1) x.2.len
 | [],_::_,x=>x.elim
 | _::_,[],x=>x.elim
theorem Yz.get{g:KT->KT}{h:aE}:∀{c:jk}{b:je},Yz g h c b->∀ i,i<b.length->Q1 g h (c.getD i (.int 0)) (b.getD i Value.none)
 | _::_,_::_,x,0,_=>x.1
 | _::_,_::_,x,i+1,a=>x.2.get i (by simpa using a)
 | [],[],_,_,a=>absurd a (by simp)
 | [],_::_,x,_,_=>x.elim
 | _::_,[],x,_,_=>x.elim
theorem Yz.firsts{g:KT->KT}(i:Kg g){h:aE}:∀{m:jk}{d:je},Yz g h m d->∃ b,PySem.W.KatTups h d b/\b.length=d.length/\∀ v∈b,∃ k t,v=Value.int k t
 | [],[],_=>⟨[],.nil,Z,λv c=>absurd c (by simp)⟩
 | t::m,v::d,x=>by
  let⟨b,q,s,u⟩:=Yz.firsts i x.2;let⟨_,B⟩:=i.shape;let⟨k,r,p,_⟩:=B t;let f:=x.1;unfold Q1 at f;rw[p,ZG] at f;let⟨a,A,rfl,⟨o,z,w,n,y⟩,e⟩:=f;rw[jW] at e;let⟨D,C,rfl,j,e⟩:=e;rw[ZG] at j;let⟨l,rfl⟩:=j;exists .int k l::b,.cons z w y Z q,by simp[s]
  intro v c;rcases zQ.mp c with rfl | c
  ·exact⟨k,l,Z⟩
  ·exact u v c
 | [],_::_,x=>x.elim
 | _::_,[],x=>x.elim
section
variable{g:KT->KT}
def ZOx(d:Kg g){i:jk}{a:je}{Q:PyProof.Rows.SortKind->al->Prop}(m:0<a.length)(h:Yz g s.heap i a)(e:Q (tuples' true) s):aC (aB prog w) A (keyKind' a.toArray) Q E s:=by
 let⟨j,b,l,c⟩:=h.firsts d;refine PySem.W.kat_kind (T:=.type "int") b ∅ (λv f=>?_) (by decide) e
 let⟨k,t,rfl⟩:=c v f;exact tU.of_pure Z
end
def rk(a:jk)(t:KT):Int:=((a.countP λu=>u.lt t:Nat):Int)
theorem D8{c:jk}{t u:KT}(d:t∈c):decide (rk c t<rk c u)=t.lt u:=by
 unfold rk
 cases h:t.lt u with
 | true=>
  let⟨a,b,rfl⟩:=List.append_of_mem d;let m (l:jk):=pX (l:=l) (p:=λx=>x.lt t) (q:=λx=>x.lt u) λx _ z=>lt_trans' x t u z h;have:=m a;have:=m b;rw[List.countP_append,List.countP_append,List.countP_cons_of_neg (by rw[VG];decide),List.countP_cons_of_pos (p:=λx:KT=>x.lt u) h]
  exact aM ∅
 | false=>
  have:=pX (l:=c) (p:=λx=>x.lt u) (q:=λx=>x.lt t) λx _ z=>by
   cases e:x.lt t with
   | true=>rfl
   | false=>rw[le_trans' h e] at z;cases z
  exact aK ∅
open Classical in
noncomputable abbrev kG(g:KT->KT)(a:jk)(h:aE):Ko:=⟨tuples' true,λp=>if z:∃ t∈a,Q1 g h t p.1 then rk a z.choose else 0,λp=>∃ t∈a,Q1 g h t p.1⟩
def LH{g:KT->KT}(b:Kg g){a:jk}{h:aE}{t:KT}{p:jT}(d:t∈a)(c:Q1 g h t p.1):(kG g a h).k1 p=rk a t:=by
 let z:∃ t∈a,Q1 g h t p.1:=⟨t,d,c⟩;refine(dif_pos z).trans ?_;let e:g z.choose=g t:=Yx.mp (ZG.inj _ _ _ z.choose_spec.2 c);let f:(λu:KT=>u.lt z.choose)=λu=>u.lt t:=by
  funext u
  rw[<-b.plt,<-b.plt,e]
 unfold rk;rw[f]
def ZLF{d g:Type}{f:d->g}{l m:List g}(h:l.Perm m):∀ k:List d,m=k.map f->∃ p:List d,p.Perm k/\l=p.map f:=by
 induction h with
 | nil=>exact λk e=>⟨k,.refl _,e⟩
 | cons x _ r=>
  intro k e
  cases k with
  | nil=>cases e
  | cons a k=>
   cases e;let⟨p,c,rfl⟩:=r k Z;exact⟨a::p,c.cons a,Z⟩
 | swap x y l=>
  intro k e
  match k,e with
  | a::b::k,e=>
   cases e;exact⟨b::a::k,.swap _ _ _,Z⟩
 | trans _ _ o q=>
  intro k e;let⟨p,c,i⟩:=q k e;let⟨s,j,n⟩:=o p i;exact⟨s,j.trans c,n⟩
section
variable{g:KT->KT}
theorem Ad(x:Kg g){d:jk}{o f:je}{Q:jP->al->Prop}(K:o.length=f.length)(R:2<=f.length)(h:Yz g s.heap d o)(U:∀ t∈d,A.units+(g t).depth<cLine)(L:∀ (p:jl) (l:jP),p.Perm (yL f.length)->(p.map λi=>d.getD i (.int 0)).Pairwise (λa b=>b.lt a=false)->jO l=p.toArray.map (uM (o.toArray.zip f.toArray))->failedOf l=none->Q l s):
  aC (aB prog w) A ((sortRuns').run (SortSt.mk' (tuples' true) (o.toArray.zip f.toArray) #[] 7 none)) (λr y=>Q r.2 y) E s:=by
 let S:=h.len;let V:@KoOk (kG g d s.heap) prog w A s:=@KoOk.mk (kG g d s.heap) _ _ _ _ fun{E p q Q} ⟨t,G,a⟩ ⟨u,H,b⟩ z=>by
  let z:Q (decide ((kG g d s.heap).k1 p<(kG g d s.heap).k1 q)) s:=z;rw[LH x G a,LH x H b,D8 G] at z;exact ZRA x a b (U t G) z
 let j (i:Nat) (m:i<f.length):d.getD i (.int 0)∈d:=by
  rw[zU,zV ∅]
  exact xL _
 let M (i:Nat):=PySem.W.kat_item K i;let O:(o.toArray.zip f.toArray).size=f.length:=by simp[K]
 generalize o.toArray.zip f.toArray=k at L M O⊢;let J:k.toList=(yL f.length).map (uM k):=by
  apply List.ext_getElem
  ·simp[O]
  ·intro i P R;simp[uM,Array.getD,show i<k.size by simpa using P]
 let F (i:Nat) (m:i<f.length):Q1 g s.heap (d.getD i (.int 0)) (uM k i).1:=by
  rw[M];exact h.get i ∅
 refine af (ZNW (κ:=kG g d s.heap) (a₀:=k) (st:=SortSt.mk' (tuples' true) k #[] 7 none) (Q:=λ_ z=>(jO z).Perm k/\failedOf z=none /\ @PL (kG g d s.heap) (jO z) k.size) (λp n=>?_) (@TB.mk (kG g d s.heap) _ _ _ (.refl _) rfl rfl rfl) ∅ λz C I D=>⟨C,I,D⟩) (λr y T=>?_) λ_ _ z=>z
 ·rw[J] at n;let⟨i,m,rfl⟩:=zR.mp n;let m:=xN.mp m;exact⟨_,j i m,F i m⟩
 ·let⟨rfl,C,I,D⟩:=T;let⟨p,n,e⟩:=ZLF (rE.mp C) _ J;rw[<-C.size_eq] at D;let N:=N3 (κ:=kG g d y.heap) D;rw[e,tM] at N;refine L p _ n (tM.mpr (N.imp_of_mem fun{a b} B v c=>?_)) (tP.mp (by rw[e];simp)) I
  let B:=xN.mp (n.mem_iff.mp B);let v:=xN.mp (n.mem_iff.mp v);let c:(kG g d y.heap).k1 _<=(kG g d y.heap).k1 _:=c;rw[LH x (j a B) (F a B),LH x (j b v) (F b v)] at c;rw[<-D8 (j b v)];exact aK ∅
end
inductive Pm(g:KT->KT)(c:jf)(H:Hp)(Q:VK)(_:XK):Prop
 |mk(v:V)(t:KT)(_:c=[v])(_:ZC H t v)(_:t.fits 3=true)(_:∀(b:V)(a:Hp),ZC a (g t) b->ZE H a->Q b a)
theorem CU{g:KT->KT}{X:Cx}{b:jq}{k:L2.St}{H:Hp}{s:al}(I:ZF X b k H s):∀{d:jk}{a:jf}{c:je},jV H (d.map g) a->ZP a c->Yz g s.heap d c
 | [],a,c,h,r=>by
  rw[uV,jV] at h;subst h;cases r;trivial
 | t::d,a,c,h,r=>by
  rw[yW,jV] at h;let⟨v,l,rfl,e,f⟩:=h
  cases r with
  | cons i j=>exact⟨Vd I _ _ _ e i,CU I f j⟩
section
variable{kg:jq}{σ:L2.St}
def EY{H:Hp}{s:al}{b:ak}(I:ZF X kg σ H s)(h:s.heap.objs.size<=b):b∉frs X.stack:=λz=>by
 let⟨_,o,e,_⟩:=I.stack.mem z;exact absurd (zG e) (Nat.not_lt.mpr h)
theorem EC{g:KT->KT}{S:Hp->KT->V->Prop}{sp:Sp}{x0:Str}{k:Nat}{f D kS:ak}{fd:ao}{oD:aI}{H0:Hp}{A:ay}{E:ja}{p:aj->PUnit->Sem (ForInStep PUnit)}{all:jk}(hI:∀ (H c:Hp) (t:KT) (u:V),ZE H c->S H t u->S c t u)(hS:∀ (H:Hp) (u:V) (t:KT) (Q:VK),ZE H0 H->S H t u->(∀ (P:V) (c:Hp),ZC c (g t) P->ZE H c->Q P c)->sp [u] H Q E0)(F:ZI X.prog X.w X.K X.mg X.base ZO k f fd [x0] sp)(hb:Zq X.K fd [x0] [])(hr:ZS k A)(hA:A.frames=X.A.frames)(nD:D∉frs X.stack)(nS:kS∉frs X.stack)(Y:D≠kS)(a3:H0 D=none)(v:∀ x (s:al) (R:al->Prop),aC (aB X.prog X.w) A (call (.ref f) [x]) (λkv h=>∃ (l:je) (e:Nat),l.length<1000/\h.heap.get? kS=some (seqObj "list" l.toArray e)/\R { h with heap:=h.heap.update kS (Obj.mapSeq (·.push kv)) }) (λ_ _=>False) s ->
   aC (aB X.prog X.w) A (p x ⟨⟩) (λr h=>r=.yield ⟨⟩/\R h) E s):
  ∀(r:je)(rU:jf)(O B:jk)(H:Hp)(s:al)(l:je)(m:jf)(e:Nat),all=B++O->all.length<1000->ZF X kg σ H s->ZE H0 H->VW X kg H kS->H D=none->ZP rU r->Paired (S H) O rU ->
   s.heap.get? D=some oD->s.heap.get? kS=some (seqObj "list" l.toArray e)->jV H (B.map g) m->ZP m l ->
   aC (aB X.prog X.w) A (forIn r PUnit.unit p) (λ_ h=>∃(c:Hp)(j:je)(d:jf)(U:Nat),ZF X kg σ c h/\ZE H0 c/\VW X kg c kS/\c D=none/\h.heap.get? D=some oD/\h.heap.get? kS=some (seqObj "list" j.toArray U)/\jV c (all.map g) d/\ZP d j) E s
 | [],rU,O,B,H,s,l,m,e,ha,hl,I,s0,W,hD,r,hk,oo,os,y,rk=>by
  cases r;cases hk;rw[yQ] at ha;subst ha;rw[List.forIn_nil];exact ae ⟨H,l,m,e,I,s0,W,hD,oo,os,y,rk⟩
 | x::r,rU,O,B,H,s,l,m,e,ha,hl,I,s0,W,hD,rr,hk,oo,os,y,rk=>by
  cases rr with
  | cons ra rb=>
  rename_i u ur
  cases hk with
  | cons a6 a7=>
  rename_i t O
  rw[sM];let c4:l.length=B.length:=by
   let a:=y.length;let b:=rk.length;rw[zX] at a
   lia
  let a8:B.length+(O.length+1)<1000:=by rw[ha,zS,zO] at hl;lia
  refine aa (Z2 (v x s (λh=>∃(c:Hp)(j:je)(d:jf)(U:Nat),ZF X kg σ c h/\ZE H0 c/\ZE H c/\VW X kg c kS/\c D=none/\h.heap.get? D=some oD/\h.heap.get? kS=some (seqObj "list" j.toArray U)/\jV c ((B++[t]).map g) d/\ZP d j) ?_) λq h L=>?_)
  ·let a2:Vj X.prog X.w X.K X.mg X.base A X.stack s H:=⟨by rw[hA];exact I.ok.frames,I.env0.mod,I.env0.bs,I.env0.bsz,I.env0.funs,I.env0.frf,I.env0.hok,I.env0.bare⟩
   let c0:sp [u] H (λP c=>ZC c (g t) P/\ZE H c) E0:=hS H u t _ s0 a6 λP c a b=>⟨a,b⟩;let r2:ZP [u] [x]:=.cons ra .nil;refine wpAny_call (codeAny_mono (F.run A X.stack s H ⟨[x],[]⟩ [x] [u] _ E0 hr a2 (hb s [x] I.kIn rfl) r2 c0) λrr h L=>?_)
   cases rr with
   | error ev=>exact L.elim
   | ok fl=>
    cases fl with
    | next=>exact False.elim L
    | brk=>exact False.elim L
    | cont=>exact False.elim L
    | ret kv=>
     let⟨P,c,N,T,un,a9,rv,kt,sm⟩:=L;let J:ZF X kg σ c h:=I.call' N un a9 T (λb hb=>absurd hb (by simp))
     let M:=un.keep D oD oo hD nD (by simp)
     let a1:=un.keep kS _ os W.1 nS (by simp)
     let a4:c kS=none:=un.free kS _ os W.1 (by simp)
     let C:c D=none:=un.free D _ oo hD (by simp)
     exists l,e,∅,a1
     let i:VW X kg c kS:=⟨a4,W.2⟩;let ea:(wW l).push kv=wW (l++[kv]):=by simp
     obtain⟨c2,a5⟩:∃ c2,(h.heap.update kS (Obj.mapSeq (·.push kv))).get? kS=some (seqObj "list" (wW (l++[kv])) c2):=⟨_,by rw[<-ea];exact get?_update_seq a1 (·.push kv)⟩
     let sb:=xR.update h.heap kS (Obj.mapSeq (·.push kv));let J2:ZF X kg σ c { h with heap:=h.heap.update kS (Obj.mapSeq (·.push kv)) }:=J.turned (t':=h.toks) (it:=kS) (λb o n q=>(sb.2 b n).trans q) i.1 i.2.1 i.2.2.2.1 i.2.2.2.2.1 i.2.2.2.2.2;refine⟨c,l++[kv],m++[P],c2,J2,s0.trans sm,sm,i,C,(sb.2 D Y).trans M,a5,?_,rk.append (.cons rv .nil)⟩;rw[zC];exact(y.sm sm).append (.cons kt .nil)
  ·let⟨rfl,c,j,d,U,J,c3,sm,i,C,M,N,a0,c1⟩:=L;show aC (aB X.prog X.w) A (forIn r PUnit.unit p) _ E h;exact EC hI hS F hb hr hA nD nS Y a3 v r _ O (B++[t]) c h j d U (by rw[ha];simp) hl J c3 i C rb (Paired.mapP (G:=S c) a7 λ_ _ z=>hI _ _ _ _ sm z) M N a0 c1
end
section
variable{kg:jq}{σ:L2.St}{H:Hp}
def ZPd{a:ak}{o:HO}(I:ZF X kg σ H s)(l:X.s₀.heap.get? a=none)(t:a≠X.env.locals)(m:∀ x c,X.env.cells.lookup x=some c->c≠a)(y:∀ p∈X.pn++kg,p.1≠a)(v:H a=none)(h:Zb X.prog X.w (upd H a o) s.heap a o):ZF X kg σ (upd H a o) s:=by
 let g:∀{b:ak}{u:HO},H b=some u->b≠a:=fun{b u} e z=>by rw[z,v] at e;cases e
 refine⟨I.ok,I.os,I.bare,⟨I.base.keep,I.base.slot,λb i q n A=>?_,I.base.there,λb k q=>?_,λb i u q=>?_,λb B q=>?_⟩,I.loc,I.cell,?_,λx c e=>?_,λp d=>?_,λb u e=>?_,I.len⟩
 ·rw[ZR (λz=>by rw[z,l] at q;cases q)];exact I.base.free b i q n A
 ·let e:=I.base.tups b k q;rw[ZR (g e)];exact e
 ·let e:=I.base.frzs b i u q;rw[ZR (g e)];exact e
 ·let⟨f,e⟩:=I.base.tbls b B q;exact⟨f,by rw[ZR (g e)];exact e⟩
 ·rw[ZR (Ne.symm t)];exact I.free
 ·rw[ZR (m x c e)];exact I.freeC x c e
 ·let⟨e,n,r⟩:=I.pin p d;exact⟨e,by rw[ZR (y p d)];exact n,r⟩
 ·by_cases j:b=a
  ·subst j;rw[ZV] at e;cases e;exact h
  ·rw[ZR j] at e;exact(I.hok b u e).stay (λ_ _ _ q=>q) (λc q=>by rw[ZR (g q)];exact q) λc k q=>by rw[ZR (g q)];exact q
def ZP.getD{b:jf}{a:je}(r:ZP b a){i:Nat}(h:i<b.length):ZN (b.getD i .non) (a.getD i Value.none):=by
 let e:=r.length;let⟨u,c,d⟩:=r.get (i:=i) (x:=b[i]) (by simp[h])
 rw[zU,zU,c,zV h];exact d
theorem Cv{b:jf}{a:je}(r:ZP b a):∀(l:jl),(∀ i∈l,i<b.length)->ZP (l.map λi=>b.getD i .non) (l.map λi=>a.getD i Value.none)
 | [],_=>.nil
 | i::l,h=>.cons (ZP.getD r (h i zM)) (Cv r l λj c=>h j (zK _ c))
theorem FJ{F:KT->V->Prop}{c:jk}{a:jf}(e:Paired F c a):∀(l:jl),(∀ i∈l,i<a.length)->Paired F (l.map λi=>c.getD i (.int 0)) (l.map λi=>a.getD i .non)
 | [],_=>.nil
 | i::l,h=>by
  let d:=h i zM;let⟨t,f,k⟩:=ON e (i:=i) (b:=a[i]) (by simp[d])
  refine .cons (show F (c.getD i (.int 0)) (a.getD i .non) from ?_) (FJ e l λj g=>h j (zK _ g));rw[zU,zU,f,zV d];exact k
def range_getD{a:Type}(l:List a)(d:a):(yL l.length).map (λi=>l.getD i d)=l:=by
 apply List.ext_getElem
 ·simp
 ·intro i c b;simp[b]
theorem ZFx{g:KT->KT}{IT:Hp->KT->V->Prop}{sp:Sp}(hg:Kg g)(dg:∀ t,(g t).depth<=2 * t.depth+2){x0:Str}{k:Nat}{f:ak}{lv:aj}{fd:ao}{us:jf}{y:jk}{Q:VK}(hr:ZS (k+2) X.A)(F:ZI X.prog X.w X.K X.mg X.base ZO k f fd [x0] sp)(hb:Zq X.K fd [x0] [])(I0:ZF X kg σ H s)(hI:∀ (H h:Hp) (t:KT) (u:V),ZE H h->IT H t u->IT h t u)(hS:∀ (h:Hp) (u:V) (t:KT) (Q:VK),ZE H h->IT h t u->(∀ (v':V) (H2:Hp),ZC H2 (g t) v'->ZE h H2->Q v' H2)->sp [u] h Q E0)(hk:Paired (IT H) y us)(hf:∀ t∈y,t.fits 3=true)(i1:us.length<1000)(c4:∀ (Q':je->al->Prop),(∀ (s1:al) (c:je),ZF X kg σ H s1->ZP us c->Q' c s1)->aC (aB X.prog X.w) X.A.in1 (collect lv) Q' X.xe s)(q:∀ (D:ak) (ws:jf) (rs:jk) (h:Hp),ZE H h->H D=none->h D=some (.lst ws)->Paired (IT h) rs ws->rs.Perm y->rs.Pairwise (λa b=>b.lt a=false)->Q (.ref D) h):
  aC (aB X.prog X.w) X.A (call (.builtin "sorted") [lv] [(yH "key",.ref f)]) (EP X kg σ Q) X.xe s:=by
 let i2:=Paired.length hk;let c8:ZS k X.A.in1.in1:=(ZS.in1 (k:=k+1) hr).in1;refine call_function_entry_kw kind_sorted plain_sorted entry_sorted (ksk_s1 _ _) ?_;unfold Builtin.«sorted»;refine aa (m:=checkCount "sorted" 1 1 _) (ae ?_);refine aa (c4 _ λs c I rv=>?_);let i0:=rv.length;refine aa (wpAny_newList ?_ (by rw[sizeLine_eq];lia))
 obtain⟨E,T⟩:∃ E,s.heap.push (seqObj "list" c.toArray 0)=E:=⟨_,Z⟩;let M:E.get? s.heap.objs.size=some (seqObj "list" c.toArray 0):=by rw[<-T];exact yO _ Z
 let c9:∀ b o,s.heap.get? b=some o->E.get? b=some o:=λb o z=>by rw[<-T];exact zB _ z
 let e8:E.objs.size=s.heap.objs.size+1:=by rw[<-T,size_push']
 obtain⟨D,eD⟩:∃ D,s.heap.objs.size=D:=⟨_,Z⟩;rw[eD] at M;let U:s.heap.objs.size<=D:=∅
 let Y:H D=none:=I.hok.fresh U;let C:VW X kg H D:=I.fpOk U Y;let nD:D∉frs X.stack:=EY I U;let e3:X.s₀.heap.get? D=none:=rB (zN I.sz U);let I1:ZF X kg σ H { s with heap:=E }:=I.kept (t':=s.toks) c9;show aC _ _ _ _ _ { s with heap:=s.heap.push (seqObj "list" c.toArray 0) };rw[T,eD];refine aa (ag (wpAny_call_entry_kw slot_list_sort ⟨_,M,rfl⟩ entry_list_sort ?body (ksk_l1 _ _)));rw[ksk_t1];unfold ksk_tree;refine aa (listItems_at M Z ?_);refine aa (listUpdate_at M Z ?_ (by rw[zL,sizeLine_eq];lia) (zD _))
 let e2:=xR.update E D (Obj.mapSeq λ_=>(#[]:js));obtain⟨e1,a9⟩:∃ e1,(E.update D (Obj.mapSeq λ_=>(#[]:js))).get? D=some (seqObj "list" #[] e1):=⟨_,get?_update_seq M λ_=>#[]⟩;obtain⟨B,a4⟩:∃ B,E.update D (Obj.mapSeq λ_=>(#[]:js))=B:=⟨_,Z⟩;rw[a4] at a9 e2;show aC _ _ _ _ _ { s with heap:=E.update D (Obj.mapSeq λ_=>(#[]:js)) };rw[a4];let I2:ZF X kg σ H { s with heap:=B }:=ZF.turned (s:={ s with heap:=E }) (t':=s.toks) (it:=D) I1 (λb o n z=>(e2.2 b n).trans z) C.1 C.2.1 C.2.2.2.1 C.2.2.2.2.1 C.2.2.2.2.2;refine aa (seqEpoch_at a9 Z ?_);refine aa (wpAny_newTuple ?_ (by show c.length<=_;rw[sizeLine_eq];lia))
 refine aa (wpAny_newList ?_ (zD _));refine ag ?_;let e9:B.objs.size=s.heap.objs.size+1:=by rw[<-a4,Heap.size_update,e8]
 obtain⟨h3,a5⟩:∃ h3,(B.push (seqObj "tuple" c.toArray 0)).push (seqObj "list" #[] 0)=h3:=⟨_,Z⟩;let a6:(B.push (seqObj "tuple" c.toArray 0)).objs.size=s.heap.objs.size+2:=by rw[size_push',e9]
 let N:∀ b o,B.get? b=some o->h3.get? b=some o:=λb o z=>by rw[<-a5];exact zB _ (zB _ z)
 let c5:h3.get? (s.heap.objs.size+2)=some (seqObj "list" (wW []) 0):=by rw[<-a5,<-a6];exact yO _ Z
 obtain⟨j,c1⟩:∃ j,s.heap.objs.size+2=j:=⟨_,Z⟩;rw[c1] at c5 a6;let a7:s.heap.objs.size<=j:=∅
 let c3:D≠j:=∅
 let e5:H j=none:=I.hok.fresh a7;let fS:VW X kg H j:=I.fpOk a7 e5;let nS:j∉frs X.stack:=EY I a7;let I3:ZF X kg σ H { s with heap:=h3 }:=I2.kept (t':=s.toks) N;show aC _ _ (ksk_rest D (.ref f) false c.toArray e1 (.ref (B.push (seqObj "tuple" c.toArray 0)).objs.size)) _ _ { s with heap:=(B.push (seqObj "tuple" c.toArray 0)).push (seqObj "list" #[] 0) };rw[a5,a6];let l:∀(h:Hp)(d:al)(O:je)(P:jf)(e:Nat),ZF X kg σ h d->ZE H h->VW X kg h j->h D=none->d.heap.get? D=some (seqObj "list" #[] e1)->d.heap.get? j=some (seqObj "list" O.toArray e)->jV h (y.map g) P->ZP P O ->
   aC (aB X.prog X.w) X.A.in1.in1 (ksk_end D false c.toArray e1 (.ref j) O.toArray) (λl d=>∃ v,l=.done (.ret v)/\aC (aB X.prog X.w) X.A.in1 (ret (.ref D)) (λl d=>∃ v,l=.done (.ret v)/\EP X kg σ Q v d) X.xe d) X.xe d:=by
  intro h d O P e J sm fp L oo os a0 rk;let a1:O.length=c.length:=by
   let a:=a0.length;let b:=rk.length;rw[zX] at a
   lia
  let sv:Yz g d.heap y O:=CU J a0 rk;let a3:∀(st:jP)(p:jl),p.Perm (yL c.length)->(p.map λi=>y.getD i (.int 0)).Pairwise (λa b=>b.lt a=false)->(jO st).map (·.2)=wW (p.map λi=>c.getD i Value.none)->failedOf st=none ->
    aC (aB X.prog X.w) X.A.in1.in1 (ksk_tail D false e1 (.ref j) st) (λl d=>∃ v,l=.done (.ret v)/\aC (aB X.prog X.w) X.A.in1 (ret (.ref D)) (λl d=>∃ v,l=.done (.ret v)/\EP X kg σ Q v d) X.xe d) X.xe d:=by
   intro st p hp hs c6 a8;let a2:∀ i∈p,i<us.length:=λi hi=>by
    have:=xN.mp (hp.mem_iff.mp hi)
    lia
   let c7:p.length=c.length:=hp.length_eq.trans List.length_range;let s1:=xR.update d.heap j (Obj.mapSeq λ_=>(#[]:js));let e4:D≠j:=∅
   let c0:=(s1.2 D e4).trans oo;let s2:=xR.update (d.heap.update j (Obj.mapSeq λ_=>(#[]:js))) D (Obj.mapSeq λ_=>wW (p.map λi=>c.getD i Value.none));obtain⟨c2,e6⟩:∃ c2,((d.heap.update j (Obj.mapSeq λ_=>(#[]:js))).update D (Obj.mapSeq λ_=>wW (p.map λi=>c.getD i Value.none))).get? D=some (seqObj "list" (wW (p.map λi=>c.getD i Value.none)) c2):=⟨_,get?_update_seq c0 λ_=>wW (p.map λi=>c.getD i Value.none)⟩;unfold ksk_tail;dsimp only;rw[c6,aO zW];refine aa (listUpdate_at os Z ?_ (by rw[zL,sizeLine_eq];lia) (zD _))
   refine aa (wpAny_letGo ?_);refine aa (seqEpoch_at c0 Z ?_);refine aa (listUpdate_at c0 Z ?_ (zD _) (by rw[zL,zX,c7,sizeLine_eq];lia))
   rw[a8];simp only[bne_self_eq_false,wT,if_false];let J1:ZF X kg σ h { d with heap:=d.heap.update j (Obj.mapSeq λ_=>(#[]:js)) }:=J.turned (t':=d.toks) (it:=j) (λb o n z=>(s1.2 b n).trans z) fp.1 fp.2.1 fp.2.2.2.1 fp.2.2.2.2.1 fp.2.2.2.2.2;let J2:ZF X kg σ h { d with heap:=(d.heap.update j (Obj.mapSeq λ_=>(#[]:js))).update D (Obj.mapSeq λ_=>wW (p.map λi=>c.getD i Value.none)) }:=ZF.turned (s:={ d with heap:=d.heap.update j (Obj.mapSeq λ_=>(#[]:js)) }) (t':=d.toks) (it:=D) J1 (λb o n z=>(s2.2 b n).trans z) L C.2.1 C.2.2.2.1 C.2.2.2.2.1 C.2.2.2.2.2;let J3:=ZPd (a:=D) (o:=.lst (p.map λi=>us.getD i .non)) J2 e3 C.2.1 C.2.2.2.2.1 C.2.2.2.2.2 L ⟨by rw[zX,c7,sizeLine_eq];lia,_,c2,Cv rv _ a2,e6⟩
   let g:=Zl L (.lst (p.map λi=>us.getD i .non));refine ae ⟨.none,Z,ae ⟨_,Z,.ref D,_,J3,Z,q D _ (p.map λi=>y.getD i (.int 0)) _ (sm.trans g) Y ZV (FJ (Paired.mapP (G:=IT _) hk λ_ _ z=>hI _ _ _ _ (sm.trans g) z) _ a2) ?_ hs⟩⟩;have:=hp.map (λi=>y.getD i (KT.int 0));rw[show c.length=y.length by lia,range_getD] at this
   exact this
  unfold ksk_end;dsimp only;rw[aO zW,aO zW];by_cases B:c.length<2
  ·rw[aP (by rw[zL];exact B),aP (by rw[zL];exact B)]
   refine aa (ae (aa (ae ?_)));refine a3 _ (yL c.length) (.refl _) ?_ ?_ Z
   ·rw[show c.length=y.length by lia,range_getD]
    match y,(show y.length<2 by lia) with
    | [],_=>exact .nil
    | [t],_=>exact qU _ _
   ·show ((O.toArray.zip c.toArray).map (·.2))=_;apply tP.mp;rw[Array.toList_map,ksk_zip];simp only[List.toList_toArray];rw[range_getD,List.map_snd_zip ∅]
  ·rw[aO (by rw[zL];exact B),aO (by rw[zL];exact B)]
   refine aa (ZOx hg ∅ sv ?_)
   refine aa (Z2 (Ad hg (Q:=λS e0=>e0=d/\∃ p:jl,p.Perm (yL c.length)/\(p.map λi=>y.getD i (.int 0)).Pairwise (λa b=>b.lt a=false)/\jO S=p.toArray.map (uM (O.toArray.zip c.toArray))/\failedOf S=none)
    a1 ∅ sv (λt ht=>?_) λp S b1 b2 b3 b4=>⟨Z,p,b1,b2,b3,b4⟩) λr e0 e7=>?_)
   ·let a:=c8.un;let d1:=dg t;let d2:=Vf t 3 (hf t ht)
    lia
   ·let⟨⟨⟩,S⟩:=r;let⟨rfl,p,b1,b2,b3,b4⟩:=e7;exact a3 S p b1 b2 (PySem.W.kat_snds a1 b3) b4
 unfold ksk_rest;refine aa (ai ?_)
 first
  | rw[List.forIn_toArray]
  | (rw[<-rQ];simp only[List.toList_toArray])
 refine aa (Z2 (EC (all:=y) (H0:=H) (D:=D) (kS:=j) hI hS F hb c8 rfl nD nS c3 Y (λx s4 R hx=>?_) c us y [] H { s with heap:=h3 } [] [] 0 rfl ∅ I3 (ZE.refl H) fS Y rv hk (N _ _ a9) c5 .nil .nil) λ_ s4 h4=>?_)
 ·refine aa (wpAny_attempt (af hx (λkv s5 h5=>?_) λ_ _ z=>z.elim));let⟨O,e,i3,o5,R5⟩:=h5
  try dsimp only
  refine aa (listUpdate_at o5 Z ?_ (by rw[zL,sizeLine_eq];lia) (zN (xO (Array.size_push ..)) (by rw[zL,sizeLine_eq];lia)))
  exact ae ⟨Z,R5⟩
 ·let⟨h,O,P,e,J,sm,fp,L,oo,os,a0,rk⟩:=h4
  try dsimp only
  exact aa (listItems_at os Z (l h s4 O P e J sm fp L oo os a0 rk))
theorem Hm{H:Hp}:∀{a:jk}{b:jf},jV H a b->(∀ t∈a,t.fits 3=true)->Paired (λt u=>ZC H t u/\t.fits 3=true) a b
 | [],b,h,_=>by rw[jV] at h;subst h;exact .nil
 | t::a,b,h,hf=>by
  rw[jV] at h;let⟨v,r,rfl,c,d⟩:=h;exact .cons ⟨c,hf t zM⟩ (Hm d λt e=>hf t (zK _ e))
def Ba{H:Hp}{G:KT->Prop}{a:jk}{b:jf}(h:Paired (λt u=>ZC H t u/\G t) a b):jV H a b:=by
 induction h with
 | nil=>exact .nil
 | cons h _ c=>exact .cons h.1 c
def ZGo{g:KT->KT}(G:Kg g)(B:∀ t,(g t).depth<=2 * t.depth+2){y:Str}{k:Nat}{f:ak}{v:aj}{p:ao}{n:jf}{m:jk}{Q:VK}(L:ZS (k+2) X.A)(F:ZI X.prog X.w X.K X.mg X.base ZO k f p [y] (Pm g))(E:Zq X.K p [y] [])(z:ZF X kg σ H s)(I:jV H m n)(r:∀ t∈m,t.fits 3=true)(l:n.length<1000)(d:∀ (o:je->al->Prop),(∀ (x:al) (e:je),ZF X kg σ H x->ZP n e->o e x)->aC (aB X.prog X.w) X.A.in1 (collect v) o X.xe s)(q:∀ (D:ak) (j:jf) (i:jk) (c:Hp),ZE H c->H D=none->c D=some (.lst j)->jV c i j->i.Perm m->i.Pairwise (λa b=>b.lt a=false)->Q (.ref D) c):
  aC (aB X.prog X.w) X.A (call (.builtin "sorted") [v] [(yH "key",.ref f)]) (EP X kg σ Q) X.xe s:=
 ZFx (IT:=λH t u=>ZC H t u/\t.fits 3=true) G B L F E z (λ_ _ _ _ P h=>⟨h.1.sm P,h.2⟩) (λc u t Q _ h k=>⟨u,t,Z,h.1,h.2,k⟩) (Hm I r) r l d λD j i c O M C J N R=>q D j i c O M C (Ba J) N R
end
def VT(d:ak)(b:Array DictEntry)(a:Nat)(h:aE):Prop:=∃ o,h.get? d=some o/\o.ExactDict/\o.data=.dict b a
section
variable{d:ak}{es:Array DictEntry}{ep:Nat}
def VT.type(x:VT d es ep s.heap):s.TypeIs (.ref d) "dict" :=let ⟨o,g,hx,_⟩:=x;⟨o,g,hx.1⟩
def VT.at{h a:aE}(x:VT d es ep h)(k:∀ o,h.get? d=some o->a.get? d=some o):VT d es ep a:=let ⟨o,g,r⟩:=x;⟨o,k o g,r⟩
theorem ZLG{Q:ja}(f:(d==sysModules)=false)(x:VT d es ep s.heap)(e:Q (.ref s.heap.objs.size) { s with heap:=s.heap.push { cls:=.type "dict_keyiterator",data:=.fields #[.ref d,.int 0 0,.int es.size 0,.int ep 0] } }):
  aC (aB prog w) A (pyIter (.ref d)) Q E s:=by
 let b:=x.type;let⟨o,c,g,a⟩:=x;refine wpAny_pyIter_slot b qN (wpAny_call_entry qN b PySem.F.entry_dict_iter ?_ (PySem.F.args_dict_iter_1 _));unfold Builtin.«dict.__iter__»;refine aa ?_;unfold Builtin.Dict.dictSlotNone;refine aa (wpAny_notOrdered_dict b (ae ?_));show aC _ _ (Builtin.Dict.showsAll d >>= _) _ _ s;unfold Builtin.Dict.showsAll;rw[aO (by rw[f];exact zW)]
 refine aa (ae (aa (wpAny_dictEntries c a (aa (wpAny_dictEpoch c a ?_)))));exact aa (wpAny_newObj_type (ae ⟨_,rfl,"dict_keyiterator",_,⟨_,yO _ rfl,rfl⟩,rD.lookup,e⟩))
def GM{f:ak}{i:Nat}{Q:jd->al->Prop}(v:A.handled=none)(c:s.heap.IsKeyIter f d i es.size ep)(x:VT d es ep s.heap)(t:∀ e h,es[i]? = some e->h.IsKeyIter f d (i+1) es.size ep->xR f s.heap h->Q (some e.key) { s with heap:=h })(r:∀ h,es[i]? = none->Heap.ExtBut f s.heap h->Q none { s with heap:=h }):aC (aB prog w) A (pyNext (.ref f)) Q E s:=by
 let⟨o,p,u,j⟩:=id c;let⟨z,l,y,k⟩:=x;unfold pyNext;refine aa (wpAny_attempt (wpAny_callSpecial?_slot (name:=yH "__next__") c.typeIs rD (wpAny_call_entry rD c.typeIs PySem.F.entry_dict_keyiterator_next ?_ (PySem.F.args_dict_keyiterator_next_1 _))));refine aa (ae (aa (aa ?_)))
 first | refine aa (wpAny_typeNameOfWhole_keyiter c.typeIs (ae ?_)) | refine aa (wpAny_typeNameOf_keyiter c.typeIs (ae ?_))
 refine aa (wpAny_fieldsOf p j ?_);let n:Builtin.Dict_items.ownsTuple "dict_keyiterator" = false:=by decide
 simp only[n,wT,if_false];show aC _ _ (if (Value.ref d==Value.none)=true then _ else _) _ _ s
 rw[aO (show ¬ ((Value.ref d==Value.none)=true) from zW)];refine aa (ae (aa (wpAny_dictEntries l k ?_)));rw[aO (by simp)]
 refine aa (ae (aa (wpAny_dictEpoch l k ?_)));rw[aO (by simp)]
 refine ae ?_;simp only[show ¬ ((i:Int)<0) from by lia,if_false,tO]
 cases q:es[i]? with
 | some e=>
  refine aa ?_
  first | refine aa (wpAny_typeNameOfWhole_keyiter c.typeIs (ae ?_)) | refine aa (wpAny_typeNameOf_keyiter c.typeIs (ae ?_))
  refine aa (wpAny_isOneOf_keyiter c.typeIs ?_);show aC _ _ (setField (.ref f) 1 (rawInt ((i:Int)+1)) >>= _) _ _ s;refine aa (wpAny_setField p j (by simp) ?_)
  let g:(s.heap.update f (Obj.mapFields (·.setIfInBounds 1 (rawInt ((i:Int)+1))))).IsKeyIter f d (i+1) es.size ep:=
   ⟨_,vB _ p (Obj.isFreed_of_fields (Obj.data_mapFields j _)),(Obj.cls_mapFields ..).trans u,by rw[Obj.data_mapFields j];simp[rawInt]⟩
  refine aa (ag (aa (wpAny_isOneOf_keyiter (s:={ s with heap:=s.heap.update f (Obj.mapFields (·.setIfInBounds 1 (rawInt ((i:Int)+1)))) }) g.typeIs ?_)));show aC _ _ (pure e.key) _ _ _;exact ae (ae ⟨_,Z,ae (t e _ q g (xR.update ..))⟩)
 | none=>
  refine aa ?_
  first | refine aa (wpAny_typeNameOfWhole_keyiter c.typeIs (ae ?_)) | refine aa (wpAny_typeNameOf_keyiter c.typeIs (ae ?_))
  show aC _ _ (setField (.ref f) 0 .none >>= _) _ _ s;refine aa (wpAny_setField p j (by simp) ?_)
  show aC _ _ (newExc (.type "StopIteration") [] >>= _) _ _ _;refine aa ?_;simp only[newExc,newTuple];refine aa (wpAny_newObj_type ?_ (by size_fits))
  refine aa (m:=firstArgMember _ _) (wpAny_of_eq (a:=Value.none) (by first | rfl | (simp only[firstArgMember];rfl)) (wpAny_newObj_type ?_ (by size_fits)))
  simp only[raiseNew];refine aa (wpAny_handled ?_);rw[show A.in1.handled=none from v];refine aa (ae (wpAny_throw ?_));refine aa (wpAny_isInstance (T:= "StopIteration") (b:=true) ⟨_,yO _ Z,Z⟩ isSubtype_stop ?_);exact ae (r _ q (((xR.update ..).extBut.push _).push _))
def A6(m:A.handled=none)(I:ak)(l:d≠I):Walks prog w A I [I,d] [I] es.size (λi v=>(es[i]?).map (·.key)=some v) (λi h=>h.IsKeyIter I d i es.size ep/\VT d es ep h) where
 sub:=λb f=>by simp at f;simp[f]
 frame:=λ_ _ _ a n=>⟨a.1.at λo e=>n I (by simp) o e,a.2.at λo e=>n d (by simp) o e⟩
 item:=λi s Q E r a j=>by
  refine GM m a.1 a.2 (λe g c k p=>?_) (λg c=>by rw[wI r] at c;cases c)
  exact j e.key g s.toks (by rw[c];rfl) ⟨k,a.2.at λo z=>(p.2 d l).trans z⟩ λb o f e=>(p.2 b (λh=>f (by simp[h]))).trans e
 done:=λs Q E a j=>by
  refine GM m a.1 a.2 (λe g c=>by rw[Array.getElem?_eq_none (zY _)] at c;cases c) (λg _ q=>?_)
  exact j g s.toks λb o f e=>q b o (λh=>f (by simp[h])) e
 self:=λ_ _ _ _ a j=>wpAny_pyIter_keyiter a.1 j
def Gg(f:(d==sysModules)=false):sH prog w "dict" d d es.size (λi v=>(es[i]?).map (·.key)=some v) (VT d es ep) where
 type:=λ_ x=>x.type
 there:=λ_ x=>by let⟨o,g,_⟩:=x;exact⟨zG g,zG g⟩
 keep:=λ_ _ x c=>x.at λo e=>c d (.inl rfl) o e
 notList:=by decide
 notTuple:=by decide
 hint:=λ_ _ _ _ x a=>PySem.W.kdl_hint_dict x.type a
 iter:=λ_ s b x=>⟨_,_,(λ_ _ a=>ZLG f x a),A6 b _ (by let⟨o,g,_⟩:=x;exact yK (zG g)),⟨⟨_,yO _ Z,Z,Z⟩,x.at λo e=>zB _ e⟩⟩
end
section
variable{kg:jq}{σ:L2.St}{H:Hp}
def CD{w:ax}{k:List (KT×V×V)}{d:Array DictEntry}{c:js}(r:Paired (NT w) k d.toList)(h:ItemsOf (λi v=>(d[i]?).map (·.key)=some v) c d.size):ZP (k.map (·.2.1)) c.toList:=by
 let p:=Paired.length r;let o:c.toList.length=d.size:=by have:=h.1;simpa using this
 refine Jv (by rw[zX,o,p];simp) λi a b g j=>?_
 rw[zH] at g;let⟨z,n,rfl⟩:=xX.mp g;rw[yN] at j;have:=h.2 i b j;let⟨e,m,rfl⟩:=xX.mp this;let⟨q,f,l⟩:=ON r (by rw[yN];exact m)
 rw[n] at f;cases f;exact l.2.1
def ZJY{d:ak}{i:List (KT×V×V)}{Q:je->al->Prop}(n:A.handled=none)(I:ZF X kg σ H s)(x:Z1 X.w H d i)(l:∀ (h:al) (c:je),ZF X kg σ H h->ZP (i.map (·.2.1)) c->Q c h):aC (aB X.prog X.w) A (collect (.ref d)) Q E s:=by
 let⟨u,k,g⟩:=x.ex;let⟨⟨b,f,o,j,p,q,m⟩,_⟩:=I.hok d _ k;refine ZGb (Gg (ep:=j) b) n ⟨o,p,q,m⟩ f λv t e r _ a=>?_;exact l _ e.toList (I.kept (t':=t) r) (CD g a)
end
theorem ZIZ:az "sorted" = some (.builtin "sorted"):=by decide +kernel
def ZQA:TE:=λ_ H Q=>∀(p:ak)(a:Hp),H p=none->ZH p H a->ZE H a->Z1 X.w a p []->Q (.ref p) a
def FX{c:aJ}:PE X (.Dict [] [] c) (ZQA (X:=X)):=λf s i H Q I h=>by
 let d:=I.hok.fresh (zY s.heap.objs.size);refine wpAny_Dict_empty ⟨.ref s.heap.objs.size,_,I.laid (a:=s.heap.objs.size) (o:=Qu s.heap.objs.size #[]) (t':=s.toks) (λ_ _ q=>zB _ q) (zY _) (Cg (beq_eq_false_iff_ne.mpr (Ne.symm (yK I.big))) (zD _) ⟨_,0,yO _ rfl,⟨rfl,rfl,rfl⟩,rfl⟩),Z,?_⟩;exact h _ _ d (λb o e n=>by rw[ZR n];exact e) (Zl d _) ⟨⟨#[],ZV,.nil⟩,λz g=>by simp at g,.nil⟩
inductive Ow(w:ax)(D:YM)(e:L2.St)(v x y:V)(b:Hp):Prop
 |mk(a:ak)(d:List (KT×V×V))(t:KT)(_:x=.ref a)(_:Z1 w b a d)(_:d.length<1000)(_:ZC b t y)(_:t.depth<=3)(_:∀ c,ZH a b c->Z1 w c a (Vt d t y v)->D.nx e c)
def ZQG(w:ax)(e g f:TE):TS:=λD a H=>f a H λv b=>e a b λx c=>g a c λy d=>Ow w D a v x y d
def K0{o i b:Expr}{e d:aJ}{k m l:TE}(M:X.A.units+4<cLine)(K:PE X o k)(J:PE X i m)(N:PE X b l)(L:swapsWith b (some (.Subscript o i d)) e.line X.env=pure false):
  PS X (.Assign [.Subscript o i d] b e) (ZQG X.w k m l):=by
 intro c s f H D I h;refine wpAny_Assign_Subscript (Z7 (N c s f H _ I h) λr W v n q T Q=>Z7 (K c W f n _ q Q) λu Y x p z U R=>Z2 (J c Y f p _ z R) λiv s3 ⟨y,H3,B,V,a,xs,t,G,E,P,O,F,S⟩=>?_) L;subst G;obtain rfl:u=Value.ref a:=U;exact ZQd M B E P O F V T λs4 j C sx g=>⟨f,j,C,S j sx g⟩
def ZQa(g:jk)(e:Hp)(Q:VK):Prop:=∀(D:ak)(f:jf)(d:jk)(c:Hp),ZE e c->e D=none->c D=some (.lst f)->jV c d f->d.Perm g->d.Pairwise (λa b=>b.lt a=false)->Q (.ref D) c
inductive Ps(w:ax)(Q:VK)(c:jf)(b:Hp):Prop
 |mk(d:ak)(a:List (KT×V×V))(_:c=[.ref d])(_:Z1 w b d a)(_:∀ x∈a,x.1.fits 3=true)(_:a.length<1000)(_:ZQa (a.map (·.1)) b Q)
def ZOc(w:ax)(t:TA):TE:=λc H Q=>t c H λb a=>Ps w Q b a
def CC{g:KT->KT}(hg:Kg g)(U:∀ t,(g t).depth<=2 * t.depth+2){k:Nat}{p a O E:aJ}{e:Expr}{x x0:Str}{t:TA}(S:ZA X.prog X.w X.K X.mg X.base k x [x0] (Pm g))(N:ZS (k+2) X.A)(B:Gl X "sorted")(hm:X.mg "sorted" = none)(C:Gl X x)(ha:PA X [e] t)(y:(x==("__debug__" : Str))=false:=by decide)(he:aG a (aw [e] X.env)=(false,aH e X.env)::aG a (aw [] X.env):=by rfl)(c:(aG a (aw [e] X.env)).any (·.1)=false:=by rfl):
  PE X (.Call (.Name "sorted" p) [e] [⟨some (yH "key"),.Name x E,O⟩] a) (ZOc X.w t):=by
 intro i s R H Q I h;let⟨f,fd,F,b,a0,m⟩:=S.ex;refine ah (Oh I B hm ZIZ (callWith_kw (Z2 (ha a i s R H _ I h) λus s1 ⟨vs,J,T,r,d,l,V,o,M,j,q⟩=>?_) he c));let pk:PK X [⟨some (yH "key"),.Name x E,O⟩] (XN (tC (.ref f)) U8):=ZNf (Xp (v:=.ref f) (pos:=E) C m Z y) ZPo;refine Z2 (pk a i s1 R J (λP n=>P=[.ref f]/\n=J) T ⟨Z,Z⟩) ?_;rintro P s2 ⟨zv,n,L,rz,Y,W⟩;subst V Y W;let⟨u,rfl,ru⟩:=QF r;let⟨u2,rfl,G⟩:=QF rz;cases ru;cases G;let ka:jV n (l.map (·.1)) (l.map (·.2.1)):=by
  have:=o.key;clear q j M o
  induction l with
  | nil=>exact .nil
  | cons z l ih=>exact .cons (this z (zM ..)).1 (ih λz D=>this z (zK _ D))
 exact ZGo hg U N F b L ka (λt ht=>by let⟨z,D,rfl⟩:=zR.mp ht;exact M z D) (by rw[zX];exact j) (λQ' hq=>ZJY N.hd L o hq) q
end Tw
namespace L2
open PySem PySem.Spec PyProof.Rows
section
variable{kg:jq}{σ:St}{H:Hp}
end
end L2
namespace Tw
open PySem PySem.Spec L2 PyProof.Rows
def QO:jg->jd->Prop
 | some v,some r=>ZN v r
 | none,none=>True
 | _,_=>False
mutual
theorem ZG.keep{h h':aE}(k:∀ b o,h.get? b=some o->h'.get? b=some o):∀(t:KT)(v:aj),ZG h t v->ZG h' t v
 | .int i,v,x=>by rw[ZG] at x⊢;exact x
 | .str i,v,x=>by rw[ZG] at x⊢;exact x
 | .tup l,v,x=>by
  rw[ZG] at x⊢;let⟨a,its,e,⟨o,g,r⟩,e2⟩:=x;exact⟨a,its,e,⟨o,k _ _ g,r⟩,jW.keep k l its e2⟩
theorem jW.keep{h h':aE}(k:∀ b o,h.get? b=some o->h'.get? b=some o):∀(l:jk)(vs:je),jW h l vs->jW h' l vs
 | [],vs,x=>by rw[jW] at x⊢;exact x
 | t::l,vs,x=>by
  rw[jW] at x⊢;let⟨v,r,e,e1,e2⟩:=x;exact⟨v,r,e,ZG.keep k t v e1,jW.keep k l r e2⟩
end
section
variable{kg:jq}{σ:L2.St}{H:Hp}
def IA{d:ak}{j:List (KT×V×V)}(I:ZF X kg σ H s)(x:Z1 X.w H d j):(d==sysModules)=false/\s.TypeIs (.ref d) "dict" /\ ∀ b,Value.ref d=.ref b->∃ f,s.heap.get? b=some f/\f.dict=none:=by
 let⟨l,g,i⟩:=x.ex;let⟨⟨a,h,o,k,c,e,m⟩,_⟩:=I.hok d _ g;exists a,⟨o,c,e.1⟩;intro b q;cases q;exact⟨o,c,e.2.1⟩
theorem Gn{d:ak}{q:List (KT×V×V)}{t:KT}{y:V}{u:aj}{Q:jd->al->Prop}(O:A.units+4<cLine)(I:ZF X kg σ H s)(x:Z1 X.w H d q)(m:ZC H t y)(v:t.depth<=3)(p:ZN y u)(h:∀ f r,ZF X kg σ H f->(∀ b n,s.heap.get? b=some n->f.heap.get? b=some n)->QO (VO q t) r->Q r f):aC (aB X.prog X.w) A (dictGet d u) Q E s:=by
 let⟨N,G,c⟩:=x.ex;let⟨⟨l,K,o,M,k,P,i⟩,_⟩:=I.hok d _ G;unfold dictGet
 try with_reducible refine ag ?_
 refine aa (Ja t.depth t (zY _) (Vd I t y u m p) ∅ λg L=>?_)
 let a:ZF X kg σ H { s with toks:=g }:=I.tok g;refine aa (Et (A:=A) a x c k i m v p ∅ (λJ=>?_) λj z e B C D F=>?_)
 ·refine ae (h _ none a (λ_ _ e=>e) ?_);rw[E8 J];trivial
 ·refine aa (wpAny_dictEntries (s:={ s with toks:=g }) k i ?_);rw[D];refine ae (h _ (some e.val) a (λ_ _ e=>e) ?_);rw[<-C,GP x.nd B];exact F.2.2
def Bz{d:ak}{g:List (KT×V×V)}{t:KT}{y v:V}{u:aj}{Q:ja}(n:A.units+5<cLine)(I:ZF X kg σ H s)(x:Z1 X.w H d g)(l:ZC H t y)(j:t.depth<=3)(m:ZN y u)(k:VO g t=some v)(h:∀ f a,ZF X kg σ H a->ZN v f->Q f a):aC (aB X.prog X.w) A (getItem (.ref d) u) Q E s:=by
 let⟨e,b,_⟩:=IA I x;unfold getItem
 try with_reducible refine ag ?_
 refine aa (wpAny_sequenceKey b (by decide) ?_)
 refine aa (wpAny_callSpecial?_slot (name:=yH "__getitem__") b slot_dict_getitem (wpAny_call_entry slot_dict_getitem b entry_dict_getitem ?_ (args_dict_getitem _ _)));show aC _ _ (dictGet d u >>= _) _ _ s;refine aa (Gn (by show A.units+1+4<_;lia) I x l j m λa r i _ c=>?_)
 rw[k] at c
 cases r with
 | none=>exact c.elim
 | some r=>exact ae ⟨r,Z,ae (h r a i c)⟩
def D5{d:ak}{f:List (KT×V×V)}{t:KT}{y:V}{u:aj}{Q:Bool->al->Prop}(m:A.units+5<cLine)(I:ZF X kg σ H s)(x:Z1 X.w H d f)(k:ZC H t y)(j:t.depth<=3)(l:ZN y u)(h:∀ e,ZF X kg σ H e->Q (VO f t).isSome e):aC (aB X.prog X.w) A (contains (.ref d) u) Q E s:=by
 let⟨a,g,_⟩:=IA I x;unfold contains
 try with_reducible refine ag ?_
 refine aa (wpAny_specialOf g slot_dict_contains.lookup ?_);show aC _ _ (if (some (Value.builtin "dict.__contains__")==some Value.none)=true then _ else _) _ E s
 rw[aO (by rw[beq_builtin_none];exact zW)]
 refine aa (wpAny_callSpecialUnlessNone?_slot (name:=yH "__contains__") g slot_dict_contains (wpAny_call_entry slot_dict_contains g entry_dict_contains ?_ (args_dict_contains _ _)));show aC _ _ (dictGet d u >>= _) _ _ s;refine aa (Gn (by show A.units+1+4<_;lia) I x k j l λe r i _ c=>?_)
 let b:=h e i
 cases r with
 | some r=>
  cases q:VO f t with
  | none=>rw[q] at c;exact c.elim
  | some v=>
   rw[q] at b;show aC _ _ (ret (.bool true)) _ _ _;exact ae ⟨_,Z,wpAny_truthy_bool b⟩
 | none=>
  cases q:VO f t with
  | some v=>rw[q] at c;exact c.elim
  | none=>
   rw[q] at b;show aC _ _ (Builtin.Dict.pendingKey? d u >>= _) _ _ _;exact aa (wpAny_pendingKey_other a (ae ⟨_,rfl,wpAny_truthy_bool b⟩))
def ZRB{d:ak}{b:List (KT×V×V)}{t:KT}{y:V}{u:aj}{Q:ja}(f:A.units+5<cLine)(I:ZF X kg σ H s)(x:Z1 X.w H d b)(g:ZC H t y)(e:t.depth<=3)(i:ZN y u)(h:∀ a,ZF X kg σ H a->Q (.bool (VO b t).isSome) a):aC (aB X.prog X.w) A (aA .In u (.ref d)) Q E s:=by
 show aC _ _ (do return .bool (← contains (.ref d) u)) Q E s
 exact aa (D5 f I x g e i λa c=>ae (h a c))
def ZN5{d:ak}{b:List (KT×V×V)}{t:KT}{y:V}{u:aj}{Q:ja}(f:A.units+5<cLine)(I:ZF X kg σ H s)(x:Z1 X.w H d b)(g:ZC H t y)(e:t.depth<=3)(i:ZN y u)(h:∀ a,ZF X kg σ H a->Q (.bool (!(VO b t).isSome)) a):aC (aB X.prog X.w) A (aA .NotIn u (.ref d)) Q E s:=by
 show aC _ _ (do return .bool (!(← contains (.ref d) u))) Q E s
 exact aa (D5 f I x g e i λa c=>ae (h a c))
end
section
variable{o i e f:Expr}{pos ji jh:aJ}{td ty tx:TE}
inductive Oy(w:ax)(Q:VK)(x y:V)(b:Hp):Prop
 |mk(a:ak)(c:List (KT×V×V))(t:KT)(v:V)(_:x=.ref a)(_:Z1 w b a c)(_:ZC b t y)(_:t.depth<=3)(_:VO c t=some v)(_:Q v b)
def Fq(w:ax)(td ty:TE):TE:=λa H Q=>td a H λx b=>ty a b λy c=>Oy w Q x y c
def Ln(C:X.A.units+5<cLine)(z:PE X o td)(r:PE X i ty)(B:LZ i):PE X (.Subscript o i pos) (Fq X.w td ty):=by
 intro b s j H Q I h;refine GF qE.lookup B (Z7 (z b s j H _ I h) λu M x k m K G=>Z2 (r b M j k _ m G) ?_);rintro N O ⟨y,l,d,L,a,S,t,v,q,g,E,p,D,J⟩;subst q;obtain rfl:u=Value.ref a:=K;exact⟨(IA d g).2.1,Bz C d g E p L D λR P n c=>⟨v,l,n,c,J⟩⟩
inductive Pp(c:ax)(y x:V)(H:Hp)(Q:VK):Prop
 |mk(a:ak)(b:List (KT×V×V))(t:KT)(_:x=.ref a)(_:Z1 c H a b)(_:ZC H t y)(_:t.depth<=3)(_:Q (.bl (VO b t).isSome) H)
def GU(j:X.A.units+5<cLine):Yy X (aA .In) (Pp X.w):=by
 intro b s r H y x v u Q I m l h;let⟨a,p,t,rfl,d,k,g,q⟩:=h;cases l;exact ZRB j I d k g m λn c=>⟨.bl _,H,c,Z,q⟩
inductive OW(w:ax)(c:jf)(H:Hp)(Q:VK):Prop
 |mk(a:ak)(b:List (KT×V×V))(_:c=[.ref a])(_:Z1 w H a b)(_:b.length<=900)(_:∀ p,H p=none->Q (.ref p) (upd H p (.lst (b.map (·.2.1)))))
def ZH6(v:X.calm=true):Vp X (.type "list") (OW X.w):=by
 intro m s L H K J Q I r h;let⟨a,E,rfl,n,l,q⟩:=h;let⟨u,rfl,C⟩:=QF r;cases C;let⟨F,t,k⟩:=n.ex;let⟨⟨d,j,o,p,z,A,x⟩,_⟩:=I.hok a _ t;refine PySem.W.kdl_call (Gg (ep:=p) d) (I.ok.hd v) ⟨o,z,A,x⟩ j λG D g c B y b=>?_;exact⟨.ref s.heap.objs.size,_,I.laid (a:=s.heap.objs.size) (o:=.lst (E.map (·.2.1))) (t':=D) B (zY _) ⟨by rw[zX];exact xU (XU ∅),g.toList,c,CD k b,by rw[Array.toArray_toList];exact y⟩,Z,q _ (I.hok.fresh (zY _))⟩
end
def Paired.ixR{b a:Type}{F:b->a->Prop}{l:List b}{m:List a}{i:Nat}{u:a}(h:Paired F l m)(e:m[i]? = some u):∃ r,l[i]? = some r/\F r u:=ON h e
section
variable{kg:jq}{σ:L2.St}{H:Hp}{s0:al}
end
end Tw
namespace Tw
open PySem PySem.Spec L2
def Uh(N:ak->Prop)(H:Hp)(n:String)(v:V):Prop:=
 (n = "bool" /\ ∃ b,v=.bl b)\/(n = "NoneType" /\ v=.non)\/(n = "list" /\ ∃ a d,v=.ref a/\H a=some (.lst d)/\¬ N a)\/(n = "dict" /\ ∃ a c,v=.ref a/\H a=some (.dK c)/\¬ N a)
mutual
def Zk(N:ak->Prop)(H:Hp):TG->V->Prop
 | .int i,v=>v=.int i
 | .str x,v=>v=.str x
 | .tup l,v=>∃ a vs,v=.ref a/\H a=some (.tup vs)/\jZ N H l vs
 | .odd n,v=>Uh N H n v
def jZ(N:ak->Prop)(H:Hp):List TG->jf->Prop
 | [],vs=>vs=[]
 | t::l,vs=>∃ v r,vs=v::r/\Zk N H t v/\jZ N H l r
end
structure VA(N:ak->Prop)(H H':Hp):Prop where
 tup:Zz H H'
 rest:∀ b o,H b=some o->¬ N b->H' b=some o
def VA.same{N:ak->Prop}{H a:Hp}(s:ZE H a):VA N H a:=⟨ZE.tups s,λb o e _=>s b o e⟩
mutual
theorem Zk.mono{N:ak->Prop}{H H':Hp}(m:VA N H H'):∀(t:TG)(v:V),Zk N H t v->Zk N H' t v
 | .int _,_,h=>by rw[Zk] at h⊢;exact h
 | .str _,_,h=>by rw[Zk] at h⊢;exact h
 | .tup l,_,h=>by
  rw[Zk] at h⊢;let⟨a,vs,e,h1,h2⟩:=h;exact⟨a,vs,e,m.tup a vs h1,jZ.mono m l vs h2⟩
 | .odd n,_,h=>by
  rw[Zk] at h⊢;rcases h with h | h | ⟨e,a,xs,e1,e2,e3⟩ | ⟨e,a,xs,e1,e2,e3⟩
  ·exact .inl h
  ·exact .inr (.inl h)
  ·exact .inr (.inr (.inl ⟨e,a,xs,e1,m.rest _ _ e2 e3,e3⟩))
  ·exact .inr (.inr (.inr ⟨e,a,xs,e1,m.rest _ _ e2 e3,e3⟩))
theorem jZ.mono{N:ak->Prop}{H H':Hp}(m:VA N H H'):∀(l:List TG)(vs:jf),jZ N H l vs->jZ N H' l vs
 | [],_,h=>by rw[jZ] at h⊢;exact h
 | t::l,_,h=>by
  rw[jZ] at h⊢;let⟨v,r,e,h1,h2⟩:=h;exact⟨v,r,e,Zk.mono m t v h1,jZ.mono m l r h2⟩
end
mutual
theorem Zk.less{N N':ak->Prop}{H:Hp}(m:∀ b,N' b->N b):∀(t:TG)(v:V),Zk N H t v->Zk N' H t v
 | .int _,_,h=>by rw[Zk] at h⊢;exact h
 | .str _,_,h=>by rw[Zk] at h⊢;exact h
 | .tup l,_,h=>by
  rw[Zk] at h⊢;let⟨a,vs,e,h1,h2⟩:=h;exact⟨a,vs,e,h1,jZ.less m l vs h2⟩
 | .odd n,_,h=>by
  rw[Zk] at h⊢;rcases h with h | h | ⟨e,a,xs,e1,e2,e3⟩ | ⟨e,a,xs,e1,e2,e3⟩
  ·exact .inl h
  ·exact .inr (.inl h)
  ·exact .inr (.inr (.inl ⟨e,a,xs,e1,e2,λz=>e3 (m a z)⟩))
  ·exact .inr (.inr (.inr ⟨e,a,xs,e1,e2,λz=>e3 (m a z)⟩))
theorem jZ.less{N N':ak->Prop}{H:Hp}(m:∀ b,N' b->N b):∀(l:List TG)(vs:jf),jZ N H l vs->jZ N' H l vs
 | [],_,h=>by rw[jZ] at h⊢;exact h
 | t::l,_,h=>by
  rw[jZ] at h⊢;let⟨v,r,e,h1,h2⟩:=h;exact⟨v,r,e,Zk.less m t v h1,jZ.less m l r h2⟩
end
theorem jZ.length{N:ak->Prop}{H:Hp}:∀{l:List TG}{a:jf},jZ N H l a->l.length=a.length
 | [],a,h=>by rw[jZ] at h;subst h;rfl
 | t::l,a,h=>by
  rw[jZ] at h;let⟨v,r,rfl,_,b⟩:=h;rw[zO,zO,b.length]
theorem jZ.get{N:ak->Prop}{H:Hp}:∀{l:List TG}{a:jf}{i:Nat}{v:V},jZ N H l a->a[i]? = some v->∃ t,l[i]? = some t/\Zk N H t v
 | [],a,i,v,h,e=>by rw[jZ] at h;subst h;simp at e
 | t::l,a,0,v,h,e=>by
  rw[jZ] at h;let⟨j,r,rfl,d,_⟩:=h;simp at e;subst e;exact⟨t,Z,d⟩
 | t::l,a,i+1,v,h,e=>by
  rw[jZ] at h;let⟨j,r,rfl,_,f⟩:=h;let⟨g,b,c⟩:=f.get (i:=i) (by simpa using e)
  exact⟨g,by simpa using b,c⟩
mutual
theorem JQ{N:ak->Prop}{H:Hp}:∀(t:KT)(v:V),ZC H t v->Zk N H t.emb v
 | .int i,v,h=>by rw[ZC] at h;rw[KT.emb,Zk];exact h
 | .str x,v,h=>by rw[ZC] at h;rw[KT.emb,Zk];exact h
 | .tup l,v,h=>by
  rw[ZC] at h;let⟨a,vs,e,h1,h2⟩:=h;rw[KT.emb,Zk];exact⟨a,vs,e,h1,ths_keys l vs h2⟩
theorem ths_keys{N:ak->Prop}{H:Hp}:∀(l:jk)(vs:jf),jV H l vs->jZ N H (embL l) vs
 | [],vs,h=>by rw[jV] at h;rw[embL,jZ];exact h
 | t::l,vs,h=>by
  rw[jV] at h;let⟨v,r,e,h1,h2⟩:=h;rw[embL,jZ];exact⟨v,r,e,JQ t v h1,ths_keys l r h2⟩
end
def Uh.ty{K:zZ}{N:ak->Prop}{H:Hp}{n:String}{v:V}(h:Uh N H n v):XC K H v (.type n):=by
 rcases h with ⟨rfl,b,rfl⟩ | ⟨rfl,rfl⟩ | ⟨rfl,a,c,rfl,e,_⟩ | ⟨rfl,a,c,rfl,e,_⟩
 ·exact .bl b
 ·exact .non
 ·exact .lst e
 ·exact .dK e
def ZMj{K:zZ}{N:ak->Prop}{H:Hp}{n:String}{v:V}(h:Uh N H n v):
  ∃ b,yS K (.type n) (.type "bool")=some b/\(b=false->yS K (.type n) (.type "int")=some false/\yS K (.type n) (.type "str")=some false/\yS K (.type n) (.type "tuple")=some false):=by
 rcases h with ⟨rfl,_⟩ | ⟨rfl,_⟩ | ⟨rfl,_⟩ | ⟨rfl,_⟩
 ·exact⟨true,Cs,λz=>absurd z (by decide)⟩
 ·exact⟨false,by kernel_rfl,λ_=>⟨by kernel_rfl,by kernel_rfl,by kernel_rfl⟩⟩
 ·exact⟨false,by kernel_rfl,λ_=>⟨by kernel_rfl,by kernel_rfl,by kernel_rfl⟩⟩
 ·exact⟨false,by kernel_rfl,λ_=>⟨by kernel_rfl,by kernel_rfl,by kernel_rfl⟩⟩
end Tw
namespace L2
open PySem PySem.Spec PyProof.Rows
abbrev ZRT(a:ak)(o:aI):HO:=.ext λh=>h.get? a=some o
section
variable{H H2:Hp}{h h':aE}{cs fs ex:jz}
end
inductive Og(o:aI)(q:Str):Prop
 |mk(a t:_)(_:o.data=.fields a)(_:a[1]? = some (.str q t))
def ZQi(H:Hp)(q:Str)(e:js):Prop:=TriplesOk e.toList/\∀ b d,PySem.codeAmong b e.toList=some d->∃ a c,d=.ref a/\H a=some (ZRT a c)/\Og c q
inductive Yf(H:Hp)(P:ak)(q:Str):Prop
 |mk(a:_)(_:H P=some (.tbl a))(_:ZQi H q a)
section
variable{cs:jz}{HL Hc H' H3:Hp}
end
def Gs{P:am}{w:ax}{K:zZ}{h:jc}{d:aE}{g:VU}{N:jp}{c:Str}{a:aF}{f:ak}{e:aj}{A:ay}{b:jw}{s:al}{H:Hp}{E:XK}:
  PassesOwn (aB (Wu g P w K h d N c a f e A b s H E).prog (Wu g P w K h d N c a f e A b s H E).w) (Wu g P w K h d N c a f e A b s H E).A (Wu g P w K h d N c a f e A b s H E).env (Wu g P w K h d N c a f e A b s H E).xe:=by
 show PassesOwn (aB P w) (A.deeper (envOfC c a s.heap.objs.size f e)) (envOfC c a s.heap.objs.size f e) _
 passes_own
def PB:Expr->Bool
 | .Starred _ _=>false
 | _=>true
def Xn{e:Expr}{b:jx}{a:Env}(h:PB e=true):aw (e::b) a=(false,aH e a)::aw b a:=by
 cases e <;> first | rfl | cases h
def ZRc{X:Cx}{e:Expr}{a:jx}{b:TE}{t:TA}(c:PE X e b)(d:PA X a t)(h:PB e=true:=by rfl):PA X (e::a) (XN b t):=ZW c d (Xn h)
def ZU{X:Cx}{e:Expr}{a:TE}(b:PE X e a)(h:PB e=true:=by rfl):PA X [e] (XN a U8):=ZW b Zj (Xn h)
def Zn{X:Cx}{e d:Expr}{b a:TE}(f:PE X e b)(g:PE X d a)(h:PB e=true:=by rfl)(c:PB d=true:=by rfl):PA X [e,d] (XN b (XN a U8)):=ZW f (ZU g c) (Xn h)
def V4{X:Cx}{a b c:Expr}{d e f:TE}(g:PE X a d)(i:PE X b e)(j:PE X c f)(h:[a,b,c].all PB=true:=by rfl):PA X [a,b,c] (XN d (XN e (XN f U8))):=
 (ZW g (ZW i (ZW j Zj (Xn (zI.mp h c (by simp)))) (Xn (zI.mp h b (by simp)))) (Xn (zI.mp h a (by simp))))
def Qr{X:Cx}{a b c d:Expr}{e f g i:TE}(j:PE X a e)(k:PE X b f)(l:PE X c g)(m:PE X d i)(h:[a,b,c,d].all PB=true:=by rfl):PA X [a,b,c,d] (XN e (XN f (XN g (XN i U8)))):=
 (ZW j (ZW k (ZW l (ZW m Zj (Xn (zI.mp h d (by simp)))) (Xn (zI.mp h c (by simp)))) (Xn (zI.mp h b (by simp)))) (Xn (zI.mp h a (by simp))))
def pa5{X:Cx}{a b c d e:Expr}{f g i j k:TE}(l:PE X a f)(m:PE X b g)(n:PE X c i)(o:PE X d j)(p:PE X e k)(h:[a,b,c,d,e].all PB=true:=by rfl):PA X [a,b,c,d,e] (XN f (XN g (XN i (XN j (XN k U8))))):=
 (ZW l (ZW m (ZW n (ZW o (ZW p Zj (Xn (zI.mp h e (by simp)))) (Xn (zI.mp h d (by simp)))) (Xn (zI.mp h c (by simp)))) (Xn (zI.mp h b (by simp)))) (Xn (zI.mp h a (by simp))))
def pa6{X:Cx}{a b c d e f:Expr}{g i j k l m:TE}(n:PE X a g)(o:PE X b i)(p:PE X c j)(q:PE X d k)(r:PE X e l)(s:PE X f m)(h:[a,b,c,d,e,f].all PB=true:=by rfl):PA X [a,b,c,d,e,f] (XN g (XN i (XN j (XN k (XN l (XN m U8)))))):=
 (ZW n (ZW o (ZW p (ZW q (ZW r (ZW s Zj (Xn (zI.mp h f (by simp)))) (Xn (zI.mp h e (by simp)))) (Xn (zI.mp h d (by simp)))) (Xn (zI.mp h c (by simp)))) (Xn (zI.mp h b (by simp)))) (Xn (zI.mp h a (by simp))))
def VL(g:js->Prop)(x C:ak)(b:ju)(h:aE):Prop:=∃ o a,h.get? x=some o/\o.cls=.ref C/\o.data=.fields a/\o.dict=b/\g a
def KS:js->Prop:=λa=>a[1]? = some .none/\a[2]? = some .none
def NZ:js->Prop:=λ_=>True
def XO(g:js->Prop)(x C:ak)(a:ju):HO:=.ext (VL g x C a)
def VL.is{g:js->Prop}{x C:ak}{c:ju}{h:aE}(e:VL g x C c h):WQ x C h:=let ⟨o,_,a,b,_⟩:=e;⟨o,a,b⟩
def Dd{P:am}{w:ax}{H:Hp}{h:aE}{g:js->Prop}{x C:ak}{j:ju}(e:VL g x C j h):Zb P w H h x (XO g x C j):=by
 let⟨o,s,a,b,c,d⟩:=id e;exact⟨e,⟨o,a⟩,λq r ⟨i,f,l,m,n,p⟩ k=>⟨i,f,k i l,m,n,p⟩⟩
abbrev HZ:je:=[.type "ValueError",.type "Exception",.type "BaseException",.type "object"]
def DX:aj->Bool
 | .type t=>t == "type"
 | _=>false
def ZNm{v:aj}(h:DX v=true):v=.type "type" :=by
 cases v with
 | type t=>exact congrArg Value.type (eq_of_beq h)
 | _=>cases h
def Hy:Data->Option ClassData
 | .cls c=>some c
 | _=>none
def ZLT{d:Data}{c:ClassData}(h:Hy d=some c):d=.cls c:=by
 cases d with
 | cls c=>cases h;rfl
 | _=>cases h
def Ge:jd->Bool
 | some (.builtin m)=>m == "ValueError.__new__"
 | _=>false
def Aj{v:jd}(h:Ge v=true):v=some (.builtin "ValueError.__new__"):=by
 cases v with
 | none=>cases h
 | some v=>
  cases v with
  | builtin m=>exact congrArg (some <| Value.builtin ·) (eq_of_beq h)
  | _=>cases h
def Da(C:ak):je->Bool
 | .ref D::_=>D==C
 | _=>false
def As{C:ak}{l:je}(h:Da C l=true):l=.ref C::l.tail:=by
 cases l with
 | nil=>cases h
 | cons v r=>
  cases v with
  | ref D=>exact congrArg (Value.ref ·::r) (eq_of_beq h)
  | _=>cases h
def NE{b:Type}{n:Nat}{l:List b}(h:l.length=n+1):∃ a m,l=a::m:=by
 cases l with
 | nil=>cases h
 | cons a m=>exact⟨a,m,Z⟩
def AM{l:List (jd)}(h:l.length=6):∃ a b c d e f,l=[a,b,c,d,e,f]:=by
 let⟨a,l,rfl⟩:=NE h;let⟨b,l,rfl⟩:=NE (xW.inj h);let⟨c,l,rfl⟩:=NE (xW.inj (xW.inj h));let⟨d,l,rfl⟩:=NE (xW.inj (xW.inj (xW.inj h)));let⟨e,l,rfl⟩:=NE (xW.inj (xW.inj (xW.inj (xW.inj h))));let⟨f,l,rfl⟩:=NE (xW.inj (xW.inj (xW.inj (xW.inj (xW.inj h)))))
 cases l with
 | nil=>exact⟨a,b,c,d,e,f,Z⟩
 | cons _ _=>cases h
def DZ{b:Type}{p:b->Bool}{o:Option b}(h:o.any p=true):∃ a,o=some a/\p a=true:=by
 cases o with
 | none=>cases h
 | some a=>exact⟨a,Z,h⟩
def EH(K:zZ)(C:ak)(f:ClassData->Bool):Bool:=(K.lookup C).any λo=>DX o.cls&&(o.slots.toList.length==6&&(Ge (o.slots.toList.getD 4 none)&&(Hy o.data).any λc=>Da C c.mro&&(PySem.W.tailIn K HZ c.mro.tail&&(!c.hasDel&&f c))))
inductive OD(K:zZ)(C:ak)(f:ClassData->Bool):Prop
 |mk(h e i j g k b d a l m n o p q:_)(c:je):K.lookup C=some (excClassObj h j C i e c g k b d a l m n o p q "ValueError.__new__")->PySem.W.tailIn K HZ c=true->f ⟨h,e,.ref C::c,i,j,g,k,b,d,a,false⟩=true->OD K C f
def Bo{K:zZ}{C:ak}{f:ClassData->Bool}(h:EH K C f=true):OD K C f:=by
 let⟨⟨H,l,I,⟨J⟩⟩,e,h⟩:=DZ h;rw[zP,zP,zP] at h;let⟨n,o,p,q⟩:=h;let⟨⟨B,k,g,D,E,t,F,i,j,b,c⟩,m,h⟩:=DZ q;rw[zP,zP,zP] at h;let⟨a,d,r,s⟩:=h;cases ZNm n;cases ZLT m;let⟨u,w,x,y,z,A,rfl⟩:=AM (eq_of_beq o);cases Aj (v:=z) p;let a:=As a;dsimp only at a d;generalize g.tail=G at a d;subst a
 cases c with
 | true=>cases r
 | false=>exact⟨B,k,D,E,t,F,i,j,b,l,u,w,x,y,A,G,e,d,s⟩
def JL(K:zZ)(C:ak):Bool:=EH K C λc=>PySem.W.nsOkIn K c.ns&&zF K c.ns "__init__" == some none
def ZNr{K:zZ}{a:aE}{g:jc}{x:Str}{C:ak}(b:K.In a)(l:g x=some (.ref C))(q:JL K C=true):OwnCls x C HZ "ValueError.__new__" g a:=by
 exists l;let⟨u,j,h,v,m,w,d,i,c,k,o,p,r,s,t,y,e,n,f⟩:=Bo q;rw[zP] at f;exact⟨y,h,u,v,j,m,w,d,i,c,k,o,p,r,s,t,a.nsMap h,b _ _ e,.of_isNs (PySem.W.isNs_of_in b f.1),PySem.W.nsMap_none_of_in b f.1 (eq_of_beq f.2),PySem.W.tail_of_in b n⟩
section
variable{g:js->Prop}{kg:jq}{σ:St}{H:Hp}{a C fI:ak}{f:Str}{v:V}
end
section
variable{C fI:ak}{f:Str}
end
def OI(H:Hp)(a C:ak):Prop:=∃ b,H a=some (.ext b)/\∀ h,b h->WQ a C h
def ZQy{g:js->Prop}{H:Hp}{a C:ak}{b:ju}(e:H a=some (XO g a C b)):OI H a C:=⟨_,e,λ_ h=>h.is⟩
def OI.mono{H a:Hp}{b C:ak}(x:OI H b C)(s:ZE H a):OI a b C:=let ⟨φ,e,k⟩:=x;⟨φ,s _ _ e,k⟩
inductive Qs(K:zZ)(d:jf)(H:Hp)(Q:VK):Prop
 |mk(a C c b:_)(_:d=[.ref a,c])(_:OI H a C)(_:Wr K C)(_:MT c=true)(_:yS K (.ref C) (cV c)=some b)(_:Q (.bl b) H)
inductive Qi(K:zZ)(f:jf)(H:Hp)(Q:VK):Prop
 |mk(d C e a b:_)(_:f=[.ref d,.ref e])(_:OI H d C)(_:Wr K C)(_:H e=some (.tup a))(_:∀ c∈a,MT c=true)(_:sG K (.ref C) (a.map cV)=some b)(_:Q (.bl b) H)
section
def Hx:Vp X (.builtin "isinstance") (Qs X.K):=by
 intro f s t H p n Q I r h;let⟨d,C,c,b,rfl,⟨v,e,k⟩,g,i,j,q⟩:=h;let⟨u,o,rfl,l,a⟩:=N0 r;cases(show u=Value.ref d from l);rw[EI a i];exact xG (E5 g) I.kIn (k _ (I.hok d _ e).1) j (λz=>nomatch z) λm=>⟨.bl b,H,I.tok m,Z,q⟩
def AO:Vp X (.builtin "isinstance") (Qi X.K):=by
 intro g s L H J G Q I r h;let⟨d,C,A,D,b,rfl,⟨M,e,t⟩,i,k,l,m,q⟩:=h;let⟨u,B,rfl,w,c⟩:=N0 r;cases(show u=Value.ref d from w);cases(show B=Value.ref A from c);let⟨p,x,v,_⟩:=I.tuple (Zv.of k);let j:=GT x l;subst j;let⟨⟨cls,E,data,F⟩,o,a,n,f⟩:=v;simp only at a f;subst a f;exact PySem.W.kia_tup (E5 i) I.kIn (t _ (I.hok d _ e).1) o m (λz=>nomatch z) λy=>⟨.bl b,H,I.tok y,Z,q⟩
variable{C fI:ak}{f:Str}{e o value:Expr}{es:jx}{ta tv:TE}{t:TA}{pos pos' p:aJ}{x:Str}
def ZF.newx{g:jq}{j:St}{H:Hp}{s:al}{h':aE}{ea:ak}(I:ZF X g j H s)(d:∀ b o,s.heap.get? b=some o->h'.get? b=some o)(n:s.heap.get? ea=none)(m:VL KS ea C none h'):ZF X g j (upd H ea (XO KS ea C none)) { s with heap:=h' }:=by
 let l:H ea=none:=by
  cases z:H ea with
  | none=>rfl
  | some o=>
   let⟨A,q⟩:=I.hok.there (a:=ea) (by rw[z];exact λy=>nomatch y)
   rw[n] at q;cases q
 let i:∀{b:ak}{o:HO},H b=some o->b≠ea:=fun{b o} q z=>by rw[z,l] at q;cases q
 refine I.call' (s':={ s with heap:=h' }) (ch:=[]) Z ⟨λb o q _ _ _=>d b o q,λb o q _ _ _=>⟨o.slots,d b o q⟩,λb o q z _=>?_,λb o q _=>⟨o,d b o q⟩,λb w q=>?_,λb o u q=>?_,λb B q=>⟨#[],?_⟩⟩ (λb v q=>?_) I.bare (λb k=>absurd k (by simp))
 ·rw[ZR (λy=>by rw[y,n] at q;cases q)];exact z
 ·rw[ZR (i q)];exact q
 ·rw[ZR (i q)];exact q
 ·rw[ZR (i q),q];simp
 ·by_cases z:b=ea
  ·rw[z,ZV] at q;cases q;rw[z];exact Dd m
  ·rw[ZR z] at q;exact(I.hok b v q).stay (λc u _ r=>d c u r) (λc h=>by rw[ZR (i h)];exact h) (λc w h=>by rw[ZR (i h)];exact h)
end
def BC(f:js->js)(o:aI):(Obj.mapFields f o).dict=o.dict:=by
 let⟨c,d,a,b⟩:=o;cases a <;> rfl
def MJ(B:aE)(cls:aj)(b:js):Prop:=b[2]? = some .none\/∀ C o a,cls=.ref C->B.get? C=some o->o.data=.cls a->a.name ≠ "NoStem"
def ZQO(h B:aE)(e:ak)(cls:aj)(g:ju)(f:aj):Prop:=
 ∃ a b T c d,(h.get? e=some a/\a.cls=cls/\a.dict=g/\a.data=.fields b/\b[1]? = some (.ref T))/\B.get? T=none/\T≠e/\h.get? T=some c/\c.data=.fields d/\d[3]? = some f/\MJ B cls b
def Vb(B:aE)(l:jw)(e:ak)(cls:aj)(b:ju)(a:aj)(h:aE):Prop:=B.StaysIn h/\B.get? e=none/\h.FunFrames B l/\ZQO h B e cls b a
def Vb.at{B h:aE}{l:jw}{e C:ak}{f:ju}{g:aj}(x:Vb B l e (.ref C) f g h):VL NZ e C f h:=by
 let⟨_,_,_,i,j,T,k,m,⟨a,b,c,d,_⟩,_⟩:=x;exact⟨i,j,a,b,d,c,trivial⟩
section
variable{M:Model}{B:aE}{env:Env}{outer l:jw}{L e:ak}{cls:aj}{od:ju}{Q:Unit->al->Prop}
def GH{oe:aI}{vs:js}{first:aj}{nx:Bool}(fr:A.frames=some (env::outer))(ff:s.heap.FunFrames B (env::outer))(eL:env.frame=some L)(ge:s.heap.get? e=some oe)(sb:B.StaysIn s.heap)(eB:B.get? e=none)(dd:oe.data=.fields vs)(two:1<vs.size)(cx:MJ B oe.cls vs)(h:∀ h',Vb B (env::outer) e oe.cls oe.dict (rawInt L) h'->s.heap.UpToSlots h'->Q () { s with heap:=h' }):
  aC M A (frameOf env >>= λa=>entryPlaceOf L nx >>= λpl=>EntryCells.newEntry first a .none (rawInt L) .none pl >>= λb=>setField (.ref e) 1 b) Q E s:=by
 let en:e∉(env::outer).filterMap (·.frame):=λz=>by
  let⟨_,o,g1,g2⟩:=ff.mem z;rw[ge] at g1;cases g1;exact g2 vs dd
 refine aa (wpAny_frameOf_fun fr ff eL λh1 k1=>aa (wpAny_entryPlaceOf λpl kp=>?_));unfold EntryCells.newEntry newFields;refine aa (wpAny_newObj_type ?_ (kp.sizeOk5 _ _ _ _ _));let t3:([first,Value.ref L,.none,rawInt L,.none]++(if pl.isEmpty then wD 6 Value.none else pl)).toArray[3]? = some (rawInt L):=by
  first | (simp;done) | (rcases kp with rfl | ⟨_,_,_,_,_,_,_,rfl⟩ <;> simp)
 generalize ([first,Value.ref L,.none,rawInt L,.none]++(if pl.isEmpty then wD 6 Value.none else pl)).toArray=ts at t3⊢;let g1:h1.get? e=some oe:=(k1.2.1 e en).trans ge;let sb1:B.StaysIn h1:=λb o q=>(k1.2.1 b λz=>by rw[(ff.mem z).1] at q;cases q).trans (sb b o q)
 let eT:h1.objs.size≠e:=λz=>vX _ (by have:=zG g1;rw[<-z] at this;exact this)
 let g2:=zB (h:=h1) ({ cls:=.type "traceback",dict:=none,data:=.fields ts }:aI) g1;let d3:=Obj.data_mapFields dd (·.setIfInBounds 1 (Value.ref h1.objs.size));let g3:=vB (Obj.mapFields (·.setIfInBounds 1 (Value.ref h1.objs.size))) g2 (Obj.isFreed_of_fields d3);let gT:=(vA (h1.push ({ cls:=.type "traceback",dict:=none,data:=.fields ts }:aI)) (Obj.mapFields (·.setIfInBounds 1 (Value.ref h1.objs.size))) eT.symm).trans (yO h1 Z);let stay:∀ b o,b≠e->h1.get? b=some o->((h1.push ({ cls:=.type "traceback",dict:=none,data:=.fields ts }:aI)).update e (Obj.mapFields (·.setIfInBounds 1 (Value.ref h1.objs.size)))).get? b=some o:=λb o n q=>
  (vA _ _ n.symm).trans (zB _ q)
 let notE:∀ b o,s.heap.get? b=some o->(∀ ws,o.data≠.fields ws)->b≠e:=λb o q nf z=>by
  rw[z,ge] at q;cases q;exact nf vs dd
 refine wpAny_setField g2 dd two (h _ ⟨λb o q=>stay b o (λz=>by rw[z,eB] at q;cases q) (sb1 b o q),eB,ff.of_keeps λb o q nf=>?_,_,_,h1.objs.size,_,_,⟨g3,Obj.cls_mapFields _ _,BC _ _,d3,by simp[two]⟩,sb1.fresh,eT,gT,Z,t3,cx.imp (λz=>by rw[Array.getElem?_setIfInBounds_ne (by decide)];exact z) id⟩ λb o q nf=>?_)
 ·let⟨sl,z⟩:=k1.2.2 b o q;exact⟨_,stay b _ (notE b o q nf) z,Z⟩
 ·let⟨sl,z⟩:=k1.2.2 b o q;exact⟨sl,stay b _ (notE b o q nf) z⟩
def NF{F:aj}(x:Vb B l e cls od F s.heap)(h:∀ j,Vb B l e cls od .none j->s.heap.UpToSlots j->Q () { s with heap:=j }):aC M A (setFlight (.ref e) none) Q E s:=by
 let⟨H,C,D,G,J,T,N,t,⟨p,v,w,m,u⟩,TB,k,i,g,I,y⟩:=x;let r:3<t.size:=(uC.mp I).1;let a:∀ b,b≠T->(s.heap.update T (Obj.mapFields (·.setIfInBounds 3 ((none:ju).elim Value.none λf=>rawInt f)))).get? b=s.heap.get? b:=λb n=>vA _ _ n.symm;let c:∀ b o,s.heap.get? b=some o->(∀ K,o.data≠.fields K)->b≠T:=λb o q d z=>by
  rw[z,i] at q;cases q;exact d t g
 unfold setFlight;refine aa (wpAny_field p m u ?_);rw[aP (show (Value.ref T != Value.none)=true by simp)]
 refine wpAny_setField i g r (h _ ⟨λb o q=>(a b λz=>by rw[z,TB] at q;cases q).trans (H b o q),C,D.of_keeps λb o q d=>⟨o,(a b (c b o q d)).trans q,Z⟩,?_⟩ λb o q d=>⟨o.slots,(a b (c b o q d)).trans q⟩)
 exact⟨G,J,T,_,_,⟨(a e k.symm).trans p,v,w,m,u⟩,TB,k,vB _ i (Obj.isFreed_of_fields (Obj.data_mapFields g _)),Obj.data_mapFields g _,by simp[r],y⟩
def ZIg{a:aI}{c:js}(n:A.frames=some (env::outer))(m:s.heap.FunFrames B (env::outer))(f:env.frame=some L)(g:s.heap.get? e=some a)(o:B.StaysIn s.heap)(k:B.get? e=none)(d:a.data=.fields c)(i:c[1]? = some .none)(j:MJ B a.cls c)(h:∀ b,Vb B (env::outer) e a.cls a.dict (rawInt L) b->s.heap.UpToSlots b->Q () { s with heap:=b }):aC M A (noteFrame (.ref e) env) Q E s:=by
 unfold noteFrame;simp only[f];refine aa (wpAny_field g d i ?_);rw[aO (by decide)]
 exact GH n m f g o k d (uC.mp i).1 j h
def Jr(G:A.frames=some (env::outer))(k:env.frame=some L)(x:Vb B (env::outer) e cls od .none s.heap)(h:∀ f,Vb B (env::outer) e cls od (rawInt L) f->s.heap.UpToSlots f->Q () { s with heap:=f }):
  aC M A (noteFrame (.ref e) env) Q E s:=by
 let⟨I,C,F,O,P,T,N,r,⟨m,v,w,j,t⟩,TB,u,i,g,p,y⟩:=x;subst v w;let H:3<r.size:=(uC.mp p).1;let a:∀ b,b≠T->(s.heap.update T (Obj.mapFields (·.setIfInBounds 3 Value.none))).get? b=s.heap.get? b:=λb n=>vA _ _ n.symm;let c:∀ b o,s.heap.get? b=some o->(∀ K,o.data≠.fields K)->b≠T:=λb o q d z=>by
  rw[z,i] at q;cases q;exact d r g
 unfold noteFrame;simp only[k];refine aa (wpAny_field m j t ?_);rw[aP (show (Value.ref T != Value.none)=true by simp)]
 refine aa (wpAny_field i g p ?_);rw[aO (show ¬ ((Value.none==rawInt L)=true) by simp[rawInt])]
 refine aa (wpAny_setField i g H ?_);refine GH (s:={ s with heap:=_ }) G (F.of_keeps λb o q d=>⟨o,(a b (c b o q d)).trans q,Z⟩) k ((a e u.symm).trans m) (λb o q=>(a b λz=>by rw[z,TB] at q;cases q).trans (I b o q)) C j (uC.mp t).1 y λf D J=>h f D λb o q d=>?_
 exact J b o ((a b (c b o q d)).trans q) d
def Vb.less{f:aj}{h:aE}(x:Vb B (env::outer) e cls od f h):Vb B outer e cls od f h:=by
 let⟨a,b,⟨_,_,c⟩,d⟩:=x;exact⟨a,b,c,d⟩
def ZIM(f:A.frames=some (env::outer))(b:env.frame=some L)(x:Vb B (env::outer) e cls od .none s.heap)(h:∀ a,Vb B outer e cls od .none a->s.heap.UpToSlots a->Q () { s with heap:=a }):aC M A (leaving env (.ref e)) Q E s:=by
 unfold leaving;exact aa (Jr f b x λg c j=>NF (s:={ s with heap:=g }) c λi d k=>h i d.less (j.trans k))
def Av{a:aI}{c:js}(n:A.frames=some (env::outer))(m:s.heap.FunFrames B (env::outer))(i:env.frame=some L)(o:s.heap.get? e=some a)(r:B.StaysIn s.heap)(g:B.get? e=none)(f:a.data=.fields c)(v:c[1]? = some .none)(d:MJ B a.cls c)(h:∀ b,Vb B outer e a.cls a.dict .none b->s.heap.UpToSlots b->Q () { s with heap:=b }):aC M A (leaving env (.ref e)) Q E s:=by
 unfold leaving;exact aa (ZIg n m i o r g f v d λp j t=>NF (s:={ s with heap:=p }) j λq k u=>h q k.less (t.trans u))
end
def ZIL{a:am}{w:ax}{A:ay}{E:ja}{s:al}{c:Env}{K:zZ}{C:ak}{x:Sem aj}{Q:Flow->al->Prop}(F:A.handled=none)(H:yI K C (.type "BaseException")=some true)(G:xB K (.ref C)=some (.type "type"))(h:aC (aB a w) A x (λv b=>∃ e q,v=.ref e/\K.In b.heap/\VL KS e C q b.heap/\E (.ref e) b) E s):aC (aB a w) A (raiseStmt c (some x) none) Q E s:=by
 unfold raiseStmt;refine aa (af h (λv b B=>?_) λ_ _ z=>z);let⟨e,q,rfl,k,⟨⟨L,i,I,j⟩,r,o,l,m,n,J,P⟩,D⟩:=B;dsimp only at l m n;subst l m n;let⟨p,g,d,O,N⟩:=b;let t:tU (aB a w) p (typeOf (.ref e)) (.ref C):=WQ.ty ⟨_,o,Z⟩ _;let u:=qY (M:=aB a w) k H;let y:=qR (M:=aB a w) k G;let f:p.get? e=some ⟨.ref C,i,.fields r,j⟩:=o;unfold excFromValue isExcClass isInstance isType raisedInstance setFlight
 repeat (first | with_reducible refine wpAny_loadPart_at f ?_ | with_reducible refine u.at ?_ | with_reducible refine t.at ?_ | with_reducible refine y.at ?_ | wp_step)
 rw[show r[1]? = some Value.none from J]
 repeat wp_step
 all_goals first | exact wpAny_raiseNew_none F D | trace_state
structure US(P:am)(w:ax)(outer:jw)(H:Hp)(s:al)(ea:ak)(cls:aj)(od:ju)(H':Hp)(s':al):Prop where
 ex:∃ B:aE,Vb B outer ea cls od .none s'.heap/\(∀ b o,s'.heap.get? b=some o->H' b≠none->B.get? b=some o)/\(∀ b o,s.heap.get? b=some o->H b=none->b∉frs outer->B.get? b=some o)/\(∀ b o,s.heap.get? b=some o->b∉frs outer->∃ o',B.get? b=some o')
 os:s'.os=s.os
 bare:AllBare s'.gens
 un:Un (frs outer) [] H H' s.heap s'.heap
 hok:Y5 P w H' s'.heap
 new:s.heap.get? ea=none
 free:H' ea=none
def Yn(P:am)(w:ax):VU:=λa H s E e f=>∃ c cls d b,e=.ref c/\US P w a H s c cls d b f/\E cls d b
structure Uj(X:Cx)(E:XK):Prop where
 stack:X.stack=X.env::X.outer
 frame:X.env.frame=some X.env.locals
 ex:X.ex=[]
 calm:X.calm=true
 xe:∀ e s',aC (aB X.prog X.w) X.A (leaving X.env e) (λ_ s''=>Yn X.prog X.w X.outer X.H₀ X.s₀ E e s'') (λe' s''=>Yn X.prog X.w X.outer X.H₀ X.s₀ E e' s'') s'->X.xe e s'
def OV{P:am}{w:ax}{K:zZ}{g:jc}{c:aE}{N:jp}{d:Str}{b:aF}{f:ak}{e:aj}{A:ay}{a:jw}{s:al}{H:Hp}{E:XK}:
  Uj (Wu (Yn P w) P w K g c N d b f e A a s H E) E:=⟨Z,Z,Z,Z,λ_ _ h=>h⟩
section
variable{kg:jq}{σ:St}{H H':Hp}{s':al}{E:XK}
def Uj.frs(F:Uj X E):frs X.stack=X.env.locals::X.fs:=by
 rw[F.stack];show List.filterMap _ (X.env::X.outer)=_;rw[tH,F.frame];rfl
def Uj.off(F:Uj X E)(I:ZF X kg σ H s){b:ak}{o:aI}(q:X.s₀.heap.get? b=some o)(n:b∉L2.frs X.outer):b∉L2.frs X.stack:=λz=>by
 rw[F.frs] at z;rcases zQ.mp z with z | z
 ·rw[z,I.noloc] at q;cases q
 ·exact n z
def Uj.on(F:Uj X E){b:ak}(n:b∈L2.frs X.outer):b∈L2.frs X.stack:=by
 rw[F.frs];exact zK _ n
def ZOO{B h:aE}{g:ak}(F:Uj X E)(J:ZF X kg σ H s)(r:B.StaysIn h)(d:∀ b o,b≠g->s.heap.get? b=some o->b∉L2.frs X.stack->B.get? b=some o)(p:s.heap.UpToSlots h)(i:X.s₀.heap.get? g=none):
  Un (L2.frs X.outer) [] X.H₀ H X.s₀.heap h:=by
 let c:=J.base;rw[F.ex] at c;let l:∀{b:ak}{o:aI},X.s₀.heap.get? b=some o->b≠g:=λq z=>by rw[z,i] at q;cases q
 let m:∀{b:ak}{o:aI},b∈L2.frs X.stack->s.heap.get? b=some o->∀ v,o.data≠.fields v:=λa q=>Jx J _ a _ q;refine⟨λb o q n a _=>r b o (d b o (l q) (c.keep b o q n a (by simp)) (F.off J q a)),λb o q n a _=>?_,c.free,λb o q _=>?_,c.tups,c.frzs,c.tbls⟩
 ·let⟨u,e⟩:=c.slot b o q n a (by simp)
  let⟨k,t⟩:=p b _ e (m (F.on a) e);exact⟨k,t⟩
 ·let⟨f,j⟩:=c.there b o q (by simp)
  by_cases a:b∈L2.frs X.stack
  ·let⟨u,e⟩:=p b f j (m a j);exact⟨_,e⟩
  ·exact⟨f,r b f (d b f (l q) j a)⟩
def ZF.untrack{a:ak}{g:aE->Prop}(I:ZF X kg σ (upd H a (.ext g)) s)(l:H a=none):ZF X kg σ H s:=by
 let v:∀{b:ak}{u:HO},H b=some u->b≠a:=fun{b u} e z=>by rw[z,l] at e;cases e
 let h:∀{b:ak},upd H a (.ext g) b=none->H b=none:=fun{b} e=>by
  by_cases z:b=a
  ·rw[z];exact l
  ·rw[ZR z] at e;exact e
 let d:∀{b:ak}{u:HO},upd H a (.ext g) b=some u->(∀ y,u≠.ext y)->H b=some u:=fun{b u} e k=>by
  by_cases z:b=a
  ·rw[z,ZV] at e;exact absurd (yU.inj e).symm (k g)
  ·rw[ZR z] at e;exact e
 refine⟨I.ok,I.os,I.bare,⟨I.base.keep,I.base.slot,λb j q n t=>h (I.base.free b j q n t),I.base.there,λb m q=>d (I.base.tups b m q) (λ_ z=>nomatch z),λb j u q=>d (I.base.frzs b j u q) (λ_ z=>nomatch z),λb w q=>?_⟩,I.loc,I.cell,h I.free,λx c e=>h (I.freeC x c e),λp i=>?_,λb u e=>?_,I.len⟩
 ·let⟨f,e⟩:=I.base.tbls b w q;exact⟨f,d e (λ_ z=>nomatch z)⟩
 ·let⟨e,n,r⟩:=I.pin p i;exact⟨e,h n,r⟩
 ·let o:upd H a (.ext g) b=some u:=by rw[ZR (v e)];exact e
  exact(I.hok b u o).stay (λ_ _ _ q=>q) (λc q=>d q (λ_ z=>nomatch z)) λc m q=>d q (λ_ z=>nomatch z)
def ZKo{c C:ak}{m:ju}{g:js->Prop}(F:Uj X E)(J:ZF X kg σ H s)(e:X.s₀.heap.get? c=none)(u:H c=none)(Q:VL g c C m s.heap)(K:∀ f,g f->f[1]? = some .none)(L:∀ f B,g f->(∀ b o,B.get? b=some o->s.heap.get? b=some o)->MJ B (.ref C) f)(N:E (.ref C) m H):X.xe (.ref c) s:=by
 let⟨U,f,I,r,w,x,t⟩:=Q;let T:=K f t;let G:X.A.frames=some (X.env::X.outer):=by rw[J.ok.frames,F.stack]
 let D:s.heap.FunFrames (uP s.heap (c::L2.frs X.stack)) (X.env::X.outer):=by
  have:=PySem.W.funFrames_hide (as:=c::L2.frs X.stack) J.stack (λl P a O=>zK _ (tJ.mpr ⟨l,P,O⟩));rw[F.stack] at this⊢;exact this
 let d:∀ b o,b≠c->s.heap.get? b=some o->b∉L2.frs X.stack->(uP s.heap (c::L2.frs X.stack)).get? b=some o:=λb o n q h=>pU _ q (λz=>by
  rcases zQ.mp z with z | z
  ·exact n z
  ·exact h z)
 let inT:∀ b o,s.heap.get? b=some o->H b≠none->(uP s.heap (c::L2.frs X.stack)).get? b=some o:=λb o q n=>d b o (λz=>n (by rw[z];exact u)) q λz=>n (J.stkFree b z)
 let y:(uP s.heap (c::L2.frs X.stack)).get? c=none:=qS _ (by simp)
 refine F.xe _ _ (Av G D F.frame I (λb o q=>rC _ q) y w T (by rw[r];exact L f _ t λb o q=>rC _ q) λM j S=>?_)
 rw[r,x] at j;refine⟨c,_,m,H,Z,⟨⟨_,j,λb o q n=>?_,λb o q n h=>?_,λb o q h=>?_⟩,J.os,J.bare,ZOO F J j.1 d S e,J.hok.keptT λb o q n=>j.1 b o (inT b o q n),e,u⟩,N⟩
 ·let⟨i,k⟩:=J.hok.there n;let R:=j.1 b i (inT b i k n);let v:M.get? b=some o:=q;rw[R] at v;rw[<-yU.inj v];exact inT b i k n
 ·let p:=J.base;rw[F.ex] at p;exact d b o (λz=>by rw[z,e] at q;cases q) (p.keep b o q n h (by simp)) (F.off J q h)
 ·let⟨i,k⟩:=J.base.there b o q (by rw[F.ex];simp)
  exact⟨i,d b i (λz=>by rw[z,e] at q;cases q) k (F.off J q h)⟩
def AB{a C:ak}{c:ju}(F:Uj X E)(J:ZF X kg σ H s)(b:X.s₀.heap.get? a=none)(e:H a=none)(f:VL KS a C c s.heap)(d:E (.ref C) c H):X.xe (.ref a) s:=ZKo F J b e f (λ_ z=>z.1) (λ_ _ z _=>.inl z.2) d
def A8{i:ak}{cls:aj}{r:ju}{B j:aE}(F:Uj X E)(I:ZF X kg σ H s)(W:US X.prog X.w X.stack H s i cls r H' s')(inT:∀ b o,s'.heap.get? b=some o->H' b≠none->B.get? b=some o)(v:∀ b o,s.heap.get? b=some o->H b=none->b∉L2.frs X.stack->B.get? b=some o)(m:∀ b o,s.heap.get? b=some o->b∉L2.frs X.stack->∃ c,B.get? b=some c)(f:Vb B X.outer i cls r .none j)(O:s'.heap.UpToSlots j)(q:E cls r H'):Yn X.prog X.w X.outer X.H₀ X.s₀ E (.ref i) { s' with heap:=j }:=by
 let d:=I.base;rw[F.ex] at d;let L:∀{b:ak}{o:aI},b∈L2.frs X.stack->s.heap.get? b=some o->∀ y,o.data≠.fields y:=λa q=>Jx I _ a _ q;let p:∀ b o,X.s₀.heap.get? b=some o->X.H₀ b=none->b∉L2.frs X.outer->B.get? b=some o:=λb o q n a=>v b o (d.keep b o q n a (by simp)) (d.free b o q n (by simp)) (F.off I q a)
 let g:∀ b o,s.heap.get? b=some o->b∈L2.frs X.stack->∃ t,j.get? b=some { o with slots:=t }:=λb o q a=>by
  let⟨t,h⟩:=W.un.slot b o q (I.stkFree b a) a (by simp)
  let⟨g,l⟩:=O b _ h (λy z=>L a q y z);exact⟨g,l⟩
 let u:Un (L2.frs X.outer) [] X.H₀ H' X.s₀.heap j:=by
  refine⟨λb o q n a _=>f.1 b o (p b o q n a),λb o q n a _=>?_,λb o q n _=>?_,λb o q _=>?_,λb D q=>W.un.tups b D (d.tups b D q),λb o u q=>W.un.frzs b o u (d.frzs b o u q),λb M q=>?_⟩
  ·let⟨t,h⟩:=d.slot b o q n a (by simp)
   let⟨x,G⟩:=g b _ h (F.on a);exact⟨x,G⟩
  ·let⟨c,e⟩:=d.there b o q (by simp)
   exact W.un.free b c e (d.free b o q n (by simp)) (by simp)
  ·let⟨c,e⟩:=d.there b o q (by simp)
   by_cases a:b∈L2.frs X.stack
   ·let⟨t,h⟩:=g b c e a;exact⟨_,h⟩
   ·let⟨A,l⟩:=m b c e a;exact⟨A,f.1 b A l⟩
  ·let⟨J,h⟩:=d.tbls b M q;let⟨K,l⟩:=W.un.tbls b _ h;exact⟨J++K,by rw[l,Array.append_assoc]⟩
 refine⟨i,cls,r,H',Z,⟨⟨B,f,λb o k n=>?_,p,λb o k a=>?_⟩,W.os.trans I.os,W.bare,u,W.hok.keptT λb o k n=>f.1 b o (inT b o k n),?_,W.free⟩,q⟩
 ·let⟨c,e⟩:=W.hok.there n;let N:=f.1 b c (inT b c e n);let C:j.get? b=some o:=k;rw[N] at C;rw[<-yU.inj C];exact inT b c e n
 ·let⟨c,e⟩:=d.there b o k (by simp)
  exact m b c e (F.off I k a)
 ·cases z:X.s₀.heap.get? i with
  | none=>rfl
  | some o=>
   let⟨c,e⟩:=d.there i o z (by simp)
   rw[W.new] at e;cases e
def FR{d:XK}(F:Uj X E)(i:∀ cls o H,d cls o H->E cls o H):QP (Yn X.prog X.w) X d:=by
 intro kg σ H s e s' I h;let⟨k,cls,m,H',rfl,W,q⟩:=h;let⟨B,f,inT,c,b⟩:=W.ex;let g:X.A.frames=some (X.env::X.outer):=by rw[I.ok.frames,F.stack]
 exact F.xe _ _ (ZIM g F.frame (by rw[<-F.stack];exact f) λl a j=>A8 F I W inT c b a j (i _ _ _ q))
end
def Gx(K:zZ)(e:ak)(i:Nat)(g:TS)(D:YM)(h:St):XK:=λcls f d=>∃ C,cls=.ref C/\yI K C (.ref e)=some true/\∀ c,d c=none ->
 g { nx:=λa b=>D.nx (a.set i none) b,rt:=D.rt,bk:=λa b=>D.bk (a.set i none) b,ct:=λa b=>D.ct (a.set i none) b } (h.set i (some (.ref c))) (upd d c (XO NZ c C f))
def KC{X:Cx}{d:jq}{p:St}{H i:Hp}{s g:al}{t:ak}{u:ju}{B f:aE}{cls:aj}(I:ZF X d p H s)(W:US X.prog X.w X.stack H s t cls u i g)(inT:∀ b o,g.heap.get? b=some o->i b≠none->B.get? b=some o)(k:∀ b o,s.heap.get? b=some o->H b=none->b∉frs X.stack->B.get? b=some o)(j:∀ b o,s.heap.get? b=some o->b∉frs X.stack->∃ h,B.get? b=some h)(m:B.StaysIn f)(v:g.heap.UpToSlots f):
  ZF X d p i { g with heap:=f }:=by
 let c:∀ b o,s.heap.get? b=some o->b∈frs X.stack->∃ l,f.get? b=some { o with slots:=l }:=λb o q a=>by
  let⟨l,e⟩:=W.un.slot b o q (I.stkFree b a) a (by simp)
  let⟨c,r⟩:=v b _ e (λx z=>Jx I b a o q x z);exact⟨c,r⟩
 refine I.call' (s':={ g with heap:=f }) W.os ⟨λb o q n a _=>m b o (k b o q n a),λb o q n a _=>c b o q a,W.un.free,λb o q _=>?_,W.un.tups,W.un.frzs,W.un.tbls⟩ (W.hok.keptT λb o q n=>m b o (inT b o q n)) W.bare (λb a=>absurd a (by simp))
 by_cases a:b∈frs X.stack
 ·let⟨l,e⟩:=c b o q a;exact⟨_,e⟩
 ·let⟨h,e⟩:=j b o q a;exact⟨h,m b h e⟩
def Zh.okD{x b:Str}{g:aD}{f:ak}{n:ao}{N l:jp}{k:Nat}{m:Sp}(F:Zh K x b g f n)(S:ZB N l (Za g))(j:∀ e H Q E,m e H Q E->e.length=l.length)(d:∀ (c:aj) (A:ay) (a:jw) (s:al) (H:Hp) (e:jf) (Q:VK) (E:XK),ZS k (A.deeper (envOfC b (Za g) s.heap.objs.size f c))->m e H Q E ->
   let X:=(Wu (Yn P w) P w K mg kh N b (Za g) f c A a s H E);∃ t,X5 X (WJ g) t/\t { nx:=λ_ o=>Q .non o,rt:=Q } (QW N e) H):ZI P w K mg kh (Yn P w) (k+1) f n l m:=by
 let⟨y,z,kV,p,B,v,c,ct,u,rfl,r,h⟩:=F.ex;exact JO r h S j λA a s H e Q E q i=>d c A a s H e Q E q i
def Zh.kD{x a:Str}{g:aD}{f:ak}{m:ao}{N j:jp}{k:Nat}{l:Sp}(F:Zh K x a g f m)(S:ZB N j (Za g))(b:∀ (e:aj) (A:ay) (c:jw) (s:al) (H:Hp) (d:jf) (Q:VK) (E:XK),ZS k (A.deeper (envOfC a (Za g) s.heap.objs.size f e))->l d H Q E ->
   let X:=(Wu (Yn P w) P w K mg kh N a (Za g) f e A c s H E);∃ t,X5 X (WJ g) t/\t { nx:=λ_ n=>Q .non n,rt:=Q } (QW N d) H)(i:∀ d H Q E,l d H Q E->d.length=j.length:=by intro d _ _ _ h;cases h;(try subst d);rfl):ZI P w K mg kh (Yn P w) (k+1) f m j l:=F.okD S i b
inductive QH(a:zZ)(x y:V)(H:Hp)(Q:VK):Prop
 |mk(p b c:_)(_:x=.ref p)(_:y=.ref b)(_:ZK a H p c)(_:ZK a H b [])(_:Q (.bl (!c.isEmpty)) H)
def ZKz(f:X.A.units<cLine):Yy X (aA .NotEq) (QH X.K):=by
 intro l s J H x y v u Q I C D h;let⟨p,b,E,rfl,rfl,c,o,q⟩:=h;cases C;cases D;let⟨d,z,i,F⟩:=I.list c;let⟨a,B,k,G⟩:=I.list o;let g:=z.length;let t:=B.length;let n:a=[]:=vP (by rw[<-t];rfl)
 subst n
 cases E with
 | nil=>
  let m:d=[]:=vP (by rw[<-g];rfl)
  subst m;exact PySem.SeqAt.RcNeAt.lists (e:=λ_=>true) i.isList k.isList Z f (λj c _=>absurd c (by simp)) X.prog X.w X.xe _ (Y4 I q (by simp))
 | cons x r=>exact PySem.SeqAt.RcNeAt.lists_lengths i.isList k.isList (by simp;intro e;subst e;simp at g) f X.prog X.w X.xe _ (Y4 I q Z)
end L2
namespace Tw
open PySem PySem.Spec L2
variable{kc ke CS CT CH CK CP CB:ak}
noncomputable def top(i:Nat):Stmt:=PySem.Challenge.pw_twigmap_k41_puts.main.body.getD i (.Pass ⟨0,0,0,0⟩)
abbrev HJ:Stmt:=top 14
abbrev KD:Stmt:=top 15
abbrev LB:Stmt:=top 16
abbrev IY:Stmt:=top 17
abbrev Kh:Stmt:=top 18
abbrev Iw:Stmt:=top 19
abbrev IZ:Stmt:=top 20
abbrev Le:Stmt:=top 21
abbrev J9:Stmt:=top 31
abbrev Kx:Stmt:=top 32
abbrev Jp:Stmt:=top 33
abbrev Kf:Stmt:=top 34
abbrev Jg:Stmt:=top 35
abbrev ID:Stmt:=top 36
abbrev Jk:Stmt:=top 38
abbrev JA:Stmt:=top 39
abbrev HD:Stmt:=top 41
abbrev Jq:Stmt:=top 42
abbrev Jm:Stmt:=top 43
abbrev JR:Stmt:=top 44
abbrev JY:Stmt:=top 45
abbrev Lu:Stmt:=top 46
abbrev K2:Stmt:=top 48
abbrev Hg:Stmt:=top 49
abbrev IO:Stmt:=top 50
abbrev JW:Stmt:=top 53
abbrev Ji:Stmt:=top 56
abbrev IU:Stmt:=top 57
abbrev JV:Stmt:=top 58
abbrev Jb:Stmt:=top 59
abbrev Ia:Stmt:=top 60
abbrev Ks:Stmt:=top 61
abbrev HG:Stmt:=top 66
abbrev IF:Stmt:=top 68
abbrev Kc:Stmt:=top 69
abbrev Iz:Stmt:=top 70
abbrev Ka:Stmt:=top 71
abbrev Ly:Stmt:=top 72
abbrev Li:Stmt:=top 73
abbrev JP:Stmt:=top 74
abbrev IH:Stmt:=top 75
abbrev NL:Stmt:=top 76
abbrev M6:Stmt:=top 77
abbrev IG:Stmt:=top 78
abbrev Kd:Stmt:=top 79
abbrev KY:Stmt:=top 80
abbrev HI:Stmt:=top 81
abbrev HK:Stmt:=top 82
abbrev Kp:Stmt:=top 83
abbrev NI:Stmt:=top 84
abbrev Jf:Stmt:=top 85
abbrev Nn:Stmt:=top 86
abbrev Uf:Stmt:=top 87
structure Yb(mg:jc):Prop where
 isi:mg "isinstance" = none
 bool:mg "bool" = none
 int:mg "int" = none
 str:mg "str" = none
 tuple:mg "tuple" = none
 list:mg "list" = none
 len:mg "len" = none
 all:mg "all" = none
 abs:mg "abs" = none
 max:mg "max" = none
 min:mg "min" = none
 range:mg "range" = none
 sorted:mg "sorted" = none
 ValueError:mg "ValueError" = none
 sum:mg "sum" = none
 signs:∃ t,mg "MOST_SIGNS" = some (.int 40 t)
 things:∃ t,mg "MOST_THINGS" = some (.int 4 t)
 deep:∃ t,mg "MOST_DEEP" = some (.int 3 t)
 rows:∃ t,mg "MOST_ROWS" = some (.int 4 t)
 few:∃ t,mg "FEWEST_BRANCHES" = some (.int 2 t)
 most:∃ t,mg "MOST_BRANCHES" = some (.int 4 t)
 height:∃ t,mg "HEIGHT" = some (.int 0 t)
 least:∃ t,mg "LEAST" = some (.int 1 t)
 greatest:∃ t,mg "GREATEST" = some (.int 2 t)
 many:∃ t,mg "MANY" = some (.int 3 t)
 kept:∃ t,mg "KEPT" = some (.int 3 t)
theorem Q4:ZB ["_law_well_here","_law_many","_law_found","_law_first","_law_second"] zEc (Za Kc):=Zr
theorem ZN9(F:Zh K "_law_pull" "_law_pull" Kc f fd):ZI P w K mg kh ZO 1 f fd zEc Zy:=by
 refine F.ok Q4 (λz H Q E h=>?_) (λy A q s H z Q E G h=>?_)
 ·let⟨p,m,rfl,_⟩:=h;rfl
 let⟨p,m,rfl,W,⟨g,l⟩,k⟩:=h;let⟨a,b,c,d,n,i,j,r,D⟩:=W.ex;let o:=Q4.nd;intro B;refine⟨_,ZM (Z3 (Y2 UG (UF Zu (pv 0) ZL (λ_ _=>rfl)) ZL (YW _)) (ZT (Zf ZL)) Z4)
  (ZM (Kw (Zx Uy (UF Zu (pv 0) ZL (λ_ _=>rfl)) ZL) (JS (pv 0) ZL Jc))
  (ZM (Z3 (Y2 OH (UF Zu (pv 0) ZL (λ_ _=>rfl)) ZL (YW _))
   (ZM (Zg 2 o (Zx Pl (UF Zu (pv 0) ZL (λ_ _=>rfl)) (pv 1)))
   (ZM (Kw (Zx ZNx (UF Zu (pv 0) ZL (λ_ _=>rfl)) (pv 1)) (JS (pv 0) ZL Jc))
   (ZT (Zf (pv 2))))) Z4)
  (ZM (Kw (Zx VB (UF Zu (pv 0) ZL (λ_ _=>rfl)) ZL) (JS (pv 0) ZL Jc))
  (ZM (Zg 3 o (Zx Pl (Zx OJ (Zx VB (UF Zu (pv 0) ZL (λ_ _=>rfl)) ZL) (Zx VB ZL (Zx OJ ZL (UF Zu (pv 0) ZL (λ_ _=>rfl))))) ZL))
  (ZM (Zg 4 o (Zx Pl (Zx OJ (Zx VB (Zx Ld (pv 3) ZL) ZL) (Zx VB (Zx Pl (pv 3) ZL) ZL)) ZL))
  (ZT (Zf (Zx Pl (Zx Ld (pv 4) ZL) (pv 1))))))))),?_⟩
 exists _,Z,p,_,_,_,Z,Z,ZK.of n,Z,Z,_,Z;refine Ve (λ_=>?_) (λu=>?_)
 ·exact k 0 H (wS 0) g W (ZH.refl p H)
 let C:d≠0:=λe=>u (aM (by rw[e]))
 exists _,Z,p,_,_,_,Z,Z,ZK.of n,Z,_,_,Z,Z,_,Z,p,_,_,_,Z,Z,n,Z;exists _,Z,p,_,_,_,Z,Z,ZK.of ZV,Z,_,_,Z,Z,_,Z;refine Ve (λv=>?_) (λv=>?_)
 ·exists _,Z,p,_,_,_,Z,Z,ZK.of ZV,Z,_,Z,_,_,Z,Z,g;exists _,Z,p,_,_,_,Z,Z,ZK.of ZV,Z,_,Z,_,_,Z,Z,⟨g,l⟩,_,Z,p,_,_,_,Z,Z,ZV,Z;exists _,Z;refine k (c % m) _ (vJ _ ∅) (vF _ g) ⟨a,b,c / m,d-1,ZV,i,j,Int.ediv_nonneg r ∅,∅⟩ (ZH.refl p H).upd.upd
 ·exists _,Z,p,_,_,_,Z,Z,ZK.of ZV,Z,_,_,Z,Z,_,Z,p,_,_,_,Z,Z,ZV,Z;exists _,Z,p,_,_,_,Z,Z,ZK.of ZV,Z,_,_,Z,Z,_,Z,p,_,_,_,Z,Z,ZK.of ZV,Z,_,_,Z,Z,.inl ⟨by decide,by decide⟩,_,_,Z,Z,_,_,Z,Z,.inl ⟨∅,∅⟩,_,_,Z,Z,(by show (0:Int)<2147483629;decide)
  generalize t:(a+1) * (48271+7919 * (b+1)) % 2147483629=x;let I:0<=x:=by rw[<-t];exact vJ _ (by decide)
  let J:x<2147483629:=by rw[<-t];exact vF _ (by decide)
  exists _,Z,_,_,Z,Z,⟨by decide,by decide⟩,_,_,Z,Z,_,Z,_,_,Z,Z,(by show (0:Int)<1009;decide),_,_,Z,Z,_,_,Z,Z,.inl ⟨∅,∅⟩,_,_,Z,Z,(by show (0:Int)<1000000007;decide)
  exists _,Z,_,_,Z,Z,⟨by decide,by decide⟩,_,Z,_,_,Z,Z,g
  exact k _ _ (vJ _ ∅) (vF _ g) ⟨a,b+1,c,d-1,ZV,i,j,r,∅⟩ (ZH.refl p H).upd.upd
theorem Uu:ZB ["_law_well_here","_law_bound","_law_found","_law_j"] zEp (Za Iz):=Zr
theorem ZLX(F:Zh K "_law_great" "_law_great" Iz f fd)(T:Yb mg)(v:ZA P w K mg kh 1 "_law_pull" zEc Zy):ZI P w K mg kh ZO 2 f fd zEp Zy:=by
 refine F.ok Uu (λG H Q E h=>?_) (λB A q s H G Q E x h=>?_)
 ·let⟨p,m,rfl,_⟩:=h;rfl
 let⟨p,m,rfl,W,g,k⟩:=h;let⟨a,b,c,d,C,_⟩:=W.ex;let o:=Uu.nd;intro J;refine⟨_,ZM (Z3 (Y2 OH (UF Zu (pv 0) ZL (λ_ _=>rfl)) ZL (YW _)) (ZT (Zf (Ze v x (ZW (pv 0) (ZW (pv 1) Zj))))) Z4)
  (ZM (Zg 2 o ZL)
  (ZM (UE PassesOwn.never rfl (Mw rfl T.range (ZW ZL Zj)) (UC 3 o)
   (ZT (Zg 2 o (Zx VB (Zx OJ (pv 2) ZL) (Ze v x (ZW (pv 0) (ZW ZL Zj)))))))
  (ZT (Zf (Zx Pl (pv 2) (pv 1)))))),?_⟩
 exists _,Z,p,_,_,_,Z,Z,ZK.of C,Z,_,_,Z,Z,_,Z;refine Ve (λ_=>?_) (λ_=>?_)
 ·exact⟨_,Z,_,Z,p,m,Z,W,g,k⟩
 refine⟨8,Z,by decide,by decide,MM (n:=8) (λi u e=>∃(z:Int)(j:jg),u=[some (.ref p),some (.int m),some (.int z),j]/\ZJ e p/\ZH p H e) ⟨0,none,Z,W,ZH.refl p H⟩ ?_ ?_⟩
 ·rintro i u e L ⟨z,j,rfl,l,t⟩;exists _,Z,_,_,Z,Z,.inr ⟨by decide,by decide⟩,_,Z,p,62500000,Z,l,Wy (by decide) (by decide)
  intro r I _ _ y D;exact⟨_,_,Z,Z,_,_,Z,y,t.trans D⟩
 ·rintro u e ⟨z,j,rfl,l,t⟩;exists _,Z,_,Z,_,_,Z,Z,g.1;exact k _ _ (vJ _ (by have:=g.1;lia)) (vF _ g.1) l t
def Yh:Str:= " \"\\~!#$&'()*+,-./0123456789:;<=>?@ABCDEFGHIJKLMNOPQRSTUVWXYZ[]^_`abcdefghijklmnopqrstuvwxyz{|}"
theorem ZJh:Yh.cps.toList.length=94:=by decide +kernel
theorem G7:Yh.length=94:=by decide +kernel
theorem ZLi:Yh.cps.toList.all QY=true:=by decide +kernel
def FF{i:Int}(a:0<=i)(b:i<94):∃ c,Xq Yh.cps.toList i=some c/\QY c=true:=by
 let⟨c,e,m⟩:=Nd (xs:=Yh.cps.toList) a (by rw[ZJh];exact b)
 exact⟨c,e,zI.mp ZLi c m⟩
def WN(x:Str)(i:Nat):Prop:=x.cps.size<=i/\x.cps.toList.all QY=true
def WN.ok{x:Str}{i:Nat}(h:WN x i)(a:i<=40):Qw x=true:=by
 unfold Qw;rw[zP];exact⟨aM (zN h.1 a),h.2⟩
def WN.more{x:Str}{i c:Nat}(h:WN x i)(a:QY c=true):WN (x++(⟨#[c]⟩:Str)) (i+1):=by
 let e:(x++(⟨#[c]⟩:Str)).cps=x.cps++#[c]:=rfl;exists ?_
 ·rw[e,Array.size_append];exact vI h.1
 ·rw[e,wJ,List.all_append,h.2];simp[a]
abbrev BU:jp:=["_law_well_here","_law_signs","_law_text_here","_law_few","_law_j","_law_sign"]
theorem Qp:ZB BU zEl (Za Ka):=Zr
theorem ZMg(F:Zh K "_law_text" "_law_text" Ka f fd)(T:Yb mg)(B:ZA P w K mg kh 1 "_law_pull" zEc Zy):ZI P w K mg kh ZO 2 f fd zEl WX:=by
 refine F.ok Qp (λvs H Q E h=>?_) (λa2 A a1 s H vs Q E I h=>?_)
 ·let⟨p,rfl,_⟩:=h;rfl
 let⟨p,rfl,W,k⟩:=h;let o:=Qp.nd;intro Xc;refine⟨_,ZM (Zg 1 o U5) (ZM (Zg 2 o U5)
  (ZM (Zg 3 o (Ze B I (ZW (pv 0) (ZW ZL Zj))))
  (ZM (UE PassesOwn.never rfl (Mw rfl T.range (ZW (Ze B I (ZW (pv 0) (ZW (UF Zu (Y3 (ZW ZL (ZW ZL Zj))) (Ze B I (ZW (pv 0) (ZW ZL Zj))) (λ_ _=>rfl)) Zj))) Zj)) (UC 4 o)
   (ZM (Zg 5 o U5)
   (ZM (Z3 (NK (Y2 OH (pv 3) ZL (YW _)) (NS (Y2 UG (Ze B I (ZW (pv 0) (ZW ZL Zj))) ZL (YW _)))).pt
    (ZT (Zg 5 o (UF Gf (pv 1) (Ze B I (ZW (pv 0) (ZW (UF Zu (Y3 (ZW ZL (ZW ZL Zj))) (Zx Ld (pv 3) ZL) (λ_ _=>rfl)) Zj))) (λ_ _=>rfl)))) Z4)
   (ZT (Zg 2 o (Zx ZIY (pv 2) (pv 5)))))))
  (ZT (Zf (pv 2)))))),?_⟩
 exists _,Z,p,3,Z,W,Wy (by decide) (by decide)
 intro J H1 a3 a4 W1 s1;exists _,Z,(by show 2<=ar;decide)
 intro l X;let O:ZJ (upd H1 l (.lst [.int 4,.int 41])) p:=W1.same (Zl X _);exists _,Z,p,2,Z,O,Wy (by decide) (by decide)
 intro r H2 r0 r1 W2 s2;let a0:l≠p:=by
  let⟨xs,e⟩:=W1.some;exact(Zd e X).symm
 let a:H2 l=some (.lst [.int 4,.int 41]):=s2 l _ ZV a0;let⟨v,hv,Y⟩:=MZ (x:=V.int 4) (y:=V.int 41) r0 r1;let hb:∃ z:Int,v=.int z/\0<z/\z<=41:=by
  rcases Y with e | e
  ·exact⟨4,e,by decide,by decide⟩
  ·exact⟨41,e,by decide,by decide⟩
 let⟨z,rfl,z0,z1⟩:=hb;exists l,_,_,_,Z,Z,ZK.of a,hv,p,z,Z,W2,Wy z0 ∅
 intro n H3 n0 n1 W3 s3;let sA:ZH p H H3:=(s1.trans (ZH.of (Zl X _))).trans (s2.trans s3);refine⟨n,Z,∅,∅,MM (n:=n.toNat) (λi σ t=>∃(x:Str)(j g:jg),σ=[some (.ref p),some (.str Yh),some (.str x),some (.int J),j,g]/\WN x i/\ZJ t p/\ZH p H t)
  ⟨"",none,none,Z,⟨by decide,by decide⟩,W3,sA⟩ ?_ ?_⟩
 ·rintro i σ t hi ⟨x,j,g,rfl,N,C,q⟩;let m:∀(c:Nat)(b:Hp),QY c=true->ZJ b p->ZH p H b->∃(y:Str)(j g:jg),[some (V.ref p),some (.str Yh),some (.str (x++(⟨#[c]⟩:Str))),some (.int J),some (.int (0+(i:Int))),some (.str ⟨#[c]⟩)]=[some (.ref p),some (.str Yh),some (.str y),some (.int J),j,g]/\WN y (i+1)/\ZJ b p/\ZH p H b:=
   λc b G D L=>⟨_,_,_,Z,N.more G,D,L⟩
  let d:∀ c:Nat,x.length+(⟨#[c]⟩:Str).length<=sizeLine:=λc=>by
   let h1:x.length<=i:=N.1;let h2:(⟨#[c]⟩:Str).length=1:=rfl;rw[h2];exact nn ∅
  let M:∀ b,ZJ b p->ZH p H b->∃(v:Int),0<v/\v<=94/\Xq [V.int 94,V.int 5] (J / 2)=some (.int v):=λb _ _=>by
   let⟨v,e,h⟩:=MZ (x:=V.int 94) (y:=V.int 5) (i:=J / 2) ∅ ∅
   rcases h with rfl | rfl
   ·exact⟨94,by decide,by decide,e⟩
   ·exact⟨5,by decide,by decide,e⟩
  exists _,Z,_,_,Z,Z,_,Z;refine Ve (λ_=>?_) (λ_=>?_)
  ·refine Z0 ?_;exists _,Z,_,Z,(by show 2<=ar;decide)
   intro l2 a;let⟨v,v0,v1,U⟩:=M t C q;exists _,Z,_,_,Z,Z,⟨by decide,by decide⟩,l2,_,_,_,Z,Z,ZK.of ZV,U,p,v,Z,C.same (Zl a _),Wy v0 ∅
   intro u b u0 u1 D L;let⟨c,S,G⟩:=FF u0 ∅
   exists Yh,_,c,Z,Z,(by rw[G7];exact nn (by decide)),S
   exact⟨_,Z,_,Z,_,_,Z,Z,d c,m c b G D ((q.trans (ZH.of (Zl a _))).trans L)⟩
  ·refine⟨_,Z,p,8,Z,C,Wy (by decide) (by decide),λy H6 _ _ R s6=>⟨Z,_,Z,?_⟩⟩
   refine Ve (λ_=>?_) (λ_=>?_)
   ·exists _,Z,_,Z,(by show 2<=ar;decide)
    intro l2 a;let⟨v,v0,v1,U⟩:=M H6 R (q.trans s6);exists _,Z,_,_,Z,Z,⟨by decide,by decide⟩,l2,_,_,_,Z,Z,ZK.of ZV,U,p,v,Z,R.same (Zl a _),Wy v0 ∅
    intro u b u0 u1 D L;let⟨c,S,G⟩:=FF u0 ∅
    exists Yh,_,c,Z,Z,(by rw[G7];exact nn (by decide)),S
    exact⟨_,Z,_,Z,_,_,Z,Z,d c,m c b G D (((q.trans s6).trans (ZH.of (Zl a _))).trans L)⟩
   ·exact⟨_,Z,_,Z,_,_,Z,Z,d 97,m 97 H6 (by decide) R (q.trans s6)⟩
 ·rintro σ t ⟨x,j,g,rfl,N,C,q⟩;exact⟨_,Z,k x t (N.ok ∅) C q⟩
theorem Py:ZB ["_law_well_here","_law_room","_law_way"] zEg (Za Ly):=Zr
theorem ZLU{k:Nat}:ZI P w K mg kh ZO k f fd zEg (XT 0):=by
 let c:∀ a H Q E,¬ XT 0 a H Q E:=λa H Q E h=>by
  let⟨p,r,_,_,d,_⟩:=h
  lia
 exact⟨λa H Q E h=>absurd h (c a H Q E),λA b s H args e a Q E _ _ _ _ h=>absurd h (c a H Q E)⟩
theorem ZPG{n:Nat}(F:Zh K "_law_key" "_law_key" Ly f fd)(T:Yb mg)(DP:ZA P w K mg kh 1 "_law_pull" zEc Zy)(DG:ZA P w K mg kh 2 "_law_great" zEp Zy)(DT:ZA P w K mg kh 2 "_law_text" zEl WX)(DK:ZA P w K mg kh (n+2) "_law_key" zEg (XT n)):ZI P w K mg kh ZO (n+3) f fd zEg (XT (n+1)):=by
 refine F.ok Py (λvs H Q E h=>?_) (λa1 A a0 s H vs Q E hr h=>?_)
 ·let⟨p,r,rfl,_⟩:=h;rfl
 let⟨p,r,rfl,W,hn,k⟩:=h;let nd:=Py.nd;let q:=hr.mono (show 1<=n+2 by lia)
 let L:=hr.mono (show 2<=n+2 by lia)
 intro Xc;refine⟨_,ZM (Zg 2 nd (Ze DP q (ZW (pv 0) (ZW ZL Zj))))
  (ZM (Z3 (Y2 Oi (pv 2) ZL (YW _)) (ZT (Zf (Zx Uy (Ze DP q (ZW (pv 0) (ZW ZL Zj))) ZL))) Z4)
  (ZM (Z3 (Y2 UG (pv 2) ZL (YW _)) (ZT (Zf (Zx VB (Zx Uy (Ze DG L (ZW (pv 0) (ZW (Zx Uy (Zx OJ ZL (Zx Mr ZL ZL)) ZL) Zj))) (Zx Mr ZL ZL)) ZL))) Z4)
  (ZM (Z3 (NK (Y2 Oi (pv 2) ZL (YW _)) (NS (Y2 UG (pv 1) ZL (YW _)))).pt (ZT (Zf (Ze DT L (ZW (pv 0) Zj)))) Z4)
  (ZT (Zf (UO MN rfl T.tuple Pz (ZW (Vm [0,1] zEg rfl (Mw rfl T.range (ZW (Ze DP q (ZW (pv 0) (ZW ZL Zj))) Zj)) (λ_ _ _ _ _=>UV)
   (λ_ _ _ _ _=>Ze DK hr (ZW (pv 1) (ZW (Zx Uy (pv 2) ZL) Zj))) ⟨rfl,.inl rfl,rfl,rfl,.inl rfl,rfl,trivial⟩) Zj))))))),?_⟩
 exists _,Z,p,8,Z,W,Wy (by decide) (by decide)
 intro y H1 y0 y1 S Y;exists _,Z,_,_,Z,Z,_,Z;refine Ve (λ_=>?_) (λc1=>?_)
 ·refine⟨_,Z,p,41,Z,S,Wy (by decide) (by decide),λu j u0 u1 d C=>⟨_,_,Z,Z,?_⟩⟩
  refine k (.int (u-20)) (.int (u-20)) j (ZC.int _) ?_ d (Y.trans C);rw[KT.fits];let e:(10:Nat) ^ 60 > 1000:=by decide
  exact aM ∅
 exists _,Z,Z,_,Z;refine Ve (λ_=>?_) (λc2=>?_)
 ·exists _,Z,_,_,Z,Z,⟨by decide,by decide,by decide⟩,_,_,Z,Z,.inl ⟨by decide,by decide⟩,_,_,Z,Z,p,_,Z,S,Wy (by decide +kernel) (by decide +kernel)
  intro u j u0 u1 d C;exists _,_,Z,Z,⟨by decide,by decide,by decide⟩,_,_,Z,Z,_,_,Z,Z
  refine k _ (.int _) j (ZC.int _) ?_ d (Y.trans C);let e:((10:Int) ^ (60:Int).toNat)=((10 ^ 60:Nat):Int):=by decide +kernel
  rw[e] at u1;rw[KT.fits,e];generalize (10 ^ 60:Nat)=N at *;exact aM ∅
 let O:WX ([.ref p]++[]) H1 Q E0:=⟨p,Z,S,λx j hx d C=>k (.str x) (.str x) j (ZC.str x) (by rw[KT.fits];exact hx) d (Y.trans C)⟩
 exists _,Z,_,_,Z,Z,_,Z;refine Ve (λ_=>?_) (λ_=>?_)
 ·exact Z0 ⟨_,Z,O⟩
 exists _,Z,Z,_,Z;refine Ve (λ_=>?_) (λc3=>?_)
 ·exact⟨_,Z,O⟩
 let r0:r≠0:=λe=>c3 (aM (by rw[e];rfl))
 refine⟨_,Z,p,5,Z,S,Wy (by decide) (by decide),λu j u0 u1 d C=>⟨u,Z,∅,∅,?_⟩⟩
 let sB:ZH p H j:=Y.trans C;refine Ue (n:=u.toNat) (λi x=>x=.int (0+(i:Int))) (λD i a c=>ZJ c p/\ZH p H c/\D≠p/\H D=none/\∃ G,jV c G a/\G.length=i/\fitsL G (r-1)=true) (XU ∅)
  (λD i a c hi _=>hi) (λD i a c x m hi _ hy=>hy) (λD a c _=>zY _) (λD J=>?_) (λD i a c x eD hl hi hx hP R hR=>?_) (λD a c eD hP=>?_)
 ·let B:D≠p:=by
   let⟨xs,e⟩:=d.some;exact(Zd e J).symm
  let M:H D=none:=by
   cases e:H D with
   | none=>rfl
   | some o=>rw[sB D o e B] at J;cases J
  exact⟨d.same (Zl J _),sB.trans (ZH.of (Zl J _)),B,M,[],.nil,Z,by rw[fitsL]⟩
 ·let⟨U,s3,B,M,G,hk,g,X⟩:=hP;let er:(r:Int)-1=((r-1:Nat):Int):=∅
  exists _,Z,_,Z,_,_,Z,Z,p,r-1,congrArg (λz=>[V.ref p,V.int z]) er,U,by lia
  intro v t m hv ht W4 s4;let I:=s4 D _ eD B;let sD:ZH D m (upd m D (.lst (a++[v]))):=(ZH.refl D m).upd;let tD:Zz m (upd m D (.lst (a++[v]))):=sD.tups I;refine hR v m I ⟨W4.stay sD B.symm,λb o e n=>?_,B,M,G++[t],((jV.mono (s4.tupsW U) _ _ hk).append (.cons hv .nil)).mono tD _ _,by simp[g],?_⟩
  ·rw[ZR (Zd e M)];exact(s3.trans s4) b o e n
  ·rw[M0] at X⊢;rw[List.all_append,X];simp[ht]
 ·let⟨U,s3,B,M,G,hk,g,X⟩:=hP;refine⟨D,a,Z,.inl ⟨ZK.of eD,λl hl=>?_⟩⟩;let sl:=Zl hl (.tup a);refine k (.ref l) (.tup G) _ (.tup ZV (hk.sm sl)) ?_ (U.same sl) (s3.trans (ZH.of sl));rw[KT.fits,X,Bool.and_true,zP];exact⟨aM ∅,aM ∅⟩
abbrev ZQg:jp:=["_law_script","_law_k","_law_left","_law_cell","_law_digits"]
theorem Qk:ZB ZQg zE2 (Za IF):=Zr
theorem B7(F:Zh K "_law_well" "_law_well" IF f fd)(T:Yb mg):ZI P w K mg kh ZO 1 f fd zE2 (VP K):=by
 refine F.ok Qk (λvs H Q E h=>?_) (λX A L s H vs Q E hr h=>?_)
 ·let⟨a,g,k,rfl,_⟩:=h;rfl
 let⟨a,g,k,rfl,u,hn,k0,k1,q⟩:=h;let J:=Qk.nd;intro Xc;refine⟨_,ZM (Zg 2 J (UF Zu (Y3 (ZW ZL (ZW ZL Zj))) (UO Id rfl T.int P4 (ZW (UB UG (pv 1) ZL (YW _)) Zj)) (λ_ _=>rfl)))
  (ZM (Zg 3 J (UF Zu (Zx MK (UO NA rfl T.list P0 (ZW (pv 0) Zj)) (Y3 (ZW ZL Zj))) (Zx Pl (pv 1) (Z6 (IK rfl) rfl T.max HM (ZW ZL (ZW (Z6 WK rfl T.len X3 (ZW (pv 0) Zj)) Zj)))) (λ_ _=>rfl)))
  (ZM (Zg 4 J (Zx OJ (Z6 HV rfl T.abs Ir (ZW (pv 3) Zj)) (UO Id rfl T.int P4 (ZW (UA (UB ZQN (Z6 HV rfl T.abs Ir (ZW (pv 3) Zj)) (Zx Mr ZL ZL) (YW _)) (Qb (UB Oi (pv 1) (Z6 WK rfl T.len X3 (ZW (pv 0) Zj)) (YW _)))) Zj))))
  (ZT (Zf (Y3 (ZW (Zx Pl (pv 3) ZL) (ZW (Zx OJ ZL (pv 1)) (ZW (pv 4) (ZW (pv 2) Zj))))))))),?_⟩
 exists (by show 2<=ar;decide)
 intro l1 v;let O:=Zl v (.lst [V.int 240,V.int 2400]);refine⟨_,Z,Z,.inr ⟨_,Z,?_⟩⟩;obtain⟨lv,t,D⟩:∃ z:Int,Xq [V.int 240,V.int 2400] (if decide (V.int k=V.int 0)=true then 1 else 0)=some (.int z)/\0<=z:=by
  split
  ·exact⟨2400,Z,by decide⟩
  ·exact⟨240,Z,by decide⟩
 exists l1,_,_,_,Z,Z,ZK.of ZV,t;exists _,Z,a,_,Z,.inl (O.seq u);intro S y;let g2:=O.trans (Zl y (.lst (g.map V.int)));exists (by show 1<=ar;decide)
 intro U n;let g3:=g2.trans (Zl n (.lst [V.int 0]));let I:S≠U:=Zd ZV n;exists S,U,_,_,Z,Z,(by rw[ZR I];exact ZV),ZV,(by rw[zX];exact nn (by show g.length+1<=1000;lia))
 intro l4 B;let p:=g3.trans (Zl B (.lst (g.map V.int++[V.int 0])));exists _,Z,_,Z,a,_,Z,.inl (p.seq u),_,_,Z;let C:(g.map V.int).length=g.length:=zX _;generalize R:(if (((g.map V.int).length:Nat):Int) > 1 then (((g.map V.int).length:Nat):Int) else 1)=M
 let M1:1<=M/\M<=(g.length:Int)+1:=by
  rw[C] at R;rw[<-R];split <;> lia
 exists _,_,Z,Z,by lia
 let i0:0<=k % M:=vJ _ ∅
 let i1:k % M<M:=vF _ ∅
 let⟨Y,r,G⟩:=Nd (xs:=g.map V.int++[V.int 0]) i0 (by rw[zS,zX,wY];lia)
 obtain⟨c,rfl⟩:∃ z:Int,Y=.int z:=by
  rcases zA.mp G with m | m
  ·let⟨z,_,e⟩:=zR.mp m;exact⟨z,e.symm⟩
  ·exact⟨0,yZ.mp m⟩
 exists l4,_,_,_,Z,Z,ZK.of ZV,r;let l:∀ b:Bool,0<=(if c<0 then -c else c) * (if b=true then 1 else 0):=λb=>by
  cases b
  ·simp
  ·simp;split <;> lia
 let N:∀(x:Int)(b:Bool),Pi x (if b=true then 1 else 0):=λx b=>.inr (by cases b <;> exact⟨by decide,by decide⟩)
 let j:∀(z:Int)(o:Hp),0<=z->ZE H o->∀ i,o i=none->Q (.ref i) (upd o i (.lst [.int (c % 2147483647),.int (1000 * k),.int z,.int lv])):=λz o z0 W i d=>
  q i _ (W.free d) (W.trans (Zl d _)) ⟨_,_,_,_,ZV,vJ _ (by decide),vF _ (by decide),z0,D⟩
 exists _,Z,_,Z,_,Z,_,Z,_,_,Z,Z,⟨by decide,by decide,by decide⟩,_,_,Z,Z,_,Z
 refine Ve (λ_=>?_) (λ_=>?_)
 ·refine⟨_,Z,_,Z,a,_,Z,.inl (p.seq u),_,_,Z,Z,.inr ⟨_,Z,_,_,Z,Z,N _ _,?_⟩⟩;exists _,Z,_,_,Z,Z,(by show (0:Int)<2147483647;decide),_,Z,_,_,Z,Z,.inl ⟨by decide,by decide⟩,_,Z,_,Z,(by show 4<=ar;decide)
  intro i d;exact j _ _ (l _) p i d
 ·refine .inr ⟨_,Z,_,_,Z,Z,N _ false,?_⟩;exists _,Z,_,_,Z,Z,(by show (0:Int)<2147483647;decide),_,Z,_,_,Z,Z,.inl ⟨by decide,by decide⟩,_,Z,_,Z,(by show 4<=ar;decide)
  intro i d;exact j _ _ (l false) p i d
theorem ZQB:ZB zFm zFm (Za IY):=Zr
def ZOq(F:Zh K "has_few_figures" "has_few_figures" IY f fd)(T:Yb mg):ZI P w K mg kh ZO 1 f fd zFm Us:=by
 refine F.ok ZQB (λc H Q E h=>?_) (λb A a s H c Q E g h=>?_)
 ·let⟨i,rfl,_⟩:=h;rfl
 let⟨i,rfl,q⟩:=h;intro d;exists _,ZT (Zf (UB Oi (Z6 HV rfl T.abs Ir (ZW (pv 0) Zj)) (Zx Mr ZL ZL) (YW _)));exists _,Z,_,Z,_,_,Z,Z,⟨by decide,by decide,by decide⟩,_,_,Z,Z
 let e:=ZOs i;rw[<-e] at q;exact q
theorem ZO1:ZB ["sign"] ["sign"] (Za Kh):=Zr
theorem ZNy(F:Zh K "is_sign" "is_sign" Kh f fd):ZI P w K mg kh ZO 1 f fd ["sign"] VI:=by
 refine F.ok ZO1 (λk H Q E h=>?_) (λi A d s H k Q E m h=>?_)
 ·let⟨c,rfl,_⟩:=h;rfl
 let⟨c,rfl,q⟩:=h;intro l;exists _,ZT (Zf (A7 Dk Dk U5 (pv 0) U5));let g:(yH " ").cps.toList=[32]:=by decide +kernel
 let j:(yH "~").cps.toList=[126]:=by decide +kernel
 let e:=ZLf c;exists _,Z,_,_,Z,Z,_,Z;refine Ve (λb=>?_) (λb=>?_)
 ·exists _,_,Z,Z;let a:(!decide ([c]<[32]))=true:=by rw[<-g];exact b
  rw[a,uT] at e;rw[<-e,<-j] at q;exact q
 ·let a:(!decide ([c]<[32]))=false:=by rw[<-g];exact Bool.eq_false_iff.mpr b
  rw[a,vV] at e;rw[<-e] at q;exact q
structure ZX(K:zZ)(mg:jc)(x:Str)(st:aD)(ps:jp):Prop where
 ex:∃ f fd,Zh K x x st f fd/\Zq K fd ps []/\mg x=some (.ref f)
def ZX.of{P:am}{w:ax}{K:zZ}{d:jc}{a:aE}{x:Str}{i:aD}{e:jp}{k:Nat}{g:Sp}(L:ZX K d x i e)(h:∀ f c,Zh K x x i f c->ZI P w K d a ZO k f c e g):ZA P w K d a k x e g:=by
 let⟨f,c,F,b,m⟩:=L.ex;exact⟨f,c,h f c F,b,F.kp,m⟩
def KQ{K:zZ}{h:aE}{p:jc}{x:Str}{e:aD}{n:jp}{f:ak}{t g:ju}{u:Array (jd)}{s kV q m o ct:aj}(X:K.In h)(G:h.Ns aq p)(a:zF K aq x=some (some (.ref f)))(l:K.lookup f=some ⟨s,t,.func (yB x x (Ux e) (WJ e) (Za e) .none kV q m g o ct),u⟩)(c:wN K o x=true)(k:yG K (.ref f)=true)(r:∀ (kV j m:aj) (g:ju) (i ct:aj) (b:je),b.length=n.length->bindArgs (yB x x (Ux e) (WJ e) (Za e) .none kV j m g i ct) ⟨b,[]⟩=pure (n.zip b):=by first | exact(λ_ _ _ _ _ _ b d=>match b,d with | [_],_=>rfl) | exact(λ_ _ _ _ _ _ b d=>match b,d with | [_,_],_=>rfl) | exact(λ_ _ _ _ _ _ b d=>match b,d with | [_,_,_],_=>rfl) | exact(λ_ _ _ _ _ _ b d=>match b,d with | [_,_,_,_],_=>rfl) | exact(λ_ _ _ _ _ _ b d=>match b,d with | [_,_,_,_,_],_=>rfl)):ZX K p x e n:=
 ⟨f,_,OY (st:=e) l c k,(OY (st:=e) l c k).binds r,yM X G a⟩
theorem Cf(T:Yb mg)(L:ZX K mg "_law_key" Ly zEg)(b:ZA P w K mg kh 1 "_law_pull" zEc Zy)(a:ZA P w K mg kh 2 "_law_great" zEp Zy)(c:ZA P w K mg kh 2 "_law_text" zEl WX):∀ n:Nat,ZA P w K mg kh (n+2) "_law_key" zEg (XT n)
 | 0=>L.of λ_ _ _=>ZLU
 | n+1=>L.of λ_ _ F=>ZPG F T b a c (Cf T L b a c n)
inductive WM(n:Nat)(b:jf)(H:Hp)(Q:VK)(_:XK):Prop
 |mk(v:V)(t:TG)(N:ak->Prop)(r:Nat)(_:b=[v,.int (r:Int)])(_:Zk N H t v)(_:t.neat)(_:r<n)(_:∀ a,ZE H a->Q (.bl (t.fits r)) a)
inductive Xg(b:jf)(H:Hp)(Q:VK)(_:XK):Prop
 |mk(v:V)(t:TG)(N:ak->Prop)(_:b=[v])(_:Zk N H t v)(_:t.neat)(_:∀ a,ZE H a->Q (.bl (t.fits 3)) a)
def ZMn{d:Sp}{k:Nat}{e:jp}(c:∀ a H Q E,¬ d a H Q E):ZI P w K mg kh ZO k f fd e d:=
 ⟨λa H Q E h=>absurd h (c a H Q E),λA b s H args g a Q E _ _ _ _ h=>absurd h (c a H Q E)⟩
theorem ZPA:ZB zFa zFa (Za LB):=Zr
theorem ZMr{n:Nat}(F:Zh K "fits" "fits" LB f fd)(T:Yb mg)(DW:ZA P w K mg kh 1 "has_few_figures" zFm Us)(DS:ZA P w K mg kh 1 "is_sign" ["sign"] VI)(DF:ZA P w K mg kh (n+1) "fits" zFa (WM n)):ZI P w K mg kh ZO (n+2) f fd zFa (WM (n+1)):=by
 refine F.ok ZPA (λp H Q E h=>?_) (λa3 A a2 s H p Q E hr h=>?_)
 ·let⟨v,t,N,r,rfl,_⟩:=h;rfl
 let⟨v,t,N,r,rfl,B,X,hn,k⟩:=h;let U:=hr.mono (show 1<=n+1 by lia)
 let⟨t1,m1⟩:=T.signs;let⟨t2,m2⟩:=T.things;intro Xc;refine⟨_,ZM (Z3 (XG (Z6 VZ rfl T.isi Ww (ZW (pv 0) (ZW (VR (v:=.ty "bool") rfl T.bool Lg rfl) Zj)))) (ZT (Zf PF)) Z4)
  (ZM (Z3 (XG (Z6 VZ rfl T.isi Ww (ZW (pv 0) (ZW (VR (v:=.ty "int") rfl T.int P4 rfl) Zj)))) (ZT (Zf (Ze DW U (ZW (pv 0) Zj)))) Z4)
  (ZM (Z3 (XG (Z6 VZ rfl T.isi Ww (ZW (pv 0) (ZW (VR (v:=.ty "str") rfl T.str MB rfl) Zj))))
   (ZT (Zf (UA (UB P2 (Z6 ZFb rfl T.len X3 (ZW (pv 0) Zj)) (Xp (v:=.int 40) rfl m1 ⟨_,rfl⟩) (YW _))
    (Qb (Z6 (Lh rfl) rfl T.all KP (ZW (Vm [] [] rfl (ZPT (pv 0)) (λ_ _ _ _ _=>UV) (λ_ _ _ _ _=>Ze DS U (ZW (pv 0) Zj)) trivial) Zj)))))) Z4)
  (ZM (Z3 (XG (Z6 VZ rfl T.isi Ww (ZW (pv 0) (ZW (VR (v:=.ty "tuple") rfl T.tuple Pz rfl) Zj))))
   (ZT (Zf (UA (UB OH (pv 1) ZL (YW _)) (UA (UB P2 (Z6 WK rfl T.len X3 (ZW (pv 0) Zj)) (Xp (v:=.int 4) rfl m2 ⟨_,rfl⟩) (YW _))
    (Qb (Z6 (Lh rfl) rfl T.all KP (ZW (Vm [1] ["room"] rfl (II (pv 0)) (λ_ _ _ _ _=>UV) (λ_ _ _ _ _=>Ze DF hr (ZW (pv 0) (ZW (Zx Uy (pv 1) ZL) Zj))) ⟨rfl,.inl rfl,rfl,trivial⟩) Zj))))))) Z4)
  (ZT (Zf PF))))),?_⟩
 cases t with
 | int i=>
  let ev:v=.int i:=by rw[Zk] at B;exact B
  subst ev;refine⟨_,Z,_,_,_,_,Z,.int i,KU,_,Z,Zo ?_⟩;refine⟨_,Z,_,_,_,_,Z,.int i,ME,_,Z,Z0 ?_⟩;let d:=k H (ZE.refl H);rw[TG.fits] at d;exact⟨_,Z,i,Z,d⟩
 | str x=>
  let ev:v=.str x:=by rw[Zk] at B;exact B
  subst ev;let S:x.length<=1000:=by rw[TG.neat] at X;exact X
  refine⟨_,Z,_,_,_,_,Z,.str x,ZOM,_,Z,Zo ?_⟩;refine⟨_,Z,_,_,_,_,Z,.str x,KO,_,Z,Zo ?_⟩;refine⟨_,Z,_,_,_,_,Z,.str x,Nu,_,Z,Z0 ?_⟩;exists _,Z,x,Z,nn S,_,_,Z,Z,_,Z;refine Ve (λc=>?_) (λc=>?_)
  ·let u:x.length<=40:=by have:=of_decide_eq_true c;lia
   exists _,Z,x,Z;let a6:x.cps.size<=40:=u;refine Ue (n:=x.cps.size) (λi z=>∃ c,x.cps[i]? = some c/\z=.str ⟨#[c]⟩) (λD i m g=>ZE H g/\H D=none/\m=((x.cps.toList.take i).map QY).map V.bl) (XU ∅)
    (λD i m g J _=>J) (λD i m g z H4 J _ Y=>Y) (λD m g _=>rfl) (λD O=>⟨Zl O _,O,Z⟩) (λD i m g z I hl J hz j R hR=>?_) (λD m g I j=>?_)
   ·let⟨c,hc,rfl⟩:=hz;let⟨G,L,rfl⟩:=j;exists _,Z,c,Z;refine hR _ g I ⟨λb o e=>by rw[ZR (Zd e L)];exact G b o e,L,?_⟩
    let a0:x.cps.toList[i]? = some c:=by simpa using hc
    rw[yR,a0];simp
   ·let⟨G,L,rfl⟩:=j;exists D,_,Z,ZK.of I;let d:=k g G;let M:(x.cps.toList.take x.cps.size)=x.cps.toList:=yY (by simp)
    let C:(x.cps.toList.map QY).all id=(TG.str x).fits r:=by
     rw[TG.fits,vM];unfold Qw;rw[aM u,uT];rfl
    rw[M,C];exact d
  ·let u:¬ x.length<=40:=λz=>c (aM ∅)
   let d:=k H (ZE.refl H);rw[TG.fits] at d;unfold Qw at d;rw[aK u,vV] at d;exact d
 | tup l=>
  rw[Zk] at B;let⟨a,p,rfl,C,W⟩:=B;let hl:=W.length;rw[TG.neat] at X;let⟨a5,a1⟩:=X;let q:XC K H (.ref a) (.type "tuple"):=.tup C;refine⟨_,Z,_,_,_,_,Z,q,ZPQ,_,Z,Zo ?_⟩;refine⟨_,Z,_,_,_,_,Z,q,KR,_,Z,Zo ?_⟩;refine⟨_,Z,_,_,_,_,Z,q,LR,_,Z,Zo ?_⟩;refine⟨_,Z,_,_,_,_,Z,q,Kt,_,Z,Z0 ?_⟩;exists _,Z,_,_,Z,Z,_,Z;refine Ve (λc1=>?_) (λc1=>?_)
  ·let r0:0<r:=by
    have:=of_decide_eq_true c1
    lia
   exists _,Z,a,p,Z,.inr (Zv.of C),_,_,Z,Z,_,Z;refine Ve (λc2=>?_) (λc2=>?_)
   ·let l4:l.length<=4:=by
     have:=of_decide_eq_true c2
     lia
    exists _,Z,a,Z,⟨p,Zv.of C⟩;refine Ue (n:=p.length) (λi z=>p[i]? = some z) (λD i m g=>ZE H g/\H D=none/\m=((l.take i).map λt=>t.fits (r-1)).map V.bl) (XU ∅)
     (λD i m g J j=>⟨p,p[i],Zv.of (j.1 _ _ C),by simp[J]⟩) (λD i m g z H4 J j Y=>⟨Y.1,Y.2 p (Zv.of (j.1 _ _ C))⟩) (λD m g j=>⟨p,Zv.of (j.1 _ _ C),zY _⟩)
     (λD O=>⟨Zl O _,O,Z⟩) (λD i m g z I a4 J hz j R hR=>?_) (λD m g I j=>?_)
    ·let⟨G,L,rfl⟩:=j;let⟨t,M,kt⟩:=W.get hz;let er:(r:Int)-1=((r-1:Nat):Int):=∅
     exists _,Z,_,Z,_,_,Z,Z,z,t,N,r-1,congrArg (λy=>[z,V.int y]) er,kt.mono (VA.same G) _ _,Cc a1 (zJ M),by lia
     intro H4 s4;refine hR _ H4 (s4 D _ I) ⟨λb o e=>by rw[ZR (Zd e L)];exact s4 b o (G b o e),L,?_⟩
     rw[yR,M];simp
    ·let⟨G,L,rfl⟩:=j;exists D,_,Z,ZK.of I;let d:=k g G;rw[TG.fits,aM r0,uT,aM l4,uT,GX] at d;let M:l.take p.length=l:=yY ∅
     rw[M,vM];exact d
   ·let l4:¬ l.length<=4:=λz=>c2 (aM ∅)
    let d:=k H (ZE.refl H);rw[TG.fits,aK l4,vV,tW] at d;exact d
  ·let r0:¬ 0<r:=λz=>c1 (aM ∅)
   let d:=k H (ZE.refl H);rw[TG.fits,aK r0,vV] at d;exact d
 | odd n'=>
  rw[Zk] at B;let q:XC K H v (.type n'):=B.ty;let⟨b,kb,kr⟩:=ZMj (K:=K) B;let d:=k H (ZE.refl H);rw[TG.fits] at d
  cases b with
  | true=>exact⟨_,Z,_,_,_,_,Z,q,kb,_,Z,Z0 d⟩
  | false=>
   let⟨k1,k2,k3⟩:=kr Z;refine⟨_,Z,_,_,_,_,Z,q,kb,_,Z,Zo ?_⟩;refine⟨_,Z,_,_,_,_,Z,q,k1,_,Z,Zo ?_⟩;refine⟨_,Z,_,_,_,_,Z,q,k2,_,Z,Zo ?_⟩;refine⟨_,Z,_,_,_,_,Z,q,k3,_,Z,Zo ?_⟩;exact d
theorem Dg(T:Yb mg)(L:ZX K mg "fits" LB zFa)(b:ZA P w K mg kh 1 "has_few_figures" zFm Us)(a:ZA P w K mg kh 1 "is_sign" ["sign"] VI):∀ n:Nat,ZA P w K mg kh (n+1) "fits" zFa (WM n)
 | 0=>L.of λ_ _ _=>ZMn λd H Q E h=>by let⟨v,t,N,r,_,_,_,c,_⟩:=h;lia
 | n+1=>L.of λ_ _ F=>ZMr F T b a (Dg T L b a n)
theorem C5:ZB zEq zEq (Za HJ):=Zr
def ZKw(F:Zh K "is_key" "is_key" HJ f fd)(T:Yb mg)(b:ZA P w K mg kh 5 "fits" zFa (WM 4)):ZI P w K mg kh ZO 6 f fd zEq Xg:=by
 refine F.ok C5 (λj H Q E h=>?_) (λc A a s H j Q E e h=>?_)
 ·let⟨v,t,N,rfl,_⟩:=h;rfl
 let⟨v,t,N,rfl,g,d,k⟩:=h;let⟨m,i⟩:=T.deep;intro l;exists _,ZT (Zf (Ze b e (ZW (pv 0) (ZW (Xp (v:=.int 3) rfl i ⟨_,rfl⟩) Zj))));exact⟨_,Z,v,t,N,3,Z,g,d,by decide,k⟩
inductive Uc(n:Nat)(c:jf)(H:Hp)(Q:VK)(_:XK):Prop
 |mk(v:V)(t:KT)(q:Nat)(_:c=[v])(_:ZC H t v)(_:t.fits q=true)(_:t.depth<n)(_:∀(b:V)(a:Hp),ZC a t.st b->ZE H a->Q b a)
inductive XJ(d:jf)(H:Hp)(Q:VK)(_:XK):Prop
 |mk(v u:V)(a b:KT)(_:d=[v,u])(_:ZC H a v)(_:ZC H b u)(_:a.fits 3=true)(_:b.fits 3=true)(_:∀ c,ZE H c->Q (.bl (a.lt b)) c)
theorem ZH9:ZB zFl zFl (Za Le):=Zr
theorem ZNi{k:Nat}:ZI P w K mg kh ZO k f fd zFl (Uc 0):=by
 let c:∀ a H Q E,¬ Uc 0 a H Q E:=λa H Q E h=>by
  let⟨v,t,q,_,_,_,d,_⟩:=h
  lia
 exact⟨λa H Q E h=>absurd h (c a H Q E),λA b s H args e a Q E _ _ _ _ h=>absurd h (c a H Q E)⟩
theorem ZGf{n:Nat}(F:Zh K "standing" "standing" Le f fd)(T:Yb mg)(DS:ZA P w K mg kh (n+1) "standing" zFl (Uc n)):ZI P w K mg kh ZO (n+2) f fd zFl (Uc (n+1)):=by
 refine F.ok ZH9 (λg H Q E h=>?_) (λa2 A a1 s H g Q E hr h=>?_)
 ·let⟨v,t,q,rfl,_⟩:=h;rfl
 let⟨v,t,q,rfl,d,hq,hn,k⟩:=h;intro Xc;refine⟨_,ZM (Z3 (XG (Z6 VZ rfl T.isi Ww (ZW (pv 0) (ZW (VR (v:=.ty "int") rfl T.int P4 rfl) Zj)))) (ZT (Zf (X9 (ZW ZL (ZW (pv 0) Zj))))) Z4)
  (ZM (Z3 (XG (Z6 VZ rfl T.isi Ww (ZW (pv 0) (ZW (VR (v:=.ty "str") rfl T.str MB rfl) Zj)))) (ZT (Zf (X9 (ZW ZL (ZW (pv 0) Zj))))) Z4)
  (ZT (Zf (X9 (ZW ZL (ZW (UO MN rfl T.tuple Pz (ZW (Vm [] [] rfl (II (pv 0)) (λ_ _ _ _ _=>UV) (λ_ _ _ _ _=>Ze DS hr (ZW (pv 0) Zj)) trivial) Zj)) Zj)))))),?_⟩
 cases t with
 | int i=>
  let N:v=.int i:=by rw[ZC] at d;exact d
  subst N;refine⟨_,Z,_,_,_,_,Z,d.ty,ME,_,Z,Z0 ?_⟩;exists _,Z,(by show 2<=ar;decide)
  intro p U;refine k _ _ ?_ (Zl U _);rw[KT.st];exact .tup ZV (.cons (.int 0) (.cons (.int i) .nil))
 | str x=>
  let N:v=.str x:=by rw[ZC] at d;exact d
  subst N;refine⟨_,Z,_,_,_,_,Z,d.ty,KO,_,Z,Zo ?_⟩;refine⟨_,Z,_,_,_,_,Z,d.ty,Nu,_,Z,Z0 ?_⟩;exists _,Z,(by show 2<=ar;decide)
  intro p U;refine k _ _ ?_ (Zl U _);rw[KT.st];exact .tup ZV (.cons (.int 1) (.cons (.str x) .nil))
 | tup l=>
  let C:=d;rw[ZC] at C;let⟨a,g,rfl,I,G⟩:=C;let hl:=G.length;rw[KT.fits,zP,zP] at hq;let⟨a6,X,B⟩:=hq;let a5:l.length<=4:=of_decide_eq_true X;rw[KT.depth] at hn;refine⟨_,Z,_,_,_,_,Z,d.ty,KR,_,Z,Zo ?_⟩;refine⟨_,Z,_,_,_,_,Z,d.ty,LR,_,Z,Zo ?_⟩;exists _,Z,a,Z,⟨g,Zv.of I⟩;refine Ue (n:=g.length) (λi z=>g[i]? = some z) (λD i m r=>ZE H r/\H D=none/\jV r ((l.take i).map KT.st) m) (XU ∅)
   (λD i m r S j=>⟨g,g[i],Zv.of (j.1 _ _ I),by simp[S]⟩) (λD i m r z u S j hy=>⟨hy.1,hy.2 g (Zv.of (j.1 _ _ I))⟩) (λD m r j=>⟨g,Zv.of (j.1 _ _ I),zY _⟩)
   (λD hD=>⟨Zl hD _,hD,.nil⟩) (λD i m r z M a4 S hz j R hR=>?_) (λD m r M j=>?_)
  ·let⟨L,nD,c⟩:=j;let⟨t,J,kt⟩:=G.get hz;let mt:=zJ J;let Y:t.fits (q-1)=true:=by
    rw[M0] at B;exact zI.mp B t mt
   let a3:=Pg mt;exists _,Z,z,t,q-1,Z,kt.sm L,Y,by lia
   intro v' u k4 s4;let y:=s4 D _ M;let tD:Zz u (upd u D (.lst (m++[v']))):=(ZH.refl D u).upd.tups y;refine hR v' u y ⟨λb o e=>by rw[ZR (Zd e nD)];exact s4 b o (L b o e),nD,?_⟩
   rw[yR,J,zC];exact((c.sm s4).append (.cons k4 .nil)).mono tD _ _
  ·let⟨L,nD,c⟩:=j;let J:l.take g.length=l:=yY ∅
   rw[J] at c;let a0:=c.length;rw[zX] at a0;refine⟨D,m,Z,.inl ⟨ZK.of M,λp1 V=>?_⟩⟩;let g1:=Zl V (.tup m);exists (by show 2<=ar;decide)
   intro p2 W;let O:=Zl W (.tup [.int 2,.ref p1]);refine k _ _ ?_ ((L.trans g1).trans O);rw[KT.st,GO];exact .tup ZV (.cons (.int 2) (.cons (.tup (O _ _ ZV) (c.sm (g1.trans O))) .nil))
theorem E6(T:Yb mg)(L:ZX K mg "standing" Le zFl):∀ n:Nat,ZA P w K mg kh (n+1) "standing" zFl (Uc n)
 | 0=>L.of λ_ _ _=>ZNi
 | n+1=>L.of λ_ _ F=>ZGf F T (E6 T L n)
theorem AD:ZB zE7 zE7 (Za Iw):=Zr
theorem ZLm(F:Zh K "ahead" "ahead" Iw f fd)(e:ZA P w K mg kh 6 "standing" zFl (Uc 5)):ZI P w K mg kh ZO 7 f fd zE7 XJ:=by
 refine F.ok AD (λt H Q E h=>?_) (λn A d s H t Q E c h=>?_)
 ·let⟨v,u,a,b,rfl,_⟩:=h;rfl
 let⟨v,u,a,b,rfl,o,p,g,i,k⟩:=h;intro y;exists _,ZT (Zf (UB (ZPD c) (Ze e c (ZW (pv 0) Zj)) (Ze e c (ZW (pv 1) Zj)) (YW _)));let z:=Vf a 3 g;let B:=Vf b 3 i;let C:=D3 a;exists _,Z,v,a,3,Z,o,g,by lia
 intro D x q j;exists _,Z,u,b,3,Z,p.sm j,i,by lia
 intro G m r l;exists a.st,b.st,q.sm l,r,Ev a b,by lia
 rw[Gi];exact k m (j.trans l)
mutual
noncomputable def KT.wide:KT->Nat->Bool
 | .int _,_=>true
 | .str _,_=>true
 | .tup l,r=>decide (0<r)&&(decide (l.length<=400)&&wideL l (r-1))
noncomputable def wideL:jk->Nat->Bool
 | [],_=>true
 | t::l,r=>t.wide r&&wideL l r
end
theorem Ip:∀(l:jk)(r:Nat),wideL l r=l.all (·.wide r)
 | [],r=>by rw[wideL];rfl
 | t::l,r=>by rw[wideL,Ip l r];rfl
mutual
theorem MH:∀(t:KT)(r:Nat),t.fits r=true->t.wide r=true
 | .int _,_,_=>by rw[KT.wide]
 | .str _,_,_=>by rw[KT.wide]
 | .tup l,r,h=>by
  rw[KT.fits,zP,zP] at h;rw[KT.wide,zP,zP];have:=of_decide_eq_true h.2.1;exact⟨h.1,aM ∅,wideL_of l (r-1) h.2.2⟩
theorem wideL_of:∀(l:jk)(r:Nat),fitsL l r=true->wideL l r=true
 | [],_,_=>by rw[wideL]
 | t::l,r,h=>by
  rw[fitsL,zP] at h;rw[wideL,zP];exact⟨MH t r h.1,wideL_of l r h.2⟩
end
def Ki{d:Sp}{k:Nat}{e:jp}(c:∀ a H Q E,¬ d a H Q E):ZI P w K mg kh ZO k f fd e d:=
 ⟨λa H Q E h=>absurd h (c a H Q E),λA b s H args g a Q E _ _ _ _ h=>absurd h (c a H Q E)⟩
theorem Aq:ZB zEb zEb (Za M6):=Zr
mutual
noncomputable def KT.rk:KT->KT
 | .int i=>.tup [.int 0,.int i,.str "",.tup []]
 | .str x=>.tup [.int 1,.int 0,.str x,.tup []]
 | .tup l=>.tup [.int 2,.int 0,.str "",.tup (rkL l)]
noncomputable def rkL:jk->jk
 | []=>[]
 | t::l=>t.rk::rkL l
end
theorem GN:∀ l:jk,rkL l=l.map KT.rk
 | []=>by rw[rkL];rfl
 | t::l=>by rw[rkL,GN l];rfl
mutual
theorem Ew:∀ a b:KT,a.rk.eqb b.rk=a.eqb b
 | .int i,.int j=>by simp[KT.rk,KT.eqb,jX]
 | .str x,.str y=>by simp[KT.rk,KT.eqb,jX]
 | .tup l,.tup m=>by simp[KT.rk,KT.eqb,jX,eqbL_rk l m]
 | .int _,.str _=>by simp[KT.rk,KT.eqb,jX]
 | .int _,.tup _=>by simp[KT.rk,KT.eqb,jX]
 | .str _,.int _=>by simp[KT.rk,KT.eqb,jX]
 | .str _,.tup _=>by simp[KT.rk,KT.eqb,jX]
 | .tup _,.int _=>by simp[KT.rk,KT.eqb,jX]
 | .tup _,.str _=>by simp[KT.rk,KT.eqb,jX]
theorem eqbL_rk:∀ l m:jk,jX (rkL l) (rkL m)=jX l m
 | [],[]=>by simp[rkL,jX]
 | a::l,b::m=>by simp[rkL,jX,Ew a b,eqbL_rk l m]
 | [],_::_=>by simp[rkL,jX]
 | _::_,[]=>by simp[rkL,jX]
end
mutual
theorem FO:∀ a b:KT,a.rk.cmp b.rk=true
 | .int i,.int j=>by simp[KT.rk,KT.eqb,KT.cmp,cmpL,jX]
 | .str x,.str y=>by simp[KT.rk,KT.eqb,KT.cmp,cmpL,jX]
 | .tup l,.tup m=>by simp[KT.rk,KT.eqb,KT.cmp,cmpL,cmpL_rk l m]
 | .int _,.str _=>by simp[KT.rk,KT.eqb,KT.cmp,cmpL]
 | .int _,.tup _=>by simp[KT.rk,KT.eqb,KT.cmp,cmpL]
 | .str _,.int _=>by simp[KT.rk,KT.eqb,KT.cmp,cmpL]
 | .str _,.tup _=>by simp[KT.rk,KT.eqb,KT.cmp,cmpL]
 | .tup _,.int _=>by simp[KT.rk,KT.eqb,KT.cmp,cmpL]
 | .tup _,.str _=>by simp[KT.rk,KT.eqb,KT.cmp,cmpL]
theorem cmpL_rk:∀ l m:jk,cmpL (rkL l) (rkL m)=true
 | [],_=>by simp[rkL,cmpL]
 | _::_,[]=>by simp[rkL,cmpL]
 | a::l,b::m=>by
  rw[rkL,rkL,cmpL,cmpL_rk l m,FO a b];split <;> rfl
end
mutual
theorem Dj:∀ a b:KT,a.rk.plt b.rk=a.lt b
 | .int i,.int j=>by
  simp only[KT.rk,KT.eqb,KT.plt,pltL,jX,KT.lt,beq_self_eq_true,if_true];by_cases h:i=j
  ·subst h;simp
  ·simp[h]
 | .str x,.str y=>by
  simp only[KT.rk,KT.eqb,KT.plt,pltL,jX,KT.lt,beq_self_eq_true,if_true];by_cases h:x=y
  ·subst h;simp
  ·simp[h]
 | .tup l,.tup m=>by
  simp only[KT.rk,KT.eqb,KT.plt,pltL,KT.lt,beq_self_eq_true,if_true,eqbL_rk,pltL_rk l m]
  cases h:jX l m with
  | true=>rw[aP rfl,Cr h]
  | false=>rw[aO zW]
 | .int _,.str _=>by simp[KT.rk,KT.eqb,KT.plt,pltL,KT.lt]
 | .int _,.tup _=>by simp[KT.rk,KT.eqb,KT.plt,pltL,KT.lt]
 | .str _,.int _=>by simp[KT.rk,KT.eqb,KT.plt,pltL,KT.lt]
 | .str _,.tup _=>by simp[KT.rk,KT.eqb,KT.plt,pltL,KT.lt]
 | .tup _,.int _=>by simp[KT.rk,KT.eqb,KT.plt,pltL,KT.lt]
 | .tup _,.str _=>by simp[KT.rk,KT.eqb,KT.plt,pltL,KT.lt]
theorem pltL_rk:∀ l m:jk,pltL (rkL l) (rkL m)=ltL l m
 | [],[]=>by simp[rkL,pltL,ltL]
 | [],_::_=>by simp[rkL,pltL,ltL]
 | _::_,[]=>by simp[rkL,pltL,ltL]
 | a::l,b::m=>by rw[rkL,rkL,pltL,ltL,Ew a b,pltL_rk l m,Dj a b]
end
mutual
theorem IL:∀ t:KT,t.rk.depth<=2 * t.depth+2
 | .int i=>by simp[KT.rk,KT.depth,jY]
 | .str x=>by simp[KT.rk,KT.depth,jY]
 | .tup l=>by
  have:=depthL_rk l;simp only[KT.rk,KT.depth,jY]
  lia
theorem depthL_rk:∀ l:jk,jY (rkL l)<=2 * jY l+2
 | []=>by simp[rkL,jY]
 | t::l=>by
  let a:=IL t;let b:=depthL_rk l;rw[rkL,jY,jY]
  lia
end
inductive Xt(n:Nat)(c:jf)(H:Hp)(Q:VK)(_:XK):Prop
 |mk(v:V)(t:KT)(q:Nat)(_:c=[v])(_:ZC H t v)(_:t.fits q=true)(_:t.depth<n)(_:∀(b:V)(a:Hp),ZC a t.rk b->ZE H a->Q b a)
theorem ZOn:ZB zEu zEu (Za Li):=Zr
theorem ZNR{n:Nat}(F:Zh K "_law_rank" "_law_rank" Li f fd)(T:Yb mg)(DS:ZA P w K mg kh (n+1) "_law_rank" zEu (Xt n)):ZI P w K mg kh ZO (n+2) f fd zEu (Xt (n+1)):=by
 refine F.ko ZOn λa5 A a4 s H j Q E hr h=>?_;let⟨v,t,q,rfl,d,hq,hn,k⟩:=h;intro Xc;refine⟨_,ZM (Z3 (XG (Z6 VZ rfl T.isi Ww (Zn (pv 0) (VR (v:=.ty "int") rfl T.int P4 rfl)))) (ZT (Zf (X9 (Qr ZL (pv 0) U5 (X9 Zj))))) Z4)
  (ZM (Z3 (XG (Z6 VZ rfl T.isi Ww (Zn (pv 0) (VR (v:=.ty "str") rfl T.str MB rfl)))) (ZT (Zf (X9 (Qr ZL ZL (pv 0) (X9 Zj))))) Z4)
  (ZT (Zf (X9 (Qr ZL ZL U5 (UO MN rfl T.tuple Pz (ZU (Vm [] [] rfl (II (pv 0)) (λ_ _ _ _ _=>UV) (λ_ _ _ _ _=>Ze DS hr (ZU (pv 0))) trivial)))))))),?_⟩
 cases t with
 | int i=>
  let O:v=.int i:=by rw[ZC] at d;exact d
  subst O;refine⟨_,Z,_,_,_,_,Z,d.ty,ME,_,Z,Z0 ?_⟩;refine⟨_,Z,(by show 0<=ar;decide),λp0 V=>⟨(by show 4<=ar;decide),λp X=>?_⟩⟩
  let S:=Zl V (.tup []);let r:=Zl X (.tup [.int 0,.int i,.str "",.ref p0]);refine k _ _ ?_ (S.trans r);rw[KT.rk];exact .tup ZV (.cons (.int 0) (.cons (.int i) (.cons (.str _) (.cons (.tup (r _ _ ZV) .nil) .nil))))
 | str x=>
  let O:v=.str x:=by rw[ZC] at d;exact d
  subst O;refine⟨_,Z,_,_,_,_,Z,d.ty,KO,_,Z,Zo ?_⟩;refine⟨_,Z,_,_,_,_,Z,d.ty,Nu,_,Z,Z0 ?_⟩;refine⟨_,Z,(by show 0<=ar;decide),λp0 V=>⟨(by show 4<=ar;decide),λp X=>?_⟩⟩
  let S:=Zl V (.tup []);let r:=Zl X (.tup [.int 1,.int 0,.str x,.ref p0]);refine k _ _ ?_ (S.trans r);rw[KT.rk];exact .tup ZV (.cons (.int 1) (.cons (.int 0) (.cons (.str x) (.cons (.tup (r _ _ ZV) .nil) .nil))))
 | tup l=>
  let G:=d;rw[ZC] at G;let⟨a,j,rfl,J,I⟩:=G;let hl:=I.length;rw[KT.fits,zP,zP] at hq;let⟨a9,a1,C⟩:=hq;let a8:l.length<=4:=of_decide_eq_true a1;rw[KT.depth] at hn;refine⟨_,Z,_,_,_,_,Z,d.ty,KR,_,Z,Zo ?_⟩;refine⟨_,Z,_,_,_,_,Z,d.ty,LR,_,Z,Zo ?_⟩;exists _,Z,a,Z,⟨j,Zv.of J⟩;refine Ue (n:=j.length) (λi z=>j[i]? = some z) (λD i m u=>ZE H u/\H D=none/\jV u ((l.take i).map KT.rk) m) (XU ∅)
   (λD i m u W g=>⟨j,j[i],Zv.of (g.1 _ _ J),by simp[W]⟩) (λD i m u z y W g hy=>⟨hy.1,hy.2 j (Zv.of (g.1 _ _ J))⟩) (λD m u g=>⟨j,Zv.of (g.1 _ _ J),zY _⟩)
   (λD hD=>⟨Zl hD _,hD,.nil⟩) (λD i m u z N a7 W hz g R hR=>?_) (λD m u N g=>?_)
  ·let⟨M,nD,c⟩:=g;let⟨t,L,kt⟩:=I.get hz;let mt:=zJ L;let a2:t.fits (q-1)=true:=by
    rw[M0] at C;exact zI.mp C t mt
   let a6:=Pg mt;exists _,Z,z,t,q-1,Z,kt.sm M,a2,by lia
   intro v' y k4 s4;let B:=s4 D _ N;let tD:Zz y (upd y D (.lst (m++[v']))):=(ZH.refl D y).upd.tups B;refine hR v' y B ⟨λb o e=>by rw[ZR (Zd e nD)];exact s4 b o (M b o e),nD,?_⟩
   rw[yR,L,zC];exact((c.sm s4).append (.cons k4 .nil)).mono tD _ _
  ·let⟨M,nD,c⟩:=g;let L:l.take j.length=l:=yY ∅
   rw[L] at c;let a3:=c.length;rw[zX] at a3;refine⟨D,m,Z,.inl ⟨ZK.of N,λp1 Y=>?_⟩⟩;let r:=Zl Y (.tup m);exists (by show 4<=ar;decide)
   intro p2 a0;let U:=Zl a0 (.tup [.int 2,.int 0,.str "",.ref p1]);refine k _ _ ?_ ((M.trans r).trans U);rw[KT.rk,GN];exact .tup ZV (.cons (.int 2) (.cons (.int 0) (.cons (.str _) (.cons (.tup (U _ _ ZV) (c.sm (r.trans U))) .nil))))
theorem Fa(T:Yb mg)(L:ZX K mg "_law_rank" Li zEu):∀ n:Nat,ZA P w K mg kh (n+1) "_law_rank" zEu (Xt n)
 | 0=>L.of λ_ _ _=>Ki λb H Q E h=>by let⟨v,t,q,_,_,_,a,_⟩:=h;lia
 | n+1=>L.of λ_ _ F=>ZNR F T (Fa T L n)
end Tw
namespace Tw
open PySem PySem.Spec L2 PyProof.Rows
variable{kc ke CS CT CH CK CP CB:ak}
def Ht:Kg KT.rk:=⟨Dj,FO,3,λt=>by cases t <;> (rw[KT.rk];exact⟨_,_,Z,Z⟩)⟩
def PX(c:jk):Prop:=c.Pairwise λa b=>a.lt b=true
def GC{c:jk}(d:c.Nodup)(h:c.Pairwise λa b=>b.lt a=false):PX c:=by
 induction c with
 | nil=>exact .nil
 | cons a c g=>
  rw[xM] at d;rw[xD] at h;refine xD.mpr ⟨λb f=>?_,g d.2 h.2⟩
  cases q:a.lt b with
  | true=>rfl
  | false=>
   let e:=ML a b q (h.1 b f);exact absurd (e ▸ f) d.1
theorem MA{k:Nat}{A:ay}(r:ZS k A):A.units+4<cLine:=by have:=r.un;lia
def Ej{p D:ak}{H a:Hp}(s:ZH p H a)(w:ZJ a p)(n:a D=none):H D=none:=by
 cases e:H D with
 | none=>rfl
 | some o=>
  by_cases h:D=p
  ·subst h;let⟨c,b⟩:=w.some;rw[n] at b;cases b
  ·rw[s D o e h] at n;cases n
inductive Ud(d:jf)(H:Hp)(Q:VK)(_:XK):Prop
 |mk(p:ak)(n:Nat)(_:d=[.ref p,.int (n:Int)])(_:ZJ H p)(_:n<400)(_:∀(D:ak)(c:jf)(b:jk)(a:Hp),H D=none->a D=some (.lst c)->jV a b c->(∀ t∈b,t.fits 3=true)->PX b->b.length<=n->ZJ a p->ZH p H a->Q (.ref D) a)
theorem Qm:ZB ["_law_well_here","_law_many","_law_found","_law_j"] zEc (Za IH):=Zr
theorem ZNj(F:Zh K "_law_keys" "_law_keys" IH f fd)(T:Yb mg)(DK:ZA P w K mg kh 6 "_law_key" zEg (XT 4))(DR:ZA P w K mg kh 6 "_law_rank" zEu (Xt 5)):
  ZI P w K mg kh ZO 9 f fd zEc Ud:=by
 refine F.ko Qm λa1 A a0 s H vs Q E S h=>?_;let⟨p,n,rfl,hw,hn,k⟩:=h;let nd:=Qm.nd;let U:=S.mono (show 6<=8 from nofun)
 let DS:ZA P w K mg kh 6 "_law_rank" zEu (Pm KT.rk):=by
  let⟨g,gd,FG,b,kp,m⟩:=DR.ex;exact⟨g,gd,FG.imp λvs H Q E h=>by
   let⟨v,t,e,a,c,d⟩:=h;have:=Vf t 3 c;exact⟨v,t,3,e,a,c,nofun,d⟩,b,kp,m⟩
 intro Xc;refine⟨_,ZM (Zg 2 nd FX)
  (ZM (UE PassesOwn.never rfl (Mw rfl T.range (ZU (pv 1))) (UC 3 nd)
   (ZT (K0 (MA S) (pv 2) (Ze DK U (Zn (pv 0) ZL)) PF rfl)))
  (ZT (Zf (CC Ht IL DS S rfl T.sorted rfl (ZU (pv 2)))))),?_⟩
 intro y H1 I _ s1 N;let⟨a2,Y⟩:=hw.some;let C:p≠y:=Zd Y I;refine⟨_,Z,(n:Int),Z,nofun,nofun,MM (n:=(n:Int).toNat) (λi σ u=>∃(l:List (KT×V×V))(o:jg),σ=[some (.ref p),some (.int (n:Int)),some (.ref y),o]/\Z1 w u y l/\l.length<=i/\(∀ x∈l,x.1.fits 3=true)/\ZJ u p/\ZH p H u)
  ⟨[],none,Z,N,zY _,λx X=>by simp at X,hw.same s1,ZH.of s1⟩ (λi σ u hi R=>?_) (λσ u R=>?_)⟩
 ·let⟨l,o,rfl,L,lx,B,j,M⟩:=R;exists _,Z,_,Z,p,3,Z,j,nofun
  intro v t H3 kv ft W r;let tu:=r.tupsW j;refine⟨y,l,t,Z,L.but r tu (Ne.symm C),nofun,kv,Vf t 3 ft,λH4 J O=>⟨_,_,Z,O,by have:=Bg l t v (.bl true);lia (splits:=8),λx X=>?_,W.stay J C,λb ob e nb=>?_⟩⟩
  ·have:x.1∈(Vt l t v (.bl true)).map (·.1):=List.mem_map_of_mem X;rw[IV] at this;split at this
   ·let⟨z,G,e⟩:=zR.mp this;rw[<-e];exact B z G
   ·rcases zA.mp this with q | q
    ·let⟨z,G,e⟩:=zR.mp q;rw[<-e];exact B z G
    ·rw[yZ.mp q];exact ft
  ·exact J b ob (r b ob (M b ob e nb) nb) (Zd e I)
 ·let⟨l,o,rfl,L,lx,B,j,M⟩:=R;exists _,Z,y,l,Z,L,B,nofun
  intro D ws rs H5 s5 nD hD ka pm pw;let lr:=pm.length_eq;rw[zX] at lr;refine k D ws rs H5 (Ej M j nD) hD ka (λt ht=>?_) (GC (pm.nodup_iff.mpr L.nd) pw) nofun (j.same s5) (M.trans (ZH.of s5))
  let⟨z,G,e⟩:=zR.mp (pm.mem_iff.mp ht);rw[<-e];exact B z G
section
open PySem.SeqAt
open PySem.AutoSeq1 (wpAny_loadPart')
open PySem.MeetsSeq PySem.MeetsSeq2 PySem.MeetsSeq3
end
inductive YY(n:Nat)(b:jf)(H:Hp)(Q:VK)(_:XK):Prop
 |mk(v u:V)(t m:KT)(r:Nat)(_:b=[v,u])(_:ZC H t v)(_:ZC H m u)(_:m.wide r=true)(_:r<n)(_:∀ a,ZE H a->Q (.bl (t.eqb m)) a)
def ZMm{l m:jk}(h:l.length≠m.length):jX l m=false:=by
 rw[<-OA,show (l.length==m.length)=false by simp[h],tW]
def BO{l m:jk}(h:l.length=m.length):((yL m.length).map λj=>(l.getD j (.int 0)).eqb (m.getD j (.int 0))).all id=jX l m:=by
 rw[<-OA,h,Nat.min_self,vM];simp
theorem ZJt{n:Nat}(F:Zh K "_law_alike" "_law_alike" M6 f fd)(T:Yb mg)(DA:ZA P w K mg kh (n+1) "_law_alike" zEb (YY n)):
  ZI P w K mg kh ZO (n+2) f fd zEb (YY (n+1)):=by
 refine F.ok Aq (λg H Q E h=>?_) (λa4 A a3 s H g Q E hr h=>?_)
 ·let⟨v,u,t,m,r,rfl,_⟩:=h;rfl
 let⟨v,u,t,m,r,rfl,d,B,hf,hn,k⟩:=h;intro Xc;refine⟨_,ZM (Z3 (XG (Z6 VZ rfl T.isi Ww (ZW (pv 1) (ZW (VR (v:=.ty "tuple") rfl T.tuple Pz rfl) Zj))))
   (ZM (Z3 (PW.pt (NK (Va (XG (Z6 VZ rfl T.isi Ww (ZW (pv 0) (ZW (VR (v:=.ty "tuple") rfl T.tuple Pz rfl) Zj)))))
    (NS (Y2 IR (Z6 WK rfl T.len X3 (ZW (pv 0) Zj)) (Z6 WK rfl T.len X3 (ZW (pv 1) Zj)) (YW _))))) (ZT (Zf PF)) Z4)
   (ZT (Zf (Z6 (Lh rfl) rfl T.all KP (ZW (Vm [0,1] zEb rfl (Mw rfl T.range (ZW (Z6 WK rfl T.len X3 (ZW (pv 1) Zj)) Zj)) (λ_ _ _ _ _=>UV)
    (λ_ _ _ _ _=>Ze DA hr (ZW (YS K (pv 1) (pv 0)) (ZW (YS K (pv 2) (pv 0)) Zj))) ⟨rfl,.inl rfl,rfl,rfl,.inl rfl,rfl,trivial⟩) Zj))))) Z4)
  (ZM (Z3 (XG (Z6 VZ rfl T.isi Ww (ZW (pv 1) (ZW (VR (v:=.ty "str") rfl T.str MB rfl) Zj))))
   (ZT (Zf (UA (Z6 VZ rfl T.isi Ww (ZW (pv 0) (ZW (VR (v:=.ty "str") rfl T.str MB rfl) Zj))) (Qb (UB UG (pv 0) (pv 1) (YW _)))))) Z4)
  (ZT (Zf (UA (Z6 VZ rfl T.isi Ww (ZW (pv 0) (ZW (VR (v:=.ty "int") rfl T.int P4 rfl) Zj)))
   (UA (Ls (Z6 VZ rfl T.isi Ww (ZW (pv 0) (ZW (VR (v:=.ty "bool") rfl T.bool Lg rfl) Zj)))) (Qb (UB UG (pv 0) (pv 1) (YW _)))))))),?_⟩
 let c:=k H (ZE.refl H)
 cases m with
 | int j=>
  let Y:u=.int j:=by rw[ZC] at B;exact B
  subst Y;refine⟨_,Z,_,_,_,_,Z,.int j,Gv,_,Z,Zo ?_⟩;refine⟨_,Z,_,_,_,_,Z,.int j,kit_is',_,Z,Zo ?_⟩
  cases t with
  | int i=>
   let ev:v=.int i:=by rw[ZC] at d;exact d
   subst ev;refine⟨_,Z,_,_,_,_,Z,.int i,ME,_,Z,Z0 ?_⟩;refine⟨_,Z,_,_,_,_,Z,.int i,KU,_,Z,_,Z,Z0 ?_⟩;exists _,Z,_,Z,Z;rw[KT.eqb] at c;let e:decide (V.int i=V.int j)=(i==j):=by
    by_cases z:i=j
    ·subst z;simp
    ·simp[z]
   rw[e];exact c
  | str x=>
   rw[show (KT.str x).eqb (.int j)=false by simp[KT.eqb]] at c
   exact⟨_,Z,_,_,_,_,Z,d.ty,KO,_,Z,Zo c⟩
  | tup l=>
   rw[show (KT.tup l).eqb (.int j)=false by simp[KT.eqb]] at c
   exact⟨_,Z,_,_,_,_,Z,d.ty,KR,_,Z,Zo c⟩
 | str y=>
  let Y:u=.str y:=by rw[ZC] at B;exact B
  subst Y;refine⟨_,Z,_,_,_,_,Z,.str y,FM,_,Z,Zo ?_⟩;refine⟨_,Z,_,_,_,_,Z,.str y,Nu,_,Z,Z0 ?_⟩
  cases t with
  | int i=>
   rw[show (KT.int i).eqb (.str y)=false by simp[KT.eqb]] at c
   exact⟨_,Z,_,_,_,_,Z,d.ty,kit_is',_,Z,Zo c⟩
  | str x=>
   let ev:v=.str x:=by rw[ZC] at d;exact d
   subst ev;refine⟨_,Z,_,_,_,_,Z,.str x,Nu,_,Z,Z0 ?_⟩;exists _,Z,_,Z,Z;rw[KT.eqb] at c;let e:decide (V.str x=V.str y)=(x==y):=by
    by_cases z:x=y
    ·subst z;simp
    ·simp[z]
   rw[e];exact c
  | tup l=>
   rw[show (KT.tup l).eqb (.str y)=false by simp[KT.eqb]] at c
   exact⟨_,Z,_,_,_,_,Z,d.ty,LR,_,Z,Zo c⟩
 | tup m=>
  let tu:=B.ty (K:=K);rw[ZC] at B;let⟨b,p,rfl,X,M⟩:=B;let a1:=M.length;rw[KT.wide,zP,zP] at hf;let⟨f0,f1,f2⟩:=hf;let r0:=of_decide_eq_true f0;let l4:=of_decide_eq_true f1;refine⟨_,Z,_,_,_,_,Z,tu,Kt,_,Z,Z0 ?_⟩
  cases t with
  | int i=>
   rw[show (KT.int i).eqb (.tup m)=false by simp[KT.eqb]] at c
   exact⟨_,Z,_,_,_,_,Z,d.ty,Gv,_,Z,Z0 (Z0 c)⟩
  | str x=>
   rw[show (KT.str x).eqb (.tup m)=false by simp[KT.eqb]] at c
   exact⟨_,Z,_,_,_,_,Z,d.ty,FM,_,Z,Z0 (Z0 c)⟩
  | tup l=>
  let tv:=d.ty (K:=K);rw[ZC] at d;let⟨a,g,rfl,ea,N⟩:=d;let hl:=N.length;rw[KT.eqb] at k c;refine⟨_,Z,_,_,_,_,Z,tv,Kt,_,Z,Zo ?_⟩;exists _,Z,a,g,Z,.inr (Zv.of ea),_,Z,b,p,Z,.inr (Zv.of X),Z,_,Z;by_cases O:g.length=p.length
  ·refine ZP5 (by rw[O]) ?_
   exists _,Z,b,p,Z,.inr (Zv.of X),_,Z,nofun,nofun
   rw[tO];refine Ue (n:=p.length) (λi x=>x=.int (0+(i:Int))) (λD i G q=>ZE H q/\H D=none/\G=((yL i).map λj=>(l.getD j (.int 0)).eqb (m.getD j (.int 0))).map V.bl) (XU nofun)
    (λD i G q S _=>S) (λD i G q x H4 S _ hy=>hy) (λD G q _=>zY _) (λD hD=>⟨Zl hD _,hD,Z⟩) (λD i G q x W a5 S hx hP R hR=>?_) (λD G q W hP=>?_)
   ·subst hx;let⟨C,nD,rfl⟩:=hP;let a0:i<g.length:=nofun
    let L:g[i]? = some g[i]:=by simp[a0]
    let J:p[i]? = some p[i]:=by simp[S]
    let⟨t,et,kt⟩:=N.get L;let⟨U,I,a2⟩:=M.get J;let ft:U.wide (r-1)=true:=by rw[Ip] at f2;exact zI.mp f2 U (zJ I)
    let av:Xq g (0+(i:Int))=some g[i]:=by rw[Int.zero_add];exact VD L
    let au:Xq p (0+(i:Int))=some p[i]:=by rw[Int.zero_add];exact VD J
    refine⟨_,Z,_,Z,.inr (.inl ⟨a,g,_,_,rfl,rfl,Zv.of (C _ _ ea),av,_,rfl,_,rfl,.inr (.inl ⟨b,p,_,_,rfl,rfl,Zv.of (C _ _ X),au,g[i],p[i],t,U,r-1,rfl,kt.sm C,a2.sm C,ft,nofun,λH4 s4=>?_⟩)⟩)⟩
    refine hR _ H4 (s4 D _ W) ⟨λb o e=>by rw[ZR (Zd e nD)];exact s4 b o (C b o e),nD,?_⟩
    rw[List.range_succ,zC,zC]
    congr 1
    show [V.bl (t.eqb U)]=[V.bl ((l.getD i (.int 0)).eqb (m.getD i (.int 0)))];rw[zU,zU,et,I];rfl
   ·let⟨C,nD,rfl⟩:=hP;exists D,_,Z,ZK.of W;rw[<-a1,BO nofun]
    exact k q C
  ·rw[ZMm nofun] at c
   rw[aK (λz=>O (by have:=NC z;lia (splits:=8)))]
   exact Z0 c
theorem Dh(T:Yb mg)(L:ZX K mg "_law_alike" M6 zEb):∀ n:Nat,ZA P w K mg kh (n+1) "_law_alike" zEb (YY n)
 | 0=>L.of λ_ _ _=>Ki λb H Q E h=>by let⟨v,u,t,m,r,_,_,_,_,a,_⟩:=h;lia
 | n+1=>L.of λ_ _ F=>ZJt F T (Dh T L n)
inductive YV(i:jf)(H:Hp)(Q:VK)(_:XK):Prop
 |mk(a b:ak)(g h:jf)(e c:jk)(_:i=[.ref a,.ref b])(_:H a=some (.lst g))(_:H b=some (.lst h))(_:jV H e g)(_:jV H c h)(_:∀ t∈c,t.wide 4=true)(_:c.length<=400)(_:∀ d,ZE H d->Q (.bl (jX e c)) d)
theorem ZKn:ZB zEb zEb (Za IG):=Zr
def Cz(F:Zh K "_law_rows_alike" "_law_rows_alike" IG f fd)(T:Yb mg)(p:ZA P w K mg kh 7 "_law_alike" zEb (YY 6)):ZI P w K mg kh ZO 8 f fd zEb YV:=by
 refine F.ko ZKn λr A i s H N Q E y h=>?_;let⟨a,b,n,o,J,L,rfl,m,u,B,C,x,c,k⟩:=h;intro M;refine⟨_,ZT (Zf (UA (Z6 VZ rfl T.isi Ww (Zn (pv 0) (VR (v:=.ty "list") rfl T.list P0 rfl)))
  (Qb (Ze p y (Zn (UO MN rfl T.tuple Pz (ZU (pv 0))) (UO MN rfl T.tuple Pz (ZU (pv 1)))))))),?_⟩
 refine⟨_,Z,_,_,_,_,Z,.lst m,(by kernel_rfl),_,Z,Z0 ?_⟩
 refine⟨_,Z,a,n,Z,.inl ⟨ZK.of m,λD d=>?_⟩⟩;let j:=Zl d (.tup n);refine⟨_,Z,b,o,Z,.inl ⟨ZK.of (j _ _ u),λG e=>?_⟩⟩;let l:=Zl e (.tup o);let g:=j.trans l;refine⟨.ref D,.ref G,.tup J,.tup L,5,Z,.tup (l _ _ ZV) (B.sm g),.tup ZV (C.sm g),?_,by decide,λq I=>?_⟩
 ·rw[KT.wide,zP,zP,Ip];exact⟨by decide,aM c,zI.mpr λt z=>x t z⟩
 ·rw[KT.eqb];exact k q (g.trans I)
def NP{H:Hp}{p q:ak}(W:ZJ H p)(h:H q=none):q≠p:=λz=>by
 let⟨a,e⟩:=W.some;rw[z,e] at h;cases h
inductive WD(b:jf)(H:Hp)(Q:VK)(_:XK):Prop
 |mk(p:ak)(_:b=[.ref p])(_:ZJ H p)(_:∀(v:V)(t:KT)(a:Hp),ZC a t v->t.fits 3=true->ZJ a p->ZH p H a->Q v a)
theorem ZOD:ZB zEl zEl (Za Kd):=Zr
theorem BX(F:Zh K "_law_value" "_law_value" Kd f fd)(z:ZA P w K mg kh 1 "_law_pull" zEc Zy)(J:ZA P w K mg kh 6 "_law_key" zEg (XT 4)):ZI P w K mg kh ZO 7 f fd zEl WD:=by
 refine F.ko ZOD λN A y s H vs Q E C h=>?_;let⟨p,rfl,W,q⟩:=h;let g:=C.to 1;intro Xc;refine⟨_,ZM (Z3 (Y2 UG (Ze z g (Zn (pv 0) ZL)) ZL (YW _)) (ZT (Zf (Ze J C (Zn (pv 0) ZL)))) Z4)
  (ZT (Zf (YS K (Y3 (pa6 ZL ZL U5 (X9 (ZU ZL)) U5 (X9 Zj))) (Ze z g (Zn (pv 0) ZL))))),?_⟩
 refine⟨_,Z,p,3,Z,W,Wy (by decide) (by decide),λw0 L a0 a1 k G=>⟨Z,_,Z,?_⟩⟩
 refine Ve (λc=>?_) (λc=>?_)
 ·exact⟨_,Z,p,3,Z,k,by decide,λv t a S R b j=>q v t a S R b (G.trans j)⟩
 exists YQ;intro l X;let B:=Zl X (.tup [.int 1]);exists YQ;intro m Y;let n:=Zl Y (.tup []);exists YQ;intro d i;let o:=Zl i (.lst [.int 0,.int 1,.str "1",.ref l,.str "",.ref m]);let u:ZE L _:=(B.trans n).trans o;let x:d≠p:=NP (k.same (B.trans n)) i;exists _,Z,p,6,Z,k.same u,Wy (by decide) (by decide)
 intro r a r0 r1 b j;let I:=j.tupsW (k.same u);let e:ZH p H a:=(G.trans (ZH.of u)).trans j;let T:ZC a (.tup [.int 1]) (.ref l):=.tup (I _ _ (o _ _ (n _ _ ZV))) (.cons (.int 1) .nil);let U:ZC a (.tup []) (.ref m):=.tup (I _ _ (o _ _ ZV)) .nil;let O:a d=some (.lst [.int 0,.int 1,.str "1",.ref l,.str "",.ref m]):=j d _ ZV x;let⟨v,M,D⟩:=Nd (xs:=[V.int 0,.int 1,.str "1",.ref l,.str "",.ref m]) r0 r1;refine .inl ⟨d,_,_,v,Z,Z,ZK.of O,M,?_⟩;simp only[zQ,tQ,or_false] at D;rcases D with rfl | rfl | rfl | rfl | rfl | rfl
 ·exact q _ _ a (.int 0) (by decide +kernel) b e
 ·exact q _ _ a (.int 1) (by decide +kernel) b e
 ·exact q _ _ a (.str _) (by decide +kernel) b e
 ·exact q _ _ a T (by decide +kernel) b e
 ·exact q _ _ a (.str _) (by decide +kernel) b e
 ·exact q _ _ a U (by decide +kernel) b e
end Tw
namespace L2
open PySem PySem.Spec PyProof.Rows
inductive Pj(b:zZ)(c:jf)(H:Hp)(Q:VK):Prop
 |mk(p:ak)(a:jB)(_:c=[.ref p])(_:ZK b H p (a.map V.int))(_:Q (.int a.sum) H)
def ZPp(g:X.calm=true):Vp X (.builtin "sum") (Pj X.K):=by
 intro d s A H z y Q I r h;let⟨p,c,rfl,j,q⟩:=h;let⟨u,rfl,m⟩:=QF r;cases m;let⟨k,n,l,x⟩:=I.list j;let a:=ZHz n;let⟨v,e⟩:=a.allInts.items;let b:=l.isList;rw[e] at b;let f:v.toList.map (·.1)=c:=by
  rw[<-nums_intItems,<-e];exact a.numsOf
 refine sum_intListG (I.ok.hd g) b λw t o i=>⟨.int c.sum,H,I.kept (t':=t) i,⟨o,?_⟩,q⟩;rw[preSum_eq,yY (by simp),f]
end L2
namespace Tw
open PySem PySem.Spec L2 PyProof.Rows
variable{kc ke CS CT CH CK CP CB:ak}
theorem ZO9:az "sum" = some (.builtin "sum"):=by decide +kernel
structure YT where
 h:Int
 lo:KT
 hi:KT
 m:Int
abbrev jE:=List YT
def YT.d:YT:=⟨0,.int 0,.int 0,0⟩
noncomputable def YT.kt(L:YT):KT:=.tup [.int L.h,L.lo,L.hi,.int L.m]
inductive YB(H:Hp)(L:YT)(u:V):Prop
 |mk(a c b:_)(_:u=.ref a)(_:H a=some (.tup [.int L.h,c,b,.int L.m]))(_:ZC H L.lo c)(_:ZC H L.hi b)
def YB.mono{H d:Hp}{L:YT}{u:V}(x:YB H L u)(m:Zz H d):YB d L u:=by
 let⟨a,c,b,e,f,g,h⟩:=x;exact⟨a,c,b,e,m _ _ f,g.mono m _ _,h.mono m _ _⟩
def Yi(H:Hp)(a:jE)(b:jf):Prop:=b.length=a.length/\∀ i u,b[i]? = some u->YB H (a.getD i .d) u
def Yi.mono{H a:Hp}{b:jE}{c:jf}(x:Yi H b c)(m:Zz H a):Yi a b c:=⟨x.1,λi u e=>(x.2 i u e).mono m⟩
def YT.fit(L:YT):Prop:=L.lo.fits 3=true/\L.hi.fits 3=true
def Ql(a b:YT):Bool:=(a.h==b.h)&&a.hi.lt b.lo
def Lm(a:jE):Bool:=(yL (a.length-1)).all λj=>Ql (a.getD j .d) (a.getD (j+1) .d)
def over(a:jE):Option YT:=if 2<=a.length/\a.length<=4/\Lm a=true then some ⟨(a.getD 0 .d).h+1,(a.getD 0 .d).lo,(a.getD (a.length-1) .d).hi,(a.map YT.m).sum⟩ else none
def ZL0{a:jE}(b:2<=a.length)(c:a.length<=4)(h:∀ j,j<a.length-1->Ql (a.getD j .d) (a.getD (j+1) .d)=true):over a=some ⟨(a.getD 0 .d).h+1,(a.getD 0 .d).lo,(a.getD (a.length-1) .d).hi,(a.map YT.m).sum⟩:=
 aP ⟨b,c,zI.mpr λj e=>h j (xN.mp e)⟩
inductive UW(d:jf)(H:Hp)(Q:VK)(_:XK):Prop
 |mk(v u:V)(a b:YT)(_:d=[v,u])(_:YB H a v)(_:YB H b u)(_:a.fit)(_:b.fit)(_:∀ c,ZE H c->Q (.bl (Ql a b)) c)
theorem ZPV:ZB zFb zFb (Za ID):=Zr
def ZND(F:Zh K "stand_side_by_side" "stand_side_by_side" ID f fd)(T:Yb mg)(r:ZA P w K mg kh 7 "ahead" zE7 XJ):ZI P w K mg kh ZO 8 f fd zFb UW:=by
 refine F.ko ZPV λB A l s H X Q E J h=>?_;let⟨v,u,a,b,rfl,G,I,C,D,k⟩:=h;let⟨U,o⟩:=T.height;let⟨V,N⟩:=T.least;let⟨W,O⟩:=T.greatest;let⟨p,x,c,rfl,m,L,i⟩:=G;let⟨q,d,y,rfl,n,j,M⟩:=I;intro S;refine⟨_,ZT (Zf (UA (UB UG (YS K (pv 0) (Xp (v:=.int 0) rfl o ⟨_,rfl⟩)) (YS K (pv 1) (Xp (v:=.int 0) rfl o ⟨_,rfl⟩)) (YW _))
  (Qb (Ze r J (Zn (YS K (pv 0) (Xp (v:=.int 2) rfl O ⟨_,rfl⟩)) (YS K (pv 1) (Xp (v:=.int 1) rfl N ⟨_,rfl⟩))))))),?_⟩
 refine⟨_,Z,.inr (.inl ⟨p,_,_,.int a.h,rfl,rfl,Zv.of m,rfl,?_⟩)⟩;refine⟨_,Z,.inr (.inl ⟨q,_,_,.int b.h,rfl,rfl,Zv.of n,rfl,rfl,_,rfl,?_⟩)⟩;by_cases g:a.h=b.h
 ·rw[aM (by rw[g])]
  refine Z0 ?_;refine⟨_,Z,.inr (.inl ⟨p,_,_,c,rfl,rfl,Zv.of m,rfl,?_⟩)⟩;refine⟨_,Z,.inr (.inl ⟨q,_,_,d,rfl,rfl,Zv.of n,rfl,c,d,a.hi,b.lo,rfl,i,j,C.2,D.1,λt R=>?_⟩)⟩;let e:a.hi.lt b.lo=Ql a b:=by unfold Ql;rw[g,beq_self_eq_true,uT]
  rw[e];exact k t R
 ·rw[aK (λz=>g (NC z))];refine Zo ?_;let e:false=Ql a b:=by unfold Ql;rw[beq_eq_false_iff_ne.mpr g,vV]
  rw[e];exact k H (ZE.refl H)
def FU{n:Int}(h:n.natAbs<10 ^ 60)(r:Nat):(KT.int n).fits r=true:=by rw[KT.fits];exact aM h
def N5{H:Hp}{L:YT}{u:V}(h:ZC H L.kt u):YB H L u:=by
 unfold YT.kt at h;rw[ZC] at h;let⟨a,r,rfl,e,b⟩:=h;rw[jV] at b;let⟨p,l,rfl,c,b⟩:=b;rw[jV] at b;let⟨j,m,rfl,g,b⟩:=b;rw[jV] at b;let⟨k,n,rfl,i,b⟩:=b;rw[jV] at b;let⟨q,o,rfl,d,b⟩:=b;rw[jV] at b;subst b;rw[ZC] at c d;subst c d;exact⟨a,j,k,Z,e,g,i⟩
def ES:YT.d.fit:=⟨FU (n:=0) (by decide) 3,FU (n:=0) (by decide) 3⟩
def CG(H:Hp)(b:jk)(c:jf):Prop:=c.length=b.length/\∀ i u,c[i]? = some u->∃ a d e,u=.ref a/\H a=some (.tup [d,e])/\ZC H (b.getD i (.int 0)) d
noncomputable def LP(a:jk):KT:=.tup [.int 0,a.getD 0 (.int 0),a.getD (a.length-1) (.int 0),.int a.length]
def BP{a:jf}{u:V}(h:a[a.length-1]? = some u):Xq a (-1)=some u:=by
 let b:a≠[]:=λz=>by rw[z] at h;simp at h
 let e:a=a.dropLast++[u]:=by
  let c:a.getLast b=u:=by
   rw[pT];exact(zE.mp h).2
  rw[<-c,qF]
 rw[e];exact Er _ _
inductive XD(d:jf)(H:Hp)(Q:VK)(_:XK):Prop
 |mk(l:ak)(b:jf)(c:jk)(_:d=[.ref l])(_:H l=some (.lst b))(_:CG H c b)(_:0<b.length)(_:∀(a:Hp)(v:V),ZE H a->ZC a (LP c) v->Q v a)
theorem ZKI:ZB zEx zEx (Za Kf):=Zr
def ZIB(F:Zh K "label_of_rows" "label_of_rows" Kf f fd)(T:Yb mg):ZI P w K mg kh ZO 1 f fd zEx XD:=by
 refine F.ko ZKI λq A i s H L Q E I h=>?_;let⟨l,c,J,rfl,e,d,u,k⟩:=h;intro C;refine⟨_,ZT (Zf (X9 (Qr ZL (YS K (YS K (pv 0) ZL) ZL)
  (YS K (YS K (pv 0) (QQ QV ZL)) ZL) (Z6 WK rfl T.len X3 (ZU (pv 0)))))),?_⟩
 let m:c[0]? = some c[0]:=zV u;let n:c[c.length-1]? = some (c[c.length-1]'∅):=zV ∅
 let⟨a,o,D,r,z,x⟩:=d.2 0 _ m;let⟨b,bk,G,t,B,y⟩:=d.2 _ _ n;rw[r] at m;rw[t] at n;refine⟨_,Z,.inl ⟨l,c,_,.ref a,Z,Z,ZK.of e,VD (j:=0) m,.inr (.inl ⟨a,_,_,o,rfl,rfl,Zv.of z,rfl,?_⟩)⟩⟩;refine⟨_,Z,1,Z,.inl ⟨l,c,_,.ref b,Z,Z,ZK.of e,BP n,.inr (.inl ⟨b,_,_,bk,rfl,rfl,Zv.of B,rfl,?_⟩)⟩⟩;exists _,Z,l,c,Z,.inl (ZK.of e),YQ;intro p v;let g:=Zl v (.tup [.int 0,o,bk,.int c.length]);refine k _ _ g ?_;unfold LP;rw[<-d.1];exact .tup ZV (.cons (.int _) (.cons (x.sm g) (.cons (y.sm g) (.cons (.int _) .nil))))
abbrev ZZ:=KT×KT
abbrev jo:=List ZZ
noncomputable def OG(r:ZZ):KT:=.tup [r.1,r.2]
def YD(a:jo):jk:=a.map OG
def ZZ.fit(r:ZZ):Prop:=r.1.fits 3=true/\r.2.fits 3=true
structure ZQ where
 h:Nat
 rows:jo
 bs:jl
abbrev jn:=List ZQ
noncomputable def ZQ.d:ZQ:=⟨0,[],[]⟩
def gd(a:jn)(i:Nat):ZQ:=a.getD i .d
def ZPh{a:jn}{i:Nat}{t:ZQ}(h:a[i]? = some t):gd a i=t:=by
 unfold gd;rw[zU,h];rfl
def YN{a:jn}{i:Nat}(h:i<a.length):a[i]? = some (gd a i):=by
 unfold gd;rw[zU,zV h];rfl
structure YO(gt:jk)(ts:jn)(i:Nat)(t:ZQ):Prop where
 ne:t.rows≠[]
 up:(t.rows.map (·.1)).Pairwise λa b=>a.lt b=true
 inn:∀ r∈t.rows,r.fit
 leaf:t.h=0->t.bs=[]/\t.rows.length<=4
 stem:t.h≠0->2<=t.bs.length/\t.bs.length<=4/\(∀ b∈t.bs,b<ts.length/\(gd ts b).h+1=t.h)/\t.rows=t.bs.flatMap λb=>(gd ts b).rows
def WF(b:jk)(a:jn):Prop:=∀ i t,a[i]? = some t->YO b a i t
noncomputable def kindOf(t:ZQ):Str:=if t.h=0 then "leaf" else "stem"
def UK{H c:Hp}{a:ak}{o:HO}(s:ZE H c)(n:H a=none):ZE H (upd c a o):=λb u e=>by rw[ZR (Zd e n)];exact s b u e
abbrev iN(l:jl):jf:=l.map λb=>V.int (b:Nat)
def Mv(a b:jo):YD (a++b)=YD a++YD b:=zC
theorem JI{a:jf}{j:Nat}{v:V}(b:1<=j)(c:j<=a.length)(h:a[a.length-j]? = some v):Xq a (-(j:Int))=some v:=by
 unfold Xq;let e:QR a.length (-(j:Int))=some (a.length-j):=by
  unfold QR;rw[aO ∅,aP ∅]
  congr 1
  lia
 rw[e];exact h
noncomputable def rd:ZZ:=(.int 0,.int 0)
def Zt(t:ZQ):YT:=⟨t.h,(t.rows.getD 0 rd).1,(t.rows.getD (t.rows.length-1) rd).1,t.rows.length⟩
def P3{H:Hp}{c:jo}{k:jf}{i:Nat}{u:V}(h:jV H (YD c) k)(e:k[i]? = some u):∃ a l m,c[i]? = some (c.getD i rd)/\u=.ref a/\H a=some (.tup [l,m])/\ZC H (c.getD i rd).1 l/\ZC H (c.getD i rd).2 m:=by
 let⟨t,d,g⟩:=h.get e;unfold YD at d;rw[zH] at d;let⟨r,j,rfl⟩:=xX.mp d;let n:c.getD i rd=r:=by rw[zU,j];rfl
 unfold OG at g;rw[ZC] at g;let⟨a,z,rfl,o,b⟩:=g;rw[jV] at b;let⟨s,x,rfl,p,b⟩:=b;rw[jV] at b;let⟨v,y,rfl,q,b⟩:=b;rw[jV] at b;subst b;rw[n];exact⟨a,s,v,j,Z,o,p,q⟩
theorem Yi.snoc{H:Hp}{d:jE}{a:jf}{L:YT}{u:V}(h:Yi H d a)(j:YB H L u):Yi H (d++[L]) (a++[u]):=by
 exists by rw[zS,zS,h.1];rfl
 intro i w e;rcases xT i a.length with b | b
 ·rw[wR b] at e;have:=h.2 i w e;rw[zU] at this⊢;rw[wR (by rw[<-h.1];exact b)]
  exact this
 ·rw[xE b] at e;let c:i-a.length=0:=by
   rcases Nat.eq_zero_or_pos (i-a.length) with z | z
   ·exact z
   ·rw[sY (by simp;lia)] at e;cases e
  rw[c] at e;simp at e;subst e;let g:i=d.length:=by have:=h.1;lia
  rw[zU,g];simp;exact j
noncomputable def inT(a:jn)(x:Int):Bool:=decide (0<=x/\x<(a.length:Int))
def JF(a:jE):Prop:=∀ j,j+1<a.length->(a.getD (j+1) .d).h=(a.getD 0 .d).h/\(a.getD j .d).hi.lt (a.getD (j+1) .d).lo=true
theorem Q5{c:jE}:JF c ↔ Lm c=true:=by
 unfold JF Lm Ql;rw[zI];constructor
 ·intro h j e;let i:j<c.length-1:=xN.mp e;let⟨a,b⟩:=h j ∅
  rw[zP];refine⟨?_,b⟩;rw[beq_iff_eq,a]
  cases j with
  | zero=>rfl
  | succ j=>exact(h j ∅).1
 ·intro h;let g:∀ j,j<c.length->(c.getD j .d).h=(c.getD 0 .d).h:=λj=>by
   induction j with
   | zero=>intro _;rfl
   | succ j k=>
    intro e;have:=h j (xN.mpr ∅)
    rw[zP,beq_iff_eq] at this;rw[<-this.1];exact k ∅
  intro j e;have:=h j (xN.mpr ∅)
  rw[zP] at this;exact⟨g (j+1) e,this.2⟩
def Iy{a:jk}{e:jn}{i:Nat}{t:ZQ}(h:YO a e i t):(Zt t).fit:=by
 let b:0<t.rows.length:=tF.mpr h.ne;let c:t.rows.getD 0 rd∈t.rows:=by rw[zU,zV b];exact xL _
 let d:t.rows.getD (t.rows.length-1) rd∈t.rows:=by rw[zU,zV (show t.rows.length-1<t.rows.length by lia)];exact xL _
 exact⟨(h.inn _ c).1,(h.inn _ d).1⟩
def Z9(c:jn)(a:jl):jE:=a.map λb=>Zt (gd c b)
structure ZD(P:am)(w:ax)(K:zZ)(mg:jc)(kh:aE)(CX:VU)(k:Nat)(C:ak)(m:Str)(ps:jp)(sp:Sp):Prop where
 ex:∃ f fd,UY K C m f/\ZI P w K mg kh CX k f fd ps sp/\Zq K fd ps []
def YH{X:Cx}{j:VU}{k:Nat}{C:ak}{m:Str}{x:jp}{l:Sp}{E:XK}{o e:Expr}{g:jx}{n:TE}{t:TA}{a d:aJ}{v:Sem Bool}(q:PE X o n)(c:VY X.K C)(D:ZD X.prog X.w X.K X.mg X.base j k C m x l)(r:ZS k X.A)(u:QP j X E)(p:PA X (e::g) t)(i:aw (e::g) X.env=(false,aH e X.env)::aw g X.env:=by rfl)(h:(aG a (aw g X.env)).any (·.1)=false:=by rfl)(s:aH (.Call (.Attribute o m d) (e::g) [] a) X.env=(do
   let ov<-aH o X.env
   standAt d.atName
   let (f,first)<-holding [ov] (getMethod ov m v)
   callWith a f first (aG a (aw (e::g) X.env)) (backToKw a (keywordEach [] X.env))):=by rfl):
  PE X (.Call (.Attribute o m d) (e::g) [] a) (LD C m l [] E n t):=by
 let⟨f,fd,M,F,b⟩:=D.ex;exact AV q c M F r b .nil u p i h s
def JM{X:Cx}{e:VU}{k:Nat}{C:ak}{m:Str}{q:jp}{g:Sp}{E:XK}{o:Expr}{h:TE}{d a:aJ}{p:Sem Bool}(i:PE X o h)(c:VY X.K C)(D:ZD X.prog X.w X.K X.mg X.base e k C m q g)(j:ZS k X.A)(n:QP e X E)(l:aH (.Call (.Attribute o m a) [] [] d) X.env=(do
   let ov<-aH o X.env
   standAt a.atName
   let (f,first)<-holding [ov] (getMethod ov m p)
   callWith d f first (aG d (aw [] X.env)) (backToKw d (keywordEach [] X.env))):=by rfl):
  PE X (.Call (.Attribute o m a) [] [] d) (LD C m g [] E h U8):=by
 let⟨f,fd,M,F,b⟩:=D.ex;exact ZLM i c M F j b .nil n l
abbrev IE:Stmt:=WC (top 30) 0
abbrev IW:Stmt:=WC (top 65) 0
abbrev Js:Stmt:=WC (top 65) 1
abbrev JZ:Stmt:=WC (top 65) 3
abbrev IJ:Stmt:=WC (top 65) 7
abbrev J7:Stmt:=WC (top 65) 8
abbrev K3:Stmt:=WC (top 65) 12
abbrev IM:Stmt:=WC (top 65) 13
abbrev JB:Stmt:=WC (top 65) 18
structure Yq(K:zZ)(mg:jc)(kc ke:ak):Prop where
 shelf:mg "Shelf" = some (.ref kc)
 twig:mg "Twig" = some (.ref ke)
 cS:VY K kc
 cT:VY K ke
 nk:Zw K kc "kept"
 nf:Zw K kc "following"
 nl:Zw K kc "looks"
 nth:Zw K ke "things"
 ntg:Zw K ke "tag"
 nab:Zw K ke "above"
 nho:Zw K ke "holds"
abbrev OC(d a:ak)(n:Nat):List (Str×V):=[("kept",.ref d),("following",.int n),("looks",.ref a)]
abbrev Wm(d c:V)(a:ak)(b:Nat):List (Str×V):=[("things",d),("tag",c),("above",.ref a),("holds",.int b)]
structure XV(kc:ak)(H:Hp)(S d lk:ak)(n:Nat)(kvs:List (Zc×V))(ls:jf):Prop where
 self:∃ dx,H S=some (.ins kc dx (OC d lk n))
 kept:H d=some (.dK kvs)
 looks:H lk=some (.lst ls)
structure Wt(ke:ak)(H:Hp)(x:ak)(th tg:V)(ab:ak)(ho:Nat)(us:jf):Prop where
 self:∃ dx,H x=some (.ins ke dx (Wm th tg ab ho))
 above:H ab=some (.lst us)
def XV.same{kc:ak}{H b:Hp}{S d lk:ak}{n:Nat}{a:List (Zc×V)}{c:jf}(h:XV kc H S d lk n a c)(s:ZE H b):XV kc b S d lk n a c:=by
 let⟨⟨g,e⟩,i,j⟩:=h;exact⟨⟨g,s _ _ e⟩,s _ _ i,s _ _ j⟩
def Wt.same{ke:ak}{H a:Hp}{x:ak}{g d:V}{b:ak}{c:Nat}{i:jf}(h:Wt ke H x g d b c i)(s:ZE H a):Wt ke a x g d b c i:=by
 let⟨⟨j,e⟩,k⟩:=h;exact⟨⟨j,s _ _ e⟩,s _ _ k⟩
inductive Q8(ke:ak)(h:jf)(H:Hp)(Q:VK)(_:XK):Prop
 |mk(x g:ak)(e d:V)(_:h=[.ref x,e,d])(_:H x=some (.ins ke g []))(_:∀(a:Hp)(c:ak),(∀ b o,b≠x->H b=some o->a b=some o)->H c=none->Wt ke a x e d c 1 []->Q .non a)
theorem ZQv:ZB zE4 zE4 (Za IE):=Zr
def ZPW(F:Zh K "__init__" "Twig.__init__" IE f fd)(L:Yq K mg kc ke):ZI P w K mg kh ZO 1 f fd zE4 (Q8 ke):=by
 refine F.ko ZQv λl A j s H u Q E q h=>?_;let⟨x,d,t,r,rfl,m,k⟩:=h;intro p;exists _,ZM (Ui (pv 0) (pv 1) Z) (ZM (Ui (pv 0) (pv 2) rfl) (ZM (Ui (pv 0) (Y3 Zj) rfl) (ZT (Ui (pv 0) ZL rfl))));exists _,Z,_,Z,x,ke,d,_,Z,m,L.cT,L.nth,yT Z;exists _,Z,_,Z,x,ke,d,_,Z,ZV,L.cT,L.ntg,yT Z;exists YQ;intro i a;rw[NM] at a⊢;let c:x≠i:=λz=>by rw[<-z,ZV] at a;cases a
 let g:H i=none:=by rw[ZR (Ne.symm c)] at a;exact a
 exists _,Z,x,ke,d,_,Z,(by rw[ZR c];exact ZV),L.cT,L.nab,yT Z
 exists _,Z,x,ke,d,_,Z,ZV,L.cT,L.nho,yT Z;refine k _ i (λb o n e=>?_) g ⟨⟨d,ZV⟩,?_⟩
 ·rw[NM,ZR n,ZR (Zd e g),ZR n];exact e
 ·rw[NM,ZR (Ne.symm c)];exact ZV
inductive Vh(kc:ak)(g:jf)(H:Hp)(Q:VK)(_:XK):Prop
 |mk(x e:ak)(_:g=[.ref x])(_:H x=some (.ins kc e []))(_:∀(a:Hp)(d c:ak),(∀ b o,b≠x->H b=some o->a b=some o)->H d=none->H c=none->d≠c->XV kc a x d c 0 [] []->Q .non a)
theorem ZQn:ZB zEo zEo (Za IW):=Zr
def BB(F:Zh K "__init__" "Shelf.__init__" IW f fd)(L:Yq K mg kc ke):ZI P w K mg kh ZO 1 f fd zEo (Vh kc):=by
 refine F.ko ZQn λu A p s H B Q E y h=>?_;let⟨x,j,rfl,t,k⟩:=h;intro v;exists _,ZM (Ui (pv 0) FI Z) (ZM (Ui (pv 0) ZL rfl) (ZT (Ui (pv 0) (Y3 Zj) rfl)));intro d m;let q:x≠d:=Zd t m;exists _,Z,x,kc,j,_,Z,(by rw[ZR q];exact t),L.cS,L.nk,yT Z
 exists _,Z,x,kc,j,_,Z,ZV,L.cS,L.nf,yT Z;exists YQ;intro g c;rw[NM] at c⊢;let r:x≠g:=λz=>by rw[<-z,ZV] at c;cases c
 let a:upd H d (.dK []) g=none:=by rw[ZR (Ne.symm r)] at c;exact c
 let l:d≠g:=λz=>by rw[<-z,ZV] at a;cases a
 let i:H g=none:=by rw[ZR (Ne.symm l)] at a;exact a
 exists _,Z,x,kc,j,_,Z,(by rw[ZR r];exact ZV),L.cS,L.nl,yT Z
 refine k _ d g (λb o n e=>?_) m i l ⟨⟨j,ZV⟩,?_,?_⟩
 ·rw[ZR n,ZR (Zd e i),ZR n,ZR (Zd e m)];exact e
 ·rw[ZR (Ne.symm q),ZR l,ZR (Ne.symm q)];exact ZV
 ·rw[ZR (Ne.symm r)];exact ZV
inductive Zm(kc:ak)(g:jf)(H:Hp)(Q:VK)(_:XK):Prop
 |mk(S d c:ak)(n:Nat)(a:List (Zc×V))(e:jf)(i:Int)(b:V)(_:g=[.ref S,.int i])(_:XV kc H S d c n a e)(_:Yo a (.inl i)=some b)(_:Q b H)
theorem Ao:ZB zEa zEa (Za JB):=Zr
def ZKF(F:Zh K "twig_of" "Shelf.twig_of" JB f fd)(L:Yq K mg kc ke):ZI P w K mg kh ZO 1 f fd zEa (Zm kc):=by
 refine F.ko Ao λl A a s H x Q E o h=>?_;let⟨S,d,u,n,q,v,i,b,rfl,⟨⟨c,e⟩,m,t⟩,p,k⟩:=h;let j:=LX o;intro r;exists _,ZM (Z3 (PZ (ZKH j (pv 1) (Xz (pv 0) rfl))) VX Z4) (ZT (Zf (Ft j (Xz (pv 0) rfl) (pv 1))));let g:Xv H d (.int i) (some b):=p ▸ Xv.k (k:=Sum.inl i) m;refine⟨_,Z,_,Z,S,kc,c,_,.ref d,Z,e,L.cS,L.nk,Z,d,some b,Z,g,_,Z,Zo ?_⟩;exact⟨_,Z,S,kc,c,_,.ref d,Z,e,L.cS,L.nk,Z,_,Z,d,b,Z,g,k⟩
structure Vs(P:am)(w:ax)(K:zZ)(mg:jc)(kh:aE)(k:Nat)(C:ak)(ps:jp)(sp:Sp):Prop where
 ex:∃ f fd,Mk K C f/\ZI P w K mg kh ZO k f fd ps sp/\Zq K fd ps []
structure Pk(kc ke:ak)(H:Hp)(S d lk:ak)(n:Nat)(kvs:List (Zc×V))(ls:jf)(i:Int)(x:ak)(th tg:V)(ab:ak)(ho:Nat)(us:jf):Prop where
 sh:XV kc H S d lk n kvs ls
 val:Yo kvs (.inl i)=some (.ref x)
 tw:Wt ke H x th tg ab ho us
inductive Wa(kc ke:ak)(res:V->Nat->jf->V)(l:jf)(H:Hp)(Q:VK)(_:XK):Prop
 |mk(S d h:ak)(n:Nat)(a:List (Zc×V))(j:jf)(i:Int)(x:ak)(k c:V)(g:ak)(b:Nat)(e:jf)(_:l=[.ref S,.int i])(_:Pk kc ke H S d h n a j i x k c g b e)(_:Q (res c b e) H)
theorem BZ:ZB zEa zEa (Za J7):=Zr
def C4(F:Zh K "outside" "Shelf.outside" J7 f fd)(L:Yq K mg kc ke)(e:ZD P w K mg kh ZO 1 kc "twig_of" zEa (Zm kc)):ZI P w K mg kh ZO 2 f fd zEa (Wa kc ke λ_ a _=>.int a):=by
 refine F.ko BZ λg A c s H B Q E o h=>?_;let⟨S,d,q,n,b,r,i,x,y,v,u,a,z,rfl,R,k⟩:=h;intro t;exists _,ZT (Zf (Xz (YH (E:=E0) (pv 0) L.cS e o YG (ZU (pv 1))) rfl));let⟨l,m⟩:=R.sh.self;let⟨j,p⟩:=R.tw.self;exact⟨_,Z,S,l,_,Z,m,Z,_,Z,S,d,q,n,b,r,i,.ref x,Z,R.sh,R.val,x,ke,j,_,.int a,Z,p,L.cT,L.nho,Z,k⟩
theorem ZNd:ZB zEa zEa (Za IM):=Zr
def ZLe(F:Zh K "label" "Shelf.label" IM f fd)(L:Yq K mg kc ke)(e:ZD P w K mg kh ZO 1 kc "twig_of" zEa (Zm kc)):ZI P w K mg kh ZO 2 f fd zEa (Wa kc ke λc _ _=>c):=by
 refine F.ko ZNd λg A b s H B Q E o h=>?_;let⟨S,d,q,n,a,r,i,x,y,c,u,v,z,rfl,R,k⟩:=h;intro t;exists _,ZT (Zf (Xz (YH (E:=E0) (pv 0) L.cS e o YG (ZU (pv 1))) rfl));let⟨l,m⟩:=R.sh.self;let⟨j,p⟩:=R.tw.self;exact⟨_,Z,S,l,_,Z,m,Z,_,Z,S,d,q,n,a,r,i,.ref x,Z,R.sh,R.val,x,ke,j,_,c,Z,p,L.cT,L.ntg,Z,k⟩
theorem VE:ZB ["self","number","twig"] zEa (Za IJ):=Zr
def ZHy(F:Zh K "holders" "Shelf.holders" IJ f fd)(T:Yb mg)(L:Yq K mg kc ke)(m:ZD P w K mg kh ZO 1 kc "twig_of" zEa (Zm kc)):ZI P w K mg kh ZO 2 f fd zEa (Wa kc ke λ_ a e=>.int ((e.length:Nat)+(a:Nat):Int)):=by
 refine F.ko VE λo A c s H C Q E r h=>?_;let⟨S,d,t,n,b,u,i,x,B,z,g,a,e,rfl,R,k⟩:=h;let v:=VE.nd;intro y;exists _,ZM (Zg 2 v (YH (E:=E0) (pv 0) L.cS m r YG (ZU (pv 1)))) (ZT (Zf (Zx VB (Z6 WK rfl T.len X3 (ZU (Xz (pv 2) rfl))) (Xz (pv 2) rfl))));let⟨p,q⟩:=R.sh.self;let⟨j,l⟩:=R.tw.self;exists _,Z,S,p,_,Z,q,Z,_,Z,S,d,t,n,b,u,i,.ref x,Z,R.sh,R.val;exact⟨_,Z,x,ke,j,_,.ref g,Z,l,L.cT,L.nab,Z,g,e,Z,.inl (ZK.of R.tw.above),_,Z,x,ke,j,_,.int a,Z,l,L.cT,L.nho,Z,_,_,Z,Z,k⟩
inductive WR(ke:ak)(g:jf)(H:Hp)(Q:VK)(_:XK):Prop
 |mk(x:ak)(d:V)(a b:ak)(c:Nat)(e:jf)(h:Int)(i:jf)(_:g=[.ref x])(_:Wt ke H x d (.ref a) b c e)(_:H a=some (.tup (.int h::i)))(_:Q (.bl (decide (h > 0))) H)
theorem ZOR:ZB ["twig"] ["twig"] (Za HG):=Zr
def ZOF(F:Zh K "is_stem" "is_stem" HG f fd)(T:Yb mg)(L:Yq K mg kc ke):ZI P w K mg kh ZO 1 f fd ["twig"] (WR ke):=by
 refine F.ko ZOR λc A a s H u Q E p h=>?_;let⟨x,r,b,n,o,t,e,y,rfl,W,g,k⟩:=h;let⟨q,l⟩:=T.height;let⟨d,i⟩:=W.self;intro m;exists _,ZT (Zf (UB OH (YS K (Xz (pv 0) rfl) (Xp (v:=.int 0) rfl l ⟨_,rfl⟩)) ZL (YW _)));exact⟨_,Z,x,ke,d,_,.ref b,Z,i,L.cT,L.ntg,Z,.inr (.inl ⟨b,_,_,.int e,rfl,rfl,Zv.of g,VD (j:=0) rfl,_,_,rfl,rfl,k⟩)⟩
def ZQH{n:Nat}(h:n<=400000):n<sizeLine:=wZ h (by decide)
inductive UU(kc ke:ak)(s:jf)(H:Hp)(Q:VK)(_:XK):Prop
 |mk(S d c:ak)(n:Nat)(e:List (Zc×V))(j:jf)(i:Int)(x k m l:ak)(r:Nat)(q p u:jf)(h:Int)(_:s=[.ref S,.int i])(_:Pk kc ke H S d c n e j i x (.ref k) (.ref m) l r q)(_:H k=some (.lst p))(_:H m=some (.tup (.int h::u)))(_:c≠k)(_:c≠l)(_:j.length<=390000)(_:∀(a:Hp)(g t:ak),(∀ b o,b≠c->H b=some o->a b=some o)->a c=some (.lst (j++[.int i]))->H g=none->a g=some (.lst p)->a t=some (.tup [.str (if h > 0 then "stem" else "leaf"),.ref g])->Q (.ref t) a)
theorem Qh:ZB ["self","number","twig"] zEa (Za K3):=Zr
def AH(F:Zh K "look" "Shelf.look" K3 f fd)(T:Yb mg)(L:Yq K mg kc ke)(DT:ZD P w K mg kh ZO 1 kc "twig_of" zEa (Zm kc))(DS:ZA P w K mg kh 1 "is_stem" ["twig"] (WR ke)):ZI P w K mg kh ZO 2 f fd zEa (UU kc ke):=by
 refine F.ko Qh λa4 A a1 s H vs Q E hr h=>?_;let⟨S,d,j,n,W,p,i,x,J,tg,ab,ho,as,M,xs,U,rfl,R,V,C,Y,X,a3,k⟩:=h;let nd:=Qh.nd;intro Xc;refine⟨_,ZM (Zg 2 nd (YH (E:=E0) (pv 0) L.cS DT hr YG (ZU (pv 1))))
  (ZM (XS (Ug xP wQ wP Q0 (Xz (pv 0) rfl) (ZU (pv 1))))
  (ZM (Z3 (XG (Ze DS hr (ZU (pv 2)))) (ZT (Zf (X9 (Zn U5 (UO NA rfl T.list P0 (ZU (Xz (pv 2) rfl))))))) Z4)
  (ZT (Zf (X9 (Zn U5 (UO NA rfl T.list P0 (ZU (Xz (pv 2) rfl))))))))),?_⟩
 let⟨dx,hS⟩:=R.sh.self;let⟨O,hx⟩:=R.tw.self;exists _,Z,S,dx,_,Z,hS,Z,_,Z,S,d,j,n,W,p,i,.ref x,Z,R.sh,R.val;let l:=R.sh.looks;exists _,Z,S,kc,dx,_,.ref j,Z,hS,L.cS,L.nl,Z,.inl ⟨Z,_,ZK.of l⟩,_,Z,j,p,.int i,Z,Z,l,ZQH ∅
 let G:∀ b o,b≠j->H b=some o->upd H j (.lst (p++[.int i])) b=some o:=λb o n e=>by rw[ZR n];exact e
 let a2:x≠j:=ZY hx l;let I:tg≠j:=ZY C l;let q:=G _ _ a2 hx;let D:=G _ _ I C;let u:=G _ _ (Ne.symm X) R.tw.above;let m:=G _ _ (Ne.symm Y) V;let v:upd H j (.lst (p++[.int i])) j=some (.lst (p++[.int i])):=ZV;let r:∀(w:Str)(c t:ak),upd H j (.lst (p++[.int i])) c=none->upd (upd H j (.lst (p++[.int i]))) c (.lst M) t=none->w=(if U > 0 then ("stem" : Str) else "leaf")->Q (.ref t) (upd (upd (upd H j (.lst (p++[.int i]))) c (.lst M)) t (.tup [.str w,.ref c])):=λw c t a B ew=>by
  let g1:=Zl a (.lst M);let g2:=Zl B (.tup [.str w,.ref c]);let g:=g1.trans g2;let a0:H c=none:=by
   cases z:H c with
   | none=>rfl
   | some o=>
    have:c≠j:=λy=>by rw[y,ZV] at a;cases a
    rw[ZR this,z] at a;cases a
  refine k _ c t (λb o n e=>g _ _ (G b o n e)) (g _ _ v) a0 (g2 _ _ ZV) ?_;rw[ZV,ew]
 exists _,Z,x,.ref J,tg,ab,ho,as,U,xs,Z,⟨⟨O,q⟩,u⟩,D,_,Z;by_cases N:U > 0
 ·rw[aM N];refine Z0 ⟨_,Z,x,ke,O,_,.ref J,Z,q,L.cT,L.nth,Z,J,M,Z,.inl (ZK.of m),λc a=>⟨YQ,λt B=>?_⟩⟩;exact r _ c t a B (by rw[aP N])
 ·rw[aK N];refine Zo ⟨_,Z,x,ke,O,_,.ref J,Z,q,L.cT,L.nth,Z,J,M,Z,.inl (ZK.of m),λc a=>⟨YQ,λt B=>?_⟩⟩;exact r _ c t a B (by rw[aO N])
def GV{H:Hp}{L:YT}{u:V}(h:ZC H L.kt u):YB H L u:=by
 unfold YT.kt at h;rw[ZC] at h;let⟨a,r,rfl,e,b⟩:=h;rw[jV] at b;let⟨p,l,rfl,c,b⟩:=b;rw[jV] at b;let⟨j,m,rfl,g,b⟩:=b;rw[jV] at b;let⟨k,n,rfl,i,b⟩:=b;rw[jV] at b;let⟨q,o,rfl,d,b⟩:=b;rw[jV] at b;subst b;rw[ZC] at c d;subst c d;exact⟨a,j,k,Z,e,g,i⟩
structure YL where
 x:ak
 th:ak
 tg:ak
 ab:ak
abbrev jt:=List YL
noncomputable def YL.d:YL:=⟨0,0,0,0⟩
structure P6(ke:ak)(H:Hp)(ts:jn)(av:Nat->jl)(ho:Nat->Nat)(i:Nat)(a:YL):Prop where
 tw:Wt ke H a.x (.ref a.th) (.ref a.tg) a.ab (ho i) (iN (av i))
 things:∃ us,H a.th=some (.lst us)/\((gd ts i).h=0->jV H (YD (gd ts i).rows) us)/\((gd ts i).h≠0->us=iN (gd ts i).bs)
 tag:YB H (Zt (gd ts i)) (.ref a.tg)
def P6.same{ke:ak}{H b:Hp}{e:jn}{c:Nat->jl}{d:Nat->Nat}{i:Nat}{a:YL}(h:P6 ke H e c d i a)(s:ZE H b):P6 ke b e c d i a:=by
 let⟨l,g,j,k⟩:=h.things;exact⟨h.tw.same s,⟨l,s _ _ g,λz=>(j z).sm s,k⟩,h.tag.mono (ZE.tups s)⟩
structure Z5(kc ke:ak)(H:Hp)(S d lk:ak)(ts:jn)(av:Nat->jl)(ho:Nat->Nat)(as:jt)(kvs:List (Zc×V))(ls:jf):Prop where
 sh:XV kc H S d lk ts.length kvs ls
 keys:kvs.map (·.1)=(yL ts.length).map (λi:Nat=>(Sum.inl (i:Int):Zc))
 val:∀ i:Nat,i<ts.length->Yo kvs (Sum.inl (i:Int))=some (.ref (as.getD i .d).x)
 len:as.length=ts.length
 tw:∀ i:Nat,i<ts.length->P6 ke H ts av ho i (as.getD i .d)
 own:∀ i:Nat,i<ts.length->(as.getD i .d).x≠S/\(as.getD i .d).ab≠lk/\(as.getD i .d).th≠lk/\(as.getD i .d).ab≠(as.getD i .d).th
 two:∀ i j:Nat,i<ts.length->j<ts.length->i≠j->(as.getD i .d).x≠(as.getD j .d).x/\(as.getD i .d).ab≠(as.getD j .d).ab/\(as.getD i .d).ab≠(as.getD j .d).th/\(as.getD i .d).th≠(as.getD j .d).th
def Z5.same{kc ke:ak}{H b:Hp}{S d lk:ak}{k:jn}{e:Nat->jl}{g:Nat->Nat}{c:jt}{a:List (Zc×V)}{j:jf}(h:Z5 kc ke H S d lk k e g c a j)(s:ZE H b):Z5 kc ke b S d lk k e g c a j:=
 ⟨h.sh.same s,h.keys,h.val,h.len,λi l=>(h.tw i l).same s,h.own,h.two⟩
def P6.frame{ke:ak}{H b:Hp}{e:jn}{c:Nat->jl}{d:Nat->Nat}{i:Nat}{a:YL}(h:P6 ke H e c d i a)(m:Zz H b)(r:∀ o,H a.x=some o->b a.x=some o)(q:∀ o,H a.th=some o->b a.th=some o)(p:∀ o,H a.ab=some o->b a.ab=some o):P6 ke b e c d i a:=by
 let⟨s,j,k,l⟩:=h.things;let⟨g,n⟩:=h.tw.self;exact⟨⟨⟨g,r _ n⟩,p _ h.tw.above⟩,⟨s,q _ j,λz=>(k z).mono m _ _,l⟩,h.tag.mono m⟩
theorem Z5.none{kc ke:ak}{H:Hp}{S d m:ak}{c:jn}{g:Nat->jl}{l:Nat->Nat}{e:jt}{a:List (Zc×V)}{n:jf}(h:Z5 kc ke H S d m c g l e a n){x:Int}(b:inT c x=false):Yo a (Sum.inl x)=uI:=by
 cases z:Yo a (Sum.inl x) with
 | none=>rfl
 | some v=>
  have:=FH z;rw[h.keys] at this;let⟨i,k,j⟩:=zR.mp this;let o:=Sum.inl.inj j;let p:=xN.mp k;unfold inT at b;have:=of_decide_eq_false b
  lia
noncomputable def Mn(a:Nat->jl)(b c:Nat):Nat->jl:=λi=>if i=b then a i++[c] else a i
def Mb(a:Nat->Nat)(b:Nat):Nat->Nat:=λi=>if i=b then a i-1 else a i
def Z5.touch{kc ke:ak}{H n:Hp}{S d I:ak}{C:jn}{j:Nat->jl}{l:Nat->Nat}{g:jt}{r:List (Zc×V)}{J:jf}(R:Z5 kc ke H S d I C j l g r J){b s:Nat}(p:b<C.length)(X:∃ M,n (g.getD b .d).x=some (.ins ke M (Wm (.ref (g.getD b .d).th) (.ref (g.getD b .d).tg) (g.getD b .d).ab (l b-1))))(W:n (g.getD b .d).ab=some (.lst (iN (j b++[s]))))(k:∀ c o,c≠(g.getD b .d).x->c≠(g.getD b .d).ab->H c=some o->n c=some o):Z5 kc ke n S d I C (Mn j b s) (Mb l b) g r J:=by
 let⟨⟨L,E⟩,B,F⟩:=R.sh;let t:=R.tw b p;let⟨N,a⟩:=t.tw.self;let h:=t.tw.above;let⟨us,D,Q,T⟩:=t.things;let m:Zz H n:=λc xs e=>k c _ (ZY e a) (ZY e h) e;refine⟨⟨⟨L,k _ _ (R.own b p).1.symm (ZY E h) E⟩,k _ _ (ZY B a) (ZY B h) B,k _ _ (ZY F a) (R.own b p).2.1.symm F⟩,R.keys,R.val,R.len,λi v=>?_,R.own,R.two⟩;by_cases z:i=b
 ·subst z;let y:Mn j i s i=j i++[s]:=aP Z;let A:Mb l i i=l i-1:=aP Z;refine⟨⟨?_,?_⟩,⟨us,k _ _ (ZY D a) (R.own i v).2.2.2.symm D,λz=>(Q z).mono m _ _,T⟩,t.tag.mono m⟩
  ·rw[A];exact X
  ·rw[y];exact W
 ·let y:Mn j b s i=j i:=aO z;let A:Mb l b i=l i:=aO z;let u:=R.tw i v;let⟨t1,t2,t3,t4⟩:=R.two i b v p z;let⟨s1,s2,Y,s4⟩:=R.two b i p v (Ne.symm z);let⟨O,q⟩:=u.tw.self;let⟨vs,U,_⟩:=u.things;let G:=u.frame m (λo e=>k _ _ t1 (by have:=q.symm.trans e;exact ZY q h) e) (λo e=>k _ _ (ZY U a) Y.symm e) (λo e=>k _ _ (ZY u.tw.above a) t2 e)
  refine⟨?_,G.things,G.tag⟩;rw[y,A];exact G.tw
noncomputable def X1(b:jl)(c:Nat)(a:Nat->jl):Nat->jl:=λi=>if i∈b then a i++[c] else a i
noncomputable def WA(b:jl)(a:Nat->Nat):Nat->Nat:=λi=>if i∈b then a i-1 else a i
def ZLc{a:jl}{b c:Nat}{d:Nat->jl}(h:b∉a):Mn (X1 a c d) b c=X1 (a++[b]) c d:=by
 funext i
 unfold Mn X1;by_cases z:i=b
 ·subst z;rw[aP rfl,aO h,aP (by simp)]
 ·rw[aO z];by_cases y:i∈a
  ·rw[aP y,aP (by simp[y])]
  ·rw[aO y,aO (by simp[y,z])]
def Bv{a:jl}{b:Nat}{c:Nat->Nat}(h:b∉a):Mb (WA a c) b=WA (a++[b]) c:=by
 funext i
 unfold Mb WA;by_cases z:i=b
 ·subst z;rw[aP rfl,aO h,aP (by simp)]
 ·rw[aO z];by_cases y:i∈a
  ·rw[aP y,aP (by simp[y])]
  ·rw[aO y,aO (by simp[y,z])]
abbrev Jz:Stmt:=WC (top 65) 21
inductive Yr(kc ke:ak)(q:jf)(H:Hp)(Q:VK)(_:XK):Prop
 |mk(S d m l:ak)(h:jn)(j:Nat->jl)(k:Nat->Nat)(a:jt)(g:List (Zc×V))(n:jf)(e:jl)(p:Nat)(_:q=[.ref S,.int p,.ref l])(_:Z5 kc ke H S d m h j k a g n)(_:H l=some (.lst (iN e)))(_:e.Nodup)(_:∀ b∈e,b<h.length/\1<=k b/\(j b).length<=900)(_:∀ b:Nat,b<h.length->l≠(a.getD b .d).ab)(_:∀ i:Hp,(∀ c o,(∀ b:Nat,b<h.length->c≠(a.getD b .d).x/\c≠(a.getD b .d).ab)->H c=some o->i c=some o)->(∀ c,i c=none->H c=none)->Z5 kc ke i S d m h (X1 e p j) (WA e k) a g n->Q .non i)
abbrev GS:jp:=["self","stem","branches","branch","twig"]
theorem WY:ZB GS zEi (Za Jz):=Zr
theorem BM(F:Zh K "take_over" "Shelf.take_over" Jz f fd)(L:Yq K mg kc ke)(DT:ZD P w K mg kh ZO 1 kc "twig_of" zEa (Zm kc)):ZI P w K mg kh ZO 2 f fd zEi (Yr kc ke):=by
 refine F.ko WY λa2 A a1 s H vs Q E hr h=>?_;let⟨S,d,lk,l,ts,B,j,g,U,ls,p,X,rfl,R,hl,O,hb,a0,k⟩:=h;let nd:=WY.nd;intro Xc;refine⟨_,ZT (UE PassesOwn.never rfl (Wj (pv 2)) (UC 3 nd)
  (ZM (Zg 4 nd (YH (E:=E0) (pv 0) L.cS DT hr YG (ZU (pv 3))))
  (ZM (Co (pv 4) ZL ZPZ)
  (ZT (XS (Ug xP wQ wP Q0 (Xz (pv 4) rfl) (ZU (pv 1)))))))),?_⟩
 refine⟨_,Z,l,Z,⟨_,ZK.of hl⟩,Pa (K:=K) (a:=l) (xs:=iN p) (λi σ m=>∃ x y:jg,σ=[some (.ref S),some (.int X),some (.ref l),x,y]/\(∀ c o,(∀ b:Nat,b<ts.length->c≠(g.getD b .d).x/\c≠(g.getD b .d).ab)->H c=some o->m c=some o)/\(∀ c,m c=none->H c=none)/\Z5 kc ke m S d lk ts (X1 (p.take i) X B) (WA (p.take i) j) g U ls)
  ⟨_,_,Z,λc o _ e=>e,λc e=>e,(by
   let e1:X1 [] X B=B:=funext λi=>aO (by simp)
   let e2:WA [] j=j:=funext λi=>aO (by simp)
   rw[show p.take 0=[] from rfl,e1,e2];exact R)⟩ ?_ ?_ ?_⟩
 ·rintro i σ m _ ⟨x,y,rfl,T,_,R2⟩;refine ZK.of (T _ _ (λb hb=>⟨?_,a0 b hb⟩) hl);let⟨dx,J⟩:=(R.tw b hb).tw.self;exact ZY hl J
 ·rintro i u σ m D ⟨x,y,rfl,T,k3,R2⟩;unfold iN at D;rw[zH] at D;let⟨b,eb,rfl⟩:=xX.mp D;let⟨t,a3,a4⟩:=hb b (zJ eb);let v:b∉p.take i:=λz=>by
   let hs:p=p.take i++b::p.drop (i+1):=by
    let hi:=(zE.mp eb);let⟨hi,e⟩:=hi;rw[<-e,<-vY hi,xQ]
   rw[hs,uY] at O;exact O.2.2 b z b (by simp) Z
  let N:WA (p.take i) j b=j b:=aO v;let M:X1 (p.take i) X B b=B b:=aO v;let⟨dS,hS⟩:=R2.sh.self;let Wb:=R2.tw b t;let⟨r,J⟩:=Wb.tw.self;let C:=Wb.tw.above;rw[N] at J;rw[M] at C;exists _,Z,S,dS,_,Z,hS,Z,_,Z,S,d,lk,ts.length,U,ls,(b:Int),.ref (g.getD b .d).x,Z,R2.sh,R2.val b t;exists _,Z,(g.getD b .d).x,ke,r,_,.int (j b:Nat),Z,J,L.cT,L.nho,Z,_,_,Z,Z,r,_,J,yT Z;let eh:((j b:Nat):Int)-1=((j b-1:Nat):Int):=∅
  let G:upd m (g.getD b .d).x (.ins ke r (Ys "holds" (.int (((j b:Nat):Int)-1)) (Wm (.ref (g.getD b .d).th) (.ref (g.getD b .d).tg) (g.getD b .d).ab (j b)))) (g.getD b .d).x=some (.ins ke r (Wm (.ref (g.getD b .d).th) (.ref (g.getD b .d).tg) (g.getD b .d).ab (j b-1))):=by rw[ZV,eh];rfl
  let Y:(g.getD b .d).ab≠(g.getD b .d).x:=ZY C J;let q:upd m (g.getD b .d).x (.ins ke r (Ys "holds" (.int (((j b:Nat):Int)-1)) (Wm (.ref (g.getD b .d).th) (.ref (g.getD b .d).tg) (g.getD b .d).ab (j b)))) (g.getD b .d).ab=some (.lst (iN (B b))):=by rw[ZR Y];exact C
  let I:∀ c o,c≠(g.getD b .d).x->m c=some o->upd m (g.getD b .d).x (.ins ke r (Ys "holds" (.int (((j b:Nat):Int)-1)) (Wm (.ref (g.getD b .d).th) (.ref (g.getD b .d).tg) (g.getD b .d).ab (j b)))) c=some o:=λc o n e=>by rw[ZR n];exact e
  let W:∀ c,upd m (g.getD b .d).x (.ins ke r (Ys "holds" (.int (((j b:Nat):Int)-1)) (Wm (.ref (g.getD b .d).th) (.ref (g.getD b .d).tg) (g.getD b .d).ab (j b)))) c=none->m c=none:=λc e=>by
   by_cases z:c=(g.getD b .d).x
   ·rw[z,ZV] at e;cases e
   ·rw[ZR z] at e;exact e
  generalize upd m (g.getD b .d).x (.ins ke r (Ys "holds" (.int (((j b:Nat):Int)-1)) (Wm (.ref (g.getD b .d).th) (.ref (g.getD b .d).tg) (g.getD b .d).ab (j b))))=H3 at G q I W⊢;exists _,Z,(g.getD b .d).x,ke,r,_,.ref (g.getD b .d).ab,Z,G,L.cT,L.nab,Z,.inl ⟨Z,_,ZK.of q⟩,_,Z,(g.getD b .d).ab,_,.int X,Z,Z,q,XU (by rw[show (iN (B b)).length=(B b).length from zX _];lia)
  let et:p.take (i+1)=p.take i++[b]:=by rw[yR,eb];rfl
  exists _,_,Z,λc o hc e=>?_,λc e=>?_
  ·let⟨n1,n2⟩:=hc b t;rw[ZR n2];exact I _ _ n1 (T c o hc e)
  ·by_cases z:c=(g.getD b .d).ab
   ·rw[z,ZV] at e;cases e
   ·rw[ZR z] at e;exact k3 c (W c e)
  ·rw[et,<-ZLc v,<-Bv v];refine R2.touch t ⟨r,?_⟩ ?_ λc o n1 n2 e=>?_
   ·rw[ZR (Ne.symm Y),N];exact G
   ·rw[ZV,M];simp[iN]
   ·rw[ZR n2];exact I _ _ n1 e
 ·rintro σ m ⟨x,y,rfl,T,k3,R2⟩;rw[show (iN p).length=p.length from zX _,yY (zY _)] at R2;exact k m T k3 R2
def ZQx{X:Cx}{k:Nat}{C:ak}{x:Str}{o:jp}{h:Sp}{e:Expr}{a:jx}{t:TA}{p c:aJ}(D:Vs X.prog X.w X.K X.mg X.base k C o h)(n:ZS (k+1) X.A)(l:Gl X x)(m:X.mg x=some (.ref C))(i:PA X (e::a) t)(d:(x==("__debug__" : Str))=false:=by decide)(j:aw (e::a) X.env=(false,aH e X.env)::aw a X.env:=by rfl)(g:(aG c (aw a X.env)).any (·.1)=false:=by rfl):
  PE X (.Call (.Name x p) (e::a) [] c) (Nm C h [] E0 t):=by
 let⟨f,fd,M,F,b⟩:=D.ex;exact Hl M F n l m b .nil YG i d j g
def Ci{X:Cx}{k:Nat}{C:ak}{x:Str}{i:jp}{d:Sp}{p c:aJ}(D:Vs X.prog X.w X.K X.mg X.base k C i d)(h:ZS (k+1) X.A)(e:Gl X x)(g:X.mg x=some (.ref C))(a:(x==("__debug__" : Str))=false:=by decide):PE X (.Call (.Name x p) [] [] c) (Nm C d [] E0 U8):=by
 let⟨f,fd,M,F,b⟩:=D.ex;exact ZK5 M F h e g b .nil YG a
def Wl(n:Nat)(a:Nat->jl):Nat->jl:=λi=>if i=n then [] else a i
def Wk(n:Nat)(a:Nat->Nat):Nat->Nat:=λi=>if i=n then 1 else a i
def Ut{a:jn}{t:ZQ}{i:Nat}(h:i<a.length):gd (a++[t]) i=gd a i:=by
 unfold gd;rw[zU,wR h,<-zU]
def QK{a:jn}{t:ZQ}:gd (a++[t]) a.length=t:=by
 unfold gd;rw[zU,xE (zY _)];simp
def HW{b:jt}{a:YL}{i:Nat}(h:i<b.length):(b++[a]).getD i .d=b.getD i .d:=by
 rw[zU,wR h,<-zU]
def HN{b:jt}{a:YL}:(b++[a]).getD b.length .d=a:=by
 rw[zU,xE (zY _)];simp
theorem Fp{kc ke:ak}{H H':Hp}{S d M:ak}{g:jn}{B:Nat->jl}{L:Nat->Nat}{n:jt}{q:List (Zc×V)}{ls:jf}(R:Z5 kc ke H S d M g B L n q ls){t:ZQ}{x th tg ab:ak}(O:∀ b o,b≠S->b≠d->H b=some o->H' b=some o)(nx:H x=none)(s:H th=none)(r:H ab=none)(F:ab≠th)(R':XV kc H' S d M (g.length+1) (Y1 q (.inl (g.length:Int)) (.ref x)) ls)(W:Wt ke H' x (.ref th) (.ref tg) ab 1 [])(Y:∃ l,H' th=some (.lst l)/\(t.h=0->jV H' (YD t.rows) l)/\(t.h≠0->l=iN t.bs))(X:YB H' (Zt t) (.ref tg)):
  Z5 kc ke H' S d M (g++[t]) (Wl g.length B) (Wk g.length L) (n++[⟨x,th,tg,ab⟩]) (Y1 q (.inl (g.length:Int)) (.ref x)) ls:=by
 let⟨⟨dS,Q⟩,T,hl⟩:=R.sh;let m:Zz H H':=λc xs e=>O c _ (ZY e Q) (ZY e T) e;let U:(g++[t]).length=g.length+1:=by simp
 let nv:Yo q (Sum.inl (g.length:Int))=none:=R.none (by unfold inT;exact aK ∅)
 let a:∀ i,i<(g++[t]).length->i<g.length\/i=g.length:=λi k=>by rw[U] at k;lia
 let el:n.length=g.length:=R.len;let A:∀ i,i<g.length->(n++[(⟨x,th,tg,ab⟩:YL)]).getD i .d=n.getD i .d:=λi k=>HW ∅
 let D:(n++[(⟨x,th,tg,ab⟩:YL)]).getD g.length .d=⟨x,th,tg,ab⟩:=by rw[<-el];exact HN
 let y:∀ i,i<g.length->∃ C l o,H (n.getD i .d).x=some (.ins ke C l)/\H (n.getD i .d).th=some (.lst o)/\H (n.getD i .d).ab=some (.lst (iN (B i))):=λi k=>by
  let⟨C,u⟩:=(R.tw i k).tw.self;let⟨l,p,_⟩:=(R.tw i k).things;exact⟨C,_,l,u,p,(R.tw i k).tw.above⟩
 let nS:x≠S:=(Zd Q nx).symm;let E:ab≠M:=(Zd hl r).symm;let N:th≠M:=(Zd hl s).symm;refine⟨by rw[U];exact R',?_,λi k=>?_,by simp[el],λi k=>?_,λi k=>?_,λi j k hj J=>?_⟩
 ·rw[FL _ nv,zC,R.keys,U,List.range_succ,zC];rfl
 ·rw[Cn];rcases a i k with c | rfl
  ·rw[aO (λz=>by have:=Sum.inl.inj z;lia),A i c]
   exact R.val i c
  ·rw[aP rfl,D]
 ·rcases a i k with c | rfl
  ·let Wi:=R.tw i c;let⟨C,l,o,u,p,v⟩:=y i c;let ni:i≠g.length:=∅
   let G:=Wi.frame m (λo' e=>O _ _ (R.own i c).1 (ZY u T) e) (λo' e=>O _ _ (ZY p Q) (ZY p T) e) (λo' e=>O _ _ (ZY v Q) (ZY v T) e);rw[A i c];exists ?_,?_
   ·rw[show Wl g.length B i=B i from aO ni,show Wk g.length L i=L i from aO ni];exact G.tw
   ·rw[Ut c];exact G.things
   ·rw[Ut c];exact G.tag
  ·rw[D];exists ?_,?_
   ·rw[show Wl g.length B g.length=[] from aP rfl,show Wk g.length L g.length=1 from aP rfl];exact W
   ·rw[QK];exact Y
   ·rw[QK];exact X
 ·rcases a i k with c | rfl
  ·rw[A i c];exact R.own i c
  ·rw[D];exact⟨nS,E,N,F⟩
 ·rcases a i k with c | rfl
  ·rw[A i c];rcases a j hj with I | rfl
   ·rw[A j I];exact R.two i j c I J
   ·rw[D];let⟨C,l,o,u,p,v⟩:=y i c;exact⟨Zd u nx,Zd v r,Zd v s,Zd p s⟩
  ·rw[D];rcases a j hj with I | rfl
   ·rw[A j I];let⟨C,l,o,u,p,v⟩:=y j I;exact⟨(Zd u nx).symm,(Zd v r).symm,(Zd p r).symm,(Zd p s).symm⟩
   ·exact absurd Z J
inductive XH(kc ke:ak)(k:jf)(H:Hp)(Q:VK)(_:XK):Prop
 |mk(S d g:ak)(n:Nat)(a:List (Zc×V))(h:jf)(j i:V)(_:k=[.ref S,j,i])(_:XV kc H S d g n a h)(_:a.length<=900)(_:∀(c:Hp)(x e:ak),H x=none->H e=none->(∀ b o,b≠S->b≠d->H b=some o->c b=some o)->XV kc c S d g (n+1) (Y1 a (.inl (n:Int)) (.ref x)) h->Wt ke c x j i e 1 []->Q (.int (n:Int)) c)
theorem Wz:ZB ["self","things","label","number"] zEy (Za JZ):=Zr
def ZH7(F:Zh K "put_twig" "Shelf.put_twig" JZ f fd)(L:Yq K mg kc ke)(DM:Vs P w K mg kh 1 ke zE4 (Q8 ke)):ZI P w K mg kh ZO 3 f fd zEy (XH kc ke):=by
 refine F.ko Wz λa1 A Y s H vs Q E hr h=>?_;let⟨S,d,c,n,T,ls,th,tg,rfl,R,a0,k⟩:=h;let nd:=Wz.nd;let hu:=LX hr;intro Xc;refine⟨_,ZM (Zg 3 nd (Xz (pv 0) rfl)) (ZM (Ui (pv 0) (Zx VB (pv 3) ZL) rfl)
  (ZM (D7 hu (Xz (pv 0) rfl) (pv 3) (ZQx DM hr rfl L.twig (Zn (pv 1) (pv 2))) rfl) (ZT (Zf (pv 3))))),?_⟩
 let⟨⟨a,y⟩,J,M⟩:=R;let Sd:S≠d:=ZY y J;let Sl:S≠c:=ZY y M;let dl:d≠c:=ZY J M;exists _,Z,S,kc,a,_,.int n,Z,y,L.cS,L.nf,Z;exists _,Z,_,_,Z,Z,_,Z,S,kc,a,_,Z,y,L.cS,L.nf,yT Z;let l:upd H S (.ins kc a (Ys "following" (.int ((n:Int)+1)) (OC d c n))) S=some (.ins kc a (OC d c (n+1))):=ZV;let q:upd H S (.ins kc a (Ys "following" (.int ((n:Int)+1)) (OC d c n))) d=some (.dK T):=by rw[ZR (Ne.symm Sd)];exact J
 let r:upd H S (.ins kc a (Ys "following" (.int ((n:Int)+1)) (OC d c n))) c=some (.lst ls):=by rw[ZR (Ne.symm Sl)];exact M
 let u:∀ b o,b≠S->H b=some o->upd H S (.ins kc a (Ys "following" (.int ((n:Int)+1)) (OC d c n))) b=some o:=λb o n e=>by rw[ZR n];exact e
 let j:∀ b,upd H S (.ins kc a (Ys "following" (.int ((n:Int)+1)) (OC d c n))) b=none->H b=none:=λb e=>by
  by_cases z:b=S
  ·rw[z,ZV] at e;cases e
  ·rw[ZR z] at e;exact e
 generalize upd H S (.ins kc a (Ys "following" (.int ((n:Int)+1)) (OC d c n)))=B at l q r u j⊢;exists _,Z,_,Z;intro x G nx V ne;let g1:=Zl V (.own x);let X:upd B G (.own x) x=none:=by rw[ZR (Ne.symm ne)];exact nx
 let g2:=Zl X (.ins ke G []);let g:=g1.trans g2;refine⟨x,G,th,tg,Z,ZV,λH2 C O U W=>⟨Z,?_⟩⟩;let v:∀ b o,B b=some o->H2 b=some o:=λb o e=>O b o (Zd e nx) (g b o e);let m:=v _ _ l;let i:=v _ _ q;let N:=v _ _ r;let p:B C=none:=g.free U;let⟨I,t⟩:=W.self;let xd:x≠d:=ZY t i;let D:C≠d:=ZY W.above i;exists _,Z,S,kc,a,_,.ref d,Z,m,L.cS,L.nk,Z,_,Z,d,_,Z,QM.k (k:=Sum.inl (n:Int)) i (XU ∅)
 refine⟨_,Z,k _ x C (j _ nx) (j _ p) (λb o n1 n2 e=>?_) ⟨⟨a,?_⟩,ZV,?_⟩ ⟨⟨I,?_⟩,?_⟩⟩
 ·rw[ZR n2];exact v b o (u b o n1 e)
 ·rw[ZR Sd];exact m
 ·rw[ZR (Ne.symm dl)];exact N
 ·rw[ZR xd];exact t
 ·rw[ZR D];exact W.above
def CZ{H:Hp}{b:jo}{c:jf}(h:jV H (YD b) c):CG H (b.map (·.1)) c:=by
 let k:c.length=b.length:=by have:=h.length;rw[<-this];exact zX _
 exists by rw[zX];exact k
 intro i u e;let⟨a,m,n,j,d,g,l,_⟩:=P3 h e;exists a,m,n,d,g;rw[zU,zH,j];exact l
inductive Uk(b:jf)(H:Hp)(Q:VK)(_:XK):Prop
 |mk(v:V)(t:KT)(_:b=[v])(_:ZC H t v)(_:t.fits 3=true)(_:∀ a,ZE H a->Q v a)
theorem Hn:ZB zEq zEq (Za KD):=Zr
def BV(F:Zh K "checked" "checked" KD f fd)(c:ZA P w K mg kh 6 "is_key" zEq U0):ZI P w K mg kh ZO 7 f fd zEq Uk:=by
 refine F.ko Hn λe A a s H m Q E g h=>?_;let⟨v,t,rfl,i,b,k⟩:=h;intro l;exists _,ZM (Z3 (Va (XG (Ze c g (ZU (pv 0))))) VX Z4) (ZT (Zf (pv 0)));refine⟨_,Z,v,t,3,Z,i,b,λd j=>⟨_,Z,?_⟩⟩;rw[b];exact Zo ⟨_,Z,k d j⟩
inductive Xy(g:jf)(H:Hp)(Q:VK)(_:XK):Prop
 |mk(l:ak)(e:jf)(d:jo)(_:g=[.ref l])(_:H l=some (.lst e))(_:jV H (YD d) e)(_:∀ r∈d,r.fit)(_:e.length<=100)(_:∀(b:Hp)(c:ak)(a:jf),ZE H b->H c=none->b c=some (.lst a)->jV b (YD d) a->Q (.ref c) b)
theorem ZJJ:ZB zEx zEx (Za Kx):=Zr
theorem ZH0(F:Zh K "own_rows" "own_rows" Kx f fd)(M:ZA P w K mg kh 7 "checked" zEq Uk):ZI P w K mg kh ZO 8 f fd zEx Xy:=by
 refine F.ko ZJJ λa0 A J s H vs Q E W h=>?_;let⟨l,r,rs,rfl,y,V,hf,T,k⟩:=h;let lk:r.length=rs.length:=by have:=V.length;rw[<-this];exact zX _
 intro Xc;refine⟨_,ZT (Zf (Vm [] [] rfl (Wj (pv 0)) (λ_ _ _ _ _=>UV)
   (λ_ _ _ _ _=>X9 (Zn (Ze M W (ZU (YS K (pv 0) ZL))) (Ze M W (ZU (YS K (pv 0) ZL))))) trivial)),?_⟩
 exists _,Z,l,Z,⟨r,ZK.of y⟩;refine Ue (n:=r.length) (λi z=>r[i]? = some z) (λD i t m=>ZE H m/\H D=none/\jV m (YD (rs.take i)) t) (XU ∅)
  (λD i t m I d=>⟨r,r[i],ZK.of (d.1 _ _ y),by simp[I]⟩) (λD i t m z H4 I d X=>⟨X.1,X.2 r (ZK.of (d.1 _ _ y))⟩) (λD t m d=>⟨r,ZK.of (d.1 _ _ y),zY _⟩)
  (λD U=>⟨Zl U _,U,.nil⟩) (λD i t m z G a1 I hz d R hR=>?_) (λD t m G d=>?_)
 ·let⟨p,B,j⟩:=d;let⟨a,v,x,S,rfl,e2,Y,k2⟩:=P3 V hz;let O:=p _ _ e2;let o:=hf _ (zJ S);refine⟨_,Z,.inr (.inl ⟨a,_,_,v,rfl,rfl,Zv.of O,rfl,v,_,rfl,Y.sm p,o.1,λH4 L=>?_⟩)⟩;refine⟨_,Z,.inr (.inl ⟨a,_,_,x,rfl,rfl,Zv.of (L _ _ O),rfl,x,_,rfl,k2.sm (p.trans L),o.2,λN s5=>?_⟩)⟩;exists YQ;intro q hq;let g:=Zl hq (.tup [v,x]);let c:=(L.trans s5).trans g;let u:=c _ _ G;let C:Zz (upd N q (.tup [v,x])) (upd (upd N q (.tup [v,x])) D (.lst (t++[.ref q]))):=λb xs e=>by rw[ZR (ZY e u)];exact e
  refine hR _ _ u ⟨UK (p.trans c) B,B,?_⟩;rw[yR,S,Mv];refine((j.sm c).mono C _ _).append (.cons (.tup (C _ _ ZV) (.cons ?_ (.cons ?_ .nil))) .nil)
  ·exact(Y.sm (p.trans c)).mono C _ _
  ·exact(k2.sm (p.trans c)).mono C _ _
 ·let⟨p,B,j⟩:=d;rw[yY ∅] at j
  exact k m D t p B G j
inductive VJ(g:jf)(H:Hp)(Q:VK)(_:XK):Prop
 |mk(l:ak)(d:jf)(c:jk)(_:g=[.ref l])(_:H l=some (.lst d))(_:jV H c d)(_:∀ t∈c,t.fits 3=true)(_:d.length<=100)(_:c.Pairwise (λa b=>a.lt b=true))(_:∀ e,ZE H e->Q (.bl true) e)
theorem ZOf:ZB ["keys"] ["keys"] (Za Jp):=Zr
theorem Hf{c:Type}{R:c->c->Prop}:∀{l:List c},l.Pairwise R->∀{i j:Nat}{a b:c},i<j->l[i]? = some a->l[j]? = some b->R a b
 | [],_,_,_,_,_,_,h,_=>by simp at h
 | x::l,hp,0,j+1,a,b,_,ha,hb=>by
  simp at ha hb;subst ha;exact(xD.mp hp).1 b (zJ hb)
 | x::l,hp,i+1,j+1,a,b,hij,ha,hb=>by
  simp at ha hb;exact Hf (xD.mp hp).2 ∅ ha hb
theorem ZNl(F:Zh K "rise" "rise" Jp f fd)(T:Yb mg)(S:ZA P w K mg kh 7 "ahead" zE7 XJ):ZI P w K mg kh ZO 8 f fd ["keys"] VJ:=by
 refine F.ko ZOf λU A y s H vs Q E hr h=>?_;let⟨l,c,ks,rfl,L,t,J,G,u,k⟩:=h;let lk:=t.length;intro Xc;refine⟨_,ZT (Zf (Z6 (Lh rfl) rfl T.all KP (ZU (Vm [0] ["keys"] rfl (Hk rfl T.range (Zn ZL (Z6 WK rfl T.len X3 (ZU (pv 0))))) (λ_ _ _ _ _=>UV)
  (λ_ _ _ _ _=>Ze S hr (Zn (YS K (pv 1) (Zx Uy (pv 0) ZL)) (YS K (pv 1) (pv 0)))) ⟨rfl,.inl rfl,rfl,trivial⟩)))),?_⟩
 exists _,Z,l,c,Z,.inl (ZK.of L),1,(c.length:Int),Z,⟨nofun,nofun,nofun,nofun⟩
 refine Ue (n:=((c.length:Int)-1).toNat) (λi x=>x=.int (1+(i:Int))) (λD i j d=>ZE H d/\H D=none/\j=(wD i true).map V.bl) (XU nofun)
  (λD i j d q _=>q) (λD i j d x z q _ hy=>hy) (λD j d _=>zY _) (λD I=>⟨Zl I _,I,Z⟩) (λD i j d x o a0 q hx p R Y=>?_) (λD j d o p=>?_)
 ·subst hx;let⟨g,v,rfl⟩:=p;let r:i+1<c.length:=nofun
  let N:c[i]? = some (c[i]'nofun):=zV nofun
  let O:c[i+1]? = some c[i+1]:=zV r;let X:(1:Int)+(i:Int)=((i+1:Nat):Int):=nofun
  let W:(1:Int)+(i:Int)-1=((i:Nat):Int):=nofun
  let⟨a,B,ka⟩:=t.get N;let⟨b,C,kb⟩:=t.get O;let m:=g _ _ L;refine⟨_,Z,_,Z,_,_,Z,Z,.inl ⟨l,c,_,_,Z,Z,ZK.of m,(by rw[W];exact VD N),?_⟩⟩
  refine⟨_,Z,_,Z,.inl ⟨l,c,_,_,Z,Z,ZK.of m,(by rw[X];exact VD O),?_⟩⟩
  exists _,_,a,b,Z,ka.sm g,kb.sm g,J a (zJ B),J b (zJ C);intro z M;rw[Hf u (wL i) B C];refine Y _ z (M D _ o) ⟨UK (g.trans M) v,v,?_⟩;rw[List.replicate_succ',zC];rfl
 ·let⟨g,v,rfl⟩:=p;exists D,_,Z,ZK.of o;let e:(wD ((c.length:Int)-1).toNat true).all id=true:=by simp
  rw[e];exact k d g
def WO(c:jo):Prop:=(∀ r∈c,r.fit)/\0<c.length/\c.length<=4/\(c.map (·.1)).Pairwise (λa b=>a.lt b=true)
inductive XY(g:jf)(H:Hp)(Q:VK)(_:XK):Prop
 |mk(l:ak)(e:jf)(d:jo)(_:g=[.ref l])(_:H l=some (.lst e))(_:jV H (YD d) e)(_:WO d)(_:∀(b:Hp)(c:ak)(a:jf),ZE H b->H c=none->b c=some (.lst a)->jV b (YD d) a->Q (.ref c) b)
theorem Vx:ZB ["rows","own"] zEx (Za J9):=Zr
theorem ZKB(F:Zh K "checked_rows" "checked_rows" J9 f fd)(T:Yb mg)(W:ZA P w K mg kh 8 "own_rows" zEx Xy)(X:ZA P w K mg kh 8 "rise" ["keys"] VJ):ZI P w K mg kh ZO 9 f fd zEx XY:=by
 refine F.ko Vx λY A J s H vs Q E S h=>?_;let⟨l,V,y,rfl,hl,O,⟨N,h0,h4,I⟩,k⟩:=h;let nd:=Vx.nd;let lk:V.length=y.length:=by have:=O.length;rw[<-this];exact zX _
 let⟨t4,m4⟩:=T.rows;intro Xc;refine⟨_,ZM (Zg 1 nd (Ze W S (ZU (pv 0))))
  (ZM (Z3 (PW.pt (NK (Va (Gp P2 P2 ZL (Z6 WK rfl T.len X3 (ZU (pv 1))) (Xp (v:=.int 4) rfl m4 ⟨_,rfl⟩)))
   (NS (Va (XG (Ze X S (ZU (Vm [] [] rfl (Wj (pv 1)) (λ_ _ _ _ _=>UV) (λ_ _ _ _ _=>YS K (pv 0) ZL) trivial)))))))) VX Z4)
  (ZT (Zf (pv 1)))),?_⟩
 exists _,Z,l,V,y,Z,hl,O,N,by lia
 intro B D b s3 nD u m;let ly:b.length=y.length:=by have:=m.length;rw[<-this];exact zX _
 exists _,Z,D,b,Z,.inl (ZK.of u),_,_,Z,Z,_,Z;rw[aM (show (1:Int)<=(b.length:Int) by lia)]
 refine Z0 ⟨_,_,Z,Z,_,Z,?_⟩;rw[aM (show (b.length:Int)<=4 by lia)]
 refine Zo ?_;exists _,Z,D,Z,⟨b,ZK.of u⟩;refine Ue (n:=b.length) (λi z=>b[i]? = some z) (λe i q g=>ZE B g/\B e=none/\jV B ((y.map (·.1)).take i) q) (XU ∅)
  (λe i q g C d=>⟨b,b[i],ZK.of (d.1 _ _ u),by simp[C]⟩) (λe i q g z M C d U=>⟨U.1,U.2 b (ZK.of (d.1 _ _ u))⟩) (λe q g d=>⟨b,ZK.of (d.1 _ _ u),zY _⟩)
  (λe x=>⟨Zl x _,x,.nil⟩) (λe i q g z j a0 C hz d R hR=>?_) (λe q g j d=>?_)
 ·let⟨p,o,c⟩:=d;let⟨a,vk,vv,er,rfl,e2,k1,_⟩:=P3 m hz;refine⟨_,Z,.inr (.inl ⟨a,_,_,vk,rfl,rfl,Zv.of (p _ _ e2),rfl,?_⟩)⟩;refine hR _ g j ⟨UK p o,o,?_⟩;rw[yR,zH,er];exact c.append (.cons k1 .nil)
 ·let⟨p,o,c⟩:=d;rw[yY (by rw[zX];lia)] at c
  let lz:=c.length;rw[zX] at lz;refine⟨e,q,_,Z,j,c.sm p,λt ht=>?_,∅,I,λM L=>⟨_,Z,Zo ⟨_,Z,k M D b ((s3.trans p).trans L) nD (L _ _ (p _ _ u)) (m.sm (p.trans L))⟩⟩⟩
  let⟨r,G,rfl⟩:=zR.mp ht;exact(N r G).1
def WL(a:jo):ZQ:=⟨0,a,[]⟩
inductive XF(kc ke:ak)(q:jf)(H:Hp)(Q:VK)(_:XK):Prop
 |mk(S d m l:ak)(c:jn)(j:Nat->jl)(k:Nat->Nat)(i:jt)(e:List (Zc×V))(n p:jf)(h:jo)(_:q=[.ref S,.ref l])(_:Z5 kc ke H S d m c j k i e n)(_:c.length<=900)(_:H l=some (.lst p))(_:jV H (YD h) p)(_:WO h)(_:∀(g:Hp)(a:YL),H a.x=none->H a.th=none->H a.ab=none->(∀ b o,b≠S->b≠d->H b=some o->g b=some o)->Z5 kc ke g S d m (c++[WL h]) (Wl c.length j) (Wk c.length k) (i++[a]) (Y1 e (.inl (c.length:Int)) (.ref a.x)) n->Q (.int (c.length:Nat)) g)
theorem W0:ZB ["self","rows","own"] zE8 (Za Js):=Zr
def Db{kc ke:ak}{H:Hp}{S d h:ak}{b:jn}{e:Nat->jl}{g:Nat->Nat}{c:jt}{a:List (Zc×V)}{i:jf}(R:Z5 kc ke H S d h b e g c a i):a.length=b.length:=by
 have:=congrArg wO R.keys;simpa using this
def Zp(c:jn)(a:jl):jo:=a.flatMap λb=>(gd c b).rows
def YA(b:jn)(a:jl):ZQ:=⟨(gd b (a.getD 0 0)).h+1,Zp b a,a⟩
def KG(c:jn):jl->Prop
 | a::b::r=>(Zt (gd c a)).hi.lt (Zt (gd c b)).lo=true/\KG c (b::r)
 | _=>True
theorem Gj{c:jn}:∀{bs:jl},(∀ j,j+1<bs.length->((Z9 c bs).getD j .d).hi.lt ((Z9 c bs).getD (j+1) .d).lo=true)->KG c bs
 | [],_=>trivial
 | [_],_=>trivial
 | a::b::r,h=>⟨h 0 (by simp),Gj (bs:=b::r) λj e=>h (j+1) (by simp at e⊢;lia)⟩
def QT{t:ZQ}(a:t.rows≠[]):∃ r b,t.rows=r::b/\(Zt t).lo=r.1:=by
 cases e:t.rows with
 | nil=>exact absurd e a
 | cons r b=>exact⟨r,b,Z,by unfold Zt;rw[e];rfl⟩
def La{t:ZQ}(a:t.rows≠[]):∃ b r,t.rows=b++[r]/\(Zt t).hi=r.1:=by
 rcases qV t.rows with e | ⟨b,r,e⟩
 ·exact absurd e a
 ·rw[qW] at e;exists b,r,e;unfold Zt;rw[e];simp[zU]
def ZP8{g:jk}{j:jn}{i:Nat}{t:ZQ}(h:YO g j i t){x:KT}(a:x∈t.rows.map (·.1)){y:KT}(b:(Zt t).hi.lt y=true):x.lt y=true:=by
 let⟨k,r,e,d⟩:=La h.ne;let c:=h.up;rw[e,zC] at c a;rw[d] at b;rcases zA.mp a with a | a
 ·have:=(xY.mp c).2.2 x a r.1 (by simp)
  exact lt_trans' _ _ _ this b
 ·simp at a;rw[a];exact b
def ZQP{l:jk}(g:l.Pairwise λa b=>a.lt b=true){z:KT}(e:l.head? = some z){x:KT}(d:x.lt z=true):∀ y∈l,x.lt y=true:=by
 cases l with
 | nil=>cases e
 | cons a l=>
  simp at e;subst e;intro y c;rcases zQ.mp c with rfl | c
  ·exact d
  ·exact lt_trans' _ _ _ d ((xD.mp g).1 y c)
theorem Dx{gt:jk}{ts:jn}(hw:WF gt ts):∀{bs:jl},(∀ b∈bs,b<ts.length)->KG ts bs->((Zp ts bs).map (·.1)).Pairwise (λa b=>a.lt b=true)/\bs.Nodup
 | [],_,_=>⟨yA.nil,List.nodup_nil⟩
 | [a],hb,_=>by
  refine⟨?_,by simp⟩
  have:=(hw a _ (YN (hb a (by simp)))).up
  simpa [Zp] using this
 | a::b::r,hb,hn=>by
  let⟨h1,h2⟩:=Dx hw (bs:=b::r) (λc hc=>hb c (zK _ hc)) hn.2;let oa:=hw a _ (YN (hb a (by simp)))
  let ob:=hw b _ (YN (hb b (by simp)))
  let⟨rb,rs,eb,el⟩:=QT ob.ne;let hd:((Zp ts (b::r)).map (·.1)).head? = some (Zt (gd ts b)).lo:=by
   rw[el];unfold Zp;rw[xJ,eb];rfl
  let cross:∀ x∈(gd ts a).rows.map (·.1),∀ y∈(Zp ts (b::r)).map (·.1),x.lt y=true:=λx hx=>ZQP h1 hd (ZP8 oa hx hn.1);refine⟨?_,xM.mpr ⟨λhm=>?_,h2⟩⟩
  ·let e:Zp ts (a::b::r)=(gd ts a).rows++Zp ts (b::r):=by simp[Zp]
   rw[e,zC];exact xY.mpr ⟨oa.up,h1,cross⟩
  ·let⟨ra,rs',ea,_⟩:=QT oa.ne;let m1:ra.1∈(gd ts a).rows.map (·.1):=by rw[ea];simp
   let m2:ra.1∈(Zp ts (b::r)).map (·.1):=zR.mpr ⟨ra,xK.mpr ⟨a,hm,by rw[ea];simp⟩,Z⟩
   have:=cross _ m1 _ m2;rw[VG] at this;cases this
def Qd{c:jn}{a:jl}{i:Nat}(b:i<a.length):(Z9 c a).getD i .d=Zt (gd c (a.getD i 0)):=by
 unfold Z9;rw[zU,zH,zV b,zU,zV b];rfl
theorem M4{T:jk}{g:jn}(F:WF T g){c:jl}(x:∀ b∈c,b<g.length){L:YT}(h:over (Z9 g c)=some L):
  L=Zt (YA g c)/\c.Nodup/\2<=c.length/\c.length<=4/\(∀ b∈c,(gd g b).h+1=(YA g c).h)/\((Zp g c).map (·.1)).Pairwise (λa b=>a.lt b=true)/\Zp g c≠[]:=by
 unfold over at h;split at h
 case isFalse=>cases h
 case isTrue hc=>
  let⟨o,H,W⟩:=hc;let G:(Z9 g c).length=c.length:=zX _;rw[G] at o H;let p:=Q5.mpr W;unfold JF at p;rw[G] at p;let B:KG g c:=Gj λj V=>(p j V).2;let⟨E,C⟩:=Dx F x B;let U:∀ i,i<c.length->((Z9 g c).getD i .d).h=((Z9 g c).getD 0 .d).h:=λi n=>by
   cases i with
   | zero=>rfl
   | succ i=>exact(p i n).1
  let k:∀ i,i<c.length->c.getD i 0∈c:=λi n=>by rw[zU,zV n];exact xL _
  let I:=F _ _ (YN (x _ (k 0 ∅)))
  let Y:=F _ _ (YN (x _ (k (c.length-1) ∅)))
  let A:∀ b∈c,(gd g b).h+1=(YA g c).h:=λb y=>by
   let⟨i,n,e⟩:=List.getElem_of_mem y;have:=U i n;rw[Qd n,Qd ∅] at this
   let s:c.getD i 0=b:=by rw[zU,zV n,e];rfl
   rw[s] at this;have:=Int.ofNat.inj this;show (gd g b).h+1=(gd g (c.getD 0 0)).h+1
   lia
  let D:Zp g c≠[]:=λz=>by
   let⟨r,q,e,_⟩:=QT I.ne;have:r∈Zp g c:=xK.mpr ⟨_,k 0 ∅,by rw[e];simp⟩
   rw[z] at this;simp at this
  refine⟨?_,C,o,H,A,E,D⟩;rw[<-yU.inj h];let v:((Z9 g c).getD 0 .d).lo=(Zt (YA g c)).lo:=by
   rw[Qd ∅]
   let⟨r,q,e,u⟩:=QT I.ne;rw[u]
   cases c with
   | nil=>simp at o
   | cons b c=>
    unfold Zt YA Zp;let M:(gd g b).rows=r::q:=e;simp only[xJ,M];rfl
  let t:((Z9 g c).getD ((Z9 g c).length-1) .d).hi=(Zt (YA g c)).hi:=by
   rw[G,Qd ∅]
   let⟨q,r,e,u⟩:=La Y.ne;rw[u];rcases qV c with z | ⟨J,b,z⟩
   ·rw[z] at o;simp at o
   ·rw[qW] at z;let O:c.getD (c.length-1) 0=b:=by rw[z];simp[zU]
    rw[O] at e;let S:Zp g c=Zp g J++q++[r]:=by rw[z];simp[Zp,e]
    unfold Zt YA;simp only[S];simp[zU]
  let R:((Z9 g c).map YT.m).sum=(Zt (YA g c)).m:=by
   have:∀ l:jl,((Z9 g l).map YT.m).sum=((Zp g l).length:Int):=λl=>by
    induction l with
    | nil=>rfl
    | cons b l X=>
     let N:Z9 g (b::l)=Zt (gd g b)::Z9 g l:=rfl;let s:Zp g (b::l)=(gd g b).rows++Zp g l:=by simp[Zp]
     rw[N,s,yW,List.sum_cons,X,zS];show ((gd g b).rows.length:Int)+_=_
     lia
   exact this c
  let Q:((Z9 g c).getD 0 .d).h+1=(Zt (YA g c)).h:=by
   rw[Qd ∅]
   show ((gd g (c.getD 0 0)).h:Int)+1=(((gd g (c.getD 0 0)).h+1:Nat):Int)
   lia
  rw[v,t,R,Q]
def YO.ext{j:jk}{a:jn}{t:ZQ}{i:Nat}{u:ZQ}(h:YO j a i u)(r:i<=a.length):YO j (a++[t]) i u:=by
 exists h.ne,h.up,h.inn,h.leaf;intro z;let⟨k,m,g,n⟩:=h.stem z;let e:∀ b∈u.bs,gd (a++[t]) b=gd a b:=λb d=>Ut (by have:=(g b d).1;lia)
 exists k,m,λb d=>⟨by have:=(g b d).1;rw[zS];lia,by rw[e b d];exact(g b d).2⟩
 rw[n];clear k m g n;have:∀ l:jl,(∀ b∈l,gd (a++[t]) b=gd a b)->(l.flatMap λb=>(gd a b).rows)=l.flatMap λb=>(gd (a++[t]) b).rows:=λl o=>by
  induction l with
  | nil=>rfl
  | cons b l q=>rw[xJ,xJ,o b (by simp),q λc p=>o c (zK _ p)]
 exact this _ e
theorem WF.push{c:jk}{a:jn}{t:ZQ}(g:WF c a)(h:YO c a a.length t):WF c (a++[t]):=λi u e=>by
 rcases xT i a.length with b | b
 ·rw[wR b] at e;exact(g i u e).ext (xU b)
 ·rw[xE b] at e;let d:i-a.length=0:=by
   rcases Nat.eq_zero_or_pos (i-a.length) with z | z
   ·exact z
   ·rw[sY (by simp;lia)] at e;cases e
  rw[d] at e;simp at e;subst e;have:i=a.length:=∅
  rw[this];exact h.ext (zY _)
theorem Lp{k:jk}{c:jn}(l:WF k c){d:jl}(e:∀ b∈d,b<c.length){L:YT}(h:over (Z9 c d)=some L):YO k c c.length (YA c d):=by
 let⟨_,_,m,n,o,j,g⟩:=M4 l e h;refine⟨g,j,λr p=>?_,λz=>absurd z (by show (gd c (d.getD 0 0)).h+1≠0;lia),λ_=>⟨m,n,λb a=>⟨e b a,o b a⟩,Z⟩⟩
 let⟨b,a,i⟩:=xK.mp p;exact(l b _ (YN (e b a))).inn r i
def EN{g:jk}{e:jn}(j:WF g e){c:jl}(h:∀ b∈c,b<e.length)(i:Nat):((Z9 e c).getD i .d).fit:=by
 rcases xT i c.length with a | a
 ·rw[Qd a];refine Iy (j _ _ (YN (h _ ?_)));rw[zU,zV a];exact xL _
 ·rw[zU,sY (by unfold Z9;rw[zX];exact a)]
  exact ES
abbrev ZQc:jp:=["labels","at","many"]
theorem Qj:ZB ZQc zFn (Za Jg):=Zr
def ZLQ(D:ZA P w K mg kh 6 "is_key" zEq Xg):ZA P w K mg kh 6 "is_key" zEq U0:=by
 let⟨g,gd,a,b,j,m⟩:=D.ex;refine⟨g,gd,a.imp λn H Q E h=>?_,b,j,m⟩;let⟨v,t,q,e,i,d,k⟩:=h;exact⟨v,t.emb,λ_=>False,e,JQ t v i,Kj t q d,λc l=>by rw[Ib];exact k c l⟩
def ZJv{a:jE}{L:YT}(h:over a=some L):2<=a.length/\a.length<=4/\Lm a=true/\L=⟨(a.getD 0 .d).h+1,(a.getD 0 .d).lo,(a.getD (a.length-1) .d).hi,(a.map YT.m).sum⟩:=by
 unfold over at h;split at h
 ·rename_i z
  cases h;exact⟨z.1,z.2.1,z.2.2,Z⟩
 ·cases h
inductive Xf(e:jf)(H:Hp)(Q:VK)(_:XK):Prop
 |mk(l:ak)(c:jf)(b:jE)(L:YT)(_:e=[.ref l])(_:H l=some (.lst c))(_:Yi H b c)(_:∀ i,(b.getD i .d).fit)(_:over b=some L)(_:∀ a v,ZE H a->ZC a L.kt v->Q v a)
theorem ZLJ(F:Zh K "label_over" "label_over" Jg f fd)(T:Yb mg)(DS:ZA P w K mg kh 8 "stand_side_by_side" zFb UW):ZI P w K mg kh ZO 9 f fd zFn Xf:=by
 refine F.ko Qj λc3 A a8 s H vs Q E hr h=>?_;let⟨l,q,r,L,rfl,hl,hk,hf,a5,k⟩:=h;let⟨v2,v4,vc,rfl⟩:=ZJv a5;let nd:=Qj.nd;let a1:=hk.1;let⟨tf,mf⟩:=T.few;let⟨tm,mm⟩:=T.most;let⟨t0,m0⟩:=T.height;let⟨t1,m1⟩:=T.least;let⟨t2,m2⟩:=T.greatest;let⟨t3,m3⟩:=T.many;intro Xc;refine⟨_,ZM (Z3 (Va (Gp P2 P2 (Xp (v:=.int 2) rfl mf ⟨_,rfl⟩) (Z6 WK rfl T.len X3 (ZU (pv 0))) (Xp (v:=.int 4) rfl mm ⟨_,rfl⟩))) VX Z4)
  (ZM (UE PassesOwn.never rfl (Hk rfl T.range (Zn ZL (Z6 WK rfl T.len X3 (ZU (pv 0))))) (UC 1 nd)
   (ZT (Z3 (Va (XG (Ze DS hr (Zn (YS K (pv 0) (Zx Uy (pv 1) ZL)) (YS K (pv 0) (pv 1)))))) VX Z4)))
  (ZM (Zg 2 nd (Z6 (ZPp rfl) rfl T.sum ZO9 (ZU (Vm [] [] rfl (Wj (pv 0)) (λ_ _ _ _ _=>UV) (λ_ _ _ _ _=>YS K (pv 0) (Xp (v:=.int 3) Z m3 ⟨_,Z⟩)) trivial))))
  (ZT (Zf (X9 (Qr (Zx VB (YS K (YS K (pv 0) ZL) (Xp (v:=.int 0) rfl m0 ⟨_,rfl⟩)) ZL)
   (YS K (YS K (pv 0) ZL) (Xp (v:=.int 1) rfl m1 ⟨_,rfl⟩))
   (YS K (YS K (pv 0) (QQ QV ZL)) (Xp (v:=.int 2) rfl m2 ⟨_,rfl⟩))
   (pv 2))))))),?_⟩
 let O:∀(W:Hp)(i:Nat),ZE H W->i<q.length->∃(a:ak)(G C:V),q[i]? = some (.ref a)/\W a=some (.tup [.int (r.getD i .d).h,G,C,.int (r.getD i .d).m])/\ZC W (r.getD i .d).lo G/\ZC W (r.getD i .d).hi C:=λW i s' M=>by
  let hu:q[i]? = some q[i]:=zV M;let⟨a,G,C,e,e1,k1,k2⟩:=(hk.2 i _ hu).mono (ZE.tups s');exact⟨a,G,C,by rw[hu,e],e1,k1,k2⟩
 exists _,Z,l,q,Z,.inl (ZK.of hl),_,_,Z,Z,_,Z;let h2:2<=q.length:=nofun
 let h4:q.length<=4:=nofun
 rw[aM (show (2:Int)<=(q.length:Int) from nofun)]
 refine Z0 ⟨_,_,Z,Z,_,Z,?_⟩;rw[aM (show (q.length:Int)<=4 from nofun)]
 refine Zo ?_;exists _,Z,l,q,Z,.inl (ZK.of hl),1,(q.length:Int),Z,⟨nofun,nofun,nofun,nofun⟩
 refine MM (lo:=1) (n:=((q.length:Int)-1).toNat) (λi σ X=>∃ x:jg,σ=[some (.ref l),x,none]/\ZE H X/\∀ j,j<i->Ql (r.getD j .d) (r.getD (j+1) .d)=true) ⟨_,Z,ZE.refl H,λj hj=>absurd hj nofun⟩ ?_ ?_
 ·rintro i σ X M ⟨x,rfl,I,a2⟩;let a3:i+1<q.length:=nofun
  let ua:q[i]? = some (q[i]'nofun):=zV nofun
  let ub:q[i+1]? = some q[i+1]:=zV a3;let e1:(1:Int)+(i:Int)=((i+1:Nat):Int):=nofun
  let e0:(1:Int)+(i:Int)-1=((i:Nat):Int):=nofun
  let t:=I _ _ hl;refine⟨_,Z,_,Z,_,_,Z,Z,.inl ⟨l,q,_,_,Z,Z,ZK.of t,(by rw[e0];exact VD ua),?_⟩⟩
  refine⟨_,Z,_,Z,.inl ⟨l,q,_,_,Z,Z,ZK.of t,(by rw[e1];exact VD ub),?_⟩⟩
  refine⟨_,_,r.getD i .d,r.getD (i+1) .d,Z,(hk.2 i _ ua).mono (ZE.tups I),(hk.2 (i+1) _ ub).mono (ZE.tups I),hf i,hf (i+1),λu S=>⟨_,Z,?_⟩⟩;let hc:Ql (r.getD i .d) (r.getD (i+1) .d)=true:=zI.mp vc i (xN.mpr nofun)
  rw[hc];refine Zo ⟨_,Z,I.trans S,λj hj=>?_⟩;rcases xT j i with c1 | c1
  ·exact a2 j c1
  ·have:j=i:=nofun
   rw[this];exact hc
 rintro σ X ⟨x,rfl,I,a2⟩;let t:=I _ _ hl;exists _,Z,l,Z,⟨q,ZK.of t⟩;refine Ue (n:=q.length) (λi z=>q[i]? = some z) (λD i U u=>ZE X u/\X D=none/\U=((r.map YT.m).take i).map V.int) (XU nofun)
  (λD i U u M y=>⟨q,q[i],ZK.of (y.1 _ _ t),by simp[M]⟩) (λD i U u z H4 M y hy=>⟨hy.1,hy.2 q (ZK.of (y.1 _ _ t))⟩) (λD U u y=>⟨q,ZK.of (y.1 _ _ t),zY _⟩)
  (λD hD=>⟨Zl hD _,hD,Z⟩) (λD i U u z eD c5 M hz y R hR=>?_) (λD U u eD y=>?_)
 ·let⟨S,nD,rfl⟩:=y;let⟨a,c0,a9,ua,ea,c6,c7⟩:=O u i (I.trans S) M;rw[ua] at hz;cases hz;refine⟨_,Z,.inr (.inl ⟨a,_,_,.int (r.getD i .d).m,rfl,rfl,Zv.of ea,rfl,?_⟩)⟩;refine hR _ u eD ⟨λb o e=>by rw[ZR (Zd e nD)];exact S b o e,nD,?_⟩
  let eg:(r.map YT.m)[i]? = some (r.getD i .d).m:=by
   rw[zH,zU,zV (show i<r.length from nofun)]
   rfl
  rw[yR,eg,zC];rfl
 ·let⟨S,nD,rfl⟩:=y;rw[yY (by rw[zX];lia (splits:=8))] at eD
  exists D,r.map YT.m,Z,ZK.of eD;let B:=I.trans S;let N:=B _ _ hl;let⟨c,a0,c4,uc,ec,a7,c9⟩:=O u 0 B nofun
  let⟨b,c2,Y,ub,eb,c8,a6⟩:=O u (q.length-1) B nofun
  let J:Xq q (-1)=some (.ref b):=by
   let e:q=q.dropLast++[.ref b]:=by
    let a4:q≠[]:=λz=>by rw[z] at h2;simp at h2
    let hg:q.getLast a4=.ref b:=by
     rw[pT];have:=(zE.mp ub).2;exact this
    rw[<-hg,qF]
   rw[e];exact Er _ _
  refine⟨_,Z,.inl ⟨l,q,_,.ref c,Z,Z,ZK.of N,VD (j:=0) uc,.inr (.inl ⟨c,_,_,.int (r.getD 0 .d).h,rfl,rfl,Zv.of ec,rfl,_,_,rfl,rfl,?_⟩)⟩⟩;refine⟨_,Z,.inl ⟨l,q,_,.ref c,Z,Z,ZK.of N,VD (j:=0) uc,.inr (.inl ⟨c,_,_,a0,rfl,rfl,Zv.of ec,rfl,?_⟩)⟩⟩;refine⟨_,Z,1,Z,.inl ⟨l,q,_,.ref b,Z,Z,ZK.of N,J,.inr (.inl ⟨b,_,_,Y,rfl,rfl,Zv.of eb,rfl,?_⟩)⟩⟩;exists _,Z,YQ;intro p hp;let g:=Zl hp (.tup [.int ((r.getD 0 .d).h+1),a0,Y,.int (r.map YT.m).sum]);refine k _ _ (B.trans g) ?_;rw[<-a1];exact .tup ZV (.cons (.int _) (.cons (a7.sm g) (.cons (a6.sm g) (.cons (.int _) .nil))))
abbrev Kv:Stmt:=WC (top 65) 19
abbrev Je:Stmt:=WC (top 65) 20
abbrev HR:Stmt:=WC (top 65) 2
inductive Ye(kc ke:ak)(o:jf)(H:Hp)(Q:VK)(_:XK):Prop
 |mk(S d m l:ak)(g:jn)(j:Nat->jl)(k:Nat->Nat)(i:jt)(e:List (Zc×V))(n:jf)(c:jl)(_:o=[.ref S,.ref l])(_:Z5 kc ke H S d m g j k i e n)(_:H l=some (.lst (iN c)))(_:∀ b∈c,b<g.length)(_:c.length<=100)(_:∀(D:ak)(h:jf)(a:Hp),ZE H a->H D=none->a D=some (.lst h)->Yi a (Z9 g c) h->Q (.ref D) a)
theorem ZIS:ZB zEe zEe (Za Kv):=Zr
def K7{a:jl}{i:Nat}{z:V}(h:(iN a)[i]? = some z):∃ b,a[i]? = some b/\z=.int (b:Nat):=by
 unfold iN at h;rw[zH] at h;let⟨b,e,rfl⟩:=xX.mp h;exact⟨b,e,Z⟩
theorem ZFV(F:Zh K "labels_of" "Shelf.labels_of" Kv f fd)(L:Yq K mg kc ke)(T:ZD P w K mg kh ZO 2 kc "label" zEa (Wa kc ke λtg _ _=>tg)):ZI P w K mg kh ZO 3 f fd zEe (Ye kc ke):=by
 refine F.ko ZIS λV A I s H vs Q E hr h=>?_;let⟨S,d,lk,l,q,av,ho,U,G,ls,j,rfl,R,v,hb,M,k⟩:=h;let li:(iN j).length=j.length:=zX _;intro Xc;exists _,ZT (Zf (Vm [0] zEo rfl (Wj (pv 1)) (λ_ _ _ _ _=>UV) (λ_ _ _ _ _=>YH (E:=E0) (pv 1) L.cS T hr YG (ZU (pv 0))) ⟨rfl,.inl rfl,rfl,trivial⟩));exists _,Z,l,Z,⟨_,ZK.of v⟩;refine Ue (n:=(iN j).length) (λi z=>(iN j)[i]? = some z) (λD i o a=>ZE H a/\H D=none/\Yi a (Z9 q (j.take i)) o) (XU ∅)
  (λD i o a C g=>⟨_,(iN j)[i],ZK.of (g.1 _ _ v),zV C⟩) (λD i o a z H4 C g O=>⟨O.1,O.2 _ (ZK.of (g.1 _ _ v))⟩) (λD o a g=>⟨_,ZK.of (g.1 _ _ v),zY _⟩)
  (λD N=>⟨Zl N _,N,Z,λi u e=>by simp at e⟩) (λD i o a z r a0 C hz g RR B=>?_) (λD us a r g=>?_)
 ·let⟨y,x,t⟩:=g;let⟨b,J,rfl⟩:=K7 hz;let m:=hb b (zJ J);let p:=R.same y;let⟨W,Y⟩:=p.sh.self;exists _,Z,S,W,_,Z,Y,Z,_,Z,S,d,lk,q.length,G,ls,(b:Int),_,_,_,_,_,_,Z,⟨p.sh,p.val b m,(p.tw b m).tw⟩;refine B _ a r ⟨UK y x,x,?_⟩;let tD:Zz a (upd a D (.lst (o++[.ref (U.getD b .d).tg]))):=λc xs e=>by rw[ZR (ZY e r)];exact e
  rw[yR,J];let X:Z9 q (j.take i++(some b).toList)=Z9 q (j.take i)++[Zt (gd q b)]:=by unfold Z9;simp
  rw[X];exact(t.snoc (p.tw b m).tag).mono tD
 ·let⟨y,x,t⟩:=g;rw[yY ∅] at t
  exact k D us a y x r t
inductive Z8(kc ke:ak)(q:jf)(H:Hp)(Q:VK)(_:XK):Prop
 |mk(S l:ak)(e:jB)(_:q=[.ref S,.ref l])(_:H l=some (.lst (e.map V.int)))(_:∃ h b,H S=some (.ins kc h b)/\b.lookup (yH "outside")=none)(_:∀ n∈e,∃(d i:ak)(m:Nat)(a:List (Zc×V))(j:jf)(x:ak)(o k:V)(g:ak)(c:Nat)(p:jf),Pk kc ke H S d i m a j n x o k g c p/\1<=c)(_:Q .non H)
theorem X4:ZB ["self","numbers","number"] zEe (Za Je):=Zr
theorem ZEX(F:Zh K "check_held" "Shelf.check_held" Je f fd)(L:Yq K mg kc ke)(r:ZD P w K mg kh ZO 2 kc "outside" zEa (Wa kc ke λ_ j _=>.int j)):ZI P w K mg kh ZO 3 f fd zEe (Z8 kc ke):=by
 refine F.ko X4 λv A p s H vs Q E I h=>?_;let⟨S,l,O,rfl,q,⟨y,fs,D,g⟩,G,k⟩:=h;let N:=X4.nd;intro Y;refine⟨_,ZT (UE PassesOwn.never rfl (Wj (pv 1)) (UC 2 N)
  (ZT (Z3 (Y2 UG (YH (E:=E0) (pv 0) L.cS r I YG (ZU (pv 2))) ZL (YW _)) VX Z4))),?_⟩
 refine⟨_,Z,l,Z,⟨_,ZK.of q⟩,Pa (K:=K) (a:=l) (xs:=O.map V.int) (λi e c=>∃ x:jg,e=[some (.ref S),some (.ref l),x]/\c=H) ⟨_,Z,Z⟩ (λi e c _ C=>by let⟨_,_,rfl⟩:=C;exact ZK.of q) ?_ ?_⟩
 ·rintro i u e c b ⟨x,rfl,rfl⟩;rw[zH] at b;let⟨n,B,rfl⟩:=xX.mp b;let⟨d,J,m,o,M,X,U,T,t,j,W,R,h1⟩:=G n (zJ B);exists _,Z,S,y,_,Z,D,g,_,Z,S,d,J,m,o,M,n,X,U,T,t,j,W,Z,R,Z,_,Z;rw[aK (λz=>by have:=NC z;lia)]
  exact Zo ⟨_,Z,Z⟩
 ·rintro e c ⟨x,rfl,rfl⟩;exact k
inductive YC(r:jk)(kc ke:ak)(s:jf)(H:Hp)(Q:VK)(_:XK):Prop
 |mk(S d n l:ak)(e:jn)(k:Nat->jl)(m:Nat->Nat)(i:jt)(h:List (Zc×V))(p:jf)(g:jl)(q:YT)(_:s=[.ref S,.ref l])(_:Z5 kc ke H S d n e k m i h p)(_:WF r e)(_:e.length<=800)(_:∀ b∈g,b<e.length/\1<=m b/\(k b).length<=800)(_:H l=some (.lst (iN g)))(_:over (Z9 e g)=some q)(_:∀(j:Hp)(a:YL),H a.x=none->H a.th=none->H a.ab=none->(∀ c o,c≠S->c≠d->(∀ b:Nat,b<e.length->c≠(i.getD b .d).x/\c≠(i.getD b .d).ab)->H c=some o->j c=some o)->Z5 kc ke j S d n (e++[YA e g]) (X1 g e.length (Wl e.length k)) (WA g (Wk e.length m)) (i++[a]) (Y1 h (.inl (e.length:Int)) (.ref a.x)) p->Q (.int (e.length:Nat)) j)
abbrev ZLh:jp:=["self","numbers","branches","label","number"]
theorem VC:ZB ZLh zEe (Za HR):=Zr
def LC(a:jl):iN a=(a.map λb:Nat=>(b:Int)).map V.int:=by unfold iN;rw[List.map_map];rfl
theorem ZF7{gt:jk}(F:Zh K "put_stem" "Shelf.put_stem" HR f fd)(T:Yb mg)(L:Yq K mg kc ke)(DL:ZD P w K mg kh ZO 3 kc "labels_of" zEe (Ye kc ke))(DO:ZA P w K mg kh 9 "label_over" zFn Xf)(DC:ZD P w K mg kh ZO 3 kc "check_held" zEe (Z8 kc ke))(DT:ZD P w K mg kh ZO 3 kc "put_twig" zEy (XH kc ke))(DK:ZD P w K mg kh ZO 2 kc "take_over" zEi (Yr kc ke)):
  ZI P w K mg kh ZO 10 f fd zEe (YC gt kc ke):=by
 refine F.ko VC λc3 A c0 s H vs Q E hr h=>?_;let⟨S,d,X,l,a,av,ho,M,G,Y,i,Lb,rfl,R,hw,c2,B,hl,O,q3⟩:=h;let W:∀ b∈i,b<a.length:=λb h=>(B b h).1;let nd:=VC.nd;let C:=hr.mono (show 3<=9 by lia)
 let a8:=hr.mono (show 2<=9 by lia)
 let⟨eL,a7,c4,c5,c6,c9,c7⟩:=M4 hw W O;intro Xc;refine⟨_,ZM (Zg 2 nd (UO NA rfl T.list P0 (ZU (pv 1))))
  (ZM (Zg 3 nd (Ze DO hr (ZU (YH (E:=E0) (pv 0) L.cS DL C YG (ZU (pv 2))))))
  (ZM (XS (YH (E:=E0) (pv 0) L.cS DC C YG (ZU (pv 2))))
  (ZM (Zg 4 nd (YH (E:=E0) (pv 0) L.cS DT C YG (Zn (pv 2) (pv 3))))
  (ZM (XS (YH (E:=E0) (pv 0) L.cS DK a8 YG (Zn (pv 4) (pv 2))))
  (ZT (Zf (pv 4))))))),?_⟩
 exists _,Z,l,iN i,Z,.inl (ZK.of hl);intro D nD;let g1:=Zl nD (.lst (iN i));let y:upd H D (.lst (iN i)) D=some (.lst (iN i)):=ZV;generalize upd H D (.lst (iN i))=H1 at g1 y⊢;let R1:=R.same g1;let⟨a0,a4⟩:=R1.sh.self;exists _,Z,S,a0,_,Z,a4,Z,_,Z,S,d,X,D,a,av,ho,M,G,Y,i,Z,R1,y,W,by lia
 intro D2 us H2 s2 e0 a3 a6;let c1:=g1.trans s2;exists D2,us,Z9 a i,Lb,Z,a3,a6,EN hw W,O;intro H3 v s3 kv;subst eL;let g:=c1.trans s3;let r:=R.same g;let⟨u,m⟩:=r.sh.self;let k:H3 D=some (.lst (iN i)):=s3 _ _ (s2 _ _ y);exists _,Z,S,u,_,Z,m,Z,_,Z,S,D,i.map (λb:Nat=>(b:Int)),Z,by rw[<-LC];exact k,⟨u,_,m,Z⟩,λn hn=>?_
 ·let⟨b,j,rfl⟩:=zR.mp hn;let p:=B b j;exact⟨d,X,a.length,G,Y,_,_,_,_,_,_,⟨r.sh,r.val b p.1,(r.tw b p.1).tw⟩,p.2.1⟩
 let kl:=N5 kv;let⟨I,e3,e2,rfl,c8,_,_⟩:=kl;let a9:=N5 kv;exists _,Z,S,u,_,Z,m,Z,_,Z,_,Z,S,d,X,a.length,G,Y,.ref D,.ref I,Z,r.sh,by rw[Db R];lia
 intro H5 x J nx q V R5 W5;let U:Zz H3 H5:=λb ys e=>V b _ (ZY e m) (ZY e r.sh.kept) e;let N:H5 D=some (.lst (iN i)):=V _ _ (ZY k m) (ZY k r.sh.kept) k;let PP:=Fp (t:=YA a i) (x:=x) (th:=D) (tg:=I) (ab:=J) R (H':=H5) (λb o n1 n2 e=>V b o n1 n2 (g b o e)) (g.free nx) nD (g.free q) (Zd k q).symm R5 W5
  ⟨iN i,N,λz=>absurd z (by show (gd a (i.getD 0 0)).h+1≠0;lia),λ_=>rfl⟩ (a9.mono U)
 let⟨a1,a5⟩:=R5.self;let el:M.length=a.length:=R.len;let aL:∀ b,b<a.length->(M++[(⟨x,D,I,J⟩:YL)]).getD b .d=M.getD b .d:=λb W=>HW ∅
 let aN:(M++[(⟨x,D,I,J⟩:YL)]).getD a.length .d=⟨x,D,I,J⟩:=by rw[<-el];exact HN
 let en:(a++[YA a i]).length=a.length+1:=by simp
 refine⟨_,Z,S,a1,_,Z,a5,Z,_,Z,_,Z,S,d,X,D,_,_,_,_,_,Y,i,a.length,Z,PP,N,a7,λb j=>?_,λb j=>?_,λH6 a2 e1 R6=>⟨_,Z,?_⟩⟩
 ·let p:=B b j;let nb:b≠a.length:=∅
  exists by lia,?_
  ·rw[show Wk a.length ho b=ho b from aO nb];exact p.2.1
  ·rw[show Wl a.length av b=av b from aO nb];lia
 ·rw[en] at j;rcases xT b a.length with c | c
  ·rw[aL b c];exact(Zd (R.tw b c).tw.above nD).symm
  ·have:b=a.length:=∅
   rw[this,aN];exact Zd k q
 ·refine q3 H6 ⟨x,D,I,J⟩ (g.free nx) nD (g.free q) (λc o n1 n2 n3 e=>?_) R6;refine a2 c o (λb j=>?_) (V c o n1 n2 (g c o e));rw[en] at j;rcases xT b a.length with z | z
  ·rw[aL b z];exact n3 b z
  ·have:b=a.length:=∅
   rw[this,aN];exact⟨Zd e (g.free nx),Zd e (g.free q)⟩
def Dy(a:jo):(Zt (WL a)).kt=LP (a.map (·.1)):=by
 let b:(a.map (·.1)).length=a.length:=zX _;let c:(a.map (·.1)).getD 0 (.int 0)=(a.getD 0 rd).1:=by
  rw[zU,zU,zH];cases a[0]? <;> rfl
 let d:(a.map (·.1)).getD (a.length-1) (.int 0)=(a.getD (a.length-1) rd).1:=by
  rw[zU,zU,zH];cases a[a.length-1]? <;> rfl
 unfold LP Zt WL YT.kt;rw[b,c,d];rfl
inductive XW(kc ke:ak)(q:jf)(H:Hp)(Q:VK)(_:XK):Prop
 |mk(S d j l:ak)(n:Nat)(c:List (Zc×V))(k p:jf)(g:jo)(_:q=[.ref S,.ref l])(_:XV kc H S d j n c k)(_:c.length<=900)(_:H l=some (.lst p))(_:jV H (YD g) p)(_:WO g)(_:∀(a:Hp)(x h m i:ak),H x=none->H h=none->H i=none->i≠h->(∀ b o,b≠S->b≠d->H b=some o->a b=some o)->XV kc a S d j (n+1) (Y1 c (.inl (n:Int)) (.ref x)) k->Wt ke a x (.ref h) (.ref m) i 1 []->(∃ e,a h=some (.lst e)/\jV a (YD g) e)->YB a (Zt (WL g)) (.ref m)->Q (.int (n:Nat)) a)
def ZF0(F:Zh K "put_leaf" "Shelf.put_leaf" Js f fd)(L:Yq K mg kc ke)(W:ZA P w K mg kh 9 "checked_rows" zEx XY)(X:ZA P w K mg kh 1 "label_of_rows" zEx XD)(Y:ZD P w K mg kh ZO 3 kc "put_twig" zEy (XH kc ke)):
  ZI P w K mg kh ZO 10 f fd zE8 (XW kc ke):=by
 refine F.ko W0 λa0 A N s H vs Q E B h=>?_;let⟨S,d,lk,l,n,J,ls,us,O,rfl,R,q,hl,hk,G,k⟩:=h;let nd:=W0.nd;let C:=B.mono (show 1<=9 by lia)
 let D:=B.mono (show 3<=9 by lia)
 intro Xc;refine⟨_,ZM (Zg 2 nd (Ze W B (ZU (pv 1))))
  (ZT (Zf (YH (E:=E0) (pv 0) L.cS Y D YG (Zn (pv 2) (Ze X C (ZU (pv 2))))))),?_⟩
 exists _,Z,l,us,O,Z,hl,hk,G;intro H1 t g U M p j;let R1:=R.same U;let⟨dx,hS⟩:=R1.self;let lu:g.length=O.length:=by have:=j.length;rw[<-this];exact zX _
 exists _,Z,S,dx,_,Z,hS,Z,_,Z,_,Z,t,g,O.map (·.1),Z,p,CZ j,by rw[lu];exact G.2.1
 intro H2 v T kv;rw[<-Dy] at kv;let I:=N5 kv;let⟨V,a4,a3,rfl,a2,_,_⟩:=I;let I:=N5 kv;let c:=U.trans T;let R2:=R.same c;exists S,d,lk,n,J,ls,.ref t,.ref V,Z,R2,q;intro u x ab nx r y R3 W3;let⟨a1,m⟩:=R2.self;let i:Zz H2 u:=λb ys e=>y b _ (ZY e m) (ZY e R2.kept) e;let a:=T _ _ p;let z:u t=some (.lst g):=y _ _ (ZY a m) (ZY a R2.kept) a;exact k u x t V ab (c.free nx) M (c.free r) (Zd a r).symm (λb o n1 n2 e=>y b o n1 n2 (c b o e)) R3 W3 ⟨g,z,j.mono (λb xs e=>i b xs (T _ _ e)) _ _⟩ (I.mono i)
def ZIK(D:ZD P w K mg kh ZO 10 kc "put_leaf" zE8 (XW kc ke)):ZD P w K mg kh ZO 10 kc "put_leaf" zE8 (XF kc ke):=by
 let⟨g,gd,M,s,b⟩:=D.ex;refine⟨g,gd,M,s.imp λY H Q E h=>?_,b⟩;let⟨S,d,I,l,O,V,X,U,o,J,T,r,e,R,c,F,C,G,k⟩:=h;exists S,d,I,l,O.length,o,J,T,r,e,R.sh,by rw[Db R];exact c,F,C,G
 intro u x N L y nx j i a q v W n m;let⟨p,A,B⟩:=n;exact k u ⟨x,N,L,y⟩ nx j i q (Fp (t:=WL r) R q nx j i a v W ⟨p,A,λ_=>B,λz=>absurd Z z⟩ m)
structure Zi where
 S:ak
 d:ak
 ts:jn
 av:Nat->jl
 ho:Nat->Nat
 as:jt
 kvs:List (Zc×V)
structure Xi(kc ke:ak)(H:Hp)(X:Zi)(lk:ak)(c:Nat)(ls:jf):Prop where
 sh:XV kc H X.S X.d lk c X.kvs ls
 keys:X.kvs.map (·.1)=(yL X.ts.length).map (λi:Nat=>(Sum.inl (i:Int):Zc))
 val:∀ i:Nat,i<X.ts.length->Yo X.kvs (Sum.inl (i:Int))=some (.ref (X.as.getD i .d).x)
 tw:∀ i:Nat,i<X.ts.length->P6 ke H X.ts X.av X.ho i (X.as.getD i .d)
 own:∀ i:Nat,i<X.ts.length->(X.as.getD i .d).x≠X.S/\(X.as.getD i .d).ab≠lk/\(X.as.getD i .d).th≠lk
 le:X.ts.length<=c
section
variable{kc ke:ak}{H H':Hp}{X:Zi}{lk lk':ak}{c c':Nat}{ls ls':jf}
def Z5.q{S d:ak}{e:jn}{g:Nat->jl}{h:Nat->Nat}{f:jt}{a:List (Zc×V)}(R:Z5 kc ke H S d lk e g h f a ls):Xi kc ke H ⟨S,d,e,g,h,f,a⟩ lk e.length ls:=
 ⟨R.sh,R.keys,R.val,R.tw,λi b=>⟨(R.own i b).1,(R.own i b).2.1,(R.own i b).2.2.1⟩,zY _⟩
def Xi.frame(R:Xi kc ke H X lk c ls)(r:XV kc H' X.S X.d lk' c' X.kvs ls')(f:∀ b o,b≠X.S->b≠X.d->b≠lk->H b=some o->H' b=some o)(j:∀ i:Nat,i<X.ts.length->(X.as.getD i .d).ab≠lk'/\(X.as.getD i .d).th≠lk')(q:X.ts.length<=c'):Xi kc ke H' X lk' c' ls':=by
 let⟨⟨s,h⟩,g,m⟩:=R.sh;refine⟨r,R.keys,R.val,λi a=>?_,λi a=>⟨(R.own i a).1,j i a⟩,q⟩;let W:=R.tw i a;let⟨t,n⟩:=W.tw.self;let⟨u,k,_⟩:=W.things;let l:=W.tw.above;let o:=R.own i a;exact W.frame (λb v e=>f b _ (ZY e h) (ZY e g) (ZY e m) e)
  (λp e=>f _ _ o.1 (ZY n g) (ZY n m) e)
  (λp e=>f _ _ (ZY k h) (ZY k g) o.2.2 e)
  (λp e=>f _ _ (ZY l h) (ZY l g) o.2.1 e)
def Xi.same(R:Xi kc ke H X lk c ls)(s:ZE H H'):Xi kc ke H' X lk c ls:=R.frame (R.sh.same s) (λb o _ _ _ e=>s b o e) (λi a=>(R.own i a).2) R.le
def EA(X:Zi)(lk b:ak):Prop:=b=X.S\/b=X.d\/b=lk
def Xi.but(R:Xi kc ke H X lk c ls){p:ak}(s:ZH p H H')(f:¬ EA X lk p)(a:∀ i:Nat,i<X.ts.length->(X.as.getD i .d).x≠p/\(X.as.getD i .d).ab≠p/\(X.as.getD i .d).th≠p)(t:Zz H H'):Xi kc ke H' X lk c ls:=by
 let⟨⟨g,h⟩,j,k⟩:=R.sh;refine⟨⟨⟨g,s _ _ h λz=>f (.inl z.symm)⟩,s _ _ j λz=>f (.inr (.inl z.symm)),s _ _ k λz=>f (.inr (.inr z.symm))⟩,R.keys,R.val,λi b=>?_,R.own,R.le⟩;exact(R.tw i b).frame t (λo e=>s _ _ e (a i b).1) (λo e=>s _ _ e (a i b).2.2) (λo e=>s _ _ e (a i b).2.1)
def Xi.rd(R:Xi kc ke H X lk c ls){i:Nat}(a:i<X.ts.length):Pk kc ke H X.S X.d lk c X.kvs ls (i:Int) (X.as.getD i .d).x (.ref (X.as.getD i .d).th) (.ref (X.as.getD i .d).tg) (X.as.getD i .d).ab (X.ho i) (iN (X.av i)):=⟨R.sh,R.val i a,(R.tw i a).tw⟩
end
theorem ZKt(t:ZQ):(if ((t.h:Nat):Int) > 0 then ("stem" : Str) else "leaf")=kindOf t:=by
 unfold kindOf;by_cases h:t.h=0
 ·rw[aP h,aO ∅]
 ·rw[aO h,aP ∅]
inductive Xo(kc ke:ak)(k:jf)(H:Hp)(Q:VK)(_:XK):Prop
 |mk(X:Zi)(d:ak)(c:Nat)(e:jf)(i:Nat)(_:k=[.ref X.S,.int (i:Int)])(_:Xi kc ke H X d c e)(_:i<X.ts.length)(_:e.length<=390000)(_:∀(a:Hp)(j l:ak)(g:jf),(∀ b o,b≠d->H b=some o->a b=some o)->Xi kc ke a X d c (e++[.int (i:Int)])->a j=some (.tup [.str (kindOf (gd X.ts i)),.ref l])->H l=none->a l=some (.lst g)->((gd X.ts i).h=0->jV a (YD (gd X.ts i).rows) g)->((gd X.ts i).h≠0->g=iN (gd X.ts i).bs)->Q (.ref j) a)
def Ak(D:ZD P w K mg kh ZO 2 kc "look" zEa (UU kc ke)):ZD P w K mg kh ZO 2 kc "look" zEa (Xo kc ke):=by
 let⟨g,r,M,F,b⟩:=D.ex;refine⟨g,r,M,F.imp λvs H Q E h=>?_,b⟩;let⟨X,V,c,Y,i,e,R,s,U,k⟩:=h;let W:=R.tw i s;let⟨C,O,u1,u2⟩:=W.things;let⟨a,a1,a0,I,N,k1,k2⟩:=W.tag;cases I;let o:=R.own i s;exists X.S,X.d,V,c,X.kvs,Y,i,_,_,_,_,_,_,C,_,_,e,R.rd s,O,N,Ne.symm o.2.2,Ne.symm o.2.1,U;intro y T t p v x u q;let l:=R.sh.looks;let m:Zz H y:=λb xs e=>p b _ (ZY e l) e;let⟨⟨G,A⟩,B,_⟩:=R.sh;let J:(if (Zt (gd X.ts i)).h > 0 then ("stem" : Str) else "leaf")=kindOf (gd X.ts i):=ZKt _
 rw[J] at q;exact k y t T C p (R.frame ⟨⟨G,p _ _ (ZY A l) A⟩,p _ _ (ZY B l) B,v⟩ (λb o _ _ n e=>p b o n e) (λj L=>(R.own j L).2) R.le) q x u (λz=>(u1 z).mono m _ _) u2
inductive XZ(kc ke:ak)(e:jf)(H:Hp)(Q:VK)(_:XK):Prop
 |mk(X:Zi)(a:ak)(c:Nat)(b:jf)(i:Nat)(_:e=[.ref X.S,.int (i:Int)])(_:Xi kc ke H X a c b)(_:i<X.ts.length)(_:Q (.ref (X.as.getD i .d).tg) H)
def ZLl(D:ZD P w K mg kh ZO 2 kc "label" zEa (Wa kc ke λo _ _=>o)):ZD P w K mg kh ZO 2 kc "label" zEa (XZ kc ke):=by
 let⟨g,a,M,j,b⟩:=D.ex;refine⟨g,a,M,j.imp λp H Q E h=>?_,b⟩;let⟨X,m,c,n,i,e,R,l,k⟩:=h;exact⟨X.S,X.d,m,c,X.kvs,n,i,_,_,_,_,_,_,e,R.rd l,k⟩
end Tw
namespace L2
open PySem PySem.Spec PyProof.Rows
section
variable{σ:St}{H:Hp}{ix:jl}{te:TE}{Q:VK}
def JH{J:It}{n:Nat}{w:TT}(f:Nat->V->Prop)(c:Nat->Bool)(d:ak->Nat->jf->Hp->Prop)(M:n<ar)(s:∀ D i a H,i<n->d D i a H->J.go i H)(F:∀ D i a H x k,i<n->d D i a H->J.yld i H x k->k=H/\f i x)(g:∀ D a H,d D n a H->J.stop n H)(B:∀ D,H D=none->d D 0 [] (upd H D (.lst [])))(j:∀ D i a H x,H D=some (.lst a)->i<n->f i x->d D i a H->∀ R:Bool->Hp->Prop,(∀ h,h D=some (.lst a)->d D i a h->R (c i) h)->w (OF σ ix x) H R)(q:∀ D i a H x,H D=some (.lst a)->i<n->f i x->c i=true->d D i a H->∀ R:VK,(∀ y l,l D=some (.lst a)->d D (i+1) (a++[y]) (upd l D (.lst (a++[y])))->R y l)->te (OF σ ix x) H R)(G:∀ D i a H,H D=some (.lst a)->i<n->c i=false->d D i a H->d D (i+1) a H)(r:∀ D a H,H D=some (.lst a)->d D n a H->Q (.ref D) H):Wq J σ ix w te H Q:=by
 intro D C;exists λi m H=>m=n-i/\i<=n/\∃ a,H D=some (.lst a)/\a.length<=i/\d D i a H,⟨n,rfl,zD _,[],ZV,zY _,B D C⟩;rintro i m H ⟨rfl,L,a,e,E,p⟩;by_cases b:i<n
 ·refine .inr ⟨s D i a H b p,λx k y=>?_⟩;let⟨rfl,u⟩:=F D i a H x k b p y;refine j D i a _ x e b u p _ λh o v=>?_
  cases t:c i with
  | true=>
   rw[aP rfl];refine q D i a h x o b u t v _ λy l A I=>?_;exact⟨a,n-(i+1),A,∅,∅,Z,b,a++[y],ZV,by rw[zS,wY];lia,I⟩
  | false=>
   rw[aO zW];exact⟨n-(i+1),∅,Z,b,a,o,rZ E,G D i a h o b t v⟩
 ·let z:i=n:=∅
  subst z;exact .inl ⟨g D a H p,r D a H e p⟩
end
end L2
namespace Tw
open PySem PySem.Spec L2 PyProof.Rows
variable{kc ke CS CT CH CK CP CB:ak}
def Ju(c:jk):Prop:=c.Pairwise λa b=>b.lt a=false
theorem FZ{d:jk}(h:Ju d){i j:Nat}{a b:KT}(l:i<=j)(e:d[i]? = some a)(g:d[j]? = some b):b.lt a=false:=by
 let⟨k,rfl⟩:=zE.mp e;let⟨m,rfl⟩:=zE.mp g;rcases xT i j with c | c
 ·exact rF.mp h i j k m c
 ·have:i=j:=∅
  subst this;exact VG _
def cnt(a:jk)(t:KT):Nat:=(a.filter λx=>x.lt t).length
theorem Br{ts:jk}{t:KT}{m:Nat}(o:m<=ts.length)(l:∀ i a,i<m->ts[i]? = some a->a.lt t=true)(n:∀ i a,m<=i->ts[i]? = some a->a.lt t=false):cnt ts t=m:=by
 unfold cnt;let e:ts=ts.take m++ts.drop m:=(xQ m ts).symm;rw[e,xI,zS];let h:(ts.take m).filter (λx=>x.lt t)=ts.take m:=vE.mpr λa c=>by
  let⟨i,d⟩:=vR c;let b:i<m:=by
   have:=(zE.mp d).1;rw[yP] at this
   lia
  rw[List.getElem?_take,aP b] at d;exact l i a b d
 let k:(ts.drop m).filter (λx=>x.lt t)=[]:=uZ.mpr λa c=>by
  let⟨j,g⟩:=vR c;rw[rR] at g;rw[n (m+j) a (wV _ _) g];exact zW
 rw[h,k,yP];simp
 lia
inductive VS(K:zZ)(d:jf)(H:Hp)(Q:VK)(_:XK):Prop
 |mk(l:ak)(b:jf)(a:jk)(v:V)(t:KT)(_:d=[.ref l,v])(_:ZK K H l b)(_:jV H a b)(_:∀ t∈a,t.fits 3=true)(_:b.length<=100)(_:Ju a)(_:ZC H t v)(_:t.fits 3=true)(_:∀ c,ZE H c->Q (.int (cnt a t:Nat)) c)
abbrev ZO2:jp:=["keys","key","low","high","middle"]
theorem Uw:ZB ZO2 zFo (Za IZ):=Zr
theorem ZLO(F:Zh K "place_in" "place_in" IZ f fd)(T:Yb mg)(DA:ZA P w K mg kh 7 "ahead" zE7 XJ):ZI P w K mg kh ZO 8 f fd zFo (VS K):=by
 refine F.ko Uw λa0 A J s H vs Q E hr h=>?_;let⟨l,n,p,v,t,rfl,X,W,hf,R,S,hv,ht,q⟩:=h;let C:=Uw.nd;let Y:=W.length;intro Xc;refine⟨_,ZM (Zg 2 C ZL)
  (ZM (Zg 3 C (Z6 WK rfl T.len X3 (ZU (pv 0))))
  (ZM (Nf PassesOwn.never (Y2 Oi (pv 2) (pv 3) (YW _))
   (ZM (Zg 4 C (Zx Ld (Zx VB (pv 2) (pv 3)) ZL))
   (ZT (Z3 (XG (Ze DA hr (Zn (YS K (pv 0) (pv 4)) (pv 1))))
    (ZT (Zg 2 C (Zx VB (pv 4) ZL))) (ZT (Zg 3 C (pv 4)))))))
  (ZT (Zf (pv 2))))),?_⟩
 exists _,Z,l,n,Z,.inl X;refine⟨λm σ D=>∃(g e:Nat)(x:jg),σ=[some (.ref l),some v,some (.int (g:Int)),some (.int (e:Int)),x]/\ZE H D/\g<=e/\e<=p.length/\m=e-g/\(∀ i a,i<g->p[i]? = some a->a.lt t=true)/\(∀ i a,e<=i->p[i]? = some a->a.lt t=false),
  ⟨_,0,n.length,none,Z,ZE.refl H,zD _,∅,Z,λi a e=>absurd e ∅,λi a e u=>?_⟩,?_⟩
 ·have:=(zE.mp u).1
  lia
 rintro m σ H1 ⟨g,e,x,rfl,r,h1,h2,rfl,N,O⟩;exists _,Z,_,Z,_,_,Z,Z,_,Z;refine Ve (λc=>?_) (λc=>?_)
 ·let a2:(g:Int)<(e:Int):=of_decide_eq_true c;exists λM D=>∃ m',m'<e-g/\∃(k d:Nat)(x:jg),M=[some (.ref l),some v,some (.int (k:Int)),some (.int (d:Int)),x]/\ZE H D/\k<=d/\d<=p.length/\m'=d-k/\(∀ i a,i<k->p[i]? = some a->a.lt t=true)/\(∀ i a,d<=i->p[i]? = some a->a.lt t=false),λ_ _ h=>h;exists _,Z,_,Z,_,_,Z,Z,_,_,Z,Z,⟨∅,by decide⟩
  obtain⟨b,em,j,y⟩:∃ b:Nat,((g:Int)+(e:Int)) / 2=(b:Int)/\g<=b/\b<e:=⟨((g+e) / 2:Nat),∅,∅,∅⟩
  show Pn 4 (V.int (((g:Int)+(e:Int)) / 2)) _ _ _;rw[em];let G:b<n.length:=∅
  let B:n[b]? = some n[b]:=by simp[G]
  let⟨L,o,I⟩:=W.get B;refine⟨_,Z,_,Z,.inl ⟨l,n,_,n[b],Z,Z,r.seq X,VD B,_,Z,n[b],v,L,t,Z,I.sm r,hv.sm r,hf L (zJ o),ht,λH2 s2=>⟨_,Z,?_⟩⟩⟩
  cases U:L.lt t with
  | true=>
   refine Z0 ⟨_,Z,_,_,Z,Z,e-(b+1),tI (wZ j y) (Nat.lt_succ_of_le j),b+1,e,_,Z,r.trans s2,∅,h2,Z,λi a d u=>?_,O⟩
   exact Mc (FZ S (show i<=b by lia) u o) U
  | false=>
   refine Zo ⟨_,Z,b-g,Nat.sub_lt_sub_right j y,g,b,_,Z,r.trans s2,j,∅,Z,N,λi a d u=>?_⟩
   exact le_trans' U (FZ S d o u)
 ·let a1:¬ (g:Int)<(e:Int):=λz=>c (aM z);exists _,Z;rw[<-Br (ts:=p) (t:=t) (m:=g) ∅ N λi a d=>O i a ∅]
  exact q H1 r
def Xa(a:jn)(k:KT)(i:Nat):Nat:=if (gd a i).h=0 then cnt ((gd a i).rows.map (·.1)) k else ((gd a i).bs.filter λb=>!k.lt (Zt (gd a b)).lo).length-1
def V9(a:jn)(k:KT)(i:Nat):Nat:=(gd a i).bs.getD (Xa a k i) 0
def QZ(a:jn)(k:KT):Nat->Nat->jJ
 | 0,i=>[(i,Xa a k i)]
 | n+1,i=>(i,Xa a k i)::QZ a k n (V9 a k i)
def ZJw(a:jn)(k:KT)(n i:Nat):∃ r,QZ a k n i=(i,Xa a k i)::r:=by
 cases n with
 | zero=>exact⟨[],Z⟩
 | succ n=>exact⟨_,Z⟩
theorem LO(a:jn)(k:KT):∀ n i,(QZ a k n i).length=n+1
 | 0,_=>rfl
 | n+1,i=>by rw[QZ,zO,LO]
theorem GG{d:jk}{a:jn}(f:WF d a){i:Nat}(e:i<a.length)(c:(gd a i).h≠0)(k:KT):Xa a k i<(gd a i).bs.length:=by
 have:=(f i _ (YN e)).stem c;unfold Xa;rw[aO c];let l:=rM (λb=>!k.lt (Zt (gd a b)).lo) (gd a i).bs
 lia
def MV{f:jk}{a:jn}(d:WF f a){i:Nat}(c:i<a.length)(b:(gd a i).h≠0)(k:KT):V9 a k i<a.length/\(gd a (V9 a k i)).h+1=(gd a i).h/\(gd a i).bs[Xa a k i]? = some (V9 a k i):=by
 let g:=GG d c b k;let j:=(d i _ (YN c)).stem b;let e:(gd a i).bs[Xa a k i]? = some (V9 a k i):=by
  unfold V9;rw[zU,zV g];rfl
 have:=j.2.2.1 _ (zJ e);exact⟨this.1,this.2,e⟩
inductive YX(N:ak->Prop)(H:Hp)(t:ZQ)(u:V):Prop
 |mk(b l a:_)(_:u=.ref b)(_:H b=some (.tup [.str (kindOf t),.ref l]))(_:H l=some (.lst a))(_:¬ N l)(_:t.h=0->jV H (YD t.rows) a)(_:t.h≠0->a=iN t.bs)
def YX.off{N:ak->Prop}{H a:Hp}{t:ZQ}{u:V}(h:YX N H t u)(c:∀ b o,¬ N b->H b=some o->a b=some o)(m:Zz H a):YX N a t u:=by
 let⟨j,l,k,e,d,f,n,g,i⟩:=h;exact⟨j,l,k,e,m _ _ d,c _ _ n f,n,λz=>(g z).mono m _ _,i⟩
def YX.same{N:ak->Prop}{H a:Hp}{t:ZQ}{u:V}(h:YX N H t u)(s:ZE H a):YX N a t u:=h.off (λb o _ e=>s b o e) (ZE.tups s)
def ZIp{t:ZQ}(h:t.h=0):kindOf t = "leaf" :=aP h
def ZJQ{t:ZQ}(h:t.h≠0):kindOf t = "stem" :=aO h
theorem Bs(t:ZQ):decide (V.str (kindOf t)=V.str "leaf")=decide (t.h=0):=by
 by_cases h:t.h=0
 ·rw[ZIp h,aM rfl,aM h]
 ·rw[ZJQ h,aK h];decide +kernel
def ZOZ{d:jk}{c:jn}(f:WF d c){i:Nat}(e:i<c.length):Ju ((gd c i).rows.map (·.1)):=(f i _ (YN e)).up.imp fun{a b} q=>Pv _ _ q
inductive YZ(a:jf)(H:Hp)(Q:VK)(_:XK):Prop
 |mk(N:ak->Prop)(t:ZQ)(u:V)(_:a=[u])(_:YX N H t u)(_:Q (.bl (decide (t.h=0))) H)
theorem ZLo:ZB zFi zFi (Za JY):=Zr
def AQ(F:Zh K "is_leaf" "is_leaf" JY f fd):ZI P w K mg kh ZO 1 f fd zFi YZ:=by
 refine F.ko ZLo λb A a s H m Q E g h=>?_;let⟨i,t,u,rfl,⟨d,l,j,rfl,c,_⟩,k⟩:=h;intro e;exists _,ZT (Zf (UB UG (Wf K (pv 0) ZL) U5 (YW _)));exists _,Z,d,_,_,.str (kindOf t),Z,Z,Zv.of c,Z,Z;rw[Bs];exact k
inductive XX(a:jf)(H:Hp)(Q:VK)(_:XK):Prop
 |mk(N:ak->Prop)(t:ZQ)(u:V)(n:Nat)(_:a=[u,.int (n:Int)])(_:YX N H t u)(_:t.h=0->Q .non H)(_:t.h≠0->∃ b,t.bs[n]? = some b/\Q (.int (b:Nat)) H)
theorem ZII:ZB zFk zFk (Za JR):=Zr
def ZF8(F:Zh K "branch_at" "branch_at" JR f fd)(d:ZA P w K mg kh 1 "is_leaf" zFi YZ):ZI P w K mg kh ZO 2 f fd zFk XX:=by
 refine F.ko ZII λe A a s H D Q E o h=>?_;let⟨v,t,u,n,rfl,c,p,r⟩:=h;intro y;exists _,ZM (Z3 (XG (Ze d o (ZU (pv 0)))) (ZT (Zf OE)) Z4) (ZT (Zf (YS K (Wf K (pv 0) ZL) (pv 1))));exists _,Z,v,t,u,Z,c,_,Z;let⟨x,l,C,rfl,j,k,B,z,m⟩:=c;by_cases h:t.h=0
 ·rw[aM h];exact Z0 (p h)
 ·rw[aK h];let⟨b,g,q⟩:=r h;let i:=m h;subst i;refine Zo ⟨_,Z,x,_,_,.ref l,Z,Z,Zv.of j,Z,_,Z,.inl ⟨l,_,_,.int (b:Nat),Z,Z,ZK.of k,VD (by unfold iN;rw[zH,g];rfl),q⟩⟩
inductive Wc(b:jk)(kc ke:ak)(g:jf)(H:Hp)(Q:VK)(_:XK):Prop
 |mk(X:Zi)(d:ak)(c:Nat)(e:jf)(i:Nat)(u v:V)(k:KT)(N:ak->Prop)(_:g=[.ref X.S,u,v])(_:Xi kc ke H X d c e)(_:WF b X.ts)(_:i<X.ts.length)(_:YX N H (gd X.ts i) u)(_:ZC H k v)(_:k.fits 3=true)(_:∀ a,ZE H a->Q (.int (Xa X.ts k i:Nat)) a)
theorem Vv:ZB ["shelf","found","key","begun"] zFf (Za Jm):=Zr
def Nb{a:Type}(p:a->Bool){l:List a}{i:Nat}{b:a}(e:l[i]? = some b):(l.take (i+1)).filter p=(l.take i).filter p++(if p b=true then [b] else []):=by
 rw[yR,e,Option.toList_some,xI]
 congr 1
 rw[xF];cases p b <;> rfl
theorem ZJW{gt:jk}(F:Zh K "place_within" "place_within" Jm f fd)(T:Yb mg)(L:Yq K mg kc ke)(DL:ZA P w K mg kh 1 "is_leaf" zFi YZ)(DP:ZA P w K mg kh 8 "place_in" zFo (VS K))(DA:ZA P w K mg kh 7 "ahead" zE7 XJ)(DB:ZD P w K mg kh ZO 2 kc "label" zEa (XZ kc ke)):
  ZI P w K mg kh ZO 9 f fd zFf (Wc gt kc ke):=by
 refine F.ko Vv λc0 A a9 s H vs Q E hr h=>?_;let⟨X,lk,c,ls,i,u,v,k,N,rfl,R,hw,hi,hf,hv,fk,q⟩:=h;let nd:=Vv.nd;let a4:=hr.to 1;let a5:=hr.to 2;let a6:=hr.to 7;let⟨t1,m1⟩:=T.least;intro Xc;refine⟨_,ZM (Z3 (XG (Ze DL a4 (ZU (pv 1)))) (ZT (Zf (Ze DP hr (Zn (Vm [] [] rfl (Wj (Wf K (pv 1) ZL)) (λ_ _ _ _ _=>UV) (λ_ _ _ _ _=>Wf K (pv 0) ZL) trivial) (pv 2))))) Z4)
  (ZM (JD (i:=3) [2,0] ["key","shelf"] nd rfl rfl rfl (Wj (Wf K (pv 1) ZL)) (λ_ _ _ _ _=>Mo (Va (XG (Ze DA a6 (Zn (pv 1) (Wf K (YH (E:=E0) (pv 2) L.cS DB a5 YG (ZU (pv 0))) (Xp (v:=.int 1) rfl m1 ⟨_,rfl⟩))))))) (λ_ _ _ _ _=>pv 0) ⟨rfl,.inl rfl,rfl,rfl,.inl rfl,rfl,trivial⟩)
  (ZT (Zf (Z6 (IK rfl) rfl T.max HM (Zn (Zx Uy (Z6 WK rfl T.len X3 (ZU (pv 3))) ZL) ZL))))),?_⟩
 exists _,Z,N,gd X.ts i,u,Z,hf,_,Z;let⟨tp,l,p,rfl,h1,I,n1,h3,h4⟩:=hf;let ok:=hw i _ (YN hi);by_cases h:(gd X.ts i).h=0
 ·rw[aM h];let kr:=h3 h;let lr:p.length=(gd X.ts i).rows.length:=by have:=kr.length;rw[<-this];exact zX _
  let l4:=(ok.leaf h).2;refine Z0 ⟨_,Z,tp,_,_,.ref l,Z,Z,Zv.of h1,Z,l,Z,⟨p,ZK.of I⟩,Ue (n:=p.length) (λi z=>p[i]? = some z) (λD j g m=>ZE H m/\H D=none/\jV H (((gd X.ts i).rows.map (·.1)).take j) g) (XU ∅)
   (λD j g m G d=>⟨p,p[j],ZK.of (d.1 _ _ I),by simp[G]⟩) (λD j g m z W G d hy=>⟨hy.1,hy.2 p (ZK.of (d.1 _ _ I))⟩) (λD g m d=>⟨p,ZK.of (d.1 _ _ I),zY _⟩)
   (λD Y=>⟨Zl Y _,Y,.nil⟩) (λD j g m z C c1 G V d RR a1=>?_) (λD g m C d=>?_)⟩
  ·let⟨o,y,x⟩:=d;let⟨a,vk,vv,er,rfl,ea,k1,k2⟩:=P3 kr V;refine⟨_,Z,a,_,_,vk,Z,Z,Zv.of (o _ _ ea),Z,a1 _ m C ⟨UK o y,y,?_⟩⟩;rw[yR,zH,er];exact x.append (.cons k1 .nil)
  ·let⟨o,y,x⟩:=d;rw[yY (by rw[zX];lia)] at x
   let a7:=x.length;rw[zX] at a7;refine⟨_,Z,D,g,_,v,k,Z,ZK.of C,x.sm o,λt ht=>?_,∅,ZOZ hw hi,hv.sm o,fk,λW s4=>?_⟩
   ·let⟨r,a3,rfl⟩:=zR.mp ht;exact(ok.inn r a3).1
   ·let e:Xa X.ts k i=cnt ((gd X.ts i).rows.map (·.1)) k:=aP h;rw[<-e];exact q W (o.trans s4)
 ·rw[aK h];let eu:=h4 h;let ob:=ok.stem h;let lu:p.length=(gd X.ts i).bs.length:=by rw[eu];exact zX _
  refine Zo ⟨_,Z,tp,_,_,.ref l,Z,Z,Zv.of h1,Z,l,Z,⟨p,ZK.of I⟩,JH (n:=p.length) (λi z=>p[i]? = some z) (λj=>!k.lt (Zt (gd X.ts ((gd X.ts i).bs.getD j 0))).lo) (λD j g m=>ZE H m/\H D=none/\g.length=(((gd X.ts i).bs.take j).filter λb=>!k.lt (Zt (gd X.ts b)).lo).length) (XU ∅)
   (λD j g m G d=>⟨p,p[j],ZK.of (d.1 _ _ I),by simp[G]⟩) (λD j g m z W G d hy=>⟨hy.1,hy.2 p (ZK.of (d.1 _ _ I))⟩) (λD g m d=>⟨p,ZK.of (d.1 _ _ I),zY _⟩)
   (λD Y=>⟨Zl Y _,Y,Z⟩) (λD j g m z C G V d B hB=>?_) (λD j g m z C G V hk d B hB=>?_) (λD j g m C G hk d=>?_) (λD g m C d=>?_)⟩
  ·let⟨o,y,J⟩:=d;rw[eu] at V;let⟨b,M,rfl⟩:=K7 V;let O:(gd X.ts i).bs.getD j 0=b:=by rw[zU,M];rfl
   let hb:=ob.2.2.1 b (zJ M);let U:b<X.ts.length:=∅
   let R3:=R.same o;let⟨dx,hS⟩:=R3.sh.self;let⟨a,a0,c2,ea,ht,k1,k2⟩:=(R3.tw b U).tag;cases ea;let a8:=hw b _ (YN U);refine⟨_,Z,_,Z,X.S,dx,_,Z,hS,Z,_,Z,X,lk,c,ls,b,Z,R3,U,_,_,_,a0,Z,Z,Zv.of ht,Z,v,a0,k,(Zt (gd X.ts b)).lo,Z,hv.sm o,k1,fk,(Iy a8).1,λW s4=>⟨_,Z,?_⟩⟩;have:=hB W (s4 _ _ C) ⟨o.trans s4,y,J⟩;rw[O] at this;exact this
  ·let⟨o,y,J⟩:=d;rw[eu] at V;let⟨b,M,rfl⟩:=K7 V;let O:(gd X.ts i).bs.getD j 0=b:=by rw[zU,M];rfl
   rw[O] at hk;refine⟨_,Z,hB _ m C ⟨UK o y,y,?_⟩⟩;rw[Nb _ M,aP hk,zS,zS,J];rfl
  ·let⟨o,y,J⟩:=d;let a2:j<(gd X.ts i).bs.length:=∅
   let M:(gd X.ts i).bs[j]? = some ((gd X.ts i).bs.getD j 0):=by rw[zU,zV a2];rfl
   exists o,y;rw[Nb _ M,aO (by rw[hk];exact zW),yQ]
   exact J
  ·let⟨o,y,J⟩:=d;rw[yY ∅] at J
   exists _,Z,D,g,Z,.inl (ZK.of C),_,_,Z,Z,_,_,Z;let e:Xa X.ts k i=g.length-1:=by rw[J];exact aO h
   let e2:(if (0:Int) > ((g.length:Nat):Int)-1 then (0:Int) else ((g.length:Nat):Int)-1)=((Xa X.ts k i:Nat):Int):=by
    rw[e];split <;> lia
   have:=q m o;rw[<-e2] at this;exact this
end Tw
namespace L2
open PySem PySem.Spec PyProof.Rows
section
variable{M:Model}
end
section
variable{kg:jq}{σ:St}{H:Hp}{E E1:XK}
end
section
variable{M:Model}{B:aE}{env:Env}{outer l:jw}{L e:ak}{cls:aj}{od:ju}{Q:Unit->al->Prop}
end
section
variable{kg:jq}{σ:St}{H:Hp}{E E1:XK}
end
section
variable{E:XK}
def ZIW{x:Str}{C:ak}{S c l:aJ}(F:Uj X E)(O:OwnCls x C [.type "ValueError",.type "Exception",.type "BaseException",.type "object"] "ValueError.__new__" X.mg X.base)(Q:yG X.K (.ref C)=true)(R:yI X.K C (.type "BaseException")=some true)(P:xB X.K (.ref C)=some (.type "type"))(L:Gl X x)(j:(x==("__debug__" : Str))=false:=by decide):
  PS X (.Raise (some (.Call (.Name x S) [] [] c)) none l) (λ_ _ H=>E (.ref C) none H):=by
 intro r s σ H D I h;let M:=I.ok.hd F.calm;rw[arm_exec_Raise];refine aa (wpAny_standAt ?_);refine ZIL M R P (aa (af ?_ (λv s3 A=>aa (wpAny_standAt (ae A))) λ_ _ z=>z));let i:=PySem.F.excBase_ValueError;let⟨tl,N,nm,q,bs,n,sn,V,Y,t,dd,k0,k1,k2,k3,k5,mN,B,G,k,T⟩:=O.obj;refine ah (OX I L O.bound ?_ j);refine qZ I.kIn Q ?_;let⟨hp,g,d,tk,os⟩:=s;refine wpAny_call_exc_subU (rest:=[]) i i.hasB i (T.keeps I.bk) (I.bk _ _ B) (G.keeps I.bk) k (λw b e=>?_) (zD _);let⟨tt,u,e2,e3⟩:=e.there;let J:=I.newx (C:=C) (ea:=b) (h':=w) e.keeps e.new ⟨_,_,u,Z,Z,Z,Z,Z⟩;let p:H b=none:=by
  cases z:H b with
  | none=>rfl
  | some o=>
   let⟨U,m⟩:=I.hok.there (a:=b) (by rw[z];exact λy=>nomatch y)
   have:=e.new;rw[m] at this;cases this
 let f:X.s₀.heap.get? b=none:=by
  cases z:X.s₀.heap.get? b with
  | none=>rfl
  | some o=>
   let⟨U,m⟩:=I.base.there b o z (by rw[F.ex];simp)
   have:=e.new;rw[m] at this;cases this
 exact⟨b,none,Z,J.kIn,(J.hok b _ ZV).1,AB F (J.untrack p) f p (J.hok b _ ZV).1 h⟩
end
def CI(K:zZ)(a:ak)(c:TS)(D:YM)(d:St):XK:=λcls e b=>∃ C,cls=.ref C/\yI K C (.ref a)=some true/\c D d b
inductive Ox(K:zZ)(e C:ak)(m:Str)(i:Sp)(t:TA)(j:TS)(D:YM)(b:L2.St)(x:V)(c:Hp):Prop
 |mk(a h d:_)(_:x=.ref a)(_:c a=some (.ins C h d))(_:d.lookup m=none)(_:t b c λk f=>i (x::(k++[])) f (λ_ g=>D.nx b g) (CI K e j D b))
def ZQb(K:zZ)(b C:ak)(m:Str)(d:Sp)(e:TE)(t:TA)(f:TS):TS:=λD a H=>e a H λx c=>Ox K b C m d t f D a x c
def AL{X:Cx}{k:Nat}{f C CB:ak}{fd:ao}{ps:jp}{sp:Sp}{m y:Str}{ji jh epos py ph pos:aJ}{o e:Expr}{es:jx}{ta:TE}{t:TA}{b₀:aD}{suite:jC}{ts:TS}{pl:Sem Bool}(he:∀ S,PE (X.wish S) o ta)(c:VY X.K C)(hm:UY X.K C m f)(F:ZI X.prog X.w X.K X.mg X.base (Yn X.prog X.w) k f fd ps sp)(hr:ZS k X.A)(hb:Zq X.K fd ps [])(ha:∀ S,PA (X.wish S) (e::es) t)(hst:X.stack=X.env::X.outer)(hfm:X.env.frame=some X.env.locals)(hy:Gl X y)(hyC:X.mg y=some (.ref CB))(ht:xB X.K (.ref CB)=some (.type "type"))(hB:yI X.K CB (.type "BaseException")=some true)(hs:∀ E S,X5 (X.held E S) (b₀::suite) ts)(hdy:(y==("__debug__" : Str))=false:=by decide)(hse:aw (e::es) X.env=(false,aH e X.env)::aw es X.env:=by rfl)(hpl:(aG jh (aw es X.env)).any (·.1)=false:=by rfl)(hev:aH (.Call (.Attribute o m ji) (e::es) [] jh) X.env=(do
   let ov<-aH o X.env
   standAt ji.atName
   let (f,first)<-holding [ov] (getMethod ov m pl)
   callWith jh f first (aG jh (aw (e::es) X.env)) (backToKw jh (keywordEach [] X.env))):=by rfl)(hsw:swapsWith (.Call (.Attribute o m ji) (e::es) [] jh) none epos.line X.env=pure false:=by rfl):
  PS X (.Try [.Expr (.Call (.Attribute o m ji) (e::es) [] jh) epos] [.ExceptHandler (some (.Name y py)) none (b₀::suite) ph] [] [] pos) (ZQb X.K CB C m sp ta t ts):=by
 intro b s R H D I h;refine wpAny_Try_except ?_;let a6:X.A.frames=some (X.env::X.outer):=by rw[I.ok.frames,hst]
 let O:∀(T:Hp)(s1:al)(i:aj)(g:al),ZF X b R T s1->Yn X.prog X.w X.stack T s1 (CI X.K CB ts D R) i g ->
   aC (aB X.prog X.w) X.A (noteFrame i X.env) (λ_ j=>aC (aB X.prog X.w) X.A (setFlight i none) (λ_ n=>aC (aB X.prog X.w) X.A (handleBy i X.env [.ExceptHandler (some (.Name y py)) none (b₀::suite) ph]) (SP X b D) X.xe n) X.xe j) X.xe g:=by
  intro T s1 i g p hx;let⟨E,cls,od,H',rfl,W,C,rfl,mC,q⟩:=hx;let⟨B,Y,inT,a1,a0⟩:=W.ex;let a4:Vb B (X.env::X.outer) E (.ref C) od .none g.heap:=by rw[<-hst];exact Y
  refine Jr a6 hfm a4 λh4 N a2=>?_;refine NF (s:={ g with heap:=h4 }) N λh5 M a3=>?_;let J5:ZF X b R H' { g with heap:=h5 }:=KC p W inT a1 a0 M.1 (a2.trans a3);refine wpAny_handleBy_cons (codeAny_handlers_test ?_) (by intro q;cases q)
  refine OX (J5.held E (λ_ _=>False)) hy hyC ?_ hdy;refine Fz (s:={ g with heap:=h5 }) J5.kIn M.at.is ht hB mC ?_;refine codeAny_handlers_suite ?_;refine NF (s:={ g with heap:=h5 }) M λh6 a5 a7=>?_;let J6:ZF X b R H' { g with heap:=h6 }:=KC p W inT a1 a0 a5.1 ((a2.trans a3).trans a7);refine af (hs E _ b _ _ _ _ (J6.held E _) q) (λY s8 h8=>?_) λ_ _ z=>z
  cases Y with
  | next=>
   let⟨d,G,L,P⟩:=h8;exact⟨d,G,L.unheld p.ok,P⟩
  | brk=>
   let⟨d,G,L,P⟩:=h8;exact⟨d,G,L.unheld p.ok,P⟩
  | cont=>
   let⟨d,G,L,P⟩:=h8;exact⟨d,G,L.unheld p.ok,P⟩
  | ret u=>
   let⟨v8,d,G,L,r8,P⟩:=h8;exact⟨v8,d,G,L.unheld p.ok,r8,P⟩
 let I':=I.wish (λi g=>aC (aB X.prog X.w) X.A (noteFrame i X.env) (λ_ j=>aC (aB X.prog X.w) X.A (setFlight i none) (λ_ n=>aC (aB X.prog X.w) X.A (handleBy i X.env [.ExceptHandler (some (.Name y py)) none (b₀::suite) ph]) (SP X b D) X.xe n) X.xe j) X.xe g);refine wpAny_execs_cons (wpAny_Expr_any ?_ I.quiet hsw);refine sU (pl:=pl) (Z2 (he _ b s R H _ I' h) λu s1 ⟨x,T,p,rx,a,dx,fs,ex,E,l,q⟩=>?_) hev;subst ex;obtain rfl:u=Value.ref a:=rx;refine Lf p.unwish E c hm l ?_;refine uJ (first:=[.ref a]) (h₀:=X.base) I.ok.mod.kin hm.kp (Z7 (ha _ jh b s1 R T _ p q) λQ s2 vs H2 U r q2=>⟨U.kIn,?_⟩) hse hpl
 let r2:ZP (V.ref a::(vs++[])) (Value.ref a::(Q++[])):=.cons Z (r.append .nil);let hl:(Value.ref a::Q++[]).length=ps.length:=by rw[show Value.ref a::Q++[]=Value.ref a::(Q++[]) from rfl,<-r2.length];exact F.len _ _ _ _ q2
 refine wpAny_call (codeAny_mono (F.run X.A X.stack s2 H2 ⟨.ref a::Q,[]⟩ (.ref a::Q++[]) (.ref a::(vs++[])) _ _ hr U.unwish.env0 (hb s2 (.ref a::Q) U.kIn hl) r2 q2) λrr g hq=>?_)
 cases rr with
 | error i=>exact O H2 s2 i g U.unwish hq
 | ok Y=>
  cases Y with
  | ret u=>
   let⟨v,H3,J,rv,q3⟩:=U.unwish.after hq;exact wpAny_execs_nil (wpAny_execs_nil ⟨R,H3,J,q3⟩)
  | next=>exact False.elim hq
  | brk=>exact False.elim hq
  | cont=>exact False.elim hq
end L2
namespace Tw
open PySem PySem.Spec L2 PyProof.Rows
variable{kc ke CS CT CH CK CP CB:ak}
def Xr(N:ak->Prop)(H:Hp)(o:jG)(v:V):Prop:=match o with
 | some t=>ZC H t v/\t.fits 3=true
 | none=>∃ g:TG,Zk N H g v/\g.neat/\g.fits 3=false
def Xr.mono{N:ak->Prop}{H a:Hp}{v:V}{o:jG}(h:Xr N H o v)(m:VA N H a):Xr N a o v:=by
 cases o with
 | some t=>exact⟨h.1.mono m.tup,h.2⟩
 | none=>
  let⟨g,b,c,d⟩:=h;exact⟨g,b.mono m,c,d⟩
def Xr.tg{N:ak->Prop}{H:Hp}{v:V}{o:jG}(h:Xr N H o v):∃ g:TG,Zk N H g v/\g.neat/\g.fits 3=o.isSome:=by
 cases o with
 | some t=>exact⟨t.emb,JQ t v h.1,Kj t 3 h.2,by rw[Ib];exact h.2⟩
 | none=>exact h
structure WU(P:am)(w:ax)(K:zZ)(mg:jc)(kh:aE)(k:Nat)(x:Str)(ps:jp)(sp:Sp):Prop where
 ex:∃ f fd,ZI P w K mg kh (Yn P w) k f fd ps sp/\Zq K fd ps []/\yG K (.ref f)=true/\mg x=some (.ref f)
def ZX.ofD{P:am}{w:ax}{K:zZ}{d:jc}{a:aE}{x:Str}{i:aD}{e:jp}{k:Nat}{g:Sp}(L:ZX K d x i e)(h:∀ f c,Zh K x x i f c->ZI P w K d a (Yn P w) k f c e g):WU P w K d a k x e g:=by
 let⟨f,c,F,b,m⟩:=L.ex;exact⟨f,c,h f c F,b,F.kp,m⟩
def Mi{X:Cx}{E:XK}{k:Nat}{x:Str}{s:jp}{i:Sp}{e:Expr}{a:jx}{t:TA}{p c:aJ}(F:Uj X E)(D:WU X.prog X.w X.K X.mg X.base k x s i)(q:ZS k X.A)(l:PA X (e::a) t)(o:Gl X x:=by rfl)(d:(x==("__debug__" : Str))=false:=by decide)(n:aw (e::a) X.env=(false,aH e X.env)::aw a X.env:=by rfl)(g:(aG c (aw a X.env)).any (·.1)=false:=by rfl):
  PE X (.Call (.Name x p) (e::a) [] c) (KZ i [] E t):=by
 let⟨f,u,j,b,r,m⟩:=D.ex;exact E3 j q o m r b .nil (FR F λ_ _ _ h=>h) l d n g
structure Cm(K:zZ)(mg:jc)(CK:ak):Prop where
 at_:mg "NoKey" = some (.ref CK)
 exk:JL K CK=true
 kp:yG K (.ref CK)=true
 mB:yI K CK (.type "BaseException")=some true
 ty:xB K (.ref CK)=some (.type "type")
noncomputable def XB:jr->V
 | none=>.non
 | some i=>.int (i:Int)
def UX(a:jn)(k:KT):jr->jJ
 | none=>[]
 | some i=>QZ a k (gd a i).h i
inductive Y8(N:ak->Prop)(H:Hp)(b:jn)(p:Nat×Nat)(u:V):Prop
 |mk(t a:_)(_:u=.ref t)(_:H t=some (.tup [.int (p.1:Int),.int (p.2:Int),a]))(_:YX N H (gd b p.1) a)
def Y8.off{N:ak->Prop}{H a:Hp}{c:jn}{p:Nat×Nat}{u:V}(h:Y8 N H c p u)(d:∀ b o,¬ N b->H b=some o->a b=some o)(m:Zz H a):Y8 N a c p u:=by
 let⟨t,f,e,g,i⟩:=h;exact⟨t,f,e,m _ _ g,YX.off i d m⟩
inductive Ya(CK:ak)(b:jf)(H:Hp)(Q:VK)(E:XK):Prop
 |mk(v:V)(N:ak->Prop)(o:jG)(_:b=[v])(_:Xr N H o v)(_:o.isSome=true->∀ a,ZE H a->Q v a)(_:o=none->∀ a,ZE H a->E (.ref CK) none a)
def Bj(F:Zh K "checked" "checked" KD f fd)(a:K.In kh)(L:Cm K mg CK)(e:ZA P w K mg kh 6 "is_key" zEq Xg):ZI P w K mg kh (Yn P w) 7 f fd zEq (Ya CK):=by
 refine F.kD Hn λi A b s H u Q E k h=>?_;let⟨v,N,o,rfl,l,m,n⟩:=h;intro r;exists _,ZM (Z3 (Va (XG (Ze e k (ZU (pv 0))))) (ZT (ZIW OV (ZNr a L.at_ L.exk) L.kp L.mB L.ty rfl)) Z4) (ZT (Zf (pv 0)));let⟨g,q,p,j⟩:=l.tg;refine⟨_,Z,v,g,N,Z,q,p,λc d=>⟨_,Z,?_⟩⟩;rw[j]
 cases o with
 | some t=>exact Zo ⟨_,Z,m Z c d⟩
 | none=>exact Z0 (n Z c d)
inductive YR(kc ke CK:ak):Sp
 |mk{X:Zi}{b:ak}{c:Nat}{d:jf}{r:jr}{v:V}{N:ak->Prop}{o:jG}{H:Hp}{Q:VK}{E:XK}:Xi kc ke H X b c d->(∀ i,r=some i->i<X.ts.length)->Xr N H o v ->
  (o=none->∀ a,ZE H a->E (.ref CK) none a)->(o.isSome=true->∀ a,ZE H a->Q .non a)->YR kc ke CK [.ref X.S,XB r,v] H Q E
theorem ZFZ:ZB zEf zEf (Za Jq):=Zr
def ZEU(F:Zh K "check_asked" "check_asked" Jq f fd)(L:Yq K mg kc ke)(m:ZD P w K mg kh ZO 2 kc "label" zEa (XZ kc ke))(l:WU P w K mg kh 7 "checked" zEq (Ya CK)):ZI P w K mg kh (Yn P w) 8 f fd zEf (YR kc ke CK):=by
 refine F.kD ZFZ λp A g s H G Q E k h=>?_;let⟨R,d,u,x,y⟩:=h;rename_i X B c C r v N o
 let e:=k.to 2;intro D;refine⟨_,ZM (Z3 (PZ (Jd (pv 1))) (ZT (XS (YH (E:=E0) (pv 0) L.cS m e YG (ZU (pv 1))))) Z4)
  (ZT (XS (Mi OV l k (ZU (pv 2))))),?_⟩
 let a:Ya CK ([v]++[]) H (λ_ n=>Q .non n) E:=⟨v,N,o,Z,u,λz b j=>y z b j,λz b j=>x z b j⟩
 cases r with
 | none=>exact⟨_,Z,_,Z,Zo ⟨_,Z,a⟩⟩
 | some i=>
  refine⟨_,Z,_,Z,Z0 ?_⟩;let⟨q,t⟩:=R.sh.self;exact⟨_,Z,X.S,q,_,Z,t,Z,_,Z,X,B,c,C,i,Z,R,d i Z,_,Z,a⟩
structure Oj(gt:jk)(kc ke:ak)(H:Hp)(X:Zi)(lk:ak)(c:Nat)(ls:jf)(r:jr):Prop where
 sh:Xi kc ke H X lk c ls
 wf:WF gt X.ts
 low:∀ i,r=some i->(gd X.ts i).h<=300
 few:ls.length<=380000
 hi:∀ i,r=some i->i<X.ts.length
def QJ(p:jJ):jf:=p.map λs=>V.int (s.1:Int)
inductive XL(e:jk)(kc ke CK:ak):Sp
 |mk{X:Zi}{d:ak}{c:Nat}{g:jf}{r:jr}{v:V}{N:ak->Prop}{o:jG}{H:Hp}{Q:VK}{E:XK}:Oj e kc ke H X d c g r->Xr N H o v->(o=none->∀ a,ZE H a->E (.ref CK) none a) ->
  (∀ k,o=some k->∀(a:Hp)(D:ak)(h:jf),(∀ b o,b≠d->H b=some o->a b=some o)->Xi kc ke a X d c (g++QJ (UX X.ts k r))->H D=none->D≠d->a D=some (.lst h)->Paired (Y8 (λb=>b=d\/b=D) a X.ts) (UX X.ts k r) h->Q (.ref D) a) ->
  XL e kc ke CK [.ref X.S,XB r,v] H Q E
abbrev ZPC:jp:=["shelf","root","key","steps","number","found","at"]
theorem QA:ZB ZPC zEf (Za HD):=Zr
def ZRU(b:jn)(a:jr):Nat:=match a with | none=>0 | some j=>(gd b j).h+1
inductive ER(kc ke:ak)(H:Hp)(X:Zi)(lk:ak)(c:Nat)(ls:jf)(rn:jr)(v:V)(k:KT)(D:ak):Nat->L2.St->Hp->Prop
 |mk{cur:jr}{pre:jJ}{us:jf}{x5 x6:jg}{H':Hp}:(∀ j,cur=some j->j<X.ts.length)->UX X.ts k rn=pre++UX X.ts k cur->(∀ b o,b≠lk->H b=some o->H' b=some o)->Xi kc ke H' X lk c (ls++QJ pre)->H' D=some (.lst us)->Paired (Y8 (λb=>b=lk\/b=D) H' X.ts) pre us ->
  ER kc ke H X lk c ls rn v k D (ZRU X.ts cur) [some (.ref X.S),some (XB rn),some v,some (.ref D),some (XB cur),x5,x6] H'
theorem Fm{gt:jk}(F:Zh K "steps_to" "steps_to" HD f fd)(L:Yq K mg kc ke)(DC:WU P w K mg kh 8 "check_asked" zEf (YR kc ke CK))(DL:ZD P w K mg kh ZO 2 kc "look" zEa (Xo kc ke))(DP:ZA P w K mg kh 9 "place_within" zFf (Wc gt kc ke))(DB:ZA P w K mg kh 2 "branch_at" zFk XX):
  ZI P w K mg kh (Yn P w) 10 f fd zEf (XL gt kc ke CK):=by
 refine F.kD QA λe3 A c9 s H vs Q E hr h=>?_;let⟨G,hv,no,q⟩:=h;rename_i X r c ls rn v N o
 let nd:=QA.nd;let a4:=hr.to 2;let c3:=hr.to 8;intro Xc;refine⟨_,ZM (XS (Mi OV DC c3 (V4 (pv 0) (pv 1) (pv 2))))
  (ZM (Zg 3 nd (Y3 Zj))
  (ZM (Zg 4 nd (pv 1))
  (ZM (Nf Gs (PZ (Jd (pv 4)))
   (ZM (Zg 5 nd (YH (E:=E0) (pv 0) L.cS DL a4 YG (ZU (pv 4))))
   (ZM (Zg 6 nd (Ze DP hr (V4 (pv 0) (pv 5) (pv 2))))
   (ZM (XS (Ug xP wQ wP Q0 (pv 3) (ZU (X9 (V4 (pv 4) (pv 6) (pv 5))))))
   (ZT (Zg 4 nd (Ze DB a4 (Zn (pv 5) (pv 6)))))))))
  (ZT (Zf (pv 3)))))),?_⟩
 refine⟨_,Z,_,Z,_,Z,.mk (N:=N) (o:=o) G.sh G.hi hv no λgo H1 s1=>?_⟩;let c4:=G.hi;let⟨k,rfl⟩:=uF.mp go;let⟨kv,fk⟩:=hv;let R1:=G.sh.same s1;exists YQ;intro D U;let gD:=Zl U (.lst []);let eD:=ZV (H:=H1) (a:=D) (o:=.lst []);let a7:H D=none:=s1.free U;let O:D≠r:=(Zd R1.sh.looks U).symm;let R2:=R1.same gD;let s2:=s1.trans gD;generalize upd H1 D (.lst [])=H2 at gD eD R2 s2⊢;exists _,Z;let hw:=G.wf;exists ER kc ke H X r c ls rn v k D,⟨_,.mk (cur:=rn) c4 Z (λb o _ e=>s2 b o e) (by rw[show QJ []=[] from rfl,yQ];exact R2) eD .nil⟩
 rintro _ _ Y (@⟨a8,g,C,x5,x6,_,a2,p,fr,R3,R,T⟩)
 cases a8 with
 | none=>
  refine⟨_,Z,_,Z,Zo ?_⟩;let e':UX X.ts k rn=g:=by rw[p];exact yQ _
  exact⟨_,Z,q k Z Y D C fr (by rw[e'];exact R3) a7 O R (by rw[e'];exact T)⟩
 | some j=>
  let hj:=a2 j Z;let e0:g.length+((gd X.ts j).h+1)<=301:=by
   let e:=congrArg wO p;rw[zS] at e;let e1:(UX X.ts k (some j)).length=(gd X.ts j).h+1:=LO _ _ _ _;let e2:(UX X.ts k rn).length<=301:=by
    cases rn with
    | none=>exact zD _
    | some i=>
     have:(UX X.ts k (some i)).length=(gd X.ts i).h+1:=LO _ _ _ _;have:=G.low i Z
     lia
   lia
  let e4:=G.few;let lw:(QJ g).length=g.length:=zX _;let e5:=Paired.length T;refine⟨_,Z,_,Z,Z0 ⟨_,λ_ _ z=>z,?_⟩⟩;let⟨dx,hS⟩:=R3.sh.self;exists _,Z,X.S,dx,_,Z,hS,Z,_,Z,X,r,c,_,j,Z,R3,hj,by rw[zS];lia
  intro H4 u l ws B R4 a5 nl hl w1 w2;let J:=R3.sh.looks;let a6:Zz Y H4:=λb xs e=>B b _ (ZY e J) e;let c6:l≠r:=(Zd J nl).symm;let lD:l≠D:=λz=>by rw[z,R] at nl;cases nl
  let lN:¬ (l=r\/l=D):=λz=>z.elim c6 lD;let c2:YX (λb=>b=r\/b=D) H4 (gd X.ts j) (.ref u):=⟨u,l,ws,Z,a5,hl,lN,w1,w2⟩;let c7:Zz H Y:=λb xs e=>fr b _ (ZY e G.sh.sh.looks) e;let c5:=(kv.mono c7 _ _).mono a6 _ _;exists _,Z,_,Z,_,Z,X,r,c,_,j,.ref u,v,k,_,Z,R4,hw,hj,c2,c5,fk;intro H5 s5;let a0:=s5 _ _ (B _ _ O R);exists _,Z,.inl ⟨Z,_,ZK.of a0⟩,_,Z,_,Z,_,Z,YQ;intro t nt;let g6:=Zl nt (.tup [XB (some j),.int ((Xa X.ts k j:Nat):Int),.ref u]);let et:=ZV (H:=H5) (a:=t) (o:=.tup [XB (some j),.int ((Xa X.ts k j:Nat):Int),.ref u]);let m:=s5.trans g6;generalize upd H5 t (.tup [XB (some j),.int ((Xa X.ts k j:Nat):Int),.ref u])=I at g6 et m⊢;let y:=g6 _ _ a0;exists D,C,.ref t,Z,Z,y,nn ∅
  let sD:ZH D I (upd I D (.lst (C++[.ref t]))):=(ZH.refl D I).upd;let tD:=sD.tups y;let R6:=R4.same m;let ND:¬ EA X r D:=by
   let⟨⟨dS,c0⟩,c1,_⟩:=R6.sh;rintro(z | z | z)
   ·exact ZY y c0 (by intro z;cases z) z
   ·exact ZY y c1 (by intro z;cases z) z
   ·exact O z
  let oD:∀ i:Nat,i<X.ts.length->(X.as.getD i .d).x≠D/\(X.as.getD i .d).ab≠D/\(X.as.getD i .d).th≠D:=λi hi=>by
   let W:=R1.tw i hi;let⟨dy,hy⟩:=W.tw.self;let⟨e6,e1,_⟩:=W.things;exact⟨Zd hy U,Zd W.tw.above U,Zd e1 U⟩
  let R7:=R6.but sD ND oD tD;let a9:∀ b o,b≠r->Y b=some o->b≠D->upd I D (.lst (C++[.ref t])) b=some o:=λb o n e nb=>by rw[ZR nb];exact m _ _ (B b o n e)
  let c8:Zz Y (upd I D (.lst (C++[.ref t]))):=λb xs e=>tD b xs (m _ _ (a6 b xs e));let a3:YX (λb=>b=r\/b=D) (upd I D (.lst (C++[.ref t]))) (gd X.ts j) (.ref u):=by
   exact⟨u,l,ws,Z,tD _ _ (m _ _ a5),by rw[ZR lD];exact m _ _ hl,lN,λz=>((w1 z).sm m).mono tD _ _,w2⟩
  let M:Paired (Y8 (λb=>b=r\/b=D) (upd I D (.lst (C++[.ref t]))) X.ts) (g++[(j,Xa X.ts k j)]) (C++[.ref t]):=by
   refine LF (a:=(j,Xa X.ts k j)) ⟨t,.ref u,Z,tD _ _ et,a3⟩ (Paired.mapP T λ_ _ z=>Y8.off z (λb o n e=>a9 b o (λz=>n (.inl z)) e λz=>n (.inr z)) c8)
  let ew:ls++QJ g++[V.int (j:Int)]=ls++QJ (g++[(j,Xa X.ts k j)]):=by unfold QJ;simp
  rw[ew] at R7;let a1:∀ b o,b≠r->H b=some o->upd I D (.lst (C++[.ref t])) b=some o:=λb o n e=>by rw[ZR (Zd e a7)];exact m _ _ (B b o n (fr b o n e))
  refine⟨_,Z,_,Z,_,gd X.ts j,.ref u,Xa X.ts k j,Z,a3,λh0=>?_,λh0=>?_⟩
  ·refine⟨_,Nat.succ_pos _,.mk (cur:=none) (λi z=>by cases z) ?_ a1 R7 ZV M⟩
   rw[p];show g++QZ X.ts k (gd X.ts j).h j=_;rw[h0];exact(yQ _).symm
  ·let⟨n1,n2,n3⟩:=MV hw hj h0 k;refine⟨V9 X.ts k j,n3,_,Nat.succ_lt_succ ∅,.mk (cur:=some (V9 X.ts k j)) (λi z=>by cases z;lia) ?_ a1 R7 ZV M⟩
   rw[p];show g++QZ X.ts k (gd X.ts j).h j=_;rw[<-n2,yF];rfl
def Xs(a:jn):Nat->Nat->jl
 | 0,i=>[i]
 | n+1,i=>i::(gd a i).bs.flatMap (Xs a n)
def Wx(a:jn):jr->jl
 | none=>[]
 | some i=>Xs a (gd a i).h i
inductive RcAt(N:ak->Prop)(H:Hp)(b:jn)(i:Nat)(u:V):Prop
 |mk(t a:_)(_:u=.ref t)(_:H t=some (.tup [.int (i:Int),a]))(_:YX N H (gd b i) a)
def RcAt.off{N:ak->Prop}{H a:Hp}{c:jn}{i:Nat}{u:V}(h:RcAt N H c i u)(d:∀ b o,¬ N b->H b=some o->a b=some o)(m:Zz H a):RcAt N a c i u:=by
 let⟨t,f,e,g,j⟩:=h;exact⟨t,f,e,m _ _ g,j.off d m⟩
def ZPL{c d:Type}{F:c->d->Prop}{l a:List c}{m b:List d}(h:Paired F l m)(g:Paired F a b):Paired F (l++a) (m++b):=by
 induction h with
 | nil=>exact g
 | cons r _ e=>exact .cons r e
def O0(H:Hp)(a D b:ak):Prop:=b=a\/H b≠none\/b=D
inductive YF(g:jk)(n:Nat)(kc ke:ak):Sp
 |mk{H:Hp}{Q:VK}{E:XK}(X:Zi)(d:ak)(c:Nat)(e:jf)(r:jr):Xi kc ke H X d c e->WF g X.ts->(∀ i,r=some i->i<X.ts.length/\(gd X.ts i).h<=n)->(e.length+(Wx X.ts r).length<=380000/\(Wx X.ts r).length<=900) ->
  (∀(a:Hp)(D:ak)(j:jf),(∀ b o,b≠d->H b=some o->a b=some o)->Xi kc ke a X d c (e++iN (Wx X.ts r))->H D=none->D≠d->a D=some (.lst j)->Paired (RcAt (O0 H d D) a X.ts) (Wx X.ts r) j->Q (.ref D) a)->YF g n kc ke [.ref X.S,XB r] H Q E
inductive Du(kc ke:ak)(X:Zi)(d:ak)(c:Nat)(e:jf)(i m:Nat)(g D l:ak)(H:Hp)(j:Nat)(k:L2.St)(a:Hp):Prop
 |mk(h:jf)(n:jg):k=[some (.ref X.S),some (XB (some i)),some (.ref g),some (.ref D),n]->(∀ b o,b≠d->H b=some o->a b=some o)->Xi kc ke a X d c (e++iN (i::((gd X.ts i).bs.take j).flatMap (Xs X.ts m)))->a D=some (.lst h)->Paired (RcAt (O0 H d D) a X.ts) (i::((gd X.ts i).bs.take j).flatMap (Xs X.ts m)) h->a l=some (.lst (iN (gd X.ts i).bs))->Du kc ke X d c e i m g D l H j k a
abbrev An:jp:=["shelf","root","found","twigs","branch"]
theorem Uv:ZB An zEd (Za Lu):=Zr
theorem Do{gt:jk}{n:Nat}(F:Zh K "reached" "reached" Lu f fd)(L:Yq K mg kc ke)(DL:ZD P w K mg kh ZO 2 kc "look" zEa (Xo kc ke))(DI:ZA P w K mg kh 1 "is_leaf" zFi YZ)(DR:ZA P w K mg kh (n+3) "reached" zEd (λvs H Q E=>∃ m,m<n/\YF gt m kc ke vs H Q E)):ZI P w K mg kh ZO (n+4) f fd zEd (YF gt n kc ke):=by
 refine F.ok Uv (λvs H Q E h=>(by cases h;rfl)) (λe9 A c8 s H vs Q E hr h=>?_)
 let⟨X,C,c,ls,r,R,hw,c5,a1,q⟩:=h;let nd:=Uv.nd;let c6:=hr.mono (show 1<=n+3 by lia)
 let c7:=hr.mono (show 2<=n+3 by lia)
 intro Xc;refine⟨_,ZM (Z3 (PZ (Nz (pv 1))) (ZT (Zf (Y3 Zj))) Z4)
  (ZM (Zg 2 nd (YH (E:=E0) (pv 0) L.cS DL c7 YG (ZU (pv 1))))
  (ZM (Zg 3 nd (Y3 (ZU (X9 (Zn (pv 1) (pv 2))))))
  (ZM (Z3 (Va (XG (Ze DI c6 (ZU (pv 2))))) (ZT (UE PassesOwn.never rfl (Wj (Wf K (pv 2) ZL)) (UC 4 nd)
   (ZT (XS (Ug xP qH qG Hz (pv 3) (ZU (Ze DR hr (Zn (pv 0) (pv 4))))))))) Z4)
  (ZT (Zf (pv 3)))))),?_⟩
 cases r with
 | none=>
  refine⟨_,Z,_,Z,Z0 ?_⟩;exists YQ;intro D W;let gD:=Zl W (.lst []);exact q _ D [] (λb o _ e=>gD b o e) (by rw[show Wx X.ts none=[] from rfl,show iN []=[] from rfl,yQ];exact R.same gD) W (Zd R.sh.looks W).symm ZV .nil
 | some i=>
  refine⟨_,Z,_,Z,Zo ?_⟩;let⟨hi,hn⟩:=c5 i Z;let⟨⟨dS,hS⟩,c2,_⟩:=id R.sh;let l1:1<=(Wx X.ts (some i)).length:=by
   show 1<=(Xs X.ts (gd X.ts i).h i).length
   cases(gd X.ts i).h with
   | zero=>exact zY _
   | succ n=>exact vI (zD _)
  exists _,Z,X.S,dS,_,Z,hS,Z,_,Z,X,C,c,ls,i,Z,R,hi,by lia
  intro H1 J l c9 a3 R1 a6 nl hl k1 k2;exists _,Z,_,Z,YQ;intro t nt;let g1:=Zl nt (.tup [XB (some i),.ref J]);let et:upd H1 t (.tup [XB (some i),.ref J]) t=some (.tup [.int (i:Int),.ref J]):=ZV;generalize upd H1 t (.tup [XB (some i),.ref J])=H2 at g1 et⊢;exists YQ;intro D W;let g2:=Zl W (.lst [.ref t]);let eD:=ZV (H:=H2) (a:=D) (o:=.lst [.ref t]);generalize upd H2 D (.lst [.ref t])=H3 at g2 eD⊢;let g:=g1.trans g2;let c4:=R.sh.looks;let a9:l≠C:=λz=>by rw[z,c4] at nl;cases nl
  let V:H1 D=none:=g1.free W;let v:D≠C:=λz=>by rw[z,R1.sh.looks] at V;cases V
  let U:H D=none:=by
   cases z:H D with
   | none=>rfl
   | some o=>rw[a3 D o v z] at V;cases V
  let a8:l≠D:=λz=>by rw[<-z,hl] at V;cases V
  let nO:¬ O0 H C D l:=λz=>by
   rcases z with z | z | z
   ·exact a9 z
   ·exact z nl
   ·exact a8 z
  let FA:YX (O0 H C D) H3 (gd X.ts i) (.ref J):=⟨J,l,c9,Z,g _ _ a6,g _ _ hl,nO,λz=>(k1 z).sm g,k2⟩;let RA:RcAt (O0 H C D) H3 X.ts i (.ref t):=⟨t,.ref J,Z,g2 _ _ et,FA⟩;let a4:∀ b o,b≠C->H b=some o->H3 b=some o:=λb o z e=>g _ _ (a3 b o z e);let R3:=R1.same g;exists _,Z,_,gd X.ts i,_,Z,FA,_,Z;by_cases h0:(gd X.ts i).h=0
  ·rw[aM h0];let ep:Wx X.ts (some i)=[i]:=by
    show Xs X.ts (gd X.ts i).h i=_;rw[h0];rfl
   rw[ep] at q;exact Zo ⟨_,Z,q H3 D _ a4 R3 U v eD (.cons RA .nil)⟩
  rw[aK h0];obtain⟨m,em⟩:∃ m,(gd X.ts i).h=m+1:=⟨(gd X.ts i).h-1,∅⟩
  let ep:Wx X.ts (some i)=i::(gd X.ts i).bs.flatMap (Xs X.ts m):=by
   show Xs X.ts (gd X.ts i).h i=_;rw[em];rfl
  rw[ep] at q a1;let eu:=k2 h0;subst eu;let hs:=(hw i _ (YN hi)).stem h0;refine Z0 ⟨_,Z,J,_,_,.ref l,Z,Z,Zv.of (g _ _ a6),Z,l,Z,⟨_,ZK.of (g _ _ hl)⟩,Pa (K:=K) (a:=l) (xs:=iN (gd X.ts i).bs) (Du kc ke X C c ls i m J D l H) ⟨_,_,Z,a4,R3,eD,.cons RA .nil,g _ _ hl⟩ (λj σ H' _ hP=>by let⟨_,_,_,_,_,_,_,h⟩:=hP;exact ZK.of h) ?_ ?_⟩
  ·rintro j u σ H4 hu ⟨M,x4,rfl,G,R4,d,B,a5⟩;unfold iN at hu;rw[zH] at hu;let⟨b,hb,rfl⟩:=xX.mp hu;let⟨i1,i0⟩:=hs.2.2.1 b (zJ hb);let eb:Wx X.ts (some b)=Xs X.ts m b:=by
    show Xs X.ts (gd X.ts b).h b=_;rw[show (gd X.ts b).h=m by lia]
   let c1:(gd X.ts i).bs.take (j+1)=(gd X.ts i).bs.take j++[b]:=by rw[yR,hb];rfl
   let ef:((gd X.ts i).bs.take (j+1)).flatMap (Xs X.ts m)=((gd X.ts i).bs.take j).flatMap (Xs X.ts m)++Xs X.ts m b:=by rw[c1,vS];simp
   let lf:(((gd X.ts i).bs.take (j+1)).flatMap (Xs X.ts m)).length<=((gd X.ts i).bs.flatMap (Xs X.ts m)).length:=by
    conv=>rhs;rw[<-xQ (j+1) (gd X.ts i).bs,vS,zS]
    exact wV _ _
   let a2:=a1;rw[ef,zS] at lf;simp only[zO] at a2;let l4:=Paired.length B;simp only[zO] at l4;refine⟨_,Z,.inl ⟨Z,_,ZK.of d⟩,_,Z,_,Z,m,∅,.mk X C c _ (some b) R4 hw (λy hy=>by cases hy;exact⟨∅,∅⟩) ?_ λH5 D2 k N R5 a7 e0 c0 T=>?_⟩
   ·rw[eb,zS];unfold iN;simp only[zX,zO]
    lia
   rw[eb] at R5 T;let l5:=Paired.length T;let a0:=N _ _ v d;let c3:=N _ _ a9 a5;let e8:D2≠D:=λz=>by rw[z,d] at a7;cases a7
   exists D,D2,M,k,Z,Z,a0,c0,nn ∅
   let O:∀ b o,b≠C->b≠D->H4 b=some o->upd H5 D (.lst (M++k)) b=some o:=λb o z1 z2 e=>by rw[ZR z2];exact N b o z1 e
   let t4:Zz H4 (upd H5 D (.lst (M++k))):=λb xs e=>O b _ (ZY e R4.sh.looks) (ZY e d) e;let t5:Zz H5 (upd H5 D (.lst (M++k))):=λb xs e=>by rw[ZR (ZY e a0)];exact e
   let Y:∀ b o,H b=some o->b≠D:=λb o e=>Zd e U;let R6:=R5.but (p:=D) (H':=upd H5 D (.lst (M++k))) (λb o e z=>by rw[ZR z];exact e) (λz=>by
    rcases z with z | z | z
    ·exact Y _ _ hS z.symm
    ·exact Y _ _ c2 z.symm
    ·exact v z) (λy hy=>by
     let⟨dx,hx⟩:=(R.tw y hy).tw.self;let⟨vs,e1,_⟩:=(R.tw y hy).things;exact⟨Y _ _ hx,Y _ _ (R.tw y hy).tw.above,Y _ _ e1⟩) t5
   refine⟨M++k,_,Z,λb o z e=>O b o z (Y _ _ e) (G b o z e),?_,ZV,?_,by rw[ZR a8];exact c3⟩
   ·rw[ef,<-vH];unfold iN at R6⊢;rw[zC,<-yF];exact R6
   ·rw[ef,<-vH];refine ZPL (Paired.mapP B λy u h=>h.off (λb o z e=>O b o (λy=>z (.inl y)) (λy=>z (.inr (.inr y))) e) t4) (Paired.mapP T λy u h=>?_);let⟨t',fv,e1,e2,tq,lq,vq,e3,e4,e5,I,e6,e7⟩:=h;let lD:lq≠D:=λz=>I (.inr (.inl (by rw[z,d];intro y;cases y)))
    refine⟨t',fv,e1,t5 _ _ e2,tq,lq,vq,e3,t5 _ _ e4,by rw[ZR lD];exact e5,λz=>?_,λz=>(e6 z).mono t5 _ _,e7⟩
    rcases z with z | z | z
    ·exact I (.inl z)
    ·refine I (.inr (.inl λy=>?_))
     cases x:H lq with
     | none=>exact z x
     | some o=>rw[G lq o (λy=>I (.inl y)) x] at y;cases y
    ·exact lD z
  ·rintro σ H4 ⟨M,x4,rfl,G,R4,d,B,a5⟩;let el:(gd X.ts i).bs.take (iN (gd X.ts i).bs).length=(gd X.ts i).bs:=by unfold iN;rw[zX,sC]
   rw[el] at R4 B;exact⟨_,Z,q H4 D M G R4 U v d B⟩
def YF.mono{d:jk}{m n:Nat}{g:jf}{H:Hp}{Q:VK}{E:XK}(h:YF d m kc ke g H Q E)(j:m<=n):YF d n kc ke g H Q E:=by
 let⟨X,l,c,o,r,R,k,a,b,q⟩:=h;exact⟨X,l,c,o,r,R,k,λi e=>⟨(a i e).1,zN (a i e).2 j⟩,b,q⟩
theorem GY{e:jk}(a:ZX K mg "reached" Lu zEd)(L:Yq K mg kc ke)(d:ZD P w K mg kh ZO 2 kc "look" zEa (Xo kc ke))(c:ZA P w K mg kh 1 "is_leaf" zFi YZ):∀ n:Nat,ZA P w K mg kh (n+3) "reached" zEd (λb H Q E=>∃ m,m<n/\YF e m kc ke b H Q E)
 | 0=>a.of λ_ _ _=>Ki λb H Q E h=>by let⟨m,g,_⟩:=h;lia
 | n+1=>a.of λ_ _ F=>(Do F L d c (GY a L d c n)).imp λb H Q E h=>by
  let⟨m,g,h⟩:=h;exact h.mono ∅
structure LQ(gt:jk)(kc ke:ak)(H:Hp)(X:Zi)(lk:ak)(c:Nat)(ls:jf)(r:jr):Prop where
 sh:Xi kc ke H X lk c ls
 wf:WF gt X.ts
 low:∀ i,r=some i->i<X.ts.length/\(gd X.ts i).h<=20
 few:ls.length+(Wx X.ts r).length<=380000/\(Wx X.ts r).length<=900
structure Hr(kc ke:ak)(H H':Hp)(X:Zi)(lk:ak)(c:Nat)(ls:jf)(r:jr)(D:ak):Prop where
 fr:∀ b o,b≠lk->H b=some o->H' b=some o
 sh:Xi kc ke H' X lk c (ls++iN (Wx X.ts r))
 free:H D=none
 ne:D≠lk
def LQ.reach{g:jk}{H:Hp}{X:Zi}{b:ak}{c:Nat}{e:jf}{r:jr}(h:LQ g kc ke H X b c e r){Q:VK}{E:XK}(q:∀ (a:Hp) (D:ak) (d:jf),Hr kc ke H a X b c e r D->a D=some (.lst d)->Paired (RcAt (O0 H b D) a X.ts) (Wx X.ts r) d->Q (.ref D) a):YF g 20 kc ke [.ref X.S,XB r] H Q E:=
 .mk X b c e r h.sh h.wf h.low h.few λa D d i j k l m n=>q a D d ⟨i,j,k,l⟩ m n
def OR(a:jn)(j:Nat):Bool:=decide ((gd a j).h=0)
def Um(a:jn)(l:jl):jo:=(l.filter (OR a)).flatMap λj=>(gd a j).rows
def GK(a:jn)(l:jl)(y:Nat):Um a (l++[y])=Um a l++if OR a y then (gd a y).rows else []:=by
 unfold Um;rw[xI,vS]
 congr 1
 cases h:OR a y <;> simp[h]
def ZRR{n:Nat}(h:n<=4000):n<=sizeLine:=zN h (by decide)
inductive Xm(b:jk)(kc ke:ak):Sp
 |mk{H:Hp}{Q:VK}{E:XK}(X:Zi)(d:ak)(c:Nat)(e:jf)(r:jr):LQ b kc ke H X d c e r->(∀ j∈Wx X.ts r,j<X.ts.length)->(∀(a:Hp)(D:ak)(g:jf),Hr kc ke H a X d c e r D->a D=some (.lst g)->jV a (YD (Um X.ts (Wx X.ts r))) g->Q (.ref D) a)->Xm b kc ke [.ref X.S,XB r] H Q E
abbrev ZNI:jp:=["shelf","root","rows","twig"]
theorem Vk:ZB ZNI zEd (Za JA):=Zr
inductive GR(X:Zi)(r:jr)(D:ak)(c:Hp)(j:Nat)(d:L2.St)(a:Hp):Prop
 |mk(b:jf)(e:jg):d=[some (.ref X.S),some (XB r),some (.ref D),e]->a D=some (.lst b)->jV a (YD (Um X.ts ((Wx X.ts r).take j))) b->b.length<=4 * j->ZH D c a->GR X r D c j d a
theorem ZIl{W:jk}(F:Zh K "rows_of" "rows_of" JA f fd)(DI:ZA P w K mg kh 1 "is_leaf" zFi YZ)(DR:ZA P w K mg kh 25 "reached" zEd (YF W 20 kc ke)):ZI P w K mg kh ZO 26 f fd zEd (Xm W kc ke):=by
 refine F.ok Vk (λvs H Q E h=>(by cases h;rfl)) (λa3 A a2 s H vs Q E hr h=>?_)
 let nd:=Vk.nd;let a0:=hr.to 1;intro Xc;refine⟨_,ZM (Zg 2 nd (Y3 Zj))
  (ZM (UE PassesOwn.never rfl (Wj (Ze DR hr (Zn (pv 0) (pv 1)))) (UC 3 nd)
   (ZT (Z3 (XG (Ze DI a0 (ZU (Wf K (pv 3) ZL))))
    (ZT (XS (Ug xP qH qG Hz (pv 2) (ZU (Wf K (Wf K (pv 3) ZL) ZL))))) Z4)))
  (ZT (Zf (pv 2)))),?_⟩
 exists YQ;intro D i;let V:=Zl i (.lst []);let⟨X,lk,c,ls,r,R,a1,q⟩:=h;let O:=ZV (H:=H) (a:=D) (o:=.lst []);generalize upd H D (.lst [])=H1 at V O⊢;let R1:LQ W kc ke H1 X lk c ls r:=⟨R.sh.same V,R.wf,R.low,R.few⟩;refine⟨_,Z,_,Z,R1.reach λN M us L G S=>?_⟩;let lp:=Paired.length S;let a4:=R.few;let l:D≠lk:=(Zd R.sh.sh.looks i).symm;let n:=L.fr D _ l O;let U:M≠D:=λz=>by have:=L.free;rw[z,O] at this;cases this
 refine⟨M,Z,⟨us,ZK.of G⟩,Pa (K:=K) (a:=M) (xs:=us) (GR X r D N) ⟨[],_,Z,n,.nil,zD _,λb o e _=>e⟩ (λj σ H' _ S=>by let⟨_,_,_,_,_,_,h⟩:=S;exact ZK.of (h _ _ G U)) ?_ ?_⟩
 ·rintro j u σ m hu ⟨B,x3,rfl,d,g,l4,k⟩;let⟨y,ey,t,fv,rfl,et,FA⟩:=Paired.ixR S hu;let hj:j<us.length:=(zE.mp hu).1;let J:Zz N m:=λb xs e=>k _ _ e (ZY e n);let I:=a1 y (zJ ey);let ok:=R.wf y _ (YN I);let fD:∀ b o,¬ (O0 H1 lk M) b->N b=some o->m b=some o:=λb o z e=>k b o e λx=>z (.inr (.inl (by rw[x,O];intro x;cases x)))
  let F4:=FA.off fD J;let C:(Wx X.ts r).take (j+1)=(Wx X.ts r).take j++[y]:=by rw[yR,ey];rfl
  exists _,Z,t,_,_,fv,Z,Z,Zv.of (J _ _ et),Z,_,gd X.ts y,fv,Z,F4,_,Z;let⟨tq,lq,T,rfl,e4,e5,a6,e6,e7⟩:=F4;by_cases v:(gd X.ts y).h=0
  ·rw[aM v];let kq:=e6 v;let lv:T.length=(gd X.ts y).rows.length:=by have:=kq.length;rw[<-this];exact zX _
   let a5:=(ok.leaf v).2;refine Z0 ⟨_,Z,.inl ⟨Z,_,ZK.of d⟩,_,Z,t,_,_,.ref tq,Z,Z,Zv.of (J _ _ et),Z,tq,_,_,.ref lq,Z,Z,Zv.of e4,Z,D,lq,B,T,Z,Z,d,e5,ZRR ∅,?_⟩
   let t5:Zz m (upd m D (.lst (B++T))):=λb xs e=>by rw[ZR (ZY e d)];exact e
   refine⟨B++T,_,Z,ZV,?_,by rw[zS];lia,λb o e z=>by rw[ZR z];exact k b o e z⟩
   rw[C,GK,aP (show OR X.ts y=true from aM v),Mv];exact(g.mono t5 _ _).append (kq.mono t5 _ _)
  ·rw[aK v];refine Zo ⟨B,_,Z,d,?_,∅,k⟩
   rw[C,GK,aO (by unfold OR;rw[aK v];exact zW),yQ]
   exact g
 ·rintro σ m ⟨B,x3,rfl,d,g,l4,k⟩;rw[yY ∅] at g
  refine⟨_,Z,q m D B ⟨λb o z e=>k _ _ (L.fr b o z (V _ _ e)) (Zd e i),?_,i,l⟩ d g⟩;let J:Zz N m:=λb xs e=>k _ _ e (ZY e n);let⟨⟨dS,hS⟩,Y,_⟩:=id R.sh.sh;refine L.sh.but (p:=D) k (λz=>?_) (λy I=>?_) J
  ·rcases z with z | z | z
   ·exact Zd hS i z.symm
   ·exact Zd Y i z.symm
   ·exact l z
  ·let⟨dx,hx⟩:=(R.sh.tw y I).tw.self;let⟨vs,e1,_⟩:=(R.sh.tw y I).things;exact⟨Zd hx i,Zd (R.sh.tw y I).tw.above i,Zd e1 i⟩
section
variable{gt:jk}{ts:jn}
theorem Dq(e:WF gt ts):∀(n i:Nat),i<ts.length->(gd ts i).h=n->∀ j∈Xs ts n i,j<ts.length
 | 0,i,a,_,j,c=>by
  have:j=i:=by simpa [Xs] using c
  subst this;exact a
 | n+1,i,a,m,j,c=>by
  let k:=(e i _ (YN a)).stem ∅
  rw[Xs] at c;rcases zQ.mp c with z | z
  ·subst z;exact a
  ·let⟨b,g,d⟩:=xK.mp z;let⟨f,l⟩:=k.2.2.1 b g;exact Dq e n b f ∅ j d
def ZLC(l:jl)(g:Nat->jl):Um ts (l.flatMap g)=l.flatMap λb=>Um ts (g b):=by
 induction l with
 | nil=>rfl
 | cons a l c=>
  rw[xJ,xJ,<-c];unfold Um;rw[xI,vS]
theorem FC(f:WF gt ts):∀(n i:Nat),i<ts.length->(gd ts i).h=n->Um ts (Xs ts n i)=(gd ts i).rows
 | 0,i,a,c=>by
  unfold Um;rw[Xs,xF,aP (show OR ts i=true from aM c)];simp
 | n+1,i,a,c=>by
  let d:=(f i _ (YN a)).stem ∅
  let e:Um ts (Xs ts (n+1) i)=Um ts ((gd ts i).bs.flatMap (Xs ts n)):=by
   unfold Um;rw[Xs,xF,aO (by unfold OR;rw[aK ∅];exact zW)]
  rw[e,ZLC,d.2.2.2,List.flatMap_def,List.flatMap_def]
  congr 1
  refine List.map_congr_left λb g=>?_;let⟨j,k⟩:=d.2.2.1 b g;exact FC f n b ∅ ∅
theorem CV(d:WF gt ts):∀(n i:Nat),i<ts.length->(gd ts i).h=n->(Xs ts n i).length+1<=2 * (gd ts i).rows.length
 | 0,i,a,_=>by
  have:=tF.mpr (d i _ (YN a)).ne;show 1+1<=_
  lia
 | n+1,i,a,u=>by
  let o:=(d i _ (YN a)).stem ∅
  let⟨q,_,f,j⟩:=o;let k:∀ l:jl,(∀ b∈l,b∈(gd ts i).bs)->(l.flatMap (Xs ts n)).length+l.length<=2 * (l.flatMap λb=>(gd ts b).rows).length:=λl e=>by
   induction l with
   | nil=>exact zY _
   | cons b l p=>
    let s:=p λc m=>e c (zK _ m);let⟨g,r⟩:=f b (e b zM);let t:=CV d n b g ∅
    rw[xJ,xJ,zS,zS,zO]
    lia
  have:=k _ λb h=>h;rw[j,Xs,zO]
  lia
end
def AW{s:al}(a b:KT)(A:ay)(v u:aj)(x:ZG s.heap a v)(y:ZG s.heap b u)(M:A.units+a.depth<cLine):SeqAt.RcAt A s v u (a.eqb b):=by
 let f:A.units<cLine:=∅
 cases a with
 | int i=>
  rw[ZG] at x;let⟨t,rfl⟩:=x
  cases b with
  | int j=>rw[ZG] at y;let⟨g,rfl⟩:=y;rw[KT.eqb];exact SeqAt.RcAt.int_int i t j g
  | str z=>rw[ZG] at y;let⟨g,rfl⟩:=y;rw[show (KT.int i).eqb (.str z)=false by simp[KT.eqb]];exact SeqAt.RcAt.int_str i t z g
  | tup m=>rw[ZG] at y;let⟨p,d,rfl,h,_⟩:=y;rw[show (KT.int i).eqb (.tup m)=false by simp[KT.eqb]];exact SeqAt.RcAt.int_tuple i t h f
 | str w=>
  rw[ZG] at x;let⟨t,rfl⟩:=x
  cases b with
  | int j=>rw[ZG] at y;let⟨g,rfl⟩:=y;rw[show (KT.str w).eqb (.int j)=false by simp[KT.eqb]];exact SeqAt.RcAt.str_int w t j g
  | str z=>rw[ZG] at y;let⟨g,rfl⟩:=y;rw[KT.eqb];exact SeqAt.RcAt.str_str w t z g
  | tup m=>rw[ZG] at y;let⟨p,d,rfl,h,_⟩:=y;rw[show (KT.str w).eqb (.tup m)=false by simp[KT.eqb]];exact SeqAt.RcAt.str_tuple w t h f
 | tup l=>
  rw[ZG] at x;let⟨p,d,rfl,r,C⟩:=x;rw[KT.depth] at M
  cases b with
  | int j=>rw[ZG] at y;let⟨g,rfl⟩:=y;rw[show (KT.tup l).eqb (.int j)=false by simp[KT.eqb]];exact SeqAt.RcAt.tuple_int j g r f
  | str z=>rw[ZG] at y;let⟨g,rfl⟩:=y;rw[show (KT.tup l).eqb (.str z)=false by simp[KT.eqb]];exact SeqAt.RcAt.tuple_str z g r f
  | tup m=>
   rw[ZG] at y;let⟨q,c,rfl,h,D⟩:=y;let P:=C.length;let Q:=D.length;let E:=SeqAt.RcAt.tuples (A:=A) (s:=s) (e:=λj=>(l.getD j (.int 0)).eqb (m.getD j (.int 0))) r h f (λj K L=>by
    let n:j<d.length:=by simpa using K
    let o:j<c.length:=by simpa using L
    let⟨k,B,N⟩:=C.get (j:=j) (u:=d[j]) (by simp[n])
    let⟨F,G,O⟩:=D.get (j:=j) (u:=c[j]) (by simp[o])
    let R:=Pg (zJ B);let I:l.getD j (.int 0)=k:=by rw[zU,B];rfl
    let J:m.getD j (.int 0)=F:=by rw[zU,G];rfl
    have:=Pr k.depth k F A.in1 d[j] c[j] (zY _) N O (by show A.units+1+k.depth<cLine;lia)
    show SeqAt.EqAt A.in1 s _ _ ((l.getD j (.int 0)).eqb (m.getD j (.int 0)));rw[I,J];simpa using this)
   let H:((yL (min d.toArray.size c.toArray.size)).all (λj=>(l.getD j (.int 0)).eqb (m.getD j (.int 0)))&&d.toArray.size==c.toArray.size)=(KT.tup l).eqb (.tup m):=by
    rw[zL,zL,<-P,<-Q,KT.eqb];exact OA l m
   rw[H] at E;exact E
inductive MW:V->V->Hp->VK->Prop
 |mk{x y:V}{H:Hp}{Q:VK}(a b:KT):ZC H a x->ZC H b y->a.depth<=200->Q (.bl (a.eqb b)) H->MW x y H Q
def AX{k:Nat}(g:ZS k X.A):Yy X (aA .Eq) MW:=by
 intro c s l H x y v u Q I i j h;let⟨a,b,d,e,f,q⟩:=h;exact AW a b X.A v u (Vd I a x v d i) (Vd I b y u e j) (ZS.key g f) X.prog X.w X.xe _ ⟨.bl _,H,I,Z,q⟩
def WB(a:jo)(k:KT):jk:=(a.filter λr=>r.1.eqb k).map (·.2)
def Ym(a:jn):jr->jo
 | none=>[]
 | some i=>(gd a i).rows
def GJ{p:jk}{c:jn}(f:WF p c){j:Nat}(t:j<c.length)(q:(gd c j).h≠0):(gd c j).bs.Pairwise λa b=>(Zt (gd c a)).lo.lt (Zt (gd c b)).lo=true:=by
 let i:=f j _ (YN t);let⟨u,v,l,o⟩:=i.stem q;let k:=i.up;rw[o,List.map_flatMap,pW] at k;let g:∀ b∈(gd c j).bs,(Zt (gd c b)).lo∈(gd c b).rows.map (·.1):=λb d=>by
  let e:b<c.length:=by have:=(l b d).1;lia
  let⟨r,w,m,n⟩:=QT (f b _ (YN e)).ne;rw[m,n];exact zM ..
 have:=k.2;exact this.imp_of_mem fun{a b} s d h=>h _ (g a s) _ (g b d)
theorem Ac{g:Type}{p:g->Bool}{A C:List g}{b:g}(h:((A++b::C).filter p).length-1=A.length)(k:∀ c∈C,p c=true->p b=true/\∀ a∈A,p a=true):(A≠[]->p b=true)/\∀ c∈C,p c=false:=by
 let i:∀ c∈C,p c=false:=λc d=>by
  cases e:p c with
  | false=>rfl
  | true=>
   let⟨l,f⟩:=k c d e;rw[xI,List.filter_cons_of_pos l,zS,zO,vE.mpr f] at h;have:0<(C.filter p).length:=List.length_pos_of_mem (yC.mpr ⟨d,e⟩)
   lia
 refine⟨λf=>?_,i⟩
 cases e:p b with
 | true=>rfl
 | false=>
  let j:C.filter p=[]:=uZ.mpr λc d=>by rw[i c d];exact zW
  rw[xI,List.filter_cons_of_neg (by rw[e];exact zW),j,yQ] at h
  have:=rM p A;have:0<A.length:=tF.mpr f
  lia
def D9{f:jk}{g:jn}{i j:Nat}{t:ZQ}(b:YO f g i t){y:KT}(a:y∈t.rows.map (·.1)):y.lt (Zt t).lo=false:=by
 let⟨r,h,d,e⟩:=QT b.ne;let c:=b.up;rw[d,yW] at c a;rw[e];rcases zQ.mp a with z | z
 ·rw[z];exact VG _
 ·exact Pv _ _ ((xD.mp c).1 y z)
section
variable{gt:jk}{ts:jn}
theorem Dz(m:WF gt ts){i:Nat}(l:i<ts.length)(f:(gd ts i).h≠0)(k:KT):∃ A C,A.length=Xa ts k i/\(gd ts i).bs=A++V9 ts k i::C/\(A≠[]->k.lt (Zt (gd ts (V9 ts k i))).lo=false)/\∀ c∈C,k.lt (Zt (gd ts c)).lo=true:=by
 let⟨F,G,w⟩:=MV m l f k;let v:=GG m l f k;let r:=GJ m l f;let d:(gd ts i).bs=(gd ts i).bs.take (Xa ts k i)++V9 ts k i::(gd ts i).bs.drop (Xa ts k i+1):=by
  let⟨u,e⟩:=zE.mp w;exact(xQ (Xa ts k i) _).symm.trans (by rw[vY u,e])
 let p:((gd ts i).bs.take (Xa ts k i)).length=Xa ts k i:=by rw[yP];lia
 let j:((gd ts i).bs.filter λb=>!k.lt (Zt (gd ts b)).lo).length-1=Xa ts k i:=(aO f).symm;rw[d,xY] at r;rw[<-p] at j
 conv at j=>lhs;rw[d]
 let⟨_,E,n⟩:=r;let o:=(xD.mp E).1;let s:∀{x y:Nat},(Zt (gd ts x)).lo.lt (Zt (gd ts y)).lo=true->(!k.lt (Zt (gd ts y)).lo)=true->(!k.lt (Zt (gd ts x)).lo)=true:=fun{x y} h q=>by
  cases e:k.lt (Zt (gd ts x)).lo with
  | false=>rfl
  | true=>rw[lt_trans' _ _ _ e h] at q;cases q
 let⟨B,D⟩:=Ac j λc g q=>⟨s (o c g) q,λa t=>s (n a t c (zK _ g)) q⟩;exact⟨_,_,p,d,λz=>by simpa using B z,λc g=>by simpa using D c g⟩
def LU(a b:jo)(k:KT):WB (a++b) k=WB a k++WB b k:=by unfold WB;rw[xI,zC]
def Nw{rs:jo}{k:KT}(h:∀ r∈rs,r.1≠k):WB rs k=[]:=by
 unfold WB;rw[uZ.mpr λr a z=>h r a (Vw _ _ z)];rfl
def ZJp(d:WF gt ts){i:Nat}(m:i<ts.length)(g:(gd ts i).h≠0)(k:KT):WB (gd ts i).rows k=WB (gd ts (V9 ts k i)).rows k:=by
 let⟨A,C,_,f,w,x⟩:=Dz d m g k;let p:=d i _ (YN m);let⟨D,E,t,n⟩:=p.stem g;let s:=p.up;let B:V9 ts k i<ts.length:=by have:=(MV d m g k).1;lia
 rw[n,f,vS,xJ,zC,xY] at s;rw[n,f,vS,xJ,LU,LU,Nw,Nw (rs:=C.flatMap _),List.nil_append,yQ]
 ·intro r a z;let⟨c,b,a⟩:=xK.mp a;let l:c<ts.length:=by
   have:=(t c (by rw[f];exact yJ _ (zK _ b))).1
   lia
  let e:=D9 (j:=0) (d c _ (YN l)) (zR.mpr ⟨r,a,Z⟩);rw[z,x c b] at e;cases e
 ·intro r a z;let⟨c,b,_⟩:=xK.mp a;let e:=w (λy=>by rw[y] at b;cases b)
  let⟨q,F,u,v⟩:=QT (d _ _ (YN B)).ne;let o:=s.2.2 _ (zR.mpr ⟨r,a,Z⟩) q.1 (zR.mpr ⟨q,xZ _ (by rw[u];exact zM ..),Z⟩)
  rw[z,<-v,e] at o;cases o
end
theorem D1{g:jk}{a:jn}(c:WF g a)(k:KT):∀(n i:Nat),i<a.length->(gd a i).h=n->∃ j d r,QZ a k n i=r++[(j,d)]/\j<a.length/\(gd a j).h=0/\WB (gd a j).rows k=WB (gd a i).rows k
 | 0,i,b,f=>⟨i,_,[],Z,b,f,Z⟩
 | n+1,i,b,f=>by
  let⟨p,q,_⟩:=MV c b ∅ k
  let⟨j,d,r,e,l,m,o⟩:=D1 c k n (V9 a k i) ∅ ∅
  exact⟨j,d,(i,Xa a k i)::r,by rw[QZ,e];rfl,l,m,by rw[o,ZJp c b ∅]⟩
inductive XM(e:jk)(kc ke CK:ak):Sp
 |mk{X:Zi}{d:ak}{c:Nat}{g:jf}{r:jr}{v:V}{N:ak->Prop}{o:jG}{H:Hp}{Q:VK}{E:XK}:Oj e kc ke H X d c g r->Xr N H o v->(o=none->∀ a,ZE H a->E (.ref CK) none a) ->
  (∀ k,o=some k->∀(a:Hp)(D:ak)(h:jf),(∀ b o,b≠d->H b=some o->a b=some o)->Xi kc ke a X d c (g++QJ (UX X.ts k r))->H D=none->D≠d->a D=some (.lst h)->jV a (WB (Ym X.ts r) k) h->Q (.ref D) a) ->
  XM e kc ke CK [.ref X.S,XB r,v] H Q E
abbrev B3:jp:=["shelf","root","key","steps","rows"]
theorem W7:ZB B3 zEf (Za Jk):=Zr
theorem ZH3{gt:jk}(F:Zh K "value_of" "value_of" Jk f fd)(DS:WU P w K mg kh 10 "steps_to" zEf (XL gt kc ke CK)):ZI P w K mg kh (Yn P w) 11 f fd zEf (XM gt kc ke CK):=by
 refine F.okD W7 (λvs H Q E h=>(by cases h;rfl)) (λa4 A a2 s H vs Q E hr h=>?_)
 let⟨L,hv,no,q⟩:=h;rename_i X lk c ls rn v N o
 let nd:=W7.nd;intro Xc;refine⟨_,ZM (Zg 3 nd (Mi OV DS hr (V4 (pv 0) (pv 1) (pv 2))))
  (ZM (Z3 (Y2 (Gb hr.units0) (pv 3) (Y3 Zj) (YW _)) (ZT (Zf (Y3 Zj))) Z4)
  (ZM (Zg 4 nd (Wf K (Wf K (YS K (pv 3) (QQ QV ZL)) ZL) ZL))
  (ZT (Zf (Vm [2] zFl rfl (Wj (pv 4)) (λ_ _ _ _ _=>Mo (Y2 (AX hr) (Wf K (pv 0) ZL) (pv 1) (YW _))) (λ_ _ _ _ _=>Wf K (pv 0) ZL) ⟨rfl,.inl rfl,rfl,trivial⟩))))),?_⟩
 refine⟨_,Z,_,Z,_,Z,.mk L hv no λk ek V S I U W nS a3 hS y=>?_⟩;exists _,Z,YQ;intro b nb;let g:=Zl nb (.lst []);let eb:=ZV (H:=V) (a:=b) (o:=.lst []);generalize upd V b (.lst [])=R at g eb⊢;let G:∀{D:ak},V D=none->H D=none/\D≠lk:=fun{D} d=>by
  let z:D≠lk:=λz=>by rw[z,W.sh.looks] at d;cases d
  refine⟨?_,z⟩
  cases e:H D with
  | none=>rfl
  | some o'=>rw[U _ _ z e] at d;cases d
 exists S,b,I,Z,Z,ZK.of (g _ _ hS),ZK.of eb,_,Z
 cases rn with
 | none=>
  let e0:I=[]:=by
   cases y;rfl
  subst e0;refine Z0 ⟨YQ,λD d=>?_⟩;let g2:=Zl d (.lst []);let⟨f1,f2⟩:=G (g.free d);exact q k ek _ D [] (λb o z e=>g2 _ _ (g _ _ (U b o z e))) ((W.same g).same g2) f1 f2 ZV .nil
 | some i=>
  let hi:=L.hi i Z;let⟨j,pl,rr,ew,hj,h0,es⟩:=D1 L.wf k _ i hi Z;let a0:UX X.ts k (some i)=rr++[(j,pl)]:=ew;rw[a0] at y;let ln:=Paired.length y;rw[zS,wY] at ln;let hu:I[I.length-1]? = some (I[I.length-1]'∅):=zV _
  let⟨p,ep,t,fv,et,ht,FA⟩:=Paired.ixR y hu;let e1:p=(j,pl):=by
   rw[<-ln,tL,xE (zY _),tY] at ep;exact(yU.inj ep).symm
  subst e1;rw[et] at hu;let ne:I.isEmpty=false:=by
   cases I with
   | nil=>simp at ln
   | cons _ _=>rfl
  rw[ne];let⟨tq,lq,J,rfl,e4,T,a5,e6,e7⟩:=FA.same g;let kr:=e6 h0;let lv:J.length=(gd X.ts j).rows.length:=by have:=kr.length;rw[<-this];exact zX _
  let l4:=((L.wf j _ (YN hj)).leaf h0).2;refine Zo ⟨_,Z,_,Z,.inl ⟨S,_,_,.ref t,Z,Z,ZK.of (g _ _ hS),JI (j:=1) (zY _) ∅ hu,t,_,_,.ref tq,Z,Z,Zv.of (g _ _ ht),Z,tq,_,_,.ref lq,Z,Z,Zv.of e4,Z,?_⟩⟩
  subst ek;let⟨kv,fk⟩:=hv;let t2:Zz H R:=λb xs e=>g _ _ (U b _ (ZY e L.sh.sh.looks) e);let UD:=kv.mono t2 _ _;refine⟨_,Z,lq,Z,⟨J,ZK.of T⟩,JH (n:=J.length) (λi z=>J[i]? = some z) (λn=>((gd X.ts j).rows.getD n rd).1.eqb k) (λD n C r=>ZE R r/\R D=none/\jV R (WB ((gd X.ts j).rows.take n) k) C) (XU ∅)
   (λD n C r O l=>⟨J,J[n],ZK.of (l.1 _ _ T),by simp[O]⟩) (λD n C r z H4 O l hy=>⟨hy.1,hy.2 J (ZK.of (l.1 _ _ T))⟩) (λD C r l=>⟨J,ZK.of (l.1 _ _ T),zY _⟩)
   (λD hD=>⟨Zl hD _,hD,.nil⟩) (λD n C r z M O hz l B hB=>?_) (λD n C r z M O hz hk l B hB=>?_) (λD n C r M O hk l=>?_) (λD C r M l=>?_)⟩
  ·let⟨m,d,x⟩:=l;let⟨a,vk,vv,u,rfl,Y,c1,c2⟩:=P3 kr hz;let a1:=((L.wf j _ (YN hj)).inn _ (zJ u)).1;exact⟨_,Z,a,_,_,vk,Z,Z,Zv.of (m _ _ Y),Z,_,Z,.mk _ _ (c1.sm m) (UD.sm m) (zN (Vf _ 3 a1) (by decide)) ⟨_,Z,hB r M ⟨m,d,x⟩⟩⟩
  ·let⟨m,d,x⟩:=l;let⟨a,vk,vv,u,rfl,Y,c1,c2⟩:=P3 kr hz;refine⟨_,Z,a,_,_,vv,Z,Z,Zv.of (m _ _ Y),Z,hB _ r M ⟨UK m d,d,?_⟩⟩;unfold WB at x⊢;rw[Nb _ u,aP hk,zC];exact x.append (.cons c2 .nil)
  ·let⟨m,d,x⟩:=l;let u:(gd X.ts j).rows[n]? = some ((gd X.ts j).rows.getD n rd):=by rw[zU,zV ∅];rfl
   exists m,d;unfold WB at x⊢;rw[Nb _ u,aO (by rw[hk];exact zW),yQ]
   exact x
  ·let⟨m,d,x⟩:=l;rw[yY ∅,es] at x
   let⟨f1,f2⟩:=G (g.free d);exact q k Z r D C (λb o z e=>m _ _ (g _ _ (U b o z e))) ((W.same g).same m) f1 f2 M (x.sm m)
abbrev Up(a:jo):Prop:=PX (a.map (·.1))
def My{a:jn}{s i:Nat}{t:ZQ}(h:s<a.length):gd (a.set s t) i=if i=s then t else gd a i:=by
 unfold gd;rw[zU,zU];by_cases z:i=s
 ·subst z;rw[aP rfl,sV h];rfl
 ·rw[aO z,sZ (Ne.symm z)]
def Pe(a:jn)(l m:jl):Zp a (l++m)=Zp a l++Zp a m:=vS
def QB(a:jn)(b:Nat)(m:jl):Zp a (b::m)=(gd a b).rows++Zp a m:=xJ ..
def P5{ts ts':jn}{l:jl}(h:∀ b∈l,(gd ts' b).rows=(gd ts b).rows):Zp ts' l=Zp ts l:=by
 induction l with
 | nil=>rfl
 | cons b l d=>rw[QB,QB,h b zM,d λc a=>h c (zK _ a)]
def ZLy{c:jn}{a:jl}(p:∀ b∈a,(gd c b).rows≠[])(g:0<a.length):(⟨((Z9 c a).getD 0 .d).h+1,((Z9 c a).getD 0 .d).lo,((Z9 c a).getD ((Z9 c a).length-1) .d).hi,((Z9 c a).map YT.m).sum⟩:YT)=Zt (YA c a):=by
 let B:(Z9 c a).length=a.length:=zX _;let f:∀ i,i<a.length->a.getD i 0∈a:=λi y=>by rw[zU,zV y];exact xL _
 let n:((Z9 c a).getD 0 .d).lo=(Zt (YA c a)).lo:=by
  rw[Qd g];let⟨r,o,e,k⟩:=QT (p _ (f 0 g));rw[k]
  cases a with
  | nil=>simp at g
  | cons b a=>
   unfold Zt YA Zp;let s:(gd c b).rows=r::o:=e;simp only[xJ,s];rfl
 let j:((Z9 c a).getD ((Z9 c a).length-1) .d).hi=(Zt (YA c a)).hi:=by
  rw[B,Qd ∅]
  let⟨o,r,e,k⟩:=La (p _ (f (a.length-1) ∅))
  rw[k];rcases qV a with z | ⟨q,b,z⟩
  ·rw[z] at g;simp at g
  ·rw[qW] at z;let u:a.getD (a.length-1) 0=b:=by rw[z];simp[zU]
   rw[u] at e;let x:Zp c a=Zp c q++o++[r]:=by rw[z];simp[Zp,e]
   unfold Zt YA;simp only[x];simp[zU]
 let w:((Z9 c a).map YT.m).sum=(Zt (YA c a)).m:=by
  have:∀ l:jl,((Z9 c l).map YT.m).sum=((Zp c l).length:Int):=λl=>by
   induction l with
   | nil=>rfl
   | cons b l A=>
    let t:Z9 c (b::l)=Zt (gd c b)::Z9 c l:=rfl;rw[t,QB,yW,List.sum_cons,A,zS];show ((gd c b).rows.length:Int)+_=_
    lia
  exact this a
 let v:((Z9 c a).getD 0 .d).h+1=(Zt (YA c a)).h:=by
  rw[Qd g];show ((gd c (a.getD 0 0)).h:Int)+1=(((gd c (a.getD 0 0)).h+1:Nat):Int)
  lia
 rw[n,j,w,v]
theorem MS{ts:jn}{bs:jl}{h:Nat}(a:∀ b∈bs,(gd ts b).rows≠[]/\(gd ts b).h=h)(t:2<=bs.length)(u:bs.length<=4)(p:Up (Zp ts bs)):over (Z9 ts bs)=some (Zt (YA ts bs)):=by
 let w:(Z9 ts bs).length=bs.length:=zX _;let c:=p;unfold Up PX Zp at c;rw[List.map_flatMap,pW] at c;rw[<-ZLy (λb h=>(a b h).1) ∅]
 refine ZL0 ∅ ∅ λj v=>?_
 let i:j<bs.length:=∅
 let k:j+1<bs.length:=∅
 rw[Qd i,Qd k];let d:bs[j]? = some (bs.getD j 0):=by rw[zU,zV i];rfl
 let e:bs[j+1]? = some (bs.getD (j+1) 0):=by rw[zU,zV k];rfl
 let f:=a _ (zJ d);let g:=a _ (zJ e);let q:=Hf c.2 (wL j) d e;let⟨r,x,l,n⟩:=La f.1;let⟨y,s,m,o⟩:=QT g.1;unfold Ql;rw[zP];exists ?_
 ·show (((gd ts (bs.getD j 0)).h:Int)==((gd ts (bs.getD (j+1) 0)).h:Int))=true;rw[f.2,g.2];simp
 ·rw[n,o];refine q _ ?_ _ ?_
  ·rw[l,zC];exact yJ _ (yZ.mpr Z)
  ·rw[m];exact zM ..
def Ar{f:jk}{e:jn}{c:jl}(g:∀ b∈c,YO f e b (gd e b))(i:Nat):((Z9 e c).getD i .d).fit:=by
 rcases xT i c.length with a | a
 ·rw[Qd a];refine Iy (g _ ?_);rw[zU,zV a];exact xL _
 ·rw[zU,sY (by unfold Z9;rw[zX];exact a)]
  exact ES
def YO.like{f:jk}{d a:jn}{i:Nat}{t:ZQ}(h:YO f d i t)(m:d.length<=a.length)(e:∀ b∈t.bs,gd a b=gd d b):YO f a i t:=by
 exists h.ne,h.up,h.inn,h.leaf;intro z;let⟨j,k,g,l⟩:=h.stem z;exists j,k,λb c=>⟨yV (g b c).1 m,by rw[e b c];exact(g b c).2⟩
 rw[l];exact(P5 λb c=>by rw[e b c]).symm
inductive QS:jn->jl->jn->Prop
 | nil {ts:jn}:QS ts [] ts
 | cons {ts cur:jn} {s:Nat} {r:jl}:s<ts.length->(∀ b∈(gd ts s).bs,b<ts.length)->(gd ts s).bs.length<=4->(∀ i,((Z9 ts (gd ts s).bs).getD i .d).fit)->over (Z9 ts (gd ts s).bs)=some (Zt (YA ts (gd ts s).bs))->QS (ts.set s (YA ts (gd ts s).bs)) r cur->QS ts (s::r) cur
inductive Yg(ts:jn)(r:Nat):jl->jl->jo->jo->Prop
 | root:Yg ts r [r] [] [] []
 | down {p c:Nat} {up ps l m:jl} {A B:jo}:Yg ts r (p::up) ps A B->(gd ts p).h≠0->(gd ts p).bs=l++c::m->c∉l->c∉m->Yg ts r (c::p::up) (l.length::ps) (A++Zp ts l) (Zp ts m++B)
section
variable{gt:jk}{ts:jn}{r:Nat}
theorem Yg.facts(t:WF gt ts)(s:r<ts.length):∀{b g:jl}{A B:jo},Yg ts r b g A B->∀{c:Nat}{a:jl},b=c::a->c<ts.length/\(∀ x∈a,x<ts.length/\(gd ts c).h<(gd ts x).h)/\(gd ts r).rows=A++(gd ts c).rows++B/\(gd ts c).h+a.length=(gd ts r).h:=by
 intro b g A B z
 induction z with
 | root=>
  intro c a e;cases e;exact⟨s,λx f=>(by cases f),by simp,Z⟩
 | down F q i D E v=>
  intro c a e;cases e;let⟨j,k,u,C⟩:=v Z;rename_i p c a g l m A B
  let⟨_,_,n,d⟩:=(t p _ (YN j)).stem q;let⟨o,w⟩:=n c (by rw[i];simp)
  refine⟨o,λx f=>?_,?_,by rw[zO];lia⟩
  ·rcases zQ.mp f with y | y
   ·rw[y];exact⟨j,∅⟩
   ·exact⟨(k x y).1,by have:=(k x y).2;lia⟩
  ·let d:(gd ts p).rows=Zp ts (gd ts p).bs:=d;rw[u,d,i,Pe,QB];simp only[yF]
def QI(ts:jn)(a:Nat->jl)(c:Nat->Nat):Prop:=∀ p,p<ts.length->∀ b∈(gd ts p).bs,a b=[p]/\c b=0
def Tp(a:Nat->jl)(b:Nat->Nat)(i:Nat):Prop:=a i=[]/\b i=1
def Yg.over{j:Nat->jl}{n:Nat->Nat}(w:WF gt ts)(v:r<ts.length)(h:QI ts j n)(C:Tp j n r){k o:jl}{A B:jo}(z:Yg ts r k o A B):∀{c:Nat}{f:jl},k=c::f->∀ b∈c::f,∀ p,p<ts.length->b∈(gd ts p).bs->p∈f:=by
 induction z with
 | root=>
  intro c f e b d p g a;cases e;rw[yZ.mp d] at a;have:=(h p g _ a).1;rw[C.1] at this;cases this
 | down D E t F G x=>
  intro c f e b d p g a;cases e;rename_i q c f o l m A B
  let u:=(D.facts w v Z).1;rcases zQ.mp d with y | y
  ·let s:=(h q u c (by rw[t];simp)).1
   let i:=(h p g _ a).1;rw[y,s] at i;cases i;exact zM
  ·exact zK _ (x Z b y p g a)
theorem ZN2(V:WF gt ts)(hr:r<ts.length):∀{H M:jl}{A B:jo},Yg ts r H M A B->∀{x:Nat}{j:jl}{cur:jn},H=x::j->cur.length=ts.length->(∀ i,(gd cur i).h=(gd ts i).h)->(∀ i,i≠x->(gd ts x).h<=(gd ts i).h->gd cur i=gd ts i)->(∀ b∈x::j,∀ i,i<ts.length->b∈(gd cur i).bs->i∈j)->(∀ i,i<ts.length->i∉j->YO gt cur i (gd cur i))->Up (A++(gd cur x).rows++B) ->
  ∃ c,QS cur j c/\c.length=ts.length/\WF gt c/\(∀ i,i∉j->gd c i=gd cur i)/\(∀ i,(gd c i).h=(gd ts i).h)/\(∀ i,(gd c i).bs=(gd cur i).bs)/\(gd c r).rows=A++(gd cur x).rows++B:=by
 intro H M A B z
 induction z with
 | root=>
  intro x j cur e f E D K F U;cases e;refine⟨cur,.nil,f,λi u e=>?_,λ_ _=>rfl,E,λ_=>rfl,by simp⟩
  let s:=(zE.mp e).1;rw[<-ZPh e];exact F i (by rw[<-f];exact s) (by simp)
 | down zp S w n1 n2 ih=>
  intro x j cur e f E D K F U;cases e;rename_i p x j M l m A B
  let⟨T,R,fr,_⟩:=zp.facts V hr Z;let⟨P,G,v,er⟩:=(V p _ (YN T)).stem S;let xh:=(v x (by rw[w];simp)).2
  let xl:=(v x (by rw[w];simp)).1
  let k:gd cur p=gd ts p:=D p (λy=>by rw[y] at xh;lia) ∅
  let O:∀ y∈p::j,(gd ts x).h<(gd ts y).h:=λy hy=>by
   rcases zQ.mp hy with q | q
   ·rw[q];lia
   ·have:=(R y q).2
    lia
  let C:∀ b∈l++m,gd cur b=gd ts b:=λb a=>by
   refine D b (λy=>?_) (by have:=(v b (by rw[w];rcases zA.mp a with q | q <;> simp[q])).2;lia)
   rw[y] at a;exact(zA.mp a).elim n1 n2
  let d:∀ b∈(gd ts p).bs,b<ts.length/\YO gt cur b (gd cur b)/\(gd cur b).h=(gd ts x).h/\b≠p:=λb a=>by
   let⟨X,q2⟩:=v b a;refine⟨X,F b X λy=>?_,by rw[E];lia,λy=>by rw[y] at q2;lia⟩
   have:=O b y
   lia
  let Y:Zp cur (gd ts p).bs=Zp ts l++(gd cur x).rows++Zp ts m:=by
   rw[w,Pe,QB,P5 (ts:=ts) (ts':=cur) (l:=l) λb a=>by rw[C b (xZ _ a)],P5 (ts:=ts) (ts':=cur) (l:=m) λb a=>by rw[C b (yJ _ a)],yF]
  let Q:A++Zp cur (gd ts p).bs++B=A++Zp ts l++(gd cur x).rows++(Zp ts m++B):=by rw[Y];simp only[yF]
  rw[<-Q] at U;let t:Up (Zp cur (gd ts p).bs):=by
   refine yA.sublist ?_ U;refine wX.map _ ?_;exact((uD A _).trans (uG _ B))
  let L:=MS (ts:=cur) (bs:=(gd ts p).bs) (λb a=>⟨(d b a).2.1.ne,(d b a).2.2.1⟩) P G t;let W:p<cur.length:=by rw[f];exact T
  let g:∀ i,gd (cur.set p (YA cur (gd ts p).bs)) i=if i=p then YA cur (gd ts p).bs else gd cur i:=λi=>My W
  let N:(YA cur (gd ts p).bs).h=(gd ts p).h:=by
   show (gd cur ((gd ts p).bs.getD 0 0)).h+1=_;have:(gd ts p).bs.getD 0 0∈(gd ts p).bs:=by rw[zU,zV ∅];exact xL _
   have:=(d _ this).2.2.1
   lia
  let e2:Up (A++(gd (cur.set p (YA cur (gd ts p).bs)) p).rows++B):=by rw[g,aP rfl];exact U
  let⟨c,c1,c2,c3,c4,c5,c6,c7⟩:=ih (cur:=cur.set p (YA cur (gd ts p).bs)) Z (by rw[wM];exact f) (λi=>by
    rw[g];split
    ·rename_i y;rw[y];exact N
    ·exact E i) (λi n h=>by rw[g,aO n];exact D i (λy=>by rw[y] at h;lia) ∅) (λb a i s h=>by
    rw[g] at h;let o:b∈(gd cur i).bs:=by
     split at h
     ·rename_i y;rw[y,k];exact h
     ·exact h
    rcases zQ.mp (K b (zK _ a) i s o) with y | y
    ·rw[y,k] at o;have:=(v b o).2;rcases zQ.mp a with q | q
     ·rw[q] at this;lia
     ·have:=(R b q).2;lia
    ·exact y) (λi s n=>by
    rw[g];split
    ·refine⟨λy=>?_,t,λr' I=>?_,λy=>absurd y (by rw[N];exact S),λ_=>⟨P,G,λb a=>⟨by rw[wM,f];exact(d b a).1,?_⟩,?_⟩⟩
     ·let y:Zp cur (gd ts p).bs=[]:=y;rw[Y] at y;have:=(d x (by rw[w];simp)).2.1.ne
      simp at y;exact this y.2.1
     ·let⟨b,a,J⟩:=xK.mp I;exact(d b a).2.1.inn r' J
     ·rw[g,aO (d b a).2.2.2,N,(d b a).2.2.1];exact xh
     ·exact(P5 λb a=>by rw[g,aO (d b a).2.2.2]).symm
    ·rename_i y
     refine(F i s λq=>(zQ.mp q).elim y n).like (by rw[wM];exact zY _) λb a=>?_
     rw[g,aO];intro q;rw[q] at a;exact(zQ.mp (K p (zK _ zM) i s a)).elim y n) e2
  exists c,.cons W (λb a=>by rw[k] at a;rw[f];exact(d b a).1) (by rw[k];exact G) (by rw[k];exact Ar λb a=>(d b a).2.1) (by rw[k];exact L) (by rw[k];exact c1),c2,c3,λi n=>?_,c5,λi=>?_
  ·rw[c4 i λy=>n (zK _ y),g,aO λy=>n (by rw[y];exact zM)]
  ·rw[c6 i,g];split
   ·rename_i y;rw[y,k];rfl
   ·rfl
  ·rw[c7,g,aP rfl,<-Q];rfl
structure Of(gt:jk)(ts cur:jn)(r c:Nat)(up:jl)(t:ZQ)(T:jo):Prop where
 wf:WF gt cur
 len:cur.length=ts.length
 old:∀ i,i∉c::up->gd cur i=gd ts i
 at_:gd cur c=t
 hh:∀ i,(gd cur i).h=(gd ts i).h
 sh:∀ i,i≠c->(gd cur i).bs=(gd ts i).bs
 rows:(gd cur r).rows=T
theorem LE{m:Nat->jl}{s:Nat->Nat}(e:WF gt ts)(j:r<ts.length)(q:QI ts m s)(v:Tp m s r){c:Nat}{k I:jl}{A B:jo}(z:Yg ts r (c::k) I A B){t:ZQ}(J:t.h=(gd ts c).h)(l:YO gt ts c t)(U:Up (A++t.rows++B)):
  ∃ d,QS (ts.set c t) k d/\Of gt ts d r c k t (A++t.rows++B):=by
 let⟨H,p,_,_⟩:=z.facts e j Z;let g:∀ i,gd (ts.set c t) i=if i=c then t else gd ts i:=λi=>My H
 let u:∀ b∈t.bs,(gd ts b).h<(gd ts c).h:=λb a=>by
  by_cases y:t.h=0
  ·rw[(l.leaf y).1] at a;cases a
  ·have:=((l.stem y).2.2.1 b a).2
   lia
 let G:c∉k:=λy=>by have:=(p c y).2;lia
 let⟨d,w,x,C,o,D,E,F⟩:=ZN2 e j z (cur:=ts.set c t) Z (by rw[wM]) (λi=>by
   rw[g];split
   ·rename_i y;rw[y];exact J
   ·rfl) (λi n _=>by rw[g,aO n]) (λb a i f h=>by
   rw[g] at h;split at h
   ·have:=u b h;rcases zQ.mp a with y | y
    ·rw[y] at this;lia
    ·have:=(p b y).2;lia
   ·exact z.over e j q v Z b a i f h) (λi f n=>by
   rw[g];split
   ·rename_i K
    rw[K];refine(l.like (by rw[wM];exact zY _) λb a=>?_)
    rw[g,aO (show ¬ b=c from λy=>by have:=u b a;rw[y] at this;lia)]
   ·refine(e i _ (YN f)).like (by rw[wM];exact zY _) λb a=>?_
    rw[g,aO (show ¬ b=c from λy=>n (z.over e j q v Z c zM i f (y ▸ a)))]) (by rw[g,aP rfl];exact U)
 exists d,w,C,x,λi n=>?_,?_,D,λi n=>?_
 ·rw[o i λy=>n (zK _ y),g,aO λy=>n (by rw[y];exact zM)]
 ·rw[o c G,g,aP rfl]
 ·rw[E i,g,aO n]
 ·rw[F,g,aP rfl]
theorem Yg.keep{a:jn}(v:WF gt ts)(I:r<ts.length){g k:jl}{A B:jo}(z:Yg ts r g k A B):∀{p:Nat}{f:jl},g=p::f->(∀ i∈f,(gd a i).h=(gd ts i).h/\(gd a i).bs=(gd ts i).bs)->(∀ b,b<ts.length->(gd ts p).h<=(gd ts b).h->b∉p::f->(gd a b).rows=(gd ts b).rows)->Yg a r g k A B:=by
 induction z with
 | root=>exact λ_ _ _=>.root
 | down M s j x C J=>
  intro c f e t u;cases e;rename_i q c f k l m A B
  let⟨H,F,_,_⟩:=M.facts v I Z;let⟨_,_,o,_⟩:=(v q _ (YN H)).stem s;let N:=(o c (by rw[j];simp)).2
  let⟨K,L⟩:=t q zM;let w:∀ b∈l++m,(gd a b).rows=(gd ts b).rows:=λb d=>by
   let⟨D,E⟩:=o b (by rw[j];rcases zA.mp d with y | y <;> simp[y])
   refine u b D ∅ λy=>?_
   rcases zQ.mp y with y | y
   ·rw[y] at d;exact(zA.mp d).elim x C
   ·rcases zQ.mp y with y | y
    ·rw[y] at E;lia
    ·have:=(F b y).2;lia
  have:=Yg.down (J Z (λi G=>t i (zK _ G)) λb d h n=>u b d ∅ λy=>(zQ.mp y).elim (λy=>by rw[y] at h;lia) n) (by rw[K];exact s) (L.trans j) x C
  rw[P5 (l:=l) λb d=>w b (xZ _ d),P5 (l:=m) λb d=>w b (yJ _ d)] at this;exact this
end
end Tw
namespace L2
open PySem PySem.Spec PyProof.Rows
section
variable{kg:jq}{σ:St}{H:Hp}
def ZRZ:HO->Prop
 | .dK _=>True
 | .frz _ (.dK _)=>True
 | _=>False
def ZF.re{d:ak}{v u:HO}(I:ZF X kg σ H s)(e:H d=some v)(h:ZRZ v)(B:∀ o x,X.H₀ d≠some (.frz o x))(g:Zb X.prog X.w H s.heap d u):ZF X kg σ (upd H d u) s:=by
 let f:∀{b:ak},H b=none->b≠d:=fun{b} q z=>by rw[z,e] at q;cases q
 let C:∀{b y:ak},H b=some (.own y)->b≠d:=fun{b y} q z=>by rw[z,e] at q;cases q;exact h
 let j:∀{b:ak}{a:jf},H b=some (.tup a)->b≠d:=fun{b a} q z=>by rw[z,e] at q;cases q;exact h
 let A:∀{b:ak}{a:js},H b=some (.tbl a)->b≠d:=fun{b a} q z=>by rw[z,e] at q;cases q;exact h
 refine⟨I.ok,I.os,I.bare,⟨I.base.keep,I.base.slot,λb o q n t=>?_,I.base.there,λb a q=>?_,λb o x q=>?_,λb D q=>?_⟩,I.loc,I.cell,?_,λx c q=>?_,λp r=>?_,λb o q=>?_,I.len⟩
 ·let z:=I.base.free b o q n t;rw[ZR (f z)];exact z
 ·let z:=I.base.tups b a q;rw[ZR (j z)];exact z
 ·let z:=I.base.frzs b o x q;rw[ZR (show b≠d from λy=>B o x (y ▸ q))];exact z
 ·let⟨m,z⟩:=I.base.tbls b D q;exact⟨m,by rw[ZR (A z)];exact z⟩
 ·rw[ZR (f I.free)];exact I.free
 ·rw[ZR (f (I.freeC x c q))];exact I.freeC x c q
 ·let⟨E,l,F⟩:=I.pin p r;exact⟨E,by rw[ZR (f l)];exact l,F⟩
 ·let k:∀{b o},Zb X.prog X.w H s.heap b o->Zb X.prog X.w (upd H d u) s.heap b o:=λx=>x.stay (λ_ _ _ q=>q) (λc q=>by rw[ZR (C q)];exact q) λc a q=>by rw[ZR (j q)];exact q
  by_cases i:b=d
  ·subst i;rw[ZV] at q;cases q;exact k g
  ·rw[ZR i] at q;exact k (I.hok b o q)
def ZF.nofrz{d:ak}{a:List (Zc×V)}(I:ZF X kg σ H s)(e:H d=some (.dK a)):∀ o x,X.H₀ d≠some (.frz o x):=λo x q=>by
 have:=I.base.frzs d o x q;rw[e] at this;cases this
inductive Mg(t:TS)(D:YM)(σ:L2.St)(H:Hp):Prop
 |mk(d a:_)(_:H d=some (.dK a))(_:t ⟨λb c=>∃ o u,c d=some (.frz o (.dK u))/\D.nx b (upd c d (.dK u)),λ_ _=>False,λ_ _=>False,λ_ _=>False⟩ σ H)
def ZN1{g:aD}{t:TS}(h:PS X g t):PS X g (Mg t):=by
 rintro kg s σ H D I ⟨d,i,e,q⟩;refine Z2 (h kg s σ H _ I q) λf m z=>?_;let j:=I.nofrz e
 cases f with
 | next=>
  let⟨a,l,b,o,u,c,k⟩:=z;exact⟨a,_,b.re c trivial j (b.hok d _ c).2,k⟩
 | brk=>let⟨_,_,_,z⟩:=z;exact z.elim
 | cont=>let⟨_,_,_,z⟩:=z;exact z.elim
 | ret u=>let⟨_,_,_,_,_,z⟩:=z;exact z.elim
def Nx(d:ak)(o:aI)(a:List (Zc×V)):It:=
 ⟨λi H=>H d=some (.frz o (.dK a))/\i<a.length,λi H x b=>b=H/\∃ p,a[i]? = some p/\x=kV p.1,λi H=>H d=some (.frz o (.dK a))/\a.length<=i⟩
theorem DY{a:Type}:∀{c:List (a×V)}{d:List (a×aj)}{i:Nat}{p:a×V},KV c d->c[i]? = some p->∃ u,d[i]? = some (p.1,u)
 | _,_,_,_,.nil,e=>by simp at e
 | _,_,0,p,.cons (b:=b) r _,e=>by simp at e;subst e;exact⟨b.2,by rw[r.1];rfl⟩
 | _,_,i+1,p,.cons _ t,e=>by
  let⟨u,h⟩:=DY (i:=i) (p:=p) t (by simpa using e)
  exact⟨u,by simpa using h⟩
def ZRI{k:Zc}{v:aj}(h:Ov k v=true):ZN (kV k) v:=by
 rcases PJ h with ⟨i,t,rfl,rfl⟩ | ⟨x,t,rfl,rfl⟩
 ·exact⟨t,Z⟩
 ·exact⟨t,Z⟩
def Fx{P:am}{w:ax}{h:aE}{d:ak}{o:aI}{a:List (Zc×V)}{j:Array DictEntry}{i:Nat}(k:o.data=.dict j i)(x:Zb P w H h d (.frz o (.dK a))):∃ b,KV a b/\h.DictAt (VQ P w) d b i:=by
 let⟨e,_,_,b,r,n,m,l,g,c,f,q⟩:=x;rw[e] at g;cases g;rw[k] at f;cases f;exact⟨b,r,o,j,e,c,k,q⟩
def HX{c:Type}{a:List (c×V)}{b:List (c×aj)}(h:KV a b):a.length=b.length:=Paired.length h
def B8{P:am}{w:ax}{K:zZ}{tg:Expr}{d:ak}{o:aI}{j:List (Zc×V)}{U:Array DictEntry}{N:Nat}(Q:o.data=.dict U N)(g:ak):Vo P w K tg (Nx d o j) [g] g (λi h=>h.IsKeyIter g d i j.length N) where
 mem:=by simp
 obj:=λi h a b f=>by
  let e:b=g:=by simpa using f
  subst e;let⟨o,e,c,d⟩:=a;exact⟨o,e,λv z=>by rw[d] at z;cases z⟩
 keep:=λi h m a k=>a.at λo e=>k g (by simp) o e
 item:=by
  intro X F L D O i kg s σ H E I n a G;subst F L D;let⟨J,q⟩:=G;let⟨vs,r,t⟩:=Fx Q (I.hok d _ J);obtain⟨p,R⟩:∃ p,j[i]? = some p:=⟨_,zV q⟩;let⟨u,hu⟩:=DY r R;let⟨x,y,Y,A,B,C⟩:=n g (by simp)
  rw[HX r] at a⊢;refine wpAny_pyNext_dict_item a t hu λM m hk l sb=>?_;let S:ZF X kg σ H { s with heap:=m }:=I.turned (t':=s.toks) (λb o f e=>(sb.2 b f).trans e) x y A B C;exact⟨M,Z,letGo_keyiter (s':={ s with heap:=m }) l ⟨_,H,S,ZRI hk,⟨Z,p,R,Z⟩,l,λb f=>(n b f).1⟩⟩
 done:=by
  intro X F L D O i kg s σ H E I n a G;subst F L D;let⟨J,q⟩:=G;let⟨vs,r,t⟩:=Fx Q (I.hok d _ J);let⟨x,y,Y,A,B,C⟩:=n g (by simp)
  rw[HX r] at a q;exact wpAny_pyNext_dict_end (I.ok.hd O) a t (List.getElem?_eq_none_iff.mpr q) λm T=>⟨Z,I.turned (t':=s.toks) (λb o f e=>T b o f e) x y A B C⟩
 self:=λ_ _ _ _ _ a h=>wpAny_pyIter_keyiter a h
inductive Op(R:It->Hp->Prop)(x:V)(b:Hp):Prop
 |mk(d a:_)(_:x=.ref d)(_:b d=some (.dK a))(_:∀ o,R (Nx d o a) (upd b d (.frz o (.dK a))))
def ZP3(b:TE):TI:=λσ H R=>b σ H λx a=>Op R x a
def BY{C l:Expr}{m:TE}(z:PE X l m):PI X C l (ZP3 m):=by
 intro kg s σ H R I h;refine Z7 (z kg s σ H _ I h) λv a x F f B A=>?_;let⟨d,j,rfl,e,q⟩:=A;cases B;let⟨G,E,D,r,o,t,p,g,c,k,rest⟩:=id (f.hok d _ e);let n:a.heap.DictAt (VQ X.prog X.w) d D p:=⟨o,t,g,c,k,rest⟩;refine wpAny_pyIter_dict E n ?_;rw[<-HX r];let i:=f.re (u:=.frz o (.dK j)) e trivial (f.nofrz e) ⟨g,f.hok d _ e⟩;refine⟨a.heap.objs.size,[a.heap.objs.size],_,_,_,Z,i.kept (t':=a.toks) λb o e=>zB _ e,B8 k _,⟨_,yO _ Z,Z,Z⟩,λb y=>?_,q o⟩;let e:b=a.heap.objs.size:=by simpa using y
 subst e;exact i.fpOk (zY _) (i.hok.fresh (zY _))
end
def ED{X:Cx}{a:jC}{b:ExceptHandler}{e:List ExceptHandler}{t:TS}{d:aJ}(h:X5 X.nox a t):PS X (.Try a (b::e) [] [] d) t:=by
 intro c s i H D I g;refine wpAny_Try_except ?_;exact af (h c s i H D (I.wish _) g) (λf j q=>by
  cases f with
  | next=>exact wpAny_execs_nil q.unwish
  | brk=>exact q.unwish
  | cont=>exact q.unwish
  | ret u=>exact q.unwish) λ_ _ z=>False.elim z
end L2
namespace Tw
open PySem PySem.Spec L2 PyProof.Rows
variable{kc ke CS CT CH CK CP CB:ak}
inductive Rd(n:Nat)(av:Nat->jl)(ho:Nat->Nat):Nat->jl->Prop
 | top {i:Nat}:i<n->Tp av ho i->Rd n av ho i [i]
 | up {i j:Nat} {l:jl}:i<n->av i=[j]->ho i=0->Rd n av ho j l->Rd n av ho i (i::l)
def Rd.lt{n:Nat}{b:Nat->jl}{c:Nat->Nat}{i:Nat}{l:jl}(h:Rd n b c i l):i<n:=by
 cases h with
 | top a=>exact a
 | up a=>exact a
def Yg.rd{s:jk}{a:jn}{r:Nat}{d:Nat->jl}{f:Nat->Nat}(j:WF s a)(g:r<a.length)(u:QI a d f)(y:Tp d f r){h k:jl}{A B:jo}(z:Yg a r h k A B):∀{c:Nat}{b:jl},h=c::b->Rd a.length d f c (c::b):=by
 induction z with
 | root=>
  intro c b e;cases e;exact .top g y
 | down n t i w x v=>
  intro c b e;cases e;rename_i p c b k l m A B
  let⟨o,q⟩:=u p (n.facts j g Z).1 c (by rw[i];simp)
  exact .up ((n.down t i w x).facts j g rfl).1 o q (v Z)
def HC(l:jl)(b:Nat):Xq (iN (l++[b])) (-1)=some (V.int (b:Nat)):=by
 refine JI (j:=1) (zY _) (by simp[iN]) ?_
 simp[iN]
abbrev Jw:Stmt:=WC (top 65) 23
abbrev Jj:Stmt:=WC (top 65) 9
inductive Yk(kc ke:ak):Sp
 |mk{S d j:ak}{g:jn}{c:Nat->jl}{e:Nat->Nat}{h:jt}{b:List (Zc×V)}{k:jf}{i:Nat}{l:jl}{H:Hp}{Q:VK}{E:XK}:Z5 kc ke H S d j g c e h b k->Rd g.length c e i l->l.length<=900->(∀(r:ak)(a:Hp),ZE H a->H r=none->a r=some (.lst (iN l))->Q (.ref r) a)->Yk kc ke [.ref S,.int (i:Nat)] H Q E
theorem Vr:ZB ["self","number","road","above"] zEa (Za Jw):=Zr
inductive Gy(S:ak)(n:Nat)(av:Nat->jl)(ho:Nat->Nat)(l:jl)(i:Nat)(H:Hp)(r:ak):Nat->L2.St->Hp->Prop
 |mk{j:Nat}{rr lr:jl}{x3:jg}{H':Hp}:Rd n av ho j lr->l=rr++lr->ZE H H'->H r=none->H' r=some (.lst (iN (rr++[j])))->Gy S n av ho l i H r lr.length [some (.ref S),some (.int (i:Int)),some (.ref r),x3] H'
theorem ZIe(F:Zh K "road_up" "Shelf.road_up" Jw f fd)(L:Yq K mg kc ke)(DH:ZD P w K mg kh ZO 2 kc "holders" zEa (Wa kc ke λ_ q us=>.int ((us.length:Nat)+(q:Nat):Int)))(DT:ZD P w K mg kh ZO 1 kc "twig_of" zEa (Zm kc)):ZI P w K mg kh (Yn P w) 3 f fd zEa (Yk kc ke):=by
 refine F.okD Vr (λvs H Q E h=>(by cases h;rfl)) (λa4 A M s H vs Q E I h=>?_)
 let⟨R,rd,l9,k⟩:=h;rename_i S d X N p q o u Y i l
 let nd:=Vr.nd;let J:=I.to 1;intro Xc;refine⟨_,ZM (Zg 2 nd (Y3 (ZU (pv 1)))) (ZT (Nf Gs (XG PF)
  (ZM (Z3 (Y2 OH (YH (E:=E0) (pv 0) L.cS DH I YG (ZU (YS K (pv 2) (QQ QV ZL)))) ZL (YW _)) VX Z4)
  (ZM (Zg 3 nd (Xz (YH (E:=E0) (pv 0) L.cS DT J YG (ZU (YS K (pv 2) (QQ QV ZL)))) rfl))
  (ZM (Z3 (Y2 (Gb I.units0) (pv 3) (Y3 Zj) (YW _)) (ZT (Zf (pv 2))) Z4)
  (ZT (XS (Ug xP wQ wP Q0 (pv 2) (ZU (YS K (pv 3) ZL)))))))))),?_⟩
 exists _,Z,YQ;intro r n;exists Gy S N.length p q l i H r,⟨_,.mk (rr:=[]) (x3:=none) rd Z (Zl n _) n ZV⟩;rintro _ _ H1 (@⟨b,rr,lr,x3,_,e,C,s1,n,D⟩);refine⟨_,Z,Z0 ⟨_,λ_ _ z=>z,?_⟩⟩;let B:=e.lt;let m:=R.same s1;let⟨T,V⟩:=m.sh.self;let W:=m.tw b B;let⟨dt,hx⟩:=W.tw.self;let o1:(p b).length+q b=1:=by
  cases e with
  | top _ t=>rw[t.1,t.2];rfl
  | up _ y O=>rw[y,O];rfl
 let lI:(iN (p b)).length=(p b).length:=zX _;refine⟨_,Z,S,T,_,Z,V,Z,_,Z,1,Z,.inl ⟨r,_,_,.int (b:Nat),Z,Z,ZK.of D,HC _ _,S,d,X,N.length,u,Y,(b:Int),_,_,_,_,_,_,Z,⟨m.sh,m.val b B,W.tw⟩,?_⟩⟩;exists _,_,Z,Z,_,Z;rw[show decide (((iN (p b)).length:Nat)+(q b:Nat) > (1:Int))=false from aK (by rw[lI];lia)]
 refine Zo ⟨_,Z,S,T,_,Z,V,Z,_,Z,1,Z,.inl ⟨r,_,_,.int (b:Nat),Z,Z,ZK.of D,HC _ _,S,d,X,N.length,u,Y,(b:Int),.ref (o.getD b .d).x,Z,m.sh,m.val b B,(o.getD b .d).x,ke,dt,_,.ref (o.getD b .d).ab,Z,hx,L.cT,L.nab,Z,?_⟩⟩;exists _,Z,YQ;intro U G;let v:=Zl G (.lst []);let a:=v _ _ W.tw.above;let c:=v _ _ D;let g:=s1.trans v;exists (o.getD b .d).ab,U,_,Z,Z,ZK.of a,ZK.of ZV,_,Z;generalize upd H1 U (.lst [])=H3 at v a c g⊢
 cases e with
 | top _ t=>
  rw[t.1,show (iN ([]:jl)).isEmpty=true from rfl];exact Z0 ⟨_,Z,k _ H3 g n (by rw[C];exact c)⟩
 | up a0 y O a3=>
  rename_i j lq
  rw[y] at a⊢;let ll:=congrArg wO C;rw[zS,zO] at ll;rw[show (iN [j]).isEmpty=false from rfl];refine Zo ⟨_,Z,.inl ⟨Z,_,ZK.of c⟩,_,Z,.inl ⟨(o.getD b .d).ab,_,0,.int (j:Nat),Z,Z,ZK.of a,VD (j:=0) Z,r,_,.int (j:Nat),Z,Z,c,XU (by simp[iN];lia),?_⟩⟩
  refine⟨lq.length,by simp,.mk (rr:=rr++[b]) a3 (by rw[C,yF];rfl) (UK g n) n ?_⟩
  rw[ZV];simp[iN]
inductive Xh(kc ke:ak):Sp
 |mk{S d j:ak}{g:jn}{c:Nat->jl}{e:Nat->Nat}{h:jt}{a:List (Zc×V)}{k:jf}{i:Nat}{l:jl}{H:Hp}{Q:VK}{E:XK}:Z5 kc ke H S d j g c e h a k->Rd g.length c e i l->l.length<=900->(∀(b:Hp),ZE H b->Q (.bl true) b)->Xh kc ke [.ref S,.int (i:Nat)] H Q E
theorem ZNg:ZB zEa zEa (Za Jj):=Zr
def Ol{X:Cx}:QP (Yn P w) X E0:=λ_ _ _ _ _ _ _ h=>by
 let⟨_,_,_,_,_,_,h⟩:=h;exact h.elim
def ZLH(F:Zh K "alone" "Shelf.alone" Jj f fd)(L:Yq K mg kc ke)(b:ZD P w K mg kh (Yn P w) 3 kc "road_up" zEa (Yk kc ke)):ZI P w K mg kh ZO 4 f fd zEa (Xh kc ke):=by
 refine F.ok ZNg (λm H Q E h=>(by cases h;rfl)) (λd A a s H m Q E i h=>?_)
 let⟨R,rd,j,k⟩:=h;intro n;exists _,ZM (ED (ZT (XS (YH (E:=E0) (pv 0) L.cS b i Ol (ZU (pv 1)))))) (ZT (Zf PF));let⟨e,g⟩:=R.sh.self;exact⟨_,Z,_,e,_,Z,g,Z,_,Z,.mk R rd j λr c l _ _=>k c l⟩
abbrev JX:Stmt:=WC (top 65) 24
abbrev Jl:Stmt:=WC (top 65) 25
abbrev kI(i:Nat):Zc:=Sum.inl (i:Int)
theorem ZQr{i j:Nat}(h:i≠j):kI i≠kI j:=λz=>h (by have:=Sum.inl.inj z;lia)
structure Q7(H:Hp)(cur:jn)(done:jl)(lkv:List (Zc×V)):Prop where
 keys:lkv.map (·.1)=done.map kI
 at_:∀ i∈done,∃ v,Yo lkv (kI i)=some v/\YB H (Zt (gd cur i)) v
theorem Q7.no{H:Hp}{d:jn}{a:jl}{c:List (Zc×V)}(h:Q7 H d a c){b:Nat}(f:b∉a):Yo c (kI b)=none:=by
 cases z:Yo c (kI b) with
 | none=>rfl
 | some v=>
  have:=FH z;rw[h.keys] at this;let⟨i,g,e⟩:=zR.mp this;exact absurd (show b∈a by
   have:i=b:=by have:=Sum.inl.inj e;lia
   rw[<-this];exact g) f
def Q7.mono{H d:Hp}{b:jn}{a:jl}{c:List (Zc×V)}(h:Q7 H b a c)(m:Zz H d):Q7 d b a c:=⟨h.keys,λi f=>by
 let⟨v,e,k⟩:=h.at_ i f;exact⟨v,e,k.mono m⟩⟩
def Q7.push{H:Hp}{c b:jn}{a:jl}{f:List (Zc×V)}{s:Nat}{v:V}(h:Q7 H c a f)(j:s∉a)(e:∀ i∈a,gd b i=gd c i)(k:YB H (Zt (gd b s)) v):Q7 H b (a++[s]) (Y1 f (kI s) v):=by
 exists by rw[FL v (h.no j),zC,h.keys,zC];rfl
 intro i g;rw[Cn];by_cases z:i=s
 ·subst z;rw[aP rfl];exact⟨v,Z,k⟩
 ·rw[aO (ZQr z)];let d:i∈a:=(zA.mp g).elim id λy=>absurd (yZ.mp y) z;rw[e i d];exact h.at_ i d
def QS.inv{g j:jn}{s:Nat}{r:jl}(h:QS g (s::r) j):s<g.length/\(∀ b∈(gd g s).bs,b<g.length)/\(gd g s).bs.length<=4/\(∀ i,((Z9 g (gd g s).bs).getD i .d).fit)/\over (Z9 g (gd g s).bs)=some (Zt (YA g (gd g s).bs))/\QS (g.set s (YA g (gd g s).bs)) r j:=by
 cases h with | cons a b c d e f=>exact⟨a,b,c,d,e,f⟩
inductive Xl(kc ke:ak):Sp
 |mk{S d m r:ak}{c:jn}{k:Nat->jl}{l:Nat->Nat}{j:jt}{g:List (Zc×V)}{o:jf}{n:Nat}{rest:jl}{v:V}{t:ZQ}{a:jn}{H:Hp}{Q:VK}{E:XK}:
  Z5 kc ke H S d m c k l j g o->n<c.length->(n::rest).Nodup->(∀ i∈rest,i<c.length/\(gd c i).h≠0)->rest.length<=800->H r=some (.lst (iN (n::rest)))->QS (c.set n t) rest a->YB H (Zt t) v ->
  (∀(e:Hp)(D:ak)(b:List (Zc×V)),ZE H e->H D=none->e D=some (.dK b)->Q7 e a (n::rest) b->Q (.ref D) e)->Xl kc ke [.ref S,.ref r,v] H Q E
abbrev Bm:jp:=["self","road","label","labels","stem","branches"]
theorem U9:ZB Bm zE5 (Za JX):=Zr
inductive FD(S r D q:ak)(n:Nat)(v:V)(ts:jn)(rest:jl)(cur:jn)(H:Hp):Nat->L2.St->Hp->Prop
 |mk{k:Nat}{H2:Hp}{x y:jg}{c2:jn}{lkv:List (Zc×V)}:ZE H H2->H2 q=some (.lst (iN rest))->H2 D=some (.dK lkv)->QS c2 (rest.drop k) cur->c2.length=ts.length->(∀ i,i∉n::rest.take k->gd c2 i=gd ts i)->Q7 H2 c2 (n::rest.take k) lkv ->
  FD S r D q n v ts rest cur H k [some (.ref S),some (.ref r),some v,some (.ref D),x,y] H2
theorem ZLg(F:Zh K "labels_up" "Shelf.labels_up" JX f fd)(L:Yq K mg kc ke)(DT:ZD P w K mg kh ZO 1 kc "twig_of" zEa (Zm kc))(DL:ZD P w K mg kh ZO 2 kc "label" zEa (Wa kc ke λtg _ _=>tg))(DO:ZA P w K mg kh 9 "label_over" zFn Xf):
  ZI P w K mg kh ZO 10 f fd zE5 (Xl kc ke):=by
 refine F.ok U9 (λvs H Q E h=>(by cases h;rfl)) (λi7 A i5 s H vs Q E hr h=>?_)
 let⟨R,hn,i4,i2,i6,c4,ch,hv,k2⟩:=h;rename_i S d lk r l av ho as c9 ls n rest v t e4
 let nd:=U9.nd;let hu:=LX hr;let i0:=hr.mono (show 1<=9 by lia)
 let i1:=hr.mono (show 2<=9 by lia)
 intro Xc;refine⟨_,ZM (LY (i:=3) nd rfl (Or.inr rfl) (Bn (ZKx (YS K (pv 1) ZL) (pv 2) ZMe) rfl rfl (by intro z;cases z) (by decide)))
  (ZM (UE PassesOwn.never rfl (Wj (Qe Qo (pv 1) (QN ZL) Pq)) (UC 4 nd)
   (ZM (Zg 5 nd (Xz (YH (E:=E0) (pv 0) L.cS DT i0 YG (ZU (pv 4))) rfl))
   (ZT (D7 hu (pv 3) (pv 4) (Ze DO hr (ZU (Vm [3,0] ["labels","self"] rfl (Wj (pv 5)) (λ_ _ _ _ _=>UV) (λ_ _ _ _ _=>ZK0 hu (pv 1) (pv 0) (YH (E:=E0) (pv 2) L.cS DL i1 YG (ZU (pv 0))) ⟨Z,Z,Z,Z⟩) ⟨rfl,.inl rfl,rfl,rfl,.inl rfl,rfl,trivial⟩))) rfl))))
  (ZT (Zf (pv 3)))),?_⟩
 intro D nD;let g1:=Zl nD (.dK []);refine⟨_,Z,.inl ⟨r,_,0,.int (n:Nat),Z,Z,ZK.of (g1 _ _ c4),VD (j:=0) Z,_,Z,?_⟩⟩;exists ZV,[(kI n,v)],Z,(by show 1<=15;lia)
 let e0:NR [] [(kI n,v)]=[(kI n,v)]:=rfl;rw[e0,NM];let s0:ZE H (upd H D (.dK [(kI n,v)])):=Zl nD _;let X:upd H D (.dK [(kI n,v)]) D=some (.dK [(kI n,v)]):=ZV;generalize upd H D (.dK [(kI n,v)])=H1 at s0 X⊢;exists _,Z,_,Z,r,_,Z,ZK.of (s0 _ _ c4);intro q nq;let a4:VH (iN (n::rest)) (some 1) none=iN rest:=by
  unfold VH;let e1:HT.sIx (iN (n::rest)).length 0 (some 1)=1:=by
   unfold HT.sIx;simp[iN]
   try lia
  let e2:HT.sIx (iN (n::rest)).length (iN (n::rest)).length none=(iN (n::rest)).length:=rfl;rw[e1,e2];simp[iN];exact yY (by simp)
 rw[a4];let g2:=Zl nq (.lst (iN rest));let hq:upd H1 q (.lst (iN rest)) q=some (.lst (iN rest)):=ZV;let a6:=g2 _ _ X;let s1:=s0.trans g2;let qD:q≠D:=λz=>by rw[z,X] at nq;cases nq
 let c8:=hv.mono (ZE.tups s1);generalize upd H1 q (.lst (iN rest))=H2 at g2 hq a6 s1 c8⊢;let gn:∀ i,gd (l.set n t) i=if i=n then t else gd l i:=λi=>My hn
 refine⟨q,Z,⟨_,ZK.of hq⟩,Pa (K:=K) (a:=q) (xs:=iN rest) (FD S r D q n v l rest e4 H) (.mk s1 hq a6 ch (by rw[wM]) (λi m=>by rw[gn,aO λz=>m (by rw[z];exact zM)]) ⟨rfl,λi m=>?_⟩) (λi σ H3 _ B=>by let⟨_,O,_⟩:=B;exact ZK.of O) ?_ ?_⟩
 ·rw[yZ.mp m,gn,aP rfl];exact⟨v,by rw[QU rfl],c8⟩
 ·rintro k u σ H3 a0 ⟨s3,O,M,ec,a1,T,Y⟩;unfold iN at a0;rw[zH] at a0;let⟨g,es,rfl⟩:=xX.mp a0;rename_i x y C o
  let hk:k<rest.length:=(zE.mp es).1;let eg:rest[k]=g:=(zE.mp es).2;let ed:rest.drop k=g::rest.drop (k+1):=by rw[vY hk,eg]
  let et:rest.take (k+1)=rest.take k++[g]:=by rw[yR,es];rfl
  let⟨e3,h0⟩:=i2 g (zJ es);let a3:g∉n::rest.take k:=λz=>by
   let nn':=i4;let e2:n::rest=(n::rest.take k)++g::rest.drop (k+1):=by
    show n::rest=n::(rest.take k++g::rest.drop (k+1));rw[<-ed,xQ]
   rw[e2,uY] at nn';exact nn'.2.2 g z g zM Z
  let e6:=T g a3;rw[ed] at ec;let⟨c1,c3,b4,c5,c6,c7⟩:=ec.inv;rw[e6] at c3 b4 c5 c6 c7;let R3:=R.same s3;let⟨dS,hS⟩:=R3.sh.self;let W:=R3.tw g e3;let⟨dt,hx⟩:=W.tw.self;let⟨us,J,_,V⟩:=W.things;let V:=V h0;subst V;exists _,Z,S,dS,_,Z,hS,Z,_,Z,S,d,lk,l.length,c9,ls,(g:Int),.ref (as.getD g .d).x,Z,R3.sh,R3.val g e3,(as.getD g .d).x,ke,dt,_,.ref (as.getD g .d).th,Z,hx,L.cT,L.nth,Z;exists _,Z,(as.getD g .d).th,Z,⟨_,ZK.of J⟩;refine Ue (n:=(gd l g).bs.length) (λi z=>(iN (gd l g).bs)[i]? = some z) (λG i ys p=>ZE H3 p/\H3 G=none/\Yi p ((Z9 C (gd l g).bs).take i) ys) (XU ∅)
   (λG i ys p m B=>⟨_,.int ((gd l g).bs[i]:Nat),ZK.of (B.1 _ _ J),by simp[iN,m]⟩) (λG i ys p z H5 m B hy=>⟨hy.1,hy.2 _ (ZK.of (B.1 _ _ J))⟩) (λG ys p B=>⟨_,ZK.of (B.1 _ _ J),by simp[iN]⟩)
   (λG a7=>⟨Zl a7 _,a7,Z,λi u e=>by simp at e⟩) (λG i ys p z I i8 m hz B RR e7=>?_) (λG us p I B=>?_)
  ·let⟨s4,a2,N⟩:=B;let ez:z=.int ((gd l g).bs[i]:Nat):=by
    unfold iN at hz;rw[zH,zV m] at hz;exact(yU.inj hz).symm
   subst ez;let c0:(gd l g).bs[i]∈(gd l g).bs:=xL _;let a5:(Z9 C (gd l g).bs)[i]? = some (Zt (gd C (gd l g).bs[i])):=by unfold Z9;rw[zH,zV m];rfl
   generalize (gd l g).bs[i]=b at c0 a5⊢;let bl:b<l.length:=by rw[<-a1];exact c3 b c0
   let R4:=R3.same s4;let⟨e5,e8⟩:=R4.sh.self;let Wb:=R4.tw b bl;let a8:=s4 _ _ M;exists _,Z,D,Z,.inl ⟨_,.inl a8⟩,_,Z,_,Z,S,e5,_,Z,e8,Z,_,Z,S,d,lk,l.length,c9,ls,(b:Int),_,_,_,_,_,_,Z,⟨R4.sh,R4.val b bl,Wb.tw⟩,Yo o (kI b),Xv.k (k:=kI b) a8;let tD:∀ vv,Zz p (upd p G (.lst (ys++[vv]))):=λvv c xs e=>by rw[ZR (ZY e I)];exact e
   let i3:YB p (Zt (gd C b)) ((Yo o (kI b)).getD (.ref (as.getD b .d).tg)):=by
    by_cases c:b∈n::rest.take k
    ·let⟨v',e',k'⟩:=Y.at_ b c;rw[e'];exact k'.mono (ZE.tups s4)
    ·rw[Y.no c,T b c];exact Wb.tag
   refine e7 _ p I ⟨UK s4 a2,a2,?_⟩;rw[yR,a5];exact(N.snoc i3).mono (tD _)
  let⟨s4,a2,N⟩:=B;let ll:(Z9 C (gd l g).bs).length=(gd l g).bs.length:=zX _;rw[yY ∅] at N
  exists G,us,_,_,Z,I,N,c5,c6;intro H5 vv s5 e9;let U:=s4.trans s5;let a9:=U _ _ M;let i9:o.length<=801:=by
   have:=congrArg wO Y.keys;rw[zX,zX,zO,yP] at this
   lia
  exists _,Z,_,Z,D,_,Z,QM.k (k:=kI g) a9 (XU ∅)
  let sD:ZE H (upd H5 D (.dK (Y1 o (kI g) vv))):=UK (s3.trans U) nD;let tD:Zz H5 (upd H5 D (.dK (Y1 o (kI g) vv))):=λc xs e=>by rw[ZR (ZY e a9)];exact e
  let gs:∀ i,gd (C.set g (YA C (gd l g).bs)) i=if i=g then YA C (gd l g).bs else gd C i:=λi=>My c1
  refine .mk sD (by rw[ZR qD];exact U _ _ O) ZV c7 (by rw[wM];exact a1) (λi m=>?_) ?_
  ·rw[et,<-vH] at m;rw[gs,aO λz=>m (by rw[z];simp)]
   exact T i λz=>m (xZ _ z)
  ·rw[et,<-vH];refine((Y.mono (ZE.tups U)).mono tD).push a3 (λi m=>?_) ?_
   ·rw[gs,aO (show ¬ i=g from λz=>a3 (z ▸ m))]
   ·rw[gs,aP rfl];exact(GV e9).mono tD
 ·rintro σ H3 ⟨s3,O,M,ec,a1,T,Y⟩;rename_i x y C o
  rw[show (iN rest).length=rest.length from zX _,yY (zY _)] at Y;rw[show (iN rest).length=rest.length from zX _,vQ (zY _)] at ec;cases ec;exact⟨_,Z,k2 H3 D o s3 nD M Y⟩
end Tw
namespace L2
open PySem PySem.Spec PyProof.Rows
theorem ZK4{d:ak}{o:aI}{a:List (Zc×V)}{g:TG}{r:TS}{D:YM}{b:St}{H:Hp}(c:Nat->St->Hp->Prop)(u:c 0 b H)(z:∀ i b H,i<=a.length->c i b H->H d=some (.frz o (.dK a)))(A:∀ i p b H,a[i]? = some p->c i b H->g (kV p.1) b H λj l=>r { D with nx:=c (i+1),ct:=c (i+1),bk:=D.nx } j l)(v:∀ b H,c a.length b H->D.nx b H):
  ∃ W:Nat->Nat->St->Hp->Prop,(∃ m,W 0 m b H)/\∀ i m b H,W i m b H ->
   ((Nx d o a).stop i H/\D.nx b H)\/((Nx d o a).go i H/\∃ N:St->Hp->Prop,(∀ h f,N h f->∃ n,n<m/\W (i+1) n h f)/\∀ x f,(Nx d o a).yld i H x f->g x b f λj l=>r { D with nx:=N,ct:=N,bk:=D.nx } j l):=by
 exists λi m b H=>m=a.length-i/\i<=a.length/\c i b H,⟨a.length,by simp,zD _,u⟩
 rintro i m b H ⟨rfl,w,p⟩;let q:=z i b H w p;by_cases k:i<a.length
 ·refine .inr ⟨⟨q,k⟩,c (i+1),λh f B=>⟨a.length-(i+1),∅,Z,k,B⟩,λx f y=>?_⟩
  let⟨e,C,s,t⟩:=y;subst e t;exact A i C b _ s p
 ·let e:i=a.length:=∅
  subst e;exact .inl ⟨⟨q,zY _⟩,v b H p⟩
end L2
namespace Tw
open PySem PySem.Spec L2 PyProof.Rows
variable{kc ke CS CT CH CK CP CB:ak}
inductive Md(ke:ak)(H:Hp)(x:Nat->ak)(e d:Nat->V)(a:Nat->ak)(c:Nat->Nat)(i:Nat):Prop
 |mk(b:_)(_:H (x i)=some (.ins ke b (Wm (e i) (d i) (a i) (c i))))
inductive Xw(kc ke:ak):Sp
 |mk{S d lk D:ak}{N:Nat}{kvs lkv:List (Zc×V)}{ls:jf}{rd:jl}{x ab:Nat->ak}{th tg vl:Nat->V}{ho:Nat->Nat}{H:Hp}{Q:VK}{E:XK}:
  XV kc H S d lk N kvs ls->(∀ i∈rd,Yo kvs (kI i)=some (.ref (x i))/\x i≠S)->(∀ i∈rd,Md ke H x th tg ab ho i)->H D=some (.dK lkv)->D≠d->lkv.map (·.1)=rd.map kI->rd.Nodup->(∀ i∈rd,Yo lkv (kI i)=some (vl i))->(∀ i∈rd,∀ j∈rd,i≠j->x i≠x j) ->
  (∀ H',(∀ c o,(∀ i∈rd,c≠x i)->H c=some o->H' c=some o)->(∀ i∈rd,Md ke H' x th vl ab ho i)->Q .non H')->Xw kc ke [.ref S,.ref D] H Q E
abbrev Ap:jp:=["self","labels","number","twig"]
theorem Q6:ZB Ap zFh (Za Jl):=Zr
inductive Cy(ke S D:ak)(o:aI)(lkv:List (Zc×V))(rd:jl)(x ab:Nat->ak)(th tg vl:Nat->V)(ho:Nat->Nat)(H:Hp):Nat->L2.St->Hp->Prop
 |mk{k:Nat}{y z:jg}{H2:Hp}:(∀ c o,(∀ i∈rd,c≠x i)->c≠D->H c=some o->H2 c=some o)->H2 D=some (.frz o (.dK lkv))->(∀ i∈rd.take k,Md ke H2 x th vl ab ho i)->(∀ i∈rd.drop k,Md ke H2 x th tg ab ho i) ->
  Cy ke S D o lkv rd x ab th tg vl ho H k [some (.ref S),some (.ref D),y,z] H2
def AG(F:Zh K "give_labels" "Shelf.give_labels" Jl f fd)(L:Yq K mg kc ke)(DT:ZD P w K mg kh ZO 1 kc "twig_of" zEa (Zm kc)):ZI P w K mg kh ZO 2 f fd zFh (Xw kc ke):=by
 refine F.ko Q6 λa9 A a8 s H vs Q E hr h=>?_;let⟨R,hv,hl,I,a6,hk,a7,a3,hx,k⟩:=h;rename_i S d lk D N a5 m ls rd x ab th tg vl ho
 let nd:=Q6.nd;let hu:=LX hr;let ll:m.length=rd.length:=by have:=congrArg wO hk;simpa using this
 intro Xc;refine⟨_,ZT (ZN1 (UE PassesOwn.never rfl (BY (pv 1)) (UC 2 nd)
  (ZM (Zg 3 nd (YH (E:=E0) (pv 0) L.cS DT hr YG (ZU (pv 2))))
  (ZT (Ui (pv 3) (Ft hu (pv 1) (pv 2)) rfl))))),?_⟩
 let⟨⟨dS,hS⟩,hd,u⟩:=R;let ins:∀ i∈rd,∃ g V,H (x i)=some (.ins ke g V):=λi a=>by
  let⟨g,e⟩:=hl i a;exact⟨g,_,e⟩
 let nD:∀ i∈rd,x i≠D:=λi a=>by
  let⟨g,V,e⟩:=ins i a;exact ZY e I
 exists D,m,I,_,Z,D,m,Z,I;intro o;refine ZK4 (Cy ke S D o m rd x ab th tg vl ho H) (.mk (λc X _ n e=>by rw[ZR n];exact e) ZV (λi a=>by simp at a) (λi a=>?_)) (λi σ Y _ hP=>by let⟨_,h2,_,_⟩:=hP;exact h2) ?_ ?_
 ·let⟨g,e⟩:=hl i a;exact⟨g,by rw[ZR (nD i a)];exact e⟩
 ·rintro i p σ Y hp ⟨G,r,t,B⟩;let a:i<rd.length:=by rw[<-ll];exact(zE.mp hp).1
  let ep:p.1=kI rd[i]:=by
   have:=congrArg (λl=>l[i]?) hk;simp only[zH,hp,zV a] at this;exact yU.inj this
  let er:rd[i]? = some rd[i]:=zV a;let W:rd.drop i=rd[i]::rd.drop (i+1):=vY a;let et:rd.take (i+1)=rd.take i++[rd[i]]:=by rw[yR,er];rfl
  let U:rd=rd.take i++rd[i]::rd.drop (i+1):=by rw[<-W,xQ]
  let J:rd[i]∈rd:=xL _;let v:=a7;rw[U,uY,xM] at v;rw[ep];generalize rd[i]=b at W et U J v⊢;let nS:∀ j∈rd,S≠x j:=λj q=>(hv j q).2.symm;let T:∀(c:ak)(o:HO),H c=some o->(∀ C g V,o≠.ins C g V)->∀ j∈rd,c≠x j:=λc o e n j q=>by
   let⟨g,V,e2⟩:=ins j q;exact ZY e e2 (n _ _ _)
  let M:=G _ _ nS (ZY hS I) hS;let a0:=G _ _ (T _ _ hd (by intro _ _ _ z;cases z)) a6.symm hd
  let a2:=G _ _ (T _ _ u (by intro _ _ _ z;cases z)) (ZY u I) u
  let⟨g,a4⟩:=B b (by rw[W];exact zM)
  let a1:Xv Y D (.int (b:Nat)) (some (vl b)):=.inl ⟨m,kI b,.inr ⟨o,r⟩,Z,(a3 b J).symm⟩;exists _,Z,S,dS,_,Z,M,Z,_,Z,S,d,lk,N,a5,ls,(b:Int),.ref (x b),Z,⟨⟨dS,M⟩,a0,a2⟩,(hv b J).1;exists _,Z,_,Z,D,vl b,Z,a1,_,Z,x b,ke,g,_,Z,a4,L.cT,L.ntg,yT Z;let ne:∀ j∈rd,j≠b->x j≠x b:=λj q n=>hx j q b J n;refine .mk (λc X n1 n2 e=>by rw[ZR (n1 b J)];exact G c X n1 n2 e) (by rw[ZR (nD b J).symm];exact r) (λj q=>?_) (λj q=>?_)
  ·rw[et] at q;by_cases z:j=b
   ·subst z;exact⟨g,ZV⟩
   ·let O:j∈rd.take i:=(zA.mp q).elim id λy=>absurd (yZ.mp y) z;let⟨dj,ej⟩:=t j O;exact⟨dj,by rw[ZR (ne j (rA O) z)];exact ej⟩
  ·let z:j≠b:=λz=>v.2.1.1 (z ▸ q);let⟨dj,ej⟩:=B j (by rw[W];exact zK _ q)
   exact⟨dj,by rw[ZR (ne j (vC q) z)];exact ej⟩
 ·rintro σ Y ⟨G,r,t,B⟩;rw[ll,yY (zY _)] at t;refine⟨o,m,r,k _ (λc X n e=>?_) λi a=>?_⟩
  ·by_cases z:c=D
   ·subst z;rw[ZV,<-e,I]
   ·rw[ZR z];exact G c X n z e
  ·let⟨g,e⟩:=t i a;exact⟨g,by rw[ZR (nD i a)];exact e⟩
def P8(a:jt)(rd:jl)(n b:Nat)(c:Nat->ak):jt:=(yL a.length).map λi=>if i∈rd then ⟨(a.getD i .d).x,if i=n then b else (a.getD i .d).th,c i,(a.getD i .d).ab⟩ else a.getD i .d
def Nt{a:jt}{rd:jl}{n own:Nat}{tg:Nat->ak}{i:Nat}(h:i<a.length):(P8 a rd n own tg).getD i .d=if i∈rd then ⟨(a.getD i .d).x,if i=n then own else (a.getD i .d).th,tg i,(a.getD i .d).ab⟩ else a.getD i .d:=by
 unfold P8;rw[zU,zH,List.getElem?_range h];rfl
structure Mm(H:Hp)(n:Nat)(as as':jt):Prop where
 x:∀ i:Nat,i<n->(as'.getD i .d).x=(as.getD i .d).x
 ab:∀ i:Nat,i<n->(as'.getD i .d).ab=(as.getD i .d).ab
 th:∀ i:Nat,i<n->(as'.getD i .d).th=(as.getD i .d).th\/H (as'.getD i .d).th=none
section
variable{kc ke:ak}{H H':Hp}{S d lk:ak}{ts cur:jn}{rd:jl}{av:Nat->jl}{ho:Nat->Nat}{as:jt}{kvs:List (Zc×V)}{ls us:jf}{n own:ak}{tg:Nat->ak}
def BD(R:Z5 kc ke H S d lk ts av ho as kvs ls)(b:cur.length=ts.length)(hn:n∈rd)(t:∀ i∈rd,i<ts.length)(J:H own=none)(L:∀ c o,(∀ i∈rd,c≠(as.getD i .d).x)->H c=some o->H' c=some o)(sh:∀ i,i≠n->(gd cur i).bs=(gd ts i).bs)(hh:∀ i,(gd cur i).h=(gd ts i).h)(E:∀ i,i∉rd->gd cur i=gd ts i)(D:∀ i∈rd,i≠n->(gd ts i).h≠0)(A:∀ i∈rd,Md ke H' (λi=>(as.getD i .d).x) (λi=>.ref (if i=n then own else (as.getD i .d).th)) (λi=>.ref (tg i)) (λi=>(as.getD i .d).ab) ho i)(N:∀ i∈rd,YB H' (Zt (gd cur i)) (.ref (tg i)))(B:H' own=some (.lst us))(h0:(gd cur n).h=0->jV H' (YD (gd cur n).rows) us)(h1:(gd cur n).h≠0->us=iN (gd cur n).bs):
  Z5 kc ke H' S d lk cur av ho (P8 as rd n own tg) kvs ls/\Mm H ts.length as (P8 as rd n own tg):=by
 let⟨⟨dS,hS⟩,hd,V⟩:=R.sh;let ins:∀ i:Nat,i<ts.length->∃ l us,H (as.getD i .d).x=some (.ins ke l us):=λi a=>by
  let⟨l,e⟩:=(R.tw i a).tw.self;exact⟨l,_,e⟩
 let k:∀ c o,(∀ C l fs,o≠.ins C l fs)->H c=some o->H' c=some o:=λc o n e=>L c o (λi a=>by
  let⟨l,us,I⟩:=ins i (t i a);exact ZY e I (n _ _ _)) e
 let m:Zz H H':=λc xs e=>k c _ (by intro _ _ _ z;cases z) e
 let u:∀ i:Nat,i<ts.length->i<as.length:=λi a=>by rw[R.len];exact a
 let F:∀ i:Nat,i<ts.length->∃ us,H (as.getD i .d).th=some (.lst us):=λi a=>by
  let⟨us,e,_⟩:=(R.tw i a).things;exact⟨us,e⟩
 let s:∀ i:Nat,i<ts.length->H (as.getD i .d).ab=some (.lst (iN (av i))):=λi a=>(R.tw i a).tw.above;let v:∀ i:Nat,i<ts.length->((P8 as rd n own tg).getD i .d).x=(as.getD i .d).x:=λi a=>by rw[Nt (u i a)];split <;> rfl
 let f:∀ i:Nat,i<ts.length->((P8 as rd n own tg).getD i .d).ab=(as.getD i .d).ab:=λi a=>by rw[Nt (u i a)];split <;> rfl
 let g:∀ i:Nat,i<ts.length->((P8 as rd n own tg).getD i .d).th=if i=n then own else (as.getD i .d).th:=λi a=>by
  rw[Nt (u i a)];by_cases z:i∈rd
  ·rw[aP z]
  ·rw[aO z,aO (λy=>z (by rw[y];exact hn))]
 let r:∀ i:Nat,i<ts.length->own≠(as.getD i .d).th/\own≠(as.getD i .d).ab:=λi a=>by
  let⟨us,e⟩:=F i a;exact⟨(Zd e J).symm,(Zd (s i a) J).symm⟩
 let O:own≠lk:=(Zd V J).symm;refine⟨⟨⟨⟨dS,by rw[b];exact L _ _ (λi a=>(R.own i (t i a)).1.symm) hS⟩,k _ _ (by intro _ _ _ z;cases z) hd,k _ _ (by intro _ _ _ z;cases z) V⟩,by rw[b];exact R.keys,λi a=>by rw[v i (b ▸ a)];exact R.val i (b ▸ a),by unfold P8;simp[R.len,b],λi a=>?_,λi a=>?_,λi j a p w=>?_⟩,v,f,λi a=>?_⟩
 ·rw[b] at a;let W:=R.tw i a;by_cases z:i∈rd
  ·let e:=Nt (rd:=rd) (n:=n) (own:=own) (tg:=tg) (u i a);rw[aP z] at e;let⟨l,U⟩:=A i z;exists ?_,?_
   ·rw[e];exact⟨⟨l,U⟩,k _ _ (by intro _ _ _ z;cases z) (s i a)⟩
   ·rw[e];by_cases y:i=n
    ·subst y;rw[aP rfl];exact⟨us,B,h0,h1⟩
    ·rw[aO y];let⟨T,e1,I,e3⟩:=W.things;let M:=D i z y;rw[hh i,sh i y];exact⟨T,k _ _ (by intro _ _ _ z;cases z) e1,λq=>absurd q M,e3⟩
   ·rw[e];exact N i z
  ·let e:=Nt (rd:=rd) (n:=n) (own:=own) (tg:=tg) (u i a);rw[aO z] at e;rw[e];let⟨l,U⟩:=W.tw.self;let G:=W.frame m (λo e=>L _ _ (λj p=>(R.two i j a (t j p) λy=>z (by rw[y];exact p)).1) e) (λo e=>k _ _ (by let⟨us,I⟩:=F i a;have:=e.symm.trans I;cases this;intro _ _ _ z;cases z) e) (λo e=>k _ _ (by have:=e.symm.trans (s i a);cases this;intro _ _ _ z;cases z) e)
   exists G.tw,?_
   ·rw[E i z];exact G.things
   ·rw[E i z];exact G.tag
 ·rw[b] at a;rw[v i a,f i a,g i a];let⟨X,Y,o3,o4⟩:=R.own i a;by_cases y:i=n
  ·rw[aP y];exact⟨X,Y,O,(r i a).2.symm⟩
  ·rw[aO y];exact⟨X,Y,o3,o4⟩
 ·rw[b] at a p;rw[v i a,f i a,g i a,v j p,f j p,g j p];let⟨P,Q,t3,t4⟩:=R.two i j a p w;by_cases y:i=n
  ·let K:j≠n:=λz=>w (y.trans z.symm);rw[aP y,aO K];exact⟨P,Q,t3,(r j p).1⟩
  ·rw[aO y];by_cases K:j=n
   ·rw[aP K];exact⟨P,Q,(r i a).2.symm,(r i a).1.symm⟩
   ·rw[aO K];exact⟨P,Q,t3,t4⟩
 ·rw[g i a];by_cases y:i=n
  ·rw[aP y];exact .inr J
  ·rw[aO y];exact .inl Z
end
end Tw
namespace L2
open PySem PySem.Spec PyProof.Rows
def ZNP{a:jB}{b:je}(h:ZP (a.map V.int) b):PySem.W.kf_ints b=true/\∀(i:Nat)(n:Int),a[i]? = some n->∃ t,b[i]? = some (.int n t):=by
 refine⟨?_,λi n e=>?_⟩
 ·induction a generalizing b with
  | nil=>cases h;rfl
  | cons n a d=>
   cases h with
   | cons r t=>
    let⟨f,rfl⟩:=r;rw[PySem.W.kf_ints];exact d t
 ·let⟨u,c,t,rfl⟩:=h.get (x:=.int n) (i:=i) (by rw[zH,e];rfl)
  exact⟨t,c⟩
inductive PR(x:V)(c:jf)(H:Hp)(Q:VK):Prop
 |mk(l:ak)(a:jB)(b:Int)(_:x=.ref l)(_:c=[.int b])(_:H l=some (.lst (a.map V.int)))(_:b∈a)(_:Q .non (upd H l (.lst ((a.erase b).map V.int))))
theorem Bq:Lj X "list.remove" PR:=by
 intro D s Y H x V v U Q I R P h;let⟨l,d,b,rfl,rfl,C,J,q⟩:=h;cases R;let⟨u,rfl,O⟩:=P.one;let⟨S,rfl⟩:=O;let⟨z,c,n,r,T,e⟩:=I.lstM C;let⟨N,o⟩:=ZNP r;let B:=List.idxOf_lt_length_of_mem J;let g:c.length=d.length:=by have:=r.length;rw[zX] at this;exact this.symm
 let MZ:∀(m:Nat)(j:m<c.toArray.size)(k:Int),d[m]? = some k->isInt b c.toArray[m]=decide (k=b):=λm j k K=>by
  let⟨t,G⟩:=o m k K;have:c.toArray[m]? = some (Value.int k t):=by simpa using G
  rw[wI j] at this;rw[yU.inj this];show (k==b)=_;rw[wC];simp
 let f:d.idxOf b<c.toArray.size:=by rw[zL,g];exact B
 let M:c.toArray.size<=sizeLine:=by
  rw[zL,g];have:=z;rw[zX] at this;exact this
 refine call_meets F.slot_list_remove ⟨_,e,Z⟩ F.entry_list_remove (F.args_list_remove_2 _ _) (MeetsSeq.list_remove l c.toArray n (.int b S) (isInt b) (λy L=>PySem.W.kf_eq N y (by simpa using L)) (d.idxOf b) f ?_ (λm j w=>?_) M) ⟨e,?_⟩
 ·rw[MZ _ f b (by rw[zV B,List.getElem_idxOf B])]
  exact aM Z
 ·let A:m<d.length:=∅
  rw[MZ m j d[m] (zV A)];have:=List.not_of_lt_findIdx (p:=(· == b)) (xs:=d) (i:=m) w;exact aK λz=>by rw[z] at this;simp at this
 ·let E:d.erase b=d.take (d.idxOf b)++d.drop (d.idxOf b+1):=by rw[List.erase_eq_eraseIdx_of_idxOf rfl,qA]
  refine⟨.non,_,I.lset (its':=c.take (d.idxOf b)++c.drop (d.idxOf b+1)) C e ?_ ?_ ?_,Z,q⟩
  ·apply tP.mp;rw[pZ,qA]
  ·rw[E,zC,sQ,sR];exact(r.take _).append (r.drop _)
  ·rw[zX];have:=List.length_erase_le (l:=d) (a:=b);rw[zX] at z
   lia
end L2
namespace Tw
open PySem PySem.Spec L2 PyProof.Rows
variable{kc ke CS CT CH CK CP CB:ak}
section
variable{kc ke:ak}{H H':Hp}{S d lk:ak}{ts:jn}{av:Nat->jl}{ho:Nat->Nat}{as:jt}{kvs:List (Zc×V)}{ls:jf}{b:Nat}
def Z5.set1(R:Z5 kc ke H S d lk ts av ho as kvs ls)(j:b<ts.length){g:Nat->jl}{h:Nat->Nat}(D:∀ c,c≠b->g c=av c)(E:∀ c,c≠b->h c=ho c)(J:∃ w,H' (as.getD b .d).x=some (.ins ke w (Wm (.ref (as.getD b .d).th) (.ref (as.getD b .d).tg) (as.getD b .d).ab (h b))))(I:H' (as.getD b .d).ab=some (.lst (iN (g b))))(k:∀ c o,c≠(as.getD b .d).x->c≠(as.getD b .d).ab->H c=some o->H' c=some o):Z5 kc ke H' S d lk ts g h as kvs ls:=by
 let⟨⟨v,t⟩,q,u⟩:=R.sh;let l:=R.tw b j;let⟨y,a⟩:=l.tw.self;let f:=l.tw.above;let⟨N,s,B,C⟩:=l.things;let m:Zz H H':=λc W e=>k c _ (ZY e a) (ZY e f) e;refine⟨⟨⟨v,k _ _ (R.own b j).1.symm (ZY t f) t⟩,k _ _ (ZY q a) (ZY q f) q,k _ _ (ZY u a) (R.own b j).2.1.symm u⟩,R.keys,R.val,R.len,λi p=>?_,R.own,R.two⟩;by_cases z:i=b
 ·subst z;exact⟨⟨J,I⟩,⟨N,k _ _ (ZY s a) (R.own i p).2.2.2.symm s,λz=>(B z).mono m _ _,C⟩,l.tag.mono m⟩
 ·let n:=R.tw i p;let⟨L,M,T,U⟩:=R.two i b p j z;let⟨O,P,K,Q⟩:=R.two b i j p (Ne.symm z);let⟨A,r⟩:=n.tw.self;let⟨V,F,_⟩:=n.things;let G:=n.frame m (λo e=>k _ _ L (ZY r f) e) (λo e=>k _ _ (ZY F a) K.symm e) (λo e=>k _ _ (ZY n.tw.above a) M e);refine⟨?_,G.things,G.tag⟩;rw[D i z,E i z];exact G.tw
end
abbrev Ie:Stmt:=WC (top 65) 22
theorem ZJs(l:jl)(b:Nat):(l.map λb:Nat=>(b:Int)).erase (b:Int)=(l.erase b).map λb:Nat=>(b:Int):=by
 induction l with
 | nil=>rfl
 | cons a l c=>
  by_cases z:a=b
  ·subst z;simp
  ·let d:¬ ((a:Int)=(b:Int)):=∅
   rw[yW,List.erase_cons_tail (by simpa using d),List.erase_cons_tail (by simpa using z),c]
   rfl
noncomputable def PH(b:jl)(c:Nat)(a:Nat->jl):Nat->jl:=λi=>if i∈b then (a i).erase c else a i
def PD(b:jl)(a:Nat->Nat):Nat->Nat:=λi=>if i∈b then a i+1 else a i
inductive Yu(kc ke:ak):Sp
 |mk{S d n l:ak}{h:jn}{j:Nat->jl}{m:Nat->Nat}{a:jt}{g:List (Zc×V)}{p:jf}{e:jl}{k:Nat}{H:Hp}{Q:VK}{E:XK}:
  Z5 kc ke H S d n h j m a g p->H l=some (.lst (iN e))->e.Nodup->(∀ b∈e,b<h.length/\k∈j b)->(∀ b:Nat,b<h.length->l≠(a.getD b .d).ab) ->
  (∀ i:Hp,(∀ c o,(∀ b:Nat,b<h.length->c≠(a.getD b .d).x/\c≠(a.getD b .d).ab)->H c=some o->i c=some o)->Z5 kc ke i S d n h (PH e k j) (PD e m) a g p->Q .non i)->Yu kc ke [.ref S,.int (k:Nat),.ref l] H Q E
theorem WT:ZB GS zEi (Za Ie):=Zr
inductive Hu(kc ke S d lk l:ak)(ts:jn)(av:Nat->jl)(ho:Nat->Nat)(as:jt)(kvs:List (Zc×V))(ls:jf)(bs:jl)(st:Nat)(H:Hp):Nat->L2.St->Hp->Prop
 |mk{i:Nat}{x y:jg}{H2:Hp}:(∀ c o,(∀ b:Nat,b<ts.length->c≠(as.getD b .d).x/\c≠(as.getD b .d).ab)->H c=some o->H2 c=some o)->Z5 kc ke H2 S d lk ts (PH (bs.take i) st av) (PD (bs.take i) ho) as kvs ls ->
  Hu kc ke S d lk l ts av ho as kvs ls bs st H i [some (.ref S),some (.int (st:Nat)),some (.ref l),x,y] H2
def ZGO(F:Zh K "give_back" "Shelf.give_back" Ie f fd)(L:Yq K mg kc ke)(DT:ZD P w K mg kh ZO 1 kc "twig_of" zEa (Zm kc)):ZI P w K mg kh ZO 2 f fd zEi (Yu kc ke):=by
 refine F.ko WT λa4 A a3 s H vs Q E hr h=>?_;let⟨R,hl,N,W,a1,k⟩:=h;rename_i S d lk l ts q m g T ls j I
 let nd:=WT.nd;intro Xc;refine⟨_,ZT (UE PassesOwn.never rfl (Wj (pv 2)) (UC 3 nd)
  (ZM (Zg 4 nd (YH (E:=E0) (pv 0) L.cS DT hr YG (ZU (pv 3))))
  (ZM (Co (pv 4) ZL ZPe)
  (ZT (XS (Ug xP PySem.F.slot_list_remove PySem.F.type_list_remove Bq (Xz (pv 4) rfl) (ZU (pv 1)))))))),?_⟩
 refine⟨_,Z,l,Z,⟨_,ZK.of hl⟩,Pa (K:=K) (a:=l) (xs:=iN j) (Hu kc ke S d lk l ts q m g T ls j I H)
  (.mk (λc o _ e=>e) (by
   let e1:PH [] I q=q:=funext λi=>aO (by simp)
   let e2:PD [] m=m:=funext λi=>aO (by simp)
   rw[show j.take 0=[] from rfl,e1,e2];exact R)) ?_ ?_ ?_⟩
 ·rintro i σ v _ ⟨O,R2⟩;refine ZK.of (O _ _ (λb W=>⟨?_,a1 b W⟩) hl);let⟨dx,J⟩:=(R.tw b W).tw.self;exact ZY hl J
 ·rintro i u σ v C ⟨O,R2⟩;unfold iN at C;rw[zH] at C;let⟨b,Y,rfl⟩:=xX.mp C;let⟨t,a2⟩:=W b (zJ Y);let M:b∉j.take i:=λz=>by
   let hs:j=j.take i++b::j.drop (i+1):=by
    let⟨hi,e⟩:=zE.mp Y;rw[<-e,<-vY hi,xQ]
   rw[hs,uY] at N;exact N.2.2 b z b (by simp) Z
  let a0:PD (j.take i) m b=m b:=aO M;let X:PH (j.take i) I q b=q b:=aO M;let⟨dS,hS⟩:=R2.sh.self;let Wb:=R2.tw b t;let⟨r,J⟩:=Wb.tw.self;let B:=Wb.tw.above;rw[a0] at J;rw[X] at B;exists _,Z,S,dS,_,Z,hS,Z,_,Z,S,d,lk,ts.length,T,ls,(b:Int),.ref (g.getD b .d).x,Z,R2.sh,R2.val b t;exists _,Z,(g.getD b .d).x,ke,r,_,.int (m b:Nat),Z,J,L.cT,L.nho,Z,_,_,Z,Z,r,_,J,yT Z;let D:upd v (g.getD b .d).x (.ins ke r (Ys "holds" (.int (((m b:Nat):Int)+1)) (Wm (.ref (g.getD b .d).th) (.ref (g.getD b .d).tg) (g.getD b .d).ab (m b)))) (g.getD b .d).x=some (.ins ke r (Wm (.ref (g.getD b .d).th) (.ref (g.getD b .d).tg) (g.getD b .d).ab (m b+1))):=by rw[ZV];rfl
  let U:(g.getD b .d).ab≠(g.getD b .d).x:=ZY B J;let p:upd v (g.getD b .d).x (.ins ke r (Ys "holds" (.int (((m b:Nat):Int)+1)) (Wm (.ref (g.getD b .d).th) (.ref (g.getD b .d).tg) (g.getD b .d).ab (m b)))) (g.getD b .d).ab=some (.lst (iN (q b))):=by rw[ZR U];exact B
  let G:∀ c o,c≠(g.getD b .d).x->v c=some o->upd v (g.getD b .d).x (.ins ke r (Ys "holds" (.int (((m b:Nat):Int)+1)) (Wm (.ref (g.getD b .d).th) (.ref (g.getD b .d).tg) (g.getD b .d).ab (m b)))) c=some o:=λc o n e=>by rw[ZR n];exact e
  generalize upd v (g.getD b .d).x (.ins ke r (Ys "holds" (.int (((m b:Nat):Int)+1)) (Wm (.ref (g.getD b .d).th) (.ref (g.getD b .d).tg) (g.getD b .d).ab (m b))))=H3 at D p G⊢;exists _,Z,(g.getD b .d).x,ke,r,_,.ref (g.getD b .d).ab,Z,D,L.cT,L.nab,Z,.inl ⟨Z,_,ZK.of p⟩,_,Z,(g.getD b .d).ab,(q b).map λb:Nat=>(b:Int),(I:Nat),Z,Z,by rw[<-LC];exact p,zR.mpr ⟨I,a2,Z⟩
  rw[ZJs,<-LC];let V:j.take (i+1)=j.take i++[b]:=by rw[yR,Y];rfl
  refine .mk (λc o hc e=>?_) ?_
  ·let⟨n1,n2⟩:=hc b t;rw[ZR n2];exact G _ _ n1 (O c o hc e)
  ·refine R2.set1 t (λc n=>?_) (λc n=>?_) ⟨r,?_⟩ ?_ λc o n1 n2 e=>?_
   ·unfold PH;rw[V];by_cases z:c∈j.take i
    ·rw[aP z,aP (xZ _ z)]
    ·rw[aO z,aO (λy=>(zA.mp y).elim z λy=>n (yZ.mp y))]
   ·unfold PD;rw[V];by_cases z:c∈j.take i
    ·rw[aP z,aP (xZ _ z)]
    ·rw[aO z,aO (λy=>(zA.mp y).elim z λy=>n (yZ.mp y))]
   ·rw[ZR (Ne.symm U),show PD (j.take (i+1)) m b=m b+1 from aP (by rw[V];simp)];exact D
   ·rw[ZV,show PH (j.take (i+1)) I q b=(q b).erase I from aP (by rw[V];simp)]
   ·rw[ZR n2];exact G _ _ n1 e
 ·rintro σ v ⟨O,R2⟩;rw[show (iN j).length=j.length from zX _,yY (zY _)] at R2;exact k v O R2
theorem Yg.nodup{d:jk}{a:jn}{r:Nat}(g:WF d a)(f:r<a.length){b k:jl}{A B:jo}(z:Yg a r b k A B):b.Nodup:=by
 induction z with
 | root=>simp
 | down l e c i j h=>
  refine xM.mpr ⟨λy=>?_,h⟩;have:=((l.down e c i j).facts g f rfl).2.1 _ y
  lia
structure On(gt:jk)(kc ke:ak)(H:Hp)(S d lk:ak)(ts:jn)(av:Nat->jl)(ho:Nat->Nat)(as:jt)(kvs:List (Zc×V))(ls:jf)(r:Nat):Prop where
 sh:Z5 kc ke H S d lk ts av ho as kvs ls
 wf:WF gt ts
 hr:r<ts.length
 hb:QI ts av ho
 tp:Tp av ho r
def On.same{h:jk}{a b:ak}{H e:Hp}{S d lk:ak}{k:jn}{g:Nat->jl}{i:Nat->Nat}{f:jt}{c:List (Zc×V)}{j:jf}{r:Nat}(O:On h a b H S d lk k g i f c j r)(s:ZE H e):On h a b e S d lk k g i f c j r:=⟨O.sh.same s,O.wf,O.hr,O.hb,O.tp⟩
variable{gt:jk}{H H7:Hp}{S d lk:ak}{ts cur:jn}{av:Nat->jl}{ho:Nat->Nat}{as:jt}{kvs lkv:List (Zc×V)}{ls us:jf}{r n:Nat}{up ps:jl}{A B T:jo}{t:ZQ}{own D dt:ak}
theorem Ch(O:On gt kc ke H S d lk ts av ho as kvs ls r)(z:Yg ts r (n::up) ps A B)(C:Of gt ts cur r n up t T)(s7:ZE H H7)(hx7:H7 (as.getD n .d).x=some (.ins ke dt (Wm (.ref (as.getD n .d).th) (.ref (as.getD n .d).tg) (as.getD n .d).ab (ho n))))(hD7:H7 D=some (.dK lkv))(nD:H D=none)(hlb:Q7 H7 cur (n::up) lkv)(no:H own=none)(hown:H7 own=some (.lst us))(h0:t.h=0->jV H7 (YD t.rows) us)(h1:t.h≠0->us=iN t.bs){Q:VK}{E:XK}(k:∀ (H9:Hp) (as':jt),(∀ c o,(∀ i:Nat,i<ts.length->c≠(as.getD i .d).x)->H7 c=some o->H9 c=some o)->Z5 kc ke H9 S d lk cur av ho as' kvs ls->Mm H ts.length as as'->Q .non H9):
  Xw kc ke [.ref S,.ref D] (upd H7 (as.getD n .d).x (.ins ke dt (Ys "things" (.ref own) (Wm (.ref (as.getD n .d).th) (.ref (as.getD n .d).tg) (as.getD n .d).ab (ho n))))) Q E:=by
 let R:=O.sh;let R7:=R.same s7;let⟨dS7,hS7⟩:=R7.sh.self;let⟨hn,fu,_,_⟩:=z.facts O.wf O.hr Z;let f3:=z.nodup O.wf O.hr;let nl:∀ i∈n::up,i<ts.length:=λi hi=>(zQ.mp hi).elim (λy=>y ▸ hn) λy=>(fu i y).1;let fr8:∀ c o,c≠(as.getD n .d).x->H7 c=some o->upd H7 (as.getD n .d).x (.ins ke dt (Ys "things" (.ref own) (Wm (.ref (as.getD n .d).th) (.ref (as.getD n .d).tg) (as.getD n .d).ab (ho n)))) c=some o:=λc o n e=>by rw[ZR n];exact e
 let hx8:upd H7 (as.getD n .d).x (.ins ke dt (Ys "things" (.ref own) (Wm (.ref (as.getD n .d).th) (.ref (as.getD n .d).tg) (as.getD n .d).ab (ho n)))) (as.getD n .d).x=some (.ins ke dt (Wm (.ref own) (.ref (as.getD n .d).tg) (as.getD n .d).ab (ho n))):=ZV;generalize upd H7 (as.getD n .d).x (.ins ke dt (Ys "things" (.ref own) (Wm (.ref (as.getD n .d).th) (.ref (as.getD n .d).tg) (as.getD n .d).ab (ho n))))=H8 at fr8 hx8⊢
 let' tgv:Nat->Addr:=λi=>match Yo lkv (kI i) with | some (.ref a)=>a | _=>0
 let htv:∀ i∈n::up,Yo lkv (kI i)=some (.ref (tgv i))/\YB H7 (Zt (gd cur i)) (.ref (tgv i)):=λi hi=>by
  let⟨v',e',k'⟩:=hlb.at_ i hi;let⟨a,b1,b2,rfl,b3⟩:=id k';have:tgv i=a:=by show (match Yo lkv (kI i) with | some (.ref a)=>a | _=>0)=a;rw[e']
  rw[this];exact⟨e',k'⟩
 let nS:∀ i∈n::up,(as.getD i .d).x≠S:=λi hi=>(R.own i (nl i hi)).1;let hS8:=fr8 _ _ (nS n zM).symm hS7;let hd8:=fr8 _ _ (ZY R7.sh.kept hx7) R7.sh.kept;let hl8:=fr8 _ _ (ZY R7.sh.looks hx7) R7.sh.looks;let hD8:=fr8 _ _ (ZY hD7 hx7) hD7;refine .mk (rd:=n::up) (x:=λi=>(as.getD i .d).x) (ab:=λi=>(as.getD i .d).ab) (th:=λi=>.ref (if i=n then own else (as.getD i .d).th)) (tg:=λi=>.ref (as.getD i .d).tg) (vl:=λi=>.ref (tgv i)) (ho:=ho) ⟨⟨dS7,hS8⟩,hd8,hl8⟩ (λi hi=>⟨R.val i (nl i hi),nS i hi⟩) (λi hi=>?_) hD8 (Zd R.sh.kept nD).symm hlb.keys f3 (λi hi=>(htv i hi).1) (λi hi j hj n'=>(R.two i j (nl i hi) (nl j hj) n').1) λH9 fr9 hl9=>?_
 ·by_cases z:i=n
  ·subst z;exact⟨dt,by(try dsimp only);rw[aP rfl];exact hx8⟩
  ·let⟨dx,e⟩:=(R7.tw i (nl i hi)).tw.self;exact⟨dx,by(try dsimp only);rw[aO z];exact fr8 _ _ (R.two i n (nl i hi) hn z).1 e⟩
 let fr79:∀ c o,(∀ i∈n::up,c≠(as.getD i .d).x)->H7 c=some o->H9 c=some o:=λc o n1 e=>fr9 c o n1 (fr8 c o (n1 n zM) e);let k79:∀ c o,(∀ C dx fs,o≠.ins C dx fs)->H7 c=some o->H9 c=some o:=λc o n1 e=>fr79 c o (λi hi=>by
  let⟨dx,e2⟩:=(R7.tw i (nl i hi)).tw.self;exact ZY e e2 (n1 _ _ _)) e
 let m79:Zz H7 H9:=λc xs e=>k79 c _ (by intro _ _ _ z;cases z) e
 let⟨R9,A9⟩:=BD (cur:=cur) (rd:=n::up) (n:=n) (own:=own) (tg:=tgv) (us:=us) (H':=H9) R C.len zM nl no (λc o n1 e=>fr79 c o n1 (s7 _ _ e)) C.sh C.hh C.old (λi hi z=>by have:=(fu i ((zQ.mp hi).resolve_left z)).2;lia (splits:=8)) hl9 (λi hi=>(htv i hi).2.mono m79) (k79 _ _ (by intro _ _ _ z;cases z) hown) (λy=>by rw[C.at_] at y⊢;exact(h0 y).mono m79 _ _) (λy=>by rw[C.at_] at y⊢;exact h1 y)
 exact k H9 _ (λc o n1 e=>fr79 c o (λi hi=>n1 i (nl i hi)) e) R9 A9
abbrev IB:Stmt:=WC (top 65) 10
inductive Xe(q:jk)(kc ke:ak):Sp
 |mk{S d u l:ak}{b:jn}{s:Nat->jl}{t:Nat->Nat}{p:jt}{g:List (Zc×V)}{v y:jf}{r n:Nat}{j:jo}{k z:jl}{A B T:jo}{a:jn}{H:Hp}{Q:VK}{E:XK}:
  On q kc ke H S d u b s t p g v r->Yg b r (n::k) z A B->k.length<=800->H l=some (.lst y)->jV H (YD j) y->WO j->(gd b n).h=0->QS (b.set n (WL j)) k a->Of q b a r n k (WL j) T ->
  (∀(m:Hp)(e:jt),(∀ c o,(∀ i:Nat,i<b.length->c≠(p.getD i .d).x)->H c=some o->m c=some o)->Z5 kc ke m S d u a s t e g v->Mm H b.length p e->Q .non m) ->
  Xe q kc ke [.ref S,.int (n:Nat),.ref l] H Q E
abbrev ZN4:jp:=["self","number","rows","twig","road","own","labels"]
theorem Vi:ZB ZN4 zFe (Za IB):=Zr
theorem ZKg{gt:jk}(F:Zh K "change_leaf" "Shelf.change_leaf" IB f fd)(L:Yq K mg kc ke)(DT:ZD P w K mg kh ZO 1 kc "twig_of" zEa (Zm kc))(DI:ZA P w K mg kh 1 "is_stem" ["twig"] (WR ke))(DR:ZD P w K mg kh (Yn P w) 3 kc "road_up" zEa (Yk kc ke))(DC:ZA P w K mg kh 9 "checked_rows" zEx XY)(DU:ZD P w K mg kh ZO 10 kc "labels_up" zE5 (Xl kc ke))(DL:ZA P w K mg kh 1 "label_of_rows" zEx XD)(DG:ZD P w K mg kh ZO 2 kc "give_labels" zFh (Xw kc ke)):
  ZI P w K mg kh ZO 11 f fd zFe (Xe gt kc ke):=by
 refine F.ok Vi (λvs H Q E h=>(by cases h;rfl)) (λc5 A c2 s H vs Q E u h=>?_)
 let⟨O,z,u8,hl,a6,G,h0,ch,C,J⟩:=h;rename_i S d lk l ts av ho p c1 ls us r n rr up ps A B T c6
 let X:=Vi.nd;let j:=u.mono (show 1<=10 by lia)
 let a7:=u.mono (show 2<=10 by lia)
 let a8:=u.mono (show 3<=10 by lia)
 let a9:=u.mono (show 9<=10 by lia)
 intro Xc;refine⟨_,ZM (Zg 3 X (YH (E:=E0) (pv 0) L.cS DT j YG (ZU (pv 1))))
  (ZM (Z3 (XG (Ze DI j (ZU (pv 3)))) VX Z4)
  (ZM (Zg 4 X (YH (E:=E0) (pv 0) L.cS DR a8 Ol (ZU (pv 1))))
  (ZM (Zg 5 X (Ze DC a9 (ZU (pv 2))))
  (ZM (ED (ZT (Zg 6 X (YH (E:=E0) (pv 0) L.cS DU u YG (Zn (pv 4) (Ze DL j (ZU (pv 5))))))))
  (ZM (Ui (pv 3) (pv 5) rfl)
  (ZT (XS (YH (E:=E0) (pv 0) L.cS DG a7 YG (ZU (pv 6)))))))))),?_⟩
 let R:=O.sh;let⟨t,fu,_,_⟩:=z.facts O.wf O.hr Z;let⟨dS,hS⟩:=R.sh.self;let W:=R.tw n t;let⟨c4,c9,c8,b,c0,_,_⟩:=id W.tag;let b:(p.getD n .d).tg=c4:=V.ref.inj b;exists _,Z,S,dS,_,Z,hS,Z,_,Z,S,d,lk,ts.length,c1,ls,(n:Int),.ref (p.getD n .d).x,Z,R.sh,R.val n t;exists _,Z,(p.getD n .d).x,_,(p.getD n .d).tg,_,_,_,_,_,Z,W.tw,by rw[b];exact c0,_,Z
 rw[aK (show ¬ (Zt (gd ts n)).h > 0 by show ¬ ((gd ts n).h:Int) > 0;lia)]
 refine Zo ?_;refine⟨_,Z,S,dS,_,Z,hS,Z,_,Z,.mk R (z.rd O.wf O.hr O.hb O.tp rfl) (by rw[zO];lia) λq H1 Y nq hq=>?_⟩
 exists _,Z,l,us,rr,Z,Y _ _ hl,a6.sm Y,G;intro H2 c3 U s2 M a hk;let N:=Y.trans s2;let R2:=R.same N;let⟨a1,a4⟩:=R2.sh.self;let lu:U.length=rr.length:=by have:=hk.length;rw[<-this];exact zX _
 exists _,Z,S,a1,_,Z,a4,Z,_,Z,_,Z,c3,U,rr.map (·.1),Z,a,CZ hk,by rw[lu];exact G.2.1
 intro H3 v s3 kv;rw[<-Dy] at kv;let k:=N.trans s3;refine .mk (R.same k) t (z.nodup O.wf O.hr) (λi hi=>⟨(fu i hi).1,by have:=(fu i hi).2;lia⟩) u8 ((s2.trans s3) _ _ hq) ch (GV kv) λH4 D c7 s4 nD hD hb=>?_
 let m:=k.trans s4;let R4:=R.same m;let⟨a2,a5⟩:=R4.sh.self;let⟨a3,I⟩:=(R4.tw n t).tw.self;let g:=(s3.trans s4) _ _ a;exists _,Z,_,Z,(p.getD n .d).x,ke,a3,_,Z,I,L.cT,L.nth,yT Z;refine⟨_,Z,S,a2,_,Z,(by rw[ZR (R.own n t).1.symm];exact a5),Z,_,Z,Ch O z C m I hD (k.free nD) hb (Y.free M) g (λ_=>hk.sm (s3.trans s4)) (λy=>absurd Z y) λH9 a0 fr R9 A9=>?_⟩
 exact J H9 a0 (λc o n1 e=>fr c o n1 (m _ _ e)) R9 A9
theorem ZQI(x:Nat)(l:jl):NO (.int (x:Nat)) (iN l)=decide (x∈l):=by
 unfold NO iN;rw[List.any_map]
 induction l with
 | nil=>rfl
 | cons n l a=>
  rw[vW,a];let e:((λy=>Qg y (V.int (x:Nat))) ∘ λb:Nat=>V.int (b:Nat)) n=decide (n=x):=by
   show Qg (.int (n:Nat)) (.int (x:Nat))=_;rw[wC];simp[Qg]
   lia
  rw[e];by_cases h:n=x
  ·subst h;simp
  ·have:¬ x=n:=λz=>h z.symm;simp[h,this]
def Ct(l:jl):(iN l).all Pd=true:=by
 unfold iN;rw[vM];exact zI.mpr λ_ _=>rfl
def ZLI{J:It}{w:jl}{A:L2.St}{H:Hp}{y:TT}{Q:VK}(e:jl)(p:Nat->Bool)(F:e.length<=900)(s:∀ i a,ZE H a->i<e.length->J.go i a)(E:∀ i a x b,ZE H a->i<e.length->J.yld i a x b->b=a/\(iN e)[i]? = some x)(h:∀ a,ZE H a->J.stop e.length a)(o:∀ a n (R:Bool->Hp->Prop),n∈e->ZE H a->R (p n) a->y (OF A w (.int (n:Nat))) a R)(r:∀ (D:ak) (a:Hp),ZE H a->H D=none->a D=some (.lst (iN (e.filter p)))->Q (.ref D) a):Wq J A w y (Qv 0) H Q:=by
 refine ZGt (n:=e.length) (λi z=>(iN e)[i]? = some z) (λz=>match z with | .int n=>p n.toNat | _=>false) (λD i f b=>ZE H b/\H D=none/\f=iN ((e.take i).filter p)) (XU ∅)
  (λD i f b j c=>s i b c.1 j) (λD i f b z B j c u=>E i b z B c.1 j u) (λD f b c=>h b c.1)
  (λD v=>⟨Zl v _,v,Z⟩) (λD i f b z j d c R C=>?_) (λD i f b z q j d t c=>?_) (λD i f b z q j d t c=>?_) (λD f b q c=>?_)
 ·unfold iN at d;rw[zH] at d;let⟨n,l,rfl⟩:=xX.mp d;exact o b n R (zJ l) c.1 C
 ·let⟨m,k,rfl⟩:=c;unfold iN at d;rw[zH] at d;let⟨n,l,rfl⟩:=xX.mp d;exists UK m k,k;let g:p n=true:=t;rw[yR,l,xI];simp[g,iN]
 ·let⟨m,k,rfl⟩:=c;unfold iN at d;rw[zH] at d;let⟨n,l,rfl⟩:=xX.mp d;exists m,k;let g:p n=false:=t;rw[yR,l,xI];simp[g]
 ·let⟨m,k,rfl⟩:=c;rw[yY (zY _)] at q;exact r D b m k q
def EM{K:zZ}{p:ak}{c cs:jl}{o:L2.St}{m:jl}{H:Hp}{n:TT}{Q:VK}(q:c.length<=900)(f:H p=some (.lst (iN c)))(e:∀ (a:Hp) (j:Nat) (R:Bool->Hp->Prop),j∈c->ZE H a->R (decide (j∉cs)) a->n (OF o m (.int (j:Nat))) a R)(k:∀ (D:ak) (a:Hp),ZE H a->H D=none->a D=some (.lst (iN (c.filter λb=>decide (b∉cs))))->Q (.ref D) a):Wq (Nh K p) o m n (Qv 0) H Q:=
 ZLI c (λj=>decide (j∉cs)) q (λi g d h=>⟨_,.int (c[i]:Nat),ZK.of (d _ _ f),by simp[iN,zV h]⟩) (λi g x r d h l=>⟨l.1,l.2 _ (ZK.of (d _ _ f))⟩) (λg d=>⟨_,ZK.of (d _ _ f),by simp[iN]⟩) e k
def Eu(x:Nat)(l:jl):(if true=true then !NO (.int (x:Nat)) (iN l) else NO (.int (x:Nat)) (iN l))=decide (x∉l):=by
 rw[aP rfl,ZQI,decide_not]
def Uz(c:jn)(n:Nat)(a:jl):jl:=a.filter λb=>decide (b∉(gd c n).bs)
def NB(c:jn)(n:Nat)(a:jl):jl:=(gd c n).bs.filter λb=>decide (b∉a)
def QD(b:jn)(n:Nat)(a:jl)(c:Nat->jl):Nat->jl:=PH (NB b n a) n (X1 (Uz b n a) n c)
def Uo(b:jn)(n:Nat)(a:jl)(c:Nat->Nat):Nat->Nat:=PD (NB b n a) (WA (Uz b n a) c)
def XR{H:Hp}{p:ak}(h:H p=none)(o:HO):∃ a,L2.upd H p o=a/\ZE H a/\a p=some o:=⟨_,Z,Zl h o,ZV⟩
def Cd{d:jk}{c:jn}(i:WF d c){j:Nat}(g:j<c.length)(f:(gd c j).h≠0):(gd c j).bs.Nodup:=(GJ i g f).imp fun{a b} h e=>by rw[e,VG] at h;cases h
abbrev Kz:Stmt:=WC (top 65) 11
inductive Xk(t:jk)(kc ke:ak):Sp
 |mk{S d v l:ak}{a:jn}{s:Nat->jl}{u:Nat->Nat}{m:jt}{k:List (Zc×V)}{y:jf}{r n:Nat}{e p z:jl}{A B T:jo}{g:jn}{H:Hp}{Q:VK}{E:XK}:
  On t kc ke H S d v a s u m k y r->Yg a r (n::p) z A B->p.length<=800->H l=some (.lst (iN e))->(∀ b∈e,b<a.length)->e.length<=4->over (Z9 a e)=some (Zt (YA a e))->(YA a e).h=(gd a n).h->e.Nodup->(∀ b∈Uz a n e,Tp s u b)->QS (a.set n (YA a e)) p g->Of t a g r n p (YA a e) T ->
  (∀(q:Hp)(j:jt),(∀ c o,(∀ i:Nat,i<a.length->c≠(m.getD i .d).x/\c≠(m.getD i .d).ab)->H c=some o->q c=some o)->Z5 kc ke q S d v g (QD a n e s) (Uo a n e u) j k y->Mm H a.length m j->Q .non q) ->
  Xk t kc ke [.ref S,.int (n:Nat),.ref l] H Q E
abbrev ZMt:jp:=["self","number","numbers","twig","road","old","branches","label","labels","new"]
theorem V1:ZB ZMt zE9 (Za Kz):=Zr
theorem ZKR{gt:jk}(F:Zh K "change_stem" "Shelf.change_stem" Kz f fd)(T:Yb mg)(L:Yq K mg kc ke)(DT:ZD P w K mg kh ZO 1 kc "twig_of" zEa (Zm kc))(DI:ZA P w K mg kh 1 "is_stem" ["twig"] (WR ke))(DR:ZD P w K mg kh (Yn P w) 3 kc "road_up" zEa (Yk kc ke))(DL:ZD P w K mg kh ZO 3 kc "labels_of" zEe (Ye kc ke))(DO:ZA P w K mg kh 9 "label_over" zFn Xf)(DU:ZD P w K mg kh ZO 10 kc "labels_up" zE5 (Xl kc ke))(DC:ZD P w K mg kh ZO 3 kc "check_held" zEe (Z8 kc ke))(DG:ZD P w K mg kh ZO 2 kc "give_labels" zFh (Xw kc ke))(DK:ZD P w K mg kh ZO 2 kc "take_over" zEi (Yr kc ke))(DB:ZD P w K mg kh ZO 2 kc "give_back" zEi (Yu kc ke)):
  ZI P w K mg kh ZO 11 f fd zE9 (Xk gt kc ke):=by
 refine F.ok V1 (λvs H Q E h=>(by cases h;rfl)) (λo2 A n6 s H vs Q E hr h=>?_)
 let⟨O,z,u8,hl,hb,b4,m5,c6,i8,tp,ch,C,kY⟩:=h;rename_i S d lk l g av ho k a0 ls r n t up ps A B T0 i9
 let nd:=V1.nd;let⟨t0,m0⟩:=T.height;let e4:=hr.mono (show 1<=10 by lia)
 let c4:=hr.mono (show 2<=10 by lia)
 let c5:=hr.mono (show 3<=10 by lia)
 let m7:=hr.mono (show 9<=10 by lia)
 intro Xc;refine⟨_,ZM (Zg 3 nd (YH (E:=E0) (pv 0) L.cS DT e4 YG (ZU (pv 1))))
  (ZM (Z3 (Va (XG (Ze DI e4 (ZU (pv 3))))) VX Z4)
  (ZM (Zg 4 nd (YH (E:=E0) (pv 0) L.cS DR c5 Ol (ZU (pv 1))))
  (ZM (LY (i:=5) nd rfl (Or.inr rfl) (Xz (pv 3) rfl))
  (ZM (LY (i:=6) nd rfl (Or.inr rfl) (UO NA rfl T.list P0 (ZU (pv 2))))
  (ZM (Zg 7 nd (Ze DO m7 (ZU (YH (E:=E0) (pv 0) L.cS DL c5 YG (ZU (pv 6))))))
  (ZM (Z3 (Y2 IR (YS K (pv 7) (Xp (v:=.int 0) rfl m0 ⟨_,rfl⟩)) (YS K (Xz (pv 3) rfl) (Xp (v:=.int 0) rfl m0 ⟨_,rfl⟩)) (YW _)) VX Z4)
  (ZM (Zg 8 nd (YH (E:=E0) (pv 0) L.cS DU hr YG (Zn (pv 4) (pv 7))))
  (ZM (JD (i:=9) [5] ["old"] nd rfl rfl rfl (Wj (pv 6)) (λ_ _ _ _ _=>Mo (Y2 (r:=JT K true) Es (pv 0) (pv 1) Z)) (λ_ _ _ _ _=>pv 0) ⟨rfl,.inl rfl,rfl,trivial⟩)
  (ZM (XS (YH (E:=E0) (pv 0) L.cS DC c5 YG (ZU (pv 9))))
  (ZM (Ui (pv 3) (pv 6) rfl)
  (ZM (XS (YH (E:=E0) (pv 0) L.cS DG c4 YG (ZU (pv 8))))
  (ZM (XS (YH (E:=E0) (pv 0) L.cS DK c4 YG (Zn (pv 1) (pv 9))))
  (ZT (XS (YH (E:=E0) (pv 0) L.cS DB c4 YG (Zn (pv 1) (Vm [6] ["branches"] rfl (Wj (pv 5)) (λ_ _ _ _ _=>Mo (Y2 (r:=JT K true) Es (pv 0) (pv 1) Z)) (λ_ _ _ _ _=>pv 0) ⟨rfl,.inl rfl,rfl,trivial⟩))))))))))))))))),?_⟩
 let R:=O.sh;let⟨u,fu,_,_⟩:=z.facts O.wf O.hr Z;let h0:(gd g n).h≠0:=by rw[<-c6];exact Nat.succ_ne_zero _
 let⟨dS,hS⟩:=R.sh.self;let W:=R.tw n u;let⟨n8,p0,o9,X,e5,_,_⟩:=id W.tag;let X:(k.getD n .d).tg=n8:=V.ref.inj X;exists _,Z,S,dS,_,Z,hS,Z,_,Z,S,d,lk,g.length,a0,ls,(n:Int),.ref (k.getD n .d).x,Z,R.sh,R.val n u;exists _,Z,(k.getD n .d).x,_,(k.getD n .d).tg,_,_,_,_,_,Z,W.tw,by rw[X];exact e5,_,Z
 rw[aM (show (Zt (gd g n)).h > 0 by show ((gd g n).h:Int) > 0;lia)]
 refine Zo ?_;refine⟨_,Z,S,dS,_,Z,hS,Z,_,Z,.mk R (z.rd O.wf O.hr O.hb O.tp rfl) (by rw[zO];lia) λq H1 s1 nq hq=>?_⟩
 let R1:=R.same s1;let⟨l3,n0⟩:=(R1.tw n u).tw.self;exists _,Z,(k.getD n .d).x,ke,l3,_,.ref (k.getD n .d).th,Z,n0,L.cT,L.nth,Z;exists _,Z,l,iN t,Z,.inl (ZK.of (s1 _ _ hl));intro a1 a8;let⟨H2,eU,g2,a6⟩:=XR a8 (.lst (iN t));rw[eU];let s2:=s1.trans g2;let N:H a1=none:=s1.free a8;let R2:=R.same s2;let⟨l0,l9⟩:=R2.sh.self;exists _,Z,S,l0,_,Z,l9,Z,_,Z,S,d,lk,a1,g,av,ho,k,a0,ls,t,Z,R2,a6,hb,by lia
 intro D2 us H3 s3 o6 l6 m3;let n7:=s2.trans s3;exists D2,us,Z9 g t,_,Z,l6,m3,EN O.wf hb,m5;intro H4 v s4 kv;let a2:=n7.trans s4;let R4:=R.same a2;let kl:=N5 kv;let⟨tl,o8,o7,rfl,m8,o4,o3⟩:=id kl;let⟨l4,n3⟩:=(R4.tw n u).tw.self;let e6:=a2 _ _ e5;refine⟨_,Z,.inr (.inl ⟨tl,_,_,.int (Zt (YA g t)).h,rfl,rfl,Zv.of m8,VD (j:=0) rfl,_,rfl,(k.getD n .d).x,ke,l4,_,.ref (k.getD n .d).tg,rfl,n3,L.cT,L.ntg,rfl,.inr (.inl ⟨(k.getD n .d).tg,_,_,.int (Zt (gd g n)).h,rfl,rfl,Zv.of (by rw[X];exact e6),VD (j:=0) rfl,rfl,_,rfl,?_⟩)⟩)⟩
 let hh:(Zt (YA g t)).h=(Zt (gd g n)).h:=by show (((YA g t).h:Nat):Int)=(((gd g n).h:Nat):Int);rw[c6]
 let e:(!decide (V.int (Zt (YA g t)).h=V.int (Zt (gd g n)).h))=false:=by rw[aM (congrArg V.int hh)];rfl
 rw[e];refine Zo ?_;let⟨l1,m1⟩:=R4.sh.self;let m6:=((g2.trans s3).trans s4) _ _ hq;refine⟨_,Z,S,l1,_,Z,m1,Z,_,Z,_,Z,.mk R4 u (z.nodup O.wf O.hr) (λi hi=>⟨(fu i hi).1,by have:=(fu i hi).2;lia⟩) u8 m6 ch kl λH5 D o5 s5 nD hD m4=>?_⟩
 let a3:=a2.trans s5;let R5:=R.same a3;let p:=((s3.trans s4).trans s5) _ _ a6;let⟨ws,a7,_,c1⟩:=W.things;let c1:=c1 h0;subst c1;let e7:=a3 _ _ a7;let o1:(gd g n).bs.length<=4:=((O.wf n _ (YN u)).stem h0).2.1;refine⟨_,Z,a1,Z,⟨_,ZK.of p⟩,EM (cs:=(gd g n).bs) ∅ p (λHq j Rq hj sq hR=>⟨_,Z,_,Z,(k.getD n .d).th,_,Z,.inl (ZK.of (sq _ _ e7)),Z,Ct _,_,Z,by rw[Eu];exact hR⟩) λLW H7 s6 n5 c9=>?_⟩
 let a4:=a3.trans s6;let i0:H LW=none:=a3.free n5;let R7:=R.same a4;let⟨c0,c2⟩:=R7.sh.self;let i1:∀ b∈Uz g n t,b<g.length:=λb h=>hb b (yC.mp h).1;exists _,Z,S,c0,_,Z,c2,Z,_,Z,S,LW,(Uz g n t).map (λb:Nat=>(b:Int)),Z,by rw[<-LC];exact c9,⟨c0,_,c2,Z⟩,λm hm=>?_
 ·let⟨b,a,rfl⟩:=zR.mp hm;let e3:=i1 b a;exact⟨d,lk,g.length,a0,ls,_,_,_,_,_,_,⟨R7.sh,R7.val b e3,(R7.tw b e3).tw⟩,xO (tp b a).2.symm⟩
 let⟨l5,e9⟩:=(R7.tw n u).tw.self;let I:=s6 _ _ p;let l7:=s6 _ _ hD;exists _,Z,_,Z,(k.getD n .d).x,ke,l5,_,Z,e9,L.cT,L.nth,yT Z;refine⟨_,Z,S,c0,_,Z,(by rw[ZR (R.own n u).1.symm];exact c2),Z,_,Z,Ch O z C a4 e9 l7 (a2.free nD) (m4.mono (ZE.tups s6)) N I (λy=>absurd y (by rw[c6];exact h0)) (λ_=>rfl) λH9 U fr R9 A9=>?_⟩
 let c7:∀ c o,(∀ C dx fs,o≠.ins C dx fs)->H7 c=some o->H9 c=some o:=λc o n1 e=>fr c o (λi hi=>by
  let⟨dx,e2⟩:=(R7.tw i hi).tw.self;exact ZY e e2 (n1 _ _ _)) e
 let e0:=c7 _ _ (by intro _ _ _ z;cases z) c9
 let⟨l2,m2⟩:=R9.sh.self;refine⟨_,Z,S,l2,_,Z,m2,Z,_,Z,_,Z,S,d,lk,LW,i9,av,ho,U,a0,ls,Uz g n t,n,Z,R9,e0,i8.sublist tG,λb a=>⟨by rw[C.len];exact i1 b a,xO (tp b a).2.symm,by rw[(tp b a).1];exact zD _⟩,λb a=>?_,λi4 G n9 a9=>?_⟩
 ·rw[C.len] at a;rw[A9.ab b a];exact(Zd (R.tw b a).tw.above i0).symm
 let e8:=c7 _ _ (by intro _ _ _ z;cases z) (a4 _ _ a7)
 let c3:=c7 _ _ (by intro _ _ _ z;cases z) I
 rw[C.len] at G;let M:∀(c:ak)(xs:jf),(∀ b:Nat,b<g.length->c≠(k.getD b .d).ab)->H9 c=some (.lst xs)->i4 c=some (.lst xs):=λc xs n1 e=>G c _ (λb a=>by
  let⟨dx,m9⟩:=(R9.tw b (by rw[C.len];exact a)).tw.self
  exact⟨ZY e m9,by rw[A9.ab b a];exact n1 b a⟩) e
 let i3:∀ b:Nat,b<g.length->(k.getD n .d).th≠(k.getD b .d).ab:=λb a=>by
  by_cases z:b=n
  ·subst z;exact(R.own b a).2.2.2.symm
  ·exact(R.two b n a u z).2.2.1.symm
 let J:=M _ _ i3 e8;let Y:=M _ _ (λb a=>(Zd (R.tw b a).tw.above N).symm) c3;let⟨c8,e1⟩:=a9.sh.self;refine⟨_,Z,S,c8,_,Z,e1,Z,_,Z,_,Z,(k.getD n .d).th,Z,⟨_,ZK.of J⟩,EM (cs:=t) ∅ J (λHq j Rq hj sq hR=>⟨_,Z,_,Z,a1,_,Z,.inl (ZK.of (sq _ _ Y)),Z,Ct _,_,Z,by rw[Eu];exact hR⟩) λLG o0 i2 n4 l8=>?_⟩
 let i6:=a9.same i2;refine .mk i6 l8 ((Cd O.wf u h0).sublist tG) (λb a=>?_) (λb a=>(Zd (a9.tw b a).tw.above n4).symm) λi5 a5 i7=>?_
 ·let⟨q1,q2⟩:=yC.mp a;let q2:=of_decide_eq_true q2;exists by rw[C.len];exact(((O.wf n _ (YN u)).stem h0).2.2.1 b q1).1
  rw[show X1 (Uz g n t) n av b=av b from aO (λy=>q2 (yC.mp y).1),(O.hb n u b q1).1];exact yZ.mpr Z
 ·rw[C.len] at a5;refine kY i5 U (λc o n1 e=>?_) i7 A9;let n2:∀ b:Nat,b<g.length->c≠(U.getD b .d).x/\c≠(U.getD b .d).ab:=λb a=>by rw[A9.x b a,A9.ab b a];exact n1 b a
  exact a5 c o n2 (i2 _ _ (G c o n2 (fr c o (λi hi=>(n1 i hi).1) (a4 _ _ e))))
def ins(k v:KT)(a:jo):jo:=a.filter (λr=>r.1.lt k)++(k,v)::a.filter λr=>k.lt r.1
def VN{k v:KT}{a:jo}{x:ZZ}:x∈ins k v a ↔ x=(k,v)\/(x∈a/\x.1≠k):=by
 unfold ins;rw[zA,zQ,yC,yC];constructor
 ·rintro(⟨h,l⟩ | h | ⟨h,l⟩)
  ·exact .inr ⟨h,λz=>by rw[z,VG] at l;cases l⟩
  ·exact .inl h
  ·exact .inr ⟨h,λz=>by rw[z,VG] at l;cases l⟩
 ·rintro(h | ⟨h,n⟩)
  ·exact .inr (.inl h)
  ·cases b:x.1.lt k with
   | true=>exact .inl ⟨h,Z⟩
   | false=>
    cases c:k.lt x.1 with
    | true=>exact .inr (.inr ⟨h,rfl⟩)
    | false=>exact absurd (ML _ _ b c) n
def Cb{k v:KT}{d:jo}(h:Up d):Up (ins k v d):=by
 unfold Up ins PX at *;rw[zC,yW,xY,xD];refine⟨h.sublist (tG.map _),⟨λy b=>?_,h.sublist (tG.map _)⟩,λx f y b=>?_⟩
 ·let⟨r,a,rfl⟩:=zR.mp b;exact(yC.mp a).2
 ·let⟨r,a,rfl⟩:=zR.mp f;let c:=(yC.mp a).2;rcases zQ.mp b with z | z
  ·rw[z];exact c
  ·let⟨q,e,rfl⟩:=zR.mp z;exact lt_trans' _ _ _ c (yC.mp e).2
def Bp{k v:KT}{A L B:jo}(b:∀ x∈A,x.1.lt k=true)(c:∀ x∈B,k.lt x.1=true):ins k v (A++L++B)=A++ins k v L++B:=by
 let d:A.filter (λr=>r.1.lt k)=A:=vE.mpr b;let e:A.filter (λr=>k.lt r.1)=[]:=uZ.mpr λx a=>by rw[Pv _ _ (b x a)];exact zW
 let f:B.filter (λr=>k.lt r.1)=B:=vE.mpr c;let g:B.filter (λr=>r.1.lt k)=[]:=uZ.mpr λx a=>by rw[Pv _ _ (c x a)];exact zW
 unfold ins;rw[xI,xI,xI,xI,d,e,f,g];simp
theorem ZM2{k v:KT}:∀{rs:jo},(ins k v rs).length<=rs.length+1:=by
 intro rs;unfold ins;rw[zS,zO];have:∀ l:jo,(l.filter λr=>r.1.lt k).length+(l.filter λr=>k.lt r.1).length<=l.length:=λl=>by
  induction l with
  | nil=>exact zY _
  | cons x l a=>
   rw[xF,xF,zO];by_cases h:x.1.lt k=true
   ·rw[aP h,aO (by rw[Pv _ _ h];exact zW),zO];lia
   ·rw[aO h];split
    ·rw[zO];lia
    ·lia
 exact vI (this rs)
theorem Lx:∀{a b:jo},Up a->Up b->(∀ x,x∈a ↔ x∈b)->a=b
 | [],[],_,_,_=>rfl
 | [],y::b,_,_,h=>by have:=(h y).mpr zM;cases this
 | x::a,[],_,_,h=>by have:=(h x).mp zM;cases this
 | x::a,y::b,ha,hb,h=>by
  let c:=xD.mp ha;let d:=xD.mp hb;let e:x=y:=by
   rcases zQ.mp ((h x).mp zM) with z | z
   ·exact z
   ·rcases zQ.mp ((h y).mpr zM) with q | q
    ·exact q.symm
    ·let g:=d.1 _ (zR.mpr ⟨x,z,Z⟩);let f:=c.1 _ (zR.mpr ⟨y,q,Z⟩);rw[Pv _ _ g] at f;cases f
  subst e;let nx:∀{l:jo},(∀ z∈l.map (·.1),x.1.lt z=true)->x∉l:=λi z=>by
   have:=i _ (zR.mpr ⟨x,z,Z⟩);rw[VG] at this;cases this
  rw[Lx c.2 d.2 λz=>⟨λq=>by
   rcases zQ.mp ((h z).mp (zK _ q)) with y | y
   ·exact absurd q (y ▸ nx c.1)
   ·exact y,λq=>by
   rcases zQ.mp ((h z).mpr (zK _ q)) with y | y
   ·exact absurd q (y ▸ nx d.1)
   ·exact y⟩]
def BS{c:jo}(h:Up c):∀{x y:ZZ},x∈c->y∈c->x.1=y.1->x=y:=by
 intro x y f j e
 induction c with
 | nil=>cases f
 | cons z l k=>
  let d:=xD.mp h;let g:∀ q∈l,q.1≠z.1:=λq i y=>by
   have:=d.1 _ (zR.mpr ⟨q,i,Z⟩);rw[y,VG] at this;cases this
  rcases zQ.mp f with a | a <;> rcases zQ.mp j with b | b
  ·rw[a,b]
  ·exact absurd (by rw[<-e,a]) (g y b)
  ·exact absurd (by rw[e,b]) (g x a)
  ·exact k d.2 a b
def Ff{k v:KT}{a:jo}(h:Up a)(b:(k,v)∈a):ins k v a=a:=
 Lx (Cb h) h λx=>VN.trans ⟨λz=>z.elim (λy=>y ▸ b) λy=>y.1,λc=>by
  by_cases z:x.1=k
  ·exact .inl (BS h c b z)
  ·exact .inr ⟨c,z⟩⟩
def AT{k v:KT}{b:jo}(h:Up b):b.take (cnt (b.map (·.1)) k)++[(k,v)]++(b.drop (cnt (b.map (·.1)) k)).filter (λr=>!r.1.eqb k)=ins k v b:=by
 let j:∀ l:jo,Up l->∃ n,cnt (l.map (·.1)) k=n/\l.take n=l.filter (λr=>r.1.lt k)/\(l.drop n).filter (λr=>!r.1.eqb k)=l.filter λr=>k.lt r.1:=λl=>by
  induction l with
  | nil=>exact λ_=>⟨0,Z,Z,Z⟩
  | cons x l t=>
   intro s;let d:=xD.mp s;let c:∀ y∈l,x.1.lt y.1=true:=λy a=>d.1 _ (zR.mpr ⟨y,a,Z⟩);let⟨n,f,g,i⟩:=t d.2;by_cases z:x.1.lt k=true
   ·exists n+1,?_,?_
    ·show (((x::l).map (·.1)).filter λy=>y.lt k).length=_;rw[yW,xF,aP z,zO];rw[<-f];rfl
    ·rw[vD,g,xF,aP z]
    ·rw[List.drop_succ_cons,i,xF,aO (by rw[Pv _ _ z];exact zW)]
   ·let p:x.1.lt k=false:=by cases q:x.1.lt k with | true=>exact absurd q z | false=>rfl
    let o:l.filter (λr=>r.1.lt k)=[]:=uZ.mpr λy a q=>z (lt_trans' _ _ _ (c y a) q);let m:∀ y∈l,k.lt y.1=true:=λy a=>Mc p (c y a);let e:l.filter (λr=>k.lt r.1)=l:=vE.mpr m;let u:l.filter (λr=>!r.1.eqb k)=l:=vE.mpr λy a=>by
     cases q:y.1.eqb k with
     | false=>rfl
     | true=>
      have:=m y a;rw[Vw _ _ q,VG] at this;cases this
    exists 0,?_,?_
    ·show (((x::l).map (·.1)).filter λy=>y.lt k).length=0;rw[yW,xF,aO z,List.length_eq_zero_iff,List.filter_map];rw[show l.filter ((λy=>y.lt k) ∘ λx=>x.1)=[] from o];rfl
    ·rw[xF,aO z,o];rfl
    ·rw[tV,xF,xF,u,e]
     cases q:x.1.eqb k with
     | true=>
      rw[Vw _ _ q,VG];rfl
     | false=>
      have:k.lt x.1=true:=by
       cases y:k.lt x.1 with
       | true=>rfl
       | false=>
        have:=ML _ _ p y;rw[this,V6] at q;cases q
      rw[this];rfl
 let⟨n,f,g,i⟩:=j b h;rw[f,g,i];unfold ins;simp
def GD{k v:KT}{b:jo}:WB (ins k v b) k=[v]:=by
 unfold ins;rw[LU,Nw λr a z=>?_]
 ·show WB ([(k,v)]++b.filter λr=>k.lt r.1) k=[v];rw[LU,Nw (rs:=b.filter _) λr a z=>?_]
  ·unfold WB;simp[V6]
  ·have:=(yC.mp a).2;rw[z,VG] at this;cases this
 ·have:=(yC.mp a).2;rw[z,VG] at this;cases this
section
variable{gt:jk}{ts:jn}{r:Nat}{k:KT}
theorem Dc(a:WF gt ts)(M:r<ts.length):∀(n i:Nat){v t:jl}{A B:jo},Yg ts r (i::v) t A B->(gd ts i).h=n->(∀ x∈A,x.1.lt k=true)->(∀ x∈B,k.lt x.1=true) ->
  ∃(W:jJ)(j:Nat)(f g:jo),QZ ts k n i=W++[(j,cnt ((gd ts j).rows.map (·.1)) k)]/\W.length=n/\(gd ts j).h=0/\Yg ts r (j::((W.map (·.1)).reverse++v)) ((W.map (·.2)).reverse++t) f g/\(∀ x∈f,x.1.lt k=true)/\∀ x∈g,k.lt x.1=true
 | 0,i,v,t,A,B,z,G,D,E=>⟨[],i,A,B,by rw[QZ];unfold Xa;rw[aP G];rfl,Z,G,z,D,E⟩
 | n+1,i,v,t,A,B,z,G,D,E=>by
  let s:=(z.facts a M Z).1;let b:(gd ts i).h≠0:=∅
  let⟨l,m,S,o,U,V⟩:=Dz a s b k;let⟨X,n2,_⟩:=MV a s b k;let J:=Cd a s b;let K:=a i _ (YN s);let T:(gd ts i).rows=Zp ts (gd ts i).bs:=(K.stem b).2.2.2;let N:=(K.stem b).2.2.1;let e:=K.up;rw[o,uY,xM] at J;let Y:V9 ts k i∉l:=λy=>J.2.2 _ y _ zM Z;let z2:=z.down b o Y J.2.1.1;let⟨W,j,f,g,O,w,C,P,Q,R⟩:=Dc a M n (V9 ts k i) z2 ∅ (λx I=>by
   rcases zA.mp I with y | y
   ·exact D x y
   ·let d:=U (λq=>by rw[q] at y;cases y)
    let⟨q,qs,w,C⟩:=QT (a _ _ (YN X)).ne;rw[T,o,Pe,QB,zC,xY] at e;let p:=e.2.2 _ (zR.mpr ⟨x,y,Z⟩) q.1 (zR.mpr ⟨q,xZ _ (by rw[w];exact zM),Z⟩)
    rw[C] at d
    cases u:x.1.lt k with
    | true=>rfl
    | false=>
     have:=Mc u p;rw[Mc u p] at d;cases d) (λx I=>by
   rcases zA.mp I with y | y
   ·let⟨c,L,H⟩:=xK.mp y;let d:=V c L;let F:=(N c (by rw[o];exact yJ _ (zK _ L))).1
    let p:=D9 (j:=0) (a c _ (YN F)) (zR.mpr ⟨x,H,Z⟩)
    cases u:k.lt x.1 with
    | true=>rfl
    | false=>
     have:=Mc u d;rw[p] at this;cases this
   ·exact E x y)
  refine⟨(i,Xa ts k i)::W,j,f,g,by rw[QZ,O];rfl,by rw[zO,w],C,?_,Q,R⟩
  rw[yW,yW,List.reverse_cons,List.reverse_cons,yF,yF,<-S];exact P
def ZK6{a:jn}{d:Nat->jl}{e:Nat->Nat}(f:QI ts d e)(c:a.length=ts.length)(j:∀ i,(gd a i).bs=(gd ts i).bs):QI a d e:=λp g b h=>by
 rw[j] at h;exact f p (by rw[<-c];exact g) b h
theorem LS{t:ZQ}{a:Nat->jl}{c:Nat->Nat}(l:WF gt ts)(x:QI ts a c)(d:∀ b∈t.bs,b<ts.length/\Tp a c b):QI (ts++[t]) (X1 t.bs ts.length (Wl ts.length a)) (WA t.bs (Wk ts.length c))/\(∀ i,i<ts.length->i∉t.bs->Tp a c i->Tp (X1 t.bs ts.length (Wl ts.length a)) (WA t.bs (Wk ts.length c)) i)/\Tp (X1 t.bs ts.length (Wl ts.length a)) (WA t.bs (Wk ts.length c)) ts.length:=by
 let m:∀ i,i<ts.length->i∉t.bs->X1 t.bs ts.length (Wl ts.length a) i=a i/\WA t.bs (Wk ts.length c) i=c i:=λi j n=>by
  unfold X1 WA Wl Wk;rw[aO n,aO n,aO ∅,aO ∅]
  exact⟨Z,Z⟩
 exists λp z b h=>?_,λi j n y=>?_
 ·rw[zS,wY] at z;rcases xT p ts.length with q | q
  ·rw[Ut q] at h;let⟨g,o⟩:=x p q b h;let w:(gd ts p).h≠0:=λy=>by rw[((l p _ (YN q)).leaf y).1] at h;cases h
   let⟨e,f⟩:=m b (((l p _ (YN q)).stem w).2.2.1 b h).1 λy=>by have:=(d b y).2.1;rw[g] at this;cases this
   rw[e,f];exact⟨g,o⟩
  ·let v:p=ts.length:=∅
   subst v;rw[QK] at h;let⟨A,s,u⟩:=d b h;unfold X1 WA Wl Wk;rw[aP h,aP h,aO ∅,aO ∅,s,u]
   exact⟨Z,Z⟩
 ·let⟨e,f⟩:=m i j n;exact⟨e.trans y.1,f.trans y.2⟩
 ·let n:ts.length∉t.bs:=λy=>by have:=(d _ y).1;lia
  unfold Tp X1 WA Wl Wk;rw[aO n,aO n,aP rfl,aP rfl];exact⟨Z,Z⟩
def Ce{d:jn}{e:Nat->jl}{f:Nat->Nat}{n:Nat}{c:jl}(m:QI ts e f)(A:n<ts.length)(E:∀ b∈Uz ts n c,Tp e f b)(C:d.length=ts.length)(x:(gd d n).bs=c)(F:∀ i,i≠n->(gd d i).bs=(gd ts i).bs):
  QI d (QD ts n c e) (Uo ts n c f)/\(∀ b∈(gd ts n).bs,b∉c->Tp (QD ts n c e) (Uo ts n c f) b)/\∀ b,Tp e f b->b∉c->Tp (QD ts n c e) (Uo ts n c f) b:=by
 let v:∀ i,i∈Uz ts n c ↔ i∈c/\i∉(gd ts n).bs:=λi=>by unfold Uz;simp
 let o:∀ i,i∈NB ts n c ↔ i∈(gd ts n).bs/\i∉c:=λi=>by unfold NB;simp
 let D:∀ i,i∉Uz ts n c->i∉NB ts n c->QD ts n c e i=e i/\Uo ts n c f i=f i:=λi a b=>by
  unfold QD Uo PH PD X1 WA;rw[aO b,aO b,aO a,aO a];exact⟨Z,Z⟩
 refine⟨λp B b h=>?_,λb h w=>?_,λb y w=>?_⟩
 ·rw[C] at B;by_cases z:p=n
  ·subst z;rw[x] at h;by_cases q:b∈(gd ts p).bs
   ·let⟨t,u⟩:=D b (λy=>((v b).mp y).2 q) λy=>((o b).mp y).2 h;let⟨g,l⟩:=m p B b q;rw[t,u];exact⟨g,l⟩
   ·let j:=(v b).mpr ⟨h,q⟩;let s:b∉NB ts p c:=λy=>((o b).mp y).2 h;let⟨G,H⟩:=E b j;unfold QD Uo PH PD X1 WA;rw[aO s,aO s,aP j,aP j,G,H];exact⟨Z,Z⟩
  ·rw[F p z] at h;let⟨g,l⟩:=m p B b h;let⟨t,u⟩:=D b (λy=>by have:=(E b y).1;rw[g] at this;cases this) λy=>by
    have:=(m n A b ((o b).mp y).1).1;rw[g] at this;cases this;exact z Z
   rw[t,u];exact⟨g,l⟩
 ·let⟨g,l⟩:=m n A b h;let s:=(o b).mpr ⟨h,w⟩;let j:b∉Uz ts n c:=λy=>w ((v b).mp y).1;unfold Tp QD Uo PH PD X1 WA;rw[aP s,aP s,aO j,aO j,g,l];exact⟨by simp,Z⟩
 ·let⟨t,u⟩:=D b (λq=>w ((v b).mp q).1) λq=>by
   have:=(m n A b ((o b).mp q).1).1;rw[y.1] at this;cases this
  exact⟨t.trans y.1,u.trans y.2⟩
theorem Hv(d:WF gt ts):∀(n i:Nat),i<ts.length->(gd ts i).h=n->2 ^ n<=(gd ts i).rows.length
 | 0,i,a,_=>tF.mpr (d i _ (YN a)).ne
 | n+1,i,a,v=>by
  let⟨f,_,g,m⟩:=(d i _ (YN a)).stem ∅
  let o:∀ l:jl,(∀ b∈l,b∈(gd ts i).bs)->l.length * 2 ^ n<=(l.flatMap λb=>(gd ts b).rows).length:=λl e=>by
   induction l with
   | nil=>simp
   | cons b l q=>
    let t:=q λc p=>e c (zK _ p);let⟨j,s⟩:=g b (e b zM);let u:=Hv d n b j ∅
    rw[xJ,zS,zO,Nat.add_mul]
    lia
  let h:=o _ λb h=>h;rw[m,Nat.pow_succ];have:2 * 2 ^ n<=(gd ts i).bs.length * 2 ^ n:=Nat.mul_le_mul_right _ f
  lia
end
def YU(X:Zi)(a c:ak):Prop:=c≠X.S/\c≠X.d/\c≠a/\∀ i,i<X.ts.length->c≠(X.as.getD i .d).x/\c≠(X.as.getD i .d).ab/\c≠(X.as.getD i .d).th
structure Go(lk:ak)(H H':Hp)(X X':Zi):Prop where
 S:X'.S=X.S
 d:X'.d=X.d
 fr:∀ c o,YU X lk c->H c=some o->H' c=some o
 off:∀ c o,YU X lk c->H c=some o->YU X' lk c
def Go.trans{f:ak}{H g h:Hp}{X i j:Zi}(a:Go f H g X i)(b:Go f g h i j):Go f H h X j:=⟨b.S.trans a.S,b.d.trans a.d,λc o n e=>b.fr c o (a.off c o n e) (a.fr c o n e),λc o n e=>b.off c o (a.off c o n e) (a.fr c o n e)⟩
def Go.same{lk:ak}{H a:Hp}{X:Zi}(s:ZE H a):Go lk H a X X:=⟨Z,Z,λc o _ e=>s c o e,λc o n _=>n⟩
def Go.looks{d:ak}{H a:Hp}{X:Zi}(s:∀ b o,b≠d->H b=some o->a b=some o):Go d H a X X:=⟨Z,Z,λc o n e=>s c o n.2.2.1 e,λc o n _=>n⟩
abbrev Xu(c:jk)(a b:ak)(H:Hp)(X:Zi)(e:ak)(f:jf)(r:Nat):Prop:=On c a b H X.S X.d e X.ts X.av X.ho X.as X.kvs f r
section
variable{gt:jk}{kc ke:ak}{H H':Hp}{X:Zi}{lk:ak}{ls:jf}{r:Nat}
def Z5.off(R:Z5 kc ke H X.S X.d lk X.ts X.av X.ho X.as X.kvs ls){c:ak}{o:HO}(e:H c=some o)(g:∀ C a j,o≠.ins C a j)(q:∀ k,o≠.dK k)(f:∀ s,o≠.lst s):YU X lk c:=by
 let⟨⟨a,l⟩,m,n⟩:=R.sh;exists ZY e l (g _ _ _),ZY e m (q _),ZY e n (f _);intro i b;let⟨a,p⟩:=(R.tw i b).tw.self;let⟨t,h,_⟩:=(R.tw i b).things;exact⟨ZY e p (g _ _ _),ZY e (R.tw i b).tw.above (f _),ZY e h (f _)⟩
def Go.tups{a:Zi}(g:Go lk H H' X a)(R:Z5 kc ke H X.S X.d lk X.ts X.av X.ho X.as X.kvs ls):Zz H H':=λc b e=>g.fr c _ (R.off e (by intro _ _ _ z;cases z) (by intro _ z;cases z) (by intro _ z;cases z)) e
def Z5.new(R:Z5 kc ke H X.S X.d lk X.ts X.av X.ho X.as X.kvs ls){c:ak}(n:H c=uI):YU X lk c:=by
 let⟨⟨b,f⟩,g,h⟩:=R.sh;exists (Zd f n).symm,(Zd g n).symm,(Zd h n).symm;intro i a;let⟨b,j⟩:=(R.tw i a).tw.self;let⟨k,e,_⟩:=(R.tw i a).things;exact⟨(Zd j n).symm,(Zd (R.tw i a).tw.above n).symm,(Zd e n).symm⟩
def Lq{f:jn}{av':Nat->jl}{ho':Nat->Nat}{b:jt}{kvs':List (Zc×V)}(g:f.length=X.ts.length)(h:∀ c o,(∀ i:Nat,i<X.ts.length->c≠(X.as.getD i .d).x/\c≠(X.as.getD i .d).ab)->H c=some o->H' c=some o)(A:Mm H X.ts.length X.as b):Go lk H H' X ⟨X.S,X.d,f,av',ho',b,kvs'⟩:=
 ⟨rfl,rfl,λc o n e=>h c o (λi a=>⟨(n.2.2.2 i a).1,(n.2.2.2 i a).2.1⟩) e,λc o n e=>⟨n.1,n.2.1,n.2.2.1,λi a=>by
  let a:i<X.ts.length:=by rw[<-g];exact a
  let⟨j,k,l⟩:=n.2.2.2 i a;exists by rw[A.x i a];exact j,by rw[A.ab i a];exact k
  rcases A.th i a with z | z
  ·rw[z];exact l
  ·exact Zd e z⟩⟩
theorem Nr{t:ZQ}{av':Nat->jl}{ho':Nat->Nat}{a:YL}{kvs':List (Zc×V)}(k:X.as.length=X.ts.length)(g:∀ c o,c≠X.S->c≠X.d->(∀ i:Nat,i<X.ts.length->c≠(X.as.getD i .d).x/\c≠(X.as.getD i .d).ab)->H c=some o->H' c=some o)(nx:H a.x=none)(j:H a.th=none)(h:H a.ab=none):Go lk H H' X ⟨X.S,X.d,X.ts++[t],av',ho',X.as++[a],kvs'⟩:=
 ⟨rfl,rfl,λc o n e=>g c o n.1 n.2.1 (λi b=>⟨(n.2.2.2 i b).1,(n.2.2.2 i b).2.1⟩) e,λc o n e=>⟨n.1,n.2.1,n.2.2.1,λi b=>by
  let b:i<X.ts.length+1:=by simpa using b
  show c≠((X.as++[a]).getD i .d).x/\c≠((X.as++[a]).getD i .d).ab/\c≠((X.as++[a]).getD i .d).th;rcases xT i X.ts.length with q | q
  ·rw[HW ∅]
   exact n.2.2.2 i q
  ·let f:i=X.as.length:=∅
   rw[f,HN];exact⟨Zd e nx,Zd e h,Zd e j⟩⟩⟩
end
section
variable{gt:jk}{ts cur:jn}{r n:Nat}{up ps:jl}{A B T:jo}{t:ZQ}
def Yg.chd(c:WF gt ts)(a:r<ts.length)(z:Yg ts r (n::up) ps A B)(C:Of gt ts cur r n up t T):Yg cur r (n::up) ps A B:=by
 let d:=xM.mp (z.nodup c a);exact z.keep c a Z (λi e=>⟨C.hh i,C.sh i λy=>d.1 (y ▸ e)⟩) λb _ _ f=>by rw[C.old b f]
def Yg.app(c:WF gt ts)(a:r<ts.length)(z:Yg ts r (n::up) ps A B):Yg (ts++[t]) r (n::up) ps A B:=
 z.keep c a rfl (λi e=>by rw[Ut ((z.facts c a rfl).2.1 i e).1];exact⟨Z,Z⟩) λb d _ _=>by rw[Ut d]
inductive X7(ts:jn)(av:Nat->jl)(ho:Nat->Nat)(r c:Nat)(A B T:jo):jr->Prop
 | none:(gd ts r).rows=T->X7 ts av ho r c A B T none
 | some {N:Nat}:N<ts.length->Tp av ho N->(gd ts N).h=(gd ts c).h->A++(gd ts c).rows++(gd ts N).rows++B=T->X7 ts av ho r c A B T (some N)
end
inductive PY(c:zZ)(x y:V)(H:Hp)(Q:VK):Prop
 |mk(p:ak)(b:jf)(a:jk)(k:KT)(_:y=.ref p)(_:ZK c H p b)(_:jV H a b)(_:ZC H k x)(_:∀ t∈a,t.depth<=100)(_:Q (.bl (a.any λt=>t.eqb k)) H)
theorem ZO0{Y:Nat}(U:ZS Y X.A):Yy X (aA .In) (PY X.K):=by
 intro M s σ H x y v u Q I rx ry h;let⟨p,N,w,k,rfl,T,L,kx,S,q⟩:=h;cases ry;let⟨a,r,pl,J⟩:=I.list T;let un:=U.un;let c:∀ j y,a[j]? = some y->∃ t,w[j]? = some t/\ZG s.heap t y:=λj y d=>by
  let lr:=r.length;let hl:=(zE.mp d).1;let G:N[j]? = some (N[j]'∅):=zV ∅
  let⟨u1,b,O⟩:=r.get G;rw[d] at b;cases b;let⟨t,i,g⟩:=L.get G;exact⟨t,i,Vd I _ _ _ g O⟩
 let' e:aj->Bool:=λy=>@ite _ (∃ t,ZG s.heap t y/\t.eqb k=true) (Classical.propDecidable _) true false
 let B:∀ y t,ZG s.heap t y->e y=t.eqb k:=λy t F=>by
  by_cases h:∃ t,ZG s.heap t y/\t.eqb k=true
  ·let⟨o,C,D⟩:=h;rw[Vw _ _ (ZG.inj _ _ _ F C),D];exact aP ⟨o,C,D⟩
  ·rw[show e y=false from aO h]
   cases z:t.eqb k with
   | true=>exact absurd ⟨t,F,z⟩ h
   | false=>rfl
 let R:a.toArray.any e=w.any λt=>t.eqb k:=by
  let lr:=r.length;let lk:=L.length;rw[List.any_toArray];have:∀(l:je)(m:jk),l.length=m.length->(∀ j y,l[j]? = some y->∃ t,m[j]? = some t/\ZG s.heap t y)->l.any e=m.any λt=>t.eqb k:=λl=>by
   induction l with
   | nil=>
    intro m f _
    cases m with
    | nil=>rfl
    | cons _ _=>simp at f
   | cons y l W=>
    intro m f E
    cases m with
    | nil=>simp at f
    | cons t m=>
     let⟨o,b,P⟩:=E 0 y Z;let b:some t=some o:=b;cases b;rw[vW,vW,B y t P,W m (by simpa using f) λj z J=>E (j+1) z J]
  exact this a w ∅ c
 refine PySem.SeqAt.in_listAt e pl.isList (λy V=>?_) ⟨.bl _,H,I,Z,by rw[R];exact q⟩
 let n:y∈a:=by simpa using V
 let⟨j,d⟩:=vR n;let⟨t,i,g⟩:=c j y d;rw[B y t g];have:=S t (zJ i);exact Pr t.depth t k X.A.in1 y v (zY _) g (Vd I _ _ _ kx rx) (by show X.A.units+1+_<_;lia)
end Tw
namespace L2
open PySem PySem.Spec PyProof.Rows
def Np(b:Int)(n:Nat):It:=⟨λi _=>i<n,λi H x a=>a=H/\x=.int (b-i),λi _=>n<=i⟩
theorem ZI4{P:am}{w:ax}{K:zZ}{Q:Expr}(c:ak)(g:Int)(n:Nat):Vo P w K Q (Np g n) [c] c (λi h=>IsRangeIter h c (g+(i:Nat) * (-1)) ((n:Int)-(i:Nat)) (-1)) where
 mem:=by simp
 obj:=λi h a b f=>by
  let e:b=c:=by simpa using f
  subst e;exact⟨_,a,λv z=>by
   let R:Data.fields _=Data.cell v:=z;cases R⟩
 keep:=λi h l a k=>k c (by simp) _ a
 item:=by
  intro X A D y B i d s G H E I m a C;subst A D y;let⟨p,q,M,r,u,x⟩:=m c (by simp)
  let W:=Walks.range (prog:=X.prog) (w:=X.w) (I.ok.hd B) c g (-1) n;refine W.item i s _ _ C a λv l F N j O=>?_;let⟨t,rfl⟩:=N;let J:ZF X d G H { s with heap:=l,toks:=F }:=I.turned (λb o f e=>O b o (by simpa using f) e) p q r u x
  refine⟨_,Z,N9 (s:={ s with heap:=l,toks:=F }) (n:= "range_iterator") j Z Z (by decide) ⟨.int (g-i),H,J,⟨t,?_⟩,⟨Z,Z⟩,j,λb f=>(m b f).1⟩⟩
  rw[show g+(i:Int) * (-1)=g-i by lia]
 done:=by
  intro X A D y B i d s G H E I m a C;subst A D y;let⟨p,q,M,r,u,x⟩:=m c (by simp)
  exact wpAny_pyNext_range_end (I.ok.hd B) a (by have:n<=i:=C;lia) λl L=>⟨Z,I.turned (t':=s.toks) (λb o f e=>L b o f e) p q r u x⟩
 self:=λ_ _ _ _ _ a h=>wpAny_pyIter_rangeiter a h
section
variable{tg:Expr}
inductive MC(R:It->Hp->Prop)(b:jf)(a:Hp):Prop
 |mk(n:Nat)(_:b=[.int ((n:Int)-1),.int (-1),.int (-1)])(_:n<=1000)(_:R (Np ((n:Int)-1) n) a)
def ZRM(b:TA):TI:=λd H R=>b d H λc a=>MC R c a
theorem Cl(n:Nat):Builtin.Range.rangeSize ((n:Int)-1) (-1) (-1)=n:=by
 unfold Builtin.Range.rangeSize;rw[aO (by decide)]
 split
 ·rw[show -(-1:Int)=1 from rfl,Int.ediv_one];lia
 ·lia
theorem ZMf{a b c:Expr}{m:TA}{p i:aJ}(C:Gl X "range")(D:X.mg "range" = none)(A:PA X [a,b,c] m)(E:aw [a,b,c] X.env=[(false,aH a X.env),(false,aH b X.env),(false,aH c X.env)]:=by rfl)(g:aw [b,c] X.env=[(false,aH b X.env),(false,aH c X.env)]:=by rfl):
  PI X tg (.Call (.Name "range" p) [a,b,c] [] i) (ZRM m):=by
 intro d s w H R I h;refine Call_ (Oh I C D boot_range (PyProof.Rows.callWith_type1 (Z7 (A i d s w H _ I h) λM f N l x J F=>?_) (by rw[E,g]) (by rw[g];rfl)))
 let⟨n,e,L,q⟩:=F;subst e
 cases J with
 | cons r j=>
  cases j with
  | cons G j=>
   cases j with
   | cons K j=>
    cases j;let⟨t,rfl⟩:=r;let⟨u,rfl⟩:=G;let⟨v,rfl⟩:=K;refine call_range_3 (by decide) ?_ (.inl (PyProof.noPylong_small ∅))
    refine wpAny_pyIter_range (IsRange.new ..) ?_ ?_
    ·unfold Builtin.Range.small;rw[Cl];simp only[Builtin.Range.rangeFitsLong,zP,Bool.or_eq_true,decide_eq_true_eq,beq_iff_eq,show ¬ (-1:Int) > 0 by decide,if_false]
     lia
    ·let k:ZF X d w l { f with heap:=f.heap.push { cls:=.type "range",data:=.fields #[.int ((n:Int)-1) t,.int (-1) u,.int (-1) v] },toks:=f.toks }:=x.kept λb o e=>zB _ e;refine⟨(f.heap.push { cls:=.type "range",data:=.fields #[.int ((n:Int)-1) t,.int (-1) u,.int (-1) v] }).objs.size,[(f.heap.push { cls:=.type "range",data:=.fields #[.int ((n:Int)-1) t,.int (-1) u,.int (-1) v] }).objs.size],_,_,l,Z,
      k.kept (t':=f.toks) λb o e=>zB _ e,ZI4 _ ((n:Int)-1) n,?_,λb B=>?_,q⟩
     ·let y:(n:Int)-1+((0:Nat):Int) * (-1)=(n:Int)-1:=by simp
      let z:((n:Nat):Int)-((0:Nat):Int)=Builtin.Range.rangeSize ((n:Int)-1) (-1) (-1):=by rw[Cl];lia
      show IsRangeIter _ _ ((n:Int)-1+((0:Nat):Int) * (-1)) (((n:Nat):Int)-((0:Nat):Int)) (-1);rw[y,z];exact yO _ Z
     ·let e:b=(f.heap.push { cls:=.type "range",data:=.fields #[.int ((n:Int)-1) t,.int (-1) u,.int (-1) v] }).objs.size:=by simpa using B
      subst e;exact k.fpOk (zY _) (k.hok.fresh (zY _))
def Ag{j:Int}{n:Nat}{g:TG}{o:TS}{D:YM}{a:St}{H:Hp}(c:Nat->St->Hp->Prop)(q:c 0 a H)(s:∀ i a H,i<n->c i a H->g (.int (j-i)) a H λh k=>o { D with nx:=c (i+1),ct:=c (i+1),bk:=D.nx } h k)(r:∀ a H,c n a H->D.nx a H):
  ∃ W:Nat->Nat->St->Hp->Prop,(∃ m,W 0 m a H)/\∀ i m a H,W i m a H ->
   ((Np j n).stop i H/\D.nx a H)\/((Np j n).go i H/\∃ N:St->Hp->Prop,(∀ f b,N f b->∃ l,l<m/\W (i+1) l f b)/\∀ x b,(Np j n).yld i H x b->g x a b λh k=>o { D with nx:=N,ct:=N,bk:=D.nx } h k):=by
 exists λi m a H=>m=n-i/\i<=n/\c i a H,⟨n,by simp,zD _,q⟩
 rintro i m a H ⟨rfl,j,p⟩;by_cases d:i<n
 ·refine .inr ⟨d,c (i+1),λf b t=>⟨n-(i+1),∅,Z,d,t⟩,λx b y=>?_⟩
  let⟨e,y⟩:=y;subst e y;exact s i a _ d p
 ·let e:i=n:=∅
  subst e;exact .inl ⟨zY _,r a H p⟩
end
end L2
namespace Tw
open PySem PySem.Spec L2 PyProof.Rows
variable{kc ke CS CT CH CK CP CB:ak}
def HF{a:jf}(n:Nat):VH a none (some (n:Int))=a.take n:=by
 unfold VH;rw[HT.sIx_none,HT.sIx_nat];simp only[tV,Nat.sub_zero];rcases Nat.le_total n a.length with h | h
 ·rw[uR h]
 ·rw[sJ h,yY (zY _),yY h]
def J0{a:jf}(n:Nat):VH a (some (n:Int)) none=a.drop n:=by
 unfold VH;rw[HT.sIx_none,HT.sIx_nat];rcases Nat.le_total n a.length with h | h
 ·rw[uR h];exact yY (by simp)
 ·rw[sJ h,tY,vQ (zY _),vQ h];rfl
def NJ(a:jo)(n:Nat):YD (a.take n)=(YD a).take n/\YD (a.drop n)=(YD a).drop n:=⟨sQ,sR⟩
inductive Yp:Sp
 |mk{l q:ak}{c:jf}{a:jo}{d e:V}{k v:KT}{H:Hp}{Q:VK}{E:XK}:H l=some (.lst c)->jV H (YD a) c->H q=some (.tup [d,e])->ZC H k d->ZC H v e->a.length<=4->(∀ r∈a,r.fit)->Up a ->
  (∀(b:Hp)(D:ak)(g:jf),ZE H b->H D=none->b D=some (.lst g)->jV b (YD (ins k v a)) g->Q (.ref D) b)->Yp [.ref l,.ref q,.int (cnt (a.map (·.1)) k:Nat)] H Q E
theorem WZ:ZB zFg zFg (Za IU):=Zr
theorem ZGA(F:Zh K "rows_with" "rows_with" IU f fd):ZI P w K mg kh ZO 1 f fd zFg Yp:=by
 refine F.ok WZ (λvs H Q E h=>(by cases h;rfl)) (λa3 A a1 s H vs Q E hr h=>?_)
 let⟨hl,kr,hq,kk,kv,r4,rf,ru,q⟩:=h;rename_i l O d o vk vv k v
 let nd:=WZ.nd;intro Xc;refine⟨_,ZT (Zf (Zx MK (Zx MK (Qe Qo (pv 0) Pq (QN (pv 2))) (Y3 (ZU (pv 1))))
  (Vm [1] ["row"] rfl (Wj (Qe Qo (pv 0) (QN (pv 2)) Pq)) (λ_ _ _ _ _=>Mo (Y2 (AI hr) (Wf K (pv 0) ZL) (Wf K (pv 1) ZL) (YW _))) (λ_ _ _ _ _=>pv 0) ⟨rfl,.inl rfl,rfl,trivial⟩))),?_⟩
 generalize hn:cnt (o.map (·.1)) k=n;let lu:d.length=o.length:=by have:=kr.length;rw[<-this];exact zX _
 let S:=AT (k:=k) (v:=v) ru;rw[hn] at S;exists _,Z,_,Z,_,Z,l,d,Z,ZK.of hl;intro p1 n1;rw[HF];let⟨H1,t,g1,h1⟩:=XR n1 (.lst (d.take n));rw[t];exists _,Z,YQ;intro p2 n2;let⟨H2,t,g2,h2⟩:=XR n2 (.lst [.ref O]);rw[t];exists p1,p2,d.take n,_,Z,Z,g2 _ _ h1,h2,nn (by rw[yP];simp;lia)
 intro p3 n3;let⟨H3,t,g3,h3⟩:=XR n3 (.lst (d.take n++[.ref O]));rw[t];let s3:=(g1.trans g2).trans g3;exists _,Z,_,Z,_,Z,l,d,Z,ZK.of (s3 _ _ hl);intro p4 n4;rw[J0];let⟨M,t,g4,C⟩:=XR n4 (.lst (d.drop n));rw[t];let I:=s3.trans g4;let N:jV M (YD (o.drop n)) (d.drop n):=by rw[(NJ o n).2];exact(kr.drop n).sm I
 let W:=I _ _ hq;let Y:=kk.sm I;let ld:(d.drop n).length=(o.drop n).length:=by rw[yD,yD,lu]
 let df:∀ r∈o.drop n,r.fit:=λr h=>rf r (vC h);let l4:(d.drop n).length<=4:=by rw[yD];lia
 generalize o.drop n=p at N ld S df;generalize d.drop n=y at N ld l4 C;refine⟨p4,Z,⟨_,ZK.of C⟩,JH (n:=y.length) (λi z=>y[i]? = some z) (λi=>!(p.getD i rd).1.eqb k) (λD i m g=>ZE M g/\M D=none/\jV M (YD ((p.take i).filter λr=>!r.1.eqb k)) m) (XU ∅)
  (λD i m g G c=>⟨y,y[i],ZK.of (c.1 _ _ C),by simp[G]⟩) (λD i m g z H6 G c hy=>⟨hy.1,hy.2 y (ZK.of (c.1 _ _ C))⟩) (λD m g c=>⟨y,ZK.of (c.1 _ _ C),zY _⟩)
  (λD hD=>⟨Zl hD _,hD,.nil⟩) (λD i m g z x G X c B U=>?_) (λD i m g z x G X V c B U=>?_) (λD i m g x G V c=>?_) (λD m g x c=>?_)⟩
 ·let⟨b,u,j⟩:=c;let⟨a,L,a2,e,rfl,T,R,c2⟩:=P3 N X;let a0:=(df _ (zJ e)).1;exact⟨_,Z,a,_,_,L,Z,Z,Zv.of (b _ _ T),Z,_,Z,O,_,_,vk,Z,Z,Zv.of (b _ _ W),Z,_,_,R.sm b,Y.sm b,zN (Vf _ 3 a0) (by decide),⟨_,Z,U g x ⟨b,u,j⟩⟩⟩
 ·let⟨b,u,j⟩:=c;let⟨a,L,a2,e,rfl,T,R,c2⟩:=P3 N X;refine⟨_,Z,U _ g x ⟨UK b u,u,?_⟩⟩;rw[Nb _ e,aP V,Mv];exact j.append (.cons (.tup T (.cons R (.cons c2 .nil))) .nil)
 ·let⟨b,u,j⟩:=c;let e:p[i]? = some (p.getD i rd):=by rw[zU,zV ∅];rfl
  exists b,u;rw[Nb _ e,aO (by rw[V];exact zW),yQ]
  exact j
 ·let⟨b,u,j⟩:=c;rw[yY ∅] at j
  let ll:=j.length;let lf:=rM (λr:ZZ=>!r.1.eqb k) p;let e3:(YD (p.filter λr=>!r.1.eqb k)).length=(p.filter λr=>!r.1.eqb k).length:=zX _;exists p3,D,_,_,Z,Z,b _ _ (g4 _ _ h3),x,nn (by rw[zS,yP];simp;lia)
  intro p6 n6;let g6:=Zl n6 (.lst (d.take n++[.ref O]++m));let J:=(I.trans b).trans g6;refine q _ p6 _ J ((I.trans b).free n6) ZV ?_;rw[<-S,Mv,Mv,(NJ o n).1];refine(((kr.take n).sm J).append (.cons (.tup (J _ _ hq) (.cons (kk.sm J) (.cons (kv.sm J) .nil))) .nil)).append ?_;exact j.sm (b.trans g6)
def KJ{a:jo}(f:∀ r∈a,r.fit)(u:Up a)(b:0<a.length)(c:a.length<=4):WO a:=⟨f,b,c,u⟩
def Mj{b:jk}{c:jn}{i:Nat}{a:jo}(g:WO a):YO b c i (WL a):=
 ⟨λz=>by have:=g.2.1;rw[show (WL a).rows=a from rfl] at z;rw[z] at this;simp at this,g.2.2.2,g.1,λ_=>⟨rfl,g.2.2.1⟩,λz=>absurd rfl z⟩
def Kn(n:Nat)(a:Nat->jl):X1 [] n a=a:=funext λi=>aO (by simp)
def Ku(a:Nat->Nat):WA [] a=a:=funext λi=>aO (by simp)
section
variable{gt:jk}{kc ke:ak}{H H':Hp}{X:Zi}{lk:ak}{ls:jf}{r n:Nat}{up ps:jl}{A B T:jo}{cur:jn}{as':jt}
def D6{b:jo}(O:Xu gt kc ke H X lk ls r)(z:Yg X.ts r (n::up) ps A B)(a:(gd X.ts n).h=0)(C:Of gt X.ts cur r n up (WL b) T)(R:Z5 kc ke H' X.S X.d lk cur X.av X.ho as' X.kvs ls):Xu gt kc ke H' ⟨X.S,X.d,cur,X.av,X.ho,as',X.kvs⟩ lk ls r:=
 ⟨R,C.wf,by show r<cur.length;rw[C.len];exact O.hr,ZK6 O.hb C.len λi=>by
  by_cases y:i=n
  ·rw[y,C.at_,((O.wf n _ (YN (z.facts O.wf O.hr rfl).1)).leaf a).1];rfl
  ·exact C.sh i y,O.tp⟩
def FY{a:jl}(O:Xu gt kc ke H X lk ls r)(z:Yg X.ts r (n::up) ps A B)(g:∀ b∈Uz X.ts n a,Tp X.av X.ho b)(f:r∉a)(C:Of gt X.ts cur r n up (YA X.ts a) T)(R:Z5 kc ke H' X.S X.d lk cur (QD X.ts n a X.av) (Uo X.ts n a X.ho) as' X.kvs ls):Xu gt kc ke H' ⟨X.S,X.d,cur,QD X.ts n a X.av,Uo X.ts n a X.ho,as',X.kvs⟩ lk ls r:=by
 let⟨c,h,e⟩:=Ce O.hb (z.facts O.wf O.hr Z).1 g C.len (by rw[C.at_];rfl) C.sh
 exact⟨R,C.wf,by show r<cur.length;rw[C.len];exact O.hr,c,e r O.tp f⟩
def Ds{t:ZQ}{a:YL}{kvs':List (Zc×V)}{X':Zi}(O:Xu gt kc ke H X lk ls r)(j:YO gt X.ts X.ts.length t)(h:∀ b∈t.bs,b<X.ts.length/\Tp X.av X.ho b)(i:r∉t.bs)(c:X'=⟨X.S,X.d,X.ts++[t],X1 t.bs X.ts.length (Wl X.ts.length X.av),WA t.bs (Wk X.ts.length X.ho),X.as++[a],kvs'⟩)(R:Z5 kc ke H' X'.S X'.d lk X'.ts X'.av X'.ho X'.as X'.kvs ls):Xu gt kc ke H' X' lk ls r/\Tp X'.av X'.ho X.ts.length:=by
 subst c;let⟨e,f,g⟩:=LS O.wf O.hb h;exact⟨⟨R,O.wf.push j,by show r<(X.ts++[t]).length;have:=O.hr;rw[zS];lia,e,f r O.hr i O.tp⟩,g⟩
end
inductive Yw(d:jk)(kc ke:ak):Sp
 |mk{X:Zi}{e l:ak}{i k:jf}{r n:Nat}{b:jo}{g j:jl}{A B:jo}{H:Hp}{Q:VK}{E:XK}:
  Xu d kc ke H X e i r->Yg X.ts r (n::g) j A B->g.length<=800->X.ts.length<=790->(gd X.ts n).h=0->H l=some (.lst k)->jV H (YD b) k->(∀ x∈b,x.fit)->0<b.length->b.length<=5->Up (A++b++B) ->
  (∀(c:Hp)(a:Zi)(o:jr),Go e H c X a->Xu d kc ke c a e i r->Yg a.ts r (n::g) j A B->X7 a.ts a.av a.ho r n A B (A++b++B) o->a.ts.length<=X.ts.length+1->Q (XB o) c)->Yw d kc ke [.ref X.S,.int (n:Nat),.ref l] H Q E
theorem BW:ZB zE6 zE6 (Za JV):=Zr
theorem ZGa{gt:jk}(F:Zh K "give_rows" "give_rows" JV f fd)(T:Yb mg)(L:Yq K mg kc ke)(DC:ZD P w K mg kh ZO 11 kc "change_leaf" zFe (Xe gt kc ke))(DP:ZD P w K mg kh ZO 10 kc "put_leaf" zE8 (XF kc ke)):ZI P w K mg kh ZO 12 f fd zE6 (Yw gt kc ke):=by
 refine F.ok BW (λvs H Q E h=>(by cases h;rfl)) (λa7 A a5 s H vs Q E hr h=>?_)
 let⟨O,z,u8,t7,u,I,W,rf,r1,r5,U,q⟩:=h;rename_i X Y l ls k r n j up ps A B
 let J:=hr.mono (show 10<=11 by lia)
 let⟨t0,m0⟩:=T.rows;let⟨t1,m1⟩:=T.kept;intro Xc;refine⟨_,ZM (Z3 (Y2 P2 (Z6 WK rfl T.len X3 (ZU (pv 2))) (Xp (v:=.int 4) rfl m0 ⟨_,rfl⟩) (YW _)) (ZM (XS (YH (E:=E0) (pv 0) L.cS DC hr YG (Zn (pv 1) (pv 2)))) (ZT (Zf OE))) Z4)
  (ZM (XS (YH (E:=E0) (pv 0) L.cS DC hr YG (Zn (pv 1) (Qe Qo (pv 2) Pq (QN (Xp (v:=.int 3) rfl m1 ⟨_,rfl⟩))))))
  (ZT (Zf (YH (E:=E0) (pv 0) L.cS DP J YG (ZU (Qe Qo (pv 2) (QN (Xp (v:=.int 3) rfl m1 ⟨_,rfl⟩)) Pq)))))),?_⟩
 let R:=O.sh;let⟨dS,hS⟩:=R.sh.self;let lu:k.length=j.length:=by have:=W.length;rw[<-this];exact zX _
 let Ur:Up j:=yA.sublist (wX.map _ ((uD A _).trans (uG _ B))) U;let⟨hn,fu,_,_⟩:=z.facts O.wf O.hr Z;exists _,Z,l,k,Z,.inl (ZK.of I),_,_,Z,Z,_,Z;by_cases c4:j.length<=4
 ·rw[aM (show ((k.length:Nat):Int)<=4 by lia)]
  let G:=KJ rf Ur r1 c4;let⟨g,ch,C⟩:=LE (t:=WL j) O.wf O.hr O.hb O.tp z u.symm (Mj G) U;refine Z0 ⟨_,Z,X.S,dS,_,Z,hS,Z,_,Z,_,Z,.mk O z u8 I W G u ch C λM m N R1 A1=>?_⟩;let O1:=D6 O z u C R1;exact q M _ none (Lq C.len (λc o n e=>N c o (λi D=>(n i D).1) e) A1) O1 (z.chd O.wf O.hr C) (.none C.rows) (by show g.length<=_;rw[C.len];lia)
 rw[aK (show ¬ ((k.length:Nat):Int)<=4 by lia)]
 refine Zo ?_;let sp:j.take 3++j.drop 3=j:=xQ 3 j;let l3:(j.take 3).length=3:=by rw[yP];lia
 let l2:(j.drop 3).length=2:=by rw[yD];lia
 let G3:=KJ (λx h=>rf x (rA h)) (yA.sublist ((uL 3 j).map _) Ur) ∅ ∅
 let G2:=KJ (λx h=>rf x (vC h)) (yA.sublist ((rV 3 j).map _) Ur) ∅ ∅
 let U3:Up (A++(WL (j.take 3)).rows++B):=by
  refine yA.sublist (wX.map _ ?_) U;exact(((uL 3 j).append_left A).append_right B)
 let⟨g,ch,C⟩:=LE (t:=WL (j.take 3)) O.wf O.hr O.hb O.tp z u.symm (Mj G3) U3;exists _,Z,X.S,dS,_,Z,hS,Z,_,Z,_,Z,_,Z,l,k,Z,ZK.of I;intro p1 n1;rw[show VH k none (some (3:Int))=k.take 3 from HF 3];let⟨M,eU,p,h1⟩:=XR n1 (.lst (k.take 3));rw[eU];let k3:jV M (YD (j.take 3)) (k.take 3):=by rw[(NJ j 3).1];exact(W.take 3).sm p
 refine .mk (O.same p) z u8 h1 k3 G3 u ch C λH2 m N R2 A2=>?_;let O2:=D6 O z u C R2;let gA:Go Y M H2 X ⟨X.S,X.d,g,X.av,X.ho,m,X.kvs⟩:=Lq C.len (λc o n e=>N c o (λi D=>(n i D).1) e) A2;let gB:=(Go.same (X:=X) (lk:=Y) p).trans gA;let⟨a0,a2⟩:=R2.sh.self;let a3:H2 l=some (.lst k):=N _ _ (λi D=>by
  let⟨dx,hx⟩:=((R.same p).tw i D).tw.self;exact ZY (p _ _ I) hx) (p _ _ I)
 let t2:Zz H H2:=gB.tups R;exists _,Z,X.S,a0,_,Z,a2,Z,_,Z,_,Z,l,k,Z,ZK.of a3;intro p3 n3;rw[show VH k (some (3:Int)) none=k.drop 3 from J0 3];let⟨H3,eU,V,h3⟩:=XR n3 (.lst (k.drop 3));rw[eU];let k2:jV H3 (YD (j.drop 3)) (k.drop 3):=by rw[(NJ j 3).2];exact((W.drop 3).mono t2 _ _).sm V
 exists X.S,X.d,Y,p3,g,X.av,X.ho,m,X.kvs,ls,k.drop 3,j.drop 3,Z,R2.same V,by rw[C.len];lia,h3,k2,G2
 intro H4 a nx nt na a1 R4;let gC:Go Y H3 H4 ⟨X.S,X.d,g,X.av,X.ho,m,X.kvs⟩ ⟨X.S,X.d,g++[WL (j.drop 3)],Wl g.length X.av,Wk g.length X.ho,m++[a],Y1 X.kvs (.inl (g.length:Int)) (.ref a.x)⟩:=Nr R2.len (λc o n1 n2 _ e=>a1 c o n1 n2 e) nx nt na;let⟨O4,a6⟩:=Ds (t:=WL (j.drop 3)) (X':=⟨X.S,X.d,g++[WL (j.drop 3)],Wl g.length X.av,Wk g.length X.ho,m++[a],Y1 X.kvs (.inl (g.length:Int)) (.ref a.x)⟩) (O2.same V) (Mj G2) (λb hb=>by cases hb) (λy=>by cases y) (by rw[show (WL (j.drop 3)).bs=[] from rfl,Kn,Ku]) R4
 let a4:r<g.length:=by rw[C.len];exact O.hr
 let z4:=(z.chd O.wf O.hr C).app (t:=WL (j.drop 3)) C.wf a4;refine q H4 _ (some g.length) ((gB.trans (Go.same V)).trans gC) O4 z4 (.some (by show g.length<(g++[_]).length;simp) a6 ?_ ?_) (by show (g++[_]).length<=_;rw[zS,C.len];simp)
 ·show (gd (g++[_]) g.length).h=(gd (g++[_]) n).h;rw[QK,Ut (by rw[C.len];exact hn),C.at_]
  rfl
 ·show A++(gd (g++[_]) n).rows++(gd (g++[_]) g.length).rows++B=_;rw[QK,Ut (by rw[C.len];exact hn),C.at_]
  show A++j.take 3++j.drop 3++B=_;rw[yF A,sp]
section
variable{gt:jk}{kc ke:ak}{H H':Hp}{X:Zi}{lk:ak}{ls ls':jf}{r:Nat}
def Z5.but(R:Z5 kc ke H X.S X.d lk X.ts X.av X.ho X.as X.kvs ls){c:ak}{o:jf}(s:ZH c H H')(a:H c=some (.lst o))(h:YU X lk c):Z5 kc ke H' X.S X.d lk X.ts X.av X.ho X.as X.kvs ls:=by
 let t:=s.tups a;let⟨⟨j,f⟩,g,k⟩:=R.sh;refine⟨⟨⟨j,s _ _ f (ZY f a)⟩,s _ _ g (ZY g a),s _ _ k h.2.2.1.symm⟩,R.keys,R.val,R.len,λi b=>?_,R.own,R.two⟩;let⟨p,l⟩:=(R.tw i b).tw.self;let⟨_,m,n⟩:=h.2.2.2 i b;exact(R.tw i b).frame t (λo e=>s _ _ e (ZY l a)) (λo e=>s _ _ e n.symm) (λo e=>s _ _ e m.symm)
def Xu.but(O:Xu gt kc ke H X lk ls r){c:ak}{o:jf}(s:ZH c H H')(a:H c=some (.lst o))(b:YU X lk c):Xu gt kc ke H' X lk ls r:=⟨O.sh.but s a b,O.wf,O.hr,O.hb,O.tp⟩
def Xu.q(O:Xu gt kc ke H X lk ls r):Xi kc ke H X lk X.ts.length ls:=O.sh.q
def Xu.of(O:Xu gt kc ke H X lk ls r)(R:Xi kc ke H' X lk X.ts.length ls'):Xu gt kc ke H' X lk ls' r:=⟨⟨R.sh,O.sh.keys,O.sh.val,O.sh.len,R.tw,O.sh.own,O.sh.two⟩,O.wf,O.hr,O.hb,O.tp⟩
end
def BA{d:jn}{Y c:jl}(h:Y.Sublist c):(Zp d Y).Sublist (Zp d c):=by
 induction h with
 | slnil=>exact wX.slnil
 | cons a _ b=>rw[QB];exact b.trans (uD _ _)
 | cons_cons a _ b=>rw[QB,QB];exact(wX.refl _).append b
def ZOa(l m:jl)(c N:Nat):(iN (l++c::m)).take (l.length+1)++V.int (N:Nat)::(iN (l++c::m)).drop (l.length+1)=iN (l++c::N::m):=by
 let e:iN (l++c::m)=iN (l++[c])++iN m:=by unfold iN;rw[<-zC];simp
 let n:(iN (l++[c])).length=l.length+1:=by simp[iN]
 rw[e,List.take_left' n,List.drop_left' n];simp[iN]
def YO.at_{a:jk}{b:jn}{i j:Nat}{t:ZQ}(h:YO a b i t):YO a b j t:=⟨h.ne,h.up,h.inn,h.leaf,h.stem⟩
inductive Yc(d:jk)(kc ke:ak):Sp
 |mk{X:Zi}{e:ak}{g:jf}{r p c N:Nat}{i j l m:jl}{A B T:jo}{H:Hp}{Q:VK}{E:XK}:
  Xu d kc ke H X e g r->Yg X.ts r (p::i) j A B->i.length<=800->X.ts.length<=790->g.length<=380000->(gd X.ts p).h≠0->(gd X.ts p).bs=l++c::m->N<X.ts.length->Tp X.av X.ho N->(gd X.ts N).h=(gd X.ts c).h->A++Zp X.ts (l++c::N::m)++B=T->Up T ->
  (∀(b:Hp)(a:Zi)(o:jr),Go e H b X a->Xu d kc ke b a e (g++[.int (p:Int)]) r->Yg a.ts r (p::i) j A B->X7 a.ts a.av a.ho r p A B T o->a.ts.length<=X.ts.length+1->Q (XB o) b)->Yc d kc ke [.ref X.S,.int (p:Nat),.int ((l.length:Nat)+1:Int),.int (N:Nat)] H Q E
theorem X6:ZB ["shelf","stem","at","number","branches"] zEz (Za Jb):=Zr
theorem ZE0{gt:jk}(F:Zh K "add_branch" "add_branch" Jb f fd)(T:Yb mg)(L:Yq K mg kc ke)(DL:ZD P w K mg kh ZO 2 kc "look" zEa (Xo kc ke))(DC:ZD P w K mg kh ZO 11 kc "change_stem" zE9 (Xk gt kc ke))(DP:ZD P w K mg kh ZO 10 kc "put_stem" zEe (YC gt kc ke)):ZI P w K mg kh ZO 12 f fd zEz (Yc gt kc ke):=by
 refine F.ok X6 (λvs H Q E h=>(by cases h;rfl)) (λe5 A e2 s H vs Q E hr h=>?_)
 let⟨O,z,u8,t7,e6,h0,eb,hN,tN,e7,eT,UT,q⟩:=h;rename_i X lk ls r p c N up ps l m A B T0
 let nd:=X6.nd;let c0:=hr.mono (show 10<=11 by lia)
 let c9:=hr.mono (show 2<=11 by lia)
 let⟨t0,m0⟩:=T.most;let⟨t1,m1⟩:=T.kept;intro Xc;refine⟨_,ZM (Zg 4 nd (Wf K (YH (E:=E0) (pv 0) L.cS DL c9 YG (ZU (pv 1))) ZL))
  (ZM (XS (Ug xP PySem.F.slot_list_insert PySem.F.type_list_insert ZIi (pv 4) (Zn (pv 2) (pv 3))))
  (ZM (Z3 (Y2 P2 (Z6 WK rfl T.len X3 (ZU (pv 4))) (Xp (v:=.int 4) rfl m0 ⟨_,rfl⟩) (YW _)) (ZM (XS (YH (E:=E0) (pv 0) L.cS DC hr YG (Zn (pv 1) (pv 4)))) (ZT (Zf OE))) Z4)
  (ZM (XS (YH (E:=E0) (pv 0) L.cS DC hr YG (Zn (pv 1) (Qe Qo (pv 4) Pq (QN (Xp (v:=.int 3) rfl m1 ⟨_,rfl⟩))))))
  (ZT (Zf (YH (E:=E0) (pv 0) L.cS DP c0 YG (ZU (Qe Qo (pv 4) (QN (Xp (v:=.int 3) rfl m1 ⟨_,rfl⟩)) Pq)))))))),?_⟩
 let⟨dS,hS⟩:=O.sh.sh.self;let⟨hp,fu,_,_⟩:=z.facts O.wf O.hr Z;let rh:(gd X.ts p).h<=(gd X.ts r).h:=by have:=(z.facts O.wf O.hr Z).2.2.2;lia
 let⟨b2,b4,b3,er⟩:=(O.wf p _ (YN hp)).stem h0;let hc:=b3 c (by rw[eb];simp)
 exists _,Z,X.S,dS,_,Z,hS,Z,_,Z,X,lk,X.ts.length,ls,p,Z,O.q,hp,by lia
 intro H1 tp D i2 c5 R1 e0 nl hl _ k2;let k2:=k2 h0;subst k2;let O1:=O.of R1;let G1:Go lk H H1 X X:=Go.looks c5;let a5:YU X lk D:=O.sh.new nl;exists tp,_,_,.ref D,Z,Z,Zv.of e0,Z;let lb:(iN (gd X.ts p).bs).length=(gd X.ts p).bs.length:=zX _;let e9:(gd X.ts p).bs.length=l.length+(m.length+1):=by rw[eb,zS,zO]
 exists _,Z,.inl ⟨Z,_,ZK.of hl⟩,_,Z,_,Z,D,_,l.length+1,.int (N:Nat),Z,Z,hl,∅,XU ∅
 let eI:(iN (gd X.ts p).bs).take (l.length+1)++V.int (N:Nat)::(iN (gd X.ts p).bs).drop (l.length+1)=iN (l++c::N::m):=by rw[eb];exact ZOa l m c N
 rw[eI];let sX:ZH D H1 (upd H1 D (.lst (iN (l++c::N::m)))):=(ZH.refl D H1).upd;let O2:=O1.but sX hl a5;let I:upd H1 D (.lst (iN (l++c::N::m))) D=some (.lst (iN (l++c::N::m))):=ZV;let G2:Go lk H (upd H1 D (.lst (iN (l++c::N::m)))) X X:=⟨Z,Z,λc' o n e=>by rw[ZR (Zd e nl)];exact G1.fr c' o n e,λ_ _ n _=>n⟩
 generalize upd H1 D (.lst (iN (l++c::N::m)))=H2 at sX O2 I G2⊢;let R2:=O2.sh;let⟨a6,a8⟩:=R2.sh.self;let i0:(l++c::N::m).length=l.length+(m.length+2):=by rw[zS,zO,zO]
 let a3:∀ b∈l++c::N::m,b=N\/b∈(gd X.ts p).bs:=λb k=>by
  rw[eb];rcases zA.mp k with y | y
  ·exact .inr (xZ _ y)
  ·rcases zQ.mp y with y | y
   ·exact .inr (by rw[y];simp)
   ·rcases zQ.mp y with y | y
    ·exact .inl y
    ·exact .inr (by simp[y])
 let u:∀ b∈l++c::N::m,b<X.ts.length/\(gd X.ts b).h+1=(gd X.ts p).h/\(gd X.ts b).rows≠[]:=λb k=>by
  have:b<X.ts.length/\(gd X.ts b).h+1=(gd X.ts p).h:=by
   rcases a3 b k with y | y
   ·rw[y];exact⟨hN,∅⟩
   ·exact b3 b y
  exact⟨this.1,this.2,(O.wf b _ (YN this.1)).ne⟩
 generalize e8:l++c::N::m=j at *;let a4:∀ b∈j,b≠r:=λb k y=>by have:=(u b k).2.1;rw[y] at this;lia
 let e4:j.length<=5:=∅
 let i1:∀{Y:jl},Y.Sublist j->∀ b∈Y,b∈j:=λh b k=>h.subset k;let G:∀{Y:jl},Y.Sublist j->Up (Zp X.ts Y):=fun{Y} h=>by
  refine yA.sublist (wX.map _ ?_) UT;rw[<-eT];exact(BA h).trans ((uD A _).trans (uG _ B))
 let U:∀{Y:jl},Y.Sublist j->2<=Y.length->Y.length<=4->over (Z9 X.ts Y)=some (Zt (YA X.ts Y)):=fun{Y} h a b=>MS (h:=(gd X.ts c).h) (λb' k=>⟨(u b' (h.subset k)).2.2,by have:=(u b' (h.subset k)).2.1;lia⟩) a b (G h)
 let a0:∀{Y:jl},Y.Sublist j->2<=Y.length->Y.length<=4->YO gt X.ts p (YA X.ts Y)/\Y.Nodup/\(YA X.ts Y).h=(gd X.ts p).h:=fun{Y} h a b=>by
  let k:∀ b'∈Y,b'<X.ts.length:=λb' k=>(u b' (h.subset k)).1;let⟨_,y2,_,_,y5,_⟩:=M4 O.wf k (U h a b);exists (Lp O.wf k (U h a b)).at_,y2;let⟨x,hx⟩:=qC (show 0<Y.length by lia)
  have:=y5 x hx;have:=(u x (h.subset hx)).2.1
  lia
 let J:∀{Y:jl},Y.Sublist j->∀ b∈Uz X.ts p Y,Tp X.av X.ho b:=fun{Y} h b k=>by
  let⟨y1,y2⟩:=yC.mp k;rcases a3 b (h.subset y1) with y | y
  ·rw[y];exact tN
  ·exact absurd y (of_decide_eq_true y2)
 exists _,Z,D,_,Z,.inl (ZK.of I),_,_,Z,Z,_,Z;let lI:(iN j).length=j.length:=zX _;by_cases c4:j.length<=4
 ·rw[aM (show (((iN j).length:Nat):Int)<=4 by lia)]
  let sb:=wX.refl j;let⟨ok,a2,sh⟩:=a0 sb ∅ c4
  let⟨g,ch,C⟩:=LE (t:=YA X.ts j) O.wf O.hr O.hb O.tp z sh ok (by show Up (A++Zp X.ts j++B);rw[eT];exact UT)
  refine Z0 ⟨_,Z,X.S,a6,_,Z,a8,Z,_,Z,_,Z,.mk O2 z u8 I (λb k=>(u b k).1) c4 (U sb ∅ c4) sh a2 (J sb) ch C λH3 a1 fr R3 A3=>?_⟩
  let O3:=FY O2 z (J sb) (λy=>a4 r y Z) C R3;exact q H3 _ none (G2.trans (Lq C.len fr A3)) O3 (z.chd O.wf O.hr C) (.none (by show (gd g r).rows=_;rw[C.rows];exact eT)) (by show g.length<=_;rw[C.len];lia)
 rw[aK (show ¬ (((iN j).length:Nat):Int)<=4 by lia)]
 refine Zo ?_;let s3:=uL 3 j;let W:=rV 3 j;let l3:(j.take 3).length=3:=by rw[yP];lia
 let l2:(j.drop 3).length=2:=by rw[yD];lia
 let sp:j.take 3++j.drop 3=j:=xQ 3 j;let⟨ok,a2,sh⟩:=a0 s3 ∅ ∅
 let a7:∀ b∈j.drop 3,b∉j.take 3:=λb k y=>by
  let h2:=G (wX.refl j);rw[<-sp,Pe] at h2;unfold Up PX at h2;rw[zC] at h2;let h3:=(xY.mp h2).2.2;let⟨x,xs,ex,_⟩:=QT (u b (W.subset k)).2.2;let h4:=h3 x.1 (zR.mpr ⟨x,xK.mpr ⟨b,y,by rw[ex];simp⟩,Z⟩) x.1 (zR.mpr ⟨x,xK.mpr ⟨b,k,by rw[ex];simp⟩,Z⟩)
  rw[VG] at h4;cases h4
 let eR:Zp X.ts j=Zp X.ts (j.take 3)++Zp X.ts (j.drop 3):=by rw[<-Pe,sp]
 let⟨g,ch,C⟩:=LE (t:=YA X.ts (j.take 3)) O.wf O.hr O.hb O.tp z sh ok (by
  show Up (A++Zp X.ts (j.take 3)++B);refine yA.sublist (wX.map _ ?_) UT;rw[<-eT,eR];exact((uG _ _).append_left A).append_right B)
 exists _,Z,X.S,a6,_,Z,a8,Z,_,Z,_,Z,_,Z,D,_,Z,ZK.of I;intro p1 n1;rw[show VH (iN j) none (some (3:Int))=iN (j.take 3) from (HF 3).trans (by simp[iN])]
 let⟨H3,eU,g3,h3⟩:=XR n1 (.lst (iN (j.take 3)));rw[eU];refine .mk (O2.same g3) z u8 h3 (λb k=>(u b (s3.subset k)).1) ∅ (U s3 ∅ ∅) sh a2 (J s3) ch C λH4 a1 fr R4 A4=>?_
 let O4:=FY (O2.same g3) z (J s3) (λy=>a4 r (s3.subset y) Z) C R4;let c2:=Ce O.hb hp (J s3) C.len (by rw[C.at_];rfl) C.sh
 let G4:=(G2.trans (Go.same g3)).trans (Lq (X:=X) (lk:=lk) (av':=QD X.ts p (j.take 3) X.av) (ho':=Uo X.ts p (j.take 3) X.ho) (kvs':=X.kvs) C.len fr A4);let⟨c3,c7⟩:=R4.sh.self;let c8:H4 D=some (.lst (iN j)):=fr _ _ (λi hi=>⟨(a5.2.2.2 i hi).1,(a5.2.2.2 i hi).2.1⟩) (g3 _ _ I);exists _,Z,X.S,c3,_,Z,c7,Z,_,Z,_,Z,D,_,Z,ZK.of c8;intro p3 n3;rw[show VH (iN j) (some (3:Int)) none=iN (j.drop 3) from (J0 3).trans (by simp[iN])]
 let⟨H5,eU,g5,h5⟩:=XR n3 (.lst (iN (j.drop 3)));rw[eU];let M:∀ b∈j.drop 3,gd g b=gd X.ts b:=λb k=>C.old b λy=>by
  have:=(u b (W.subset k)).2.1;rcases zQ.mp y with y | y
  ·rw[y] at this;lia
  ·have:=(fu b y).2;lia
 let rY:Zp g (j.drop 3)=Zp X.ts (j.drop 3):=P5 λb k=>by rw[M b k]
 let c1:over (Z9 g (j.drop 3))=some (Zt (YA g (j.drop 3))):=MS (h:=(gd X.ts c).h) (λb k=>by rw[M b k];exact⟨(u b (W.subset k)).2.2,by have:=(u b (W.subset k)).2.1;lia⟩) ∅ ∅ (by rw[rY];exact G W)
 let R:∀ b∈j.drop 3,b<g.length/\Tp (QD X.ts p (j.take 3) X.av) (Uo X.ts p (j.take 3) X.ho) b:=λb k=>by
  exists by rw[C.len];exact(u b (W.subset k)).1
  rcases a3 b (W.subset k) with y | y
  ·rw[y] at k⊢;exact c2.2.2 N tN (a7 N k)
  ·exact c2.2.1 b y (a7 b k)
 exists X.S,X.d,lk,p3,g,_,_,a1,X.kvs,ls++[.int (p:Int)],j.drop 3,_,Z,R4.same g5,C.wf,by rw[C.len];lia,λb k=>⟨(R b k).1,xO (R b k).2.2.symm,by rw[(R b k).2.1];exact zD _⟩,h5,c1
 intro H6 a nx nt na c6 R6;let e1:YO gt g g.length (YA g (j.drop 3)):=Lp C.wf (λb k=>(R b k).1) c1;let G6:=(G4.trans (Go.same g5)).trans (Nr (lk:=lk) (X:=⟨X.S,X.d,g,QD X.ts p (j.take 3) X.av,Uo X.ts p (j.take 3) X.ho,a1,X.kvs⟩) (t:=YA g (j.drop 3)) (av':=X1 (j.drop 3) g.length (Wl g.length (QD X.ts p (j.take 3) X.av))) (ho':=WA (j.drop 3) (Wk g.length (Uo X.ts p (j.take 3) X.ho))) (kvs':=Y1 X.kvs (.inl (g.length:Int)) (.ref a.x)) R4.len c6 nx nt na);let⟨O6,e3⟩:=Ds (t:=YA g (j.drop 3)) (a:=a) (kvs':=Y1 X.kvs (.inl (g.length:Int)) (.ref a.x)) (O4.same g5) e1 (λb k=>R b k) (λy=>a4 r (W.subset y) Z) Z R6;let a9:p<g.length:=by rw[C.len];exact hp
 let z6:=(z.chd O.wf O.hr C).app (t:=YA g (j.drop 3)) C.wf (by rw[C.len];exact O.hr)
 refine q H6 _ (some g.length) G6 O6 z6 (.some (by show g.length<(g++[_]).length;simp) e3 ?_ ?_) (by show (g++[_]).length<=_;rw[zS,C.len];simp)
 ·show (gd (g++[_]) g.length).h=(gd (g++[_]) p).h;rw[QK,Ut a9,C.hh p];show (gd g ((j.drop 3).getD 0 0)).h+1=_;let hm:(j.drop 3).getD 0 0∈j.drop 3:=by rw[zU,zV ∅];exact xL _
  rw[M _ hm];exact(u _ (W.subset hm)).2.1
 ·show A++(gd (g++[_]) p).rows++(gd (g++[_]) g.length).rows++B=_;rw[QK,Ut a9,C.at_];show A++Zp X.ts (j.take 3)++Zp g (j.drop 3)++B=_;rw[rY,yF A,<-eR,eT]
section
variable{ts:jn}{r c p:Nat}{up ps:jl}{A B:jo}
def Yg.inv(z:Yg ts r (c::p::up) ps A B):∃ a l m b d,ps=l.length::a/\Yg ts r (p::up) a b d/\(gd ts p).h≠0/\(gd ts p).bs=l++c::m/\A=b++Zp ts l/\B=Zp ts m++d:=by
 cases z with | down zp h0 eb n1 n2=>exact⟨_,_,_,_,_,Z,zp,h0,eb,Z,Z⟩
def Yg.top(z:Yg ts r [c] ps A B):c=r/\A=[]/\B=[]:=by
 cases z with | root=>exact⟨Z,Z,Z⟩
theorem Yg.len{a:jl}(z:Yg ts r a ps A B):a.length=ps.length+1:=by
 induction z with
 | root=>rfl
 | down _ _ _ _ _ b=>
  simp only[zO] at b⊢
  lia
end
theorem El{b:Type}{l:List b}{i:Nat}{a:b}(h:l[i]? = some a):l.reverse[l.length-1-i]? = some a:=by
 let c:=(zE.mp h).1;rw[List.getElem?_reverse ∅,show l.length-1-(l.length-1-i)=i by lia,h]
def Mq(a:jl):jf:=a.map λp=>V.int ((p:Nat)+1:Int)
inductive WG(h:jk)(kc ke:ak):Sp
 |mk{X:Zi}{d k j:ak}{i:jf}{r c:Nat}{o:jr}{a m:jl}{A B T:jo}{H:Hp}{Q:VK}{E:XK}:
  Xu h kc ke H X d i r->Yg X.ts r (c::a) m A B->X7 X.ts X.av X.ho r c A B T o->Up T->a.length<=100->X.ts.length+a.length<=790->i.length+a.length<=380000->H k=some (.lst (iN a.reverse))->H j=some (.lst (Mq m.reverse))->YU X d k->YU X d j ->
  (∀(g:Hp)(b:Zi)(e:jf)(l:jr),Go d H g X b->Xu h kc ke g b d e r->X7 b.ts b.av b.ho r r [] [] T l->b.ts.length<=X.ts.length+a.length->e.length<=i.length+a.length->Q (XB l) g)->WG h kc ke [.ref X.S,.ref k,.ref j,XB o] H Q E
abbrev ZOt:jp:=["shelf","stems","places","added","over","at"]
theorem Uq:ZB ZOt zEs (Za Ia):=Zr
inductive E4(gt:jk)(kc ke:ak)(X:Zi)(lk st pl:ak)(ls:jf)(r:Nat)(o:jr)(up ps:jl)(T:jo)(H:Hp):Nat->L2.St->Hp->Prop
 |mk{i c:Nat}{X':Zi}{ls':jf}{o':jr}{A B:jo}{x5:jg}{H':Hp}:Go lk H H' X X'->Xu gt kc ke H' X' lk ls' r->Yg X'.ts r (c::up.drop i) (ps.drop i) A B->X7 X'.ts X'.av X'.ho r c A B T o'->X'.ts.length<=X.ts.length+i->ls'.length<=ls.length+i ->
  E4 gt kc ke X lk st pl ls r o up ps T H i [some (.ref X.S),some (.ref st),some (.ref pl),some (XB o),some (XB o'),x5] H'
theorem ZK3{R:jk}(F:Zh K "add_up" "add_up" Ia f fd)(T:Yb mg)(DB:ZA P w K mg kh 12 "add_branch" zEz (Yc R kc ke)):ZI P w K mg kh ZO 13 f fd zEs (WG R kc ke):=by
 refine F.ok Uq (λvs H Q E h=>(by cases h;rfl)) (λa0 A Y s H vs Q E hr h=>?_)
 let⟨O,z,ad,UT,u1,t7,a1,y,U,oS,oP,q⟩:=h;rename_i X lk st pl ls r c o a b A B T0
 let V:=Uq.nd;intro Xc;refine⟨_,ZM (Zg 4 V (pv 3))
  (ZM (UE PassesOwn.never rfl (ZMf rfl T.range (V4 (Zx Uy (Z6 WK rfl T.len X3 (ZU (pv 1))) ZL) (QQ QV ZL) (QQ QV ZL))) (UC 5 V)
   (ZM (Z3 (PZ (Nz (pv 4))) (ZT (Zf OE)) Z4)
   (ZT (Zg 4 V (Ze DB hr (Qr (pv 0) (YS K (pv 1) (pv 5)) (YS K (pv 2) (pv 5)) (pv 4)))))))
  (ZT (Zf (pv 4)))),?_⟩
 let lu:(iN a.reverse).length=a.length:=by simp[iN]
 let lz:=z.len;rw[zO] at lz;exists _,Z,_,Z,st,_,Z,.inl (ZK.of y),_,_,Z,Z,_,Z,_,Z,a.length,by rw[lu],by lia
 refine Ag (E4 R kc ke X lk st pl ls r o a b T0 H) (.mk (Go.same (ZE.refl H)) O z ad (zY _) (zY _)) ?_ ?_
 ·rintro i σ G hi ⟨g,D,n,d,t1,l1⟩;rename_i c1 I j W A1 B1 x5
  let C:=g.fr _ _ oS y;let x:=g.fr _ _ oP U
  cases W with
  | none=>
   refine⟨_,Z,_,Z,Z0 ?_⟩
   cases d with
   | none e=>exact q G I j none g D (.none e) ∅ ∅
  | some N=>
   refine⟨_,Z,_,Z,Zo ?_⟩
   cases d with
   | some hN tN hh eT=>
    let ed:a.drop i=a[i]::a.drop (i+1):=vY hi;let eu:a[i]? = some a[i]:=zV hi;let v:i<b.length:=∅
    let ep:b.drop i=b[i]::b.drop (i+1):=vY v;let u:b[i]? = some b[i]:=zV v;rw[ed] at n;generalize a[i]=p at ed eu n;let⟨a2,l,m,A2,B2,k,z2,h0,eb,eA,eB⟩:=n.inv;rw[ep] at k;generalize b[i]=pi at ep u k;let L:=(List.cons.inj k).2;let M:=(List.cons.inj k).1;subst L;subst M;let t:((a.length:Nat):Int)-1-(i:Nat)=((a.length-1-i:Nat):Int):=∅
    let i1:Xq (iN a.reverse) (((a.length:Nat):Int)-1-(i:Nat))=some (.int (p:Nat)):=by
     rw[t];refine VD ?_;unfold iN;rw[zH,El eu];rfl
    let i2:Xq (Mq b.reverse) (((a.length:Nat):Int)-1-(i:Nat))=some (.int ((l.length:Nat)+1:Int)):=by
     rw[t];refine VD ?_;unfold Mq;rw[zH,show a.length-1-i=b.length-1-i by lia,El u]
     rfl
    let us:(a.drop (i+1)).length<=100:=by rw[yD];lia
    refine⟨_,Z,_,Z,_,Z,.inl ⟨st,_,_,.int (p:Nat),Z,Z,ZK.of C,i1,_,Z,_,Z,.inl ⟨pl,_,_,_,Z,Z,ZK.of x,i2,_,Z,?_⟩⟩⟩;rw[<-g.S];refine .mk D z2 ∅ ∅ ∅ h0 eb hN tN hh ?_ UT λH2 X2 o2 G2 O2 z3 J t2=>?_
    ·rw[<-eT,eA,eB,Pe,QB,QB];simp only[yF]
    ·rw[g.S];exact .mk (g.trans G2) O2 z3 J ∅ (by rw[zS];simp;lia)
 ·rintro σ G ⟨g,D,n,d,t1,l1⟩;rename_i c1 I j W A1 B1 x5
  rw[vQ (zY _)] at n;let⟨k,L,M⟩:=n.top;subst k L M;exact⟨_,Z,q G I j W g D d t1 l1⟩
inductive Yt(c:jk)(kc ke:ak):Sp
 |mk{X:Zi}{d:ak}{g:jf}{r:Nat}{o:jr}{T:jo}{H:Hp}{Q:VK}{E:XK}:Xu c kc ke H X d g r->X7 X.ts X.av X.ho r r [] [] T o->Up T->X.ts.length<=790 ->
  (∀(b:Hp)(a:Zi)(e:Nat),Go d H b X a->Xu c kc ke b a d g e->(gd a.ts e).rows=T->a.ts.length<=X.ts.length+1->Q (.int (e:Nat)) b)->Yt c kc ke [.ref X.S,.int (r:Nat),XB o] H Q E
theorem ZIH:ZB zE3 zE3 (Za Ks):=Zr
def ZGl{v:jk}(F:Zh K "root_with" "root_with" Ks f fd)(L:Yq K mg kc ke)(C:ZD P w K mg kh ZO 10 kc "put_stem" zEe (YC v kc ke)):ZI P w K mg kh ZO 11 f fd zE3 (Yt v kc ke):=by
 refine F.ok ZIH (λvs H Q E h=>(by cases h;rfl)) (λM A k s H vs Q E hr h=>?_)
 let⟨O,J,I,t7,q⟩:=h;rename_i X z ls r o n
 intro Xc;exists _,ZM (Z3 (PZ (Nz (pv 2))) (ZT (Zf (pv 1))) Z4) (ZT (Zf (YH (E:=E0) (pv 0) L.cS C hr YG (ZU (Y3 (Zn (pv 1) (pv 2)))))))
 cases J with
 | none e=>exact⟨_,Z,_,Z,Z0 ⟨_,Z,q H X r (Go.same (ZE.refl H)) O e ∅⟩⟩
 | some V tN Y T=>
  rename_i N
  refine⟨_,Z,_,Z,Zo ?_⟩;let⟨R,W⟩:=O.sh.sh.self;exists _,Z,X.S,R,_,Z,W,Z,_,Z,_,Z,YQ;intro l n1;let⟨m,i,u,j⟩:=XR n1 (.lst [.int (r:Nat),.int (N:Nat)]);let i:upd H l (.lst [.int (r:Nat),XB (some N)])=m:=i;rw[i];let j:m l=some (.lst (iN [r,N])):=j;let g:∀ b∈[r,N],b<X.ts.length/\Tp X.av X.ho b:=λb g=>by
   rcases zQ.mp g with y | y
   ·rw[y];exact⟨O.hr,O.tp⟩
   ·rw[yZ.mp y];exact⟨V,tN⟩
  let p:Zp X.ts [r,N]=n:=by rw[<-T];simp[Zp]
  let B:over (Z9 X.ts [r,N])=some (Zt (YA X.ts [r,N])):=MS (h:=(gd X.ts r).h) (λb c=>⟨(O.wf b _ (YN (g b c).1)).ne,by
   rcases zQ.mp c with y | y
   ·rw[y]
   ·rw[yZ.mp y];exact Y⟩) (zY _) (by show 2<=4;lia) (by rw[p];exact I)
  exists X.S,X.d,z,l,X.ts,X.av,X.ho,X.as,X.kvs,ls,[r,N],_,Z,O.sh.same u,O.wf,∅,λb c=>⟨(g b c).1,xO (g b c).2.2.symm,by rw[(g b c).2.1];exact zD _⟩,j,B
  intro G a nx nt na U R2;let D:=(Go.same u).trans (Nr (lk:=z) (X:=X) (t:=YA X.ts [r,N]) (av':=X1 [r,N] X.ts.length (Wl X.ts.length X.av)) (ho':=WA [r,N] (Wk X.ts.length X.ho)) (kvs':=Y1 X.kvs (.inl (X.ts.length:Int)) (.ref a.x)) O.sh.len U nx nt na);let⟨k1,_,k3⟩:=LS (t:=YA X.ts [r,N]) O.wf O.hb g;refine q G _ X.ts.length D ⟨R2,O.wf.push (Lp O.wf (λb h=>(g b h).1) B),by show X.ts.length<(X.ts++[_]).length;simp,k1,k3⟩ ?_ (by show (X.ts++[_]).length<=_;simp)
  show (gd (X.ts++[_]) X.ts.length).rows=n;rw[QK];exact p
inductive U4(kc ke:ak):Sp
 |mk{X:Zi}{b:ak}{c:jf}{n:Nat}{l:jl}{v:V}{H:Hp}{Q:VK}{E:XK}:Z5 kc ke H X.S X.d b X.ts X.av X.ho X.as X.kvs c->Rd X.ts.length X.av X.ho n l->l.length<=900->(∀ a,ZE H a->Q (.int (n:Nat)) a)->U4 kc ke [.ref X.S,v,.int (n:Nat)] H Q E
theorem BG:ZB ["shelf","stem","number","stead","branches"] zFd (Za IO):=Zr
def ZOL(F:Zh K "own" "own" IO f fd)(L:Yq K mg kc ke)(b:ZD P w K mg kh ZO 4 kc "alone" zEa (Xh kc ke)):ZI P w K mg kh ZO 5 f fd zFd (U4 kc ke):=by
 refine F.ok BG (λl H Q E h=>(by cases h;rfl)) (λd A a s H l Q E i h=>?_)
 let⟨R,rd,j,q⟩:=h;intro m;exists _,ZM (Z3 (XG (YH (E:=E0) (pv 0) L.cS b i YG (ZU (pv 2)))) (ZT (Zf (pv 2))) Z4) VX;let⟨e,g⟩:=R.sh.self;exact⟨_,Z,_,e,_,Z,g,Z,_,Z,.mk R rd j λc k=>⟨_,Z,Z0 ⟨_,Z,q c k⟩⟩⟩
inductive Xj(kc ke:ak):Sp
 |mk{X:Zi}{e D:ak}{g c:jf}{N:ak->Prop}{W:jJ}{H:Hp}{Q:VK}{E:XK}:Z5 kc ke H X.S X.d e X.ts X.av X.ho X.as X.kvs g->H D=some (.lst c)->Paired (Y8 N H X.ts) W c->(∀ p∈W,∃ l,Rd X.ts.length X.av X.ho p.1 l/\l.length<=900)->W.length<=900 ->
  (∀(b:Hp)(a:ak),ZE H b->H a=none->b a=some (.lst (iN (W.map (·.1))))->Q (.ref a) b)->Xj kc ke [.ref X.S,.ref D] H Q E
abbrev ZNN:jp:=["shelf","steps","owned","stem","step"]
theorem Vn:ZB ZNN zFj (Za Hg):=Zr
theorem ZJ1(F:Zh K "own_way" "own_way" Hg f fd)(L:ZA P w K mg kh 5 "own" zFd (U4 kc ke)):ZI P w K mg kh ZO 6 f fd zFj (Xj kc ke):=by
 refine F.ok Vn (λvs H Q E h=>(by cases h;rfl)) (λM A z s H vs Q E T h=>?_)
 let⟨R,x,j,rd,w9,q⟩:=h;rename_i X lk D ls us N W
 let n:=Vn.nd;intro Xc;refine⟨_,ZM (Zg 2 n (Y3 Zj))
  (ZM (Zg 3 n OE)
  (ZM (UE PassesOwn.never rfl (Wj (pv 1)) (UC 4 n)
   (ZM (Zg 3 n (Ze L T (V4 (pv 0) (pv 3) (Wf K (pv 4) ZL))))
   (ZT (XS (Ug xP wQ wP Q0 (pv 2) (ZU (pv 3)))))))
  (ZT (Zf (pv 2))))),?_⟩
 exists YQ;intro c b;let g:=Zl b (.lst []);let e:=ZV (H:=H) (a:=c) (o:=.lst []);generalize upd H c (.lst [])=H1 at g e⊢;let lw:=Paired.length j;let DD:D≠c:=Zd x b;refine⟨_,Z,D,Z,⟨_,ZK.of (g _ _ x)⟩,Pa (K:=K) (a:=D) (xs:=us) (λi r d=>∃ J C:jg,∃ y:V,r=[some (.ref X.S),some (.ref D),some (.ref c),some y,C]/\ZE H d/\d c=some (.lst (iN ((W.take i).map (·.1))))) ⟨none,none,.non,Z,g,e⟩ (λi r d _ O=>by let⟨_,_,_,_,h,_⟩:=O;exact ZK.of (h _ _ x)) ?_ ?_⟩
 ·rintro i u r d Y ⟨J,C,y,rfl,k,m⟩;let⟨p,v,t,fv,rfl,U,_⟩:=Paired.ixR j Y;let⟨l,B,l9⟩:=rd p (zJ v);let hi:i<W.length:=(zE.mp v).1;refine⟨_,Z,_,Z,_,Z,t,_,_,.int (p.1:Int),Z,Z,Zv.of (k _ _ U),Z,.mk (R.same k) B l9 λH3 I=>?_⟩;let G:=I _ _ m;exists _,Z,.inl ⟨Z,_,ZK.of G⟩,_,Z,c,_,_,Z,Z,G,XU (by simp[iN];lia)
  exists none,_,.int (p.1:Int),Z,UK (k.trans I) b;rw[ZV,yR,v];simp[iN]
 ·rintro r d ⟨J,C,y,rfl,k,m⟩;rw[<-lw,sC] at m;exact⟨_,Z,q d c k b m⟩
inductive YJ(kc ke:ak):Sp
 |mk{X:Zi}{b:ak}{c:jf}{r:jr}{H:Hp}{Q:VK}{E:XK}:Z5 kc ke H X.S X.d b X.ts X.av X.ho X.as X.kvs c->(∀ i,r=some i->i<X.ts.length/\1<=X.ho i)->(∀ a,ZE H a->Q .non a)->YJ kc ke [.ref X.S,XB r] H Q E
theorem Al:ZB zEd zEd (Za K2):=Zr
def ZE4(F:Zh K "check_root" "check_root" K2 f fd)(L:Yq K mg kc ke)(l:ZD P w K mg kh ZO 3 kc "check_held" zEe (Z8 kc ke)):ZI P w K mg kh ZO 4 f fd zEd (YJ kc ke):=by
 refine F.ok Al (λC H Q E h=>(by cases h;rfl)) (λm A g s H C Q E v h=>?_)
 let⟨R,e,q⟩:=h;rename_i X x y r
 intro D;exists _,ZT (Z3 (PZ (Jd (pv 1))) (ZT (XS (YH (E:=E0) (pv 0) L.cS l v YG (ZU (Y3 (ZU (pv 1))))))) Z4)
 cases r with
 | none=>exact⟨_,Z,_,Z,Zo (q H (ZE.refl H))⟩
 | some i=>
  let⟨k,p⟩:=e i Z;let⟨o,t⟩:=R.sh.self;refine⟨_,Z,_,Z,Z0 ⟨_,Z,X.S,o,_,Z,t,Z,_,Z,YQ,λB z=>?_⟩⟩;let j:=Zl z (.lst [.int (i:Int)]);let a:=R.same j;let⟨b,c⟩:=a.sh.self;exact⟨X.S,B,[(i:Int)],Z,ZV,⟨b,_,c,Z⟩,λn u=>by
   rw[yZ.mp u];exact⟨X.d,x,X.ts.length,X.kvs,y,_,_,_,_,_,_,⟨a.sh,a.val i k,(a.tw i k).tw⟩,p⟩,q _ j⟩
structure Tb(gt:jk)(kc ke:ak)(H:Hp)(X:Zi)(lk:ak)(ls:jf)(r:jr):Prop where
 sh:Z5 kc ke H X.S X.d lk X.ts X.av X.ho X.as X.kvs ls
 wf:WF gt X.ts
 hb:QI X.ts X.av X.ho
 tp:∀ i,r=some i->i<X.ts.length/\Tp X.av X.ho i
section
variable{gt:jk}{kc ke:ak}{H H':Hp}{X:Zi}{lk:ak}{ls ls':jf}{r:jr}
def Tb.on{i:Nat}(t:Tb gt kc ke H X lk ls (some i)):Xu gt kc ke H X lk ls i:=⟨t.sh,t.wf,(t.tp i rfl).1,t.hb,(t.tp i rfl).2⟩
def Xu.tb{i:Nat}(o:Xu gt kc ke H X lk ls i):Tb gt kc ke H X lk ls (some i):=⟨o.sh,o.wf,o.hb,λj e=>by cases e;exact⟨o.hr,o.tp⟩⟩
def Tb.same(t:Tb gt kc ke H X lk ls r)(s:ZE H H'):Tb gt kc ke H' X lk ls r:=⟨t.sh.same s,t.wf,t.hb,t.tp⟩
def Tb.of(t:Tb gt kc ke H X lk ls r)(R:Xi kc ke H' X lk X.ts.length ls'):Tb gt kc ke H' X lk ls' r:=⟨⟨R.sh,t.sh.keys,t.sh.val,t.sh.len,R.tw,t.sh.own,t.sh.two⟩,t.wf,t.hb,t.tp⟩
theorem AF{n m:Nat}(h:2 ^ n<=m)(a:m<=200):n<=7:=by
 rcases xT n 8 with z | z
 ·lia
 ·have:2 ^ 8<=2 ^ n:=Nat.pow_le_pow_right (by decide) z
  have:(2:Nat) ^ 8=256:=by decide
  lia
def Tb.low(t:Tb gt kc ke H X lk ls r)(a:(Ym X.ts r).length<=200):∀ i,r=some i->(gd X.ts i).h<=7:=λi e=>by
 subst e;exact AF (Hv t.wf _ i (t.tp i rfl).1 Z) a
def Tb.askd(t:Tb gt kc ke H X lk ls r)(b:(Ym X.ts r).length<=200)(a:ls.length<=380000):Oj gt kc ke H X lk X.ts.length ls r:=⟨t.sh.q,t.wf,λi e=>zN (t.low b i e) (by decide),a,λi e=>(t.tp i e).1⟩
def Tb.up(t:Tb gt kc ke H X lk ls r):Up (Ym X.ts r):=by
 cases r with
 | none=>exact yA.nil
 | some i=>exact(t.wf i _ (YN (t.tp i rfl).1)).up
def Tb.fit(t:Tb gt kc ke H X lk ls r):∀ x∈Ym X.ts r,x.fit:=by
 cases r with
 | none=>exact λx h=>by cases h
 | some i=>exact(t.wf i _ (YN (t.tp i rfl).1)).inn
end
theorem CO(a:jf):VH a none (some (-1))=a.take (a.length-1):=by
 let e:HT.sIx a.length a.length (some (-1))=a.length-1:=by
  show (if (-1:Int)<0 then ((-1:Int)+(a.length:Int)).toNat else min (-1:Int).toNat a.length)=_
  rw[aP (by decide)]
  lia
 unfold VH;rw[HT.sIx_none,e];rfl
def ZMv{k v:KT}{a:jo}:0<(ins k v a).length:=by
 unfold ins;rw[zS,zO]
 lia
def Rd.mem{n:Nat}{g:Nat->jl}{j:Nat->Nat}{i:Nat}{l:jl}(h:Rd n g j i l):∀ x∈l,∃ e,Rd n g j x e/\e.length<=l.length:=by
 induction h with
 | top a b=>exact λx f=>⟨_,by rw[yZ.mp f];exact .top a b,zY _⟩
 | up a b c d m=>
  intro x f;rcases zQ.mp f with y | y
  ·exact⟨_,by rw[y];exact .up a b c d,zY _⟩
  ·let⟨e,k,o⟩:=m x y;exact⟨e,k,by rw[zO];lia⟩
def ZQQ{k:Nat}{g:jp}{i d:Sp}(F:ZI P w K mg kh (Yn P w) k f fd g i)(h:∀ b H Q E,d b H Q E->i b H Q E0):ZI P w K mg kh ZO k f fd g d:=by
 refine⟨λb H Q E z=>F.len b H Q E0 (h _ _ _ _ z),λA a s H args p b Q E m l j n z=>codeAny_mono (F.run A a s H args p b Q E0 m l j n (h _ _ _ _ z)) λr q c=>?_⟩
 cases r with
 | ok o=>
  cases o with
  | ret u=>exact c
  | _=>exact c.elim
 | error e=>
  let⟨_,_,_,_,_,_,c⟩:=c;exact c.elim
inductive WI(d:jk)(kc ke:ak):Sp
 |mk{X:Zi}{e:ak}{g:jf}{r:jr}{i j:V}{k v:KT}{H:Hp}{Q:VK}{E:XK}:Tb d kc ke H X e g r->(Ym X.ts r).length<=150->X.ts.length<=700->g.length<=370000->ZC H k i->k.fits 3=true->ZC H v j->v.fits 3=true ->
  (∀(c:Hp)(b:Zi)(a:jf)(h:Nat),Go e H c X b->Tb d kc ke c b e a (some h)->(gd b.ts h).rows=ins k v (Ym X.ts r)->b.ts.length<=X.ts.length+9->a.length<=g.length+20->Q (.int (h:Nat)) c)->WI d kc ke [.ref X.S,XB r,i,j] H Q E
abbrev ZOw:jp:=["shelf","root","key","value","row","steps","rows","owned","added","places"]
theorem U7:ZB ZOw zE0 (Za Ji):=Zr
theorem ZLs{gt:jk}(F:Zh K "put_in" "put_in" Ji f fd)(T:Yb mg)(L:Yq K mg kc ke)(e9:ZA P w K mg kh 4 "check_root" zEd (YJ kc ke))(DC:ZA P w K mg kh 7 "checked" zEq Uk)(DL:ZD P w K mg kh ZO 10 kc "put_leaf" zE8 (XF kc ke))(DS:ZA P w K mg kh 10 "steps_to" zEf (λvs H Q _=>XL gt kc ke CK vs H Q E0))(DW:ZA P w K mg kh 6 "own_way" zFj (Xj kc ke))(DR:ZA P w K mg kh 1 "rows_with" zFg Yp)(DG:ZA P w K mg kh 12 "give_rows" zE6 (Yw gt kc ke))(DU:ZA P w K mg kh 13 "add_up" zEs (WG gt kc ke))(i1:ZA P w K mg kh 11 "root_with" zE3 (Yt gt kc ke)):
  ZI P w K mg kh ZO 14 f fd zE0 (WI gt kc ke):=by
 refine F.ok U7 (λvs H Q E h=>(by cases h;rfl)) (λm4 A l9 s H vs Q E Y h=>?_)
 let⟨t,n5,t7,m5,kk,fk,kv,fv,q⟩:=h;rename_i X lk ls r vk vv k v
 let nd:=U7.nd;let l1:=Y.mono (show 1<=13 by lia)
 let l2:=Y.mono (show 4<=13 by lia)
 let l3:=Y.mono (show 6<=13 by lia)
 let c8:=Y.mono (show 7<=13 by lia)
 let a4:=Y.mono (show 10<=13 by lia)
 let c6:=Y.mono (show 11<=13 by lia)
 let c7:=Y.mono (show 12<=13 by lia)
 intro Xc;refine⟨_,ZM (XS (Ze e9 l2 (Zn (pv 0) (pv 1))))
  (ZM (Zg 4 nd (X9 (Zn (Ze DC c8 (ZU (pv 2))) (Ze DC c8 (ZU (pv 3))))))
  (ZM (Z3 (PZ (Nz (pv 1))) (ZT (Zf (YH (E:=E0) (pv 0) L.cS DL a4 YG (ZU (Y3 (ZU (pv 4))))))) Z4)
  (ZM (Zg 5 nd (Ze DS a4 (V4 (pv 0) (pv 1) (pv 2))))
  (ZM (Zg 6 nd (Wf K (Wf K (YS K (pv 5) (QQ QV ZL)) ZL) ZL))
  (ZM (Z3 (Y2 (ZO0 Y) (pv 4) (pv 6) rfl) (ZT (Zf (pv 1))) Z4)
  (ZM (Zg 7 nd (Ze DW l3 (Zn (pv 0) (pv 5))))
  (ZM (Zg 8 nd (Ze DG c7 (V4 (pv 0) (YS K (pv 7) (QQ QV ZL)) (Ze DR l1 (V4 (pv 6) (pv 4) (Wf K (YS K (pv 5) (QQ QV ZL)) ZL))))))
  (ZM (JD (i:=9) [] [] nd rfl rfl rfl (Wj (Qe Qo (pv 5) Pq (QN (QQ QV ZL)))) (λ_ _ _ _ _=>UV) (λ_ _ _ _ _=>Zx VB (Wf K (pv 0) ZL) ZL) trivial)
  (ZT (Zf (Ze i1 c6 (V4 (pv 0) (YS K (pv 7) ZL) (Ze DU Y (Qr (pv 0) (Qe Qo (pv 7) Pq (QN (QQ QV ZL))) (pv 9) (pv 8))))))))))))))),?_⟩
 let R:=t.sh;refine⟨_,Z,_,Z,.mk R (λi e=>⟨(t.tp i e).1,xO (t.tp i e).2.2.symm⟩) λH1 s1=>?_⟩;exists _,Z,vk,k,Z,kk.sm s1,fk;intro H2 s2;exists _,Z,vv,v,Z,(kv.sm (s1.trans s2)),fv;intro H3 s3;exists YQ;intro qa nq;let⟨H4,eU,g4,hq⟩:=XR nq (.tup [vk,vv]);rw[eU];let s4:=((s1.trans s2).trans s3).trans g4;let t4:=t.same s4;let c0:=kk.sm s4;let e2:=kv.sm s4;let⟨dS,hS⟩:=t4.sh.sh.self
 cases r with
 | none=>
  refine⟨_,Z,_,Z,Z0 ⟨_,Z,X.S,dS,_,Z,hS,Z,_,Z,YQ,λp1 n1=>?_⟩⟩;let⟨H5,eU,g5,h5⟩:=XR n1 (.lst [.ref qa]);rw[eU];let G:WO [(k,v)]:=⟨λx C=>by rw[yZ.mp C];exact⟨fk,fv⟩,wL 0,by show 1<=4;lia,qU _ _⟩
  exists X.S,X.d,lk,p1,X.ts,X.av,X.ho,X.as,X.kvs,ls,_,[(k,v)],Z,t4.sh.same g5,∅,h5,.cons (.tup (g5 _ _ hq) (.cons (c0.sm g5) (.cons (e2.sm g5) .nil))) .nil,G
  intro H6 a nx nt na fr R6;let G6:=(Go.same (s4.trans g5)).trans (Nr (lk:=lk) (X:=X) (t:=WL [(k,v)]) (av':=Wl X.ts.length X.av) (ho':=Wk X.ts.length X.ho) (kvs':=Y1 X.kvs (.inl (X.ts.length:Int)) (.ref a.x)) R.len (λc o n1 n2 _ e=>fr c o n1 n2 e) nx nt na);let⟨k1,_,k3⟩:=LS (t:=WL [(k,v)]) t.wf t.hb (λb hb=>by cases hb)
  rw[show (WL [(k,v)]).bs=[] from rfl,Kn,Ku] at k1 k3;refine q H6 _ ls X.ts.length G6 ⟨R6,t.wf.push (Mj G),k1,λi e=>?_⟩ ?_ (by show (X.ts++[_]).length<=_;simp) ∅
  ·cases e;exact⟨by show X.ts.length<(X.ts++[_]).length;simp,k3⟩
  ·show (gd (X.ts++[_]) X.ts.length).rows=_;rw[QK];rfl
 | some i=>
 let hi:=(t.tp i Z).1;let m2:=(t.tp i Z).2;refine⟨_,Z,_,Z,Zo ⟨_,Z,_,Z,_,Z,.mk (N:=λ_=>False) (o:=some k) (t4.askd ∅ ∅) ⟨c0,fk⟩ (λz=>by cases z) λk' ek H5 D g c2 R5 nD m3 hD B=>?_⟩⟩
 cases ek;let t5:=t4.of R5;let G5:Go lk H H5 X X:=(Go.same s4).trans (Go.looks c2);let⟨W,j,A1,B1,ew,lw,j0,z,hA,hB⟩:=Dc (k:=k) t.wf hi _ i .root Z (λx C=>by cases C) (λx C=>by cases C)
 rw[yQ,yQ] at z;let m7:=t.low ∅ i Z
 let eW:UX X.ts k (some i)=W++[(j,cnt ((gd X.ts j).rows.map (·.1)) k)]:=ew;rw[eW] at B;let ll:(ls++QJ (UX X.ts k (some i))).length<=ls.length+8:=by
  rw[eW,zS];unfold QJ;simp
  lia
 generalize ls++QJ (UX X.ts k (some i))=e8 at t5 R5 ll;let⟨hj,fu,er,_⟩:=z.facts t.wf hi Z;generalize hn:cnt ((gd X.ts j).rows.map (·.1)) k=n at *;let ln:=Paired.length B;rw[zS,wY] at ln;let hu:g[g.length-1]? = some (g[g.length-1]'∅):=zV _
 let⟨p,O,M,fa,et,ht,FA⟩:=Paired.ixR B hu;let e1:p=(j,n):=by
  rw[<-ln,tL,xE (zY _),tY] at O;exact(yU.inj O).symm
 subst e1;rw[et] at hu;let⟨tq,lq,vq,rfl,e4,e5,n4,e6,_⟩:=FA;let kr:=e6 j0;let tl:=JI (j:=1) (zY _) ∅ hu
 let c1:Zz H4 H5:=λb xs e=>c2 b _ (ZY e t4.sh.sh.looks) e;let c5:=c1 _ _ hq;let c9:=c0.mono c1 _ _;let e3:=e2.mono c1 _ _;refine⟨_,Z,_,Z,.inl ⟨D,_,_,.ref M,Z,Z,ZK.of hD,tl,M,_,_,.ref tq,Z,Z,Zv.of ht,Z,tq,_,_,.ref lq,Z,Z,Zv.of e4,Z,?_⟩⟩;let J:=t.wf j _ (YN hj);let l4:=(J.leaf j0).2;exists _,Z,_,Z,lq,vq,YD (gd X.ts j).rows,OG (k,v),Z,ZK.of e5,kr,.tup c5 (.cons c9 (.cons e3 .nil)),λx C=>?_
 ·let⟨y,hy,rfl⟩:=zR.mp C;let f:=J.inn y hy;let d1:=Vf _ 3 f.1;let d2:=Vf _ 3 f.2;show KT.depth (.tup [y.1,y.2])<=100;simp only[KT.depth,jY]
  lia
 exists _,Z;by_cases hm:(k,v)∈(gd X.ts j).rows
 ·let ea:((YD (gd X.ts j).rows).any λt=>t.eqb (OG (k,v)))=true:=uN.mpr ⟨OG (k,v),zR.mpr ⟨_,hm,Z⟩,V6 _⟩;rw[ea];refine Z0 ⟨_,Z,q H5 X e8 i G5 t5 ?_ ∅ ∅⟩
  exact(Ff (t.wf i _ (YN hi)).up (by rw[er];simp[hm])).symm
 let ea:((YD (gd X.ts j).rows).any λt=>t.eqb (OG (k,v)))=false:=by
  cases z:(YD (gd X.ts j).rows).any λt=>t.eqb (OG (k,v)) with
  | false=>rfl
  | true=>
   let⟨x,C,ex⟩:=uN.mp z;let⟨y,hy,rfl⟩:=zR.mp C;have:=Vw _ _ ex;unfold OG at this;injection this with this;injection this with a b;injection b with b;exact absurd (show (k,v)∈(gd X.ts j).rows by rw[<-show y=(k,v) from Prod.ext a b];exact hy) hm
 rw[ea];refine Zo ?_;let O5:Xu gt kc ke H5 X lk e8 i:=t5.on;let m1:=z.rd t.wf hi t.hb m2 Z;let m9:((W.map (·.1)).reverse).length=W.length:=by simp
 let mW:∀ p∈W++[(j,n)],∃ l,Rd X.ts.length X.av X.ho p.1 l/\l.length<=900:=λp hp=>by
  let⟨l',h1,h2⟩:=m1.mem p.1 (by
   rcases zA.mp hp with y | y
   ·exact zK _ (sF.mpr (zR.mpr ⟨p,y,rfl⟩))
   ·rw[yZ.mp y];exact zM)
  exact⟨l',h1,by rw[zO] at h2;lia⟩
 refine⟨_,Z,_,Z,.mk t5.sh hD B mW (by rw[zS];simp;lia) λH6 Dw s6 l6 a7=>?_⟩
 let eI:iN ((W++[(j,n)]).map (·.1))=iN (W.map (·.1)++[j]):=by rw[zC];rfl
 rw[eI] at a7;refine⟨_,Z,_,Z,1,Z,.inl ⟨Dw,_,_,.int (j:Nat),Z,Z,ZK.of a7,HC _ _,?_⟩⟩;refine⟨_,Z,_,Z,_,Z,1,Z,.inl ⟨D,_,_,.ref M,Z,Z,ZK.of (s6 _ _ hD),tl,M,_,_,.int (n:Nat),Z,Z,Zv.of (s6 _ _ ht),Z,?_⟩⟩;rw[<-hn];refine .mk (s6 _ _ e5) (kr.sm s6) (s6 _ _ c5) (c9.sm s6) (e3.sm s6) l4 J.inn J.up λH7 Dn ws s7 n0 i8 kn=>?_;let a1:=s6.trans s7;let O7:=O5.same a1;let eT:ins k v (Ym X.ts (some i))=A1++ins k v (gd X.ts j).rows++B1:=by show ins k v (gd X.ts i).rows=_;rw[er];exact Bp hA hB
 let UT:Up (A1++ins k v (gd X.ts j).rows++B1):=by rw[<-eT];exact Cb t.up
 let il:=ZM2 (k:=k) (v:=v) (rs:=(gd X.ts j).rows);refine .mk O7 z ∅ ∅ j0 i8 kn (λx C=>?_) ZMv ∅ UT λH8 X8 o8 G8 O8 z8 i2 t8=>?_
 ·rcases VN.mp C with y | y
  ·rw[y];exact⟨fk,fv⟩
  ·exact J.inn x y.1
 let⟨S8,d8,m,a6,a9,a5,I⟩:=X8;let eS:S8=X.S:=G8.S;subst eS;let l7:YU X lk D:=t4.sh.new nD;let l8:YU X lk Dw:=O5.sh.new l6;let i7:=G8.fr _ _ l7 (a1 _ _ hD);let c4:=G8.fr _ _ l8 (s7 _ _ a7);let m8:Zz H5 H8:=λb xs e=>(G8.tups O7.sh) b xs (a1 _ _ e);exists _,Z,1,Z,_,Z,D,g,Z,ZK.of i7;intro p1 n1;rw[show VH g none (some (-1))=g.take W.length from (CO g).trans (by congr 1;lia)]
 let⟨H9,eU,g9,h9⟩:=XR n1 (.lst (g.take W.length));rw[eU];let lW:(g.take W.length).length=W.length:=by rw[yP];lia
 let i5:∀(i:Nat)(z:V),(g.take W.length)[i]? = some z->∃(p:Nat×Nat)(M:ak)(fa:V),W[i]? = some p/\z=.ref M/\H9 M=some (.tup [.int (p.1:Int),.int (p.2:Int),fa]):=λi' z hz=>by
  let a8:i'<W.length:=by have:=(zE.mp hz).1;lia
  rw[sT a8] at hz;let⟨p,O,M,fa,e,ht,_⟩:=Paired.ixR B hz;rw[wR a8] at O;exact⟨p,M,fa,O,e,g9 _ _ (m8 _ _ ht)⟩
 refine⟨p1,Z,⟨_,ZK.of h9⟩,Ue (n:=(g.take W.length).length) (λi z=>(g.take W.length)[i]? = some z) (λD2 i ys H4=>ZE H9 H4/\H9 D2=none/\ys=Mq ((W.take i).map (·.2))) (XU ∅)
  (λD2 i ys H4 hi U=>⟨_,(g.take W.length)[i],ZK.of (U.1 _ _ h9),zV hi⟩) (λD2 i ys H4 z H5 hi U hy=>⟨hy.1,hy.2 _ (ZK.of (U.1 _ _ h9))⟩) (λD2 ys H4 U=>⟨_,ZK.of (U.1 _ _ h9),zY _⟩)
  (λD2 c3=>⟨Zl c3 _,c3,Z⟩) (λD2 i' ys Ha z u m6 a8 hz U RR i9=>?_) (λD2 ys Ha u U=>?_)⟩
 ·let⟨sa,a0,rfl⟩:=U;let⟨p,M,fa,O,rfl,ht⟩:=i5 i' z hz;refine⟨_,Z,M,_,_,.int (p.2:Int),Z,Z,Zv.of (sa _ _ ht),Z,_,_,Z,Z,i9 _ Ha u ⟨UK sa a0,a0,?_⟩⟩;rw[yR,O];simp[Mq]
 let⟨sa,a0,rfl⟩:=U;rw[lW,sC] at u;let O9:=O8.same (g9.trans sa);let a3:=sa _ _ (g9 _ _ c4);let i0:Xq (iN (W.map (·.1)++[j])) 0=some (.int (i:Nat)):=by
  refine VD (j:=0) ?_;let⟨rr,e0⟩:=ZJw X.ts k (gd X.ts i).h i;rw[ew] at e0;have:=congrArg (λl=>(l.map (·.1))[0]?) e0;simp only[zC,yW] at this;unfold iN;rw[zH];let h2:(W.map (·.1)++[j])[0]? = some i:=this;rw[h2];rfl
 refine⟨_,Z,_,Z,.inl ⟨Dw,_,0,.int (i:Nat),Z,Z,ZK.of a3,i0,_,Z,_,Z,1,Z,_,Z,Dw,_,Z,ZK.of a3,λp3 n3=>?_⟩⟩;let ec:VH (iN (W.map (·.1)++[j])) none (some (-1))=iN ((W.map (·.1)).reverse.reverse):=by
  rw[CO,List.reverse_reverse];let e:iN (W.map (·.1)++[j])=iN (W.map (·.1))++[.int (j:Nat)]:=by unfold iN;rw[zC];rfl
  rw[e,zS,wY,tL];exact List.take_left' Z
 rw[ec];let⟨Hb,eU,gb,hb⟩:=XR n3 (.lst (iN ((W.map (·.1)).reverse.reverse)));rw[eU];let Ob:=O9.same gb;let O:W.map (·.2)=((W.map (·.2)).reverse).reverse:=(List.reverse_reverse _).symm;rw[O] at u;let n6:m.length<=X.ts.length+1:=t8;refine⟨_,Z,_,Z,.mk (X:=⟨X.S,d8,m,a6,a9,a5,I⟩) Ob z8 i2 UT ∅ (by show m.length+_<=790;lia) ∅ hb (gb _ _ u) (O9.sh.new (X:=⟨X.S,d8,m,a6,a9,a5,I⟩) n3) (O8.sh.new (X:=⟨X.S,d8,m,a6,a9,a5,I⟩) (g9.free a0)) λHc Xc l5 oc Gc Oc i3 tc lc=>?_⟩
 let Gt:=(((G5.trans (Go.same a1)).trans G8).trans (Go.same ((g9.trans sa).trans gb))).trans Gc;let⟨Sc,dc,a2,i6,l0,i4,e7⟩:=Xc;let eS:Sc=X.S:=Gc.S;subst eS;let n7:a2.length<=m.length+_:=tc;refine .mk (X:=⟨X.S,dc,a2,i6,l0,i4,e7⟩) Oc i3 UT (by show a2.length<=790;lia) λHd Xd m0 Gd Od ed td=>?_
 let n8:Xd.ts.length<=a2.length+1:=td;exact q Hd Xd l5 m0 (Gt.trans Gd) Od.tb (by rw[ed,<-eT]) ∅ ∅
inductive Qy(d:zZ)(x y:V)(H:Hp)(Q:VK):Prop
 |mk(a b:ak)(f g:jf)(c e:jk)(_:x=.ref a)(_:y=.ref b)(_:ZK d H a f)(_:ZK d H b g)(_:jV H c f)(_:jV H e g)(_:∀ t∈c,t.fits 3=true)(_:Q (.bl (!jX c e)) H)
theorem B4{k:Nat}(Y:ZS k X.A):Yy X (aA .NotEq) (Qy X.K):=by
 intro E s σ H x y v u Q I rx ry h;let⟨a,b,xs,ys,f,g,rfl,rfl,U,V,z,B,W,q⟩:=h;cases rx;cases ry;let⟨d,F,C,z1⟩:=I.list U;let⟨c,G,D,z2⟩:=I.list V;let l1:=F.length;let l2:=G.length;let m1:=z.length;let m2:=B.length;let un:=Y.un;by_cases p:d.length=c.length
 ·refine PySem.SeqAt.RcNeAt.lists (e:=λj=>(f.getD j (.int 0)).eqb (g.getD j (.int 0))) C.isList D.isList (by simpa using p) ∅ (λj n o=>?_) X.prog X.w X.xe _ ⟨.bl _,H,I,Z,?_⟩
  ·let r:j<xs.length:=by simp at n;lia
   let t:j<ys.length:=by simp at o;lia
   let⟨l,m,M⟩:=z.get (zV r);let⟨t2,R,N⟩:=B.get (zV t);let⟨J,S,O⟩:=F.get (zV r);let⟨L,T,P⟩:=G.get (zV t);let q1:d.toArray[j]=J:=by
    have:d.toArray[j]? = some J:=by simpa using S
    rw[wI n] at this;exact yU.inj this
   let q2:c.toArray[j]=L:=by
    have:c.toArray[j]? = some L:=by simpa using T
    rw[wI o] at this;exact yU.inj this
   rw[q1,q2,zU,zU,m,R];let dp:=Vf l 3 (W l (zJ m));exact Pr l.depth l t2 _ _ _ (zY _) (Vd I _ _ _ M O) (Vd I _ _ _ N P) (by show X.A.units+1+_<_;lia)
  ·let e:=OA f g;let i:min f.length g.length=d.toArray.size:=by simp;lia
   rw[i,show (f.length==g.length)=true by simp;lia,Bool.and_true] at e
   rw[e];exact q
 ·refine PySem.SeqAt.RcNeAt.lists_lengths C.isList D.isList (by simpa using p) ∅ X.prog X.w X.xe _ ⟨.bl _,H,I,Z,?_⟩
  let e:=OA f g;rw[show (f.length==g.length)=false by simp;lia,tW] at e
  rw[<-e] at q;exact q
structure UR(K:zZ)(x qual:Str)(st:aD)(f:ak)(fd:ao):Prop where
 ex:∃(oc:aj)(od:ju)(dT:ak)(kV doc pm:aj)(an:ju)(cdv ct:aj)(osl:Array (jd))(o:aI)(n:Nat),
  fd=yB x qual (Ux st) (WJ st) (Za st) (.ref dT) kV doc pm an cdv ct/\K.lookup f=some ⟨oc,od,.func fd,osl⟩/\wN K cdv qual=true/\K.lookup dT=some o/\o.data=.seq #[.none] n
 kp:yG K (.ref f)=true
section
variable{kc ke CTb CK:ak}
def UR.go{x b:Str}{g:aD}{f:ak}{fd:ao}{N m:jp}{k:Nat}{p:Sp}(F:UR K x b g f fd)(S:ZB N m (Za g))(l:∀ e H Q E,p e H Q E->e.length=m.length)(d:∀ (c:aj) (A:ay) (a:jw) (s:al) (H:Hp) (e:jf) (Q:VK) (E:XK),ZS k (A.deeper (envOfC b (Za g) s.heap.objs.size f c))->p e H Q E ->
   ∃ t,X5 (Wu ZO P w K mg kh N b (Za g) f c A a s H E).nox (WJ g) t/\t { nx:=λ_ r=>Q .non r,rt:=Q } (QW N e) H):ZI P w K mg kh ZO (k+1) f fd m p:=by
 let⟨D,G,C,kV,u,I,B,c,ct,z,o,n,rfl,y,i,_⟩:=F.ex;refine JO y i S l λA a s H e Q E v j=>?_;let⟨t,h,q⟩:=d c A a s H e Q E v j;exact⟨t,h.nox,q⟩
abbrev Ou:Stmt:=WC (top 63) 0
abbrev Jo:Stmt:=WC (top 63) 1
abbrev Hj:Stmt:=WC (top 63) 3
abbrev K1:Stmt:=WC (top 63) 4
abbrev HU:Stmt:=WC (top 63) 5
def UR.binds{f:ak}{fd:ao}(F:UR K "__init__" "Table.__init__" Ou f fd):Zq K fd zEn []/\Zq K fd zEn [.none]:=by
 let⟨t,u,q,kV,j,v,p,i,ct,m,o,n,rfl,r,l,g,h⟩:=F.ex;refine⟨λs d X e=>?_,λs d X e=>?_⟩
 ·match d,e with
  | [a,b,c],_=>exact PySem.W.binds_K X Z g h Z Z
 ·let k:d.length=2:=by simpa using e
  match d,k with
  | [a,b],_=>exact PySem.W.binds_K X Z g h Z Z
structure UH(K:zZ)(mg:jc)(CTb:ak):Prop where
 tab:mg "Table" = some (.ref CTb)
 cT:VY K CTb
 ns:Zw K CTb "shelf"
 nr:Zw K CTb "root"
abbrev Nv(S:ak)(r:jr):List (Str×V):=[("shelf",.ref S),("root",XB r)]
inductive Yf(CTb:ak)(H:Hp)(T S:ak)(r:jr):Prop
 |mk(a:_)(_:H T=some (.ins CTb a (Nv S r)))
structure NU(P:am)(w:ax)(K:zZ)(mg:jc)(kh:aE)(k:Nat)(C:ak)(ps:jp)(sp:Sp):Prop where
 ex:∃ f fd,Mk K C f/\ZI P w K mg kh ZO k f fd ps sp/\Zq K fd ps []/\Zq K fd ps [.none]
inductive Yv(kc ke CTb:ak):Sp
 |mk{x dx:ak}{X:Zi}{lk:ak}{ls:jf}{r:jr}{H:Hp}{Q:VK}{E:XK}:H x=some (.ins CTb dx [])->x≠X.S->Z5 kc ke H X.S X.d lk X.ts X.av X.ho X.as X.kvs ls->(∀ i,r=some i->i<X.ts.length/\1<=X.ho i) ->
  (∀ H',(∀ b o,b≠x->H b=some o->H' b=some o)->Yf CTb H' x X.S r->Q .non H')->Yv kc ke CTb [.ref x,.ref X.S,XB r] H Q E
theorem ZPn:ZB zEn zEn (Za Ou):=Zr
def ZNp(F:UR K "__init__" "Table.__init__" Ou f fd)(L:UH K mg CTb)(DC:ZA P w K mg kh 4 "check_root" zEd (YJ kc ke)):ZI P w K mg kh ZO 5 f fd zEn (Yv kc ke CTb):=by
 refine UR.go F ZPn (λvs H Q E h=>(by cases h;rfl)) (λcdv A outer s H vs Q E hr h=>?_)
 let⟨hx,xS,R,hr0,q⟩:=h;rename_i x dx X lk ls r
 exists _,ZM (XS (Ze DC hr (Zn (pv 1) (pv 2)))) (ZM (Ui (pv 0) (pv 1) rfl) (ZT (Ui (pv 0) (pv 2) rfl)));refine⟨_,Z,_,Z,.mk R hr0 λH1 s1=>?_⟩;exists _,Z,_,Z,x,CTb,dx,_,Z,s1 _ _ hx,L.cT,L.ns,yT Z;exists _,Z,_,Z,x,CTb,dx,_,Z,ZV,L.cT,L.nr,yT Z;rw[NM];exact q _ (λb o n e=>by rw[ZR n];exact s1 _ _ e) ⟨dx,ZV⟩
def ZOY{X:Cx}{k:Nat}{C:ak}{x:Str}{o:jp}{h:Sp}{e:Expr}{a:jx}{t:TA}{p c:aJ}(D:NU X.prog X.w X.K X.mg X.base k C o h)(n:ZS (k+1) X.A)(l:Gl X x)(m:X.mg x=some (.ref C))(i:PA X (e::a) t)(d:(x==("__debug__" : Str))=false:=by decide)(j:aw (e::a) X.env=(false,aH e X.env)::aw a X.env:=by rfl)(g:(aG c (aw a X.env)).any (·.1)=false:=by rfl):
  PE X (.Call (.Name x p) (e::a) [] c) (Nm C h [] E0 t):=by
 let⟨f,fd,M,F,b,_⟩:=D.ex;exact Hl M F n l m b .nil YG i d j g
def EW{X:Cx}{k:Nat}{C:ak}{x:Str}{o:jp}{h:Sp}{e:Expr}{a:jx}{t:TA}{p c:aJ}(D:NU X.prog X.w X.K X.mg X.base k C o h)(n:ZS (k+1) X.A)(l:Gl X x)(m:X.mg x=some (.ref C))(i:PA X (e::a) t)(d:(x==("__debug__" : Str))=false:=by decide)(j:aw (e::a) X.env=(false,aH e X.env)::aw a X.env:=by rfl)(g:(aG c (aw a X.env)).any (·.1)=false:=by rfl):
  PE X (.Call (.Name x p) (e::a) [] c) (Nm C h [.non] E0 t):=by
 let⟨f,fd,M,F,_,b⟩:=D.ex;exact Hl M F n l m b (.cons rfl .nil) YG i d j g
inductive YE(d:jk)(kc ke CTb CK:ak):Sp
 |mk{T:ak}{X:Zi}{e:ak}{g:jf}{r:jr}{v:V}{N:ak->Prop}{o:jG}{H:Hp}{Q:VK}{E:XK}:Yf CTb H T X.S r->Tb d kc ke H X e g r->(Ym X.ts r).length<=200->g.length<=379000->Xr N H o v->(o=none->∀ a,ZE H a->E (.ref CK) none a) ->
  (∀ k,o=some k->∀(a:Hp)(D:ak)(h c:jf),(∀ b o,b≠e->H b=some o->a b=some o)->Tb d kc ke a X e c r->c.length<=g.length+8->H D=none->a D=some (.lst h)->jV a (WB (Ym X.ts r) k) h->Q (.ref D) a) ->
  YE d kc ke CTb CK [.ref T,v] H Q E
theorem ZNV:ZB zEt zEt (Za Hj):=Zr
theorem ZLk{c:jk}(F:Zh K "side" "Table.side" Hj f fd)(L:UH K mg CTb)(j:WU P w K mg kh 11 "value_of" zEf (XM c kc ke CK)):ZI P w K mg kh (Yn P w) 12 f fd zEt (YE c kc ke CTb CK):=by
 refine F.okD ZNV (λM H Q E h=>(by cases h;rfl)) (λn A a s H M Q E z h=>?_)
 let⟨⟨b,d⟩,t,g,u,B,J,q⟩:=h;rename_i T X U e r v N o
 intro R;exists _,ZT (Zf (Mi OV j z (V4 (Xz (pv 0) rfl) (Xz (pv 0) rfl) (pv 1))));refine⟨_,Z,T,CTb,b,_,.ref X.S,Z,d,L.cT,L.ns,Z,_,Z,T,CTb,b,_,XB r,Z,d,L.cT,L.nr,Z,_,Z,.mk (t.askd g ∅) B J λk p l D O x m I _ y C=>?_⟩
 let G:(e++QJ (UX X.ts k r)).length<=e.length+8:=by
  rw[zS];unfold QJ;rw[zX]
  cases r with
  | none=>exact wV _ _
  | some i=>
   have:=t.low g i Z;have:(UX X.ts k (some i)).length=(gd X.ts i).h+1:=LO _ _ _ _
   lia
 exact q k p l D O _ x (t.of m) G I y C
inductive Y6(a:jk)(kc ke CTb:ak):Sp
 |mk{T:ak}{X:Zi}{b:ak}{c:jf}{r:jr}{H:Hp}{Q:VK}{E:XK}:Yf CTb H T X.S r->Tb a kc ke H X b c r->Q (.int ((Ym X.ts r).length:Nat)) H->Y6 a kc ke CTb [.ref T] H Q E
inductive Yd(a:jk)(kc ke:ak):Sp
 |mk{X:Zi}{b:ak}{c:jf}{r:jr}{H:Hp}{Q:VK}{E:XK}:Tb a kc ke H X b c r->Q (.int ((Ym X.ts r).length:Nat)) H->Yd a kc ke [.ref X.S,XB r] H Q E
theorem ZGV:ZB zEd zEd (Za JW):=Zr
def ZFX{l:jk}(F:Zh K "rows_under" "rows_under" JW f fd)(T:Yb mg)(L:Yq K mg kc ke)(g:ZD P w K mg kh ZO 2 kc "label" zEa (XZ kc ke)):ZI P w K mg kh ZO 3 f fd zEd (Yd l kc ke):=by
 refine F.ok ZGV (λB H Q E h=>(by cases h;rfl)) (λj A b s H B Q E u h=>?_)
 let⟨t,q⟩:=h;rename_i X x y r
 let⟨G,z⟩:=T.many;intro C;exists _,ZM (Z3 (PZ (Nz (pv 1))) (ZT (Zf ZL)) Z4) (ZT (Zf (YS K (YH (E:=E0) (pv 0) L.cS g u YG (ZU (pv 1))) (Xp (v:=.int 3) rfl z ⟨_,rfl⟩))))
 cases r with
 | none=>exact⟨_,Z,_,Z,Z0 q⟩
 | some i=>
  let⟨k,n⟩:=t.sh.sh.self;let c:=(t.tp i Z).1;let⟨a,D,p,e,o,_⟩:=(t.sh.tw i c).tag;let e:(X.as.getD i .d).tg=a:=V.ref.inj e;exact⟨_,Z,_,Z,Zo ⟨_,Z,X.S,k,_,Z,n,Z,_,Z,X,x,X.ts.length,y,i,Z,t.sh.q,c,.inr (.inl ⟨(X.as.getD i .d).tg,_,_,.int (Zt (gd X.ts i)).m,rfl,rfl,Zv.of (by rw[e];exact o),rfl,q⟩)⟩⟩
theorem AC:ZB zEo zEo (Za HU):=Zr
def ZJj{c:jk}(F:Zh K "count" "Table.count" HU f fd)(L:UH K mg CTb)(e:ZA P w K mg kh 3 "rows_under" zEd (Yd c kc ke)):ZI P w K mg kh ZO 4 f fd zEo (Y6 c kc ke CTb):=by
 refine F.ok AC (λj H Q E h=>(by cases h;rfl)) (λg A a s H j Q E i h=>?_)
 let⟨⟨b,d⟩,t,q⟩:=h;rename_i T X l m r
 intro k;exists _,ZT (Zf (Ze e i (Zn (Xz (pv 0) rfl) (Xz (pv 0) rfl))));exact⟨_,Z,T,CTb,b,_,.ref X.S,Z,d,L.cT,L.ns,Z,_,Z,T,CTb,b,_,XB r,Z,d,L.cT,L.nr,Z,.mk t q⟩
inductive XI(d:jk)(kc ke CTb:ak):Sp
 |mk{T:ak}{X:Zi}{e:ak}{g:jf}{r:jr}{H:Hp}{Q:VK}{E:XK}:Yf CTb H T X.S r->Tb d kc ke H X e g r->(Ym X.ts r).length<=200->g.length<=379000 ->
  (∀(a:Hp)(D:ak)(h c:jf),(∀ b o,b≠e->H b=some o->a b=some o)->Tb d kc ke a X e c r->c.length<=g.length+400->H D=none->a D=some (.lst h)->jV a (YD (Ym X.ts r)) h->Q (.ref D) a)->XI d kc ke CTb [.ref T] H Q E
theorem Bc:ZB zEo zEo (Za K1):=Zr
theorem ZLV{d:jk}(F:Zh K "rows" "Table.rows" K1 f fd)(L:UH K mg CTb)(m:ZA P w K mg kh 26 "rows_of" zEd (Xm d kc ke)):ZI P w K mg kh ZO 27 f fd zEo (XI d kc ke CTb):=by
 refine F.ok Bc (λC H Q E h=>(by cases h;rfl)) (λo A b s H C Q E x h=>?_)
 let⟨⟨c,g⟩,t,B,u,q⟩:=h;rename_i T X y z r
 intro I;exists _,ZT (Zf (Ze m x (Zn (Xz (pv 0) rfl) (Xz (pv 0) rfl))));let J:(Wx X.ts r).length<=400:=by
  cases r with
  | none=>exact zD _
  | some i=>
   have:=CV t.wf _ i (t.tp i Z).1 Z;have:(Ym X.ts (some i)).length=(gd X.ts i).rows.length:=rfl;have:(Wx X.ts (some i)).length=(Xs X.ts (gd X.ts i).h i).length:=rfl
   lia
 let p:Um X.ts (Wx X.ts r)=Ym X.ts r:=by
  cases r with
  | none=>rfl
  | some i=>exact FC t.wf _ i (t.tp i Z).1 Z
 refine⟨_,Z,T,CTb,c,_,.ref X.S,Z,g,L.cT,L.ns,Z,_,Z,T,CTb,c,_,XB r,Z,g,L.cT,L.nr,Z,.mk X y X.ts.length z r ⟨t.sh.q,t.wf,λi e=>⟨(t.tp i e).1,zN (t.low B i e) (by decide)⟩,∅,∅⟩ (λj k=>?_) λn D G a v l=>?_⟩
 ·cases r with
  | none=>cases k
  | some i=>exact Dq t.wf _ i (t.tp i Z).1 Z j k
 ·rw[p] at l;exact q n D G _ a.fr (t.of a.sh) (by rw[zS];unfold iN;rw[zX];lia) a.free v l
inductive Xx(h:jk)(kc ke CTb CK:ak):Sp
 |mk{T:ak}{X:Zi}{d:ak}{i:jf}{r:jr}{p q:V}{s n:ak->Prop}{j l:jG}{H:Hp}{Q:VK}{E:XK}:Yf CTb H T X.S r->Tb h kc ke H X d i r->(Ym X.ts r).length<=150->X.ts.length<=700->i.length<=369000->YU X d T->Xr s H j p->Xr n H l q->n d ->
  (j=none\/l=none->∀(e:Hp)(a:jf),(∀ b o,b≠d->H b=some o->e b=some o)->Tb h kc ke e X d a r->a.length<=i.length+8->E (.ref CK) none e) ->
  (∀ k v,j=some k->l=some v->∀(e:Hp)(g:Zi)(a:jf)(m:Nat),g.S=X.S->(∀ c o,c≠T->YU X d c->H c=some o->e c=some o/\YU g d c)->YU g d T->Tb h kc ke e g d a (some m)->Yf CTb e T g.S (some m)->Ym g.ts (some m)=ins k v (Ym X.ts r)->g.ts.length<=X.ts.length+9->a.length<=i.length+30->Q (.bl (!jX (WB (Ym X.ts r) k) [v])) e) ->
  Xx h kc ke CTb CK [.ref T,p,q] H Q E
theorem Qf:ZB ["self","key","value","changed"] zEw (Za Jo):=Zr
theorem B0{gt:jk}(F:Zh K "put" "Table.put" Jo f fd)(L:UH K mg CTb)(DS:ZD P w K mg kh (Yn P w) 12 CTb "side" zEt (YE gt kc ke CTb CK))(DC:WU P w K mg kh 7 "checked" zEq (Ya CK))(DP:ZA P w K mg kh 14 "put_in" zE0 (WI gt kc ke)):ZI P w K mg kh (Yn P w) 15 f fd zEw (Xx gt kc ke CTb CK):=by
 refine F.okD Qf (λvs H Q E h=>(by cases h;rfl)) (λa9 A a6 s H vs Q E Y h=>?_)
 let⟨I,t,a7,t7,a0,oT,hk,hv,a5,no,q⟩:=h;rename_i T X lk ls r vk vv N1 N2 ok ov
 let nd:=Qf.nd;let M:=Y.mono (show 12<=14 by lia)
 let a1:=Y.mono (show 7<=14 by lia)
 intro Xc;refine⟨_,ZM (Zg 3 nd (UB (B4 Y) (YH (E:=E) (pv 0) L.cT DS M (FR OV λ_ _ _ h=>h) (ZU (pv 1))) (Y3 (ZU (Mi OV DC a1 (ZU (pv 2))))) (YW _)))
  (ZM (Ui (pv 0) (Ze DP Y (Qr (Xz (pv 0) rfl) (Xz (pv 0) rfl) (pv 1) (pv 2))) rfl)
  (ZT (Zf (pv 3)))),?_⟩
 let⟨j,hT⟩:=id I;let a8:=a0;refine⟨_,Z,T,j,_,Z,hT,Z,_,Z,.mk I t ∅ ∅ hk (λz H' s'=>no (.inl z) H' ls (λb o _ e=>s' b o e) (t.same s') ∅) λk ek H1 D ys a4 l t1 l1 nD hD ks=>?_⟩
 subst ek;let m1:Zz H H1:=λb xs e=>l b _ (ZY e t.sh.sh.looks) e;let a2:Xr N2 H1 ov vv:=hv.mono ⟨m1,λb o e n=>l b o (λz=>n (z ▸ a5)) e⟩;refine⟨_,Z,vv,N2,ov,Z,a2,λgo H2 s2=>?_,λz H2 s2=>no (.inr z) H2 a4 (λb o n e=>s2 _ _ (l b o n e)) (t1.same s2) ∅⟩
 let⟨v,rfl⟩:=uF.mp go;exists YQ;intro p1 U;let⟨H3,eU,g3,h3⟩:=XR U (.lst [vv]);rw[eU];let W:=s2.trans g3;let t3:=t1.same W;let u:∀ b o,b≠lk->H b=some o->H3 b=some o:=λb o n e=>W _ _ (l b o n e);let m3:Zz H H3:=λb xs e=>W _ _ (m1 b xs e);let a3:=hk.1.mono m3 _ _;let N:=hv.1.mono m3 _ _;exists D,p1,ys,[vv],WB (Ym X.ts r) k,[v],Z,Z,ZK.of (W _ _ hD),ZK.of h3,ks.sm W,.cons N .nil,λx hx=>?_
 ·let⟨y,hy,rfl⟩:=zR.mp hx;exact(t.fit y (yC.mp hy).1).2
 let m:=u _ _ oT.2.2.1 hT;refine⟨_,Z,T,CTb,j,_,.ref X.S,Z,m,L.cT,L.ns,Z,_,Z,T,CTb,j,_,XB r,Z,m,L.cT,L.nr,Z,_,Z,_,Z,.mk t3 a7 t7 ∅ a3 hk.2 N hv.2 λG p O V B t4 e4 l4 f4=>?_⟩
 let J:=B.fr _ _ oT m;let g:=B.off _ _ oT m;exists _,Z,T,CTb,j,_,Z,J,L.cT,L.nr,yT Z;let a:∀ c o,c≠T->G c=some o->upd G T (.ins CTb j (Ys "root" (.int (V:Nat)) (Nv X.S r))) c=some o:=λc o n e=>by rw[ZR n];exact e
 let eT:upd G T (.ins CTb j (Ys "root" (.int (V:Nat)) (Nv X.S r))) T=some (.ins CTb j (Nv X.S (some V))):=ZV;generalize upd G T (.ins CTb j (Ys "root" (.int (V:Nat)) (Nv X.S r)))=H5 at a eT⊢;let mT:Zz G H5:=λc xs e=>a c _ (ZY e J) e;let R5:Z5 kc ke H5 p.S p.d lk p.ts p.av p.ho p.as p.kvs O:=by
  let R:=t4.sh;let⟨⟨dS,hS⟩,hd,hl⟩:=R.sh;refine⟨⟨⟨dS,a _ _ g.1.symm hS⟩,a _ _ g.2.1.symm hd,a _ _ g.2.2.1.symm hl⟩,R.keys,R.val,R.len,λi hi=>?_,R.own,R.two⟩;let⟨U,C,n3⟩:=g.2.2.2 i hi;exact(R.tw i hi).frame mT (λo e=>a _ _ U.symm e) (λo e=>a _ _ n3.symm e) (λo e=>a _ _ C.symm e)
 exact⟨_,Z,q k v Z Z H5 p O V B.S (λc o U C e=>⟨a c o U (B.fr c o C (u c o C.2.2.1 e)),B.off c o C (u c o C.2.2.1 e)⟩) g ⟨R5,t4.wf,t4.hb,t4.tp⟩ ⟨j,by rw[B.S];exact eT⟩ e4 l4 ∅⟩
end
theorem AA{d:ak}{o:aI}{a:Array DictEntry}{g:Nat}{Q:ja}(i:(d==sysModules)=false)(c:s.heap.get? d=some o)(j:o.ExactDict)(b:o.data=.dict a g)(e:(a.size:Int)<2 ^ 63)(h:Q (.int a.size (s.toks+1)) { s with toks:=s.toks+1+1 }):aC (aB prog w) A (call (.builtin "len") [.ref d]) Q E s:=by
 refine Calls.call_function_entry kind_len plain_len entry_len (args_len1 _) ?_;let f:s.TypeIs (.ref d) "dict" :=⟨o,c,j.1⟩;unfold Builtin.«len»;refine aa (m:=oneArg "len" _) (ae ?_);let M:MeetsIn prog w (Builtin.«dict.__len__» ⟨[.ref d],[]⟩) (λ_ R s=>(s.heap.get? d=some o)/\R (.ok (.ret (.int a.size s.toks))) { s with toks:=s.toks+1 }):=
  .of_wp λA R s ⟨c,h⟩=>by
   show aC _ _ (dictSize d >>= _) _ _ s;unfold dictSize;refine aa (aa (wpAny_dictEntries c b (ae ?_)));show aC _ _ (Builtin.Dict.pendingCount d >>= _) _ _ s;refine aa (wpAny_pendingCount_other i ?_);refine wpAny_ret_mkInt ?_;rw[Nat.add_zero];exact h
 refine aa (m:=callSpecial? (.ref d) (yH "__len__")) (wpAny_callSpecial?_slot (name:=yH "__len__") f F.slot_dict_len
  (call_meetsIn F.slot_dict_len f F.entry_dict_len (F.args_dict_len_1 _) M ⟨c,?_⟩))
 show aC _ _ _ _ _ { s with toks:=s.toks+1 };refine aa (ag (ae ?_));refine aa (wpAny_letGo ?_);show aC _ _ (if ((a.size:Nat):Int)<0 then _ else _) _ _ _
 rw[aO nofun]
 show aC _ _ (if ((a.size:Nat):Int) ≥ 2 ^ 63 then _ else _) _ _ _
 rw[aO nofun]
 exact aa (wpAny_mkInt (ae ⟨_,rfl,h⟩))
def ZOd{a b:ak}{j k:aI}{f:Array DictEntry}{r l:Nat}{Q:ja}(t:(a==sysModules)=false)(u:(b==sysModules)=false)(c:s.heap.get? a=some j)(n:j.ExactDict)(g:j.data=.dict f r)(i:s.heap.get? b=some k)(o:k.ExactDict)(m:k.data=.dict #[] l)(v:A.units<cLine)(h:Q (.bool f.isEmpty) s):aC (aB prog w) A (aA .Eq (.ref a) (.ref b)) Q E s:=by
 let p:s.TypeIs (.ref a) "dict" :=⟨j,c,n.1⟩;let q:s.TypeIs (.ref b) "dict" :=⟨k,i,o.1⟩;refine wpAny_richCompare_same_room (op:=.Eq) p q qT (wpAny_call_entry qT p PySem.F.entry_dict_eq ?_ (PySem.F.args_dict_eq_2 _ _)) v;show aC _ _ (Builtin.Dict.dictSlotArgs "__eq__" ⟨[.ref a,.ref b],[]⟩ >>= _) _ _ s;refine aa ?_;unfold Builtin.Dict.dictSlotArgs;refine aa (wpAny_notOrdered_dict p ?_);show aC _ _ (pure (Value.ref a,Value.ref b)) _ _ s;refine ae ?_;refine aa (wpAny_isInstance (T:= "dict") q PySem.F.sub_dict_dict ?_);simp only[uU,wT,if_false];refine aa (ae (aa (ae ?_)));refine aa ?_;unfold Builtin.Dict.samePairs Builtin.Dict.showsAll;rw[aO (show ¬ (a==sysModules)=true by rw[t];exact zW),aO (show ¬ (b==sysModules)=true by rw[u];exact zW)]
 refine aa (ae (aa (ae ?_)));refine aa (wpAny_dictEntries c g ?_);dsimp only;refine aa (wpAny_dictEntries i m ?_);by_cases d:f.size=0
 ·let e:f=#[]:=qB d;subst e;rw[aO (by simp)]
  refine aa (wpAny_dictEpoch c g ?_);refine aa ?_;rw[Std.Legacy.Range.forIn_eq_forIn_range'];simp only[Std.Legacy.Range.size,Nat.sub_zero,tL,Nat.div_one];refine ae (ae (ae ⟨_,rfl,⟨(λx=>nomatch x),?_⟩⟩));simpa using h
 ·rw[aP (by simpa using d)]
  refine aa (ai (ae (ae ⟨_,rfl,⟨(λx=>nomatch x),?_⟩⟩)));have:f.isEmpty=false:=by simpa [sO] using d
  rw[this] at h;simpa using h
inductive UM(c:ax)(d:jf)(H:Hp)(Q:VK):Prop
 |mk(a:ak)(b:List (KT×V×V))(_:d=[.ref a])(_:Z1 c H a b)(_:b.length<1000)(_:Q (.int (b.length:Nat)) H)
theorem ZJg:Vp X (.builtin "len") (UM X.w):=by
 intro e s z H y x Q I r h;let⟨a,f,rfl,g,l,q⟩:=h;let⟨u,rfl,t⟩:=QF r;cases t;let⟨i,j,d⟩:=g.ex;let⟨⟨b,n,o,v,m,p,k⟩,_⟩:=I.hok a _ j;let c:i.size=f.length:=by have:=Paired.length d;simpa using this.symm
 refine AA b m p k nofun ?_
 rw[c];exact⟨.int f.length,H,(I.tok _),⟨_,Z⟩,q⟩
inductive Qn(d:ax)(x y:V)(H:Hp)(Q:VK):Prop
 |mk(a b:ak)(c:List (KT×V×V))(_:x=.ref a)(_:y=.ref b)(_:Z1 d H a c)(_:H b=some (.dK []))(_:Q (.bl c.isEmpty) H)
def Bk(J:X.A.units<cLine):Yy X (aA .Eq) (Qn X.w):=by
 intro k s T H x y v u Q I N O h;let⟨a,b,l,rfl,rfl,n,B,q⟩:=h;cases N;cases O;let⟨t,C,j⟩:=n.ex;let⟨⟨c,G,o,R,E,K,D⟩,_⟩:=I.hok a _ C;let⟨_,L,P,M,m⟩:=Jy I.hok B;let z:P=[]:=vP (by rw[<-M.length];rfl)
 subst z;let⟨S,e,r,g,i,f,_,F,_⟩:=m;let p:e=#[]:=qB (by have:=F.length;simpa using this)
 subst p;let d:t.size=l.length:=by have:=Paired.length j;simpa using this.symm
 refine ZOd c L E K D g i f J (Y4 I q ?_)
 cases l with
 | nil=>simp[sO,d]
 | cons _ _=>simp[sO,d]
def ZLD{X:Cx}{w:ax}{o i:Expr}{a:aJ}{b c:TE}(h:X.A.units+5<cLine)(e:PE X o b)(d:PE X i c)(g:LZ i)(j:X.w=w:=by rfl):PE X (.Subscript o i a) (Fq w b c):=by
 subst j;exact Ln h e d g
def ZPM{c:jk}(h:PX c):c.Nodup:=h.imp fun{a b} q e=>by rw[e,VG] at q;cases q
structure YI(w:ax)(H:Hp)(D:ak)(rs:jo)(xs:List (KT×V×V)):Prop where
 dk:Z1 w H D xs
 rows:Paired (fun(r:ZZ)(x:KT×V×V)=>x.1=r.1/\ZC H r.2 x.2.2) rs xs
def YI.keys{w:ax}{H:Hp}{D:ak}{b:jo}{c:List (KT×V×V)}(h:YI w H D b c):c.map (·.1)=b.map (·.1):=by
 have:=h.rows;clear h
 induction this with
 | nil=>rfl
 | cons a t d=>rw[yW,yW,a.1,d]
def YI.but{w:ax}{H H':Hp}{D p:ak}{a:jo}{b:List (KT×V×V)}(h:YI w H D a b)(s:ZH p H H')(t:Zz H H')(n:D≠p):YI w H' D a b:=⟨h.dk.but s t n,Paired.mapP h.rows λ_ _ z=>⟨z.1,z.2.mono t _ _⟩⟩
def YI.same{w:ax}{H a:Hp}{D:ak}{b:jo}{c:List (KT×V×V)}(h:YI w H D b c)(s:ZE H a):YI w a D b c:=⟨h.dk.same s,Paired.mapP h.rows λ_ _ z=>⟨z.1,z.2.sm s⟩⟩
def Jn{w:ax}{H a:Hp}{d:ak}{f:List (KT×V×V)}(c:Z1 w H d f)(s:ZH d H a):Zz H a:=λb i e=>by
 let⟨g,h,_⟩:=c.ex;exact s b _ e (ZY e h (by unfold Qu;intro z;cases z))
inductive WP(w:ax)(c:jf)(H:Hp)(Q:VK)(_:XK):Prop
 |mk(p:ak)(m:Int)(_:c=[.ref p,.int m])(_:ZJ H p)(_:0<m)(_:m<=301)(_:∀(D:ak)(b:jo)(d:List (KT×V×V))(a:Hp),H D=none->YI w a D b d->(∀ r∈b,r.fit)->PX (b.map (·.1))->((b.length:Nat):Int)<m->ZJ a p->ZH p H a->Q (.ref D) a)
abbrev ZMp:jp:=["_law_well_here","_law_most","_law_keys_here","_law_model","_law_spot"]
theorem Vz:ZB ZMp zE1 (Za HI):=Zr
inductive AR(p:ak)(m:Int)(c D:ak)(w:ax)(d:jk)(H:Hp)(e:jf)(i:Nat)(j:L2.St)(a:Hp):Prop
 |mk(b:jo)(h:List (KT×V×V))(g:jg)(_:j=[some (.ref p),some (.int m),some (.ref c),some (.ref D),g])(_:YI w a D b h)(_:b.map (·.1)=d.take i)(_:∀ r∈b,r.fit)(_:ZJ a p)(_:ZH p H a)(_:a c=some (.lst e))(_:jV a d e)
theorem ZJ7(F:Zh K "_law_ground" "_law_ground" HI f fd)(DP:ZA P w K mg kh 1 "_law_pull" zEc Zy)(DK:ZA P w K mg kh 9 "_law_keys" zEc Ud)(DV:ZA P w K mg kh 7 "_law_value" zEl WD):ZI P w K mg kh ZO 10 f fd zE1 (WP w):=by
 refine F.ko Vz λa7 A a5 s H N Q E q h=>?_;let⟨p,m,rfl,W,m0,a8,k⟩:=h;let nd:=Vz.nd;let a3:=q.to 1;let a4:=q.to 7;let MA:=ZS.key q (n:=4) (by decide)
 intro Xc;refine⟨_,ZM (Zg 2 nd (Ze DK q (Zn (pv 0) (Ze DP a3 (Zn (pv 0) (pv 1))))))
  (ZM (Zg 3 nd FX)
  (ZM (UE PassesOwn.never rfl (Wj (pv 2)) (UC 4 nd)
   (ZT (K0 MA (pv 3) (pv 4) (Ze DV a4 (ZU (pv 0))) rfl)))
  (ZT (Zf (pv 3))))),?_⟩
 exists _,Z,_,Z,_,Z,p,m,Z,W,Wy ∅ ∅
 intro n H1 n0 n1 W1 s1;let en:n=((n.toNat:Nat):Int):=∅
 exists p,n.toNat,congrArg (λy=>[V.ref p,V.int y]) en,W1,by lia
 intro x N ts H2 nK hK kK fK rK lK W2 s2;let pK:x≠p:=NP W1 nK;let M:=s1.trans s2;intro D H3 T a9 U a1;let W3:=W2.same U;let C:=U _ _ hK;let Dp:D≠p:=NP W2 T;let a0:D≠x:=λz=>by rw[z,hK] at T;cases T
 let J:H D=none:=Ej M W2 T;let a6:=M.trans (ZH.of U);let lv:=kK.length;refine⟨_,Z,x,Z,⟨N,ZK.of C⟩,Pa (K:=K) (a:=x) (xs:=N) (AR p m x D w ts H N)
  ⟨[],[],_,Z,⟨a1,.nil⟩,Z,λr q=>by simp at q,W3,a6,C,kK.sm U⟩ (λi σ H' _ hP=>by let⟨_,_,_,_,_,_,_,_,_,h,_⟩:=hP;exact ZK.of h) ?_ ?_⟩
 ·rintro i u σ H4 hu ⟨L,l,x4,rfl,dr,d,fr,O,s4,G,g⟩;let hi:i<N.length:=(zE.mp hu).1;let⟨t,R,kt⟩:=g.get hu;exists _,Z,p,Z,O;intro v vt H5 kv fv W5 X;let t5:=X.tupsW O;let c:=dr.but X t5 Dp;let lx:=Paired.length c.rows;let I:L.length=(ts.take i).length:=by rw[<-d,zX]
  rw[yP] at I;exists _,Z,_,Z,D,l,t,Z,c.dk,∅,kt.mono t5 _ _,Vf _ 3 (fK t (zJ R))
  intro H6 Y B;let t6:=Jn c.dk Y;let hn:t∉l.map (·.1):=by
   rw[c.keys,d];intro z;let⟨j,S⟩:=vR z;rw[List.getElem?_take] at S;split at S
   ·have:=(rT ∅ (ZPM rK)).mp (S.trans R.symm)
    lia
   ·cases S
  let ep:Vt l t u v=l++[(t,u,v)]:=by
   unfold Vt;rw[aO λz=>hn (XE.mp z)]
  rw[ep] at B;refine⟨L++[(t,vt)],l++[(t,u,v)],_,Z,⟨B,LF (a:=((t,vt):ZZ)) ⟨Z,kv.mono t6 _ _⟩ (Paired.mapP c.rows λ_ _ z=>⟨z.1,z.2.mono t6 _ _⟩)⟩,?_,λr a2=>?_,W5.stay Y (Ne.symm Dp),λb o e n=>Y b o (X b o (s4 b o e n) n) (Zd e J),Y _ _ (X _ _ G pK) (Ne.symm a0),(g.mono t5 _ _).mono t6 _ _⟩
  ·rw[zC,d,yR,R];rfl
  ·rcases zA.mp a2 with z | z
   ·exact fr r z
   ·rw[yZ.mp z];exact⟨fK t (zJ R),fv⟩
 ·rintro σ H4 ⟨L,l,x4,rfl,dr,d,fr,O,s4,G,g⟩;rw[yY ∅] at d
  let I:L.length=ts.length:=by rw[<-d,zX]
  exact⟨_,Z,k D L l H4 J dr fr (by rw[d];exact rK) ∅ O s4⟩
end Tw
namespace L2
open PySem PySem.Spec PyProof.Rows
end L2
namespace Tw
open PySem PySem.Spec L2 PyProof.Rows
variable{kc ke CS CT CH CK CP CB:ak}
inductive VM(d:zZ)(x y:V)(H:Hp)(Q:VK):Prop
 |mk(p:ak)(c:jf)(a:jk)(k:KT)(_:y=.ref p)(_:ZK d H p c)(_:jV H a c)(_:ZC H k x)(_:∀ t∈a,t.fits 3=true)(_:∀ b,Q (.bl b) H)
theorem ZGL{D:Nat}(C:ZS D X.A):Yy X (aA .NotIn) (VM X.K):=by
 intro l s V H x y v u Q I L M h;let⟨p,m,S,k,rfl,B,E,G,z,q⟩:=h;cases M;let⟨a,r,J,P⟩:=I.list B;let U:=C.un;let w:∀ y,y∈a.toArray->∃ b,PySem.SeqAt.EqAt X.A.in1 s y v b:=λy c=>by
  let d:y∈a:=by simpa using c
  let⟨j,g⟩:=vR d;let R:=r.length;let O:=(zE.mp g).1;let i:m[j]? = some (m[j]'∅):=zV ∅
  let⟨T,e,n⟩:=r.get i;rw[g] at e;cases e;let⟨t,o,F⟩:=E.get i;let N:=Vf t 3 (z t (zJ o));exact⟨_,Pr t.depth t k X.A.in1 y v (zY _) (Vd I _ _ _ F n) (Vd I _ _ _ G L) (by show X.A.units+1+_<_;lia)⟩
 refine PySem.SeqAt.notIn_listAt (λy=>@ite _ (PySem.SeqAt.EqAt X.A.in1 s y v true) (Classical.propDecidable _) true false) J.isList (λy c=>?_) ⟨.bl _,H,I,Z,q _⟩;let⟨b,f⟩:=w y c;by_cases h:PySem.SeqAt.EqAt X.A.in1 s y v true
 ·rw[aP h];exact h
 ·rw[aO h]
  cases b with
  | true=>exact absurd f h
  | false=>exact f
inductive Wd(i:jf)(H:Hp)(Q:VK)(_:XK):Prop
 |mk(p d:ak)(g:jf)(h:jk)(_:i=[.ref p,.ref d])(_:ZJ H p)(_:H d=some (.lst g))(_:jV H h g)(_:∀ t∈h,t.fits 3=true)(_:d≠p)(_:g.length<=800)(_:∀(v:V)(t:KT)(a:jf)(e:jk)(c:Hp),ZC c t v->t.fits 3=true->c d=some (.lst a)->jV c e a->(∀ t∈e,t.fits 3=true)->a.length<=g.length+1->ZJ c p->(∀ b o,b≠p->b≠d->H b=some o->c b=some o)->Q v c)
theorem Vq:ZB ["_law_well_here","_law_known","_law_spot"] zEv (Za KY):=Zr
def ZKO(F0:Zh K "_law_any_key" "_law_any_key" KY f fd)(T:Yb mg)(DP:ZA P w K mg kh 1 "_law_pull" zEc Zy)(DK:ZA P w K mg kh 6 "_law_key" zEg (XT 4)):ZI P w K mg kh ZO 7 f fd zEv Wd:=by
 refine F0.ko Vq λa9 A a6 s H vs Q E hr h=>?_;let⟨p,k,u,U,rfl,W,hk,kk,I,N,a8,q⟩:=h;let nd:=Vq.nd;let L:=hr.to 1;intro Xc;refine⟨_,ZM (Z3 (PW.pt (IX (Y2 (ZKz hr.units0) (pv 1) (Y3 Zj) (YW _)) (JE (Y2 OH (Ze DP L (Zn (pv 0) ZL)) ZL (YW _))))) (ZT (Zf (YS K (pv 1) (Ze DP L (Zn (pv 0) (Z6 WK rfl T.len X3 (ZU (pv 1)))))))) Z4)
  (ZM (Zg 2 nd (Ze DK hr (Zn (pv 0) ZL)))
  (ZM (Z3 (Y2 (ZGL hr) (pv 2) (pv 1) rfl) (ZT (XS (Ug xP wQ wP Q0 (pv 1) (ZU (pv 2))))) Z4)
  (ZT (Zf (pv 2))))),?_⟩
 exists _,Z,YQ;intro e0 a5;let m:=Zl a5 (.lst []);exists k,e0,u,Z,Z,ZK.of (m _ _ hk),ZK.of ZV,_,Z;let n:=m _ _ hk;let G:=W.same m;generalize upd H e0 (.lst [])=X at m n G⊢;let B:∀{Y:Hp},ZH p X Y->ZJ Y p->∀(R:V->Hp->Prop),(∀ v t a,ZC a t v->t.fits 3=true->ZJ a p->ZH p X a->R v a)->XT 4 [V.ref p,V.int 3] Y R E0:=λS W1 R hR=>⟨p,3,Z,W1,by decide,λv t a kv l g d=>hR v t a kv l g (S.trans d)⟩
 let x:∀{v:V}{t:KT}{a:Hp},ZC a t v->t.fits 3=true->ZJ a p->ZH p X a->Q v a:=fun{v t a} kv l g d=>q v t u U a kv l (d _ _ n N) ((kk.sm m).mono (d.tupsW G) _ _) I ∅ g λb o n1 _ e=>d b o (m b o e) n1
 let C:∀{v:V}{t:KT}{a:Hp},ZC a t v->t.fits 3=true->ZJ a p->ZH p X a->a k=some (.lst u)/\jV a U u/\(Q v a)/\Q v (upd a k (.lst (u++[v]))):=fun{v t a} kv l g d=>by
  let r:=d _ _ n N;let M:=(kk.sm m).mono (d.tupsW G) _ _;let sK:ZH k a (upd a k (.lst (u++[v]))):=(ZH.refl k a).upd;let tK:=sK.tups r;refine⟨r,M,x kv l g d,q v t (u++[v]) (U++[t]) _ (kv.mono tK _ _) l ZV ((M.mono tK _ _).append (.cons (kv.mono tK _ _) .nil)) (λz hz=>?_) (by simp) (g.stay sK (Ne.symm N)) λb o n1 n2 e=>by rw[ZR n2];exact d b o (m b o e) n1⟩
  rcases zA.mp hz with y | y
  ·exact I z y
  ·rw[yZ.mp y];exact l
 let a0:u.length<1000:=∅
 cases u with
 | nil=>
  refine Zo (Zo ⟨_,Z,B (ZH.refl _ _) G _ λv t a kv l g d=>?_⟩);let⟨D,a2,a3,a4⟩:=C kv l g d;refine⟨_,Z,_,Z,k,_,U,t,Z,ZK.of D,a2,kv,I,λb=>⟨_,Z,?_⟩⟩
  cases b with
  | true=>exact Z0 ⟨_,Z,.inl ⟨Z,_,ZK.of D⟩,_,Z,k,_,v,Z,Z,D,nn ∅,_,Z,a4⟩
  | false=>exact Zo ⟨_,Z,a3⟩
 | cons u0 a7=>
  refine Z0 ⟨_,Z,p,3,Z,G,Wy (by decide) (by decide),λz Y z0 z1 W1 S=>⟨_,_,Z,Z,_,Z,Ve (λc=>?_) (λc=>?_)⟩⟩
  ·let J:=S _ _ n N;exists _,Z,_,Z,_,Z,k,_,Z,.inl (ZK.of J),p,_,Z,W1,Wy (by simp <;> lia) (by simp at a0⊢ <;> lia)
   intro j a j0 j1 g d;let⟨v,av,mv⟩:=Nd (xs:=u0::a7) j0 j1;let r:=d _ _ J N;let⟨i,hi⟩:=vR mv;let O:=S.trans d;let⟨t,et,kt⟩:=((kk.sm m).mono (O.tupsW G) _ _).get hi;exact .inl ⟨k,_,_,v,Z,Z,ZK.of r,av,x kt (I t (zJ et)) g O⟩
  ·refine⟨_,Z,B S W1 _ λv t a kv l g d=>?_⟩;let⟨D,a2,a3,a4⟩:=C kv l g d;refine⟨_,Z,_,Z,k,_,U,t,Z,ZK.of D,a2,kv,I,λb=>⟨_,Z,?_⟩⟩
   cases b with
   | true=>exact Z0 ⟨_,Z,.inl ⟨Z,_,ZK.of D⟩,_,Z,k,_,v,Z,Z,D,nn ∅,_,Z,a4⟩
   | false=>exact Zo ⟨_,Z,a3⟩
abbrev EZ(a:jo):Prop:=(a.map (·.1)).Nodup
theorem CF:∀{d:jo},EZ d->∀{x y:ZZ},x∈d->y∈d->x.1=y.1->x=y
 | z::l,h,x,y,hx,hy,e=>by
  let c:=xM.mp h;rcases zQ.mp hx with a | a <;> rcases zQ.mp hy with b | b
  ·rw[a,b]
  ·exact absurd (zR.mpr ⟨y,b,by rw[<-e,a]⟩) c.1
  ·exact absurd (zR.mpr ⟨x,a,by rw[e,b]⟩) c.1
  ·exact CF c.2 a b e
theorem Dv{rs:jo}:∀(b:jk),(∀ t∈b,t∈rs.map (·.1))->∃ a:jo,a.map (·.1)=b/\∀ x∈a,x∈rs
 | [],_=>⟨[],Z,λx h=>by cases h⟩
 | t::b,h=>by
  let⟨r,g,e⟩:=zR.mp (h t zM);let⟨a,c,d⟩:=Dv b λj f=>h j (zK _ f);exact⟨r::a,by rw[yW,c,e],λx i=>(zQ.mp i).elim (λz=>z ▸ g) (d x)⟩
def YI.at_{w:ax}{H:Hp}{D:ak}{d:jo}{a:List (KT×V×V)}(h:YI w H D d a){r:ZZ}(j:r∈d):∃ v,VO a r.1=some v/\ZC H r.2 v:=by
 let⟨i,b⟩:=vR j;let l:=Paired.length h.rows;let k:=(zE.mp b).1;let c:a[i]? = some (a[i]'∅):=zV ∅
 let⟨m,e,f,g⟩:=Paired.ixR h.rows c;rw[b] at e;cases e;have:=GP h.dk.nd c;rw[f] at this;exact⟨_,this,g⟩
def YI.nd{w:ax}{H:Hp}{D:ak}{a:jo}{b:List (KT×V×V)}(h:YI w H D a b):EZ a:=by
 show (a.map (·.1)).Nodup;rw[<-h.keys];exact h.dk.nd
def YI.none{w:ax}{H:Hp}{D:ak}{a:jo}{b:List (KT×V×V)}(h:YI w H D a b){k:KT}(c:k∉a.map (·.1)):VO b k=uI:=E8 (by rw[h.keys];exact c)
def YI.put{w:ax}{H j:Hp}{D:ak}{f:jo}{i:List (KT×V×V)}(h:YI w H D f i)(s:ZH D H j){k v:KT}{A q:V}(kv:ZC H v q)(u:Z1 w j D (Vt i k A q)):∃ b,YI w j D b (Vt i k A q)/\b.length<=f.length+1/\∀ x,x∈b ↔ x=(k,v)\/(x∈f/\x.1≠k):=by
 let t:=Jn h.dk s;let g:=kv.mono t _ _;by_cases c:k∈f.map (·.1)
 ·let o:(i.any λx=>x.1.eqb k)=true:=XE.mpr (by rw[h.keys];exact c)
  refine⟨f.map λr=>if r.1.eqb k=true then (r.1,v) else r,⟨u,?_⟩,by simp,λx=>?_⟩
  ·unfold Vt;rw[aP o];have:=h.rows;clear u o c;let C:∀{l:jo}{m:List (KT×V×V)},Paired (fun(r:ZZ)(x:KT×V×V)=>x.1=r.1/\ZC H r.2 x.2.2) l m->Paired (fun(r:ZZ)(x:KT×V×V)=>x.1=r.1/\ZC j r.2 x.2.2) (l.map λr=>if r.1.eqb k=true then (r.1,v) else r) (m.map (OB k q)):=λp=>by
    induction p with
    | nil=>exact .nil
    | cons a _ E=>
     refine .cons ?_ E;unfold OB;dsimp only;rw[a.1];split
     ·exact⟨Z,g⟩
     ·exact⟨a.1,a.2.mono t _ _⟩
   exact C this
  ·rw[zR];constructor
   ·rintro⟨r,y,rfl⟩;by_cases z:r.1.eqb k=true
    ·rw[aP z,Vw _ _ z];exact .inl Z
    ·rw[aO z];exact .inr ⟨y,λe=>z (by rw[e];exact V6 _)⟩
   ·rintro(e | ⟨d,n⟩)
    ·let⟨r,y,B⟩:=zR.mp c;exact⟨r,y,by rw[B,aP (V6 _),e]⟩
    ·exact⟨x,d,aO λz=>n (Vw _ _ z)⟩
 ·let o:¬ (i.any λx=>x.1.eqb k)=true:=λz=>c (by rw[<-h.keys];exact XE.mp z)
  refine⟨f++[(k,v)],⟨u,?_⟩,by simp,λx=>?_⟩
  ·unfold Vt;rw[aO o];exact LF (a:=(k,v)) ⟨Z,g⟩ (Paired.mapP h.rows λ_ _ z=>⟨z.1,z.2.mono t _ _⟩)
  ·rw[zA,yZ];constructor
   ·rintro(d | e)
    ·exact .inr ⟨d,λe=>c (e ▸ zR.mpr ⟨x,d,Z⟩)⟩
    ·exact .inl e
   ·rintro(e | ⟨d,_⟩)
    ·exact .inr e
    ·exact .inl d
inductive Yj(w:ax):Sp
 |mk{D:ak}{c:jo}{e:List (KT×V×V)}{H:Hp}{Q:VK}{E:XK}:YI w H D c e->(∀ r∈c,r.fit)->c.length<=300->(∀(l:ak)(d:jf)(a:jo)(b:Hp),ZE H b->H l=none->b l=some (.lst d)->jV b (YD a) d->Up a->(∀ x,x∈a ↔ x∈c)->Q (.ref l) b)->Yj w [.ref D] H Q E
theorem ZKy:ZB zFc zFc (Za JP):=Zr
theorem ZIr(F:Zh K "_law_sorted" "_law_sorted" JP f fd)(T:Yb mg)(DR:ZA P w K mg kh 6 "_law_rank" zEu (Xt 5)):ZI P w K mg kh ZO 9 f fd zFc (Yj w):=by
 refine F.ok ZKy (λvs H Q E h=>(by cases h;rfl)) (λa7 A a5 s H vs Q E hr h=>?_)
 let⟨I,fr,a9,k⟩:=h;rename_i D C xs
 let a3:=ZS.key hr (n:=5) (by decide)
 let DS:ZA P w K mg kh 6 "_law_rank" zEu (Pm KT.rk):=by
  let⟨g,gd,FG,b,kp,m⟩:=DR.ex;exact⟨g,gd,FG.imp λvs H Q E h=>by
   let⟨v,t,e,a,c,d⟩:=h;have:=Vf t 3 c;exact⟨v,t,3,e,a,c,∅,d⟩,b,kp,m⟩
 intro Xc;exists _,ZT (Zf (Vm [0] zFc rfl (Wj (CC Ht IL DS hr rfl T.sorted rfl (ZU (pv 0)))) (λ_ _ _ _ _=>UV) (λ_ _ _ _ _=>X9 (Zn (pv 0) (ZLD (w:=w) a3 (pv 1) (pv 0) (λ_ _=>rfl)))) ⟨rfl,.inl rfl,rfl,trivial⟩));let lx:=Paired.length I.rows;let ek:=I.keys;let kf:∀ x∈xs,x.1.fits 3=true:=λx V=>by
  have:x.1∈C.map (·.1):=by rw[<-ek];exact zR.mpr ⟨x,V,Z⟩
  let⟨r,a2,e⟩:=zR.mp this;rw[<-e];exact(fr r a2).1
 exists _,Z,D,xs,Z,I.dk,kf,by lia
 intro S G ts H1 s1 nS U ka X pw;let a6:=GC (X.nodup_iff.mpr I.dk.nd) pw;let⟨Y,R,B⟩:=Dv (rs:=C) ts λt ht=>by rw[<-ek];exact X.mem_iff.mp ht
 subst R;let a0:=I.same s1;let lw:=ka.length;rw[zX] at lw;let lp:=X.length_eq;rw[zX,zX] at lp;let a4:∀ x,x∈Y ↔ x∈C:=λx=>⟨B x,λV=>by
  have:x.1∈Y.map (·.1):=X.mem_iff.mpr (by rw[ek];exact zR.mpr ⟨x,V,Z⟩)
  let⟨y,O,e⟩:=zR.mp this;rw[<-CF I.nd (B y O) V e];exact O⟩
 refine⟨S,Z,⟨G,ZK.of U⟩,Ue (n:=G.length) (λi z=>G[i]? = some z) (λE i u j=>ZE H1 j/\H1 E=none/\jV j ((YD Y).take i) u) (XU ∅)
  (λE i u j hi l=>⟨G,G[i],ZK.of (l.1 _ _ U),by simp[hi]⟩) (λE i u j z H4 hi l O=>⟨O.1,O.2 G (ZK.of (l.1 _ _ U))⟩) (λE u j l=>⟨G,ZK.of (l.1 _ _ U),zY _⟩)
  (λE hE=>⟨Zl hE _,hE,.nil⟩) (λE i u j z eE a8 hi hz l RR a1=>?_) (λE u j eE l=>?_)⟩
 ·let⟨J,W,p⟩:=l;let⟨t,R,kt⟩:=ka.get hz;rw[zH] at R;let⟨r,er,rfl⟩:=xX.mp R;let L:=a0.same J;let N:=B r (zJ er);let⟨v,hv,e2⟩:=L.at_ N;let ff:=(fr r N).1;exists _,Z,_,Z,_,Z,D,xs,r.1,_,Z,L.dk,kt.sm J,Vf _ 3 ff,hv,YQ;intro q nq;let g:=Zl nq (.tup [z,v]);let eq:=ZV (H:=j) (a:=q) (o:=.tup [z,v]);let M:=g _ _ eE;refine a1 _ _ M ⟨UK (J.trans g) W,W,?_⟩;let tE:Zz (upd j q (.tup [z,v])) (upd (upd j q (.tup [z,v])) E (.lst (u++[.ref q]))):=(ZH.refl E _).upd.tups M;unfold YD;rw[yR,zH,er];refine((p.sm g).mono tE _ _).append (.cons (.tup (tE _ _ eq) (.cons ?_ (.cons ?_ .nil))) .nil)
  ·exact(kt.sm (J.trans g)).mono tE _ _
  ·exact(e2.sm g).mono tE _ _
 ·let⟨J,W,p⟩:=l;rw[yY (by unfold YD;rw[zX];lia)] at p
  exact k E u Y j (s1.trans J) (s1.free W) eE p a6 a4
theorem De(a:jf)(n s:Nat)(b:n<=a.length):VH a (some (n:Int)) (some ((n:Int)+(s:Int)))=(a.drop n).take s:=by
 unfold VH;let e:((n:Int)+(s:Int))=((n+s:Nat):Int):=∅
 rw[e,HT.sIx_nat,HT.sIx_nat,uR b,List.take_eq_take_min (i:=s),yD];rw[<-Nat.sub_min_sub_right,uH]
def FP{q:ak}{a b c d h:Int}(j:0<=h)(k:h<4)(f e:Int)(l:f<=a/\a<=e)(n:f<=b/\b<=e)(o:f<=c/\c<=e)(p:f<=d/\d<=e):∃ m:Int,Xq [V.int a,.int b,.int c,.int d] h=some (.int m)/\f<=m/\m<=e:=by
 let⟨v,g,i⟩:=Nd (xs:=[V.int a,.int b,.int c,.int d]) j k;simp only[zQ,tQ,or_false] at i;rcases i with rfl | rfl | rfl | rfl
 ·exact⟨a,g,l⟩
 ·exact⟨b,g,n⟩
 ·exact⟨c,g,o⟩
 ·exact⟨d,g,p⟩
def BI{a b c:Int}(h:c<=a)(g:c<=b):c<=if a<b then a else b:=by split <;> assumption
def C8{a b c:Int}(g:b<=c):(if a<b then a else b)<=c:=by
 split
 ·exact wF (wG ‹_›) g
 ·exact g
def ite_le'{a b:Int}:(if a<b then a else b)<=a:=by
 split
 ·exact wS _
 ·exact tS.mp ‹_›
structure Fo(gt:jk)(kc ke:ak)(H0 H:Hp)(X0 X:Zi)(p lk:ak)(ls:jf)(lev:jl):Prop where
 w:ZJ H p
 sh:Z5 kc ke H X.S X.d lk X.ts X.av X.ho X.as X.kvs ls
 wf:WF gt X.ts
 hb:QI X.ts X.av X.ho
 S:X.S=X0.S
 d:X.d=X0.d
 fr:∀ c o,c≠p->YU X0 lk c->H0 c=some o->H c=some o/\YU X lk c
 op:YU X lk p
 lev:∀ b∈lev,b<X.ts.length/\Tp X.av X.ho b
structure W9(H0 H:Hp)(X:Zi)(p lk c:ak)(us:jf):Prop where
 at_:H c=some (.lst us)
 off:YU X lk c
 new:H0 c=none
 ne:c≠p
section
variable{gt:jk}{kc ke:ak}{H0 H H':Hp}{X0 X:Zi}{p lk:ak}{ls:jf}{lev:jl}{c:ak}{us us':jf}
def Fo.same(F:Fo gt kc ke H0 H X0 X p lk ls lev)(s:ZE H H'):Fo gt kc ke H0 H' X0 X p lk ls lev:=⟨F.w.same s,F.sh.same s,F.wf,F.hb,F.S,F.d,λc o n f e=>⟨s _ _ (F.fr c o n f e).1,(F.fr c o n f e).2⟩,F.op,F.lev⟩
def Fo.pull(F:Fo gt kc ke H0 H X0 X p lk ls lev)(s:ZH p H H')(w:ZJ H' p):Fo gt kc ke H0 H' X0 X p lk ls lev:=by
 let⟨a,b,c,d,e,_⟩:=F.w.ex;exact⟨w,F.sh.but s e F.op,F.wf,F.hb,F.S,F.d,λc o n f e=>⟨s _ _ (F.fr c o n f e).1 n,(F.fr c o n f e).2⟩,F.op,F.lev⟩
def Fo.write(F:Fo gt kc ke H0 H X0 X p lk ls lev)(l:W9 H0 H X p lk c us)(s:ZH c H H'):Fo gt kc ke H0 H' X0 X p lk ls lev:=
 ⟨F.w.stay s l.ne.symm,F.sh.but s l.at_ l.off,F.wf,F.hb,F.S,F.d,λa o n f e=>⟨s _ _ (F.fr a o n f e).1 (Zd e l.new),(F.fr a o n f e).2⟩,F.op,F.lev⟩
def W9.same(l:W9 H0 H X p lk c us)(s:ZE H H'):W9 H0 H' X p lk c us:=⟨s _ _ l.at_,l.off,l.new,l.ne⟩
def W9.pull(l:W9 H0 H X p lk c us)(s:ZH p H H'):W9 H0 H' X p lk c us:=⟨s _ _ l.at_ l.ne,l.off,l.new,l.ne⟩
def W9.but(l:W9 H0 H X p lk c us){b:ak}(s:ZH b H H')(n:c≠b):W9 H0 H' X p lk c us:=⟨s _ _ l.at_ n,l.off,l.new,l.ne⟩
def Fo.fresh(F:Fo gt kc ke H0 H X0 X p lk ls lev)(n:H c=none)(a:H0 c=none)(e:H' c=some (.lst us)):W9 H0 H' X p lk c us:=⟨e,F.sh.new n,a,(NP F.w n)⟩
def Fo.put(F:Fo gt kc ke H0 H X0 X p lk ls lev){t:ZQ}{a:YL}{kvs':List (Zc×V)}{X':Zi}(A:YO gt X.ts X.ts.length t)(u:∀ b∈t.bs,b<X.ts.length/\Tp X.av X.ho b){lev':jl}(s:∀ b∈lev',b=X.ts.length\/(b∈lev/\b∉t.bs))(j:X'=⟨X.S,X.d,X.ts++[t],X1 t.bs X.ts.length (Wl X.ts.length X.av),WA t.bs (Wk X.ts.length X.ho),X.as++[a],kvs'⟩)(k:∀ c o,c≠X.S->c≠X.d->(∀ i:Nat,i<X.ts.length->c≠(X.as.getD i .d).x/\c≠(X.as.getD i .d).ab)->H c=some o->H' c=some o)(nx:H a.x=none)(z:H a.th=none)(v:H a.ab=none)(R:Z5 kc ke H' X'.S X'.d lk X'.ts X'.av X'.ho X'.as X'.kvs ls):
  Fo gt kc ke H0 H' X0 X' p lk ls lev'/\Go lk H H' X X':=by
 subst j;let G:=Nr (lk:=lk) (X:=X) (t:=t) (av':=X1 t.bs X.ts.length (Wl X.ts.length X.av)) (ho':=WA t.bs (Wk X.ts.length X.ho)) (kvs':=kvs') F.sh.len k nx z v;let⟨l,m,q⟩:=LS F.wf F.hb u;let⟨E,I,J,K,e,D⟩:=F.w.ex;refine⟨⟨⟨⟨E,I,J,K,G.fr _ _ F.op e,D⟩⟩,R,F.wf.push A,l,F.S,F.d,λc o n f e=>?_,G.off _ _ F.op e,λb r=>?_⟩,G⟩
 ·let⟨g,h⟩:=F.fr c o n f e;exact⟨G.fr _ _ h g,G.off _ _ h g⟩
 ·rcases s b r with y | ⟨L,M⟩
  ·rw[y];exact⟨by show X.ts.length<(X.ts++[t]).length;simp,q⟩
  ·let⟨B,C⟩:=F.lev b L;exact⟨by show b<(X.ts++[t]).length;rw[zS];lia,m b B M C⟩
def W9.go(l:W9 H0 H X p lk c us){a:Zi}(G:Go lk H H' X a):W9 H0 H' a p lk c us:=⟨G.fr _ _ l.off l.at_,G.off _ _ l.off l.at_,l.new,l.ne⟩
end
def Iq{a:jn}{t:ZQ}{l:jl}(h:∀ b∈l,b<a.length):Zp (a++[t]) l=Zp a l:=P5 λb c=>by rw[Ut (h b c)]
noncomputable def Dm:Option aD->jC
 | some (.While _ b _ _)=>b
 | _=>[]
abbrev Gr:jp:=["_law_well_here","_law_shelf","_law_rows","_law_few","_law_level","_law_at","_law_size","_law_above"]
theorem Ua:ZB Gr zEm (Za NL):=Zr
def Nq:List Stmt:=Dm ((Dm ((WJ NL)[4]?))[2]?)
structure Oe(gt:jk)(kc ke:ak)(H0 H:Hp)(X0 X:Zi)(p lk:ak)(ls:jf)(Lv Ab:ak)(lev ab:jl)(h n m0:Nat)(rs:jo):Prop where
 fo:Fo gt kc ke H0 H X0 X p lk ls (ab++lev.drop n)
 lv:W9 H0 H X p lk Lv (iN lev)
 av:W9 H0 H X p lk Ab (iN ab)
 ne:Lv≠Ab
 hl:∀ b∈lev,b<X.ts.length/\(gd X.ts b).h=h
 ha:∀ b∈ab,(gd X.ts b).h=h+1
 rows:Zp X.ts ab++Zp X.ts (lev.drop n)=rs
 few:2 * ab.length<=n
 le:n<=lev.length
 cnt:X.ts.length=m0+ab.length
theorem Az{gt:jk}{cdv:aj}{A:ay}{outer:jw}{s:al}{Hs:Hp}{E:XK}(T:Yb mg)(L:Yq K mg kc ke)(DS:ZD P w K mg kh ZO 10 kc "put_stem" zEe (YC gt kc ke))(hr:ZS 10 (A.deeper (envOfC "_law_tree" (Za NL) s.heap.objs.size f cdv))):
  ∃ t,X5 (Wu ZO P w K mg kh Gr "_law_tree" (Za NL) f cdv A outer s Hs E).nox (Nq.drop 2) t/\∀(Q:YM)(H0 H:Hp)(v X:Zi)(p Y l u m:ak)(ls:jf)(W:Int)(c j:jl)(h n m0 i:Nat)(M:jo),
   Oe gt kc ke H0 H v X p Y ls u m c j h n m0 M->Up M->2<=i->i<=4->n+i<=c.length->c.length<=100->X.ts.length<=300 ->
    (∀(H':Hp)(X':Zi)(N:Nat),Oe gt kc ke H0 H' v X' p Y ls u m c (j++[N]) h (n+i) m0 M->Q.nx [some (.ref p),some (.ref v.S),some (.ref l),some (.int W),some (.ref u),some (.int ((n+i:Nat):Int)),some (.int (i:Int)),some (.ref m)] H') ->
     t Q [some (.ref p),some (.ref v.S),some (.ref l),some (.int W),some (.ref u),some (.int (n:Int)),some (.int (i:Int)),some (.ref m)] H:=by
 let nd:=Ua.nd;refine⟨_,ZM (XS (Ug xP wQ wP Q0 (pv 7) (ZU (YH (E:=E0) (pv 1) L.cS DS hr YG (ZU (Qe Qo (pv 4) (QN (pv 5)) (QN (Zx VB (pv 5) (pv 6)))))))))
  (ZT (Zg 5 nd (Zx VB (pv 5) (pv 6)))),λQ H0 H v X p Y l u m ls W c j h n m0 i M r U z2 z4 zl a6 t3 a1=>?_⟩
 let F:=r.fo;let⟨dS,hS⟩:=F.sh.sh.self;rw[F.S] at hS;exists _,Z,.inl ⟨Z,_,ZK.of r.av.at_⟩,_,Z,v.S,dS,_,Z,hS,Z,_,Z,_,Z,_,Z,_,Z,_,Z,_,_,Z,Z,_,Z,u,iN c,Z,ZK.of r.lv.at_;intro q1 n1;let lI:(iN c).length=c.length:=zX _;rw[De (iN c) n i ∅] at *
 let eq:((iN c).drop n).take i=iN ((c.drop n).take i):=by unfold iN;rw[sQ,sR]
 rw[eq] at *;let⟨H1,eU,g1,h1⟩:=XR n1 (.lst (iN ((c.drop n).take i)));rw[eU];let F1:=F.same g1;let ld:(c.drop n).length=c.length-n:=yD;let lb:((c.drop n).take i).length=i:=by rw[yP];lia
 let sp:(c.drop n).take i++c.drop (n+i)=c.drop n:=by rw[<-vU];exact xQ i _
 generalize a5:(c.drop n).take i=o at *;let mb:∀ b∈o,b∈c.drop n:=λb g=>by rw[<-sp];exact xZ _ g
 let ml:∀ b∈o,b∈c:=λb g=>vC (mb b g);let q:∀ b∈o,b<X.ts.length/\Tp X.av X.ho b:=λb g=>F.lev b (yJ _ (mb b g));let a4:Zp X.ts (c.drop n)=Zp X.ts o++Zp X.ts (c.drop (n+i)):=by rw[<-Pe,sp]
 let R:=r.rows;rw[a4] at R;let Ub:Up (Zp X.ts o):=by
  refine yA.sublist (wX.map _ ?_) U;rw[<-R];exact((uG _ _).trans (uD _ _))
 let ov:over (Z9 X.ts o)=some (Zt (YA X.ts o)):=MS (h:=h) (λb g=>⟨(F.wf b _ (YN (q b g).1)).ne,(r.hl b (ml b g)).2⟩) ∅ ∅ Ub
 let⟨_,_,_,_,a3,_,_⟩:=M4 F.wf (λb g=>(q b g).1) ov;let I:∀ b∈j++c.drop (n+i),b∉o:=λb g y=>by
  let⟨x,xs,ex,_⟩:=QT (F.wf b _ (YN (q b y).1)).ne;let J:x∈Zp X.ts o:=xK.mpr ⟨b,y,by rw[ex];simp⟩
  let D:=U;rw[<-R] at D;unfold Up PX at D;rw[zC,xY] at D;rcases zA.mp g with z | z
  ·have:=D.2.2 x.1 (zR.mpr ⟨x,xK.mpr ⟨b,z,by rw[ex];simp⟩,Z⟩) x.1 (zR.mpr ⟨x,xZ _ J,Z⟩)
   rw[VG] at this;cases this
  ·let U2:=D.2.1;rw[zC,xY] at U2;have:=U2.2.2 x.1 (zR.mpr ⟨x,J,Z⟩) x.1 (zR.mpr ⟨x,xK.mpr ⟨b,z,by rw[ex];simp⟩,Z⟩)
   rw[VG] at this;cases this
 let O:∀ b∈j++c.drop (n+i),b∈j++c.drop n:=λb g=>by
  rcases zA.mp g with z | z
  ·exact xZ _ z
  ·exact yJ _ (by rw[<-sp];exact yJ _ z)
 rw[<-F.S];exists X.S,X.d,Y,q1,X.ts,X.av,X.ho,X.as,X.kvs,ls,o,_,Z,F1.sh,F.wf,∅,λb g=>⟨(q b g).1,xO (q b g).2.2.symm,by rw[(q b g).2.1];exact zD _⟩,h1,ov
 intro C a nx nt na a2 R2;let⟨F2,G2⟩:=F1.put (t:=YA X.ts o) (a:=a) (kvs':=Y1 X.kvs (.inl (X.ts.length:Int)) (.ref a.x)) (lev':=j++[X.ts.length]++c.drop (n+i)) (Lp F.wf (λb g=>(q b g).1) ov) q (λb g=>by
  rcases zA.mp g with z | z
  ·rcases zA.mp z with z | z
   ·exact .inr ⟨O b (xZ _ z),I b (xZ _ z)⟩
   ·exact .inl (yZ.mp z)
  ·exact .inr ⟨O b (yJ _ z),I b (yJ _ z)⟩) Z a2 nx nt na R2
 let B:=(r.av.same g1).go G2;let V2:=(r.lv.same g1).go G2;let a7:=r.few;exists m,_,.int (X.ts.length:Nat),Z,Z,B.at_,XU (by unfold iN;rw[zX];lia)
 let sX:ZH m C (upd C m (.lst (iN j++[.int (X.ts.length:Nat)]))):=(ZH.refl m C).upd;let F3:=F2.write B sX;let eI:iN j++[.int (X.ts.length:Nat)]=iN (j++[X.ts.length]):=by unfold iN;rw[zC];rfl
 let e3:upd C m (.lst (iN j++[.int (X.ts.length:Nat)])) m=some (.lst (iN (j++[X.ts.length]))):=by rw[ZV,eI]
 let V3:=V2.but sX r.ne;generalize upd C m (.lst (iN j++[.int (X.ts.length:Nat)]))=H3 at sX F3 e3 V3⊢;exists _,Z,_,Z,_,_,Z,Z;let e:((n:Int)+(i:Int))=((n+i:Nat):Int):=∅
 suffices k:Q.nx [some (.ref p),some (.ref v.S),some (.ref l),some (.int W),some (.ref u),some (.int ((n+i:Nat):Int)),some (.int (i:Int)),some (.ref m)] H3 by
  rw[<-e,<-F.S] at k;exact k
 let G:∀ b∈j,b<X.ts.length:=λb g=>(F.lev b (xZ _ g)).1;let a0:∀ b∈c.drop (n+i),b<X.ts.length:=λb g=>(r.hl b (vC g)).1;refine a1 H3 _ X.ts.length ⟨F3,V3,⟨e3,B.off,B.new,B.ne⟩,r.ne,λb g=>?_,λb g=>?_,?_,?_,zl,?_⟩
 ·let⟨q1,q2⟩:=r.hl b g;exact⟨by show b<(X.ts++[_]).length;rw[zS];lia,by show (gd (X.ts++[_]) b).h=h;rw[Ut q1];exact q2⟩
 ·show (gd (X.ts++[_]) b).h=h+1;rcases zA.mp g with z | z
  ·rw[Ut (G b z)];exact r.ha b z
  ·rw[yZ.mp z,QK];let⟨x,J⟩:=qC (show 0<o.length by lia)
   have:=a3 x J;have:=(r.hl x (ml x J)).2
   lia
 ·show Zp (X.ts++[_]) (j++[X.ts.length])++Zp (X.ts++[_]) (c.drop (n+i))=M;rw[Pe,Iq G,Iq a0,QB,QK];rw[<-R];show Zp X.ts j++(Zp X.ts o++[])++_=_;rw[yQ,yF]
 ·rw[zS,wY];lia
 ·show (X.ts++[_]).length=m0+(j++[X.ts.length]).length;rw[zS,zS,r.cnt];simp
  lia
def Fo.tups{n:jk}{b f:ak}{g H:Hp}{a X:Zi}{p j:ak}{o i:jf}{h:jl}(F:Fo n b f g H a X p j o h)(k:Z5 b f g a.S a.d j a.ts a.av a.ho a.as a.kvs i)(l:ZJ g p):Zz g H:=λc q e=>by
 let⟨_,_,_,_,m,_⟩:=l.ex;exact(F.fr c _ (ZY e m) (k.off e (by intro _ _ _ z;cases z) (by intro _ z;cases z) (by intro _ z;cases z)) e).1
inductive WS(gt:jk)(kc ke:ak):Sp
 |mk{X:Zi}{lk p l:ak}{ls us:jf}{rs:jo}{H:Hp}{Q:VK}{E:XK}:ZJ H p->Z5 kc ke H X.S X.d lk X.ts X.av X.ho X.as X.kvs ls->X.ts=[]->YU X lk p->YU X lk l->H l=some (.lst us)->jV H (YD rs) us->Up rs->(∀ x∈rs,x.fit)->rs.length<=40->l≠p ->
  (∀(H':Hp)(X':Zi)(r:jr),ZJ H' p->X'.S=X.S->(∀ c o,c≠p->YU X lk c->H c=some o->H' c=some o/\YU X' lk c)->YU X' lk p->Tb gt kc ke H' X' lk ls r->Ym X'.ts r=rs->X'.ts.length<=80->Q (XB r) H')->WS gt kc ke [.ref p,.ref X.S,.ref l] H Q E
inductive Il(gt:jk)(kc ke:ak)(H0:Hp)(X0:Zi)(p lk l:ak)(ls:jf)(Lv:ak)(fw:Int)(rs:jo):Nat->L2.St->Hp->Prop
 |mk{n:Nat}{lev:jl}{X:Zi}{x6 x7:jg}{H':Hp}:Fo gt kc ke H0 H' X0 X p lk ls lev->W9 H0 H' X p lk Lv (iN lev)->(∀ b∈lev,(gd X.ts b).h=0)->Zp X.ts lev=rs.take n->X.ts.length=lev.length->lev.length<=(rs.take n).length ->
  Il gt kc ke H0 X0 p lk l ls Lv fw rs (rs.length-n) [some (.ref p),some (.ref X0.S),some (.ref l),some (.int fw),some (.ref Lv),some (.int (n:Int)),x6,x7] H'
inductive FW(gt:jk)(kc ke:ak)(H0:Hp)(X0:Zi)(p lk l:ak)(ls:jf)(fw:Int)(rs:jo):Nat->L2.St->Hp->Prop
 |mk{h:Nat}{lev:jl}{X:Zi}{Lv:ak}{x5 x6 x7:jg}{H':Hp}:Fo gt kc ke H0 H' X0 X p lk ls lev->W9 H0 H' X p lk Lv (iN lev)->(∀ b∈lev,(gd X.ts b).h=h)->Zp X.ts lev=rs->X.ts.length+lev.length<=80 ->
  FW gt kc ke H0 X0 p lk l ls fw rs lev.length [some (.ref p),some (.ref X0.S),some (.ref l),some (.int fw),some (.ref Lv),x5,x6,x7] H'
inductive HY(gt:jk)(kc ke:ak)(H0:Hp)(X0:Zi)(p lk l:ak)(ls:jf)(Lv Ab:ak)(fw:Int)(lev:jl)(h m0:Nat)(rs:jo):Nat->L2.St->Hp->Prop
 |mk{n:Nat}{ab:jl}{X:Zi}{x6:jg}{H':Hp}:Oe gt kc ke H0 H' X0 X p lk ls Lv Ab lev ab h n m0 rs->lev.length-n≠1 ->
  HY gt kc ke H0 X0 p lk l ls Lv Ab fw lev h m0 rs (lev.length-n) [some (.ref p),some (.ref X0.S),some (.ref l),some (.int fw),some (.ref Lv),some (.int (n:Int)),x6,some (.ref Ab)] H'
theorem ZNu{gt:jk}(F0:Zh K "_law_tree" "_law_tree" NL f fd)(T:Yb mg)(L:Yq K mg kc ke)(DP:ZA P w K mg kh 1 "_law_pull" zEc Zy)(DL:ZD P w K mg kh ZO 10 kc "put_leaf" zE8 (XF kc ke))(DS:ZD P w K mg kh ZO 10 kc "put_stem" zEe (YC gt kc ke)):ZI P w K mg kh ZO 11 f fd zEm (WS gt kc ke):=by
 refine F0.ok Ua (λvs H Q E h=>(by cases h;rfl)) (λcdv A outer s H vs Q E hr h=>?_)
 let⟨W,R,t0,oP,oL,hl,kr,U,rf,r40,lp,q⟩:=h;rename_i X0 lk p l ls us rs
 let nd:=Ua.nd;let hr1:=hr.mono (show 1<=10 from nofun)
 let⟨tt,ht,hk⟩:=Az (kc:=kc) (ke:=ke) (P:=P) (w:=w) (K:=K) (kh:=kh) (f:=f) (cdv:=cdv) (A:=A) (outer:=outer) (s:=s) (Hs:=H) (E:=E) T L DS hr;intro Xc;refine⟨_,ZM (Zg 3 nd (Ze DP hr1 (Zn (pv 0) ZL)))
  (ZM (Zg 4 nd (Y3 Zj))
  (ZM (Zg 5 nd ZL)
  (ZM (Nf PassesOwn.never (Y2 Oi (pv 5) (Z6 WK rfl T.len X3 (ZU (pv 2))) (YW _))
   (ZM (Zg 6 nd (Zx VB ZL (Ze DP hr1 (Zn (pv 0) (YS K (Y3 (Qr ZL ZL ZL ZL)) (pv 3))))))
   (ZM (XS (Ug xP wQ wP Q0 (pv 4) (ZU (YH (E:=E0) (pv 1) L.cS DL hr YG (ZU (UO NA rfl T.list P0 (ZU (Qe Qo (pv 2) (QN (pv 5)) (QN (Zx VB (pv 5) (pv 6)))))))))))
   (ZT (Zg 5 nd (Zx VB (pv 5) (pv 6)))))))
  (ZM (Nf PassesOwn.never (Y2 OH (Z6 WK rfl T.len X3 (ZU (pv 4))) ZL (YW _))
   (ZM (Zg 7 nd (Y3 Zj))
   (ZM (Zg 5 nd ZL)
   (ZM (Nf PassesOwn.never (Y2 Oi (pv 5) (Z6 WK rfl T.len X3 (ZU (pv 4))) (YW _))
    (ZM (Zg 6 nd (Z6 (EG rfl) rfl T.min FE (Zn (Zx VB ZL (Ze DP hr1 (Zn (pv 0) (YS K (Y3 (Qr ZL ZL ZL ZL)) (pv 3))))) (Zx Uy (Z6 WK rfl T.len X3 (ZU (pv 4))) (pv 5)))))
    (ZM (Z3 (Y2 UG (Zx Uy (Zx Uy (Z6 WK rfl T.len X3 (ZU (pv 4))) (pv 5)) (pv 6)) ZL (YW _))
     (ZT (Zg 6 nd (YS K (Y3 (Zn (Zx Uy (pv 6) ZL) (Zx VB (pv 6) ZL))) (UO Id rfl T.int P4 (ZU (UB UG (pv 6) ZL (YW _))))))) Z4) ht)))
   (ZT (Zg 4 nd (pv 7)))))))
  (ZT (Zf (YS K (Zx MK (pv 4) (Y3 (ZU OE))) ZL))))))),?_⟩
 exists _,Z,p,4,Z,W,Wy (by decide) (by decide)
 intro fw H1 f0 f4 W1 s1;exists YQ;intro Lv nLv;let wp:WF gt X0.ts:=λi u e=>by rw[t0] at e;simp at e
 let hb0:QI X0.ts X0.av X0.ho:=λi hi=>by rw[t0] at hi;simp at hi
 let F0':Fo gt kc ke H H X0 X0 p lk ls []:=⟨W,R,wp,hb0,Z,Z,λc o _ f e=>⟨e,f⟩,oP,λb hb=>by cases hb⟩
 let F1:=F0'.pull s1 W1;let⟨H2,eU,g2,h2⟩:=XR nLv (.lst []);rw[eU];let F2:=F1.same g2;let nLv0:H Lv=none:=by
  cases z:H Lv with
  | none=>rfl
  | some o=>
   let⟨_,_,_,_,ep,_⟩:=W1.ex;rw[s1 _ _ z (λy=>by rw[y,ep] at nLv;cases nLv)] at nLv
   cases nLv
 let V2:W9 H H2 X0 p lk Lv (iN []):=F1.fresh nLv nLv0 h2;let kT:∀{H':Hp}{X':Zi}{lev:jl},Fo gt kc ke H H' X0 X' p lk ls lev->H' l=some (.lst us)/\jV H' (YD rs) us:=λF=>⟨(F.fr l _ lp oL hl).1,kr.mono (F.tups R W) _ _⟩;let lu:us.length=rs.length:=by have:=kr.length;rw[<-this];exact zX _
 exists Il gt kc ke H X0 p lk l ls Lv fw rs,⟨_,.mk (n:=0) (lev:=[]) (x6:=none) (x7:=none) F2 V2 (λb hb=>by cases hb) Z (by rw[t0];rfl) (zD _)⟩
 rintro _ _ H3 (@⟨n,lev,X,x6,x7,_,F,V,h0,er,el,le⟩);let⟨hl3,k3⟩:=kT F;exists _,Z,_,Z,l,us,Z,.inl (ZK.of hl3),_,_,Z,Z,_,Z;rcases xT n us.length with hn | hn
 ·rw[aM (show (n:Int)<(us.length:Int) from nofun)]
  refine Z0 ⟨_,λ_ _ z=>z,?_⟩;exists _,Z,YQ;intro q1 nq;let⟨H4,eU,g4,e4⟩:=XR nq (.lst [.int 4,.int 1,.int 2,.int 4]);rw[eU];let F4:=F.same g4;let⟨m1,am1,m10,m14⟩:=FP (q:=q1) (a:=4) (b:=1) (c:=2) (d:=4) f0 f4 1 4 (by decide) (by decide) (by decide) (by decide)
  refine⟨_,Z,.inl ⟨q1,_,_,_,Z,Z,ZK.of e4,am1,p,m1,Z,F4.w,Wy nofun nofun,λz1 H5 z10 z11 W5 s5=>⟨_,_,Z,Z,?_⟩⟩⟩
  let F5:=F4.pull s5 W5;let V5:=(V.same g4).pull s5;obtain⟨sz,hsz⟩:∃ sz:Nat,1+z1=(sz:Int):=⟨(1+z1).toNat,nofun⟩
  first | rw[show (λi j:Int=>L2.V.int (i+j)) 1 z1=L2.V.int (sz:Int) from congrArg L2.V.int hsz] | rw[hsz]
  let⟨hl5,k5⟩:=kT F5;let⟨dS,hS⟩:=F5.sh.sh.self;rw[F5.S] at hS;exists _,Z,.inl ⟨Z,_,ZK.of V5.at_⟩,_,Z,X0.S,dS,_,Z,hS,Z,_,Z,_,Z,_,Z,_,Z,_,Z,_,_,Z,Z,_,Z,l,us,Z,ZK.of hl5;intro q2 n2;rw[De us n sz nofun] at *
  let⟨H6,eU,g6,e6⟩:=XR n2 (.lst ((us.drop n).take sz));rw[eU];exists q2,_,Z,.inl (ZK.of e6);intro q3 n3;let⟨H7,eU,g7,e7⟩:=XR n3 (.lst ((us.drop n).take sz));rw[eU];let F7:=(F5.same g6).same g7;let V7:=(V5.same g6).same g7;let k7:jV H7 (YD ((rs.drop n).take sz)) ((us.drop n).take sz):=by
   rw[(NJ _ sz).1,(NJ rs n).2];exact((k5.drop n).take sz).sm (g6.trans g7)
  let lq:((rs.drop n).take sz).length=min sz (rs.length-n):=by rw[yP,yD]
  let lt1:1<=min sz (rs.length-n):=Nat.le_min.mpr ⟨nofun,nofun⟩
  let lt4:min sz (rs.length-n)<=4:=zN (Nat.min_le_left _ _) nofun
  let sb:((rs.drop n).take sz).Sublist rs:=(uL _ _).trans (rV _ _);let G:WO ((rs.drop n).take sz):=KJ (λx hx=>rf x (sb.subset hx)) (yA.sublist (sb.map _) U) nofun nofun
  let ltk:(rs.take n).length<=40:=by rw[yP];lia (splits:=8)
  rw[<-F7.S];exists X.S,X.d,lk,q3,X.ts,X.av,X.ho,X.as,X.kvs,ls,_,(rs.drop n).take sz,Z,F7.sh,nofun,e7,k7,G
  intro H8 a nx nt na fr8 R8;let⟨F8,G8⟩:=F7.put (t:=WL ((rs.drop n).take sz)) (a:=a) (kvs':=Y1 X.kvs (.inl (X.ts.length:Int)) (.ref a.x)) (X':=⟨X.S,X.d,X.ts++[WL ((rs.drop n).take sz)],Wl X.ts.length X.av,Wk X.ts.length X.ho,X.as++[a],Y1 X.kvs (.inl (X.ts.length:Int)) (.ref a.x)⟩) (lev':=lev++[X.ts.length]) (Mj G) (λb hb=>by cases hb) (λb hb=>by
   rcases zA.mp hb with z | z
   ·exact .inr ⟨z,λy=>by cases y⟩
   ·exact .inl (yZ.mp z)) (by rw[show (WL ((rs.drop n).take sz)).bs=[] from rfl,Kn,Ku]) (λc o n1 n2 _ e=>fr8 c o n1 n2 e) nx nt na R8
  let V8:=V7.go G8;exists Lv,_,.int (X.ts.length:Nat),Z,Z,V8.at_,XU (by unfold iN;rw[zX];lia (splits:=8))
  let sX:ZH Lv H8 (upd H8 Lv (.lst (iN lev++[.int (X.ts.length:Nat)]))):=(ZH.refl Lv H8).upd;let F9:=F8.write V8 sX;let eI:iN lev++[.int (X.ts.length:Nat)]=iN (lev++[X.ts.length]):=by unfold iN;rw[zC];rfl
  let e9:upd H8 Lv (.lst (iN lev++[.int (X.ts.length:Nat)])) Lv=some (.lst (iN (lev++[X.ts.length]))):=by rw[ZV,eI]
  generalize upd H8 Lv (.lst (iN lev++[.int (X.ts.length:Nat)]))=H9 at sX F9 e9⊢;exists _,Z,_,Z,_,_,Z,Z;let e:((n:Int)+(sz:Int))=((n+sz:Nat):Int):=nofun
  let alt:∀ b∈lev,b<X.ts.length:=λb hb=>(F.lev b hb).1;exists rs.length-(n+sz),nofun
  suffices k:Il gt kc ke H X0 p lk l ls Lv fw rs (rs.length-(n+sz)) [some (.ref p),some (.ref X0.S),some (.ref l),some (.int fw),some (.ref Lv),some (.int ((n+sz:Nat):Int)),some (.int (sz:Int)),x7] H9 by
   rw[<-e,<-F7.S] at k;exact k
  refine .mk F9 ⟨e9,V8.off,V8.new,V8.ne⟩ (λb hb=>?_) ?_ ?_ ?_
  ·show (gd (X.ts++[_]) b).h=0;rcases zA.mp hb with z | z
   ·rw[Ut (alt b z)];exact h0 b z
   ·rw[yZ.mp z,QK];rfl
  ·show Zp (X.ts++[_]) (lev++[X.ts.length])=rs.take (n+sz);rw[Pe,Iq alt,QB,QK,er,sP];show _++((rs.drop n).take sz++[])=_;rw[yQ]
  ·show (X.ts++[_]).length=(lev++[X.ts.length]).length;rw[zS,zS,el];rfl
  ·rw[zS,wY,sP,zS,lq]
   lia (splits:=8)
 rw[aK (show ¬ (n:Int)<(us.length:Int) from nofun)]
 rw[yY nofun] at er le
 refine Zo ?_;exists FW gt kc ke H X0 p lk l ls fw rs,⟨_,.mk F V h0 er nofun⟩
 clear h0 er el le;rintro _ _ H4 (@⟨h,lev,X,Lv,x5,x6,x7,_,F,V,hh,er,l80⟩);let lI:(iN lev).length=lev.length:=zX _;exists _,Z,Lv,_,Z,.inl (ZK.of V.at_),_,_,Z,Z,_,Z;rcases xT 1 lev.length with h1 | h1
 ·rw[aM (show (((iN lev).length:Nat):Int) > 1 from nofun)]
  refine Z0 ⟨_,λ_ _ z=>z,?_⟩;exists YQ;intro Ab nAb;let⟨H5,eU,g5,e5⟩:=XR nAb (.lst []);rw[eU];let nAb0:H Ab=none:=by
   cases z:H Ab with
   | none=>rfl
   | some o=>
    let⟨_,_,_,_,ep,_⟩:=F.w.ex;let⟨⟨dS,hS⟩,hd,hlk⟩:=F.sh.sh;let n1:Ab≠p:=λy=>by rw[y,ep] at nAb;cases nAb
    let n2:Ab≠X0.S:=λy=>by rw[y,<-F.S,hS] at nAb;cases nAb
    let n3:Ab≠X0.d:=λy=>by rw[y,<-F.d,hd] at nAb;cases nAb
    let n4:Ab≠lk:=λy=>by rw[y,hlk] at nAb;cases nAb
    have:=(F.fr Ab o n1 ⟨n2,n3,n4,λi hi=>by rw[t0] at hi;simp at hi⟩ z).1
    rw[nAb] at this;cases this
  let A5:W9 H H5 X p lk Ab (iN []):=F.fresh nAb nAb0 e5;let LA:Lv≠Ab:=λy=>by have:=V.at_;rw[y,nAb] at this;cases this
  exists HY gt kc ke H X0 p lk l ls Lv Ab fw lev h X.ts.length rs,⟨_,.mk (n:=0) (ab:=[]) (x6:=x6) ⟨F.same g5,V.same g5,A5,LA,λb hb=>⟨(F.lev b hb).1,hh b hb⟩,(λb hb=>by cases hb),er,zD _,zD _,Z⟩ nofun⟩
  generalize hm0:X.ts.length=m0 at l80;let V0:=V;clear V F hh er A5 hm0;rintro _ _ H6 (@⟨n,ab,X,x6,_,r,hre⟩);let F:=r.fo;exists _,Z,_,Z,Lv,_,Z,.inl (ZK.of r.lv.at_),_,_,Z,Z,_,Z;let lef:=r.le;let fewf:=r.few;let cntf:=r.cnt;rcases xT n lev.length with hn | hn
  ·rw[aM (show (n:Int)<(((iN lev).length:Nat):Int) from nofun)]
   refine Z0 ⟨_,λ_ _ z=>z,?_⟩;let R2:(2:Int)<=(((iN lev).length:Nat):Int)-(n:Int):=nofun
   let go:∀{D0:YM}{H7:Hp}(y:Int),Oe gt kc ke H H7 X0 X p lk ls Lv Ab lev ab h n m0 rs->2<=y->y<=4->y<=(lev.length:Int)-n->(lev.length:Int)-n-y≠1->(∀ σ' H',(∃ m',m'<lev.length-n/\HY gt kc ke H X0 p lk l ls Lv Ab fw lev h m0 rs m' σ' H')->D0.nx σ' H') ->
     tt D0 [some (.ref p),some (.ref X0.S),some (.ref l),some (.int fw),some (.ref Lv),some (.int (n:Int)),some (.int y),some (.ref Ab)] H7:=fun{D0 H7} y r7 y2 y4 yl yn fin=>by
    obtain⟨sz,rfl⟩:∃ sz:Nat,y=(sz:Int):=⟨y.toNat,nofun⟩
    exact hk D0 H H7 X0 X p lk l Lv Ab ls fw lev ab h n m0 sz rs r7 U nofun nofun nofun nofun nofun λH8 X8 N r8=>fin _ _ ⟨lev.length-(n+sz),nofun,.mk r8 nofun⟩
   exists _,Z,YQ;intro q2 nq2;let⟨H7,eU,g7,e7⟩:=XR nq2 (.lst [.int 3,.int 1,.int 3,.int 2]);rw[eU];let⟨m2,am2,m20,m24⟩:=FP (q:=q2) (a:=3) (b:=1) (c:=3) (d:=2) f0 f4 1 3 (by decide) (by decide) (by decide) (by decide)
   let gr:∀{H8:Hp},ZE H7 H8->Oe gt kc ke H H8 X0 X p lk ls Lv Ab lev ab h n m0 rs:=λs=>⟨(r.fo.same g7).same s,(r.lv.same g7).same s,(r.av.same g7).same s,r.ne,r.hl,r.ha,r.rows,r.few,r.le,r.cnt⟩;refine⟨_,Z,.inl ⟨q2,_,_,_,Z,Z,ZK.of e7,am2,p,m2,Z,(F.same g7).w,Wy nofun nofun,λz2 H8 z20 z21 W8 s8=>⟨_,_,Z,Z,?_⟩⟩⟩
   let r8:Oe gt kc ke H H8 X0 X p lk ls Lv Ab lev ab h n m0 rs:=⟨(r.fo.same g7).pull s8 W8,(r.lv.same g7).pull s8,(r.av.same g7).pull s8,r.ne,r.hl,r.ha,r.rows,r.few,r.le,r.cnt⟩;exists _,Z,Lv,_,Z,.inl (ZK.of r8.lv.at_),_,Z,_,_,Z,Z,_,_,Z;obtain⟨y,ey,y1,y2,y3⟩:∃ y:Int,(if (((iN lev).length:Nat):Int)-(n:Int)<2+z2 then (((iN lev).length:Nat):Int)-(n:Int) else 2+z2)=y/\2<=y/\y<=4/\y<=(((iN lev).length:Nat):Int)-(n:Int):=⟨_,Z,BI R2 nofun,C8 nofun,ite_le'⟩
   rw[ey];exists _,Z,Lv,_,Z,.inl (ZK.of r8.lv.at_),_,Z,_,_,Z,Z,_,Z,_,_,Z,Z,Z,_,Z;by_cases hy:(((iN lev).length:Nat):Int)-(n:Int)-y=1
   ·rw[aM (congrArg L2.V.int hy)];refine Z0 ⟨_,Z,_,_,Z,Z,_,Z,_,_,Z,Z,YQ,λq3 nq3=>?_⟩;let⟨H9,eU,g9,e9⟩:=XR nq3 (.lst [.int (y-1),.int (y+1)]);let eU:upd H8 q3 (.lst [(λi j:Int=>L2.V.int (i-j)) y 1,(λi j:Int=>L2.V.int (i+j)) y 1])=H9:=eU;rw[eU];let r9:Oe gt kc ke H H9 X0 X p lk ls Lv Ab lev ab h n m0 rs:=⟨r8.fo.same g9,r8.lv.same g9,r8.av.same g9,r.ne,r.hl,r.ha,r.rows,r.few,r.le,r.cnt⟩;refine⟨_,Z,Z,.inr ⟨_,Z,?_⟩⟩;by_cases h2:y=2
    ·subst h2;refine .inl ⟨q3,_,_,.int (2+1),Z,Z,ZK.of e9,Z,?_⟩;exact go (2+1) r9 nofun nofun nofun nofun λ_ _ z=>z
    ·let ed:decide (L2.V.int y=L2.V.int 2)=false:=aK λz=>h2 (NC z);rw[ed];refine .inl ⟨q3,_,_,.int (y-1),Z,Z,ZK.of e9,Z,?_⟩;exact go (y-1) r9 nofun nofun nofun nofun λ_ _ z=>z
   ·rw[aK (λz=>hy (NC z))];exact Zo (go y r8 nofun nofun nofun nofun λ_ _ z=>z)
  ·rw[aK (show ¬ (n:Int)<(((iN lev).length:Nat):Int) from nofun)]
   refine Zo ⟨_,Z,?_⟩;let ed:lev.drop n=[]:=vQ nofun
   let F':=r.fo;let er:=r.rows;rw[ed,yQ] at F';rw[ed,show Zp X.ts []=[] from rfl,yQ] at er;exact⟨ab.length,nofun,.mk F' r.av r.ha er nofun⟩
 ·rw[aK (show ¬ (((iN lev).length:Nat):Int) > 1 from nofun)]
  refine Zo ⟨_,Z,YQ,λq1 n1=>?_⟩;let⟨H5,eU,g5,e5⟩:=XR n1 (.lst [.non]);rw[eU];exists Lv,q1,_,_,Z,Z,g5 _ _ V.at_,e5,nn (by rw[lI];simp;lia (splits:=8))
  intro q2 n2;let⟨H6,eU,g6,e6⟩:=XR n2 (.lst (iN lev++[.non]));rw[eU];let F6:=(F.same g5).same g6;let fin:∀ r:jr,(∀ i,r=some i->i∈lev)->Ym X.ts r=rs->Q (XB r) H6:=λr h1 h2=>q H6 X r F6.w F6.S F6.fr F6.op ⟨F6.sh,F6.wf,F6.hb,λi e=>F6.lev i (h1 i e)⟩ h2 nofun
  cases lev with
  | nil=>exact .inl ⟨q2,_,0,.non,Z,Z,ZK.of e6,Z,fin none (λi e=>by cases e) er⟩
  | cons b lev'=>
   cases lev' with
   | nil=>
    refine .inl ⟨q2,_,0,.int (b:Nat),Z,Z,ZK.of e6,Z,fin (some b) (λi e=>by cases e;exact yZ.mpr Z) ?_⟩
    rw[<-er,QB];exact(yQ _).symm
   | cons c m=>simp at h1
end Tw
namespace L2
open PySem PySem.Spec PyProof.Rows
inductive Ph(K:zZ)(e C:ak)(m:Str)(j:Sp)(t:TA)(i:Nat)(k:TS)(D:YM)(b:L2.St)(x:V)(c:Hp):Prop
 |mk(a h d:_)(_:x=.ref a)(_:c a=some (.ins C h d))(_:d.lookup m=none)(_:t b c λl f=>j (x::(l++[])) f (λ_ g=>D.nx b g) (Gx K e i k D b))
def By(K:zZ)(b C:ak)(m:Str)(d:Sp)(e:TE)(t:TA)(i:Nat)(f:TS):TS:=λD a H=>e a H λx c=>Ph K b C m d t i f D a x c
def ZGk{X:Cx}{k:Nat}{f C CB:ak}{fd:ao}{ps:jp}{sp:Sp}{m y n:Str}{ji jh epos py ph pos:aJ}{o e:Expr}{es:jx}{ta:TE}{t:TA}{i:Nat}{b₀:aD}{suite:jC}{ts:TS}{pl:Sem Bool}(he:∀ E',PE (X.wish E') o ta)(c:VY X.K C)(hm:UY X.K C m f)(F:ZI X.prog X.w X.K X.mg X.base (Yn X.prog X.w) k f fd ps sp)(hr:ZS k X.A)(hb:Zq X.K fd ps [])(ha:∀ E',PA (X.wish E') (e::es) t)(hst:X.stack=X.env::X.outer)(hfm:X.env.frame=some X.env.locals)(hex:X.ex=[])(hy:Gl X y)(hyC:X.mg y=some (.ref CB))(hN:X.N.Nodup)(hi:X.N[i]? = some n)(hn:X.env.scope.names.lookup n=some .local)(ht:xB X.K (.ref CB)=some (.type "type"))(hB:yI X.K CB (.type "BaseException")=some true)(hs:∀ d E',X5 (X.held d E') (b₀::suite) ts)(hdy:(y==("__debug__" : Str))=false:=by decide)(hse:aw (e::es) X.env=(false,aH e X.env)::aw es X.env:=by rfl)(hpl:(aG jh (aw es X.env)).any (·.1)=false:=by rfl)(hev:aH (.Call (.Attribute o m ji) (e::es) [] jh) X.env=(do
   let ov<-aH o X.env
   standAt ji.atName
   let (f,first)<-holding [ov] (getMethod ov m pl)
   callWith jh f first (aG jh (aw (e::es) X.env)) (backToKw jh (keywordEach [] X.env))):=by rfl)(hsw:swapsWith (.Call (.Attribute o m ji) (e::es) [] jh) none epos.line X.env=pure false:=by rfl):
  PS X (.Try [.Expr (.Call (.Attribute o m ji) (e::es) [] jh) epos] [.ExceptHandler (some (.Name y py)) (some n) (b₀::suite) ph] [] [] pos) (By X.K CB C m sp ta t i ts):=by
 intro b s O H D I h;refine wpAny_Try_except ?_;let a7:X.A.frames=some (X.env::X.outer):=by rw[I.ok.frames,hst]
 let U:∀(H1:Hp)(s1:al)(E:aj)(g:al),ZF X b O H1 s1->Yn X.prog X.w X.stack H1 s1 (Gx X.K CB i ts D O) E g ->
   aC (aB X.prog X.w) X.A (noteFrame E X.env) (λ_ G=>aC (aB X.prog X.w) X.A (setFlight E none) (λ_ L=>aC (aB X.prog X.w) X.A (handleBy E X.env [.ExceptHandler (some (.Name y py)) (some n) (b₀::suite) ph]) (SP X b D) X.xe L) X.xe G) X.xe g:=by
  intro H1 s1 E g j hx;let⟨d,cls,od,H',rfl,W,C,rfl,mC,q⟩:=hx;let⟨B,fl,inT,a3,a2⟩:=W.ex;let a6:Vb B (X.env::X.outer) d (.ref C) od .none g.heap:=by rw[<-hst];exact fl
  refine Jr a7 hfm a6 λh4 T a4=>?_;refine NF (s:={ g with heap:=h4 }) T λh5 S a5=>?_;let J5:ZF X b O H' { g with heap:=h5 }:=KC j W inT a3 a2 S.1 (a4.trans a5);refine wpAny_handleBy_cons (codeAny_handlers_test ?_) (by intro q;cases q)
  refine OX (J5.held d (λ_ _=>False)) hy hyC ?_ hdy;refine Fz (s:={ g with heap:=h5 }) J5.kIn S.at.is ht hB mC ?_;refine codeAny_handlers_suite_as ?_;refine NF (s:={ g with heap:=h5 }) S λh6 a1 a8=>?_;let J6:ZF X b O H' { g with heap:=h6 }:=KC j W inT a3 a2 a1.1 ((a4.trans a5).trans a8);let n0:X.s₀.heap.get? d=none:=by
   cases z:X.s₀.heap.get? d with
   | none=>rfl
   | some o=>
    let⟨o',q'⟩:=j.base.there d o z (by rw[hex];simp)
    rw[W.new] at q';cases q'
  let n1:d≠X.env.locals:=λz=>by
   let⟨m,⟨o,_,_,M,_⟩,_⟩:=j.loc;rw[<-z,W.new] at M;cases M
  let n2:∀ x c,X.env.cells.lookup x=some c->c≠d:=λx c e z=>by
   let⟨v,o,M,_⟩:=j.cell x c e;rw[z,W.new] at M;cases M
  let n3:∀ p∈X.pn++b,p.1≠d:=λp hp z=>by
   let M:=(j.pin p hp).1;rw[z,W.new] at M;cases M
  let K6:ZF X b O (upd H' d (XO NZ d C od)) { g with heap:=h6 }:=J6.track n0 n1 n2 n3 W.free (Dd a1.at);refine JN K6 hN hi (.inl hn) (v:=.ref d) Z (λs7 I7=>?_) (.inr hn);refine af (hs d _ b s7 _ _ _ (I7.held d _) (q d W.free)) (λfl s8 h8=>?_) λ_ _ z=>z
  cases fl with
  | next=>
   let⟨a0,P,R,Y⟩:=h8;exact(R.unheld j.ok).goes hN hi hn λs9 Q=>⟨_,P,Q,Y⟩
  | brk=>
   let⟨a0,P,R,Y⟩:=h8;exact(R.unheld j.ok).goes hN hi hn λs9 Q=>⟨_,P,Q,Y⟩
  | cont=>
   let⟨a0,P,R,Y⟩:=h8;exact(R.unheld j.ok).goes hN hi hn λs9 Q=>⟨_,P,Q,Y⟩
  | ret u=>
   let⟨v8,a0,P,R,r8,Y⟩:=h8;exact(R.unheld j.ok).goes hN hi hn λs9 Q=>⟨v8,_,P,Q,r8,Y⟩
 let I':=I.wish (λE g=>aC (aB X.prog X.w) X.A (noteFrame E X.env) (λ_ G=>aC (aB X.prog X.w) X.A (setFlight E none) (λ_ L=>aC (aB X.prog X.w) X.A (handleBy E X.env [.ExceptHandler (some (.Name y py)) (some n) (b₀::suite) ph]) (SP X b D) X.xe L) X.xe G) X.xe g);refine wpAny_execs_cons (wpAny_Expr_any ?_ I.quiet hsw);refine sU (pl:=pl) (Z2 (he _ b s O H _ I' h) λu s1 ⟨x,H1,j,rx,a,dx,fs,ex,d,l,q⟩=>?_) hev;subst ex;obtain rfl:u=Value.ref a:=rx;refine Lf j.unwish d c hm l ?_;refine uJ (first:=[.ref a]) (h₀:=X.base) I.ok.mod.kin hm.kp (Z7 (ha _ jh b s1 O H1 _ j q) λus s2 vs H2 I2 r q2=>⟨I2.kIn,?_⟩) hse hpl
 let r2:ZP (V.ref a::(vs++[])) (Value.ref a::(us++[])):=.cons Z (r.append .nil);let hl:(Value.ref a::us++[]).length=ps.length:=by rw[show Value.ref a::us++[]=Value.ref a::(us++[]) from rfl,<-r2.length];exact F.len _ _ _ _ q2
 refine wpAny_call (codeAny_mono (F.run X.A X.stack s2 H2 ⟨.ref a::us,[]⟩ (.ref a::us++[]) (.ref a::(vs++[])) _ _ hr I2.unwish.env0 (hb s2 (.ref a::us) I2.kIn hl) r2 q2) λrr g hq=>?_)
 cases rr with
 | error E=>exact U H2 s2 E g I2.unwish hq
 | ok fl=>
  cases fl with
  | ret u=>
   let⟨v,H3,J,rv,q3⟩:=I2.unwish.after hq;exact wpAny_execs_nil (wpAny_execs_nil ⟨O,H3,J,q3⟩)
  | next=>exact False.elim hq
  | brk=>exact False.elim hq
  | cont=>exact False.elim hq
end L2
namespace Tw
open PySem PySem.Spec L2 PyProof.Rows
variable{kc ke CS CT CH CK CP CB:ak}
section
variable{kc ke CTb CK:ak}
structure Ed(K:zZ)(mg:jc)(CK:ak):Prop where
 at_:mg "NoKey" = some (.ref CK)
 ty:xB K (.ref CK)=some (.type "type")
 mB:yI K CK (.type "BaseException")=some true
 self:yI K CK (.ref CK)=some true
inductive XA(b:jk)(kc ke CTb:ak):Sp
 |mk{T:ak}{X:Zi}{d:ak}{c:jf}{r:jr}{v:V}{N:ak->Prop}{H:Hp}{Q:VK}{E:XK}:Yf CTb H T X.S r->Tb b kc ke H X d c r->(Ym X.ts r).length<=200->c.length<=379000->Xr N H none v->(∀ a,ZE H a->Q (.bl true) a) ->
  XA b kc ke CTb [.ref T,v] H Q E
theorem BJ:ZB zEr zEr (Za Kp):=Zr
def ZIy{d:jk}(F:Zh K "_law_no_side" "_law_no_side" Kp f fd)(L:UH K mg CTb)(N:Ed K mg CK)(g:ZD P w K mg kh (Yn P w) 12 CTb "side" zEt (YE d kc ke CTb CK)):ZI P w K mg kh ZO 13 f fd zEr (XA d kc ke CTb):=by
 refine F.ok BJ (λB H Q E h=>(by cases h;rfl)) (λn A b s H B Q E u h=>?_)
 let⟨⟨c,e⟩,t,y,a,x,q⟩:=h;rename_i T X M O r v D
 let⟨J,p,l,i,m⟩:=g.ex;intro G;exists _,ZM (AL (λ_=>pv 0) L.cT l i u m (λ_=>ZU (pv 1)) Z Z Z N.at_ N.ty N.mB (λI C=>ZT (Zf PF))) (ZT (Zf PF));exact⟨_,Z,T,c,_,Z,e,Z,_,Z,.mk ⟨c,e⟩ t y a x (λ_ j z=>⟨CK,Z,N.self,q j z⟩) λk o=>nomatch o⟩
end
theorem ZKW:az "ValueError" = some (.type "ValueError"):=by decide +kernel
structure Ga(K:zZ)(mg:jc)(CB CK CL CN:ak):Prop where
 base:mg "TwigError" = some (.ref CB)
 n1:mg "NoKey" = some (.ref CK)
 n2:mg "NoLeaf" = some (.ref CL)
 n3:mg "NoText" = some (.ref CN)
 ty:xB K (.ref CB)=some (.type "type")
 mB:yI K CB (.type "BaseException")=some true
 sub:yI K CK (.ref CB)=some true
 xk:Wr K CK
 kk:yS K (.ref CK) (.ref CK)=some true
 kv:yS K (.ref CK) (.type "ValueError")=some true
 kn:sG K (.ref CK) [.ref CL,.ref CN]=some false
section
variable{kc ke CTb CK CB CL CN:ak}
inductive Yl(e:jk)(kc ke CTb:ak):Sp
 |mk{T:ak}{X:Zi}{a:ak}{g:jf}{r:jr}{k l:V}{m h:ak->Prop}{i j:jG}{H:Hp}{Q:VK}{E:XK}:Yf CTb H T X.S r->Tb e kc ke H X a g r->(Ym X.ts r).length<=150->X.ts.length<=700->g.length<=369000->YU X a T->Xr m H i k->Xr h H j l->h a->(i=none\/j=none) ->
  (∀(d:Hp)(c:jf),(∀ b o,b≠a->H b=some o->d b=some o)->Tb e kc ke d X a c r->c.length<=g.length+8->Q (.bl true) d) ->
  Yl e kc ke CTb [.ref T,k,l] H Q E
abbrev ZLZ:jp:=["_law_table","_law_spot","_law_value_here","e"]
theorem VF:ZB ZLZ zEj (Za HK):=Zr
def ZIT{N:jk}(W:Zh K "_law_refused" "_law_refused" HK f fd)(T:Yb mg)(LT:UH K mg CTb)(L:Ga K mg CB CK CL CN)(U:ZD P w K mg kh (Yn P w) 15 CTb "put" zEw (Xx N kc ke CTb CK)):ZI P w K mg kh ZO 16 f fd zEj (Yl N kc ke CTb):=by
 refine W.ok VF (λvs H Q E h=>(by cases h;rfl)) (λa0 A B s H vs Q E hr h=>?_)
 let⟨⟨F,O⟩,t,C,t7,j,oT,hk,hv,x,g,q⟩:=h;rename_i Ta X lk ls r vk vv N1 N2 ok ov
 let nd:=VF.nd;let⟨fR,a1,MR,Y,bR⟩:=U.ex;intro Xc;refine⟨_,ZM (ZGk (i:=3) (λ_=>pv 0) LT.cT MR Y hr bR (λ_=>Zn (pv 1) (pv 2)) rfl rfl rfl rfl L.base nd rfl rfl L.ty L.mB
   (λa E'=>ZT (Zf (UA (Z6 (r:=Qs K) Hx rfl T.isi Ww (Zn (pv 3) (Xp (v:=.ref CK) rfl L.n1 rfl)))
    (UA (Z6 (r:=Qs K) Hx rfl T.isi Ww (Zn (pv 3) (VR (v:=.ty "ValueError") rfl T.ValueError ZKW rfl)))
     (Qb (Ls (Z6 (r:=Qi K) AO rfl T.isi Ww (Zn (pv 3) (X9 (Zn (Xp (v:=.ref CL) rfl L.n2 rfl) (Xp (v:=.ref CN) rfl L.n3 rfl))))))))))))
  (ZT (Zf PF)),?_⟩
 refine⟨_,Z,Ta,F,_,Z,O,Z,_,Z,_,Z,.mk ⟨F,O⟩ t C t7 j oT hk hv x (λ_ D u l t1 l1=>⟨CK,Z,L.sub,λa p=>?_⟩) λk v G I=>?_⟩
 ·let J:=Zl p (XO NZ a CK none);let d:OI (upd D a (XO NZ a CK none)) a CK:=ZQy ZV;generalize upd D a (XO NZ a CK none)=H2 at J d⊢;refine⟨_,Z,a,CK,_,true,Z,d,L.xk,Z,L.kk,_,Z,Z0 ⟨_,Z,a,CK,_,true,Z,d,L.xk,Z,L.kv,_,Z,Z0 ⟨_,Z,YQ,λtp y=>?_⟩⟩⟩;let M:=Zl y (.tup [.ref CL,.ref CN]);let S:=J.trans M;let m:∀ c∈[V.ref CL,V.ref CN],MT c=true:=λc R=>by
   simp only[zQ,tQ,or_false] at R;rcases R with e | e <;> (rw[e];rfl)
  exact⟨a,CK,tp,[.ref CL,.ref CN],false,Z,d.mono M,L.xk,ZV,m,L.kn,_,Z,q _ u (λb o n e=>S _ _ (l b o n e)) (t1.same S) l1⟩
 ·rcases g with z | z
  ·rw[z] at G;cases G
  ·rw[z] at I;cases I
end
inductive WE(a:jf)(H:Hp)(Q:VK)(_:XK):Prop
 |mk(n m:Int)(_:a=[.int n,.int m])(_:Q (.bl (decide (n=m))) H)
theorem Ah:ZB zEb zEb (Za Jf):=Zr
def Ai(F:Zh K "_law_whole" "_law_whole" Jf f fd)(T:Yb mg):ZI P w K mg kh ZO 1 f fd zEb WE:=by
 refine F.ko Ah λb A a s H g Q E d h=>?_;let⟨n,m,rfl,q⟩:=h;intro c;exists _,ZT (Zf (UA (Z6 VZ rfl T.isi Ww (Zn (pv 0) (VR (v:=.ty "int") rfl T.int P4 rfl))) (UA (Ls (Z6 VZ rfl T.isi Ww (Zn (pv 0) (VR (v:=.ty "bool") rfl T.bool Lg rfl)))) (Qb (UB UG (pv 0) (pv 1) (YW _))))));refine⟨_,Z,_,_,_,_,Z,.int n,ME,_,Z,Z0 ⟨_,Z,_,_,_,_,Z,.int n,KU,_,Z,_,Z,Z0 ⟨_,Z,_,Z,Z,?_⟩⟩⟩;let e:decide (V.int n=V.int m)=decide (n=m):=by
  by_cases z:n=m
  ·rw[z,aM rfl,aM rfl]
  ·rw[aK z,aK λy=>z (NC y)]
 rw[e];exact q
section
variable{kc ke CTb CK CB CL CN:ak}
def Tb.pull{i:jk}{H h:Hp}{X:Zi}{g p:ak}{j:jf}{r:jr}(t:Tb i kc ke H X g j r)(W:ZJ H p)(k:YU X g p)(s:ZH p H h):Tb i kc ke h X g j r:=by
 let⟨a,b,c,d,e,_⟩:=W.ex;exact⟨t.sh.but s e k,t.wf,t.hb,t.tp⟩
inductive Y9(e:jk)(kc ke CTb:ak):Sp
 |mk{p T:ak}{X:Zi}{a:ak}{g:jf}{r:jr}{h:V}{k:KT}{H:Hp}{Q:VK}{E:XK}:ZJ H p->Yf CTb H T X.S r->Tb e kc ke H X a g r->(Ym X.ts r).length<=150->X.ts.length<=700->g.length<=368000->YU X a T->YU X a p->T≠p->ZC H k h->k.fits 3=true ->
  (∀(d:Hp)(c:jf),(∀ b o,b≠a->b≠p->H b=some o->d b=some o)->ZJ d p->Tb e kc ke d X a c r->c.length<=g.length+24->Q (.bl true) d) ->
  Y9 e kc ke CTb [.ref p,.ref T,h] H Q E
abbrev CY:jp:=["_law_well_here","_law_table","_law_spot","_law_bad"]
theorem Vu:ZB CY zEk (Za NI):=Zr
theorem ZMu{J:jk}{cdv:aj}{A:ay}{outer:jw}{s:al}{Hs:Hp}{E:XK}(L:Yq K mg kc ke)(LT:UH K mg CTb)(DN:ZA P w K mg kh 13 "_law_no_side" zEr (XA J kc ke CTb))(DR:ZA P w K mg kh 16 "_law_refused" zEj (Yl J kc ke CTb))(DS:Vs P w K mg kh 1 kc zEo (Vh kc))(DT:NU P w K mg kh 5 CTb zEn (Yv kc ke CTb))(C:ZS 16 (A.deeper (envOfC "_law_bad_put" (Za NI) s.heap.objs.size f cdv))):
  ∃ t,X5 (Wu ZO P w K mg kh CY "_law_bad_put" (Za NI) f cdv A outer s Hs E).nox ((WJ NI).drop 1) t/\∀(D:YM)(H:Hp)(p T:ak)(X:Zi)(F:ak)(ls:jf)(r:jr)(vk v:V)(k:KT)(N:ak->Prop),
   Yf CTb H T X.S r->Tb J kc ke H X F ls r->(Ym X.ts r).length<=150->X.ts.length<=700->ls.length<=368000->YU X F T->ZC H k vk->k.fits 3=true->Xr N H none v->N F ->
   (∀(H':Hp)(R:jf),(∀ b o,b≠F->H b=some o->H' b=some o)->Tb J kc ke H' X F R r->R.length<=ls.length+24->D.rt (.bl true) H') ->
   t D [some (.ref p),some (.ref T),some vk,some v] H:=by
 let a5:=C.mono (show 2<=16 by lia)
 let a6:=C.mono (show 6<=16 by lia)
 let l:=C.mono (show 13<=16 by lia)
 refine⟨_,ZM (Z3 (PW.pt (NK (Va (XG (Ze DN l (Zn (pv 1) (pv 3))))) (NS (Va (XG (Ze DN l (Zn (EW DT a6 rfl LT.tab (ZU (Ci DS a5 rfl L.shelf))) (pv 3)))))))) VX Z4)
  (ZT (Zf (UA (Ze DR C (V4 (pv 1) (pv 3) ZL)) (UA (Ze DR C (V4 (pv 1) (pv 2) (pv 3))) (Qb (Ze DR C (V4 (pv 1) (pv 3) (pv 3)))))))),λD H p T X F ls r vk v k N hT t B W c3 G hk fk hv g q=>?_⟩
 refine⟨_,Z,_,Z,.mk hT t ∅ ∅ hv λH1 s1=>?_⟩
 refine⟨_,Z,Zo ?_⟩;intro S e nS ne z1;let i1:ZE H1 (upd (upd H1 e (.own S)) S (.ins kc e [])):=λb o q=>by
  rw[ZR (Zd q nS),ZR (Zd q ne)];exact q
 refine⟨S,e,Z,ZV,λI d y a0 c4 c1 c2 R2=>⟨Z,?_⟩⟩;let s2:ZE H1 I:=λb o q=>a0 b o (Zd q nS) (i1 b o q);let RP:Z5 kc ke I S d y [] (λ_=>[]) (λ_=>0) [] [] []:=⟨R2,Z,λi j=>absurd j (xH _),Z,λi j=>absurd j (xH _),λi j=>absurd j (xH _),λi _ j=>absurd j (xH _)⟩;intro x dx nx a8 z2;let i2:ZE I (upd (upd I dx (.own x)) x (.ins CTb dx [])):=λb o q=>by
  rw[ZR (Zd q nx),ZR (Zd q a8)];exact q
 let⟨dS,hS⟩:=R2.self;let xS:x≠S:=(Zd hS nx).symm;refine Yv.mk (X:=⟨S,d,[],λ_=>[],λ_=>0,[],[]⟩) (lk:=y) (ls:=[]) (r:=none) (dx:=dx) ZV xS (RP.same i2) (λi e=>nomatch e) λH3 a1 a3=>⟨Z,?_⟩;let U:ZE I H3:=λb o q=>a1 b o (Zd q nx) (i2 b o q);let s3:=(s1.trans s2).trans U;let c0:Tb J kc ke H3 ⟨S,d,[],λ_=>[],λ_=>0,[],[]⟩ y [] none:=⟨RP.same U,λi u e=>by simp at e,λi j=>absurd j (xH _),λi e=>nomatch e⟩
 let a7:Xr N H3 none v:=hv.mono ⟨ZE.tups s3,λb o e _=>s3 _ _ e⟩;refine⟨_,Z,.mk a3 c0 (by show 0<=200;lia) (by show 0<=379000;lia) a7 λH4 s4=>?_⟩
 let a:=s3.trans s4;let M:Xr N H4 none v:=hv.mono ⟨ZE.tups a,λb o e _=>a _ _ e⟩;let⟨dt,m⟩:=hT;let t4:=t.same a;refine⟨_,Z,Zo ?_⟩;let a9:Xr N H4 (some (.int 1)) (.int 1):=⟨by rw[ZC],by decide +kernel⟩
 refine⟨_,Z,_,Z,.mk ⟨dt,a _ _ m⟩ t4 B W ∅ G M a9 g (.inl rfl) λY l5 c t5 e5=>⟨_,Z,Z0 ?_⟩⟩
 let m5:Zz H4 Y:=λb xs e=>c b _ (ZY e t4.sh.sh.looks) e;let O:Xr N Y none v:=M.mono ⟨m5,λb o e n=>c b o (λz=>n (z ▸ g)) e⟩;let a4:Xr N Y (some k) vk:=⟨(hk.sm a).mono m5 _ _,fk⟩;refine⟨_,Z,_,Z,_,Z,.mk ⟨dt,c _ _ G.2.2.1 (a _ _ m)⟩ t5 B W ∅ G a4 O g (.inr rfl) λH6 l6 h t6 e6=>⟨_,Z,Z0 ?_⟩⟩
 let m6:Zz Y H6:=λb xs e=>h b _ (ZY e t5.sh.sh.looks) e;let Q:Xr N H6 none v:=O.mono ⟨m6,λb o e n=>h b o (λz=>n (z ▸ g)) e⟩;refine⟨_,Z,_,Z,_,Z,.mk ⟨dt,h _ _ G.2.2.1 (c _ _ G.2.2.1 (a _ _ m))⟩ t6 B W ∅ G Q Q g (.inr rfl) λH7 l7 a2 W e7=>?_⟩
 exact q H7 l7 (λb o n e=>a2 b o n (h b o n (c b o n (a _ _ e)))) W ∅
def pa8{X:Cx}{a b c d e g i j:Expr}{k l m n o p q r:TE}(s:PE X a k)(t:PE X b l)(u:PE X c m)(v:PE X d n)(x:PE X e o)(y:PE X g p)(z:PE X i q)(A:PE X j r)(h:[a,b,c,d,e,g,i,j].all PB=true:=by rfl):
  PA X [a,b,c,d,e,g,i,j] (XN k (XN l (XN m (XN n (XN o (XN p (XN q (XN r U8)))))))):=
 (ZW s (ZW t (ZW u (ZW v (ZW x (ZW y (ZW z (ZW A Zj (Xn (zI.mp h j (by simp)))) (Xn (zI.mp h i (by simp)))) (Xn (zI.mp h g (by simp)))) (Xn (zI.mp h e (by simp)))) (Xn (zI.mp h d (by simp)))) (Xn (zI.mp h c (by simp)))) (Xn (zI.mp h b (by simp)))) (Xn (zI.mp h a (by simp))))
def ZNS{H g:Hp}{p:ak}(w:ZJ H p)(s:∀ o,H p=some o->g p=some o):ZJ g p:=by
 let⟨a,b,c,d,e,h⟩:=w.ex;exact⟨a,b,c,d,s _ e,h⟩
theorem Gu:(Pu "a" 41).length=41:=by decide +kernel
theorem ZOb:Qw (yH "\n")=false:=by decide +kernel
theorem ZJe{Y:jk}(F:Zh K "_law_bad_put" "_law_bad_put" NI f fd)(L:Yq K mg kc ke)(LT:UH K mg CTb)(DP:ZA P w K mg kh 1 "_law_pull" zEc Zy)(DN:ZA P w K mg kh 13 "_law_no_side" zEr (XA Y kc ke CTb))(DR:ZA P w K mg kh 16 "_law_refused" zEj (Yl Y kc ke CTb))(DS:Vs P w K mg kh 1 kc zEo (Vh kc))(DT:NU P w K mg kh 5 CTb zEn (Yv kc ke CTb)):ZI P w K mg kh ZO 17 f fd zEk (Y9 Y kc ke CTb):=by
 refine F.ok Vu (λvs H Q E h=>(by cases h;rfl)) (λS A B s H vs Q E I h=>?_)
 let⟨W,hT,t,c0,t7,U,oT,op,O,hk,fk,q⟩:=h;rename_i p T X lk ls r vk k
 let nd:=Vu.nd;let a8:=I.mono (show 1<=16 by lia)
 let e9:=I.mono (show 2<=16 by lia)
 let i0:=I.mono (show 6<=16 by lia)
 let e0:=I.mono (show 13<=16 by lia)
 let⟨tt,ht,hz⟩:=ZMu (kc:=kc) (ke:=ke) (P:=P) (w:=w) (K:=K) (kh:=kh) (f:=f) (cdv:=S) (A:=A) (outer:=B) (s:=s) (Hs:=H) (E:=E) L LT DN DR DS DT I;intro Xc;refine⟨_,ZM (Zg 3 nd (YS K (Y3 (pa8 PF OE (Y3 (ZU ZL)) (Zx Mr ZL ZL) (Zx ZH2 U5 ZL) (X9 (pa5 ZL ZL ZL ZL ZL)) (X9 (ZU U5))
  (X9 (ZU (X9 (ZU (X9 (ZU (X9 Zj))))))))) (Ze DP a8 (Zn (pv 0) ZL)))) ht,?_⟩
 exists YQ;intro c J;let g1:=Zl J (.lst [.int 1]);exists _,_,Z,Z,⟨by decide,by decide,by decide⟩,_,_,Z,Z,by decide +kernel,by decide,by decide,YQ
 intro g n2;let g2:=Zl n2 (.tup [.int 1,.int 2,.int 3,.int 4,.int 5]);exists YQ;intro i n3;let g3:=Zl n3 (.tup [.str (yH "\n")]);exists YQ;intro m n4;let g4:=Zl n4 (.tup []);exists YQ;intro n n5;let g5:=Zl n5 (.tup [.ref m]);exists YQ;intro u n6;let g6:=Zl n6 (.tup [.ref n]);exists YQ;intro l n7;let g7:=Zl n7 (.tup [.ref u]);exists YQ;intro d n8;let g8:=Zl n8 (.lst [.bl true,.non,.ref c,.int ((10:Int) ^ (60:Int).toNat),.str (Pu "a" 41),.ref g,.ref i,.ref l]);let c7:=g7.trans g8;let c6:=g6.trans c7;let c5:=g5.trans c6;let c4:=g4.trans c5;let c3:=g3.trans c4;let c2:=g2.trans c3;let G:=g1.trans c2;let b7:=((((((g1.trans g2).trans g3).trans g4).trans g5).trans g6).trans g7);let e1:=c2 _ _ (ZV (a:=c) (o:=.lst [.int 1]));let e2:=c3 _ _ (ZV (a:=g) (o:=.tup [.int 1,.int 2,.int 3,.int 4,.int 5]));let e3:=c4 _ _ (ZV (a:=i) (o:=.tup [.str (yH "\n")]));let e4:=c5 _ _ (ZV (a:=m) (o:=.tup []));let e5:=c6 _ _ (ZV (a:=n) (o:=.tup [.ref m]));let e6:=c7 _ _ (ZV (a:=u) (o:=.tup [.ref n]));let e7:=g8 _ _ (ZV (a:=l) (o:=.tup [.ref u]));let dp:d≠p:=NP (W.same b7) n8;let ap:c≠p:=NP W J;let R:=W.same G;let e8:upd (upd (upd (upd (upd (upd (upd (upd H c (.lst [.int 1])) g (.tup [.int 1,.int 2,.int 3,.int 4,.int 5])) i (.tup [.str (yH "\n")])) m (.tup [])) n (.tup [.ref m])) u (.tup [.ref n])) l (.tup [.ref u])) d (.lst [.bl true,.non,.ref c,.int ((10:Int) ^ (60:Int).toNat),.str (Pu "a" 41),.ref g,.ref i,.ref l]) d=some (.lst [.bl true,.non,.ref c,.int ((10:Int) ^ (60:Int).toNat),.str (Pu "a" 41),.ref g,.ref i,.ref l]):=ZV;generalize upd (upd (upd (upd (upd (upd (upd (upd H c (.lst [.int 1])) g (.tup [.int 1,.int 2,.int 3,.int 4,.int 5])) i (.tup [.str (yH "\n")])) m (.tup [])) n (.tup [.ref m])) u (.tup [.ref n])) l (.tup [.ref u])) d (.lst [.bl true,.non,.ref c,.int ((10:Int) ^ (60:Int).toNat),.str (Pu "a" 41),.ref g,.ref i,.ref l])=H1 at *;exists _,Z,p,8,Z,R,Wy (by decide) (by decide)
 intro j H2 j0 j1 W2 D;let⟨v,av,mv⟩:=Nd (xs:=[V.bl true,.non,.ref c,.int ((10:Int) ^ (60:Int).toNat),.str (Pu "a" 41),.ref g,.ref i,.ref l]) j0 j1;let C:=D.tupsW R;refine .inl ⟨d,_,_,v,Z,Z,ZK.of (D _ _ e8 dp),av,?_⟩;let t1:=t.same G;let c9:=t1.pull R op D;let⟨dt,a0⟩:=hT;refine hz { nx:=λ_ N=>Q .non N,rt:=Q } H2 p T X lk ls r vk v k (λb=>b=p\/H b≠none) ⟨dt,D _ _ (G _ _ a0) O⟩ c9 c0 t7 U oT ((hk.sm G).mono C _ _) fk ?_ (.inr λz=>by rw[t.sh.sh.looks] at z;cases z) λN a9 fr c8 e=>q N a9 (λb o J n2 y=>fr b o J (D _ _ (G _ _ y) n2)) (ZNS W2 λo e=>fr _ _ op.2.2.1 e) c8 e
 let x:(10:Int) ^ 60<=(10:Int) ^ (60:Int).toNat:=by decide +kernel
 clear av e8;generalize (10:Int) ^ (60:Int).toNat=M at mv x;simp only[zQ,tQ,or_false] at mv;rcases mv with rfl | rfl | rfl | rfl | rfl | rfl | rfl | rfl
 ·exact⟨.odd "bool",by rw[Zk];exact .inl ⟨Z,true,Z⟩,by rw[TG.neat];trivial,by rw[TG.fits]⟩
 ·exact⟨.odd "NoneType",by rw[Zk];exact .inr (.inl ⟨rfl,rfl⟩),by rw[TG.neat];trivial,by rw[TG.fits]⟩
 ·exact⟨.odd "list",by rw[Zk];exact .inr (.inr (.inl ⟨rfl,c,_,rfl,D _ _ e1 ap,λz=>z.elim ap λy=>y J⟩)),by rw[TG.neat];trivial,by rw[TG.fits]⟩
 ·exists .int M,by rw[Zk],by rw[TG.neat];trivial
  rw[TG.fits];refine aK λz=>?_;let e:((10:Int) ^ 60)=((10 ^ 60:Nat):Int):=by decide +kernel
  rw[e] at x;generalize (10 ^ 60:Nat)=T at *
  lia
 ·exists .str _,by rw[Zk],by rw[TG.neat,Gu];decide
  rw[TG.fits];unfold Qw;rw[Gu];rfl
 ·exists .tup [.int 1,.int 2,.int 3,.int 4,.int 5],?_,?_
  ·rw[Zk];exact⟨g,_,Z,C _ _ e2,by simp[jZ,Zk]⟩
  ·simp[TG.neat,neatL]
  ·simp[TG.fits]
 ·exists .tup [.str (yH "\n")],?_,?_
  ·rw[Zk];exact⟨i,_,Z,C _ _ e3,by simp[jZ,Zk]⟩
  ·rw[TG.neat];exact⟨by decide,by rw[neatL,neatL,TG.neat];exact⟨by decide +kernel,trivial⟩⟩
  ·rw[TG.fits,gfitsL,TG.fits,ZOb];rfl
 ·exists .tup [.tup [.tup [.tup []]]],?_,?_
  ·rw[Zk];exists l,_,Z,C _ _ e7;rw[jZ];refine⟨_,_,Z,?_,by rw[jZ]⟩
   rw[Zk];exists u,_,Z,C _ _ e6;rw[jZ];refine⟨_,_,Z,?_,by rw[jZ]⟩
   rw[Zk];exists n,_,Z,C _ _ e5;rw[jZ];refine⟨_,_,Z,?_,by rw[jZ]⟩
   rw[Zk];exact⟨m,_,Z,C _ _ e4,by rw[jZ]⟩
  ·simp[TG.neat,neatL]
  ·simp[TG.fits,gfitsL]
end
def Mh{H:Hp}{p:ak}(W:ZJ H p):∃ o,H p=some (.lst o):=by
 let⟨_,_,_,_,a,_⟩:=W.ex;exact⟨_,a⟩
mutual
theorem Gh:∀(t:KT)(r:Nat),t.wide r=true->t.wide (r+1)=true
 | .int _,_,_=>rfl
 | .str _,_,_=>rfl
 | .tup l,r,h=>by
  rw[KT.wide,zP,zP] at h⊢;let h0:=of_decide_eq_true h.1;exists aM (Nat.succ_pos _),h.2.1;have:=wideL_mono l (r-1) h.2.2;rw[show r-1+1=r+1-1 by lia] at this
  exact this
theorem wideL_mono:∀(l:jk)(r:Nat),wideL l r=true->wideL l (r+1)=true
 | [],_,_=>rfl
 | t::l,r,h=>by
  rw[wideL,zP] at h⊢;exact⟨Gh t r h.1,wideL_mono l r h.2⟩
end
def Ck{v:KT}(h:v.fits 3=true):v.wide 4=true:=Gh _ _ (MH _ _ h)
def Tb.fr{j:jk}{c d:ak}{H g:Hp}{X:Zi}{h:ak}{k:jf}{r:jr}(t:Tb j c d H X h k r)(m:Zz H g)(a:∀ b o,¬ YU X h b->H b=some o->g b=some o):Tb j c d g X h k r:=by
 let R:=t.sh;let⟨⟨l,n⟩,p,q⟩:=R.sh;refine⟨⟨⟨⟨l,a _ _ (λz=>z.1 Z) n⟩,a _ _ (λz=>z.2.1 Z) p,a _ _ (λz=>z.2.2.1 Z) q⟩,R.keys,R.val,R.len,λi f=>?_,R.own,R.two⟩,t.wf,t.hb,t.tp⟩;exact(R.tw i f).frame m (λo e=>a _ _ (λz=>(z.2.2.2 i f).1 Z) e) (λo e=>a _ _ (λz=>(z.2.2.2 i f).2.2 Z) e) (λo e=>a _ _ (λz=>(z.2.2.2 i f).2.1 Z) e)
def YI.to{w:ax}{H a:Hp}{D:ak}{c:jo}{d:List (KT×V×V)}(h:YI w H D c d)(t:Zz H a)(e:∀ o,H D=some o->a D=some o):YI w a D c d:=by
 let⟨f,g,i⟩:=h.dk.ex;exact⟨⟨⟨f,e _ g,i⟩,λz b=>⟨(h.dk.key z b).1.mono t,(h.dk.key z b).2⟩,h.dk.nd⟩,Paired.mapP h.rows λ_ _ z=>⟨z.1,z.2.mono t _ _⟩⟩
structure Lw(gt:jk)(kc ke CTb:ak)(w:ax)(H:Hp)(T D kn:ak)(X:Zi)(lk:ak)(ls:jf)(r:jr)(rs:jo)(xs:List (KT×V×V))(us:jf)(ts:jk):Prop where
 tab:Yf CTb H T X.S r
 tb:Tb gt kc ke H X lk ls r
 dic:YI w H D rs xs
 hk:H kn=some (.lst us)
 ks:jV H ts us
 kf:∀ t∈ts,t.fits 3=true
 rf:∀ x∈rs,x.fit
 iff:∀ x,x∈Ym X.ts r ↔ x∈rs
 oT:YU X lk T
 oD:YU X lk D
 ok:YU X lk kn
section
variable{gt:jk}{kc ke CTb:ak}{H H':Hp}{T D kn:ak}{X:Zi}{lk:ak}{ls:jf}{r:jr}{rs:jo}{xs:List (KT×V×V)}{us:jf}{ts:jk}
def Lw.dT(l:Lw gt kc ke CTb w H T D kn X lk ls r rs xs us ts):D≠T:=by
 let⟨b,a⟩:=l.tab;let⟨c,h,_⟩:=l.dic.dk.ex;exact ZY h a (by unfold Qu;intro z;cases z)
def Lw.kT(l:Lw gt kc ke CTb w H T D kn X lk ls r rs xs us ts):kn≠T:=by
 let⟨b,a⟩:=l.tab;exact ZY l.hk a
def Lw.kD(l:Lw gt kc ke CTb w H T D kn X lk ls r rs xs us ts):kn≠D:=by
 let⟨a,h,_⟩:=l.dic.dk.ex;exact ZY l.hk h (by unfold Qu;intro z;cases z)
def Lw.step(l:Lw gt kc ke CTb w H T D kn X lk ls r rs xs us ts){p:ak}(W:∃ o,H p=some (.lst o))(s:YU X lk p)(d:∀ b o,b≠p->b≠kn->H b=some o->H' b=some o){c:jf}{a:jk}(j:H' kn=some (.lst c))(q:jV H' a c)(k:∀ t∈a,t.fits 3=true):Lw gt kc ke CTb w H' T D kn X lk ls r rs xs c a:=by
 let⟨_,f⟩:=W;let⟨h,g⟩:=l.tab;let⟨u,i,_⟩:=l.dic.dk.ex;let m:Zz H H':=λb v e=>d b _ (ZY e f) (ZY e l.hk) e;exact⟨⟨h,d _ _ (ZY g f) l.kT.symm g⟩,l.tb.fr m λb o n e=>d b o (λz=>n (z ▸ s)) (λz=>n (z ▸ l.ok)) e,l.dic.to m λo e=>d _ _ (ZY i f (by unfold Qu;intro z;cases z)) l.kD.symm e,j,q,k,l.rf,l.iff,l.oT,l.oD,l.ok⟩
def Lw.pull(l:Lw gt kc ke CTb w H T D kn X lk ls r rs xs us ts){p:ak}(W:ZJ H p)(c:YU X lk p)(a:kn≠p)(s:ZH p H H'):Lw gt kc ke CTb w H' T D kn X lk ls r rs xs us ts:=
 l.step (Mh W) c (λb o n _ e=>s b o e n) (s _ _ l.hk a) (l.ks.mono (s.tupsW W) _ _) l.kf
def Lw.same(l:Lw gt kc ke CTb w H T D kn X lk ls r rs xs us ts)(s:ZE H H'):Lw gt kc ke CTb w H' T D kn X lk ls r rs xs us ts:=by
 let⟨a,b⟩:=l.tab;exact⟨⟨a,s _ _ b⟩,l.tb.same s,l.dic.same s,s _ _ l.hk,l.ks.sm s,l.kf,l.rf,l.iff,l.oT,l.oD,l.ok⟩
def Lw.look(l:Lw gt kc ke CTb w H T D kn X lk ls r rs xs us ts){a:jf}(c:∀ b o,b≠lk->H b=some o->H' b=some o)(t:Tb gt kc ke H' X lk a r):Lw gt kc ke CTb w H' T D kn X lk a r rs xs us ts:=by
 let⟨d,f⟩:=l.tab;let m:Zz H H':=λb g e=>c b _ (ZY e l.tb.sh.sh.looks) e;exact⟨⟨d,c _ _ l.oT.2.2.1 f⟩,t,l.dic.to m λo e=>c _ _ l.oD.2.2.1 e,c _ _ l.ok.2.2.1 l.hk,l.ks.mono m _ _,l.kf,l.rf,l.iff,l.oT,l.oD,l.ok⟩
def Ll(t:Tb gt kc ke H X lk ls r):Up (Ym X.ts r):=by
 cases r with
 | none=>exact .nil
 | some i=>exact(t.wf i _ (YN (t.tp i rfl).1)).up
def C3{l:jo}{k v:KT}(U:Up l)(h:(k,v)∈l):WB l k=[v]:=by
 rw[<-Ff U h];exact GD
def Lw.at_(l:Lw gt kc ke CTb w H T D kn X lk ls r rs xs us ts)(k:KT):(∃ v u,VO xs k=some u/\ZC H v u/\v.fits 3=true/\(k,v)∈rs/\WB (Ym X.ts r) k=[v])\/(VO xs k=none/\WB (Ym X.ts r) k=[]/\k∉rs.map (·.1)):=by
 by_cases c:k∈rs.map (·.1)
 ·let⟨x,a,rfl⟩:=zR.mp c;let⟨u,b,d⟩:=l.dic.at_ a;exact .inl ⟨x.2,u,b,d,(l.rf x a).2,a,C3 (Ll l.tb) ((l.iff _).mpr a)⟩
 ·exact .inr ⟨l.dic.none c,Nw λx a e=>c (zR.mpr ⟨x,(l.iff x).mp a,e⟩),c⟩
def Lw.len(l:Lw gt kc ke CTb w H T D kn X lk ls r rs xs us ts):(Ym X.ts r).length=rs.length:=by
 let U:=Ll l.tb;let c:(Ym X.ts r).Nodup:=yA.imp (λh=>λe=>by rw[e] at h;rw[VG] at h;cases h) (tM.mp U)
 let d:rs.Nodup:=yA.of_map (·.1) (λa b h e=>h (by rw[e])) l.dic.nd
 exact vN.length_eq ((qL c d).mpr l.iff)
end
inductive Q9(w:ax)(Q:VK)(y x:V)(b:Hp):Prop
 |mk(a:ak)(c:List (KT×V×V))(t:KT)(_:x=.ref a)(_:Z1 w b a c)(_:ZC b t y)(_:t.depth<=3)(_:Q (.bl (!(VO c t).isSome)) b)
def Bw(w:ax)(e d:TE):TE:=λa H Q=>e a H λy b=>d a b λx c=>Q9 w Q y x c
def ZKj{X:Cx}{i o:Expr}{d c:TE}(v:X.A.units+5<cLine)(q:PE X i d)(r:PE X o c):PC X .NotIn i o (Bw X.w d c):=by
 intro b s e H Q I h;refine Z7 (q b s e H _ I h) λG F y f j E B=>Z2 (r b F e f _ j B) ?_;rintro u J ⟨x,g,k,D,a,L,t,p,m,z,n,C⟩;subst p;obtain rfl:u=Value.ref a:=D;exact ZN5 v k m z n E λK l=>⟨.bl _,g,l,Z,C⟩
def Ek(A:Hp->Prop){R:Hp->Prop}{G:Prop}(h:(∀ H,A H->R H)->G)(r:∀ H,A H->R H):G:=h r
section
variable{kc ke CTb CK:ak}
abbrev Gk:jp:=["_law_well_here","_law_table","_law_model","_law_known","_law_spot","_law_value_here","_law_due","_law_told","_law_side"]
theorem UL:ZB Gk zEh (Za Nn):=Zr
abbrev CM(l:jk)(kc ke CTb:ak)(w:ax)(H:Hp)(p T D k:ak)(X:Zi)(h:ak)(m:jf)(q:jo)(r:Nat)(Q:Hp->Prop):Prop:=
 ∀(g:Hp)(e:Zi)(a:jf)(n:jr)(b:jo)(j:List (KT×V×V))(d:jf)(i:jk),Lw l kc ke CTb w g T D k e h a n b j d i->e.S=X.S->b.length<=q.length+1->d.length<=r->e.ts.length<=X.ts.length+9->a.length<=m.length+50->(∀ c o,c≠p->c≠T->c≠D->c≠k->YU X h c->H c=some o->g c=some o/\YU e h c)->Q g
theorem Ax{U:jk}{cdv:aj}{A:ay}{outer:jw}{s:al}{Hs:Hp}{E:XK}(T0:Yb mg)(LT:UH K mg CTb)(DA:ZA P w K mg kh 7 "_law_alike" zEb (YY 6))(DU:ZD P w K mg kh (Yn P w) 15 CTb "put" zEw (Xx U kc ke CTb CK))(DS:ZD P w K mg kh (Yn P w) 12 CTb "side" zEt (YE U kc ke CTb CK))(DC:ZD P w K mg kh ZO 4 CTb "count" zEo (Y6 U kc ke CTb))(DR:ZA P w K mg kh 8 "_law_rows_alike" zEb YV)(DW:ZA P w K mg kh 1 "_law_whole" zEb WE)(i:ZS 16 (A.deeper (envOfC "_law_put" (Za Nn) s.heap.objs.size f cdv))):
  ∃ t,X5 (Wu ZO P w K mg kh Gk "_law_put" (Za Nn) f cdv A outer s Hs E).nox ((WJ Nn).drop 3) t/\∀(D0:YM)(H:Hp)(p T D M:ak)(X:Zi)(lk:ak)(ls:jf)(r:jr)(rs:jo)(xs:List (KT×V×V))(B:jf)(ts:jk)(S h:V)(k v:KT)(x6 x7 x8:jg),
   Lw U kc ke CTb w H T D M X lk ls r rs xs B ts->ZC H k S->k.fits 3=true->ZC H v h->v.fits 3=true->rs.length<=140->X.ts.length<=700->ls.length<=360000 ->
   CM U kc ke CTb w H p T D M X lk ls rs B.length (D0.rt (.bl true)) ->
   t D0 [some (.ref p),some (.ref T),some (.ref D),some (.ref M),some S,some h,x6,x7,x8] H:=by
 let nd:=UL.nd;let i8:=i.mono (show 1<=16 by lia)
 let i9:=i.mono (show 4<=16 by lia)
 let l0:=i.mono (show 7<=16 by lia)
 let c4:=i.mono (show 8<=16 by lia)
 let j:=i.mono (show 12<=16 by lia)
 let c1:=i.mono (show 15<=16 by lia)
 let c5:=ZS.key i (n:=5) (by decide)
 let MA:=ZS.key i (n:=4) (by decide)
 refine⟨_,ZM (Zg 6 nd (ZQj (ZOU (ZKj c5 (pv 4) (pv 2))) (Qb (Ls (Ze DA l0 (Zn (Ln c5 (pv 2) (pv 4) (λ_ _=>rfl)) (pv 5)))))))
  (ZM (Zg 7 nd (YH (E:=E0) (pv 1) LT.cT DU c1 Ol (Zn (pv 4) (pv 5))))
  (ZM (Z3 (PW.pt (NK (Va (XG (Z6 VZ rfl T0.isi Ww (Zn (pv 7) (VR (v:=.ty "bool") rfl T0.bool Lg rfl))))) (NS (Y2 IR (pv 7) (pv 6) (YW _))))) VX Z4)
  (ZM (K0 MA (pv 2) (pv 4) (pv 5) rfl)
  (ZM (Zg 8 nd (YH (E:=E0) (pv 1) LT.cT DS j Ol (ZU (pv 4))))
  (ZM (Z3 (Va (XG (Ze DR c4 (Zn (pv 8) (Y3 (ZU (pv 5))))))) VX Z4)
  (ZM (XS (Ug xP wQ wP Q0 (pv 8) (ZU OE)))
  (ZT (Zf (UA (Ze DR c4 (Zn (YH (E:=E0) (pv 1) LT.cT DS j Ol (ZU (pv 4))) (Y3 (ZU (pv 5))))) (Qb (Ze DW i8 (Zn (JM (E:=E0) (pv 1) LT.cT DC i9 YG) (Z6 ZJg rfl T0.len X3 (ZU (pv 2))))))))))))))),
  λD0 H p T D M X lk ls r rs xs B ts S h k v x6 x7 x8 l kk fk kv fv o5 t7 o7 q=>?_⟩
 obtain⟨b,eb⟩:∃ b:Bool,(!jX (WB (Ym X.ts r) k) [v])=b:=⟨_,Z⟩;let lr:=l.len;let kd:=Vf _ 3 fk;apply Ek (λG=>ZE H G)
 ·intro go;exists _,Z,_,Z,D,xs,k,Z,l.dic.dk,kk,kd;rcases l.at_ k with ⟨v0,u0,e1,k0,f0,m0,sd⟩ | ⟨e1,sd,n0⟩
  ·let e2:(!(v0.eqb v))=b:=by rw[<-eb,sd];simp[jX]
   rw[e1];refine⟨_,Z,Zo ⟨_,Z,_,Z,D,xs,k,u0,Z,l.dic.dk,kk,kd,e1,_,Z,u0,h,v0,v,3,Z,k0,kv,MH _ _ fv,by decide,λG W=>⟨_,Z,?_⟩⟩⟩
   rw[e2];exact go G W
  ·let e2:true=b:=by rw[<-eb,sd];rfl
   rw[e1];refine⟨_,Z,Z0 ?_⟩;show Pn 6 (.bl true) _ _ _;rw[e2];exact go H λ_ _ e=>e
 intro G W;let m:=l.same W;let⟨dx,hT⟩:=m.tab;let a8:Xr (λ_=>True) G (some k) S:=⟨kk.sm W,fk⟩;let c6:Xr (λ_=>True) G (some v) h:=⟨kv.sm W,fv⟩;refine⟨_,Z,T,dx,_,Z,hT,Z,_,Z,_,Z,.mk ⟨dx,hT⟩ m.tb ∅ t7 ∅ m.oT a8 c6 trivial (λz=>z.elim (λy=>nomatch y) (λy=>nomatch y)) λk' v' ek ev H2 X2 m9 r2 eS d n7 o0 u a3 o3 f2=>?_⟩
 cases ek;cases ev;rw[eb];let ed:(!decide (V.bl b=V.bl b))=false:=by simp
 refine⟨_,Z,_,_,_,_,Z,.bl b,Cs,_,Z,Zo ⟨_,Z,_,Z,Z,?_⟩⟩;rw[ed];refine⟨_,Z,Zo ?_⟩;let dT:=l.dT;let kT:=l.kT;let kD:=l.kD;let m2:Zz G H2:=λb C e=>(d b _ (ZY e hT) (m.tb.sh.off e (by intro _ _ _ z;cases z) (by intro _ z;cases z) (by intro _ z;cases z)) e).1
 let d2:=m.dic.to m2 λo e=>(d D o dT l.oD e).1;let⟨o6,i4,_⟩:=m.dic.dk.ex;let e5:=(d D _ dT l.oD i4).2;let⟨c0,e6⟩:=d M _ kT l.ok m.hk;let c8:=a8.1.mono m2 _ _;let UD:=c6.1.mono m2 _ _;exists _,Z,_,Z,_,Z,D,xs,k,Z,d2.dk,by have:=Paired.length l.dic.rows;lia,c8,kd
 intro H3 Y i0;let⟨e8,i1,m8,c7⟩:=d2.put Y UD i0;let m3:=Jn d2.dk Y;let tT:=u;let⟨i2,i6⟩:=u;let O:Lw U kc ke CTb w H3 T D M X2 lk m9 (some r2) e8 (Vt xs k S h) B ts:=by
  refine⟨⟨i2,Y _ _ i6 dT.symm⟩,o0.fr m3 λb o n e=>Y _ _ e λz=>n (z ▸ e5),i1,Y _ _ c0 kD,(m.ks.mono m2 _ _).mono m3 _ _,l.kf,λx hx=>?_,λx=>?_,n7,e5,e6⟩
  ·rcases(c7 x).mp hx with e | e
   ·rw[e];exact⟨fk,fv⟩
   ·exact l.rf x e.1
  ·rw[a3,VN,c7 x,l.iff]
 let e9:WB (Ym X2.ts (some r2)) k=[v]:=by rw[a3];exact GD
 let o4:=O.len;let a9:Xr (λ_=>True) H3 (some k) S:=⟨c8.mono m3 _ _,fk⟩;let e0:=UD.mono m3 _ _;let⟨a0,a5⟩:=O.tab;refine⟨_,Z,T,a0,_,Z,a5,Z,_,Z,.mk ⟨a0,a5⟩ O.tb ∅ ∅ a9 (λy=>nomatch y) λk' ek H4 I C o8 J o1 e4 Q a4 N=>?_⟩
 cases ek;rw[e9] at N;let l4:=O.look J o1;let ee:jX [v] [v]=true:=by simp[jX,V6]
 let wd:∀ t∈[v],t.wide 4=true:=λt ht=>by rw[yZ.mp ht];exact Ck fv
 let m4:Zz H3 H4:=λb C e=>J b _ (ZY e O.tb.sh.sh.looks) e;let l9:=e0.mono m4 _ _;exists _,Z,_,Z,YQ;intro p1 n1;let⟨J5,eU,g5,h5⟩:=XR n1 (.lst [h]);rw[eU];exists I,p1,C,[h],[v],[v],Z,g5 _ _ a4,h5,N.sm g5,.cons (l9.sm g5) .nil,wd,by show 1<=400;lia
 intro H5 n8;rw[ee];let s5:=g5.trans n8;let l5:=l4.same s5;refine⟨_,Z,Zo ?_⟩;let a:=s5 _ _ a4;exists _,Z,.inl ⟨Z,_,ZK.of a⟩,I,C,.non,Z,Z,a,by rw[<-N.length];exact yT Z
 let n6:YU X2 lk I:=O.tb.sh.new Q;let l2:M≠I:=Zd O.hk Q;let g:∀ b o,b≠I->H5 b=some o->upd H5 I (.lst (C++[.non])) b=some o:=λb o n e=>by rw[ZR n];exact e
 generalize upd H5 I (.lst (C++[.non]))=H6 at g⊢;let m6:Zz H5 H6:=λb C e=>g b _ (ZY e a) e;let l6:=l5.step ⟨_,a⟩ n6 (λb o n _ e=>g b o n e) (g _ _ l2 l5.hk) (l5.ks.mono m6 _ _) l5.kf;let⟨a1,a6⟩:=l6.tab;let e3:Zz H3 H6:=λb B e=>m6 b B (s5 _ _ (m4 b B e));let i7:Xr (λ_=>True) H6 (some k) S:=⟨a9.1.mono e3 _ _,fk⟩;let m1:=e0.mono e3 _ _;refine⟨_,Z,T,a1,_,Z,a6,Z,_,Z,.mk ⟨a1,a6⟩ l6.tb ∅ ∅ i7 (λy=>nomatch y) λk' ek H7 S7 y7 n5 L o2 e7 p0 i5 c9=>?_⟩
 cases ek;rw[e9] at c9;let l7:=l6.look L o2;let m7:Zz H6 H7:=λb C e=>L b _ (ZY e l6.tb.sh.sh.looks) e;let m5:=m1.mono m7 _ _;exists _,Z,YQ;intro p2 n2;let⟨J8,i3,g8,h8⟩:=XR n2 (.lst [h]);rw[i3];exists S7,p2,y7,[h],[v],[v],Z,g8 _ _ i5,h8,c9.sm g8,.cons (m5.sm g8) .nil,wd,by show 1<=400;lia
 intro H8 n9;rw[ee];let s8:=g8.trans n9;let l8:=l7.same s8;let⟨a2,a7⟩:=l8.tab;let o9:=Paired.length l8.dic.rows;refine⟨_,Z,Z0 ⟨_,Z,T,a2,_,Z,a7,Z,.mk ⟨a2,a7⟩ l8.tb ⟨_,Z,D,_,Z,l8.dic.dk,∅,_,_,Z,?_⟩⟩⟩
 rw[aM ∅]
 refine q H8 X2 n5 (some r2) e8 _ B ts l8 eS m8 ∅ o3 ∅ λc o n1 n2 n3 n4 oc e=>?_
 let⟨c2,R⟩:=d c o n2 oc (W _ _ e);let c3:=Y _ _ c2 n3;exact⟨s8 _ _ (L _ _ R.2.2.1 (g _ _ (Zd c3 Q) (s5 _ _ (J _ _ R.2.2.1 c3)))),R⟩
inductive WW(b:jk)(kc ke CTb:ak)(w:ax):Sp
 |mk{p T D a:ak}{X:Zi}{c:ak}{d:jf}{r:jr}{e:jo}{i:List (KT×V×V)}{g:jf}{h:jk}{H:Hp}{Q:VK}{E:XK}:ZJ H p->Lw b kc ke CTb w H T D a X c d r e i g h->YU X c p->a≠p->e.length<=140->g.length<=800->X.ts.length<=700->d.length<=360000->CM b kc ke CTb w H p T D a X c d e (g.length+1) (Q (.bl true))->WW b kc ke CTb w [.ref p,.ref T,.ref D,.ref a] H Q E
def ZNG{I:jk}(F:Zh K "_law_put" "_law_put" Nn f fd)(T0:Yb mg)(LT:UH K mg CTb)(DP:ZA P w K mg kh 1 "_law_pull" zEc Zy)(DK:ZA P w K mg kh 7 "_law_any_key" zEv Wd)(DV:ZA P w K mg kh 7 "_law_value" zEl WD)(DA:ZA P w K mg kh 7 "_law_alike" zEb (YY 6))(DU:ZD P w K mg kh (Yn P w) 15 CTb "put" zEw (Xx I kc ke CTb CK))(DS:ZD P w K mg kh (Yn P w) 12 CTb "side" zEt (YE I kc ke CTb CK))(DC:ZD P w K mg kh ZO 4 CTb "count" zEo (Y6 I kc ke CTb))(DR:ZA P w K mg kh 8 "_law_rows_alike" zEb YV)(DW:ZA P w K mg kh 1 "_law_whole" zEb WE):ZI P w K mg kh ZO 17 f fd zEh (WW I kc ke CTb w):=by
 refine F.ok UL (λvs H Q E h=>(by cases h;rfl)) (λY A t s H vs Q E J h=>?_)
 let⟨W,l,O,L,G,u8,t7,a0,q⟩:=h;rename_i p T D kn X lk ls r rs xs us ts
 let nd:=UL.nd;let a4:=J.mono (show 1<=16 by lia)
 let B:=J.mono (show 7<=16 by lia)
 let C:=ZS.key J (n:=5) (by decide)
 let⟨tt,ht,hk⟩:=Ax (kc:=kc) (ke:=ke) (P:=P) (w:=w) (K:=K) (kh:=kh) (f:=f) (cdv:=Y) (A:=A) (outer:=t) (s:=s) (Hs:=H) (E:=E) T0 LT DA DU DS DC DR DW J;intro Xc;refine⟨_,ZM (Zg 4 nd (Ze DK B (Zn (pv 0) (pv 3))))
  (ZM (Zg 5 nd (Ze DV B (ZU (pv 0))))
  (ZM (Z3 (PW.pt (IX (Y2 (GU C) (pv 4) (pv 2) rfl) (JE (Y2 UG (Ze DP a4 (Zn (pv 0) ZL)) ZL (YW _))))) (ZT (Zg 5 nd (Ln C (pv 2) (pv 4) (λ_ _=>rfl)))) Z4) ht)),?_⟩
 exists _,Z,_,Z,p,kn,us,ts,Z,W,l.hk,l.ks,l.kf,L,u8;intro vk k c2 c0 H1 kk fk a3 a6 a5 c5 S x;let l1:=l.step (Mh W) O x a3 a6 a5;exists _,Z,p,Z,S;intro vv v H2 kv fv g s2;let M:=l1.pull S O L s2;let m:=kk.mono (s2.tupsW S) _ _;let kd:=Vf _ 3 fk;let i:∀ d b R,ZH p H2 d->ZJ d p->ZC d R b->R.fits 3=true->tt { nx:=λ_ d=>Q .non d,rt:=Q } [some (.ref p),some (.ref T),some (.ref D),some (.ref kn),some vk,some b,none,none,none] d:=λd b R a U a7 a2=>by
  let l3:=M.pull g O L a;refine hk _ d p T D kn X lk ls r rs xs c2 c0 vk b k R none none none l3 (m.mono (a.tupsW g) _ _) fk a7 a2 G t7 a0 λH8 X8 a8 r8 a9 c4 c3 c1 l8 eS u e2 e3 e4 a1=>q H8 X8 a8 r8 a9 c4 c3 c1 l8 eS u ∅ e3 e4 λc o N n2 n3 n4 oc e=>a1 c o N n2 n3 n4 oc (a _ _ (s2 _ _ (x c o N n4 e) N) N)
 exists _,Z,_,Z,D,xs,k,Z,M.dic.dk,m,kd;rcases M.at_ k with ⟨v0,u0,u,k0,f0,m0,sd⟩ | ⟨u,sd,n0⟩
 ·rw[u];refine⟨_,Z,Z0 ⟨_,Z,p,5,Z,g,Wy (by decide) (by decide),λj H3 j0 j1 U a=>?_⟩⟩
  let l3:=M.pull g O L a;exists Z,_,Z;by_cases z:j=0
  ·rw[z];refine Z0 ⟨_,Z,_,Z,D,xs,k,u0,Z,l3.dic.dk,m.mono (a.tupsW g) _ _,kd,u,?_⟩;exact i H3 u0 v0 a U (k0.mono (a.tupsW g) _ _) f0
  ·rw[aK (λy=>z (V.int.inj y))];exact Zo (i H3 vv v a U (kv.mono (a.tupsW g) _ _) fv)
 ·rw[u];exact⟨_,Z,Zo (Zo (i H2 vv v (λ_ _ e _=>e) g kv fv))⟩
end
section
variable{gt:jk}{kc ke CTb:ak}{H H':Hp}{T D kn:ak}{X:Zi}{lk:ak}{ls:jf}{r:jr}{rs:jo}{xs:List (KT×V×V)}{us:jf}{ts:jk}
def Lw.lookP(l:Lw gt kc ke CTb w H T D kn X lk ls r rs xs us ts){a:jf}{p:ak}(W:ZJ H p)(i:kn≠p)(c:∀ b o,b≠lk->b≠p->H b=some o->H' b=some o)(t:Tb gt kc ke H' X lk a r):Lw gt kc ke CTb w H' T D kn X lk a r rs xs us ts:=by
 let⟨_,d⟩:=Mh W;let⟨g,f⟩:=l.tab;let⟨j,h,_⟩:=l.dic.dk.ex;let m:Zz H H':=λb k e=>c b _ (ZY e l.tb.sh.sh.looks) (ZY e d) e;exact⟨⟨g,c _ _ l.oT.2.2.1 (ZY f d) f⟩,t,l.dic.to m λo e=>c _ _ l.oD.2.2.1 (ZY h d (by unfold Qu;intro z;cases z)) e,c _ _ l.ok.2.2.1 i l.hk,l.ks.mono m _ _,l.kf,l.rf,l.iff,l.oT,l.oD,l.ok⟩
end
def ZQu{u:V}{l:jf}:Xq (u::l) 0=some u:=by simp[Xq,QR]
def Gz{K:zZ}{H c:Hp}{a:ak}{d:jf}(m:∀ b o,H b=some o->c b=some o)(h:ZK K H a d):ZK K c a d:=by
 rcases h with (h | ⟨o,h⟩) | h
 ·exact .inl (.inl (m _ _ h))
 ·exact .inl (.inr ⟨o,m _ _ h⟩)
 ·exact .inr h
theorem Fg{H:Hp}:∀{a:List (KT×V×V)},(∀ x∈a,ZC H x.1 x.2.1)->jV H (a.map (·.1)) (a.map (·.2.1))
 | [],_=>.nil
 | x::a,h=>.cons (h x zM) (Fg λy b=>h y (zK _ b))
section
variable{kc ke CTb CK:ak}
abbrev K9:jp:=["_law_script","_law_well_here","_law_model","_law_shelf","_law_table","_law_known","_law_k","_law_found","_law_spot"]
theorem Ul:ZB K9 zFp (Za Uf):=Zr
inductive ET(gt:jk)(kc ke CTb:ak)(w:ax)(H0:Hp)(z S T D kn:ak):Nat->L2.St->Hp->Prop
 |mk{n:Nat}{x1 x6 x7 x8:jg}{X:Zi}{lk:ak}{ls:jf}{r:jr}{rs:jo}{xs:List (KT×V×V)}{us:jf}{ts:jk}{H:Hp}:Lw gt kc ke CTb w H T D kn X lk ls r rs xs us ts->X.S=S->(∀ c o,H0 c=some o->H c=some o/\YU X lk c)->rs.length<=40+n->us.length<=40+n->X.ts.length<=80+9 * n->ls.length<=100 * n ->
  ET gt kc ke CTb w H0 z S T D kn n [some (.ref z),x1,some (.ref D),some (.ref S),some (.ref T),some (.ref kn),x6,x7,x8] H
inductive Eo(gt:jk)(kc ke CTb:ak)(w:ax)(z S T D kn:ak)(X:Zi)(lk:ak)(r:jr)(rs:jo)(xs:List (KT×V×V))(us:jf)(ts:jk)(x1 x6 x7:jg):Nat->L2.St->Hp->Prop
 |mk{n:Nat}{x8:jg}{ls:jf}{H:Hp}:Lw gt kc ke CTb w H T D kn X lk ls r rs xs us ts->ls.length<=7000+8 * n ->
  Eo gt kc ke CTb w z S T D kn X lk r rs xs us ts x1 x6 x7 n [some (.ref z),x1,some (.ref D),some (.ref S),some (.ref T),some (.ref kn),x6,x7,x8] H
def Ei{a:jo}(h:∀ x∈a,x.fit):∀ t∈YD a,t.wide 4=true:=λt b=>by
 let⟨x,c,rfl⟩:=zR.mp b;have:=h x c;show (KT.tup [x.1,x.2]).wide 4=true;rw[KT.wide,wideL,wideL,wideL,MH _ _ this.1,MH _ _ this.2];rfl
theorem ZNb{gt:jk}{cdv:aj}{A:ay}{outer:jw}{s:al}{Hs:Hp}{E:XK}(T0:Yb mg)(LT:UH K mg CTb)(DS:ZD P w K mg kh (Yn P w) 12 CTb "side" zEt (YE gt kc ke CTb CK))(L:ZD P w K mg kh ZO 27 CTb "rows" zEo (XI gt kc ke CTb))(DR:ZA P w K mg kh 8 "_law_rows_alike" zEb YV)(DO:ZA P w K mg kh 9 "_law_sorted" zFc (Yj w))(R:ZS 40 (A.deeper (envOfC "law" (Za Uf) s.heap.objs.size f cdv))):
  ∃ t,X5 (Wu ZO P w K mg kh K9 "law" (Za Uf) f cdv A outer s Hs E).nox ((WJ Uf).drop 7) t/\∀(D0:YM)(H:Hp)(z S T D I:ak)(X:Zi)(lk:ak)(ls:jf)(r:jr)(rs:jo)(xs:List (KT×V×V))(J:jf)(ts:jk)(x1 x6 x7 x8:jg),
   Lw gt kc ke CTb w H T D I X lk ls r rs xs J ts->rs.length<=140->J.length<=140->ls.length<=6600->(∀ H',D0.rt (.bl true) H')->t D0 [some (.ref z),x1,some (.ref D),some (.ref S),some (.ref T),some (.ref I),x6,x7,x8] H:=by
 let nd:=Ul.nd;let B:=R.mono (show 8<=40 by lia)
 let W:=R.mono (show 9<=40 by lia)
 let U:=R.mono (show 12<=40 by lia)
 let j:=R.mono (show 27<=40 by lia)
 let a0:=ZS.key R (n:=5) (by decide)
 refine⟨_,ZM (Zg 7 nd (JM (E:=E0) (pv 4) LT.cT L j YG))
  (ZM (Z3 (Va (XG (Ze DR B (Zn (pv 7) (Ze DO W (ZU (pv 2))))))) VX Z4)
  (ZM (XS (Ug xP wQ wP Q0 (pv 7) (ZU ZL)))
  (ZM (UE PassesOwn.never rfl (Wj (pv 5)) (UC 8 nd)
   (ZT (Z3 (Va (XG (Ze DR B (Zn (YH (E:=E0) (pv 4) LT.cT DS U Ol (ZU (pv 8))) (ZLY (Y2 (GU a0) (pv 8) (pv 2) rfl) (Y3 (ZU (Ln a0 (pv 2) (pv 8) (λ_ _=>rfl)))) (Y3 Zj)))))) VX Z4)))
  (ZT (Zf (Ze DR B (Zn (JM (E:=E0) (pv 4) LT.cT L j YG) (Ze DO W (ZU (pv 2)))))))))),
  λD0 H z S T D I X lk ls r rs xs J ts x1 x6 x7 x8 l e7 e8 e9 a9=>?_⟩
 let lr:=l.len;let⟨dx,hT⟩:=l.tab;refine⟨_,Z,T,dx,_,Z,hT,Z,.mk ⟨dx,hT⟩ l.tb ∅ ∅ λH1 Fo ws i0 c0 e2 f1 a5 N a4=>?_⟩
 let l1:=l.look c0 e2;refine⟨_,Z,_,Z,.mk l1.dic l1.rf ∅ λso vs C H2 s2 i2 c2 c4 U2 a1=>?_⟩
 let l2:=l1.same s2;let er:C=Ym X.ts r:=Lx U2 (Ll l.tb) λx=>(a1 x).trans (l.iff x).symm;let c9:∀ x∈C,x.fit:=λx hx=>l.rf x ((a1 x).mp hx);exists Fo,so,ws,vs,YD (Ym X.ts r),YD C,Z,s2 _ _ N,c2,a4.sm s2,c4,Ei c9,by rw[er];unfold YD;rw[zX];lia
 intro H3 s3;rw[er,eqbL_self];refine⟨_,Z,Zo ?_⟩;let l3:=l2.same s3;let a:=s3 _ _ (s2 _ _ N);exists _,Z,.inl ⟨Z,_,ZK.of a⟩,Fo,ws,.int 0,Z,Z,a,?_
 ·have:=a4.length;unfold YD at this;rw[zX] at this;exact wZ (show ws.length<=200 by lia) (yT Z)
 let c8:YU X lk Fo:=l.tb.sh.new a5;let c3:I≠Fo:=Zd l.hk a5;let m:∀ b o,b≠Fo->H3 b=some o->upd H3 Fo (.lst (ws++[.int 0])) b=some o:=λb o n e=>by rw[ZR n];exact e
 generalize upd H3 Fo (.lst (ws++[.int 0]))=H4 at m⊢;let m4:Zz H3 H4:=λb ys e=>m b _ (ZY e a) e;let l4:=l3.step ⟨_,a⟩ c8 (λb o n _ e=>m b o n e) (m _ _ c3 l3.hk) (l3.ks.mono m4 _ _) l3.kf;refine⟨_,Z,I,Z,⟨J,ZK.of l4.hk⟩,Pa (K:=K) (xs:=J) (Eo gt kc ke CTb w z S T D I X lk r rs xs J ts x1 x6 (some (.ref Fo))) (.mk l4 ∅) ?_ ?_ ?_⟩
 ·rintro i _ H5 _ ⟨d,_⟩;exact ZK.of d.hk
 ·rintro i u _ H5 hu ⟨d,f5⟩;rename_i x8 c6
  let⟨k,ek,kk⟩:=d.ks.get hu;let fk:=d.kf k (zJ ek);let kd:=Vf _ 3 fk;let iu:=(zE.mp hu).1;let c1:Xr (λ_=>True) H5 (some k) u:=⟨kk,fk⟩;let⟨g,h⟩:=d.tab;refine⟨_,Z,T,g,_,Z,h,Z,_,Z,.mk ⟨g,h⟩ d.tb ∅ ∅ c1 (λy=>nomatch y) λk' a8 H6 S6 y6 c7 p G f6 i1 Q c=>?_⟩
  cases a8;let v:=d.look p G;let m6:Zz H5 H6:=λb ys e=>p b _ (ZY e d.tb.sh.sh.looks) e;let a3:=kk.mono m6 _ _;exists _,Z,_,Z,D,xs,k,Z,v.dic.dk,a3,kd;rcases v.at_ k with ⟨v0,u0,e1,k0,f0,m0,sd⟩ | ⟨e1,sd,n0⟩
  ·rw[e1];rw[sd] at c;refine⟨_,Z,Z0 ⟨_,Z,_,Z,D,xs,k,u0,Z,v.dic.dk,a3,kd,e1,YQ,λp1 n1=>?_⟩⟩;let⟨H7,eU,q,h7⟩:=XR n1 (.lst [u0]);rw[eU];exists S6,p1,y6,[u0],[v0],[v0],Z,q _ _ Q,h7,c.sm q,.cons (k0.sm q) .nil,λt ht=>by rw[yZ.mp ht];exact Ck f0,by show 1<=400;lia
   intro H8 s8;rw[eqbL_self];exact⟨_,Z,Zo (.mk (v.same (q.trans s8)) ∅)⟩
  ·rw[e1];rw[sd] at c;refine⟨_,Z,Zo ⟨YQ,λp1 n1=>?_⟩⟩;let⟨H7,eU,q,h7⟩:=XR n1 (.lst []);rw[eU];exists S6,p1,y6,[],[],[],Z,q _ _ Q,h7,c.sm q,.nil,λt ht=>(by cases ht),by show 0<=400;lia
   intro H8 s8;exact⟨_,Z,Zo (.mk (v.same (q.trans s8)) ∅)⟩
 ·rintro _ H5 ⟨d,f5⟩;rename_i x8 c6
  let⟨g,h⟩:=d.tab;refine⟨_,Z,T,g,_,Z,h,Z,.mk ⟨g,h⟩ d.tb ∅ ∅ λH6 a7 e4 c7 p G f6 e5 O c=>?_⟩
  let v:=d.look p G;refine⟨_,Z,.mk v.dic v.rf ∅ λe0 e3 a6 H7 s7 e6 Y c5 U6 a2=>?_⟩
  let M:a6=Ym X.ts r:=Lx U6 (Ll l.tb) λx=>(a2 x).trans (l.iff x).symm;exists a7,e0,e4,e3,YD (Ym X.ts r),YD a6,Z,s7 _ _ O,Y,c.sm s7,c5,Ei λx hx=>l.rf x ((a2 x).mp hx),by rw[M];unfold YD;rw[zX];lia
  intro H8 s8;rw[M,eqbL_self];exact a9 H8
theorem ZPs{G:jk}{cdv:aj}{A:ay}{outer:jw}{s:al}{Hs:Hp}{E:XK}(U:Yb mg)(LT:UH K mg CTb)(DW:ZA P w K mg kh 1 "_law_well" zE2 (VP K))(DB:ZA P w K mg kh 17 "_law_bad_put" zEk (Y9 G kc ke CTb))(DP:ZA P w K mg kh 17 "_law_put" zEh (WW G kc ke CTb w))(DS:ZD P w K mg kh (Yn P w) 12 CTb "side" zEt (YE G kc ke CTb CK))(a4:ZD P w K mg kh ZO 27 CTb "rows" zEo (XI G kc ke CTb))(DR:ZA P w K mg kh 8 "_law_rows_alike" zEb YV)(DO:ZA P w K mg kh 9 "_law_sorted" zFc (Yj w))(hr:ZS 40 (A.deeper (envOfC "law" (Za Uf) s.heap.objs.size f cdv))):
  ∃ t,X5 (Wu ZO P w K mg kh K9 "law" (Za Uf) f cdv A outer s Hs E).nox ((WJ Uf).drop 5) t/\∀(D0:YM)(H F:Hp)(z j D:ak)(B:jB)(g:Zi)(Y:ak)(r5:jr)(Q:jo)(L:List (KT×V×V))(x1 x5 x6 x7 x8:jg),
   ZK K H z (B.map V.int)->B.length<=63->(∀ c o,H c=some o->F c=some o/\YU g Y c)->H j=none->H D=none->Yf CTb F j g.S r5->Tb G kc ke F g Y [] r5->YI w F D Q L->(∀ x∈Q,x.fit)->(∀ x,x∈Ym g.ts r5 ↔ x∈Q)->YU g Y j->YU g Y D->Q.length<=40->g.ts.length<=80->(∀ C,D0.rt (.bl true) C) ->
   t D0 [some (.ref z),x1,some (.ref D),some (.ref g.S),some (.ref j),x5,x6,x7,x8] F:=by
 let nd:=Ul.nd;let c0:=hr.mono (show 1<=40 by lia)
 let I:=hr.mono (show 17<=40 by lia)
 let⟨tt,ht,hk⟩:=ZNb (kc:=kc) (ke:=ke) (P:=P) (w:=w) (K:=K) (kh:=kh) (f:=f) (cdv:=cdv) (A:=A) (outer:=outer) (s:=s) (Hs:=Hs) (E:=E) U LT DS a4 DR DO hr;refine⟨_,ZM (Zg 5 nd (UO (ZH6 rfl) rfl U.list P0 (ZU (pv 2))))
  (ZM (UE PassesOwn.never rfl (Hk rfl U.range (Zn ZL (Z6 (IK rfl) rfl U.max HM (Zn ZL (Z6 (EG rfl) rfl U.min FE (Zn (Z6 WK rfl U.len X3 (ZU (pv 0))) ZL)))))) (UC 6 nd)
   (ZM (Zg 1 nd (Ze DW c0 (Zn (pv 0) (pv 6))))
   (ZM (Z3 (PW.pt (IX (Y2 UG (Zx Pl (pv 6) ZL) ZL (YW _)) (JE (Va (XG (Ze DB I (V4 (pv 1) (pv 4) (YS K (Zx MK (pv 5) (Y3 (ZU ZL))) ZL)))))))) VX Z4)
   (ZT (Z3 (Va (XG (Ze DP I (Qr (pv 1) (pv 4) (pv 2) (pv 5))))) VX Z4))))) ht),
  λD0 H F z j D B g Y r5 Q L x1 x5 x6 x7 x8 a1 hn d c8 c7 a9 a3 dr rf c5 oT oD i7 i8 a8=>?_⟩
 let lx:=Paired.length dr.rows;exists _,Z,D,L,Z,dr.dk,by lia
 intro J m;let⟨H9,a7,W,h9⟩:=XR m (.lst (L.map (·.2.1)));rw[a7];let i6:(L.map (·.2.1)).length=Q.length:=by rw[zX];exact lx.symm
 let L0:Lw G kc ke CTb w H9 j D J g Y [] r5 Q L (L.map (·.2.1)) (L.map (·.1)):=by
  let⟨a5,e8⟩:=a9;refine⟨⟨a5,W _ _ e8⟩,a3.same W,dr.same W,h9,Fg λx hx=>((dr.dk.key x hx).1).mono (ZE.tups W),λt ht=>?_,rf,c5,oT,oD,a3.sh.new m⟩;rw[dr.keys] at ht;let⟨x,hx,rfl⟩:=zR.mp ht;exact(rf x hx).1
 obtain⟨M,eM,M3,i3⟩:∃ M:Int,(if (if (63:Int)<((B.map V.int).length:Int) then (63:Int) else ((B.map V.int).length:Int)) > 4 then (if (63:Int)<((B.map V.int).length:Int) then (63:Int) else ((B.map V.int).length:Int)) else 4)=M/\4<=M/\M<=63:=by
  exists _,Z,?_
  ·(repeat' split) <;> lia
  ·(repeat' split) <;> lia
 let c9:H J=none:=by
  cases q:H J with
  | none=>rfl
  | some o=>rw[(d _ _ q).1] at m;cases m
 let e0:=Gz (K:=K) (λb o e=>W b o (d b o e).1) a1;exists _,Z,z,B.map V.int,Z,.inl e0,_,_,Z,_,_,Z,1,M,congrArg (λz=>[V.int 1,V.int z]) eM,⟨∅,∅,∅,∅⟩
 clear eM;refine MM (lo:=1) (n:=(M-1).toNat) (ET G kc ke CTb w H z g.S j D J) (.mk L0 rfl (λc o e=>⟨W _ _ (d c o e).1,(d c o e).2⟩) ∅ ∅ ∅ (by simp)) ?_ ?_
 ·intro i σ H3 hi hP;let⟨l,eS,a,c1,c2,c3,c4⟩:=hP;rename_i y1 y6 y7 y8 X N ls r R T us ts
  exists _,Z,_,Z,z,B,_,Z,Gz (λb o e=>(a b o e).1) a1,hn,∅,by lia
  intro p H4 np s4 W4;let l4:=l.same s4;let op:=l.tb.sh.new np;let kp:J≠p:=Zd l.hk np;let a2:H p=none:=by
   cases e:H p with
   | none=>rfl
   | some o=>rw[(a _ _ e).1] at np;cases np
  let lr:=l.len;apply Ek (λC=>∃ h,ZJ C p/\Lw G kc ke CTb w C j D J X N h r R T us ts/\h.length<=ls.length+24/\∀ c o,H c=some o->C c=some o)
  ·intro rest;refine⟨_,Z,_,_,Z,Z,(by show (0:Int)<5;decide),Z,_,Z,Ve (λc=>?_) (λc=>Zo (rest H4 ⟨ls,W4,l4,∅,λc o e=>s4 _ _ (a c o e).1⟩))⟩
   exists _,Z,_,Z,_,Z,YQ;intro q1 n1;let⟨F,eU,g5,e5⟩:=XR n1 (.lst [.int 0]);rw[eU];exists J,q1,_,_,Z,Z,g5 _ _ l4.hk,e5,nn (by simp;lia)
   intro q2 n2;let⟨H6,eU,g6,e6⟩:=XR n2 (.lst (us++[.int 0]));rw[eU];let s6:=g5.trans g6;let l6:=l4.same s6;let W6:=W4.same s6;obtain⟨v0,k0,a0,c6,f0⟩:∃ v k,Xq (us++[V.int 0]) 0=some v/\ZC H6 k v/\k.fits 3=true:=by
    cases us with
    | nil=>exact⟨.int 0,.int 0,Z,by rw[ZC],by decide +kernel⟩
    | cons u i9=>
     let⟨k,ek,kk⟩:=l6.ks.get (i:=0) (v:=u) Z;exact⟨u,k,ZQu,kk,l6.kf k (zJ ek)⟩
   let⟨i4,hT⟩:=l.tab;exact .inl ⟨q2,_,0,v0,Z,Z,ZK.of e6,a0,.mk W6 l6.tab l6.tb ∅ ∅ ∅ l.oT op (Zd hT np) c6 f0 λC h fr W' e7 e=>⟨_,Z,Zo (rest C ⟨h,W',l6.lookP W6 kp fr e7,e,λc o y=>fr c o (a c o y).2.2.2.1 (Zd y a2) (s6 _ _ (s4 _ _ (a c o y).1))⟩)⟩⟩
  ·rintro F ⟨i5,W5,l5,f5,O⟩;exact⟨_,Z,_,Z,_,Z,_,Z,.mk W5 l5 op kp ∅ ∅ ∅ ∅ λC X' h r' e9 i2 i1 i0 l' a6 e1 e2 e3 e4 fr=>⟨_,Z,Zo (.mk l' (a6.trans eS) (λc o y=>fr c o (Zd y a2) (Zd y c8) (Zd y c7) (Zd y c9) (a c o y).2 (O c o y)) ∅ ∅ ∅ ∅)⟩⟩
 ·intro σ H3 hP;let⟨l,eS,a,c1,c2,c3,c4⟩:=hP;rename_i y1 y6 y7 y8 X N ls r R T us ts
  exact hk D0 H3 z g.S j D J X N ls r R T us ts _ _ _ _ l ∅ ∅ ∅ a8
theorem ZPY{gt:jk}(F:Zh K "law" "law" Uf f fd)(T0:Yb mg)(L:Yq K mg kc ke)(LT:UH K mg CTb)(DI:Vs P w K mg kh 1 kc zEo (Vh kc))(DT:NU P w K mg kh 5 CTb zEn (Yv kc ke CTb))(DW:ZA P w K mg kh 1 "_law_well" zE2 (VP K))(DG:ZA P w K mg kh 10 "_law_ground" zE1 (WP w))(DO:ZA P w K mg kh 9 "_law_sorted" zFc (Yj w))(DE:ZA P w K mg kh 11 "_law_tree" zEm (WS gt kc ke))(DB:ZA P w K mg kh 17 "_law_bad_put" zEk (Y9 gt kc ke CTb))(DP:ZA P w K mg kh 17 "_law_put" zEh (WW gt kc ke CTb w))(DS:ZD P w K mg kh (Yn P w) 12 CTb "side" zEt (YE gt kc ke CTb CK))(c0:ZD P w K mg kh ZO 27 CTb "rows" zEo (XI gt kc ke CTb))(DR:ZA P w K mg kh 8 "_law_rows_alike" zEb YV):ZI P w K mg kh ZO 41 f fd zFp (QC K):=by
 refine F.ko Ul λc2 A W s H vs Q E y h=>?_;let⟨z,ns,rfl,a3,hn,c9⟩:=h;let nd:=Ul.nd;let e6:=y.mono (show 1<=40 by lia)
 let e7:=y.mono (show 2<=40 by lia)
 let a7:=y.mono (show 6<=40 by lia)
 let e8:=y.mono (show 9<=40 by lia)
 let a5:=y.mono (show 10<=40 by lia)
 let a6:=y.mono (show 11<=40 by lia)
 let l2:=y.mono (show 17<=40 by lia)
 let⟨tt,ht,hk⟩:=ZPs (kc:=kc) (ke:=ke) (P:=P) (w:=w) (K:=K) (kh:=kh) (f:=f) (cdv:=c2) (A:=A) (outer:=W) (s:=s) (Hs:=H) (E:=E) T0 LT DW DB DP DS c0 DR DO y;intro Xc;refine⟨_,ZM (Zg 1 nd (Ze DW e6 (Zn (pv 0) ZL)))
  (ZM (Zg 2 nd (Ze DG a5 (Zn (pv 1) ZL)))
  (ZM (Zg 3 nd (Ci DI e7 rfl L.shelf))
  (ZM (Zg 4 nd (ZOY DT a7 rfl LT.tab (Zn (pv 3) (Ze DE a6 (V4 (pv 1) (pv 3) (Ze DO e8 (ZU (pv 2))))))))
  (ZM (Z3 (Y2 (Bk y.units0) (pv 2) FI (YW _)) (ZT (Zg 4 nd (EW DT a7 rfl LT.tab (ZU (pv 3))))) Z4) ht)))),?_⟩
 exists _,Z,z,ns,0,Z,a3,hn,∅,by lia
 intro p H1 np s1 W1;exists _,Z,p,41,Z,W1,∅,by lia
 intro D rs xs H2 nD dr rf ri l5 W2 s2;intro S e nS ne z1;let i3:ZE H2 (upd (upd H2 e (.own S)) S (.ins kc e [])):=λb o q=>by
  rw[ZR (Zd q nS),ZR (Zd q ne)];exact q
 refine⟨S,e,Z,ZV,λH3 d lk e2 i1 a8 l3 R3=>⟨Z,?_⟩⟩;let s3:ZE H2 H3:=λb o q=>e2 b o (Zd q nS) (i3 b o q);let RP:Z5 kc ke H3 S d lk [] (λ_=>[]) (λ_=>0) [] [] []:=⟨R3,Z,λi v=>absurd v (xH _),Z,λi v=>absurd v (xH _),λi v=>absurd v (xH _),λi _ v=>absurd v (xH _)⟩;let a9:∀ c o,H2 c=some o->YU ⟨S,d,[],λ_=>[],λ_=>0,[],[]⟩ lk c:=λc o q=>⟨Zd q nS,Zd q (i3.free i1),Zd q (i3.free a8),λi v=>absurd v (xH _)⟩;let W3:=W2.same s3;let c3:=dr.same s3;refine⟨_,Z,_,Z,_,Z,_,Z,.mk c3 rf ∅ λl l7 Y H4 s4 nl hl kl U1 B=>?_⟩
 let lp:l≠p:=(Zd (show H3 p=some _ from (Mh W3).choose_spec) nl).symm;let i7:Y.length<=40:=by
  let n1:Y.Nodup:=yA.imp (λh=>λe=>by rw[e] at h;rw[VG] at h;cases h) (tM.mp U1)
  let n2:rs.Nodup:=yA.of_map (·.1) (λa b h e=>h (by rw[e])) dr.nd
  have:=vN.length_eq ((qL n1 n2).mpr B)
  lia
 obtain⟨k,m⟩:∃ X:Zi,X=⟨S,d,[],λ_=>[],λ_=>0,[],[]⟩:=⟨_,Z⟩;let RX:Z5 kc ke H3 k.S k.d lk k.ts k.av k.ho k.as k.kvs []:=by rw[m];exact RP
 let n:∀ c o,H2 c=some o->YU k lk c:=by rw[m];exact a9
 let c5:k.S=S:=by rw[m]
 let c8:k.ts=[]:=by rw[m]
 clear m a9 RP;subst c5;let U:=(Mh W2).choose_spec;refine WS.mk (X:=k) (W3.same s4) (RX.same s4) c8 (n _ _ U) (RX.new nl) hl kl U1 (λx hx=>rf x ((B x).mp hx)) i7 lp λG J r5 W5 c6 u l6 g N l1=>?_;let⟨es,O,_⟩:=dr.dk.ex;let Dp:D≠p:=ZY O U (by unfold Qu;intro z;cases z)
 let⟨l4,i5⟩:=u D _ Dp (n _ _ O) (s4 _ _ (s3 _ _ O));let e9:Zz H2 G:=λb ys e=>(u b _ (ZY e U) (n _ _ e) (s4 _ _ (s3 _ _ e))).1;let a1:YI w G D rs xs:=dr.to e9 λo e=>(u D _ Dp (n _ _ e) (s4 _ _ (s3 _ _ e))).1;let t:∀ c o,H c=some o->G c=some o/\YU J lk c:=λc o q=>by
  let q2:=s2 _ _ (s1 _ _ q) (Zd q np);exact u c o (Zd q np) (n _ _ q2) (s4 _ _ (s3 _ _ q2))
 intro T dx nT i4 zT;let i6:ZE G (upd (upd G dx (.own T)) T (.ins CTb dx [])):=λb o q=>by
  rw[ZR (Zd q nT),ZR (Zd q i4)];exact q
 let⟨dS,a2⟩:=g.sh.sh.self;let TS:T≠J.S:=(Zd a2 nT).symm;rw[<-c6];refine Yv.mk (X:=J) (dx:=dx) ZV TS (g.sh.same i6) (λi e=>⟨(g.tp i e).1,by rw[(g.tp i e).2.2];exact zY _⟩) λH6 e3 e5=>⟨Z,?_⟩
 let i9:ZE G H6:=λb o q=>e3 b o (Zd q nT) (i6 b o q);let M:∀ I T8,Yf CTb I T8 J.S r5->ZE G I->G T8=none->tt { nx:=λ_ H'=>Q .non H',rt:=Q } [some (.ref z),some (.ref p),some (.ref D),some (.ref J.S),some (.ref T8),none,none,none,none] I:=λI T8 R a0 V=>by
  refine hk _ H I z T8 D ns J lk r5 rs xs _ _ _ _ _ a3 hn (λc o e=>⟨a0 _ _ (t c o e).1,(t c o e).2⟩) ?_ ?_ R (g.same a0) (a1.same a0) rf (λx=>by rw[N];exact B x) (g.sh.new V) i5 ∅ l1 c9
  ·cases q:H T8 with
   | none=>rfl
   | some o=>rw[(t _ _ q).1] at V;cases V
  ·cases q:H D with
   | none=>rfl
   | some o=>rw[s1 _ _ q] at nD;cases nD
 exists _,Z;intro dd i2;let⟨H7,c7,g7,h7⟩:=XR i2 (.dK []);rw[c7];let j:=i9.trans g7;let⟨c4,a4⟩:=e5;exists D,dd,xs,Z,Z,(a1.same j).dk,h7
 cases hx:xs with
 | cons x l8=>exact⟨_,Z,Zo (M H7 T ⟨c4,g7 _ _ a4⟩ j nT)⟩
 | nil=>
  let r0:r5=none:=by
   cases r5 with
   | none=>rfl
   | some i=>
    exfalso
    let e0:rs=[]:=by
     have:=Paired.length dr.rows;rw[hx] at this;exact vP this
    let e1:Y=[]:=List.eq_nil_iff_forall_not_mem.mpr λx hx=>by
     have:=(B x).mp hx;rw[e0] at this;cases this
    rw[e1] at N;exact(g.wf i _ (YN (g.tp i rfl).1)).ne N
  refine⟨_,Z,Z0 ?_⟩;exists _,Z;intro T2 d2 C i0 z2;let i8:ZE H7 (upd (upd H7 d2 (.own T2)) T2 (.ins CTb d2 [])):=λb o q=>by
   rw[ZR (Zd q C),ZR (Zd q i0)];exact q
  let c1:T2≠J.S:=(Zd (j _ _ a2) C).symm;refine Yv.mk (X:=J) (r:=none) (dx:=d2) ZV c1 ((g.sh.same j).same i8) (λi e=>nomatch e) λI e4 R=>⟨Z,?_⟩;let l0:ZE H7 I:=λb o q=>e4 b o (Zd q C) (i8 b o q);exact M I T2 (by rw[r0];exact R) (j.trans l0) (j.free C)
end
end Tw
namespace L2
open PySem PySem.Spec
def xC(K:zZ)(C:ak):Bool:=
 (yX K (.ref C) "__getattribute__" == some (some (.builtin "BaseException.__getattribute__")))&&((yX K (.ref C) "__getattr__" == some none)&&((yI K C (.type "BaseException")==some true)&&((yI K C (.type "object")==some true) &&
 ((yX K (.ref C) "__class__" == some (some (.builtin "object.__class__")))&&((PySem.W.specialIn K (.builtin "object.__class__") "__get__" == some (some (.builtin "getset_descriptor.__get__")))&&(PySem.W.takesIn K (.builtin "object.__class__")==some true))))))
def ZQh{K:zZ}{C:ak}(h:xC K C=true):Wr K C:=by
 unfold xC at h;simp only[zP,beq_iff_eq] at h;let⟨a,b,c,d,e,f,g⟩:=h;exact⟨a,b,c,d,e,f,g⟩
end L2
namespace Tw
open PySem PySem.Spec L2 PyProof.Rows
structure P1(K:zZ)(C:ak):Prop where
 ex:∃ f fd,yX K (.ref C) "__init__" = some (some (.ref f))/\wE K (.ref f)=true/\UR K "__init__" "Table.__init__" Ou f fd
def Ny{K:zZ}{C f b:ak}{m h e:ju}{p g:Array (jd)}{j kV i o a ct d:aj}{n:Nat}(v:yX K (.ref C) "__init__" = some (some (.ref f)))(l:K.lookup f=some ⟨j,m,.func (yB "__init__" "Table.__init__" (Ux Ou) (WJ Ou) (Za Ou) (.ref b) kV i o h a ct),p⟩)(r:K.lookup b=some ⟨d,e,.seq #[.none] n,g⟩)(q:wE K (.ref f)=true)(c:wN K a "Table.__init__" = true)(k:yG K (.ref f)=true):P1 K C:=
 ⟨f,_,v,q,⟨j,m,b,kV,i,o,h,a,ct,p,_,n,rfl,l,c,r,rfl⟩,k⟩
structure Zs(K:zZ)(C:ak)(m q:Str)(st:aD)(ps:jp):Prop where
 ex:∃ f fd,UY K C m f/\Zh K m q st f fd/\Zq K fd ps []
def Zs.of{P:am}{w:ax}{K:zZ}{g:jc}{a:aE}{e:VU}{C:ak}{m q:Str}{j:aD}{d:jp}{k:Nat}{i:Sp}(L:Zs K C m q j d)(h:∀ f c,Zh K m q j f c->ZI P w K g a e k f c d i):ZD P w K g a e k C m d i:=by
 let⟨f,c,M,F,b⟩:=L.ex;exact⟨f,c,M,h f c F,b⟩
def MD{K:zZ}{C f:ak}{m q:Str}{d:aD}{j:jp}{t e:ju}{u:Array (jd)}{s kV o i n ct:aj}(v:yX K (.ref C) m=some (some (.ref f)))(l:K.lookup f=some ⟨s,t,.func (yB m q (Ux d) (WJ d) (Za d) .none kV o i e n ct),u⟩)(p:wE K (.ref f)=true)(c:wN K n q=true)(k:yG K (.ref f)=true)(r:∀ (kV h i:aj) (e:ju) (g ct:aj) (a:je),a.length=j.length->bindArgs (yB m q (Ux d) (WJ d) (Za d) .none kV h i e g ct) ⟨a,[]⟩=pure (j.zip a):=by first | exact(λ_ _ _ _ _ _ a b=>match a,b with | [_],_=>rfl) | exact(λ_ _ _ _ _ _ a b=>match a,b with | [_,_],_=>rfl) | exact(λ_ _ _ _ _ _ a b=>match a,b with | [_,_,_],_=>rfl) | exact(λ_ _ _ _ _ _ a b=>match a,b with | [_,_,_,_],_=>rfl) | exact(λ_ _ _ _ _ _ a b=>match a,b with | [_,_,_,_,_],_=>rfl)):Zs K C m q d j:=
 ⟨f,_,⟨v,p,k⟩,OY (st:=d) l c k,(OY (st:=d) l c k).binds r⟩
structure Q3(K:zZ)(C:ak)(q:Str)(st:aD)(ps:jp):Prop where
 ex:∃ f fd,yX K (.ref C) "__init__" = some (some (.ref f))/\wE K (.ref f)=true/\Zh K "__init__" q st f fd/\Zq K fd ps []
def MO{K:zZ}{C f:ak}{q:Str}{d:aD}{j:jp}{s e:ju}{t:Array (jd)}{r kV n i m ct:aj}(v:yX K (.ref C) "__init__" = some (some (.ref f)))(l:K.lookup f=some ⟨r,s,.func (yB "__init__" q (Ux d) (WJ d) (Za d) .none kV n i e m ct),t⟩)(o:wE K (.ref f)=true)(c:wN K m q=true)(k:yG K (.ref f)=true)(p:∀ (kV h i:aj) (e:ju) (g ct:aj) (a:je),a.length=j.length->bindArgs (yB "__init__" q (Ux d) (WJ d) (Za d) .none kV h i e g ct) ⟨a,[]⟩=pure (j.zip a):=by first | exact(λ_ _ _ _ _ _ a b=>match a,b with | [_],_=>rfl) | exact(λ_ _ _ _ _ _ a b=>match a,b with | [_,_],_=>rfl) | exact(λ_ _ _ _ _ _ a b=>match a,b with | [_,_,_],_=>rfl) | exact(λ_ _ _ _ _ _ a b=>match a,b with | [_,_,_,_],_=>rfl) | exact(λ_ _ _ _ _ _ a b=>match a,b with | [_,_,_,_,_],_=>rfl)):Q3 K C q d j:=
 ⟨f,_,v,o,OY (st:=d) l c k,(OY (st:=d) l c k).binds p⟩
def Kr{l:rX}{w:ax}{K:zZ}{h:aE}{mg:jc}{fa f53 CB CK CL CN kc ke CTb:ak}(X:K.In h)(G:h.Ns aq mg)(hfa:mg "law" = some (.ref fa)){od53 an53:ju}{sl53:Array (jd)}{oc53 kV53 dc53 pm53 cd53 ct53:aj}{t1 t2 t3 t4 t5 t6 t7 t8 t9 t10 t11:Tok}(L1:ZX K mg "is_key" HJ zEq)(L2:ZX K mg "checked" KD zEq)(L3:ZX K mg "fits" LB zFa)(L4:ZX K mg "has_few_figures" IY zFm)(L5:ZX K mg "is_sign" Kh ["sign"])(L6:ZX K mg "ahead" Iw zE7)(L7:ZX K mg "place_in" IZ zFo)(L8:ZX K mg "standing" Le zFl)(L9:ZX K mg "checked_rows" J9 zEx)(L10:ZX K mg "own_rows" Kx zEx)(L11:ZX K mg "rise" Jp ["keys"])(L12:ZX K mg "label_of_rows" Kf zEx)(L13:ZX K mg "label_over" Jg zFn)(L14:ZX K mg "stand_side_by_side" ID zFb)(L15:ZX K mg "value_of" Jk zEf)(L16:ZX K mg "rows_of" JA zEd)(L17:ZX K mg "steps_to" HD zEf)(L18:ZX K mg "check_asked" Jq zEf)(L19:ZX K mg "place_within" Jm zFf)(L20:ZX K mg "branch_at" JR zFk)(L21:ZX K mg "is_leaf" JY zFi)(L22:ZX K mg "reached" Lu zEd)(L23:ZX K mg "check_root" K2 zEd)(L24:ZX K mg "own_way" Hg zFj)(L25:ZX K mg "own" IO zFd)(L26:ZX K mg "rows_under" JW zEd)(L27:ZX K mg "put_in" Ji zE0)(L28:ZX K mg "rows_with" IU zFg)(L29:ZX K mg "give_rows" JV zE6)(L30:ZX K mg "add_branch" Jb zEz)(L31:ZX K mg "add_up" Ia zEs)(L32:ZX K mg "root_with" Ks zE3)(L33:ZX K mg "is_stem" HG ["twig"])(L34:ZX K mg "_law_well" IF zE2)(L35:ZX K mg "_law_pull" Kc zEc)(L36:ZX K mg "_law_great" Iz zEp)(L37:ZX K mg "_law_text" Ka zEl)(L38:ZX K mg "_law_key" Ly zEg)(L39:ZX K mg "_law_rank" Li zEu)(L40:ZX K mg "_law_sorted" JP zFc)(L41:ZX K mg "_law_keys" IH zEc)(L42:ZX K mg "_law_tree" NL zEm)(L43:ZX K mg "_law_alike" M6 zEb)(L44:ZX K mg "_law_rows_alike" IG zEb)(L45:ZX K mg "_law_value" Kd zEl)(L46:ZX K mg "_law_any_key" KY zEv)(L47:ZX K mg "_law_ground" HI zE1)(L48:ZX K mg "_law_refused" HK zEj)(L49:ZX K mg "_law_no_side" Kp zEr)(L50:ZX K mg "_law_bad_put" NI zEk)(L51:ZX K mg "_law_whole" Jf zEb)(L52:ZX K mg "_law_put" Nn zEh)(a53:zF K aq "law" = some (some (.ref f53)))(l53:K.lookup f53=some ⟨oc53,od53,.func (yB "law" "law" (Ux Uf) (WJ Uf) (Za Uf) .none kV53 dc53 pm53 an53 cd53 ct53),sl53⟩)(c53:wN K cd53 "law" = true)(k53:yG K (.ref f53)=true)(z1:zF K aq "isinstance" = some none)(z2:zF K aq "bool" = some none)(z3:zF K aq "int" = some none)(z4:zF K aq "str" = some none)(z5:zF K aq "tuple" = some none)(z6:zF K aq "list" = some none)(z7:zF K aq "len" = some none)(z8:zF K aq "all" = some none)(z9:zF K aq "abs" = some none)(z10:zF K aq "max" = some none)(z11:zF K aq "min" = some none)(z12:zF K aq "range" = some none)(z13:zF K aq "sorted" = some none)(z14:zF K aq "ValueError" = some none)(z15:zF K aq "sum" = some none)(m1_:zF K aq "MOST_SIGNS" = some (some (.int 40 t1)))(m2_:zF K aq "MOST_THINGS" = some (some (.int 4 t2)))(m3_:zF K aq "MOST_DEEP" = some (some (.int 3 t3)))(m4_:zF K aq "MOST_ROWS" = some (some (.int 4 t4)))(m5_:zF K aq "FEWEST_BRANCHES" = some (some (.int 2 t5)))(m6_:zF K aq "MOST_BRANCHES" = some (some (.int 4 t6)))(m7_:zF K aq "HEIGHT" = some (some (.int 0 t7)))(m8_:zF K aq "LEAST" = some (some (.int 1 t8)))(m9_:zF K aq "GREATEST" = some (some (.int 2 t9)))(m10_:zF K aq "MANY" = some (some (.int 3 t10)))(m11_:zF K aq "KEPT" = some (some (.int 3 t11)))(IjS:Q3 K kc "Shelf.__init__" IW zEo)(IjT:Q3 K ke "Twig.__init__" IE zE4)(IjB:P1 K CTb)(Mm1:Zs K kc "put_leaf" "Shelf.put_leaf" Js zE8)(Mm2:Zs K kc "put_stem" "Shelf.put_stem" HR zEe)(Mm3:Zs K kc "put_twig" "Shelf.put_twig" JZ zEy)(Mm4:Zs K kc "holders" "Shelf.holders" IJ zEa)(Mm5:Zs K kc "outside" "Shelf.outside" J7 zEa)(Mm7:Zs K kc "look" "Shelf.look" K3 zEa)(Mm8:Zs K kc "label" "Shelf.label" IM zEa)(Mm12:Zs K kc "twig_of" "Shelf.twig_of" JB zEa)(Mm13:Zs K kc "labels_of" "Shelf.labels_of" Kv zEe)(Mm14:Zs K kc "check_held" "Shelf.check_held" Je zEe)(Mm15:Zs K kc "take_over" "Shelf.take_over" Jz zEi)(Mm18:Zs K kc "road_up" "Shelf.road_up" Jw zEa)(Mm19:Zs K kc "alone" "Shelf.alone" Jj zEa)(Mm20:Zs K kc "change_leaf" "Shelf.change_leaf" IB zFe)(Mm21:Zs K kc "change_stem" "Shelf.change_stem" Kz zE9)(Mm22:Zs K kc "labels_up" "Shelf.labels_up" JX zE5)(Mm23:Zs K kc "give_labels" "Shelf.give_labels" Jl zFh)(Mm24:Zs K kc "give_back" "Shelf.give_back" Ie zEi)(Mt1:Zs K CTb "put" "Table.put" Jo zEw)(Mt2:Zs K CTb "side" "Table.side" Hj zEt)(Mt3:Zs K CTb "rows" "Table.rows" K1 zEo)(Mt4:Zs K CTb "count" "Table.count" HU zEo)(xCB:zF K aq "TwigError" = some (some (.ref CB)))(xCK:zF K aq "NoKey" = some (some (.ref CK)))(xCL:zF K aq "NoLeaf" = some (some (.ref CL)))(xCN:zF K aq "NoText" = some (some (.ref CN)))(xCSh:zF K aq "Shelf" = some (some (.ref kc)))(xCTw:zF K aq "Twig" = some (some (.ref ke)))(xCTb:zF K aq "Table" = some (some (.ref CTb)))(mkCSh:uO K kc=true)(kpCSh:yG K (.ref kc)=true)(pgCSh:vT K kc Str.empty=true)(hdCSh:uW K kc=true)(poCSh:uK K kc=true)(saCSh:yX K (.ref kc) "__setattr__" = some (some (.builtin "object.__setattr__")))(mkCTw:uO K ke=true)(kpCTw:yG K (.ref ke)=true)(pgCTw:vT K ke Str.empty=true)(hdCTw:uW K ke=true)(poCTw:uK K ke=true)(saCTw:yX K (.ref ke) "__setattr__" = some (some (.builtin "object.__setattr__")))(mkCTb:uO K CTb=true)(kpCTb:yG K (.ref CTb)=true)(pgCTb:vT K CTb Str.empty=true)(hdCTb:uW K CTb=true)(poCTb:uK K CTb=true)(saCTb:yX K (.ref CTb) "__setattr__" = some (some (.builtin "object.__setattr__")))(na_kept:yX K (.ref kc) "kept" = some none)(na_following:yX K (.ref kc) "following" = some none)(na_looks:yX K (.ref kc) "looks" = some none)(na_things:yX K (.ref ke) "things" = some none)(na_tag:yX K (.ref ke) "tag" = some none)(na_above:yX K (.ref ke) "above" = some none)(na_holds:yX K (.ref ke) "holds" = some none)(na_shelf:yX K (.ref CTb) "shelf" = some none)(na_root:yX K (.ref CTb) "root" = some none)(tyCB:xB K (.ref CB)=some (.type "type"))(mBCB:yI K CB (.type "BaseException")=some true)(sbKB:yI K CK (.ref CB)=some true)(xcCK:xC K CK=true)(exCK:JL K CK=true)(kpCK:yG K (.ref CK)=true)(mBCK:yI K CK (.type "BaseException")=some true)(tyCK:xB K (.ref CK)=some (.type "type"))(slCK:yI K CK (.ref CK)=some true)(kkCK:yS K (.ref CK) (.ref CK)=some true)(kvCK:yS K (.ref CK) (.type "ValueError")=some true)(knCK:sG K (.ref CK) [.ref CL,.ref CN]=some false):
  ∃ o:ao,(∀(s:al)(v:aj),BindsTo s o ⟨[v],[]⟩ [("_law_script",v)])/\∀ a:aE,K.In a->a.Ns aq mg->ZI l.prog w K mg a ZO 41 fa o zFp (QC K):=by
 let e:=hfa.symm.trans (yM X G a53);cases e;let T:Yb mg:=⟨xV X G z1,xV X G z2,xV X G z3,xV X G z4,xV X G z5,xV X G z6,xV X G z7,xV X G z8,xV X G z9,xV X G z10,xV X G z11,xV X G z12,xV X G z13,xV X G z14,xV X G z15,⟨_,yM X G m1_⟩,⟨_,yM X G m2_⟩,⟨_,yM X G m3_⟩,⟨_,yM X G m4_⟩,⟨_,yM X G m5_⟩,⟨_,yM X G m6_⟩,⟨_,yM X G m7_⟩,⟨_,yM X G m8_⟩,⟨_,yM X G m9_⟩,⟨_,yM X G m10_⟩,⟨_,yM X G m11_⟩⟩;exists yB "law" "law" (Ux Uf) (WJ Uf) (Za Uf) .none kV53 dc53 pm53 an53 cd53 ct53,λs v=>.of_eq Z;intro a kb _;let c:Yq K mg kc ke:=⟨(yM X G xCSh),(yM X G xCTw),⟨pgCSh,hdCSh,poCSh,saCSh⟩,⟨pgCTw,hdCTw,poCTw,saCTw⟩,na_kept,na_following,na_looks,na_things,na_tag,na_above,na_holds⟩;let g:UH K mg CTb:=⟨(yM X G xCTb),⟨pgCTb,hdCTb,poCTb,saCTb⟩,na_shelf,na_root⟩;let l5:Cm K mg CK:=⟨(yM X G xCK),exCK,kpCK,mBCK,tyCK⟩;let l6:Ed K mg CK:=⟨(yM X G xCK),tyCK,mBCK,slCK⟩;let a2:Ga K mg CB CK CL CN:=⟨(yM X G xCB),(yM X G xCK),(yM X G xCL),(yM X G xCN),tyCB,mBCB,sbKB,ZQh xcCK,kkCK,kvCK,knCK⟩;let N:Vs l.prog w K mg a 1 kc zEo (Vh kc):=by let⟨f,o,v,fn,F,b⟩:=IjS.ex;exact⟨f,o,⟨mkCSh,v,fn,kpCSh⟩,BB F c,b⟩
 let c2:Vs l.prog w K mg a 1 ke zE4 (Q8 ke):=by let⟨f,o,v,fn,F,b⟩:=IjT.ex;exact⟨f,o,⟨mkCTw,v,fn,kpCTw⟩,ZPW F c,b⟩
 let d:ZD l.prog w K mg a ZO 1 kc "twig_of" zEa (Zm kc):=Mm12.of λ_ _ F=>ZKF F c;let l1:ZD l.prog w K mg a ZO 2 kc "outside" zEa (Wa kc ke λ_ ho _=>.int ho):=Mm5.of λ_ _ F=>C4 F c d;let u:ZD l.prog w K mg a ZO 2 kc "label" zEa (Wa kc ke λtg _ _=>tg):=Mm8.of λ_ _ F=>ZLe F c d;let i9:ZD l.prog w K mg a ZO 2 kc "holders" zEa (Wa kc ke λ_ ho us=>.int ((us.length:Nat)+(ho:Nat):Int)):=Mm4.of λ_ _ F=>ZHy F T c d;let p:ZA l.prog w K mg a 1 "is_stem" ["twig"] (WR ke):=L33.of λ_ _ F=>ZOF F T c;let l0:ZD l.prog w K mg a ZO 2 kc "look" zEa (UU kc ke):=Mm7.of λ_ _ F=>AH F T c d p;let j:=Ak l0;let r:=ZLl u;let z:ZD l.prog w K mg a (Yn l.prog w) 3 kc "road_up" zEa (Yk kc ke):=Mm18.of λ_ _ F=>ZIe F c i9 d;let i5:ZD l.prog w K mg a ZO 4 kc "alone" zEa (Xh kc ke):=Mm19.of λ_ _ F=>ZLH F c z;let V:ZD l.prog w K mg a ZO 3 kc "put_twig" zEy (XH kc ke):=Mm3.of λ_ _ F=>ZH7 F c c2;let Y:ZD l.prog w K mg a ZO 2 kc "take_over" zEi (Yr kc ke):=Mm15.of λ_ _ F=>BM F c d;let U:ZD l.prog w K mg a ZO 3 kc "labels_of" zEe (Ye kc ke):=Mm13.of λ_ _ F=>ZFV F c u;let t:ZD l.prog w K mg a ZO 3 kc "check_held" zEe (Z8 kc ke):=Mm14.of λ_ _ F=>ZEX F c l1;let m:ZA l.prog w K mg a 1 "_law_pull" zEc (Zy):=L35.of λ_ _ F=>ZN9 F;let DW:ZA l.prog w K mg a 1 "_law_well" zE2 (VP K):=L34.of λ_ _ F=>B7 F T;let DG:ZA l.prog w K mg a 2 "_law_great" zEp (Zy):=L36.of λ_ _ F=>ZLX F T m;let DT:ZA l.prog w K mg a 2 "_law_text" zEl (WX):=L37.of λ_ _ F=>ZMg F T m;let DN:ZA l.prog w K mg a 1 "has_few_figures" zFm (Us):=L4.of λ_ _ F=>ZOq F T;let e7:ZA l.prog w K mg a 1 "is_sign" ["sign"] (VI):=L5.of λ_ _ F=>ZNy F;let J:ZA l.prog w K mg a 6 "is_key" zEq (Xg):=L1.of λ_ _ F=>ZKw F T (Dg T L3 DN e7 4);let a9:=ZLQ J;let DC:ZA l.prog w K mg a 7 "checked" zEq (Uk):=L2.of λ_ _ F=>BV F a9;let i1:ZA l.prog w K mg a 6 "standing" zFl (Uc 5):=E6 T L8 5;let k:ZA l.prog w K mg a 7 "ahead" zE7 (XJ):=L6.of λ_ _ F=>ZLm F i1;let e2:ZA l.prog w K mg a 8 "rise" ["keys"] (VJ):=L11.of λ_ _ F=>ZNl F T k;let c5:ZA l.prog w K mg a 8 "own_rows" zEx (Xy):=L10.of λ_ _ F=>ZH0 F DC;let I:ZA l.prog w K mg a 9 "checked_rows" zEx (XY):=L9.of λ_ _ F=>ZKB F T c5 e2;let L:ZA l.prog w K mg a 1 "label_of_rows" zEx (XD):=L12.of λ_ _ F=>ZIB F T;let l2:ZD l.prog w K mg a ZO 10 kc "put_leaf" zE8 (XW kc ke):=Mm1.of λ_ _ F=>ZF0 F c I L V;let x:=ZIK l2;let e8:ZA l.prog w K mg a 8 "stand_side_by_side" zFb (UW):=L14.of λ_ _ F=>ZND F T k;let q:ZA l.prog w K mg a 9 "label_over" zFn (Xf):=L13.of λ_ _ F=>ZLJ F T e8;let y:ZD l.prog w K mg a ZO 10 kc "put_stem" zEe (YC [] kc ke):=Mm2.of λ_ _ F=>ZF7 F T c U q t V Y;let c7:ZA l.prog w K mg a 8 "place_in" zFo (VS K):=L7.of λ_ _ F=>ZLO F T k;let i:ZA l.prog w K mg a 1 "is_leaf" zFi (YZ):=L21.of λ_ _ F=>AQ F;let B:ZA l.prog w K mg a 2 "branch_at" zFk (XX):=L20.of λ_ _ F=>ZF8 F i;let O:ZA l.prog w K mg a 9 "place_within" zFf (Wc [] kc ke):=L19.of λ_ _ F=>ZJW F T c i c7 k r;let D:WU l.prog w K mg a 7 "checked" zEq (Ya CK):=L2.ofD λ_ _ F=>Bj F kb l5 J;let C:WU l.prog w K mg a 8 "check_asked" zEf (YR kc ke CK):=L18.ofD λ_ _ F=>ZEU F c r D;let i0:WU l.prog w K mg a 10 "steps_to" zEf (XL [] kc ke CK):=L17.ofD λ_ _ F=>Fm F c C j O B;let e6:ZA l.prog w K mg a 10 "steps_to" zEf (λvs H Q _=>XL [] kc ke CK vs H Q E0):=L17.of λ_ _ F=>ZQQ (Fm F c C j O B) (λ_ _ _ _ h=>h);let i3:WU l.prog w K mg a 11 "value_of" zEf (XM [] kc ke CK):=L15.ofD λ_ _ F=>ZH3 F i0;let c9:ZA l.prog w K mg a 25 "reached" zEd (YF [] 20 kc ke):=L22.of λ_ _ F=>(Do F c j i (GY L22 c j i 20)).mono (by decide)
 let e3:ZA l.prog w K mg a 26 "rows_of" zEd (Xm [] kc ke):=L16.of λ_ _ F=>ZIl F i c9;let e4:ZA l.prog w K mg a 3 "rows_under" zEd (Yd [] kc ke):=L26.of λ_ _ F=>ZFX F T c r;let a0:ZD l.prog w K mg a ZO 10 kc "labels_up" zE5 (Xl kc ke):=Mm22.of λ_ _ F=>ZLg F c d u q;let S:ZD l.prog w K mg a ZO 2 kc "give_labels" zFh (Xw kc ke):=Mm23.of λ_ _ F=>AG F c d;let i8:ZD l.prog w K mg a ZO 2 kc "give_back" zEi (Yu kc ke):=Mm24.of λ_ _ F=>ZGO F c d;let i6:ZD l.prog w K mg a ZO 11 kc "change_leaf" zFe (Xe [] kc ke):=Mm20.of λ_ _ F=>ZKg F c d p z I a0 L S;let i7:ZD l.prog w K mg a ZO 11 kc "change_stem" zE9 (Xk [] kc ke):=Mm21.of λ_ _ F=>ZKR F T c d p z U q a0 t S Y i8;let E:ZA l.prog w K mg a 4 "check_root" zEd (YJ kc ke):=L23.of λ_ _ F=>ZE4 F c t;let c4:ZA l.prog w K mg a 5 "own" zFd (U4 kc ke):=L25.of λ_ _ F=>ZOL F c i5;let c6:ZA l.prog w K mg a 6 "own_way" zFj (Xj kc ke):=L24.of λ_ _ F=>ZJ1 F c4;let e5:ZA l.prog w K mg a 1 "rows_with" zFg (Yp):=L28.of λ_ _ F=>ZGA F;let a8:ZA l.prog w K mg a 12 "give_rows" zE6 (Yw [] kc ke):=L29.of λ_ _ F=>ZGa F T c i6 x;let a3:ZA l.prog w K mg a 12 "add_branch" zEz (Yc [] kc ke):=L30.of λ_ _ F=>ZE0 F T c j i7 y;let a5:ZA l.prog w K mg a 13 "add_up" zEs (WG [] kc ke):=L31.of λ_ _ F=>ZK3 F T a3;let e1:ZA l.prog w K mg a 11 "root_with" zE3 (Yt [] kc ke):=L32.of λ_ _ F=>ZGl F c y;let c8:ZA l.prog w K mg a 14 "put_in" zE0 (WI [] kc ke):=L27.of λ_ _ F=>ZLs F T c E DC x e6 c6 e5 a8 a5 e1;let M:NU l.prog w K mg a 5 CTb zEn (Yv kc ke CTb):=by let⟨f,o,v,fn,F⟩:=IjB.ex;exact⟨f,o,⟨mkCTb,v,fn,kpCTb⟩,ZNp F g E,F.binds.1,F.binds.2⟩
 let n:ZD l.prog w K mg a (Yn l.prog w) 12 CTb "side" zEt (YE [] kc ke CTb CK):=Mt2.of λ_ _ F=>ZLk F g i3;let l3:ZD l.prog w K mg a ZO 4 CTb "count" zEo (Y6 [] kc ke CTb):=Mt4.of λ_ _ F=>ZJj F g e4;let l4:ZD l.prog w K mg a ZO 27 CTb "rows" zEo (XI [] kc ke CTb):=Mt3.of λ_ _ F=>ZLV F g e3;let a1:ZD l.prog w K mg a (Yn l.prog w) 15 CTb "put" zEw (Xx [] kc ke CTb CK):=Mt1.of λ_ _ F=>B0 F g n D c8;let DK:ZA l.prog w K mg a 6 "_law_key" zEg (XT 4):=Cf T L38 m DG DT 4;let P:ZA l.prog w K mg a 6 "_law_rank" zEu (Xt 5):=Fa T L39 5;let e9:ZA l.prog w K mg a 9 "_law_sorted" zFc (Yj w):=L40.of λ_ _ F=>ZIr F T P;let c0:ZA l.prog w K mg a 9 "_law_keys" zEc (Ud):=L41.of λ_ _ F=>ZNj F T DK P;let i2:ZA l.prog w K mg a 11 "_law_tree" zEm (WS [] kc ke):=L42.of λ_ _ F=>ZNu F T c m x y;let DV:ZA l.prog w K mg a 7 "_law_value" zEl (WD):=L45.of λ_ _ F=>BX F m DK;let a4:ZA l.prog w K mg a 7 "_law_any_key" zEv (Wd):=L46.of λ_ _ F=>ZKO F T m DK;let a7:ZA l.prog w K mg a 10 "_law_ground" zE1 (WP w):=L47.of λ_ _ F=>ZJ7 F m c0 DV;let A:ZA l.prog w K mg a 7 "_law_alike" zEb (YY 6):=Dh T L43 6;let R:ZA l.prog w K mg a 8 "_law_rows_alike" zEb (YV):=L44.of λ_ _ F=>Cz F T A;let e0:ZA l.prog w K mg a 16 "_law_refused" zEj (Yl [] kc ke CTb):=L48.of λ_ _ F=>ZIT F T g a2 a1;let c3:ZA l.prog w K mg a 13 "_law_no_side" zEr (XA [] kc ke CTb):=L49.of λ_ _ F=>ZIy F g l6 n;let a6:ZA l.prog w K mg a 17 "_law_bad_put" zEk (Y9 [] kc ke CTb):=L50.of λ_ _ F=>ZJe F c g m c3 e0 N M;let i4:ZA l.prog w K mg a 1 "_law_whole" zEb (WE):=L51.of λ_ _ F=>Ai F T;let c1:ZA l.prog w K mg a 17 "_law_put" zEh (WW [] kc ke CTb w):=L52.of λ_ _ F=>ZNG F T g m a4 DV A a1 n l3 R i4;exact ZPY (OY (st:=Uf) l53 c53 k53) T c g N M DW a7 e9 i2 a6 c1 n l4 R
def walk{l:rX}{q:am}{c:jp}{o:(jc)->aE->Prop}{i:ax->aE->Prop}{d:DefRec}{K:Params->zZ}(v:l.most=some 63)(g:d.params.defaults=[])(r:∀ (w:ax) (h:aE),i w h->(K w.params).In h)(F:∀ (w:ax) (e:jc) (j:ak) (h:aE),(K w.params).In h->h.Ns aq e->e d.name=some (.ref j) ->
   ∃ m:ao,(∀ (s:al) (u:aj),BindsTo s m ⟨[u],[]⟩ [("_law_script",u)])/\∀ b:aE,(K w.params).In b->b.Ns aq e->ZI l.prog w (K w.params) e b ZO 41 j m zFp (QC (K w.params))):
  PySem.W.WalkO q c o i l.row.toRowW d [] (λf A=>PySem.call f A):=
 L2.Mz (n:=63) (k:=41) (x:= "_law_script") (CX:=λ_=>ZO) (sp:=λw=>QC (K w.params)) v (by decide) g ⟨rfl,by decide,by decide⟩ r F (λ_ _ a y t _ p=>⟨a,y,Z,p,t,λ_=>rfl⟩) λ_ _ _ _ _ z=>z
end Tw
open PySem PySem.W PyProof.Rows
namespace PySem.W.Fast
local macro_rules|`(universe $x*)=>return .node .none `null (←x.mapM λi=>`(def $i:ident:=0))
universe tw10003298069259346570 tw1000548405666275211 tw10055714155479767363 tw10116903340107819371 tw10119387454709930910 tw10135153139053303949 tw10141373022882670462 tw10180863710714677950 tw10187397666122775430 tw10190428434199999215 tw10237778246374387472 tw10248061834202819773 tw10268025647151423439 tw10270899315648774028 tw10305511306151393974 tw10360273524003011311 tw1037532270510596316 tw10377326739381152430 tw10399463227527594673 tw10421642060467269020 tw10446962521858019104 tw10488768309838839517 tw10495256627894874552 tw10504709630271532871 tw10505696314715118791 tw10535532036427284360 tw10568794643009582482 tw10573539924924807181 tw10593430386277466510 tw10599540149933732555 tw10672949449261512568 tw1067722994490048138 tw10683742441189242399 tw1069214948687658842 tw10763234976477231500 tw10807147012227554218 tw10824695575360987653 tw10840496907312417669 tw10867686847424669652 tw10891678828933269271 tw10906684520477383934 tw109629481300328780 tw10967724384680042136 tw10971199541052662862 tw10973777935841417658 tw10981089439049028630 tw1098148600575029282 tw1098450486586452335 tw1099972706780624410 tw11015068336608100058 tw11021868515631876013 tw11037274698512111235 tw11038972297817013608 tw11080559434969360200 tw110945146314578357 tw11122674090744922707 tw11142365656470705643 tw11159125651458337165 tw11186321652301793504 tw11209579135741456978 tw1121253255415518777 tw1122141726413174032 tw11225132576869463375 tw11228936703098335474 tw1125335888411578713 tw11294922136391587361 tw11315256395101257983 tw11318152930889801817 tw11370694962062355186 tw11376519428100905808 tw11376541489014751944 tw11380425328097982766 tw1138801939461519559 tw11394716207783605316 tw1140641368205646192 tw11426533266273187768 tw11444406997796517007 tw11484568617581452293 tw11504938967520398648 tw11514792428144320021 tw11549406985348695686 tw11601450949053249319 tw11612138731439508151 tw11658194567328371346 tw11667986560614141558 tw11688424231786025972 tw11736017423898195930 tw11758294946017121902 tw11780172721570098180 tw11803112237868275664 tw11803725991639424920 tw11860932499920009190 tw11891335127276890162 tw11897783701178490443 tw11899466140179003892 tw11900604249885716028 tw11924064338745452313 tw11925822872354309711 tw11934901751600204272 tw1194198855965844845 tw11947993734549118795 tw11964093966207123924 tw11990744340014371044 tw1199151751131348821 tw11994494160464859786 tw12001263461053006028 tw12046500985328496441 tw12096107606783303132 tw12135849536296510500 tw1215513173155584387 tw12170222275049438913 tw1217557847503684480 tw12212629155541968294 tw12234135833543080536 tw12269247855882986619 tw12290326254330073836 tw12291079939296842874 tw12300014686794951425 tw1231205630615052480 tw12330710174882194249 tw12334340927692538286 tw12340842780423919706 tw12371107924726050977 tw12372276586025194495 tw12392679196744556479 tw12393174305476014810 tw12396582314109019577 tw12469149423153577126 tw12484256320160265066 tw12497642254054037661 tw12524030401641258980 tw12531115388495867336 tw12548599433664662117 tw12590548610432262654 tw12617967624872202583 tw12717569333855120703 tw12718583730856870717 tw1274175532891034980 tw12791916002315738436 tw12809460761392796626 tw12870906042866683487 tw12880977430959947807 tw1289125932578930698 tw1289956294076622134 tw1294237658495918421 tw12969333182175354090 tw1300012458620760859 tw13011627294528670935 tw13029888684573380541 tw13045940908622328333 tw13085318606316155306 tw13099734976948189652 tw13102451667685515163 tw13131198429995838207 tw1315378506967359835 tw13160834490116230841 tw13183710713729082092 tw1319411789609258408 tw13222579840107648156 tw13222996020840892359 tw13251634009696820831 tw13280609509049022727 tw13291354566232850216 tw13309389791463612497 tw13320242693745831477 tw13347314157940529304 tw13348167156457936258 tw13369167138346848300 tw13372644507895308610 tw13437520358649967062 tw13453631033684673826 tw13460521402511885607 tw13498161424974832398 tw13499884044898939371 tw13500675325427133026 tw13503163497455928730 tw13505649313490970580 tw13530396344019175327 tw13544430217988278068 tw13545330596325519726 tw13557666931592583783 tw13566570750805443918 tw13575873661745937088 tw13642437874154189073 tw13676692923310069340 tw13695132153503896199 tw13764500166116539500 tw13785558066431612863 tw13790443921685759518 tw13806865540893586039 tw1380845954481773287 tw13872713230141404495 tw13877502013988368442 tw13894402849189463467 tw13898468699550667749 tw13931996122878946810 tw13953045451730692408 tw13978262094651761623 tw13988269735244498626 tw14009584022507655865 tw140362730022558801 tw14054173341281778465 tw14064354006873652021 tw14081004673394623942 tw14084476357963393465 tw14112106304119358289 tw14131168004673193496 tw14163689628768180256 tw14178033654364765826 tw14182081591001737616 tw14185254594710062071 tw14186073639678130985 tw14243210865278726026 tw14255345959912768173 tw1426542247862076978 tw1429301603371109291 tw14331391480951519077 tw14347776987256432900 tw14348192293847071524 tw14349648433467117604 tw14352673504744076819 tw14384121688558040100 tw14387546085005773256 tw14404236840738750293 tw14434820726498983478 tw1445740906420089618 tw14468718451215063101 tw14475301644211075383 tw1448664146542488125 tw14496139880757835051 tw14535376500015048333 tw14546255197332672804 tw14551150261416255958 tw14554997921510837064 tw14561836994448743967 tw1456459486880409674 tw14569824731673860844 tw14604031954889043265 tw14607737323318390762 tw14612579122109133228 tw14615871911955531426 tw14626114981142445014 tw14664812665350286367 tw14682833422279990271 tw14695686847903203099 tw14704438220909638269 tw14722974154040470039 tw14723121951385083567 tw14752527006915858037 tw14775776881013296319 tw14776982772138449442 tw14792446314142866805 tw14802423891807210543 tw14818529236160773090 tw14818646726031388714 tw14823990523887098698 tw14855822698809519593 tw14967269869399384076 tw14986422469834074100 tw14998809421835943256 tw15007066900718241798 tw15022313939948945421 tw15034839010392219630 tw15037368096884026038 tw15077733574047812559 tw15082808793496575128 tw1511450288204746978 tw15125952182136386213 tw151881738803862409 tw15201326435884521831 tw15270846866553216460 tw15273325003065453871 tw15273756993745804298 tw15303128108371977773 tw15320581315150553817 tw15321659983152622186 tw15330356058195654592 tw15337441263095910424 tw15349991270233618427 tw1535216083130558126 tw15358779291549798212 tw1537386261135224369 tw15392923779589073789 tw1543496898054624940 tw15476375392931571391 tw1547878092380969107 tw15491526347239133087 tw15509546109371810529 tw15539655215578159944 tw15547060896889579706 tw15555431749907924164 tw15607377372508294705 tw15608497074061891163 tw15649168867750586220 tw15683821647324693092 tw15690176263210822530 tw15708828633584541855 tw1571973134304684638 tw15740662567092431278 tw15751893431545167681 tw15753679921706887758 tw15771732352243550790 tw15772235557897857118 tw15781615169298564992 tw15822033105584845087 tw15858076093577052996 tw15866236405758273837 tw15888556044486975012 tw1589058692853986701 tw15907266901110005782 tw15916621922640685619 tw159307447430365129 tw15951904214709902823 tw15959306646441168044 tw15977328968674980342 tw15979760140465694026 tw15981002432203123754 tw15982329177858930273 tw15983440845155135400 tw16009731230099658761 tw16031716642127300805 tw16056412810449597265 tw16069568643549874935 tw16099538025797850925 tw16103781647926613889 tw16118814003693261339 tw16121374627571051611 tw16160512427487090070 tw16170747290967240789 tw16236812004196909547 tw16244752810187105326 tw16257799636519589809 tw16261771116792067572 tw16293737951657157017 tw16297032330004537505 tw16302179194760701450 tw16306361046039603285 tw16345150154111690087 tw16368343254783362514 tw16511558846816918511 tw16528532177085026455 tw16541342442466675163 tw16558519108683073152 tw16605536336854037917 tw16629687348022745783 tw16651887622984018133 tw16652302189378004767 tw16675994747052023476 tw16693815168780724589 tw16694557288748388849 tw16756302170759364788 tw16757097151052975765 tw16766950682472720190 tw16784842980115451403 tw16799356885641168061 tw1681448805621102677 tw16823512917517709086 tw16826590863649615000 tw16827213600216002247 tw16828933968285933477 tw16840291276399799390 tw16886539200120320182 tw16897536502575592261 tw16898823789638543674 tw16899425588058822223 tw16914357738286084176 tw16916117502949928644 tw16932596099759363577 tw16978504729597412275 tw17004408517458927762 tw17064809457732306986 tw17069174093281663372 tw17073475692496855396 tw17111502657269801132 tw17114140658797379011 tw17122847231851294631 tw1713280089717237044 tw17157733346952926282 tw17171290806561228211 tw17242705286114108456 tw17270890383754042585 tw1728044639708912718 tw17374223549998604298 tw1743189063822478964 tw17475270591230808478 tw17487227301818037633 tw17490121738610825845 tw17512628798682959654 tw17528059353470172240 tw1754581839753753814 tw17552839904477190685 tw17594321508177458100 tw17606115105271535819 tw17620858757262098473 tw17641179317532707894 tw17641910793921085699 tw17654267052304489447 tw1772595919314670636 tw17727487042688686799 tw17736040413881260041 tw17844783963871207689 tw17868198528767643328 tw17894756340457463656 tw17935551792523712391 tw17948056044645153694 tw17962170376286279061 tw17995580150429844921 tw17999547673305654886 tw18014134098018522334 tw18036130483827140463 tw18080623738639421918 tw18090827014885067033 tw18101252551521120165 tw1812227965413967776 tw18123782545302723462 tw18152742097474541355 tw18173281049578623854 tw18180667596197397741 tw18191358611421089757 tw18194481486867466736 tw18218136832360414131 tw18241321787073698657 tw18255426064667039125 tw1826587902214512368 tw18270020032630627347 tw18305596272332886224 tw18346072447122041822 tw18350071406497139608 tw18355964799319831629 tw18371601278316051058 tw18394266222541334734 tw18422386312395434929 tw1877832994749315821 tw1896541752129634478 tw1945883766400157265 tw1985051152776680368 tw1986569955768090012 tw2006308231533741158 tw2108870552051751486 tw2119582706140587530 tw2173360288062837182 tw220396681112496826 tw2213559856474939003 tw2243380613305993135 tw2252454361617503016 tw2275663754102919583 tw2282923941874464301 tw2323505142546573955 tw2344590703882231945 tw2365029558921847434 tw2412256466077245847 tw2428304280191488122 tw2439293425678030145 tw244757758004272647 tw2458666624705444299 tw2485701927199355310 tw2526946229090581792 tw2530102783204157287 tw2543475312045012754 tw2555182435477128434 tw2567576842999794329 tw2571253693274710271 tw2573277607841788945 tw2609465861950569997 tw2624939277215644211 tw2628036150399616492 tw2643717539775693913 tw2676500579248867487 tw2684224753046197214 tw2695538526832192655 tw2698698274768862564 tw2706200856007070769 tw27116755050241983 tw2715989570262069617 tw2739283758925111091 tw2755023668028185877 tw2813831868612340095 tw2815462333162494354 tw2825317534343109097 tw2833904399889916968 tw2841598861873821409 tw2860847895854532977 tw2863020367836993066 tw2877407798068535327 tw2880737637819962416 tw289714187253964683 tw2917304932633577800 tw2924185180329432569 tw2929524241967672351 tw2934646570278381979 tw2939523107152490177 tw2947615435910906290 tw2949897225205870410 tw2955565511945872382 tw2977482379293178775 tw2995382456644268109 tw3014336481759077779 tw3026978902022953030 tw3043224887052505399 tw3044127408166897173 tw3044906321461204051 tw3057837768634990793 tw3061252081413630833 tw3074623566783650427 tw3101634165224963673 tw312783085338312067 tw3140110109529144736 tw3158565135235538229 tw3183250241891380753 tw3185348287533369128 tw3207433994032361853 tw3241180535719996064 tw3261964835522194831 tw326952592675882586 tw3275475875448798756 tw3277448435688159202 tw3297990896400488300 tw336796012766690843 tw3419749440928520454 tw3451336552082544889 tw346962299850926771 tw3501866156422031809 tw3504369311228333200 tw3542763390025301695 tw3594592561592214198 tw3604563747604369555 tw3609404054303880626 tw3615060815001457369 tw3679329773478605385 tw368235059278095066 tw3688329255131961099 tw3704331530102478738 tw3715998601062227818 tw3769150877177206886 tw3773700630738151497 tw3818991128859135964 tw3829442853364484207 tw3856593357460962747 tw3885204895356464286 tw3903192241265762293 tw3924171896662263928 tw3925207533836768786 tw3925969027556419516 tw3942311590178632496 tw3957929333941535936 tw3962478043107053193 tw3980455675734825757 tw398206034493648007 tw3984194547568714893 tw3993610345744349576 tw3993851407006527711 tw4001205554906747520 tw4007822937704151975 tw4025664084237792513 tw4043895187516927120 tw4047163518409833665 tw4060919922525640609 tw4089574207990146340 tw4163954426784029484 tw4167887615778697906 tw4190409846939813401 tw4200261024602361996 tw4202698632535190155 tw4239768827970005703 tw428011711442918447 tw4287977457232627011 tw4298617290372183640 tw4301187766145804104 tw4308003443920084749 tw4315768380301596004 tw4342375982709360231 tw4403803521856406858 tw4408183341656169587 tw4415002941559389674 tw4419899758351192586 tw4430917936456067711 tw4444023203657603135 tw4444572549978511245 tw4506293306008599321 tw4527406925601444198 tw4535357409499818840 tw4543959357251551273 tw4549082736437309969 tw4557100928409801449 tw4575800902596560430 tw4588444519386913911 tw4632971298201154278 tw4634726255344171477 tw4635414625830626050 tw4639407289886174131 tw4644491130447913548 tw4685603498870251307 tw4690825085665244378 tw4712037929571154231 tw4724412121695971544 tw4732657940648724872 tw4744194814793369356 tw4744212414821230352 tw4748770718165325477 tw477697751405998753 tw4787136214411141168 tw4790364620499459805 tw4793466086321231188 tw481053945738367038 tw4829866104550533328 tw4831552621855719083 tw48551160764651577 tw487553144926572680 tw4892912947566009939 tw4895708870271366348 tw4899483122435786411 tw4925147568820173562 tw4941606627676516163 tw4950360439659364911 tw4962676428814464254 tw4972916842112124737 tw4988419671339337176 tw5022707741164280705 tw5043510648873326463 tw5067648980616838447 tw5084150303725099300 tw5091530793145647851 tw5114941995868202401 tw5121554649103291401 tw513133856930208736 tw5135107352195676267 tw5163948865855165506 tw5199786478787811059 tw5203887768608261931 tw5221950242105490582 tw5229165283218912854 tw5249363147413266646 tw5251507915816381510 tw5255539830738618688 tw5269682807444823702 tw5285007402384824467 tw533184375491074958 tw5337552174285931834 tw5364791358869965800 tw5373265633846082116 tw5390846553662054378 tw5408999995249155386 tw5420212172832094500 tw54218231332819306 tw5425549183012610009 tw5434734674595781002 tw5455750397258445509 tw5459421720461333453 tw5479933708885655610 tw5503017151867931209 tw5506092598993831540 tw5517661168233434199 tw551986201241079110 tw5524588339183097405 tw5526348019782548016 tw5547028616286270072 tw5553848292698048886 tw5591868232287092975 tw5600690702004129908 tw5634147311504148831 tw5651275775125944433 tw5667110655200340421 tw5719769499340732125 tw5722780998159492249 tw5740553823755805219 tw5756386429710286673 tw5776651979649032366 tw5779906583914151955 tw5810946590362182074 tw5827832079133589511 tw5860064924191336697 tw5889083735801732105 tw5892400276804526659 tw5943862567291306114 tw5944944614635995527 tw5945863377923945490 tw5971332985645308871 tw597210833740565920 tw5975210006275045309 tw6011769590323551881 tw6014209184582853077 tw6019246372690187805 tw6020685904807546474 tw6038304292576598979 tw6058279650220168190 tw6065026021396318715 tw6092344362991050723 tw6155752805534266879 tw6166857138133886020 tw6179012844723603000 tw6187953920001283068 tw6205950751176991546 tw6242811224526684810 tw6253550166326894192 tw6264141561582897374 tw6293406196249242544 tw6297721705844971956 tw6321043432807564678 tw6338407122526944979 tw6373201379061570320 tw637358380634587199 tw6383150613315741045 tw6399613927910763506 tw6402747283866683612 tw6417593258952803105 tw6447707041734636740 tw6449270185444825895 tw6451366002824946956 tw6476318579593890285 tw6530545157248108224 tw6590892234433006868 tw6609588531706158049 tw6637374862722383065 tw6665895346169005244 tw6690218087200520537 tw6693303989780039447 tw6698743005576318999 tw6721154337440811241 tw6743408419240405045 tw6769952571682122811 tw6771500883393188183 tw6813792330141181425 tw6822706713865644755 tw6832655835159168247 tw6832917044527885238 tw6851859621931653683 tw6852147443802509825 tw693530990814432584 tw6939337594222139312 tw6948001733043324406 tw696613615029218844 tw6990642012665275966 tw6994950945596406954 tw7012556888368694330 tw7030849677719112166 tw7059082819120875936 tw7062510544705048966 tw7063322809911143920 tw713126489840577191 tw7138053386654132703 tw717947763494256283 tw7184846080182933678 tw7192844275807014002 tw7212465588594250806 tw7223835783148590810 tw7277975296630103722 tw7289682217517441819 tw7324648328912596151 tw7336467700548206402 tw737214393520751605 tw7403450756627046722 tw7428361760385698551 tw7506462006799754003 tw7513690662156250002 tw7529269926780782466 tw754587772366607441 tw7552136488425117456 tw7577777142455541962 tw7584736067077279896 tw7598726417676537141 tw7633363074694558485 tw7636067464563206831 tw7643689116476279111 tw7653400582416277792 tw7678903568266665490 tw7701394054204407451 tw7709554588102505200 tw7716241030047524687 tw7721121639065038691 tw7764464208442864989 tw7769300488439965046 tw7776768349358954732 tw7822706440640951795 tw7876947429096851903 tw7890024738004273378 tw7900732016124511964 tw7915781043874774297 tw7949314551635231679 tw7964870057664037129 tw7965090939712849462 tw7984204256732494955 tw8037536527207479592 tw805003803274807213 tw8051150775764547384 tw8173117365736887460 tw8205053857088560263 tw8242786529635888911 tw8264853528837110932 tw8268915221711430743 tw8281657984437945491 tw8319211956522037541 tw8346233884202736516 tw8349322220278274899 tw8366120704806729674 tw8379036851127823500 tw8384908634532103048 tw8389577489901108787 tw8397445834504573304 tw8400790550114720468 tw8434362574731960488 tw8468945317484618996 tw8482979384450142041 tw8493455127577842810 tw8506661890067782547 tw8507175666012018942 tw851856577845239758 tw8522915820737492803 tw8523692010091023350 tw8556840196939241901 tw8569696870291443936 tw859476858543724329 tw8597350081804869087 tw8599773616441883589 tw8627486859888152872 tw8675977346810627886 tw872746069308583585 tw8759780809871733790 tw8764872851552729673 tw8778851148554800779 tw8793827674496364110 tw8802507384749255480 tw8822357410886510997 tw8834352138050549268 tw8878033089335968966 tw892701302569605546 tw892888764509465113 tw9026511158462417047 tw9034815577938220191 tw9037674450802436041 tw9051844470179536677 tw9063211985581058372 tw9073127486868619754 tw9079864553814349870 tw9083474336828436780 tw9089392262068023829 tw9092193306668225097 tw9099695543549401976 tw9115508636037990323 tw9120051557869424534 tw9139690419923658131 tw9185841874820939754 tw9191194006834538459 tw9260128951861623119 tw9272060417383974388 tw9285330792781906760 tw9289723923700038579 tw9319950303616522323 tw9334245404078256678 tw9339306449317831114 tw9356978320889512759 tw93867268122198264 tw939555208281204141 tw9396286414742314421 tw9424107416273582124 tw9426432073280992824 tw944626213939256946 tw9466162735461142582 tw9478396479143661160 tw9510298209846100438 tw9523574443278611658 tw9533285142916845761 tw9545243370896498196 tw9555214218028456474 tw9559655397473038743 tw958317891622912799 tw9587338554476317557 tw9588543046839412228 tw9639429375944082879 tw9686921691506959598 tw9688725144297270229 tw9711304179912199071 tw9802741990398295496 tw9803584722067594143 tw9818612969974851349 tw9854687270181105916 tw9887469759562733657 tw9896608683896425144 tw9902937299541054092 tw9949940795650101214 tw9953877571527599211 tw995550889199978865
end PySem.W.Fast
set_option maxRecDepth 100000 in
set_option maxHeartbeats 0 in
theorem PySem.Challenge.cw_twigmap_k41_puts_holds : PySem.Challenge.rw_twigmap_k41_puts.Holds := by
 w_on;o_law;k_head;(case hw=>w_witness2)
 k_fill
 refine Tw.walk (l:=PySem.Challenge.rw_twigmap_k41_puts) Z Z (λw h Y=>PySem.W.kIn_of Y) ?qFun
 case qFun=>
  intro w mg fa h KX G hmg;refine' Tw.Kr KX G hmg (Tw.KQ KX G ?a1 ?l1 ?c1 ?k1 (λ_ _ _ _ _ _ us hl=>match us,hl with | [_],_=>rfl)) (Tw.KQ KX G ?a2 ?l2 ?c2 ?k2 (λ_ _ _ _ _ _ us hl=>match us,hl with | [_],_=>rfl)) (Tw.KQ KX G ?a3 ?l3 ?c3 ?k3 (λ_ _ _ _ _ _ us hl=>match us,hl with | [_,_],_=>rfl)) (Tw.KQ KX G ?a4 ?l4 ?c4 ?k4 (λ_ _ _ _ _ _ us hl=>match us,hl with | [_],_=>rfl)) (Tw.KQ KX G ?a5 ?l5 ?c5 ?k5 (λ_ _ _ _ _ _ us hl=>match us,hl with | [_],_=>rfl)) (Tw.KQ KX G ?a6 ?l6 ?c6 ?k6 (λ_ _ _ _ _ _ us hl=>match us,hl with | [_,_],_=>rfl)) (Tw.KQ KX G ?a7 ?l7 ?c7 ?k7 (λ_ _ _ _ _ _ us hl=>match us,hl with | [_,_],_=>rfl)) (Tw.KQ KX G ?a8 ?l8 ?c8 ?k8 (λ_ _ _ _ _ _ us hl=>match us,hl with | [_],_=>rfl)) (Tw.KQ KX G ?a9 ?l9 ?c9 ?k9 (λ_ _ _ _ _ _ us hl=>match us,hl with | [_],_=>rfl)) (Tw.KQ KX G ?A0 ?A1 ?A2 ?A3 (λ_ _ _ _ _ _ us hl=>match us,hl with | [_],_=>rfl)) (Tw.KQ KX G ?A4 ?A5 ?A6 ?A7 (λ_ _ _ _ _ _ us hl=>match us,hl with | [_],_=>rfl)) (Tw.KQ KX G ?A8 ?A9 ?Aa ?Ab (λ_ _ _ _ _ _ us hl=>match us,hl with | [_],_=>rfl)) (Tw.KQ KX G ?Ac ?Ad ?Ae ?Af (λ_ _ _ _ _ _ us hl=>match us,hl with | [_],_=>rfl)) (Tw.KQ KX G ?Ag ?Ah ?Ai ?Aj (λ_ _ _ _ _ _ us hl=>match us,hl with | [_,_],_=>rfl)) (Tw.KQ KX G ?Ak ?Al ?Am ?An (λ_ _ _ _ _ _ us hl=>match us,hl with | [_,_,_],_=>rfl)) (Tw.KQ KX G ?Ao ?Ap ?Aq ?Ar (λ_ _ _ _ _ _ us hl=>match us,hl with | [_,_],_=>rfl)) (Tw.KQ KX G ?As ?At ?Au ?Av (λ_ _ _ _ _ _ us hl=>match us,hl with | [_,_,_],_=>rfl)) (Tw.KQ KX G ?Aw ?Ax ?Ay ?Az (λ_ _ _ _ _ _ us hl=>match us,hl with | [_,_,_],_=>rfl)) (Tw.KQ KX G ?B0 ?B1 ?B2 ?B3 (λ_ _ _ _ _ _ us hl=>match us,hl with | [_,_,_],_=>rfl)) (Tw.KQ KX G ?B4 ?B5 ?B6 ?B7 (λ_ _ _ _ _ _ us hl=>match us,hl with | [_,_],_=>rfl)) (Tw.KQ KX G ?B8 ?B9 ?Ba ?Bb (λ_ _ _ _ _ _ us hl=>match us,hl with | [_],_=>rfl)) (Tw.KQ KX G ?Bc ?Bd ?Be ?Bf (λ_ _ _ _ _ _ us hl=>match us,hl with | [_,_],_=>rfl)) (Tw.KQ KX G ?Bg ?Bh ?Bi ?Bj (λ_ _ _ _ _ _ us hl=>match us,hl with | [_,_],_=>rfl)) (Tw.KQ KX G ?Bk ?Bl ?Bm ?Bn (λ_ _ _ _ _ _ us hl=>match us,hl with | [_,_],_=>rfl)) (Tw.KQ KX G ?Bo ?Bp ?Bq ?Br (λ_ _ _ _ _ _ us hl=>match us,hl with | [_,_,_],_=>rfl)) (Tw.KQ KX G ?Bs ?Bt ?Bu ?Bv (λ_ _ _ _ _ _ us hl=>match us,hl with | [_,_],_=>rfl)) (Tw.KQ KX G ?Bw ?Bx ?By ?Bz (λ_ _ _ _ _ _ us hl=>match us,hl with | [_,_,_,_],_=>rfl)) (Tw.KQ KX G ?C0 ?C1 ?C2 ?C3 (λ_ _ _ _ _ _ us hl=>match us,hl with | [_,_,_],_=>rfl)) (Tw.KQ KX G ?C4 ?C5 ?C6 ?C7 (λ_ _ _ _ _ _ us hl=>match us,hl with | [_,_,_],_=>rfl)) (Tw.KQ KX G ?C8 ?C9 ?Ca ?Cb (λ_ _ _ _ _ _ us hl=>match us,hl with | [_,_,_,_],_=>rfl)) (Tw.KQ KX G ?Cc ?Cd ?Ce ?Cf (λ_ _ _ _ _ _ us hl=>match us,hl with | [_,_,_,_],_=>rfl)) (Tw.KQ KX G ?Cg ?Ch ?Ci ?Cj (λ_ _ _ _ _ _ us hl=>match us,hl with | [_,_,_],_=>rfl)) (Tw.KQ KX G ?Ck ?Cl ?Cm ?Cn (λ_ _ _ _ _ _ us hl=>match us,hl with | [_],_=>rfl)) (Tw.KQ KX G ?Co ?Cp ?Cq ?Cr (λ_ _ _ _ _ _ us hl=>match us,hl with | [_,_],_=>rfl)) (Tw.KQ KX G ?Cs ?Ct ?Cu ?Cv (λ_ _ _ _ _ _ us hl=>match us,hl with | [_,_],_=>rfl)) (Tw.KQ KX G ?Cw ?Cx ?Cy ?Cz (λ_ _ _ _ _ _ us hl=>match us,hl with | [_,_],_=>rfl)) (Tw.KQ KX G ?D0 ?D1 ?D2 ?D3 (λ_ _ _ _ _ _ us hl=>match us,hl with | [_],_=>rfl)) (Tw.KQ KX G ?D4 ?D5 ?D6 ?D7 (λ_ _ _ _ _ _ us hl=>match us,hl with | [_,_],_=>rfl)) (Tw.KQ KX G ?D8 ?D9 ?Da ?Db (λ_ _ _ _ _ _ us hl=>match us,hl with | [_],_=>rfl)) (Tw.KQ KX G ?Dc ?Dd ?De ?Df (λ_ _ _ _ _ _ us hl=>match us,hl with | [_],_=>rfl)) (Tw.KQ KX G ?Dg ?Dh ?Di ?Dj (λ_ _ _ _ _ _ us hl=>match us,hl with | [_,_],_=>rfl)) (Tw.KQ KX G ?Dk ?Dl ?Dm ?Dn (λ_ _ _ _ _ _ us hl=>match us,hl with | [_,_,_],_=>rfl)) (Tw.KQ KX G ?Do ?Dp ?Dq ?Dr (λ_ _ _ _ _ _ us hl=>match us,hl with | [_,_],_=>rfl)) (Tw.KQ KX G ?Ds ?Dt ?Du ?Dv (λ_ _ _ _ _ _ us hl=>match us,hl with | [_,_],_=>rfl)) (Tw.KQ KX G ?Dw ?Dx ?Dy ?Dz (λ_ _ _ _ _ _ us hl=>match us,hl with | [_],_=>rfl)) (Tw.KQ KX G ?E0 ?E1 ?E2 ?E3 (λ_ _ _ _ _ _ us hl=>match us,hl with | [_,_],_=>rfl)) (Tw.KQ KX G ?E4 ?E5 ?E6 ?E7 (λ_ _ _ _ _ _ us hl=>match us,hl with | [_,_],_=>rfl)) (Tw.KQ KX G ?E8 ?E9 ?Ea ?Eb (λ_ _ _ _ _ _ us hl=>match us,hl with | [_,_,_],_=>rfl)) (Tw.KQ KX G ?Ec ?Ed ?Ee ?Ef (λ_ _ _ _ _ _ us hl=>match us,hl with | [_,_],_=>rfl)) (Tw.KQ KX G ?Eg ?Eh ?Ei ?Ej (λ_ _ _ _ _ _ us hl=>match us,hl with | [_,_,_],_=>rfl)) (Tw.KQ KX G ?Ek ?El ?Em ?En (λ_ _ _ _ _ _ us hl=>match us,hl with | [_,_],_=>rfl)) (Tw.KQ KX G ?Eo ?Ep ?Eq ?Er (λ_ _ _ _ _ _ us hl=>match us,hl with | [_,_,_,_],_=>rfl)) ?Es ?Et ?Eu ?Ev ?z1 ?z2 ?z3 ?z4 ?z5 ?z6 ?z7 ?z8 ?z9 ?Ew ?Ex ?Ey ?Ez ?F0 ?F1 ?F2 ?F3 ?F4 ?F5 ?F6 ?F7 ?F8 ?F9 ?Fa ?Fb ?Fc (Tw.MO ?Fd ?Fe ?Ff ?Fg ?Fh (λ_ _ _ _ _ _ us hl=>match us,hl with | [_],_=>rfl)) (Tw.MO ?Fi ?Fj ?Fk ?Fl ?Fm (λ_ _ _ _ _ _ us hl=>match us,hl with | [_,_,_],_=>rfl)) (Tw.Ny ?Fn ?Fo ?Fp ?Fq ?Fr ?Fs) (Tw.MD ?Ft ?Fu ?Fv ?Fw ?Fx (λ_ _ _ _ _ _ us hl=>match us,hl with | [_,_],_=>rfl)) (Tw.MD ?Fy ?Fz ?G0 ?G1 ?G2 (λ_ _ _ _ _ _ us hl=>match us,hl with | [_,_],_=>rfl)) (Tw.MD ?G3 ?G4 ?G5 ?G6 ?G7 (λ_ _ _ _ _ _ us hl=>match us,hl with | [_,_,_],_=>rfl)) (Tw.MD ?G8 ?G9 ?Ga ?Gb ?Gc (λ_ _ _ _ _ _ us hl=>match us,hl with | [_,_],_=>rfl)) (Tw.MD ?Gd ?Ge ?Gf ?Gg ?Gh (λ_ _ _ _ _ _ us hl=>match us,hl with | [_,_],_=>rfl)) (Tw.MD ?Gi ?Gj ?Gk ?Gl ?Gm (λ_ _ _ _ _ _ us hl=>match us,hl with | [_,_],_=>rfl)) (Tw.MD ?Gn ?Go ?Gp ?Gq ?Gr (λ_ _ _ _ _ _ us hl=>match us,hl with | [_,_],_=>rfl)) (Tw.MD ?Gs ?Gt ?Gu ?Gv ?Gw (λ_ _ _ _ _ _ us hl=>match us,hl with | [_,_],_=>rfl)) (Tw.MD ?Gx ?Gy ?Gz ?H0 ?H1 (λ_ _ _ _ _ _ us hl=>match us,hl with | [_,_],_=>rfl)) (Tw.MD ?H2 ?H3 ?H4 ?H5 ?H6 (λ_ _ _ _ _ _ us hl=>match us,hl with | [_,_],_=>rfl)) (Tw.MD ?H7 ?H8 ?H9 ?Ha ?Hb (λ_ _ _ _ _ _ us hl=>match us,hl with | [_,_,_],_=>rfl)) (Tw.MD ?Hc ?Hd ?He ?Hf ?Hg (λ_ _ _ _ _ _ us hl=>match us,hl with | [_,_],_=>rfl)) (Tw.MD ?Hh ?Hi ?Hj ?Hk ?Hl (λ_ _ _ _ _ _ us hl=>match us,hl with | [_,_],_=>rfl)) (Tw.MD ?Hm ?Hn ?Ho ?Hp ?Hq (λ_ _ _ _ _ _ us hl=>match us,hl with | [_,_,_],_=>rfl)) (Tw.MD ?Hr ?Hs ?Ht ?Hu ?Hv (λ_ _ _ _ _ _ us hl=>match us,hl with | [_,_,_],_=>rfl)) (Tw.MD ?Hw ?Hx ?Hy ?Hz ?I0 (λ_ _ _ _ _ _ us hl=>match us,hl with | [_,_,_],_=>rfl)) (Tw.MD ?I1 ?I2 ?I3 ?I4 ?I5 (λ_ _ _ _ _ _ us hl=>match us,hl with | [_,_],_=>rfl)) (Tw.MD ?I6 ?I7 ?I8 ?I9 ?Ia (λ_ _ _ _ _ _ us hl=>match us,hl with | [_,_,_],_=>rfl)) (Tw.MD ?Ib ?Ic ?Id ?Ie ?If (λ_ _ _ _ _ _ us hl=>match us,hl with | [_,_,_],_=>rfl)) (Tw.MD ?Ig ?Ih ?Ii ?Ij ?Ik (λ_ _ _ _ _ _ us hl=>match us,hl with | [_,_],_=>rfl)) (Tw.MD ?Il ?Im ?In ?Io ?Ip (λ_ _ _ _ _ _ us hl=>match us,hl with | [_],_=>rfl)) (Tw.MD ?Iq ?Ir ?Is ?It ?Iu (λ_ _ _ _ _ _ us hl=>match us,hl with | [_],_=>rfl)) ?Iv ?Iw ?Ix ?Iy ?Iz ?J0 ?J1 ?J2 ?J3 ?J4 ?J5 ?J6 ?J7 ?J8 ?J9 ?Ja ?Jb ?Jc ?Jd ?Je ?Jf ?Jg ?Jh ?Ji ?Jj ?Jk ?Jl ?Jm ?Jn ?Jo ?Jp ?Jq ?Jr ?Js ?Jt ?Ju ?Jv ?Jw ?Jx ?Jy ?Jz ?K0 ?K1 ?K2 ?K3 ?K4
  (case Iv|Iw|Ix|Iy|Iz|J0|J1|Fd|Fi|Fn|Ft|Fy|G3|G8|Gd|Gi|Gn|Gs|Gx|H2|H7|Hc|Hh|Hm|Hr|Hw|I1|I6|Ib|Ig|Il|Iq=>k_is)
  (case Jw|Jx=>kernel_rfl)
  (case K2|K3|K4=>kit_is)
  all_goals try k_is
  all_goals try k_is
