import PyProof.Rows.All
import Wide.All
import OpenK.AllK
import Wide.FinOn
import Lean
import PyProof.EqAt
import PyProof.EqKinds
import PyProof.TupleCall
import PyProof.NeKinds
import PyProof.TupleKey
import PyProof.DictFindH
import PyProof.NsDelKeeps
import PyProof.ExcBaseAll.ValueError
import KE.KIsAll
import PyProof.ExcArgsOwn
import PyProof.ExcAttrAll.ValueError
import KE.KDictList
import PyProof.Rows.SortWalk
import KE.KSortTup
import KE.KEqDict
import KE.KLam
import KE.KRevIter
import PyProof.InstStoreFacts
import PyProof.ExcClass3
import PyProof.Rows.SumAny
import PyProof.Rows.StrStep
import PyProof.SetScanFacts
import PyProof.SetKind
import PyProof.DictKinds
import PyProof.DictStraight
import PyProof.DictIter
import PyProof.WalksS
import PyProof.FactsAll.set
import PyProof.FactsAll.dict_keyiterator
import PyProof.MakeMany
import PyProof.CollectWalk
import PyProof.ListNew
import PyProof.SetNew
import PyProof.ListRange
import PyProof.Rows.SetFrom
import PySem.Challenge.RW_twigmap_k32_values_and_rows
open PySem renaming wpAny_bind→aa,wpAny_pure→ad,wpAny_mono→ae,wpAny_holding→af,wpAny_Call_Name_kw→ag,wpAny_standAt→ah,wpAny_rule→ai,Value→aj,Addr→ak,Shared→al,Program→am,FuncData→ao,mainGlobals→aq,sizeLine→ar,starEach→aw,World→ax,Around→ay,bootBuiltins→az,compareOp→aA,model→aB,wpAny→aC,Stmt→aD,Heap→aE,Scope→aF,backTo→aG,eval→aH,Obj→aI
universe u
def aJ{p:Prop}[Decidable p](h:¬p):decide p=false:=decide_eq_false h
def aK{p:Prop}[Decidable p](h:p):decide p=true:=decide_eq_true h
def aM{c:Prop}{h:Decidable c}(n:¬c){α:Sort u}{t e:α}:(ite c t e)=e:=if_neg n
def aO{c:Prop}{h:Decidable c}(n:c){α:Sort u}{t e:α}:(ite c t e)=t:=if_pos n
set_option Elab.async false
set_option linter.all false
set_option maxRecDepth 100000
set_option maxHeartbeats 8000000
open PySem.W renaming Frag->zZ,kitOne->yZ,findIn->zA,nsIn->zH,mg_none_of->xZ,keepIn->yL,mroIn->yI,mg_of->yJ,Looks->yF,typeIn->xN,kia_one->xI,fnOf->xW,emptyDict->wK,instObj->vZ,hasDictIn->vO,codeIn->wC,plainGet->uX,isFn->wE,callWith_K->uF,kas_item->uJ,looks_findIn->sQ,looks_mroIn->sS,hideAll->uN,lookIn->uR,plainOver->sU,any_some->sZ,makesIn->sJ,plainGet_of->qU,looks_clsIn->qV,callWith_K0->qW,methodObj->rD,takerIn->rQ,OpenLaw->rR,KdlSrc->sC,InstAt->sE,cellsFrom_some->pQ,methodCall_KW->pV,looks_typeIn->zEB,hideAll_none->zEC,hideAll_get->zEG,tail_of_in->zEN,of_hideAll->zEO
open List renaming length_map->zX,getD_eq_getElem?_getD->zT,getElem?_eq_getElem->zU,length_append->zW,size_toArray->zP,mem_of_getElem?->zK,all_eq_true->zQ,getElem?_eq_some_iff->yT,mem_cons_of_mem->zI,take_of_length_le->yV,mem_cons_self->zC,length_cons->zJ,mem_singleton->zB,getElem?_map->zD,map_append->zE,mem_map->zM,mem_cons->zF,append_nil->yS,flatMap_cons->yN,mem_append->yQ,getElem?_append_right->xQ,take_add_one->yM,mem_append_right->yC,map_cons->yR,range->yX,flatMap_append->xT,getElem?_append_left->wP,append_assoc->xU,length_take->xX,pairwise_append->xE,take_append_drop->wX,mem_range->xY,getElem_mem->xL,mem_append_left->wS,pairwise_cons->wT,nodup_cons->xJ,not_mem_nil->wY,mem_flatMap->wZ,lookup_cons->xA,replicate->xK,mem_iff_getElem?->vL,map_map->xO,filter_append->vY,length_drop->wL,flatMap_def->wM,eq_nil_of_length_eq_zero->tT,range'->xP,filterMap_cons->vN,length_singleton->vB,length_filter_le->vC,pairwise_iff_getElem->tU,extract_eq_take_drop->tV,mem_filter->wB,flatten_cons->vQ,toArray->wW,lookup->xD,filter_cons->vR,take_zero->wD,length->wQ,find?_cons->vK,cons_lt_cons_iff->tQ,getElem?_of_mem->tS,drop_eq_getElem_cons->sN,take_succ_cons->uB,map_congr_left->uC,length_reverse->uD,length_pos_iff->uE,reverse_perm->uH,nodup_append->uI,drop_drop->vG,pairwise_flatMap->sR,flatMap_nil->uK,cons_append->uL,any_eq_true->uM,not_lt_nil->uP,nil_append->uQ,Perm->wO,mem_filterMap->sV,map_nil->vJ,getElem?_take->sW,getElem?_drop->sX,getElem?_take_of_lt->qO,length_eq_zero_iff->qP,any_cons->tX,all_cons->tY,ext_getElem->sL,getElem?_set_self->qG,filter_eq_nil_iff->qH,pairwise_reverse->qI,length_nil->sM,getElem?_eq_none->qJ,foldl_cons->tF,eq_nil_or_concat->qS,concat_eq_append->qT,all_map->uT,getElem?_set_ne->qX,filter_eq_self->qZ,sum_cons->tG,filterMap_map->rJ,Pairwise->tH,pairwise_map->rO,getElem?_inj->rP,nil_lt_cons->rW,mem_flatten->rX,map_reverse->rY,map_flatMap->rZ,dropLast_concat_getLast->qB,sum_append->sF,sublist_flatten_of_mem->qD,of_mem_zip->sG,forIn_cons->sH,exists_cons_of_ne_nil->pP,drop_zero->qQ,pairwise_singleton->zED,getLast_eq_getElem->zEE,range_succ_eq_map->zEH,length_eq_one_iff->zEI,getElem_cons_drop->zEJ,drop_of_length_le->zEK,perm_append_comm->zEP,countP_mono_left->zEQ
open Nat renaming le_refl->zY,le_trans->zS,lt_of_lt_of_le->yW,zero_le->zL,le_of_ble_eq_true->yH,ne_of_lt->yU,le_of_lt->yG,not_lt_zero->xM,exists_eq_add_of_le->vX,lt_or_ge->yA,le_add_right->xB,lt_of_le_of_lt->wJ,le_of_not_lt->wV,lt_succ_self->wN,add_sub_cancel_left->tW,succ->yB,lt_irrefl->vW,succ_le_succ->vD,sub_lt_sub_left->uG,le_succ->wG,le_of_eq->vT,min_le_right->uO,add_assoc->vI,lt_of_add_lt_add_left->qM,le_of_add_le_add_left->qN,sub_le->vU,succ_pos->uU,sub_lt_sub_right->qY,sub_le_sub_left->rE,add_le_add_left->rG,lt_or_eq_of_le->rL,lt_succ_of_lt->rS,le_of_lt_succ->rV,zero_add->tL,ne_of_gt->tM,lt_trans->tN,add_zero->tO,min_eq_left->sI
open Bool renaming false_ne_true->zV,and_eq_true->zR,false_eq_true->wU,false_and->vS,eq_iff_iff->vE,and_false->uS,true_and->tZ,not_true->tI
open PySem.Heap renaming get?_push_of_some->zO,get?_push_size->yO,lt_size->zN,SameBut->yD,get?_update_self->vM,get?_update_other->vA,get?_none_of_le->uA,size_push->vH,IsSliceOf->qR
open Array renaming getElem?_toList->yY,length_toList->yP,getElem?_eq_getElem->xV,getElem?_eq_some_iff->vV,toList_append->wI,toList_push->vP,toList_extract->tR,perm_iff_toList_perm->qL,forIn_toList->rH,size_append->rM,toList_setIfInBounds->qE,getElem?_eq_none->zEF,toList->zEM,toList_reverse->zER
open PySem.F renaming plainAttrs_list->yK,type_list_append->xG,slot_list_append->xH,type_list_extend->uY,slot_list_extend->uZ,slot_dict_keyiterator_next->qK,slot_tuple_hash->sP,excBase_ValueError->pZ,slot_dict_getitem->qA,store_ValueError->qC,plain_list_iadd->qF,slot_dict_iter->pR,type_list_pop->pW,slot_list_pop->pY,slot_dict_pop->zEA
open Option renaming some->zG,map_eq_some_iff->xR,map_some->wA,isSome_iff_exists->sO,getD_none->rN,none->tJ,bind_eq_some_iff->pT
open PySem.Str renaming ofString->yE
open Int renaming emod_lt_of_pos->uW,le_trans->wH,le_refl->wR,le_of_lt->wF,emod_nonneg->vF,natCast_nonneg->sY,toNat_natCast->tE,not_lt->uV,ediv_one->tP,fdiv_eq_ediv_of_nonneg->pU,eq_ofNat_of_zero_le->zEL
open PyProof.Rows renaming wpS_bind->jP,wpS_pure->jQ,arrOf->jR,SortSt->jS,pendingOf->jT,wpS_forRange->jU,wpS_mono->jV,Keyed->jW,setArr->jX
local macro_rules|`(tactic|exists $e,*)=>`(tactic|refine ⟨$e,*, ?_⟩)
local macro_rules|`(∅)=>`(by lia)
abbrev ja:=PySem.Value->PySem.Shared->Prop
abbrev jc:=PySem.Str->Option PySem.Value
abbrev jd:=Option PySem.Value
abbrev je:=List PySem.Value
abbrev zEa:List PySem.Str:=["self","number"]
abbrev zEb:List PySem.Str:=["_law_well_here","_law_many"]
abbrev zEc:List PySem.Str:=["_law_found","_law_due_here"]
abbrev zEd:List PySem.Str:=["shelf","root"]
abbrev zEe:List PySem.Str:=["_law_well_here","_law_room"]
abbrev zEf:List PySem.Str:=["_law_record","_law_root"]
abbrev zEg:List PySem.Str:=["_law_well_here"]
abbrev zEh:List PySem.Str:=["_law_record","_law_root","_law_spot"]
abbrev zEi:List PySem.Str:=["_law_shelf","_law_record","_law_root","_law_spot"]
abbrev zEj:List PySem.Str:=["self","numbers"]
abbrev zEk:List PySem.Str:=["shelf","root","key"]
abbrev zEl:List PySem.Str:=["_law_well_here","_law_things","_law_few","_law_stem"]
abbrev zEm:List PySem.Str:=["_law_well_here","_law_shelf"]
abbrev zEn:List PySem.Str:=["_law_spot"]
abbrev zEo:List PySem.Str:=["_law_well_here","_law_known_here"]
abbrev zEp:List PySem.Str:=["_law_well_here","_law_shelf","_law_rows"]
abbrev zEq:List PySem.Str:=["_law_shelf","_law_root","_law_found"]
abbrev zEr:List PySem.Str:=["_law_well_here","_law_bound"]
abbrev zEs:List PySem.Str:=["self"]
abbrev zEt:List PySem.Str:=["self","rows"]
abbrev zEu:List PySem.Str:=["_law_way","_law_shelf","_law_root","_law_spot"]
abbrev zEv:List PySem.Str:=["_law_script","_law_k"]
abbrev zEw:List PySem.Str:=["self","things","tag"]
abbrev zEx:List PySem.Str:=["thing"]
abbrev zEy:List PySem.Str:=["thing","room"]
abbrev zEz:List PySem.Str:=["self","things","label"]
abbrev zE0:List PySem.Str:=["one","other"]
abbrev zE1:List PySem.Str:=["_law_well_here","_law_most"]
abbrev zE2:List PySem.Str:=["rows"]
abbrev zE3:List PySem.Str:=["_law_script","_law_shelf"]
abbrev zE4:List PySem.Str:=["label","following"]
abbrev zE5:List PySem.Str:=["self","stem","branches"]
abbrev zE6:List PySem.Str:=["found"]
abbrev zE7:List PySem.Str:=["_law_trees_here"]
abbrev zE8:List PySem.Str:=["shelf","found","key"]
abbrev zE9:List PySem.Str:=["_law_model"]
abbrev zFa:List PySem.Str:=["key"]
abbrev zFb:List PySem.Str:=["self","number","twig"]
abbrev zFc:List PySem.Str:=["found","at"]
abbrev zFd:List PySem.Str:=["_law_script"]
abbrev jm:=List Nat
abbrev jo:=Array PyProof.Rows.Keyed
abbrev jq:=Option Nat
abbrev jr:=List PySem.Str
abbrev js:=List (ak×aI)
abbrev jt:=List Int
abbrev ju:=Array aj
abbrev jx:=List PySem.Env
abbrev jy:=Option Int
abbrev jz:=List PyProof.Rows.Keyed
abbrev jA:=Option ak
abbrev jB:=List PySem.Expr
abbrev jD:=List ak
abbrev jE:=List (PySem.Str×ak)
abbrev jF:=List aD
abbrev jH:=Array (Nat×Nat×Nat)
abbrev jI:=List (PySem.Str×aj)
abbrev jK:=Array Nat
abbrev jL:=Option Bool
abbrev jM:=Array (Int×aj)
abbrev jO:=List (Nat×Nat)
namespace L2
open PySem PySem.Spec PyProof.Rows
abbrev Zb:=Sum Int Str
abbrev jC:=List Zb
def OH:Zb->aj->Bool
 | .inl k,v=>Value.isInt k v
 | .inr x,v=>Value.isStrOf x v
def FH(w:ax):Zb->Int
 | .inl k=>hashInt k
 | .inr x=>hashStr w x
def Qv:∀{k:Zb}{v:aj},OH k v=true->(∃ i t,k=Sum.inl i/\v=Value.int i t)\/(∃ x t,k=Sum.inr x/\v=Value.str x t)
 | .inl i,v,h=>by
  obtain⟨t,e⟩:=Value.isInt_shape (k:=i) (v:=v) h;exact .inl ⟨i,t,rfl,e⟩
 | .inr x,v,h=>by
  obtain⟨t,e⟩:=Value.isStrOf_shape (x:=x) (v:=v) h;exact .inr ⟨x,t,rfl,e⟩
def ZK1(i:Int)(t:Tok):OH (.inl i) (.int i t)=true:=by simp[OH,Value.isInt]
def ZKT(x:Str)(t:Tok):OH (.inr x) (.str x t)=true:=by simp[OH,Value.isStrOf]
def ZPJ(a b:Int):decide ((Sum.inl a:Zb)=Sum.inl b)=(a==b):=by
 by_cases e:a=b
 ·subst e;simp
 ·have h:¬ (Sum.inl a:Zb)=Sum.inl b:=λq=>e (Sum.inl.inj q);rw[aJ h];exact(beq_eq_false_iff_ne.mpr e).symm
def ZQS(a b:Str):decide ((Sum.inr a:Zb)=Sum.inr b)=decide (a=b):=by
 by_cases e:a=b
 ·subst e;simp
 ·have h:¬ (Sum.inr a:Zb)=Sum.inr b:=λq=>e (Sum.inr.inj q);rw[aJ h,aJ e]
def ZPr(a:Int)(b:Str):decide ((Sum.inl a:Zb)=Sum.inr b)=false:=aJ (λq=>nomatch q)
def BQ(a:Str)(b:Int):decide ((Sum.inr a:Zb)=Sum.inl b)=false:=aJ (λq=>nomatch q)
def V0(c:am)(w:ax):PySem.KeyKind c w Zb where
 is:=OH
 hash:=FH w
 inj:=λv a b g f=>by
  rcases Qv g with ⟨i,t,rfl,rfl⟩ | ⟨x,t,rfl,rfl⟩
  ·rcases Qv f with ⟨j,u,rfl,e⟩ | ⟨y,u,rfl,e⟩
   ·injection e with e1 _;rw[e1]
   ·exact nomatch e
  ·rcases Qv f with ⟨j,u,rfl,e⟩ | ⟨y,u,rfl,e⟩
   ·exact nomatch e
   ·injection e with e1 _;rw[e1]
 byValue:=λk v h=>by
  rcases Qv h with ⟨i,t,rfl,rfl⟩ | ⟨x,t,rfl,rfl⟩ <;> rfl
 pyHash:=λd h=>by
  rcases Qv d with ⟨i,t,rfl,rfl⟩ | ⟨x,t,rfl,rfl⟩
  ·exact wpAny_pyHash_int h
  ·exact wpAny_pyHash_str h
 eqBool:=λl d h=>by
  rcases Qv l with ⟨i,t,rfl,rfl⟩ | ⟨x,t,rfl,rfl⟩
  ·rcases Qv d with ⟨j,u,rfl,rfl⟩ | ⟨y,u,rfl,rfl⟩
   ·rw[ZPJ] at h;exact wpAny_eqBool_int h
   ·rw[ZPr] at h;exact SeqAt.EqAt.int_str i t y u _ _ _ _ h
  ·rcases Qv d with ⟨j,u,rfl,rfl⟩ | ⟨y,u,rfl,rfl⟩
   ·rw[BQ] at h;exact SeqAt.EqAt.str_int x t j u _ _ _ _ h
   ·rw[ZQS] at h;exact wpAny_eqBool_str h
 «strs» :=λk x t v h=>by
  rcases Qv h with ⟨i,u,rfl,e⟩ | ⟨y,u,rfl,e⟩
  ·exact nomatch e
  ·injection e with e1 _;subst e1;cases v <;> rfl
def ZGY(a:am)(w:ax)(i:Int)(t:Tok):(V0 a w).is (.inl i) (.int i t)=true:=ZK1 i t
def ZGp(a:am)(w:ax)(x:Str)(t:Tok):(V0 a w).is (.inr x) (.str x t)=true:=ZKT x t
inductive V where
 | non | bl (b:Bool) | int (i:Int) | str (x:Str) | byt (b:Array UInt8) | flt (b:UInt64) | ref (a:ak) | ty (n:String)
 deriving DecidableEq
abbrev jf:=List V
abbrev jg:=Option V
def ZQ:V->aj->Prop
 | .non,u=>u=Value.none
 | .bl b,u=>u=Value.bool b
 | .int i,u=>∃ t,u=Value.int i t
 | .str x,u=>∃ t,u=Value.str x t
 | .byt b,u=>∃ t,u=Value.bytes b t
 | .flt b,u=>∃ t,u=Value.float b t
 | .ref a,u=>u=Value.ref a
 | .ty n,u=>u=Value.type n
abbrev ZO:jf->je->Prop:=Paired ZQ
def ZO.length{b:jf}{a:je}(r:ZO b a):b.length=a.length:=Paired.length r
def ZO.get:∀{b:jf}{a:je}{i:Nat}{x:V},ZO b a->b[i]? = some x->∃ u,a[i]? = some u/\ZQ x u
 | _,_,_,_,.nil,e=>by simp at e
 | _,_,0,_,.cons r _,e=>by simp at e;subst e;exact⟨_,rfl,r⟩
 | _,_,i+1,x,.cons _ t,e=>by
  obtain⟨u,c,d⟩:=ZO.get (i:=i) (x:=x) t (by simpa using e)
  exact⟨u,by simpa using c,d⟩
def ZO.set{x:V}{u:aj}(r:ZQ x u):∀{b:jf}{a:je}(i:Nat),ZO b a->ZO (b.set i x) (a.set i u)
 | _,_,_,.nil=>.nil
 | _,_,0,.cons _ t=>.cons r t
 | _,_,i+1,.cons q t=>.cons q (ZO.set r i t)
def ZO.append:∀{c d:jf}{a b:je},ZO c a->ZO d b->ZO (c++d) (a++b):=by intro _ _ _ _ h g;induction h with
 | nil=>exact g
 | cons r _ e=>exact .cons r e
def ZO.take:∀{b:jf}{a:je}(n:Nat),ZO b a->ZO (b.take n) (a.take n)
 | _,_,0,_=>.nil
 | _,_,_+1,.nil=>.nil
 | _,_,n+1,.cons r t=>.cons r (ZO.take n t)
def ZO.drop:∀{b:jf}{a:je}(n:Nat),ZO b a->ZO (b.drop n) (a.drop n)
 | _,_,0,r=>r
 | _,_,_+1,.nil=>.nil
 | _,_,n+1,.cons _ t=>ZO.drop n t
def Yl:jg->jd->Prop
 | some v,some u=>ZQ v u
 | none,none=>True
 | _,_=>False
def KV{a:Type}:List (a×V)->List (a×aj)->Prop:=Paired fun(p:a×V)(q:a×aj)=>p.1=q.1/\ZQ p.2 q.2
def kV:Zb->V
 | .inl i=>.int i
 | .inr x=>.str x
inductive HO where
 | lst (xs:jf)
 | tup (xs:jf)
 | dK (kvs:List (Zb×V)) | dT (kvs:List (jC×V))
 | set (S:Int->Bool) (n:Nat)
 | ins (C dx:ak) (fs:List (Str×V))
 | own (x:ak)
 | xd (fs:List (Str×V))
 | met (f x:ak)
 | rng (lo hi:Int)
 | frz (o:aI) (u:HO)
 | tbl (ps:ju)
 | ext (φ:aE->Prop)
abbrev Hp:=ak->Option HO
def upd(H:Hp)(a:ak)(o:HO):Hp:=λb=>if b=a then some o else H b
def ZM{H:Hp}{a:ak}{o:HO}:upd H a o a=some o:=by unfold upd;rw[aO rfl]
def ZS{H:Hp}{a b:ak}{o:HO}(h:b≠a):upd H a o b=H b:=by unfold upd;rw[aM h]
def Mw{H:Hp}{a:ak}{o u:HO}:upd (upd H a o) a u=upd H a u:=by
 funext b;unfold upd;split <;> rfl
def ZV{H:Hp}{a b:ak}{o u:HO}(h:H a=some o)(c:H b=some u)(d:o≠u:=by intro z;cases z):a≠b:=by
 intro e;subst e;rw[h] at c;exact d (zG.inj c)
def ZY{H:Hp}{a b:ak}{o:HO}(h:H a=some o)(c:H b=none):a≠b:=by
 intro e;subst e;rw[h] at c;cases c
section
variable(P:am)(w:ax)
def Ze(H:Hp)(h:aE)(a:ak):HO->Prop
 | .lst c=>c.length<=ar/\∃(b:je)(n:Nat),ZO c b/\h.get? a=some { cls:=.type "list",data:=.seq b.toArray n }
 | .tup c=>c.length<=ar/\∃ b:je,ZO c b/\IsTup h a b.toArray
 | .dK kvs=>kvs.length<=ar/\(a==sysModules)=false/\∃ l,KV kvs l/\h.DictOf (V0 P w) a l
 | .dT kvs=>kvs.length<=ar/\(a==sysModules)=false/\∃ c:List (jC×ak×aj),
   Paired (fun(p:jC×V)(q:jC×ak×aj)=>p.1=q.1/\H q.2.1=some (.tup (p.1.map kV))/\ZQ p.2 q.2.2) kvs c /\
   ∃ o i m,h.get? a=some o/\o.ExactDict/\o.data=.dict i m/\i.toList=c.map (entryOfKey (tupleKind (V0 P w)))/\(c.map (·.1)).Nodup
 | .set S n=>h.SetOf (intKind P w) a S n
 | .ins C g e=>H g=some (.own a)/\e.length<=1000/\g≠a/\h.get? a=some (vZ C g) /\
   ∃ d,h.Ns1 g d/\(∀ f,Yl (e.lookup f) (d f))/\PySem.Within d (e.map (·.1))
 | .own _=>∃ o,h.get? a=some o
 | .xd e=>∃ d,h.Ns1 a d/\∀ f,Yl (e.lookup f) (d f)
 | .rng lo r=>∃ t u v,h.get? a=some { cls:=.type "range",data:=.fields #[.int lo t,.int r u,.int 1 v] }
 | .frz o u=>h.get? a=some o/\Ze H h a u
 | .tbl ps=>h.get? a=some { cls:=.none,data:=.fields ps }
 | .met f x=>h.get? a=some (rD (.ref f) (.ref x))
 | .ext φ=>φ h/\(∃ o,h.get? a=some o)/\∀ j k:aE,φ j->(∀ o,j.get? a=some o->k.get? a=some o)->φ k
def Yv(H:Hp)(h:aE):Prop:=∀ a o,H a=some o->Ze P w H h a o
end
section
variable{P:am}{w:ax}{H H':Hp}{h h':aE}{a:ak}{o:HO}
def Ze.lt(x:Ze P w H h a o):a<h.objs.size:=by
 cases o with
 | lst d=>obtain⟨_,_,_,_,e⟩:=x;exact zN e
 | tup d=>obtain⟨_,_,_,p⟩:=x;exact p.lt
 | dK b=>obtain⟨_,_,_,_,o,_,_,e,_⟩:=x;exact zN e
 | dT b=>obtain⟨_,_,_,_,o,_,_,e,_⟩:=x;exact zN e
 | set S n=>obtain⟨o,_,_,_,e,_⟩:=x;exact zN e
 | ins C g c=>obtain⟨_,_,_,e,_⟩:=x;exact zN e
 | own y=>obtain⟨_,e⟩:=x;exact zN e
 | xd c=>obtain⟨_,⟨_,_,_,e,_⟩,_⟩:=x;exact zN e
 | rng j i=>obtain⟨_,_,_,e⟩:=x;exact zN e
 | frz k u=>obtain⟨e,_⟩:=x;exact zN e
 | tbl l=>exact zN (show h.get? a=some _ from x)
 | met f y=>exact zN (show h.get? a=some _ from x)
 | ext m=>obtain⟨_,⟨_,e⟩,_⟩:=x;exact zN e
def Paired.mapP{e g:Type}{F G:e->g->Prop}:∀{c:List e}{d:List g},Paired F c d->(∀ a b,F a b->G a b)->Paired G c d:=by intro _ _ h f;induction h with
 | nil=>exact .nil
 | cons r _ i=>exact .cons (f _ _ r) i
def Ze.stay(x:Ze P w H h a o)(k:∀ b u,(b=a\/H b=some (.own a))->h.get? b=some u->h'.get? b=some u)(I:∀ b,H b=some (.own a)->H' b=some (.own a))(J:∀ b m,H b=some (.tup m)->H' b=some (.tup m)):Ze P w H' h' a o:=by
 induction o with
 | lst m=>obtain⟨z,l,n,r,e⟩:=x;exact⟨z,l,n,r,k _ _ (.inl rfl) e⟩
 | tup m=>obtain⟨z,l,r,g,e,c⟩:=x;exact⟨z,l,r,g,k _ _ (.inl rfl) e,c⟩
 | dK s=>obtain⟨z,y,M,r,g,j,i,e,c⟩:=x;exact⟨z,y,M,r,g,j,i,k _ _ (.inl rfl) e,c⟩
 | dT s=>
  obtain⟨z,y,m,r,g,j,i,e,c⟩:=x;exact⟨z,y,m,Paired.mapP r λp q z=>⟨z.1,J _ _ z.2.1,z.2.2⟩,g,j,i,k _ _ (.inl rfl) e,c⟩
 | set S n=>obtain⟨g,j,i,t,e,c⟩:=x;exact⟨g,j,i,t,k _ _ (.inl rfl) e,c⟩
 | ins C N G=>
  obtain⟨d,z,L,e,A,⟨B,j,i,F,c⟩,r⟩:=x;exact⟨I _ d,z,L,k _ _ (.inl rfl) e,A,⟨B,j,i,k _ _ (.inr d) F,c⟩,r⟩
 | own y=>obtain⟨g,e⟩:=x;exact⟨g,k _ _ (.inl rfl) e⟩
 | xd G=>obtain⟨A,⟨B,j,i,e,c⟩,r⟩:=x;exact⟨A,⟨B,j,i,k _ _ (.inl rfl) e,c⟩,r⟩
 | rng Q O=>obtain⟨t,u,v,e⟩:=x;exact⟨t,u,v,k _ _ (.inl rfl) e⟩
 | frz g u K=>obtain⟨e,q⟩:=x;exact⟨k _ _ (.inl rfl) e,K q⟩
 | tbl D=>
  have e:h.get? a=some { cls:=.none,data:=.fields D }:=x;show h'.get? a=some { cls:=.none,data:=.fields D };exact k a _ (.inl rfl) e
 | met f y=>
  have e:h.get? a=some (rD (.ref f) (.ref y)):=x;show h'.get? a=some (rD (.ref f) (.ref y));exact k a _ (.inl rfl) e
 | ext R=>obtain⟨p,⟨o,e⟩,E⟩:=x;exact⟨E _ _ p λo q=>k _ _ (.inl rfl) q,⟨o,k _ _ (.inl rfl) e⟩,E⟩
def Yv.lt(x:Yv P w H h)(e:H a=some o):a<h.objs.size:=(x a o e).lt
def Yv.fresh(x:Yv P w H h)(e:h.objs.size<=a):H a=none:=by
 cases q:H a with
 | none=>rfl
 | some u=>exact absurd (yW (x.lt q) e) (vW _)
def Yv.kept(x:Yv P w H h)(k:∀ b u,h.get? b=some u->h'.get? b=some u):Yv P w H h':=λa o e=>
 (x a o e).stay (λb u _ q=>k b u q) (λ_ q=>q) λ_ _ q=>q
def Yv.laid(x:Yv P w H h)(k:∀ b u,h.get? b=some u->h'.get? b=some u)(i:h.objs.size<=a)(d:Ze P w (upd H a o) h' a o):Yv P w (upd H a o) h':=λb u e=>by
 have g:=x.fresh i;by_cases f:b=a
 ·subst f;rw[ZM] at e;cases e;exact d
 ·rw[ZS f] at e;exact(x b u e).stay (λc v _ q=>k c v q) (λc q=>by rw[ZS (ZY q g)];exact q) λc j q=>by rw[ZS (ZY q g)];exact q
end
def Rd(H:Hp)(a:ak)(u:HO):Prop:=H a=some u\/∃ o,H a=some (.frz o u)
def Rd.of{H:Hp}{a:ak}{u:HO}(h:H a=some u):Rd H a u:=.inl h
def Rd.ok{P:am}{w:ax}{H:Hp}{h:aE}{a:ak}{u:HO}(r:Rd H a u)(x:Yv P w H h):Ze P w H h a u:=by
 rcases r with r | ⟨o,r⟩
 ·exact x a u r
 ·obtain⟨_,q⟩:=x a _ r;exact q
def Nc:Option HO->Prop
 | some (.lst _)=>True
 | some (.dK _)=>True
 | some (.dT _)=>True
 | some (.set _ _)=>True
 | some (.ins _ _ _)=>True
 | some (.ext _)=>True
 | _=>False
section
variable{P:am}{w:ax}{H:Hp}{h h':aE}{x e:ak}{o':HO}
def Yv.write(t:Yv P w H h)(j:Nc (H x))(o:e=x\/H e=some (.own x))(k:∀ b u,b≠e->h.get? b=some u->h'.get? b=some u)(m:∃ u,h'.get? e=some u)(n:Ze P w (upd H x o') h' x o'):Yv P w (upd H x o') h':=λb u q=>by
 have d:∀ c y,H c=some (.own y)->c≠x:=λc y r z=>by subst z;rw[r] at j;exact j
 have f:∀ c l,H c=some (.tup l)->c≠x:=λc l r z=>by subst z;rw[r] at j;exact j
 by_cases g:b=x
 ·subst g;rw[ZM] at q;cases q;exact n
 ·rw[ZS g] at q;by_cases a:b=e
  ·have p:H b=some (.own x):=by
    rcases o with z | z
    ·exact absurd (a.trans z) g
    ·rw[a];exact z
   rw[q] at p;cases p;obtain⟨v,s⟩:=m;exact⟨v,by rw[a];exact s⟩
  ·refine(t b u q).stay (λc v i r=>k c v ?_ r) (λc r=>by rw[ZS (d c b r)];exact r) λc l r=>by rw[ZS (f c l r)];exact r
   rcases i with rfl | i
   ·exact a
   ·rintro rfl;rcases o with z | z
    ·exact d c b i z
    ·rw[i] at z;cases z;exact g rfl
end
structure Un(fs ex:jD)(H H':Hp)(h h':aE):Prop where
 keep:∀ b o,h.get? b=some o->H b=none->b∉fs->b∉ex->h'.get? b=some o
 slot:∀ b o,h.get? b=some o->H b=none->b∈fs->b∉ex->∃ sl,h'.get? b=some { o with slots:=sl }
 free:∀ b o,h.get? b=some o->H b=none->b∉ex->H' b=none
 there:∀ b o,h.get? b=some o->b∉ex->∃ o',h'.get? b=some o'
 tups:∀ b xs,H b=some (.tup xs)->H' b=some (.tup xs)
 frzs:∀ b o u,H b=some (.frz o u)->H' b=some (.frz o u)
 tbls:∀ b ps,H b=some (.tbl ps)->∃ more,H' b=some (.tbl (ps++more))
section
variable{fs fs' ex ex':jD}{H H1 H2:Hp}{h h1 h2 h':aE}{a x e:ak}{o:HO}
def Un.any(u:Un fs ex H H1 h h1){b:ak}{c:aI}(q:h.get? b=some c)(n:H b=none)(f:b∉ex):∃ g,h1.get? b=some { c with slots:=g }:=by
 by_cases d:b∈fs
 ·exact u.slot b c q n d f
 ·exact⟨c.slots,u.keep b c q n d f⟩
def Un.kept(k:∀ b u,h.get? b=some u->h'.get? b=some u):Un fs ex H H h h':=
 ⟨λb c q _ _ _=>k b c q,λb c q _ _ _=>⟨c.slots,k b c q⟩,λ_ _ _ n _=>n,λb c q _=>⟨c,k b c q⟩,λ_ _ q=>q,λ_ _ _ q=>q,λ_ d q=>⟨#[],by rw[q];simp⟩⟩
def Un.refl:Un fs ex H H h h:=Un.kept λ_ _ q=>q
def Un.laid(k:∀ b u,h.get? b=some u->h'.get? b=some u)(d:h.objs.size<=a)(c:H a=none):Un fs ex H (upd H a o) h h' where
 keep:=λb u q _ _ _=>k b u q
 slot:=λb u q _ _ _=>⟨u.slots,k b u q⟩
 free:=λb u q n _=>by rw[ZS (yU (yW (zN q) d))];exact n
 there:=λb u q _=>⟨u,k b u q⟩
 tups:=λb f q=>by rw[ZS (ZY q c)];exact q
 frzs:=λb u f q=>by rw[ZS (ZY q c)];exact q
 tbls:=λb g q=>⟨#[],by rw[ZS (ZY q c),q];simp⟩
def Un.write(d:Nc (H x))(l:e=x\/H e=some (.own x))(k:∀ b u,b≠e->h.get? b=some u->h'.get? b=some u)(f:∃ u,h'.get? e=some u):Un fs ex H (upd H x o) h h':=by
 have j:∀ b,H b=none->b≠x:=λb n z=>by subst z;rw[n] at d;exact d
 have i:∀ b,H b=none->b≠e:=λb n z=>by
  subst z;rcases l with r | r
  ·exact j b n r
  ·rw[n] at r;cases r
 have g:∀ b u,H b=some u->¬ Nc (some u)->b≠x:=λb u q m z=>by subst z;rw[q] at d;exact m d
 refine⟨λb u q n _ _=>k b u (i b n) q,λb u q n _ _=>⟨u.slots,k b u (i b n) q⟩,λb u q n _=>by rw[ZS (j b n)];exact n,λb u q _=>?_,
  λb p q=>by rw[ZS (g b _ q λz=>z)];exact q,λb u p q=>by rw[ZS (g b _ q λz=>z)];exact q,λb s q=>⟨#[],by rw[ZS (g b _ q λz=>z),q];simp⟩⟩
 by_cases c:b=e
 ·subst c;exact f
 ·exact⟨u,k b u c q⟩
end
def LE(h:aE)(H:Hp):List Addr:=(yX h.objs.size).filter λa=>(H a).isSome
def Pi(h:aE)(H:Hp):Heap:=uN h (LE h H)
def ZJI(h:aE)(H:Hp):(Pi h H).objs.size=h.objs.size:=PySem.W.hideAll_size _ _
def ZMf{h:aE}{H:Hp}{b:ak}{o:aI}(e:h.get? b=some o)(n:H b=none):(Pi h H).get? b=some o:=
 zEG _ e λa=>by
  have q:(H b).isSome=true:=(wB.mp a).2;rw[n] at q;simp at q
def A7{h:aE}{H:Hp}{b:ak}{o:aI}(e:(Pi h H).get? b=some o):h.get? b=some o/\H b=none:=by
 have a:h.get? b=some o:=zEO (LE h H) e;exists a
 cases q:H b with
 | none=>rfl
 | some x=>
  have c:b∈LE h H:=wB.mpr ⟨xY.mpr (zN a),by simp[q]⟩
  have z:(Pi h H).get? b=none:=zEC (LE h H) c;rw[z] at e;cases e
def ZOS(g h:aE)(L:ak):js:=(yX h.objs.size).filterMap λa=>if a=L\/(g.get? a).isSome=true then none else (h.get? a).map λo=>(a,o)
def rest(g h:aE)(L d:ak):js:=(ZOS g h L).filter λp=>decide (p.1≠d)
structure Mod(K:zZ)(mg:jc)(km:aE):Prop where
 kin:K.In km
 glob:km.Ns aq mg
 blt:∃ mb,km.Ns builtinsNs mb/\∀ x:Str,x ≠ "__name__"->mb x=az x
 nolimit:km.NoLimit
structure Cx where
 prog:am
 w:ax
 K:zZ
 mg:jc
 base:aE
 A:ay
 N:jr
 s₀:al
 H₀:Hp
 env:Env
 outer:jx
 stack:jx
 ex:jD
 fn:Str->Bool
 calm:Bool
 pn:js
 xe:ja
def frs(l:jx):List Addr:=l.filterMap (·.frame)
abbrev Cx.fs(X:Cx):List Addr:=frs X.outer
def J9(a:aF)(x:Str):Prop:=a.names.lookup x=some .local\/a.names.lookup x=some .cell\/a.names.lookup x=some .free
def NA(a:aF)(x:Str):Prop:=a.names.lookup x=some .local\/a.names.lookup x=some .cell
def ZSh(a:Env)(h:aE)(m:jc)(x:Str)(u:aj):Prop:=
 (a.kindOf x=some .local/\m x=some u)\/((a.kindOf x=some .cell\/a.kindOf x=some .free)/\∃ c,a.cells.lookup x=some c/\h.IsCell c (some u))
structure Cx.Ok(X:Cx):Prop where
 mod:Mod X.K X.mg X.base
 kind:X.env.scope.kind=.function
 glob:X.env.globals=aq
 blt:X.env.builtins=builtinsNs
 above:X.s₀.heap.objs.size<=X.env.locals
 inj:∀ x y c,X.env.cells.lookup x=some c->X.env.cells.lookup y=some c->x=y
 has:∀ x,(X.env.kindOf x=some .cell\/X.env.kindOf x=some .free)->∃ c,X.env.cells.lookup x=some c
 cab:∀ x c,X.fn x=true->X.env.cells.lookup x=some c->X.s₀.heap.objs.size<=c
 hd:X.calm=true->X.A.handled=none
 frames:X.A.frames=some X.stack
 stk:X.stack=X.outer\/(X.stack=X.env::X.outer/\X.env.frame=some X.env.locals)
 exf:∀ b∈X.ex,b≠X.env.locals/\∀ x c,X.env.cells.lookup x=some c->c≠b
 bs:∀ b o,X.base.get? b=some o->X.s₀.heap.get? b=some o/\X.H₀ b=none
 bsz:X.base.objs.size<=X.s₀.heap.objs.size
 noex:∀ b o,X.base.get? b=some o->b∉X.ex
 exfs:∀ b∈X.ex,b∉X.fs
 funs:X.s₀.heap.FunFrames X.base X.outer
 frf:∀ b∈X.fs,X.H₀ b=none
structure ZF(X:Cx)(kj:js)(σ:List (jg))(H:Hp)(s:al):Prop where
 ok:X.Ok
 os:s.os=X.s₀.os
 bare:AllBare s.gens
 base:Un X.fs X.ex X.H₀ H X.s₀.heap s.heap
 loc:∃ m,s.heap.Ns X.env.locals m/\∀(i:Nat)(x:Str)(v:V),X.N[i]? = some x->σ[i]? = some (some v)->J9 X.env.scope x->∃ u,ZQ v u/\ZSh X.env s.heap m x u
 cell:∀ x c,X.env.cells.lookup x=some c->∃ v,s.heap.IsCell c v
 free:H X.env.locals=none
 freeC:∀ x c,X.env.cells.lookup x=some c->H c=none
 pin:∀ p∈X.pn++kj,s.heap.get? p.1=some p.2/\H p.1=none/\p.1≠X.env.locals/\p.1∉X.fs/\∀ v,p.2.data≠.cell v
 hok:Yv X.prog X.w H s.heap
 len:σ.length=X.N.length
section
variable{X:Cx}{kj:js}{σ:List (jg)}{H H':Hp}{s:al}{h':aE}
def Cx.Ok.nofr(c:X.Ok){b:ak}{o:aI}(e:X.base.get? b=some o):b∉X.fs:=λa=>by
 have:=(c.funs.mem a).1;rw[e] at this;cases this
def ZF.bs(I:ZF X kj σ H s):∀ b o,X.base.get? b=some o->s.heap.get? b=some o/\H b=none:=λb o e=>
 ⟨I.base.keep b o (I.ok.bs b o e).1 (I.ok.bs b o e).2 (I.ok.nofr e) (I.ok.noex b o e),I.base.free b o (I.ok.bs b o e).1 (I.ok.bs b o e).2 (I.ok.noex b o e)⟩
def ZF.bk(I:ZF X kj σ H s):∀ b o,X.base.get? b=some o->s.heap.get? b=some o:=λb o e=>(I.bs b o e).1
def ZF.mod(I:ZF X kj σ H s):Mod X.K X.mg X.base:=I.ok.mod
def ZF.kIn(I:ZF X kj σ H s):X.K.In s.heap:=I.ok.mod.kin.keeps I.bk
def ZF.lt(I:ZF X kj σ H s):X.env.locals<s.heap.objs.size:=let ⟨_,hn,_⟩:=I.loc;hn.lt
def ZF.sz(I:ZF X kj σ H s):X.s₀.heap.objs.size<=s.heap.objs.size:=zS I.ok.above (yG I.lt)
def ZF.nofs(I:ZF X kj σ H s){a:ak}(h:s.heap.objs.size<=a):a∉X.fs:=λb=>by
 obtain⟨_,o,c,_⟩:=I.ok.funs.mem b;exact absurd (yW (zN c) (zS I.sz h)) (vW _)
def ZF.cne(I:ZF X kj σ H s):∀ x c,X.env.cells.lookup x=some c->c≠X.env.locals:=λx c e z=>by
 obtain⟨v,o,f,d⟩:=I.cell x c e;obtain⟨m,⟨i,h,g,b,a,_⟩,_⟩:=I.loc;rw[z,b] at f;cases f;rw[a] at d;cases d
def ZF.funs(I:ZF X kj σ H s):s.heap.FunFrames X.base X.outer:=by
 have a:∀(l:jx),(∀ b∈frs l,b∈X.fs)->X.s₀.heap.FunFrames X.base l->s.heap.FunFrames X.base l:=by
  intro l
  induction l with
  | nil=>intro _ _;trivial
  | cons h r q=>
   intro g k;obtain⟨j,⟨L,o,f,m,n,i⟩,p⟩:=k;have c:L∈X.fs:=g L (by unfold frs;rw[vN,f];exact zC)
   obtain⟨t,e⟩:=I.base.slot L o n (I.ok.frf L c) c λz=>I.ok.exfs L z c;exact⟨j,⟨L,_,f,m,e,i⟩,q (λb d=>g b (by unfold frs;rw[vN,f];exact zI _ d)) p⟩
 exact a X.outer (λ_ d=>d) I.ok.funs
def ZF.stack(I:ZF X kj σ H s):s.heap.FunFrames X.base X.stack:=by
 rcases I.ok.stk with e | ⟨e,a⟩
 ·rw[e];exact I.funs
 ·rw[e];obtain⟨m,b,_⟩:=I.loc;refine .cons (by rw[I.ok.kind];decide) a b ?_ I.funs
  exact uA (zS I.ok.bsz I.ok.above)
def ZF.stkSub(I:ZF X kj σ H s):∀ b∈frs X.stack,b∈X.env.locals::X.fs:=λb a=>by
 rcases I.ok.stk with e | ⟨e,c⟩
 ·rw[e] at a;exact zI _ a
 ·rw[e] at a;unfold frs at a;rw[vN,c] at a;exact a
def ZF.stkFree(I:ZF X kj σ H s):∀ b∈frs X.stack,H b=none:=λb a=>by
 rcases zF.mp (I.stkSub b a) with e | a
 ·rw[e];exact I.free
 ·obtain⟨_,o,c,_⟩:=I.ok.funs.mem a;exact I.base.free b o c (I.ok.frf b a) λz=>I.ok.exfs b z a
def ZF.step{g':Array GenState}{t':Nat}{d':Drawn}{ch:jD}(I:ZF X kj σ H s)(h:∀ b∈ch,(b∈X.ex\/X.s₀.heap.objs.size<=b)/\b≠X.env.locals/\(∀ x c,X.env.cells.lookup x=some c->c≠b)/\∀ p∈X.pn++kj,p.1≠b)(j:∀ b o,b≠X.env.locals->b∉X.fs->b∉ch->s.heap.get? b=some o->H b=none->h'.get? b=some o)(B:∀ b o,b≠X.env.locals->b∈X.fs->b∉ch->s.heap.get? b=some o->H b=none->∃ S,h'.get? b=some { o with slots:=S })(f:∀ b o,b∉ch->s.heap.get? b=some o->H b=none->H' b=none)(E:∀ b o,b∉ch->s.heap.get? b=some o->∃ M,h'.get? b=some M)(O:∀ b C,H b=some (.tup C)->H' b=some (.tup C))(J:∀ b o u,H b=some (.frz o u)->H' b=some (.frz o u))(N:∀ b P,H b=some (.tbl P)->∃ K,H' b=some (.tbl (P++K)))(ns:∀ m,s.heap.Ns X.env.locals m->h'.Ns X.env.locals m)(R:Yv X.prog X.w H' h')(hg:AllBare g'):
  ZF X kj σ H' { s with heap:=h',gens:=g',drawn:=d',toks:=t' }:=by
 have L:∀ b o,X.s₀.heap.get? b=some o->b≠X.env.locals:=λb o e=>yU (yW (zN e) I.ok.above);have A:∀ b o,X.s₀.heap.get? b=some o->b∉X.ex->b∉ch:=λb o e a D=>by
  rcases(h b D).1 with z | z
  ·exact a z
  ·exact absurd (yW (zN e) z) (vW _)
 have g:∀ x c,X.env.cells.lookup x=some c->∀ v,s.heap.IsCell c v->h'.IsCell c v:=λx c e v ⟨o,F,Q⟩=>by
  have t:c∉ch:=λz=>(h c z).2.2.1 x c e rfl;by_cases U:c∈X.fs
  ·obtain⟨S,q⟩:=B c o (I.cne x c e) U t F (I.freeC x c e);exact⟨_,q,Q⟩
  ·exact⟨o,j c o (I.cne x c e) U t F (I.freeC x c e),Q⟩
 refine⟨I.ok,I.os,hg,⟨λb o e n D a=>?_,λb o e n D a=>?_,λb o e n a=>?_,λb o e a=>?_,λb C e=>O b C (I.base.tups b C e),λb o C e=>J b o C (I.base.frzs b o C e),λb P e=>?_⟩,?_,λx c e=>?_,?_,λx c e=>?_,λp V=>?_,R,I.len⟩
 ·exact j b o (L b o e) D (A b o e a) (I.base.keep b o e n D a) (I.base.free b o e n a)
 ·obtain⟨S,y⟩:=I.base.slot b o e n D a;obtain⟨T,G⟩:=B b _ (L b o e) D (A b o e a) y (I.base.free b o e n a);exact⟨T,G⟩
 ·obtain⟨M,y⟩:=I.base.there b o e a;exact f b M (A b o e a) y (I.base.free b o e n a)
 ·obtain⟨M,y⟩:=I.base.there b o e a;exact E b M (A b o e a) y
 ·obtain⟨m1,y⟩:=I.base.tbls b P e;obtain⟨m2,G⟩:=N b _ y;exact⟨m1++m2,by rw[G,Array.append_assoc]⟩
 ·obtain⟨m,hn,hl⟩:=I.loc;exists m,ns m hn;intro i x v y G Z;obtain⟨u,r,l⟩:=hl i x v y G Z;exists u,r;rcases l with l | ⟨k,c,e,z⟩
  ·exact .inl l
  ·exact .inr ⟨k,c,e,g x c e _ z⟩
 ·obtain⟨v,z⟩:=I.cell x c e;exact⟨v,g x c e v z⟩
 ·obtain⟨m,⟨o,_,_,F,_⟩,_⟩:=I.loc;exact f _ o (λz=>(h _ z).2.1 rfl) F I.free
 ·obtain⟨v,o,F,Q⟩:=I.cell x c e;exact f c o (λz=>(h c z).2.2.1 x c e rfl) F (I.freeC x c e)
 ·obtain⟨e,n,W,Y,d⟩:=I.pin p V;have t:p.1∉ch:=λz=>(h p.1 z).2.2.2 p V rfl;exact⟨j p.1 p.2 W Y t e n,f p.1 p.2 t e n,W,Y,d⟩
def ZF.un{t':Nat}(I:ZF X kj σ H s)(u:Un X.fs [] H H' s.heap h')(g:Yv X.prog X.w H' h'):ZF X kj σ H' { s with heap:=h',toks:=t' }:=by
 obtain⟨m,⟨o,p,l,h,r⟩,_⟩:=id I.loc;obtain⟨v,i⟩:=u.any h I.free (by simp)
 exact I.step (g':=s.gens) (d':=s.drawn) (ch:=[]) (λ_ z=>nomatch z) (λb o _ f _ e n=>u.keep b o e n f (by simp)) (λb o _ f _ e n=>u.slot b o e n f (by simp)) (λb o _ e n=>u.free b o e n (by simp)) (λb o _ e=>u.there b o e (by simp)) u.tups u.frzs u.tbls (λq j=>by
  obtain⟨t,d,c,a,k⟩:=j;rw[h] at a;cases a;exact⟨_,d,c,i,k⟩) g I.bare
def ZF.call{g':Array GenState}{t':Nat}{d':Drawn}{ch:jD}(I:ZF X kj σ H s)(u:Un (frs X.stack) ch H H' s.heap h')(j:Yv X.prog X.w H' h')(q:AllBare g')(d:∀ b∈ch,(b∈X.ex\/X.s₀.heap.objs.size<=b)/\b≠X.env.locals/\(∀ x c,X.env.cells.lookup x=some c->c≠b)/\∀ p∈X.pn++kj,p.1≠b):
  ZF X kj σ H' { s with heap:=h',gens:=g',drawn:=d',toks:=t' }:=by
 obtain⟨m,⟨o,A,y,k,r⟩,_⟩:=id I.loc;obtain⟨D,i⟩:=u.any k I.free λz=>(d _ z).2.1 rfl;exact I.step (ch:=ch) d (λb o i l a e n=>u.keep b o e n (λz=>(zF.mp (I.stkSub b z)).elim i l) a) (λb o _ _ a e n=>u.any e n a) (λb o a e n=>u.free b o e n a) (λb o a e=>u.there b o e a) u.tups u.frzs u.tbls (λB t=>by
  obtain⟨C,h,g,f,v⟩:=t;rw[k] at f;cases f;exact⟨_,h,g,i,v⟩) j q
def ZF.turned{t':Nat}{it:ak}(I:ZF X kj σ H s)(k:∀ b o,b≠it->s.heap.get? b=some o->h'.get? b=some o)(y:H it=none)(f:it≠X.env.locals)(i:it∈X.ex\/X.s₀.heap.objs.size<=it)(j:∀ x c,X.env.cells.lookup x=some c->c≠it)(l:∀ p∈X.pn++kj,p.1≠it):ZF X kj σ H { s with heap:=h',toks:=t' }:=by
 have d:∀ b u,H b=some u->b≠it:=λb u e z=>by rw[z,y] at e;cases e
 refine I.step (g':=s.gens) (d':=s.drawn) (ch:=[it]) (λb t=>?_) (λb o _ _ a e _=>k b o (λz=>a (by simp[z])) e) (λb o _ _ a e _=>⟨o.slots,k b o (λz=>a (by simp[z])) e⟩) (λ_ _ _ _ n=>n)
  (λb o a e=>⟨o,k b o (λz=>a (by simp[z])) e⟩) (λ_ _ e=>e) (λ_ _ _ e=>e) (λb B e=>⟨#[],by rw[e];simp⟩) (λm w=>?_) (λb u e=>?_) I.bare
 ·have e:b=it:=by simpa using t
  subst e;exact⟨i,f,j,l⟩
 ·obtain⟨o,h,g,A,r⟩:=w;exact⟨o,h,g,k _ o (Ne.symm f) A,r⟩
 ·refine(I.hok b u e).stay (λc v a q=>k c v ?_ q) (λ_ q=>q) λ_ _ q=>q;rcases a with z | z
  ·rw[z];exact d b u e
  ·exact d c _ z
def ZF.tok(I:ZF X kj σ H s)(t:Nat):ZF X kj σ H { s with toks:=t }:=I.un (h':=s.heap) (t':=t) Un.refl I.hok
def ZF.kept{t':Nat}(I:ZF X kj σ H s)(k:∀ b u,s.heap.get? b=some u->h'.get? b=some u):ZF X kj σ H { s with heap:=h',toks:=t' }:=I.un (Un.kept k) (I.hok.kept k)
def ZF.laid{a:ak}{o:HO}{t':Nat}(I:ZF X kj σ H s)(k:∀ b u,s.heap.get? b=some u->h'.get? b=some u)(c:s.heap.objs.size<=a)(d:Ze X.prog X.w (upd H a o) h' a o):
  ZF X kj σ (upd H a o) { s with heap:=h',toks:=t' }:=I.un (Un.laid k c (I.hok.fresh c)) (I.hok.laid k c d)
def ZF.write{x e:ak}{o:HO}{g:Nat}(I:ZF X kj σ H s)(f:Nc (H x))(d:e=x\/H e=some (.own x))(k:∀ b u,b≠e->s.heap.get? b=some u->h'.get? b=some u)(a:∃ u,h'.get? e=some u)(c:Ze X.prog X.w (upd H x o) h' x o):ZF X kj σ (upd H x o) { s with heap:=h',toks:=g }:=I.un (Un.write f d k a) (I.hok.write f d k a c)
def ZF.pins_of{a:js}(I:ZF X kj σ H s)(h:∀ p∈a,s.heap.get? p.1=some p.2/\H p.1=none/\p.1≠X.env.locals/\p.1∉X.fs/\∀ v,p.2.data≠.cell v):ZF X a σ H s:=
 ⟨I.ok,I.os,I.bare,I.base,I.loc,I.cell,I.free,I.freeC,λp b=>(yQ.mp b).elim (λz=>I.pin p (wS _ z)) (h p),I.hok,I.len⟩
def J8{N:jr}(e:N.Nodup){i j:Nat}{x:Str}(a:N[i]? = some x)(b:N[j]? = some x):i=j:=by
 obtain⟨f,c⟩:=yT.mp a;obtain⟨g,d⟩:=yT.mp b;exact(List.getElem_inj e).mp (c.trans d.symm)
def CL{M:Model}{A:ay}{E:ja}{i:Nat}{x:Str}{v:V}{u:aj}{Q:Unit->al->Prop}(I:ZF X kj σ H s)(hN:X.N.Nodup)(T:X.N[i]? = some x)(B:NA X.env.scope x)(r:ZQ v u)(h:∀ s',ZF X kj (σ.set i (some v)) H s'->(∃ a,yD a s.heap s'.heap/\(a=X.env.locals\/X.env.cells.lookup x=some a))->Q () s')(hf:X.fn x=true\/X.env.scope.names.lookup x=some .local:=by first | exact .inl rfl | exact .inr rfl | assumption):aC M A (storeName X.env x u) Q E s:=by
 obtain⟨m,hn,hl⟩:=id I.loc;have S:(X.env.scope.kind==.class || (X.env.scope.kind==.module&&X.env.locals != X.env.globals))=false:=by rw[I.ok.kind];rfl
 have F:i<σ.length:=by rw[I.len];exact(yT.mp T).1
 have J:=I.cne;have l:∀{a:ak}{h':aE},(∃ o,s.heap.get? a=some o/\H a=none)->yD a s.heap h'->Yv X.prog X.w H h':=fun{a h'} ha f b ob e=>by
  obtain⟨_,_,C⟩:=ha;refine(I.hok b ob e).stay (λc w' t q=>(f.2 c ?_).trans q) (λ_ q=>q) λ_ _ q=>q;rintro rfl;rcases t with rfl | t
  ·rw[C] at e;cases e
  ·rw[C] at t;cases t
 rcases B with G | G
 ·refine wpAny_storeName_local G hn (λh' a0 f=>?_) S;obtain⟨oL,_,_,a1,_⟩:=id hn;refine h _ ⟨I.ok,I.os,I.bare,⟨λb o e n K B=>?_,λb o e n K B=>?_,I.base.free,λb o e B=>?_,I.base.tups,I.base.frzs,I.base.tbls⟩,⟨_,a0,λj y v' g D e3=>?_⟩,λy c e=>?_,I.free,I.freeC,λp hp=>?_,l ⟨oL,a1,I.free⟩ f,by simpa using I.len⟩ ⟨_,f,.inl rfl⟩
  ·exact(f.2 b (yU (yW (zN e) I.ok.above))).trans (I.base.keep b o e n K B)
  ·obtain⟨sl,g⟩:=I.base.slot b o e n K B;exact⟨sl,(f.2 b (yU (yW (zN e) I.ok.above))).trans g⟩
  ·obtain⟨o',g⟩:=I.base.there b o e B;exact⟨o',(f.2 b (yU (yW (zN e) I.ok.above))).trans g⟩
  ·by_cases O:j=i
   ·subst O;rw[T] at g;cases g;rw[qG F] at D;cases D;exact⟨u,r,.inl ⟨G,by simp⟩⟩
   ·rw[qX (Ne.symm O)] at D;obtain⟨u',r',q⟩:=hl j y v' g D e3;exists u',r';rcases q with ⟨k,e⟩ | ⟨k,c,e,z⟩
    ·refine .inl ⟨k,?_⟩;have:y≠x:=λe=>O (J8 hN g (e ▸ T));simp[this,e]
    ·exact .inr ⟨k,c,e,z.sameBut f (J y c e)⟩
  ·obtain⟨w',z⟩:=I.cell y c e;exact⟨w',z.sameBut f (J y c e)⟩
  ·obtain⟨e,n,Z,nf,d⟩:=I.pin p hp;exact⟨(f.2 p.1 Z).trans e,n,Z,nf,d⟩
 ·have L:X.fn x=true:=by
   rcases hf with z | z
   ·exact z
   ·rw[z] at G;cases G
  obtain⟨c,t⟩:=I.ok.has x (.inl G);obtain⟨w',z⟩:=I.cell x c t;refine wpAny_storeName_cell I.ok.kind G t z (λh' P f=>?_);obtain⟨oc,U,W⟩:=id z;refine h { s with heap:=h' } ⟨I.ok,I.os,I.bare,⟨λb o e n K B=>?_,λb o e n K B=>?_,I.base.free,λb o e B=>?_,I.base.tups,I.base.frzs,I.base.tbls⟩,⟨m,hn.sameBut f (Ne.symm (J x c t)),λj y v' g D e3=>?_⟩,λy Y e=>?_,I.free,I.freeC,λp hp=>?_,l ⟨oc,U,I.freeC x c t⟩ f,by simpa using I.len⟩ ⟨c,f,.inr t⟩
  ·exact(f.2 b (yU (yW (zN e) (I.ok.cab x c L t)))).trans (I.base.keep b o e n K B)
  ·obtain⟨sl,g⟩:=I.base.slot b o e n K B;exact⟨sl,(f.2 b (yU (yW (zN e) (I.ok.cab x c L t)))).trans g⟩
  ·obtain⟨o',g⟩:=I.base.there b o e B;exact⟨o',(f.2 b (yU (yW (zN e) (I.ok.cab x c L t)))).trans g⟩
  ·by_cases O:j=i
   ·subst O;rw[T] at g;cases g;rw[qG F] at D;cases D;exact⟨u,r,.inr ⟨.inl G,c,t,P⟩⟩
   ·rw[qX (Ne.symm O)] at D;obtain⟨u',r',q⟩:=hl j y v' g D e3;exists u',r';rcases q with q | ⟨k,Y,e,z'⟩
    ·exact .inl q
    ·refine .inr ⟨k,Y,e,z'.sameBut f ?_⟩;rintro rfl;exact O (J8 hN g (I.ok.inj _ _ _ e t ▸ T))
  ·by_cases R:Y=c
   ·subst R;exact⟨_,P⟩
   ·obtain⟨w2,z2⟩:=I.cell y Y e;exact⟨w2,z2.sameBut f R⟩
  ·obtain⟨e,n,Z,nf,d⟩:=I.pin p hp;refine⟨(f.2 p.1 ?_).trans e,n,Z,nf,d⟩;intro q;rw[q,U] at e;have q':oc=p.2:=zG.inj e;exact d w' (by rw[<-q'];exact W)
def HC{M:Model}{A:ay}{E:ja}{i:Nat}{x:Str}{v:V}{u:aj}{Q:Unit->al->Prop}(I:ZF X kj σ H s)(c:X.N.Nodup)(e:X.N[i]? = some x)(f:NA X.env.scope x)(r:ZQ v u)(h:∀ a,ZF X kj (σ.set i (some v)) H a->Q () a)(d:X.fn x=true\/X.env.scope.names.lookup x=some .local:=by first | exact .inl rfl | exact .inr rfl | assumption):aC M A (storeName X.env x u) Q E s:=
 CL I c e f r (λa b _=>h a b) d
def ZF.call'{s':al}{ch:jD}(I:ZF X kj σ H s)(i:s'.os=s.os)(u:Un (frs X.stack) ch H H' s.heap s'.heap)(d:Yv X.prog X.w H' s'.heap)(h:AllBare s'.gens)(a:∀ b∈ch,(b∈X.ex\/X.s₀.heap.objs.size<=b)/\b≠X.env.locals/\(∀ x c,X.env.cells.lookup x=some c->c≠b)/\∀ p∈X.pn++kj,p.1≠b):ZF X kj σ H' s':=by
 obtain⟨h',g,f,k,j⟩:=s';have e:j=s.os:=i;subst e;exact I.call (g':=g) (t':=k) (d':=f) u d h a
end
abbrev XK:=aj->jA->Hp->Prop
abbrev St:=List (jg)
abbrev VK:=V->Hp->Prop
abbrev TE:=St->Hp->VK->Prop
abbrev TT:=St->Hp->(Bool->Hp->Prop)->Prop
abbrev TA:=St->Hp->(jf->Hp->Prop)->Prop
structure Z8 where
 nx:St->Hp->Prop
 rt:VK
 bk:St->Hp->Prop:=λ_ _=>False
 ct:St->Hp->Prop:=λ_ _=>False
abbrev TS:=Z8->St->Hp->Prop
def EP(X:Cx)(a:js)(d:St)(Q:VK)(u:aj)(c:al):Prop:=∃ v b,ZF X a d b c/\ZQ v u/\Q v b
def TP(X:Cx)(a:js)(e:St)(Q:Bool->Hp->Prop)(b:Bool)(d:al):Prop:=∃ c,ZF X a e c d/\Q b c
def AP(X:Cx)(a:js)(f:St)(Q:jf->Hp->Prop)(e:je)(d:al):Prop:=∃ c b,ZF X a f b d/\ZO c e/\Q c b
def SP(X:Cx)(b:js)(D:Z8)(f:Flow)(d:al):Prop:=
 match f with
 | .next=>∃ a c,ZF X b a c d/\D.nx a c
 | .brk=>∃ a c,ZF X b a c d/\D.bk a c
 | .cont=>∃ a c,ZF X b a c d/\D.ct a c
 | .ret u=>∃ v a c,ZF X b a c d/\ZQ v u/\D.rt v c
def PE(X:Cx)(e:Expr)(t:TE):Prop:=
 ∀(a:js)(s:al)(b:St)(H:Hp)(Q:VK),ZF X a b H s->t b H Q->aC (aB X.prog X.w) X.A (aH e X.env) (EP X a b Q) X.xe s
def PT(X:Cx)(e:Expr)(t:TT):Prop:=
 ∀(a:js)(s:al)(b:St)(H:Hp)(Q:Bool->Hp->Prop),ZF X a b H s->t b H Q->aC (aB X.prog X.w) X.A (isTrue e X.env (aH e X.env)) (TP X a b Q) X.xe s
def PW(X:Cx)(e:Expr)(t:TT):Prop:=
 ∀(b:Sem aj)(a:js)(s:al)(c:St)(H:Hp)(Q:Bool->Hp->Prop),ZF X a c H s->t c H Q->aC (aB X.prog X.w) X.A (isTrue e X.env b) (TP X a c Q) X.xe s
def PW.pt{X:Cx}{e:Expr}{t:TT}(h:PW X e t):PT X e t:=h _
def PA(X:Cx)(c:jB)(t:TA):Prop:=
 ∀(pos:Pos)(a:js)(s:al)(b:St)(H:Hp)(Q:jf->Hp->Prop),ZF X a b H s->t b H Q->aC (aB X.prog X.w) X.A (spliced (aG pos (aw c X.env))) (AP X a b Q) X.xe s
def PS(X:Cx)(c:aD)(t:TS):Prop:=
 ∀(a:js)(s:al)(b:St)(H:Hp)(D:Z8),ZF X a b H s->t D b H->aC (aB X.prog X.w) X.A (exec c X.env) (SP X a D) X.xe s
def Xh(X:Cx)(c:jF)(t:TS):Prop:=
 ∀(a:js)(s:al)(b:St)(H:Hp)(D:Z8),ZF X a b H s->t D b H->aC (aB X.prog X.w) X.A (execs c X.env) (SP X a D) X.xe s
def Zz{c:Type}{t:Sem c}{Q b:c->al->Prop}{M:Model}{A:ay}{E:ja}{s:al}(h:aC M A t Q E s)(d:∀ a s,Q a s->b a s):aC M A t b E s:=ae h d λ_ _ x=>x
def Z7{d g i:Type}{t:Sem d}{a b c:d->al->g->i->Prop}{e:d->al->Prop}{M:Model}{A:ay}{E:ja}{s:al}(h:aC M A t (λv s=>∃ x H,a v s x H/\b v s x H/\c v s x H) E s)(f:∀ v s x H,a v s x H->b v s x H->c v s x H->e v s):aC M A t e E s:=Zz h (by rintro v s ⟨x,H,p,q,r⟩;exact f v s x H p q r)
variable{X:Cx}
section
def BW{a b:Expr}{l m:TE}(q:PE X a l)(r:PE X b m){c:js}{s:al}{e:St}{H:Hp}{R:V->V->Hp->Prop}(I:ZF X c e H s)(h:l e H λx k=>m e k λy d=>R x y d){n:Type}{Q:n->al->Prop}{f:aj->aj->Sem n}(t:∀ v u j x y d,ZF X c e d j->ZQ x v->ZQ y u->R x y d->aC (aB X.prog X.w) X.A (f v u) Q X.xe j):
  aC (aB X.prog X.w) X.A (aH a X.env) (λv g=>aC (aB X.prog X.w) X.A (aH b X.env) (λu i=>aC (aB X.prog X.w) X.A (f v u) Q X.xe i) X.xe g) X.xe s:=by
 refine Z7 (q c s e H _ I h) λv E x k o C z=>?_;refine Z7 (r c E e k _ o z) λu j y d p D B=>?_;exact t v u j x y d p C D B
inductive OO(i:Nat)(a:L2.St)(H:Hp)(Q:VK):Prop
 |mk(v:_)(_:a[i]? = some (some v))(_:Q v H)
def tC(v:V):TE:=λ_ H Q=>Q v H
def C0{i:Nat}{x:Str}{pos:Pos}(n:X.N[i]? = some x)(t:J9 X.env.scope x)(j:(x==("__debug__" : Str))=false:=by decide)(g:(x==("__classdict__" : Str))=false:=by decide):PE X (.Name x pos) (OO i):=by
 intro f s w H Q I h;obtain⟨v,e,h⟩:=h;obtain⟨m,q,o⟩:=I.loc;obtain⟨u,r,l⟩:=o i x v n e t;have b:EP X f w Q u s:=⟨v,H,I,r,h⟩;rcases l with ⟨d,p⟩ | ⟨d,c,k,a⟩
 ·exact wpAny_Name (wpAny_loadName_local I.ok.kind d q p b) j
 ·rcases d with d | d
  ·exact wpAny_Name (wpAny_loadName_cell I.ok.kind d k a b) j
  ·exact wpAny_Name (wpAny_loadName_free I.ok.kind d k a b g) j
def ZJ{i j pos}:PE X (.Constant (.int i) j pos) (tC (.int i)):=λ_ _ _ H _ I h=>wpAny_Constant_int ⟨.int i,H,I.tok _,⟨_,rfl⟩,h⟩
def Xr{b j pos}:PE X (.Constant (.bool b) j pos) (tC (.bl b)):=λ_ _ _ H _ I h=>Constant_bool ⟨.bl b,H,I,rfl,h⟩
def O1{j pos}:PE X (.Constant .none j pos) (tC .non):=λ_ _ _ H _ I h=>Constant_none ⟨.non,H,I,rfl,h⟩
def Xm{x j pos}:PE X (.Constant (.str x) j pos) (tC (.str x)):=λ_ _ _ H _ I h=>Calls.Constant_str ⟨.str x,H,I.tok _,⟨_,rfl⟩,h⟩
def Gl(X:Cx)(x:Str):Prop:=X.env.kindOf x=some .globalImplicit
def P5{E:ja}{a:js}{s:al}{e:St}{H:Hp}{x:Str}{u:aj}{pos:Pos}{Q:ja}(I:ZF X a e H s)(c:Gl X x)(d:X.mg x=some u)(h:Q u s)(b:(x==("__debug__" : Str))=false:=by decide):aC (aB X.prog X.w) X.A (aH (.Name x pos) X.env) Q E s:=
 Calls.Name_function_global I.ok.kind c (Calls.loadGlobal_global (by rw[I.ok.glob];exact I.mod.glob.keeps I.bk) d h) b
def O6{E:ja}{a:js}{s:al}{j:St}{H:Hp}{x:Str}{u:aj}{pos:Pos}{Q:ja}(I:ZF X a j H s)(e:Gl X x)(f:X.mg x=none)(i:az x=some u)(h:Q u s)(g:x ≠ "__name__" :=by decide)(d:(x==("__debug__" : Str))=false:=by decide):aC (aB X.prog X.w) X.A (aH (.Name x pos) X.env) Q E s:=by
 obtain⟨k,b,c⟩:=I.mod.blt;exact Calls.Name_function_global I.ok.kind e (Calls.loadGlobal_builtin (by rw[I.ok.glob];exact I.mod.glob.keeps I.bk) f (by rw[I.ok.blt];exact b.keeps I.bk) ((c x g).trans i) h) d
def WP{x:Str}{v:V}{u:aj}{pos:Pos}(b:Gl X x)(c:X.mg x=some u)(r:ZQ v u)(a:(x==("__debug__" : Str))=false:=by decide):PE X (.Name x pos) (tC v):=
 λ_ _ _ H _ I h=>P5 I b c ⟨v,H,I,r,h⟩ a
def Vs{x:Str}{v:V}{u:aj}{pos:Pos}(b:Gl X x)(c:X.mg x=none)(e:az x=some u)(r:ZQ v u)(d:x ≠ "__name__" :=by decide)(a:(x==("__debug__" : Str))=false:=by decide):PE X (.Name x pos) (tC v):=
 λ_ _ _ H _ I h=>O6 I b c e ⟨v,H,I,r,h⟩ d a
inductive KY(k:Int->Int->Hp->Prop)(x y:V)(a:Hp):Prop
 |mk(i j:_)(_:x=.int i)(_:y=.int j)(_:k i j a)
def t2I(d e:TE)(k:Int->Int->Hp->Prop):St->Hp->Prop:=λa H=>d a H λx b=>e a b λy c=>KY k x y c
variable{a b:Expr}{ta tb:TE}{pos:Pos}
def PC(X:Cx)(g:CmpOp)(a b:Expr)(t:TE):Prop:=
 ∀(c:js)(s:al)(f:St)(H:Hp)(Q:VK),ZF X c f H s->t f H Q ->
  aC (aB X.prog X.w) X.A (aH a X.env) (λv d=>aC (aB X.prog X.w) X.A (aH b X.env) (λu e=>aC (aB X.prog X.w) X.A (aA g v u) (EP X c f Q) X.xe e) X.xe d) X.xe s
def AJ(b:Expr){c:CmpOp}(h:c≠.In)(f:c≠.NotIn):behindInMarks c b=false:=by
 have d:(c==CmpOp.In)=false:=by cases c <;> first | rfl | exact absurd rfl h
 have e:(c==CmpOp.NotIn)=false:=by cases c <;> first | rfl | exact absurd rfl f
 cases b <;> simp[behindInMarks,d,e]
def JY(p:Int->Int->Bool)(ta tb:TE):TE:=λd H Q=>t2I ta tb (λi j c=>Q (.bl (p i j)) c) d H
abbrev tLt:TE->TE->TE:=JY λi j=>decide (i<j)
abbrev ZSS:TE->TE->TE:=JY λi j=>decide (i=j)
def Ff{d:CmpOp}{p:Int->Int->Bool}(k:PE X a ta)(l:PE X b tb)(c:∀ (i j:Int) (t u:Tok) (Q:ja) (s:al),Q (.bool (p i j)) s->aC (aB X.prog X.w) X.A (aA d (.int i t) (.int j u)) Q X.xe s):PC X d a b (JY p ta tb):=by
 intro e s z H Q I h;refine BW k l I h λv u o x y f g m n q=>?_;obtain⟨i,j,rfl,rfl,q⟩:=q;obtain⟨t,rfl⟩:=m;obtain⟨r,rfl⟩:=n;exact c i j t r _ o ⟨.bl _,f,g,rfl,q⟩
def Aa(c:PE X a ta)(d:PE X b tb):PC X .Lt a b (tLt ta tb):=Ff c d λ_ _ _ _ _ _ h=>lt_int h
def OX(c:PE X a ta)(d:PE X b tb):PC X .Eq a b (ZSS ta tb):=Ff c d λ_ _ _ _ _ _ h=>eq_int (by rw[Bool.beq_eq_decide_eq];exact h)
def Ck(ta:TE):TE:=λd H Q=>ta d H λx c=>Q (.bl (decide (x=.non))) c
def ZRJ(ta:TE):TE:=λd H Q=>ta d H λx c=>Q (.bl (!decide (x=.non))) c
def ZQ.none_iff{x:V}{v:aj}(r:ZQ x v):(v==Value.none)=decide (x=.non):=by
 cases x with
 | non=>cases r;rfl
 | bl _=>cases r;rfl
 | int _=>obtain⟨t,rfl⟩:=r;rfl
 | str _=>obtain⟨t,rfl⟩:=r;rfl
 | byt _=>obtain⟨t,rfl⟩:=r;rfl
 | flt _=>obtain⟨t,rfl⟩:=r;rfl
 | ref _=>cases r;rfl
 | ty _=>cases r;rfl
def Lo{j d}(g:PE X a ta):PC X .Is a (.Constant .none j d) (Ck ta):=by
 intro c s l H Q I h;refine Z7 (g c s l H _ I h) λv m x e f k i=>?_;exact Constant_none (is_none_gen ⟨.bl _,e,f,by rw[k.none_iff];rfl,i⟩)
def OF{j d}(g:PE X a ta):PC X .IsNot a (.Constant .none j d) (ZRJ ta):=by
 intro c s l H Q I h;refine Z7 (g c s l H _ I h) λv m x e f k i=>?_;exact Constant_none (isnot_none_gen ⟨.bl _,e,f,by rw[k.none_iff];rfl,i⟩)
inductive tBI(Q:Bool->Hp->Prop)(x:V)(d:Hp):Prop
 |mk(c:_)(_:x=.bl c)(_:Q c d)
def tB(t:TE):TT:=λd H Q=>t d H λx c=>tBI Q x c
def WA{g:CmpOp}{t:TE}(h:PC X g a b t)(f:behindInMarks g b=false:=by first | exact AJ _ (by decide) (by decide) | rfl):PT X (.Compare a [g] [b] pos) (tB t):=by
 intro e s o H Q I l;refine wpAny_isTrue_Compare1 (Zz (h e s o H _ I l) λv p f=>Zz f λu r k=>Z7 k λc w x i j n m=>?_) f;obtain⟨d,rfl,q⟩:=m;cases n;exact wpAny_truthy_bool ⟨i,j,q⟩
def Y3{e:Expr}{t:TE}(h:PE X e t)(j:∀ c,isTrue e X.env c=(do let v<-c;standAt e.pos;holding [v] (truthy v)):=by intro _;rfl):PT X e (tB t):=by
 intro f s n H Q I k;refine isTrue_plain (Z7 (h f s n H _ I k) λv o x g i m l=>?_) (j _);obtain⟨d,rfl,q⟩:=l;cases m;exact wpAny_truthy_bool ⟨g,i,q⟩
variable{tA tB':TT}{rest:jB}
def Br(t u:TT):TT:=λe H Q=>t e H λc d=>if c=true then u e d Q else Q false d
def tOr(t u:TT):TT:=λe H Q=>t e H λc d=>if c=true then Q true d else u e d Q
def ZSV(t:TT):TT:=λe H Q=>t e H λc d=>Q (!c) d
def Nb(f:PT X a tA):PW X (.BoolOp .And [a] pos) tA:=by
 intro j d s g H Q I h;refine isTrue_and (Zz (f d s g H Q I h) λc i e=>?_)
 cases c with
 | true=>exact isTrue_and_nil e
 | false=>exact e
def Pf(f:PT X a tA):PW X (.BoolOp .Or [a] pos) tA:=by
 intro j d s g H Q I h;refine isTrue_or (Zz (f d s g H Q I h) λc i e=>?_)
 cases c with
 | false=>exact isTrue_or_nil e
 | true=>exact e
def NX(j:PT X a tA)(k:PW X (.BoolOp .And (b::rest) pos) tB'):PW X (.BoolOp .And (a::b::rest) pos) (Br tA tB'):=by
 intro m d s i H Q I h;refine isTrue_and (Zz (j d s i H _ I h) ?_);rintro c l ⟨e,f,g⟩
 cases c with
 | true=>exact k m d l i e Q f g
 | false=>exact⟨e,f,g⟩
def Ph(j:PT X a tA)(k:PW X (.BoolOp .Or (b::rest) pos) tB'):PW X (.BoolOp .Or (a::b::rest) pos) (tOr tA tB'):=by
 intro m d s i H Q I h;refine isTrue_or (Zz (j d s i H _ I h) ?_);rintro c l ⟨e,f,g⟩
 cases c with
 | true=>exact⟨e,f,g⟩
 | false=>exact k m d l i e Q f g
def UB(f:PT X a tA):PT X (.UnaryOp .Not a pos) (ZSV tA):=by
 intro d s g H Q I h;exact isTrue_not (f d s g H (λc e=>Q (!c) e) I h)
inductive Oh(tb:TE)(e:L2.St)(Q:VK)(x:V)(d:Hp):Prop
 |mk(c:_)(_:x=.bl c)(_:if c=true then tb e d Q else Q (.bl false) d)
def ZRX(ta tb:TE):TE:=λc H Q=>ta c H λx d=>Oh tb c Q x d
inductive OW(Q:VK)(x:V)(d:Hp):Prop
 |mk(c:_)(_:x=.bl c)(_:Q (.bl (!c)) d)
def ZRB(ta:TE):TE:=λd H Q=>ta d H λx c=>OW Q x c
def OI{e}{t:TE}(h:PE X a t):PE X (.BoolOp e [a] pos) t:=λc s f H Q I d=>BoolOp_one (h c s f H Q I d)
def Q4(j:PE X a ta)(k:PE X (.BoolOp .And (b::rest) pos) tb):PE X (.BoolOp .And (a::b::rest) pos) (ZRX ta tb):=by
 intro d s i H Q I h;refine BoolOp_and (Z7 (j d s i H _ I h) λv m x f g l e=>?_);obtain⟨c,rfl,e⟩:=e;cases l;refine wpAny_truthy_bool ?_
 cases c with
 | true=>exact k d m i f Q g e
 | false=>exact⟨.bl false,f,g,rfl,e⟩
def D5(i:PE X a ta):PE X (.UnaryOp .Not a pos) (ZRB ta):=by
 intro d s k H Q I h;refine UnaryOp_ (Z7 (i d s k H _ I h) λv l x f g j e=>?_);obtain⟨c,rfl,e⟩:=e;cases j;exact not_of (wpAny_truthy_bool ⟨.bl (!c),f,g,rfl,e⟩)
end
def ZG(K:zZ)(H:Hp)(a:ak)(c:jf):Prop:=
 Rd H a (.lst c) \/
  ∃(o:aI)(b:ju)(n:Nat),K.lookup a=some o/\o.cls=.type "list" /\ o.dict=none/\o.data=.seq b n/\b.size<=ar/\ZO c b.toList
def Zh(K:zZ)(H:Hp)(a:ak)(c:jf):Prop:=
 Rd H a (.tup c) \/
  ∃(o:aI)(b:ju)(n:Nat),K.lookup a=some o/\o.cls=.type "tuple" /\ o.data=.seq b n/\b.size<=ar/\ZO c b.toList
def ZSH:aj->jg
 | .none=>some .non
 | .bool b=>some (.bl b)
 | .int i _=>some (.int i)
 | .str x _=>some (.str x)
 | .bytes b _=>some (.byt b)
 | .float b _=>some (.flt b)
 | .ref a=>some (.ref a)
 | .type n=>some (.ty n)
 | _=>none
def ZQ.abs{x:V}{u:aj}(r:ZQ x u):ZSH u=some x:=by
 cases x with
 | non=>cases r;rfl
 | bl _=>cases r;rfl
 | int _=>obtain⟨t,rfl⟩:=r;rfl
 | str _=>obtain⟨t,rfl⟩:=r;rfl
 | byt _=>obtain⟨t,rfl⟩:=r;rfl
 | flt _=>obtain⟨t,rfl⟩:=r;rfl
 | ref _=>cases r;rfl
 | ty _=>cases r;rfl
def ZQ.inj{x y:V}{u:aj}(r:ZQ x u)(q:ZQ y u):x=y:=zG.inj (r.abs.symm.trans q.abs)
def ZO.inj:∀{c a:jf}{b:je},ZO c b->ZO a b->c=a:=by intro _ a _ h g;induction h generalizing a with
 | nil=>cases g;rfl
 | cons r _ d=>cases g with
  | cons e f=>rw[r.inj e,d f]
section
variable{kj:js}{σ:St}{H:Hp}{s:al}{a:ak}{xs ys:jf}
def ZG.of{K:zZ}(h:H a=some (.lst xs)):ZG K H a xs:=.inl (.inl h)
def Zh.of{K:zZ}(h:H a=some (.tup xs)):Zh K H a xs:=.inl (.inl h)
def ZF.list(I:ZF X kj σ H s)(h:ZG X.K H a xs):∃ b:je,ZO xs b/\PlainL s.heap a b.toArray/\xs.length<=sizeLine:=by
 rcases h with h | ⟨o,b,n,f,c,d,g,i,r⟩
 ·obtain⟨z,b,n,r,e⟩:=h.ok I.hok;exact⟨b,r,⟨_,n,e,rfl,rfl,rfl⟩,z⟩
 ·exists b.toList,r,⟨o,n,I.kIn a o f,c,d,by simpa using g⟩
  have e:=r.length;simp only[yP] at e
  lia
def ZF.tuple(I:ZF X kj σ H s)(h:Zh X.K H a xs):∃ b:je,ZO xs b/\IsTup s.heap a b.toArray/\xs.length<=sizeLine:=by
 rcases h with h | ⟨o,b,n,d,c,f,g,r⟩
 ·obtain⟨z,b,r,p⟩:=h.ok I.hok;exact⟨b,r,p,z⟩
 ·exists b.toList,r,⟨o,I.kIn a o d,c,n,by simpa using f⟩
  have e:=r.length;simp only[yP] at e
  lia
def ZF.list_inj(I:ZF X kj σ H s)(h:ZG X.K H a xs)(i:ZG X.K H a ys):xs=ys:=by
 obtain⟨c,r,⟨o,n,e,_,_,d⟩,_⟩:=I.list h;obtain⟨b,j,⟨l,k,g,_,_,f⟩,_⟩:=I.list i;rw[e] at g;cases g;rw[d] at f;injection f with d1 _;have:c=b:=by simpa using congrArg zEM d1
 subst this;exact r.inj j
def ZF.tuple_inj(I:ZF X kj σ H s)(h:Zh X.K H a xs)(i:Zh X.K H a ys):xs=ys:=by
 obtain⟨c,r,⟨o,e,_,n,d⟩,_⟩:=I.tuple h;obtain⟨b,j,⟨l,g,_,k,f⟩,_⟩:=I.tuple i;rw[e] at g;cases g;rw[d] at f;injection f with d1 _;have:c=b:=by simpa using congrArg zEM d1
 subst this;exact r.inj j
end
abbrev Cx.wish(X:Cx)(E:ja):Cx:={ X with xe:=E }
abbrev Cx.nox(X:Cx):Cx:=X.wish λ_ _=>False
def Cx.Ok.wish{X:Cx}(a:X.Ok)(E:ja):(X.wish E).Ok:=
 ⟨a.mod,a.kind,a.glob,a.blt,a.above,a.inj,a.has,a.cab,a.hd,a.frames,a.stk,a.exf,a.bs,a.bsz,a.noex,a.exfs,a.funs,a.frf⟩
def Cx.Ok.unwish{X:Cx}{E:ja}(a:(X.wish E).Ok):X.Ok:=
 ⟨a.mod,a.kind,a.glob,a.blt,a.above,a.inj,a.has,a.cab,a.hd,a.frames,a.stk,a.exf,a.bs,a.bsz,a.noex,a.exfs,a.funs,a.frf⟩
section
variable{kj:js}{σ:St}{H:Hp}{s:al}{E:ja}
def ZF.wish(I:ZF X kj σ H s)(E:ja):ZF (X.wish E) kj σ H s:=⟨I.ok.wish E,I.os,I.bare,I.base,I.loc,I.cell,I.free,I.freeC,I.pin,I.hok,I.len⟩
def ZF.unwish(I:ZF (X.wish E) kj σ H s):ZF X kj σ H s:=⟨I.ok.unwish,I.os,I.bare,I.base,I.loc,I.cell,I.free,I.freeC,I.pin,I.hok,I.len⟩
def SP.unwish{D:Z8}{f:Flow}{c:al}(h:SP (X.wish E) kj D f c):SP X kj D f c:=by
 cases f with
 | next=>obtain⟨a,b,I,q⟩:=h;exact⟨a,b,I.unwish,q⟩
 | brk=>obtain⟨a,b,I,q⟩:=h;exact⟨a,b,I.unwish,q⟩
 | cont=>obtain⟨a,b,I,q⟩:=h;exact⟨a,b,I.unwish,q⟩
 | ret u=>obtain⟨v,a,b,I,r,q⟩:=h;exact⟨v,a,b,I.unwish,r,q⟩
def Xh.nox{a:jF}{t:TS}(h:Xh X.nox a t):Xh X a t:=λkj s σ H D I b=>
 ae (h kj s σ H D (I.wish _) b) (λ_ _ q=>q.unwish) λ_ _ z=>False.elim z
end
section
variable{st:aD}{rest:jF}{t u:TS}{e:Expr}{te:TE}{pos:Pos}
def AU:TS:=λD a H=>D.nx a H
def Bd(t u:TS):TS:=λD a H=>t { D with nx:=u D } a H
def Zy:Xh X [] AU:=λ_ _ a H _ I h=>wpAny_execs_nil ⟨a,H,I,h⟩
def ZN(g:PS X st t)(i:Xh X rest u):Xh X (st::rest) (Bd t u):=by
 intro a s k H D I h;refine wpAny_execs_cons (Zz (g a s k H { D with nx:=u D } I h) λf j q=>?_)
 cases f with
 | next=>
  obtain⟨b,c,d,q⟩:=q;exact i a j b c D d q
 | ret v=>exact q
 | brk=>exact q
 | cont=>exact q
def ZR(b:PS X st t):Xh X [st] t:=by
 intro a s c H D I h;refine wpAny_execs_cons (Zz (b a s c H D I h) λf d q=>?_)
 cases f with
 | next=>exact wpAny_execs_nil q
 | ret v=>exact q
 | brk=>exact q
 | cont=>exact q
def ZF.quiet{a:js}{b:St}{H:Hp}{s:al}(I:ZF X a b H s):interactive X.env=false:=by simp[interactive,I.ok.kind]
def C7(te:TE):TS:=λD a H=>te a H λ_ b=>D.nx a b
def Xl(f:PE X e te)(g:swapsWith e none pos.line X.env=pure false:=by rfl):PS X (.Expr e pos) (C7 te):=by
 intro a s b H D I h;exact wpAny_Expr_any (Z7 (f a s b H _ I h) λv k x c d j i=>⟨b,c,d,i⟩) I.quiet g
def Dn(te:TE):TS:=λD a H=>te a H D.rt
def Zd(f:PE X e te):PS X (.Return (some e) pos) (Dn te):=by
 intro a s b H D I h;exact wpAny_Return_some (Z7 (f a s b H _ I h) λv j x c d i g=>⟨x,b,c,d,i,g⟩)
def ZSQ(c:TT)(t u:TS):TS:=λD a H=>c a H λb d=>if b=true then t D a d else u D a d
def Zv{c:Expr}{a b:jF}{m:TT}(p:PT X c m)(n:Xh X a t)(o:Xh X b u):PS X (.If c a b pos) (ZSQ m t u):=by
 intro f s g H D I h;refine wpAny_If (Zz (p f s g H _ I h) ?_);rintro d l ⟨i,j,k⟩
 cases d with
 | true=>exact n f l g i D j k
 | false=>exact o f l g i D j k
def ZQf:TS:=λ_ _ _=>False
def P3{a:jF}:Xh X a ZQf:=λ_ _ _ _ _ _ h=>h.elim
end
abbrev TG:=V->St->Hp->(St->Hp->Prop)->Prop
abbrev Nf:=jf->St->Hp->(St->Hp->Prop)->Prop
def PG(X:Cx)(a:Expr)(t:TG):Prop:=
 ∀(b:js)(s:al)(e:St)(H:Hp)(v:V)(u:aj)(Q:St->Hp->Prop),ZF X b e H s->ZQ v u->t v e H Q ->
  aC (aB X.prog X.w) X.A (assign a X.env u) (λ_ f=>∃ c d,ZF X b c d f/\Q c d) X.xe s
def LS(X:Cx)(h:jB)(t:Nf):Prop:=
 ∀(a:js)(s:al)(f:St)(H:Hp)(e:jf)(d:je)(Q:St->Hp->Prop),ZF X a f H s->ZO e d->t e f H Q ->
  aC (aB X.prog X.w) X.A (assignInOrder ((assignEach h X.env).map (·.2)) d) (λ_ g=>∃ b c,ZF X a b c g/\Q b c) X.xe s
abbrev JF:=V->V->V->Hp->(Hp->Prop)->Prop
def Di(X:Cx)(t:JF):Prop:=
 ∀(a:js)(s:al)(d:St)(H:Hp)(o i v:V)(c iv u:aj)(Q:Hp->Prop),ZF X a d H s->ZQ o c->ZQ i iv->ZQ v u->t o i v H Q ->
  aC (aB X.prog X.w) X.A (setItem c iv u) (λ_ e=>∃ b,ZF X a d b e/\Q b) X.xe s
section
variable{pos:Pos}
def P9(i:Nat):TG:=λv a H Q=>Q (a.set i (some v)) H
def Jo{i:Nat}{x:Str}(c:X.N.Nodup)(e:X.N[i]? = some x)(f:NA X.env.scope x)(d:X.fn x=true\/X.env.scope.names.lookup x=some .local:=by first | exact .inl rfl | exact .inr rfl | assumption):PG X (.Name x pos) (P9 i):=by
 intro a s j H v u Q I r h;exact wpAny_assign_Name (HC I c e f r (λg b=>⟨_,H,b,h⟩) d)
def Xe(i:Nat){x:Str}(a:X.N.Nodup)(c:X.N[i]? = some x:=by rfl)(d:NA X.env.scope x:=by exact Or.inl rfl)(b:X.fn x=true\/X.env.scope.names.lookup x=some .local:=by first | exact .inl rfl | exact .inr rfl | assumption):PG X (.Name x pos) (P9 i):=Jo a c d b
def ZSe:Nf:=λa b H Q=>a=[]/\Q b H
inductive Nn(t:TG)(u:Nf)(c:jf)(d:L2.St)(H:Hp)(Q:L2.St->Hp->Prop):Prop
 |mk(v r:_)(_:c=v::r)(_:t v d H λa b=>u r a b Q)
def MX:LS X [] ZSe:=by
 intro a s b H d c Q I r h;obtain⟨e,h⟩:=h;subst e;cases r;exact assignInOrder_nil ⟨b,H,I,h⟩
def QX{e:Expr}{b:jB}{t:TG}{u:Nf}(i:PG X e t)(j:LS X b u)(k:(assignEach (e::b) X.env).map (·.2)=assign e X.env::(assignEach b X.env).map (·.2):=by rfl):LS X (e::b) (Nn t u):=by
 intro a s o H w p Q I r h;obtain⟨v,q,g,h⟩:=h;subst g
 cases r with
 | cons r m=>
  rw[k];refine assignInOrder_cons (Zz (i a s o H _ _ _ I r h) ?_);rintro _ n ⟨c,d,f,l⟩;exact j a n c d _ _ Q f m l
inductive Kr(K:zZ)(n:Nat)(t:Nf)(v:V)(c:L2.St)(H:Hp)(Q:L2.St->Hp->Prop):Prop
 |mk(a b:_)(_:v=.ref a)(_:Zh K H a b)(_:b.length=n)(_:t b c H Q)
def Mb{d:jB}{k:Nat}{t:Nf}{n:Nat}(q:X.calm=true)(h:LS X d t)(x:(assignEach d X.env).length=n:=by rfl)(f:(assignEach d X.env).findIdx? (·.1)=none:=by rfl):PG X (.Tuple d k pos) (Kr X.K n t):=by
 intro c s j H v u Q I r g;obtain⟨a,C,m,y,w,g⟩:=g;subst m;cases r;obtain⟨B,i,z,D⟩:=I.tuple y;refine assign_Tuple_tuple (I.ok.hd q) z (by simp[x,<-w,i.length]) f λp A=>?_
 have l:ZF X c j H { s with heap:=p }:=I.kept (t':=s.toks) λb o e=>A b o (yU (zN e)) e;exact h c _ j H C _ Q l (by simpa using i) g
def AK(f e:TE)(t:JF):TG:=λv a H Q=>f a H λo b=>e a b λi c=>t o i v c λd=>Q a d
def Ic{o i:Expr}{e d:TE}{t:JF}(q:PE X o e)(p:PE X i d)(w:Di X t)(n:∀ v,assign (.Subscript o i pos) X.env v=(do
   let b<-holding [v] (aH o X.env)
   let iv<-holding [v,b] (aH i X.env)
   standAt pos
   holding [v,b,iv] (setItem b iv v)
   release [v,b,iv] []):=by intro _;rfl):PG X (.Subscript o i pos) (AK e d t):=by
 intro a s c H v u Q I r h;rw[n];refine aa (af (Z7 (q a s c H _ I h) λb E x f k C z=>?_));refine aa (af (Z7 (p a E c f _ k z) λiv F y g l D A=>?_));refine aa (ah (aa (af (Zz (w a F c g x y v b iv u _ l C D r A) ?_))));rintro _ G ⟨j,m,B⟩;exact wpAny_release ⟨c,j,m,B⟩
def HU(c:TE)(g:TG):TS:=λD a H=>c a H λx b=>g x a b D.nx
def OC{b e:Expr}{c:TE}{g:TG}(k:PE X e c)(l:PG X b g)(m:swapsWithSole [b] e pos.line X.env=pure false:=by rfl)(n:swappedStores [b] e X.env=pure none:=by rfl)(j:(assignEach [b] X.env).map (·.2)=[assign b X.env]:=by rfl):PS X (.Assign [b] e pos) (HU c g):=by
 intro a s d H D I h;refine wpAny_Assign_stores (Z7 (k a s d H _ I h) λv r x f i p o=>?_) m n;rw[j];exact Zz (l a r d f x v _ i p o) λ_ t q=>q
def N1{i:Nat}{x:Str}{e:Expr}{c:TE}{a:Pos}(j:X.N.Nodup)(m:X.N[i]? = some x)(o:NA X.env.scope x)(k:PE X e c)(n:swapsWith e (some (.Name x a)) pos.line X.env=pure false:=by rfl)(l:X.fn x=true\/X.env.scope.names.lookup x=some .local:=by first | exact .inl rfl | exact .inr rfl | assumption):
  PS X (.Assign [.Name x a] e pos) (HU c (P9 i)):=by
 intro b s r H D I h;refine wpAny_Assign_Name (Z7 (k b s r H _ I h) λv t y d f q p=>?_) n;exact HC f j m o q (λu g=>⟨_,d,g,p⟩) l
def Zi(i:Nat){x:Str}{e:Expr}{b:TE}{a:Pos}(c:X.N.Nodup)(d:PE X e b)(g:X.N[i]? = some x:=by rfl)(j:NA X.env.scope x:=by exact Or.inl rfl)(h:swapsWith e (some (.Name x a)) pos.line X.env=pure false:=by rfl)(f:X.fn x=true\/X.env.scope.names.lookup x=some .local:=by first | exact .inl rfl | exact .inr rfl | assumption):
  PS X (.Assign [.Name x a] e pos) (HU b (P9 i)):=N1 c g j d h f
inductive OJ(c:TT)(h:TS)(D:Z8)(a:L2.St)(H:Hp):Prop
 |mk(W:Nat->St->Hp->Prop)(_:∃ m,W m a H)(_:∀ m a H,W m a H->c a H λb f=>if b=true then ∃ N:St->Hp->Prop,(∀ d e,N d e->∃ g,g<m/\W g d e)/\h { D with nx:=N,ct:=N,bk:=D.nx } a f else D.nx a f)
def Pj{c:Expr}{g:jF}{F:TT}{E:TS}(C:PassesOwn (aB X.prog X.w) X.A X.env X.xe)(K:PT X c F)(J:Xh X g E):PS X (.While c g [] pos) (OJ F E):=by
 intro a s S H D I h;obtain⟨W,⟨L,Q⟩,j⟩:=h;refine wpAny_While (codeAny_whileLoop (λn M=>∃ k u,ZF X a k u M/\W n k u) ?_ L ⟨S,H,I,Q⟩);rintro n O ⟨e,x,G,R⟩;refine wpAny_passesOwn C (Zz (K a O e x _ G (j n e x R)) ?_);rintro b P ⟨y,z,l⟩
 cases b with
 | true=>
  obtain⟨N,B,l⟩:=l;rw[aO rfl];refine wpAny_passesOwn C (Zz (J a P e y _ z l) λf T m=>?_)
  cases f with
  | next=>
   obtain⟨d,i,o,r⟩:=m;obtain⟨q,p,t⟩:=B d i r;exact⟨q,p,d,i,o,t⟩
  | cont=>
   obtain⟨d,i,o,r⟩:=m;obtain⟨q,p,t⟩:=B d i r;exact⟨q,p,d,i,o,t⟩
  | brk=>exact m
  | ret v=>exact m
 | false=>
  rw[aM zV];exact wpAny_execs_nil ⟨e,y,z,l⟩
end
structure It where
 go:Nat->Hp->Prop
 yld:Nat->Hp->V->Hp->Prop
 stop:Nat->Hp->Prop
def VD(X:Cx)(a:js)(H:Hp)(b:ak):Prop:=
 H b=none/\b≠X.env.locals/\b∉X.fs/\(b∈X.ex\/X.s₀.heap.objs.size<=b)/\(∀ x c,X.env.cells.lookup x=some c->c≠b)/\∀ p∈X.pn++a,p.1≠b
def ZF.fpOk{X:Cx}{a:js}{i:St}{H f:Hp}{s:al}{b:ak}(I:ZF X a i H s)(d:s.heap.objs.size<=b)(g:f b=none):VD X a f b:=by
 refine⟨g,tM (yW I.lt d),I.nofs d,.inr (zS I.sz d),λx c e z=>?_,λp h z=>?_⟩
 ·obtain⟨v,q⟩:=I.cell x c e;exact absurd (yW q.lt (by rw[z];exact d)) (vW _)
 ·exact absurd (yW (zN (I.pin p h).1) (by rw[z];exact d)) (vW _)
structure Ue(P:am)(w:ax)(K:zZ)(tg:Expr)(J:It)(fp:jD)(it:ak)(tn:Nat->aE->Prop):Prop where
 mem:it∈fp
 obj:∀ i h,tn i h->∀ b∈fp,∃ o,h.get? b=some o/\∀ v,o.data≠.cell v
 keep:∀ i h h',tn i h->(∀ b∈fp,∀ o,h.get? b=some o->h'.get? b=some o)->tn i h'
 item:∀(X:Cx),X.prog=P->X.w=w->X.K=K->X.calm=true->∀(i:Nat)(kj:js)(s:al)(σ:St)(H:Hp)(E:ja),ZF X kj σ H s->(∀ b∈fp,VD X kj H b)->tn i s.heap->J.go i H ->
  aC (aB P w) X.A (pyNext (.ref it)) (λr s1=>∃ u,r=some u /\
   aC (aB P w) X.A (letOwnedTupleGo tg (.ref it) u) (λ_ s2=>∃ x H',ZF X kj σ H' s2/\ZQ x u/\J.yld i H x H'/\tn (i+1) s2.heap/\∀ b∈fp,H' b=none) E s1) E s
 done:∀(X:Cx),X.prog=P->X.w=w->X.K=K->X.calm=true->∀(i:Nat)(kj:js)(s:al)(σ:St)(H:Hp)(E:ja),ZF X kj σ H s->(∀ b∈fp,VD X kj H b)->tn i s.heap->J.stop i H ->
  aC (aB P w) X.A (pyNext (.ref it)) (λr s1=>r=none/\ZF X kj σ H s1) E s
 self:∀(A:ay)(i:Nat)(s:al)(Q:ja)(E:ja),tn i s.heap->Q (.ref it) s->aC (aB P w) A (pyIter (.ref it)) Q E s
abbrev TI:=St->Hp->(It->Hp->Prop)->Prop
def Fz(X:Cx)(a:js)(j:St)(i:Expr)(R:It->Hp->Prop)(d:aj)(g:al):Prop:=
 ∃(f:ak)(e:jD)(h:Nat->aE->Prop)(J:It)(c:Hp),d=.ref f/\ZF X a j c g/\Ue X.prog X.w X.K i J e f h/\h 0 g.heap/\(∀ b∈e,VD X a c b)/\R J c
def PI(X:Cx)(e b:Expr)(f:TI):Prop:=
 ∀(a:js)(s:al)(c:St)(H:Hp)(R:It->Hp->Prop),ZF X a c H s->f c H R ->
  aC (aB X.prog X.w) X.A (aH b X.env) (λv d=>aC (aB X.prog X.w) X.A (pyIter v) (Fz X a c e R) X.xe d) X.xe s
def M5{M:Model}{A:ay}{E:ja}{s:al}{c:Expr}{b:ak}{u:aj}{o:aI}{n:String}{d:ju}{Q:Unit->al->Prop}(i:s.heap.get? b=some o)(e:o.cls=.type n)(f:o.data=.fields d)(g:["enumerate","zip","dict_itemiterator","dict_reverseitemiterator","odict_iterator","itertools.zip_longest","itertools.pairwise"].contains n=false)(a:Q () s):aC M A (letOwnedTupleGo c (.ref b) u) Q E s:=by
 unfold letOwnedTupleGo;cases c <;> first
  | exact ad a
  | (cases u <;> first
    | exact ad a
    | (refine aa (wpAny_load i ?_);rw[e,f];show aC M A (if (["enumerate","zip","dict_itemiterator","dict_reverseitemiterator","odict_iterator","itertools.zip_longest","itertools.pairwise"].contains n&&d[0]? == some (rawInt _))=true then _ else _) Q E s;rw[aM (by intro h;rw[g,vS] at h;cases h)];exact ad a))
def No(K:zZ)(a:ak):It:=
 ⟨λi H=>∃ b x,ZG K H a b/\b[i]? = some x,λi H x c=>c=H/\∀ b,ZG K H a b->b[i]? = some x,λi H=>∃ b,ZG K H a b/\b.length<=i⟩
def MU(K:zZ)(a:ak):It:=
 ⟨λi H=>∃ b x,Zh K H a b/\b[i]? = some x,λi H x c=>c=H/\∀ b,Zh K H a b->b[i]? = some x,λi H=>∃ b,Zh K H a b/\b.length<=i⟩
def Oa(b:Int)(n:Nat):It:=⟨λi _=>i<n,λi H x a=>a=H/\x=.int (b+i),λi _=>n<=i⟩
def Be{P:am}{w:ax}{K:zZ}{tg:Expr}(a l:ak):Ue P w K tg (No K a) [l] l (λi h=>h.IsListIter l a i) where
 mem:=by simp
 obj:=λi h f b j=>by
  have e:b=l:=by simpa using j
  subst e;obtain⟨o,e,c,d⟩:=f;exact⟨o,e,λv z=>by rw[d] at z;cases z⟩
 keep:=λi h n f k=>f.at λo e=>k l (by simp) o e
 item:=by
  intro X F J D O i g s Q H E I q f G;subst F J D;obtain⟨xs,x,r,L⟩:=G;obtain⟨M,N,p,Y⟩:=I.list r;obtain⟨u,U,Z⟩:=N.get L;obtain⟨t,y,T,A,B,C⟩:=q l (by simp)
  refine wpAny_pyNext_list_item f p.isList (x:=u) (by simpa using U) λn m sb=>?_
  have R:ZF X g Q H { s with heap:=n }:=I.turned (t':=s.toks) (λb o j e=>(sb.2 b j).trans e) t y A B C;obtain⟨o,e,c,d⟩:=id m;exact⟨u,rfl,M5 (s:={ s with heap:=n }) e c d (by decide) ⟨x,H,R,Z,⟨rfl,λys V=>by rw[I.list_inj V r];exact L⟩,m,λb j=>(q b j).1⟩⟩
 done:=by
  intro X F J D O i g s Q H E I q f G;subst F J D;obtain⟨xs,r,L⟩:=G;obtain⟨M,N,p,Y⟩:=I.list r;obtain⟨t,y,T,A,B,C⟩:=q l (by simp)
  have hl:=N.length;exact wpAny_pyNext_list_end (I.ok.hd O) f p.isList (by simp;lia) λn S=>⟨rfl,I.turned (t':=s.toks) (λb o j e=>S b o j e) t y A B C⟩
 self:=λ_ _ _ _ _ f h=>wpAny_pyIter_listiter f h
def Ap{P:am}{w:ax}{K:zZ}{tg:Expr}(a l:ak):Ue P w K tg (MU K a) [l] l (λi h=>h.IsTupleIter l a i) where
 mem:=by simp
 obj:=λi h f b j=>by
  have e:b=l:=by simpa using j
  subst e;obtain⟨o,e,c,d⟩:=f;exact⟨o,e,λv z=>by rw[d] at z;cases z⟩
 keep:=λi h q f k=>f.at λo e=>k l (by simp) o e
 item:=by
  intro X G L F O i g s Q H E I r f J;subst G L F;obtain⟨xs,x,t,M⟩:=J;obtain⟨m,N,p,Y⟩:=I.tuple t;obtain⟨u,U,Z⟩:=N.get M;obtain⟨y,A,T,B,C,D⟩:=r l (by simp)
  refine wpAny_pyNext_tuple_item f (show s.heap.IsTuple a m.toArray from p) (x:=u) (by simpa using U) λq n sb=>?_
  have R:ZF X g Q H { s with heap:=q }:=I.turned (t':=s.toks) (λb o j e=>(sb.2 b j).trans e) y A B C D;obtain⟨o,e,c,d⟩:=id n;exact⟨u,rfl,M5 (s:={ s with heap:=q }) e c d (by decide) ⟨x,H,R,Z,⟨rfl,λys V=>by rw[I.tuple_inj V t];exact M⟩,n,λb j=>(r b j).1⟩⟩
 done:=by
  intro X G L F O i g s Q H E I r f J;subst G L F;obtain⟨xs,t,M⟩:=J;obtain⟨m,N,p,Y⟩:=I.tuple t;obtain⟨y,A,T,B,C,D⟩:=r l (by simp)
  have hl:=N.length;exact wpAny_pyNext_tuple_end (I.ok.hd O) f (show s.heap.IsTuple a m.toArray from p) (by simp;lia) λq S=>⟨rfl,I.turned (t':=s.toks) (λb o j e=>S b o j e) y A B C D⟩
 self:=λ_ _ _ _ _ f h=>wpAny_pyIter_tupleiter f h
def ZIT{P:am}{w:ax}{K:zZ}{Q:Expr}(c:ak)(m:Int)(n:Nat):Ue P w K Q (Oa m n) [c] c (λi h=>IsRangeIter h c (m+(i:Nat) * 1) ((n:Int)-(i:Nat)) 1) where
 mem:=by simp
 obj:=λi h a b f=>by
  have e:b=c:=by simpa using f
  subst e;exact⟨_,a,λv z=>by
   have R:Data.fields _=Data.cell v:=z;cases R⟩
 keep:=λi h j a k=>k c (by simp) _ a
 item:=by
  intro X A D y B i d s G H E I l a C;subst A D y;obtain⟨p,q,M,r,u,x⟩:=l c (by simp)
  have W:=Walks.range (prog:=X.prog) (w:=X.w) (I.ok.hd B) c m 1 n;refine W.item i s _ _ C a λv j F N g O=>?_;obtain⟨t,rfl⟩:=N;have J:ZF X d G H { s with heap:=j,toks:=F }:=I.turned (λb o f e=>O b o (by simpa using f) e) p q r u x
  refine⟨_,rfl,M5 (s:={ s with heap:=j,toks:=F }) (n:= "range_iterator") g rfl rfl (by decide) ⟨.int (m+i),H,J,⟨t,?_⟩,⟨rfl,rfl⟩,g,λb f=>(l b f).1⟩⟩
  rw[Int.mul_one]
 done:=by
  intro X A D y B i d s G H E I l a C;subst A D y;obtain⟨p,q,M,r,u,x⟩:=l c (by simp)
  exact wpAny_pyNext_range_end (I.ok.hd B) a (by have:n<=i:=C;lia) λj L=>⟨rfl,I.turned (t':=s.toks) (λb o f e=>L b o f e) p q r u x⟩
 self:=λ_ _ _ _ _ a h=>wpAny_pyIter_rangeiter a h
section
variable{tg:Expr}
inductive OM(K:zZ)(R:It->Hp->Prop)(x:V)(b:Hp):Prop
 |mk(a:_)(_:x=.ref a)(_:∃ c,ZG K b a c)(_:R (No K a) b)
def ZQ0(K:zZ)(b:TE):TI:=λc H R=>b c H λx a=>OM K R x a
inductive MZ(K:zZ)(R:It->Hp->Prop)(x:V)(b:Hp):Prop
 |mk(a:_)(_:x=.ref a)(_:∃ c,Zh K b a c)(_:R (MU K a) b)
def ZSK(K:zZ)(b:TE):TI:=λc H R=>b c H λx a=>MZ K R x a
def X7{l:Expr}{g:TE}(k:PE X l g):PI X tg l (ZQ0 X.K g):=by
 intro c s u H R I h;refine Z7 (k c s u H _ I h) λv f x i d t r=>?_;obtain⟨a,e,⟨z,m⟩,q⟩:=r;subst e;cases t;obtain⟨n,y,p,w⟩:=d.list m;refine wpAny_pyIter_list p.isList ?_;refine⟨f.heap.objs.size,[f.heap.objs.size],_,_,i,rfl,d.kept (t':=f.toks) λb o e=>zO _ e,Be a _,⟨_,yO _ rfl,rfl,rfl⟩,λb j=>?_,q⟩;have e:b=f.heap.objs.size:=by simpa using j
 subst e;exact d.fpOk (zY _) (d.hok.fresh (zY _))
def Mm{l:Expr}{i:TE}(m:PE X l i):PI X tg l (ZSK X.K i):=by
 intro c s u H R I h;refine Z7 (m c s u H _ I h) λv d x j f t r=>?_;obtain⟨a,e,⟨z,n⟩,q⟩:=r;subst e;cases t;obtain⟨g,y,p,w⟩:=f.tuple n;refine wpAny_pyIter_tuple (show d.heap.IsTuple a g.toArray from p) ?_;refine⟨d.heap.objs.size,[d.heap.objs.size],_,_,j,rfl,f.kept (t':=d.toks) λb o e=>zO _ e,Ap a _,⟨_,yO _ rfl,rfl,rfl⟩,λb k=>?_,q⟩;have e:b=d.heap.objs.size:=by simpa using k
 subst e;exact f.fpOk (zY _) (f.hok.fresh (zY _))
def Gp{d:js}{h:St}{H:Hp}{s:al}{R:It->Hp->Prop}{E:ja}{a c:Int}{t u v:Tok}{g:Nat}(I:ZF X d h H s)(k : -(2 ^ 62)<=a)(l:a<2 ^ 62)(m : -(2 ^ 62)<=c)(n:c<2 ^ 62)(q:R (Oa a (c-a).toNat) H):aC (aB X.prog X.w) X.A (pyIter (.ref s.heap.objs.size)) (Fz X d h tg R) E { s with heap:=s.heap.push { cls:=.type "range",data:=.fields #[.int a t,.int c u,.int 1 v] },toks:=g }:=by
 refine wpAny_pyIter_range (IsRange.new ..) (small_one k l m n) ?_;have f:ZF X d h H { s with heap:=s.heap.push { cls:=.type "range",data:=.fields #[.int a t,.int c u,.int 1 v] },toks:=g }:=I.kept λb o e=>zO _ e;refine⟨(s.heap.push { cls:=.type "range",data:=.fields #[.int a t,.int c u,.int 1 v] }).objs.size,[(s.heap.push { cls:=.type "range",data:=.fields #[.int a t,.int c u,.int 1 v] }).objs.size],_,_,H,rfl,
  f.kept (t':=g) λb o e=>zO _ e,ZIT _ a (c-a).toNat,?_,λb p=>?_,q⟩
 ·have i:a+((0:Nat):Int) * 1=a:=by simp
  have j:(((c-a).toNat:Nat):Int)-((0:Nat):Int)=Builtin.Range.rangeSize a c 1:=by rw[rangeSize_one];split <;> lia
  show IsRangeIter _ _ (a+((0:Nat):Int) * 1) ((((c-a).toNat:Nat):Int)-((0:Nat):Int)) 1;rw[i,j];exact yO _ rfl
 ·have e:b=(s.heap.push { cls:=.type "range",data:=.fields #[.int a t,.int c u,.int 1 v] }).objs.size:=by simpa using p
  subst e;exact f.fpOk (zY _) (f.hok.fresh (zY _))
inductive ON(R:It->Hp->Prop)(b:jf)(a:Hp):Prop
 |mk(j:Int)(_:b=[.int j])(_ : -(2 ^ 62)<=j)(_:j<2 ^ 62)(_:R (Oa 0 j.toNat) a)
def ZRh(b:TA):TI:=λd H R=>b d H λc a=>ON R c a
inductive Oq(R:It->Hp->Prop)(b:jf)(a:Hp):Prop
 |mk(i j:Int)(_:b=[.int i,.int j])(_ : -(2 ^ 62)<=i/\i<2 ^ 62 /\ -(2 ^ 62)<=j/\j<2 ^ 62)(_:R (Oa i (j-i).toNat) a)
def ZRD(b:TA):TI:=λd H R=>b d H λc a=>Oq R c a
def P4{a:Expr}{d:TA}{p pos:Pos}(i:Gl X "range")(k:X.mg "range" = none)(g:PA X [a] d)(l:aw [a] X.env=[(false,aH a X.env)]:=by rfl):PI X tg (.Call (.Name "range" p) [a] [] pos) (ZRh d):=by
 intro b s u H R I h;refine Call_ (O6 I i k boot_range (PyProof.Rows.callWith_type1 (Z7 (g pos b s u H _ I h) λx w y v f n c=>?_) l rfl));obtain⟨j,e,c,m,q⟩:=c;subst e
 cases n with
 | cons r o=>
  cases o;obtain⟨t,rfl⟩:=r;exact call_range_1 (Gp f ∅ ∅ c m (by simpa using q))
def Ie{a b:Expr}{k:TA}{p pos:Pos}(n:Gl X "range")(o:X.mg "range" = none)(m:PA X [a,b] k)(u:aw [a,b] X.env=[(false,aH a X.env),(false,aH b X.env)]:=by rfl)(c:aw [b] X.env=[(false,aH b X.env)]:=by rfl):
  PI X tg (.Call (.Name "range" p) [a,b] [] pos) (ZRD k):=by
 intro d s A H R I h;refine Call_ (O6 I n o boot_range (PyProof.Rows.callWith_type1 (Z7 (m pos d s A H _ I h) λE C F B l z f=>?_) (by rw[u,c]) (by rw[c];rfl)))
 obtain⟨i,j,e,⟨f,v,w,x⟩,q⟩:=f;subst e
 cases z with
 | cons r g=>
  cases g with
  | cons y g=>
   cases g;obtain⟨t,rfl⟩:=r;obtain⟨D,rfl⟩:=y;exact call_range_2 (Gp l f v w x q)
def AT(k:TI)(g:TG)(j:TS):TS:=λD a H=>k a H λJ f=>∃ W:Nat->Nat->St->Hp->Prop,(∃ m,W 0 m a f)/\∀ i m a H,W i m a H ->
 (J.stop i H/\D.nx a H)\/(J.go i H/\∃ N:St->Hp->Prop,(∀ c b,N c b->∃ e,e<m/\W (i+1) e c b)/\∀ x b,J.yld i H x b->g x a b λd h=>j { D with nx:=N,ct:=N,bk:=D.nx } d h)
def MK(a:jD)(h:aE):js:=a.filterMap λb=>(h.get? b).map λo=>(b,o)
def Lj{a:jD}{h:aE}{b:ak}{o:aI}(c:b∈a)(e:h.get? b=some o):(b,o)∈MK a h:=sV.mpr ⟨b,c,by rw[e];rfl⟩
def Ci{a:jD}{h:aE}{p:ak×aI}(f:p∈MK a h):p.1∈a/\h.get? p.1=some p.2:=by
 obtain⟨b,d,e⟩:=sV.mp f
 cases q:h.get? b with
 | none=>rw[q] at e;cases e
 | some o=>
  rw[q] at e;have c:(b,o)=p:=zG.inj e;subst c;exact⟨d,q⟩
def ZF.pinned{a:js}{h:St}{H:Hp}{s:al}{c:jD}(I:ZF X a h H s)(l:∀ b∈c,VD X a H b)(m:∀ b∈c,∃ o,s.heap.get? b=some o/\∀ v,o.data≠.cell v):ZF X (a++MK c s.heap) h H s:=
 I.pins_of λp n=>(yQ.mp n).elim (λz=>I.pin p (yC _ z)) λz=>by
  obtain⟨g,e⟩:=Ci z;obtain⟨i,j,k,_⟩:=l p.1 g;obtain⟨o,f,d⟩:=m p.1 g;rw[e] at f;cases f;exact⟨e,i,j,k,d⟩
def ZF.unpinned{a d:js}{b:St}{H:Hp}{s:al}(I:ZF X (a++d) b H s):ZF X a b H s:=I.pins_of λp c=>I.pin p (yC _ (wS _ c))
def Vo{q:Expr}{C:jF}{wi:TI}{g:TG}{tb:TS}{pos:Pos}(L:PassesOwn (aB X.prog X.w) X.A X.env X.xe)(hc:X.calm=true)(hi:PI X tg q wi)(hg:PG X tg g)(p:Xh X C tb)(hs:∀ x,foldedSetIterable q X.env x=pure x:=by intro _;rfl):PS X (.For tg q C [] pos) (AT wi g tb):=by
 intro a s σ H D I h;refine wpAny_For (Zz (hi a s σ H _ I h) λv s1 h1=>Zz h1 λa1 s2 h2=>?_) hs;obtain⟨it,G,tn,J,H2,e,I2,T,Z,f2,W,⟨m0,w0⟩,Q⟩:=h2;subst e;have t:∀{B:Hp},(∀ b∈G,B b=none)->∀ b∈G,VD X a B b:=λhn b p=>⟨hn b p,(f2 b p).2⟩;refine codeAny_forLoop_any (λn s'=>∃ i y B,ZF X a y B s'/\tn i s'.heap/\(∀ b∈G,B b=none)/\W i n y B) ?_ m0 ⟨0,σ,H2,I2,Z,λb p=>(f2 b p).1,w0⟩;rintro n s3 ⟨i,z,R,I3,O,K,w3⟩;rcases Q i n z R w3 with ⟨P,qn⟩ | ⟨go,N,hN,step⟩
 ·refine wpAny_passesOwn L (Zz (T.done X rfl rfl rfl hc i a s3 z R X.xe I3 (t K) O P) ?_);rintro r s4 ⟨V,I4⟩;subst V;exact wpAny_execs_nil ⟨z,R,I4,qn⟩
 ·refine wpAny_passesOwn L (Zz (T.item X rfl rfl rfl hc i a s3 z R X.xe I3 (t K) O go) ?_);rintro r s4 ⟨u,V,h4⟩;subst V;refine wpAny_passesOwn L (Zz h4 ?_);rintro _ s5 ⟨x,H5,I5,r5,y5,F,U⟩;have S:=I5.pinned (t U) (T.obj _ _ F);refine wpAny_passesOwn L (Zz (hg _ s5 z H5 x u _ S r5 (step x H5 y5)) ?_);rintro _ s6 ⟨a0,H6,I6,q6⟩;refine wpAny_passesOwn L (Zz (p _ s6 a0 H6 _ I6 q6) λf Y E=>?_);have l:∀{c:St}{j:Hp},ZF X (a++MK G s5.heap) c j Y->N c j->∃ m,m<n/\∃ i y B,ZF X a y B Y/\tn i Y.heap/\(∀ b∈G,B b=none)/\W i m y B:=fun{c j} k M=>by
   obtain⟨m',hm,w7⟩:=hN c j M;refine⟨m',hm,i+1,c,j,k.unpinned,T.keep _ _ _ F λb p o e=>(k.pin (b,o) (yC _ (yC _ (Lj p e)))).1,λb p=>?_,w7⟩;obtain⟨o,e,d⟩:=T.obj _ _ F b p;exact(k.pin (b,o) (yC _ (yC _ (Lj p e)))).2.1
  cases f with
  | next=>obtain⟨c,j,k,M⟩:=E;exact l k M
  | cont=>obtain⟨c,j,k,M⟩:=E;exact l k M
  | brk=>obtain⟨c,j,k,E⟩:=E;exact⟨c,j,k.unpinned,E⟩
  | ret v=>obtain⟨x7,c,j,k,r7,E⟩:=E;exact⟨x7,c,j,k.unpinned,r7,E⟩
end
def Pp{K:zZ}{a:ak}{xs:jf}{g:TG}{n:TS}{D:Z8}{b:St}{H:Hp}(c:Nat->St->Hp->Prop)(o:c 0 b H)(t:∀ i b H,i<=xs.length->c i b H->ZG K H a xs)(u:∀ i x b H,xs[i]? = some x->c i b H->g x b H λh k=>n { D with nx:=c (i+1),ct:=c (i+1),bk:=D.nx } h k)(r:∀ b H,c xs.length b H->D.nx b H):
  ∃ W:Nat->Nat->St->Hp->Prop,(∃ m,W 0 m b H)/\∀ i m b H,W i m b H ->
   ((No K a).stop i H/\D.nx b H)\/((No K a).go i H/\∃ N:St->Hp->Prop,(∀ f d,N f d->∃ l,l<m/\W (i+1) l f d)/\∀ x d,(No K a).yld i H x d->g x b d λh k=>n { D with nx:=N,ct:=N,bk:=D.nx } h k):=by
 exists λi m b H=>m=xs.length-i/\i<=xs.length/\c i b H,⟨xs.length,by simp,zL _,o⟩
 rintro i m b H ⟨rfl,s,p⟩;have q:=t i b H s p;by_cases j:i<xs.length
 ·refine .inr ⟨⟨xs,xs[i],q,by simp[j]⟩,c (i+1),λf d v=>⟨xs.length-(i+1),by exact uG ‹_› (wN _),rfl,j,v⟩,λx d y=>?_⟩
  obtain⟨e,y⟩:=y;subst e;exact u i x b _ (y xs q) p
 ·have e:i=xs.length:=∅
  subst e;exact .inl ⟨⟨xs,q,zY _⟩,r b H p⟩
def ZO0{K:zZ}{a:ak}{xs:jf}{g:TG}{n:TS}{D:Z8}{b:St}{H:Hp}(c:Nat->St->Hp->Prop)(o:c 0 b H)(t:∀ i b H,i<=xs.length->c i b H->Zh K H a xs)(u:∀ i x b H,xs[i]? = some x->c i b H->g x b H λh k=>n { D with nx:=c (i+1),ct:=c (i+1),bk:=D.nx } h k)(r:∀ b H,c xs.length b H->D.nx b H):
  ∃ W:Nat->Nat->St->Hp->Prop,(∃ m,W 0 m b H)/\∀ i m b H,W i m b H ->
   ((MU K a).stop i H/\D.nx b H)\/((MU K a).go i H/\∃ N:St->Hp->Prop,(∀ f d,N f d->∃ l,l<m/\W (i+1) l f d)/\∀ x d,(MU K a).yld i H x d->g x b d λh k=>n { D with nx:=N,ct:=N,bk:=D.nx } h k):=by
 exists λi m b H=>m=xs.length-i/\i<=xs.length/\c i b H,⟨xs.length,by simp,zL _,o⟩
 rintro i m b H ⟨rfl,s,p⟩;have q:=t i b H s p;by_cases j:i<xs.length
 ·refine .inr ⟨⟨xs,xs[i],q,by simp[j]⟩,c (i+1),λf d v=>⟨xs.length-(i+1),∅,rfl,j,v⟩,λx d y=>?_⟩
  obtain⟨e,y⟩:=y;subst e;exact u i x b _ (y xs q) p
 ·have e:i=xs.length:=∅
  subst e;exact .inl ⟨⟨xs,q,zY _⟩,r b H p⟩
def O7{lo:Int}{n:Nat}{g:TG}{l:TS}{D:Z8}{a:St}{H:Hp}(c:Nat->St->Hp->Prop)(o:c 0 a H)(r:∀ i a H,i<n->c i a H->g (.int (lo+i)) a H λh j=>l { D with nx:=c (i+1),ct:=c (i+1),bk:=D.nx } h j)(q:∀ a H,c n a H->D.nx a H):
  ∃ W:Nat->Nat->St->Hp->Prop,(∃ m,W 0 m a H)/\∀ i m a H,W i m a H ->
   ((Oa lo n).stop i H/\D.nx a H)\/((Oa lo n).go i H/\∃ N:St->Hp->Prop,(∀ f b,N f b->∃ k,k<m/\W (i+1) k f b)/\∀ x b,(Oa lo n).yld i H x b->g x a b λh j=>l { D with nx:=N,ct:=N,bk:=D.nx } h j):=by
 exists λi m a H=>m=n-i/\i<=n/\c i a H,⟨n,by simp,zL _,o⟩
 rintro i m a H ⟨rfl,t,p⟩;by_cases d:i<n
 ·refine .inr ⟨d,c (i+1),λf b s=>⟨n-(i+1),by exact uG ‹_› (wN _),rfl,d,s⟩,λx b y=>?_⟩
  obtain⟨e,y⟩:=y;subst e y;exact r i a _ d p
 ·have e:i=n:=∅
  subst e;exact .inl ⟨zY _,q a H p⟩
abbrev R2:=V->V->Hp->VK->Prop
def Yd(X:Cx)(f:aj->aj->Sem aj)(r:R2):Prop:=
 ∀(a:js)(s:al)(b:St)(H:Hp)(x y:V)(v u:aj)(Q:VK),ZF X a b H s->ZQ x v->ZQ y u->r x y H Q ->
  aC (aB X.prog X.w) X.A (f v u) (EP X a b Q) X.xe s
def Ku(X:Cx)(f:aj->Sem aj)(r:V->Hp->VK->Prop):Prop:=
 ∀(a:js)(s:al)(b:St)(H:Hp)(x:V)(v:aj)(Q:VK),ZF X a b H s->ZQ x v->r x H Q ->
  aC (aB X.prog X.w) X.A (f v) (EP X a b Q) X.xe s
def Wu(X:Cx)(f:aj)(r:jf->Hp->VK->Prop):Prop:=
 ∀(a:js)(s:al)(d:St)(H:Hp)(c:jf)(b:je)(Q:VK),ZF X a d H s->ZO c b->r c H Q ->
  aC (aB X.prog X.w) X.A (call f b) (EP X a d Q) X.xe s
def Px(r:R2)(d e:TE):TE:=λa H Q=>d a H λx b=>e a b λy c=>r x y c Q
def tUn(r:V->Hp->VK->Prop)(b:TE):TE:=λc H Q=>b c H λx a=>r x a Q
inductive rI(C:Int->Int->Prop)(g:Int->Int->V)(x y:V)(H:Hp)(Q:VK):Prop
 |mk(i j:_)(_:x=.int i)(_:y=.int j)(_:C i j)(_:Q (g i j) H)
inductive Pv(g:Int->Int->V)(x y:V)(H:Hp)(Q:VK):Prop
 |mk(i j:_)(_:x=.int i)(_:y=.int j)(_:Q (g i j) H)
inductive rU(g:Int->V)(x:V)(H:Hp)(Q:VK):Prop
 |mk(i:_)(_:x=.int i)(_:Q (g i) H)
section
variable{a b c:Expr}{ta tb tc:TE}{pos:Pos}
def Kw(o:PE X a ta)(p:PE X b tb){d:js}{s:al}{g:St}{H:Hp}{R:V->V->Hp->Prop}(I:ZF X d g H s)(h:ta g H λx l=>tb g l λy e=>R x y e){Q:ja}{f:aj->aj->Sem aj}(q:∀ v u k x y e,ZF X d g e k->ZQ x v->ZQ y u->R x y e->aC (aB X.prog X.w) X.A (f v u) Q X.xe k):
  aC (aB X.prog X.w) X.A (aH a X.env) (λv i=>aC (aB X.prog X.w) X.A (aH b X.env) (λu j=>aC (aB X.prog X.w) X.A (f v u) Q X.xe j) X.xe i) X.xe s:=by
 refine Z7 (o d s g H _ I h) λv C x l m z r=>?_;refine Z7 (p d C g l _ m r) λu k y e n B t=>?_;exact q v u k x y e n z B t
def Zx{e:Operator}{r:R2}(k:Yd X (binaryOp e) r)(i:PE X a ta)(j:PE X b tb):PE X (.BinOp a e b pos) (Px r ta tb):=by
 intro d s o H Q I h;exact wpAny_BinOp (Kw i j I h λv u n x y f g l m q=>k d n o f x y v u Q g l m q)
def Q3{e:UnaryOp}{r:V->Hp->VK->Prop}(k:Ku X (unaryOp e) r)(j:PE X a ta):PE X (.UnaryOp e a pos) (tUn r ta):=by
 intro d s f H Q I h;exact UnaryOp_ (Z7 (j d s f H _ I h) λv n x g i m l=>k d n f g x v Q i m l)
def Nx{f:aj->aj->Sem aj}{C:Int->Int->Prop}{g:Int->Int->Int}(d:∀ (i j:Int) (t u:Tok) (s:al) (Q:ja) (E:ja),C i j->Q (.int (g i j) s.toks) { s with toks:=s.toks+1 }->aC (aB X.prog X.w) X.A (f (.int i t) (.int j u)) Q E s):
  Yd X f (rI C λi j=>.int (g i j)):=by
 intro e s o H x y v u Q I l m h;obtain⟨i,j,rfl,rfl,k,q⟩:=h;obtain⟨t,rfl⟩:=l;obtain⟨n,rfl⟩:=m;exact d i j t n s _ _ k ⟨.int (g i j),H,I.tok _,⟨_,rfl⟩,q⟩
def CM{f:aj->aj->Sem aj}{g:Int->Int->Int}(d:∀ (i j:Int) (t u:Tok) (s:al) (Q:ja) (E:ja),Q (.int (g i j) s.toks) { s with toks:=s.toks+1 }->aC (aB X.prog X.w) X.A (f (.int i t) (.int j u)) Q E s):
  Yd X f (Pv λi j=>.int (g i j)):=by
 intro e s n H x y v u Q I k l h;obtain⟨i,j,rfl,rfl,q⟩:=h;obtain⟨t,rfl⟩:=k;obtain⟨m,rfl⟩:=l;exact d i j t m s _ _ ⟨.int (g i j),H,I.tok _,⟨_,rfl⟩,q⟩
def My{f:aj->aj->Sem aj}{g:Int->Int->Bool}(d:∀ (i j:Int) (t u:Tok) (s:al) (Q:ja) (E:ja),Q (.bool (g i j)) s->aC (aB X.prog X.w) X.A (f (.int i t) (.int j u)) Q E s):
  Yd X f (Pv λi j=>.bl (g i j)):=by
 intro e s n H x y v u Q I k l h;obtain⟨i,j,rfl,rfl,q⟩:=h;obtain⟨t,rfl⟩:=k;obtain⟨m,rfl⟩:=l;exact d i j t m s _ _ ⟨.bl (g i j),H,I,rfl,q⟩
def Cv(i j:Int):Prop:=0<j/\j<1073741824
def ZSd(i j:Int):Prop:=0<=j/\j<=1000000/\i.natAbs<2 ^ 64
def PB(i j:Int):Prop:=(-(2 ^ 64)<i/\i<2 ^ 64)\/(-(2 ^ 64)<j/\j<2 ^ 64)
def PB.ok{i j:Int}(h:PB i j):IntMulOk i j:=by
 rcases h with ⟨d,e⟩ | ⟨d,e⟩
 ·exact .of_left (intBits_le_64 d e)
 ·exact .of_right (intBits_le_64 d e)
def WW:Yd X (binaryOp .Add) (Pv λi j=>.int (i+j)):=CM λ_ _ _ _ _ _ _ q=>add_int q
def Up:Yd X (binaryOp .Sub) (Pv λi j=>.int (i-j)):=CM λ_ _ _ _ _ _ _ q=>sub_int q
def Oc:Yd X (binaryOp .Mult) (rI PB λi j=>.int (i * j)):=Nx λ_ _ _ _ _ _ _ d q=>mul_int q d.ok
def Lh:Yd X (binaryOp .FloorDiv) (rI Cv λi j=>.int (i / j)):=Nx λi j _ _ _ _ _ d q=>by
 have e:(0:Int)<j:=d.1;have f:j<1073741824:=d.2;exact floordiv_int ∅ (by rw[pU i ∅];exact q) (.inl (PyProof.noPylong_small ∅))
def Ps:Yd X (binaryOp .Mod) (rI (λ_ j=>0<j) λi j=>.int (i % j)):=Nx λi j _ _ _ _ _ d q=>by
 have e:(0:Int)<j:=d;exact mod_int' ∅ (by rw[Int.fmod_eq_emod_of_nonneg i ∅];exact q)
def MT:Yd X (binaryOp .Pow) (rI ZSd λi j=>.int (i ^ j.toNat)):=Nx λ_ _ _ _ _ _ _ d q=>pow_int_small d.1 d.2.1 d.2.2 q
def unI{f:aj->Sem aj}{g:Int->Int}(d:∀ (i:Int) (t:Tok) (s:al) (Q:ja) (E:ja),Q (.int (g i) s.toks) { s with toks:=s.toks+1 }->aC (aB X.prog X.w) X.A (f (.int i t)) Q E s):
  Ku X f (rU λi=>.int (g i)):=by
 intro e s k H x v Q I j h;obtain⟨i,rfl,q⟩:=h;obtain⟨t,rfl⟩:=j;exact d i t s _ _ ⟨.int (g i),H,I.tok _,⟨_,rfl⟩,q⟩
def Qz:Ku X (unaryOp .USub) (rU λi=>.int (-i)):=unI λ_ _ _ _ _ q=>neg_int q
end
def E8:V->V->Bool
 | .non,.non=>true | .non,.int _=>true | .int _,.non=>true | .non,.bl _=>true | .bl _,.non=>true | .non,.str _=>true | .str _,.non=>true
 | .int _,.int _=>true | .bl _,.bl _=>true | .str _,.str _=>true | .byt _,.byt _=>true
 | .int _,.str _=>true | .str _,.int _=>true | .bl _,.str _=>true | .str _,.bl _=>true
 | _,_=>false
def Ag:R2:=λx y H Q=>E8 x y=true/\Q (.bl (decide (x=y))) H
def rNe:R2:=λx y H Q=>E8 x y=true/\Q (.bl (!decide (x=y))) H
def FK{i j:Int}:decide (V.int i=V.int j)=(i==j):=by
 rw[vE];simp
def EN{i j:Bool}:decide (V.bl i=V.bl j)=(i==j):=by
 rw[vE];simp
def FI{i j:Str}:decide (V.str i=V.str j)=(i==j):=by
 rw[vE];simp
def Cg{i j:Array UInt8}:decide (V.byt i=V.byt j)=(i.toList==j.toList):=by
 rw[vE];cases i;cases j;simp
section
variable{a b c:Expr}{ta tb tc:TE}{pos:Pos}
def Yt{d:js}{g:St}{H:Hp}{s:al}{Q:VK}{k f:Bool}(I:ZF X d g H s)(q:Q (.bl k) H)(e:k=f):EP X d g Q (.bool f) s:=by
 subst e;exact⟨.bl k,H,I,rfl,q⟩
def VH:Yd X (aA .Eq) Ag:=by
 intro k s l H x y v u Q I g d h;obtain⟨f,q⟩:=h
 cases x with
 | non=>
  cases g
  cases y with
  | non=>cases d;exact PySem.EqNone.eq_none_none (Yt I q (by simp))
  | bl j=>cases d;exact PySem.EqNone.eq_none_bool (Yt I q (by simp))
  | int j=>obtain⟨e,rfl⟩:=d;exact PySem.EqNone.eq_none_int (Yt I q (by simp))
  | str j=>obtain⟨e,rfl⟩:=d;exact PySem.EqNone.eq_none_str (Yt I q (by simp))
  | _=>exact absurd (show false=true from f) zV
 | bl i=>
  cases g
  cases y with
  | non=>cases d;exact PySem.EqNone.eq_bool_none (Yt I q (by simp))
  | bl j=>cases d;exact eq_bool (Yt I q EN)
  | str j=>obtain⟨e,rfl⟩:=d;exact PySem.EqMixed.eq_bool_str (Yt I q (by simp))
  | _=>exact absurd (show false=true from f) zV
 | int i=>
  obtain⟨t,rfl⟩:=g
  cases y with
  | non=>cases d;exact PySem.EqNone.eq_int_none (Yt I q (by simp))
  | int j=>obtain⟨e,rfl⟩:=d;exact eq_int (Yt I q FK)
  | str j=>obtain⟨e,rfl⟩:=d;exact PySem.EqMixed.eq_int_str (Yt I q (by simp))
  | _=>exact absurd (show false=true from f) zV
 | str i=>
  obtain⟨t,rfl⟩:=g
  cases y with
  | non=>cases d;exact PySem.EqNone.eq_str_none (Yt I q (by simp))
  | bl j=>cases d;exact PySem.EqMixed.eq_str_bool (Yt I q (by simp))
  | int j=>obtain⟨e,rfl⟩:=d;exact PySem.EqMixed.eq_str_int (Yt I q (by simp))
  | str j=>obtain⟨e,rfl⟩:=d;exact eq_str (Yt I q FI)
  | _=>exact absurd (show false=true from f) zV
 | byt i=>
  obtain⟨t,rfl⟩:=g
  cases y with
  | byt j=>obtain⟨e,rfl⟩:=d;exact PySem.W.eq_bytes (Yt I q Cg)
  | _=>exact absurd (show false=true from f) zV
 | _=>cases y <;> exact absurd (show false=true from f) zV
def Eo:Yd X (aA .NotEq) rNe:=by
 intro k s l H x y v u Q I g d h;obtain⟨f,q⟩:=h
 cases x with
 | non=>
  cases g
  cases y with
  | non=>cases d;exact PySem.EqNone.ne_none_none (Yt I q (by simp))
  | bl j=>cases d;exact PySem.EqNone.ne_none_bool (Yt I q (by simp))
  | int j=>obtain⟨e,rfl⟩:=d;exact PySem.EqNone.ne_none_int (Yt I q (by simp))
  | str j=>obtain⟨e,rfl⟩:=d;exact PySem.EqNone.ne_none_str (Yt I q (by simp))
  | _=>exact absurd (show false=true from f) zV
 | bl i=>
  cases g
  cases y with
  | non=>cases d;exact PySem.EqNone.ne_bool_none (Yt I q (by simp))
  | bl j=>cases d;exact ne_bool (Yt I q (congrArg not EN))
  | str j=>obtain⟨e,rfl⟩:=d;exact PySem.EqMixed.ne_bool_str (Yt I q (by simp))
  | _=>exact absurd (show false=true from f) zV
 | int i=>
  obtain⟨t,rfl⟩:=g
  cases y with
  | non=>cases d;exact PySem.EqNone.ne_int_none (Yt I q (by simp))
  | int j=>obtain⟨e,rfl⟩:=d;exact ne_int (Yt I q (congrArg not FK))
  | str j=>obtain⟨e,rfl⟩:=d;exact PySem.EqMixed.ne_int_str (Yt I q (by simp))
  | _=>exact absurd (show false=true from f) zV
 | str i=>
  obtain⟨t,rfl⟩:=g
  cases y with
  | non=>cases d;exact PySem.EqNone.ne_str_none (Yt I q (by simp))
  | bl j=>cases d;exact PySem.EqMixed.ne_str_bool (Yt I q (by simp))
  | int j=>obtain⟨e,rfl⟩:=d;exact PySem.EqMixed.ne_str_int (Yt I q (by simp))
  | str j=>obtain⟨e,rfl⟩:=d;exact ne_str (Yt I q (congrArg not FI))
  | _=>exact absurd (show false=true from f) zV
 | byt i=>
  obtain⟨t,rfl⟩:=g
  cases y with
  | byt j=>obtain⟨e,rfl⟩:=d;exact PySem.W.ne_bytes (Yt I q (congrArg not Cg))
  | _=>exact absurd (show false=true from f) zV
 | _=>cases y <;> exact absurd (show false=true from f) zV
def NZ:Yd X (aA .Lt) (Pv λi j=>.bl (decide (i<j))):=My λ_ _ _ _ _ _ _ q=>lt_int q
def NS:Yd X (aA .LtE) (Pv λi j=>.bl (decide (i<=j))):=My λ_ _ _ _ _ _ _ q=>le_int q
def OD:Yd X (aA .Gt) (Pv λi j=>.bl (decide (j<i))):=My λ_ _ _ _ _ _ _ q=>gt_int q
def ZRV:Yd X (aA .GtE) (Pv λi j=>.bl (decide (j<=i))):=My λ_ _ _ _ _ _ _ q=>ge_int q
def Z9(b:Expr){d:CmpOp}(h:d≠.In:=by decide)(g:d≠.NotIn:=by decide):behindInMarks d b=false:=by
 have e:(d==CmpOp.In)=false:=by cases d <;> first | rfl | exact absurd rfl h
 have f:(d==CmpOp.NotIn)=false:=by cases d <;> first | rfl | exact absurd rfl g
 cases b <;> simp[behindInMarks,e,f]
def VX{e:CmpOp}{r:R2}(l:Yd X (aA e) r)(i:PE X a ta)(j:PE X b tb)(k:behindInMarks e b=false):PE X (.Compare a [e] [b] pos) (Px r ta tb):=by
 intro d s p H Q I h;exact wpAny_Compare1 (Kw i j I h λv u o x y f g m n q=>l d o p f x y v u Q g m n q) k
inductive Of(Q:Bool->Hp->Prop)(x:V)(d:Hp):Prop
 |mk(k:_)(_:x=.bl k)(_:Q k d)
def Dd(t:TE):TT:=λe H Q=>t e H λx d=>Of Q x d
def Yc{f:CmpOp}{r:R2}(w:Yd X (aA f) r)(p:PE X a ta)(q:PE X b tb)(t:behindInMarks f b=false):PT X (.Compare a [f] [b] pos) (Dd (Px r ta tb)):=by
 intro d s g H Q I h;refine wpAny_isTrue_Compare1 (Z7 (p d s g H _ I h) λv G x i m D A=>Z7 (q d G g i _ m A) λu J y j n E B=>
  Zz (w d J g j x y v u _ n D E B) λc K ⟨z,l,o,F,k,e,C⟩=>?_) t
 subst e;cases F;exact wpAny_truthy_bool ⟨l,o,C⟩
inductive PQ(f:R2)(tc:TE)(h:L2.St)(Q:VK)(y z:V)(d:Hp):Prop
 |mk(k:_)(_:z=.bl k)(_:if k=true then tc h d λg e=>f y g e Q else Q (.bl false) d)
def CG(r h:R2)(ta tb tc:TE):TE:=λd H Q=>ta d H λx e=>tb d e λy f=>r x y f λz g=>PQ h tc d Q y z g
def ZMc{l g:CmpOp}{r p:R2}(K:Yd X (aA l) r)(j:Yd X (aA g) p)(E:PE X a ta)(F:PE X b tb)(G:PE X c tc)(J:lastMarks [l,g] [b,c]=false:=by with_unfolding_all rfl):PE X (.Compare a [l,g] [b,c] pos) (CG r p ta tb tc):=by
 intro f s i H Q I h;refine Compare_chain (Z7 (E f s i H _ I h) λv S x t B O L=>chain_link (Z7 (F f S i t _ B L) λu T y w C q M=>
  Zz (K f T i w x y v u _ C O q M) λd U ⟨z,m,n,P,k,e,o⟩=>?_)) J
 subst e;cases P;refine wpAny_truthy_bool ?_
 cases k with
 | false=>exact ite_ff ⟨.bl false,m,n,rfl,o⟩
 | true=>exact ite_tt (chain_last (Z7 (G f U i m _ n o) λW V Y A D R N=>j f V i A y Y u W Q D q R N))
def Eb{l g:CmpOp}{r p:R2}(O:Yd X (aA l) r)(j:Yd X (aA g) p)(K:PE X a ta)(L:PE X b tb)(M:PE X c tc)(N:lastMarks [l,g] [b,c]=false:=by with_unfolding_all rfl):PT X (.Compare a [l,g] [b,c] pos) (Dd (CG r p ta tb tc)):=by
 intro f s i H Q I h;refine isTrue_chain (Z7 (K f s i H _ I h) λv s1 x t C V R=>test_link (Z7 (L f s1 i t _ C R) λu s2 y w D q S=>
  Zz (O f s2 i w x y v u _ D V q S) λd s3 ⟨z,m,n,W,k,e,o⟩=>?_)) N
 subst e;cases W;refine wpAny_truthy_bool ?_
 cases k with
 | false=>
  obtain⟨k',G,P⟩:=o;cases G;exact ite_ff ⟨m,n,P⟩
 | true=>
  refine ite_tt (test_last (Z7 (M f s3 i m _ n o) λw' s4 z' A E Y T=>Zz (j f s4 i A y z' u w' _ E q Y T) λd' s5 ⟨z2,B,F,Z,k2,J,U⟩=>?_));subst J;cases Z;exact wpAny_truthy_bool ⟨B,F,U⟩
def NP:(ar:Nat)<2 ^ 63:=by rw[sizeLine_eq];decide
inductive VY(x y:V)(H:Hp)(Q:VK):Prop
 |mk(i j:_)(_:x=.str i)(_:y=.str j)(_:i.length+j.length<=ar)(_:Q (.str (i++j)) H)
def ZIt:Yd X (binaryOp .Add) (VY):=by
 intro d s m H x y v u Q I f g h;obtain⟨i,j,rfl,rfl,e,q⟩:=h;obtain⟨t,rfl⟩:=f;obtain⟨k,rfl⟩:=g;exact add_str (λk l=>⟨.str (i++j),H,I.tok _,⟨_,rfl⟩,q⟩) e
def Vp{x:V}{d:je}(r:ZO [x] d):∃ u,d=[u]/\ZQ x u:=by
 cases r with
 | cons e f=>cases f;exact⟨_,rfl,e⟩
def Lg{x y:V}{d:je}(r:ZO [x,y] d):∃ u e,d=[u,e]/\ZQ x u/\ZQ y e:=by
 cases r with
 | cons f g=>
  cases g with
  | cons h i=>cases i;exact⟨_,_,rfl,f,h⟩
inductive Ui(d:jf)(H:Hp)(Q:VK):Prop
 |mk(i:_)(_:d=[.int i])(_:Q (.int (if i<0 then -i else i)) H)
def K7:Wu X (.builtin "abs") (Ui):=by
 intro d s j H g f Q I r h;obtain⟨i,rfl,q⟩:=h;obtain⟨u,rfl,t,rfl⟩:=Vp r;exact call_abs_int λu e=>⟨.int (if i<0 then -i else i),H,I.tok _,⟨_,rfl⟩,q⟩
inductive Vz(d:jf)(H:Hp)(Q:VK):Prop
 |mk(i j:_)(_:d=[.int i,.int j])(_:Q (.int (if j > i then j else i)) H)
def IV(f:X.calm=true):Wu X (.builtin "max") (Vz):=by
 intro e s v H p n Q I r h;obtain⟨i,j,rfl,q⟩:=h;obtain⟨u,o,rfl,⟨t,rfl⟩,⟨l,rfl⟩⟩:=Lg r;refine max_two_ints (I.ok.hd f) λg m k=>⟨_,H,I.kept k,?_,q⟩;by_cases d:j > i
 ·rw[aO d,aO d];exact⟨_,rfl⟩
 ·rw[aM d,aM d];exact⟨_,rfl⟩
inductive V7(d:jf)(H:Hp)(Q:VK):Prop
 |mk(i j:_)(_:d=[.int i,.int j])(_:Q (.int (if j<i then j else i)) H)
def Fg(f:X.calm=true):Wu X (.builtin "min") (V7):=by
 intro e s v H p n Q I r h;obtain⟨i,j,rfl,q⟩:=h;obtain⟨u,o,rfl,⟨t,rfl⟩,⟨l,rfl⟩⟩:=Lg r;refine min_two_ints (I.ok.hd f) λg m k=>⟨_,H,I.kept k,?_,q⟩;by_cases d:j<i
 ·rw[aO d,aO d];exact⟨_,rfl⟩
 ·rw[aM d,aM d];exact⟨_,rfl⟩
def O9:Wu X (.type "int") (λd H Q=>(∃ i,d=[.int i]/\Q (.int i) H)\/∃ k,d=[.bl k]/\Q (.int (if k then 1 else 0)) H):=by
 intro e s j H d g Q I r h;rcases h with ⟨i,rfl,q⟩ | ⟨k,rfl,q⟩
 ·obtain⟨u,rfl,t,rfl⟩:=Vp r;exact call_int_int ⟨.int i,H,I,⟨_,rfl⟩,q⟩
 ·obtain⟨u,rfl,f⟩:=Vp r;cases f;exact call_int_bool ⟨.int (if k then 1 else 0),H,I.tok _,⟨_,rfl⟩,q⟩
end
structure UA(h:aE)(x dx C:ak)(mA:jc):Prop where
 obj:h.get? x=some (vZ C dx)
 ns:h.Ns1 dx mA
 ne:dx≠x
def GQ{h:aE}{d:ak}{g:jc}(n:h.Ns1 d g):∃ i,h.get? d=some i/\∀ b,uR b i=some (g b):=by
 obtain⟨o,f,s,p,k,l,_,m⟩:=n;exists o,p;intro b;have e:=m b;unfold nsFind findBy at e;rw[<-Array.find?_toList] at e;unfold uR;rw[k];dsimp only;split
 ·rename_i y q
  rw[q] at e;exact congrArg some e
 ·rename_i q
  rw[q] at e;have a:f.toList.any (·.refKey)=false:=by
   rw[List.any_eq_false];intro y r;obtain⟨z,t,c⟩:=l y (Array.mem_toList_iff.mp r);simp[DictEntry.refKey,c]
  have j:¬ f.toList.any (·.refKey)=true:=by rw[a];exact zV
  rw[aM j];exact congrArg some e
def UA.look{h:aE}{x c C:ak}{d:jc}(I:UA h x c C d):∃ b,sE h x (vZ C c) C (some b)/\∀ a,uR a b=some (d a):=
 let ⟨b,ho,hl⟩:=GQ I.ns
 ⟨b,⟨I.obj,rfl,rfl,ho⟩,hl⟩
section
variable{prog:am}{w:ax}{A:ay}{E:ja}{s:al}{K:zZ}{x dx C f:ak}{mA:jc}{name:Str}{v:aj}
def ZOE{a:Bool}{Q:ja}(X:K.In s.heap)(I:UA s.heap x dx C mA)(d:uX K C name=true)(e:vO K C=true)(c:zA K (.ref C) name=some none)(i:mA name=some v)(b:PySem.W.handedIn v=true)(h:Q v { s with toks:=s.toks+1 }):
  aC (aB prog w) A (getAttr (.ref x) name a) Q E s:=by
 obtain⟨j,J,g⟩:=I.look;exact PySem.W.get_value X J (qU d).1 (PySem.W.findObj_own e c rfl (by rw[g,i])) b h
def ZMd{i:Sem Bool}{Q:aj×je->al->Prop}(X:K.In s.heap)(I:UA s.heap x dx C mA)(a:uX K C name=true)(b:zA K (.ref C) name=some (some (.ref f)))(d:wE K (.ref f)=true)(e:mA name=none)(h:Q (.ref f,[.ref x]) s):
  aC (aB prog w) A (getMethod (.ref x) name i) Q E s:=by
 obtain⟨g,J,c⟩:=I.look;exact PySem.W.method_fn X J (qU a).1 (qU a).2 b (beq_iff_eq.mp d) (by show (uR name g).map (·.isSome)=some false;rw[c,e];rfl) h
def ZOO{l:jr}{Q:Unit->al->Prop}(X:K.In s.heap)(I:UA s.heap x dx C mA)(t:zA K (.ref C) "__setattr__" = some (some (.builtin "object.__setattr__")))(q:sU K C=true)(z:rQ K C name=some none)(p:vO K C=true)(B:PySem.Within mA l)(u:l.length<=ar)(h:∀ e,UA e x dx C (λy=>if y=name then some v else mA y)->yD dx s.heap e->Q () { s with heap:=e,toks:=s.toks+2 }):
  aC (aB prog w) A (setAttr (.ref x) name v) Q E s:=by
 obtain⟨L,J,G⟩:=I.look;refine PySem.W.set_plain X J t (PySem.W.osa_open (s:={ s with toks:=s.toks+1 }) (r:=none) X J q z λb=>?_);obtain⟨F,o,i⟩:=sZ p;have D:s.heap.get? x=some ⟨.ref C,some dx,.plain,#[]⟩:=I.obj;refine aa (ad (aa (aa (wpAny_loadPart D (aa (yF.here (s:={ s with toks:=s.toks+1 }) (qV X o) ?_))))));rw[i];refine ad (a:=some dx) (aa (ad (aa ?_)));refine wpAny_nsSet1 (s:={ s with toks:=s.toks+1 }) I.ns λe c d=>?_;obtain⟨H,n,m,k,j,g⟩:=c.count (PySem.Within.cons name v B);refine aa (wpAny_lookBehind k (by rw[j];exact pastItsLine_dict (zS g (by rw[zJ];lia))) ?_)
 exact ad (h _ ⟨(d.2 _ (Ne.symm I.ne)).trans I.obj,c,I.ne⟩ d)
def ZMR{R:Result->al->Prop}{c:je}{b:jI}(X:K.In s.heap)(j:sJ K C=true)(i:zA K (.ref C) "__init__" = some (some (.ref f)))(e:xN K (.ref f)=some (.type "function"))(h:codeAny (aB prog w) (A.under (.builtin "type.__call__" ⟨.ref C::c,b⟩)) (.call (.ref f) ⟨.ref (s.heap.objs.size+1)::c,b⟩) (PySem.W.InitBack (s.heap.objs.size+1) R)
   { s with heap:=(s.heap.push wK).push (vZ C s.heap.objs.size) }):
  codeAny (aB prog w) A (.call (.ref C) ⟨c,b⟩) R s:=by
 obtain⟨k,g,d,t,l⟩:=s;exact PySem.W.make_core (PySem.W.makes_of X j) (sQ X i) (λa=>PySem.W.bind_fn X a e) (.inl rfl) h
end
def XB(f:Str)(v:V):List (Str×V)->List (Str×V)
 | []=>[(f,v)]
 | (g,x)::r=>if g=f then (g,v)::r else (g,x)::XB f v r
def GR(f g:Str)(v:V):∀ c:List (Str×V),(XB f v c).lookup g=if g=f then some v else c.lookup g
 | []=>by
  show xD g [(f,v)]=_;by_cases h:g=f
  ·have a:(g==f)=true:=beq_iff_eq.mpr h;simp only[xD,a,aO h]
  ·have a:(g==f)=false:=beq_eq_false_iff_ne.mpr h;simp only[xD,a,aM h]
 | (k,x)::r=>by
  have d:=GR f g v r;rw[show XB f v ((k,x)::r)=(if k=f then (k,v)::r else (k,x)::XB f v r) from rfl]
  by_cases b:k=f
  ·rw[aO b];by_cases h:g=k
   ·have a:(g==k)=true:=beq_iff_eq.mpr h;simp only[xD,a,aO (h.trans b)]
   ·have a:(g==k)=false:=beq_eq_false_iff_ne.mpr h;simp only[xD,a,aM (λe:g=f=>h (e.trans b.symm))]
  ·rw[aM b];by_cases h:g=k
   ·have a:(g==k)=true:=beq_iff_eq.mpr h;simp only[xD,a,aM (λe:g=f=>b (h.symm.trans e))]
   ·have a:(g==k)=false:=beq_eq_false_iff_ne.mpr h;simp only[xD,a];exact d
def JO(f:Str)(v:V):∀ a:List (Str×V),f∈(XB f v a).map (·.1)/\∀ g,g∈a.map (·.1)->g∈(XB f v a).map (·.1)
 | []=>⟨by simp[XB],λg h=>by simp at h⟩
 | (k,x)::r=>by
  obtain⟨c,d⟩:=JO f v r;rw[show XB f v ((k,x)::r)=(if k=f then (k,v)::r else (k,x)::XB f v r) from rfl]
  by_cases b:k=f
  ·rw[aO b];subst b;exact⟨by simp,λg h=>by simpa using h⟩
  ·rw[aM b];refine⟨?_,λg h=>?_⟩
   ·rw[yR];exact zI _ c
   ·rw[yR] at h⊢;rcases zF.mp h with e | e
    ·exact zF.mpr (.inl e)
    ·exact zI _ (d g e)
def E9(f:Str)(v:V):∀ a:List (Str×V),(XB f v a).length<=a.length+1
 | []=>by simp[XB]
 | (k,x)::r=>by
  have c:=E9 f v r;rw[show XB f v ((k,x)::r)=(if k=f then (k,v)::r else (k,x)::XB f v r) from rfl]
  by_cases b:k=f
  ·rw[aO b,zJ,zJ];lia
  ·rw[aM b,zJ,zJ];lia
def Yl.some_of{v:V}{o:jd}(r:Yl (some v) o):∃ u,o=some u/\ZQ v u:=by
 cases o with
 | none=>exact(show False from r).elim
 | some u=>exact⟨u,rfl,r⟩
def Yl.none_of{o:jd}(r:Yl none o):o=none:=by
 cases o with
 | none=>rfl
 | some u=>exact(show False from r).elim
def Gy{v:V}{u:aj}(r:ZQ v u):PySem.W.handedIn u=true:=by
 cases v with
 | non=>cases(show u=Value.none from r);rfl
 | bl b=>cases(show u=Value.bool b from r);rfl
 | int i=>obtain⟨t,e⟩:=(show ∃ t,u=Value.int i t from r);cases e;rfl
 | str x=>obtain⟨t,e⟩:=(show ∃ t,u=Value.str x t from r);cases e;rfl
 | byt b=>obtain⟨t,e⟩:=(show ∃ t,u=Value.bytes b t from r);cases e;rfl
 | flt b=>obtain⟨t,e⟩:=(show ∃ t,u=Value.float b t from r);cases e;rfl
 | ref a=>cases(show u=Value.ref a from r);rfl
 | ty n=>cases(show u=Value.type n from r);rfl
section
variable{P:am}{w:ax}{H H':Hp}{h h':aE}{a C dx:ak}{fs fs':List (Str×V)}
def Lu(c:Yv P w H h)(e:H a=some (.ins C dx fs)):∃ b,UA h a dx C b/\(∀ f,Yl (fs.lookup f) (b f))/\PySem.Within b (fs.map (·.1))/\fs.length<=1000/\H dx=some (.own a):=by
 obtain⟨d,z,g,i,b,n,r,q⟩:=(show Ze P w H h a (.ins C dx fs) from c a _ e);exact⟨b,⟨i,n,g⟩,r,q,z,d⟩
end
structure V8(K:zZ)(C:ak):Prop where
 pg:uX K C Str.empty=true
 hd:vO K C=true
 po:sU K C=true
 sa:zA K (.ref C) "__setattr__" = some (some (.builtin "object.__setattr__"))
def V8.get{K:zZ}{C:ak}(c:V8 K C)(f:Str):uX K C f=true:=c.pg
def Z6(K:zZ)(C:ak)(f:Str):Prop:=zA K (.ref C) f=some none
def Z6.taker{K:zZ}{C:ak}{f:Str}(n:Z6 K C f):rQ K C f=some none:=by
 unfold rQ;rw[show zA K (.ref C) f=some none from n];rfl
structure QE(K:zZ)(C:ak)(m:Str)(f:ak):Prop where
 at_:zA K (.ref C) m=some (some (.ref f))
 fn:wE K (.ref f)=true
 kp:yL K (.ref f)=true
section
variable{kj:js}{σ:St}{H:Hp}{s:al}{a C dx:ak}{fs:List (Str×V)}{f:Str}{v:V}{A:ay}{E:ja}
def Ca{b:Bool}{Q:ja}(I:ZF X kj σ H s)(e:H a=some (.ins C dx fs))(c:V8 X.K C)(n:Z6 X.K C f)(l:fs.lookup f=some v)(h:∀ u g,ZF X kj σ H g->ZQ v u->Q u g):aC (aB X.prog X.w) A (getAttr (.ref a) f b) Q E s:=by
 obtain⟨j,O,r,_,_,_⟩:=Lu I.hok e;obtain⟨u,i,d⟩:=Yl.some_of (v:=v) (o:=j f) (by rw[<-l];exact r f)
 exact ZOE I.kIn O (c.get f) c.hd n i (Gy d) (h u _ (I.tok _) d)
def Ed{m:Str}{g:ak}{i:Sem Bool}{Q:aj×je->al->Prop}(I:ZF X kj σ H s)(e:H a=some (.ins C dx fs))(c:V8 X.K C)(k:QE X.K C m g)(l:fs.lookup m=none)(h:Q (.ref g,[.ref a]) s):aC (aB X.prog X.w) A (getMethod (.ref a) m i) Q E s:=by
 obtain⟨d,O,r,_,_,_⟩:=Lu I.hok e;have b:d m=none:=Yl.none_of (by rw[<-l];exact r m)
 exact ZMd I.kIn O (c.get m) k.at_ k.fn b h
def DJ{y:V}{u:aj}{Q:Unit->al->Prop}(I:ZF X kj σ H s)(e:H a=some (.ins C dx fs))(c:V8 X.K C)(n:Z6 X.K C f)(J:fs.length<1000)(F:ZQ y u)(h:∀ k,ZF X kj σ (upd H a (.ins C dx (XB f y fs))) k->Q () k):aC (aB X.prog X.w) A (setAttr (.ref a) f u) Q E s:=by
 obtain⟨j,O,r,l,_,i⟩:=Lu I.hok e;have D:(fs.map (·.1)).length<=sizeLine:=by rw[zX,sizeLine_eq];lia
 refine ZOO I.kIn O c.sa c.po n.taker c.hd l D λm d G=>h _ ?_;have t:∃ o,m.get? dx=some o:=let ⟨o,_,_,e',_⟩:=d.ns;⟨o,e'⟩;refine I.write (x:=a) (e:=dx) (by rw[e];exact True.intro) (.inr i) (λb q p z=>(G.2 b p).trans z) t ?_
 refine⟨by rw[ZS O.ne];exact i,?_,O.ne,d.obj,_,d.ns,λg=>?_,λg B=>?_⟩
 ·have:=E9 f y fs;lia
 ·show Yl ((XB f y fs).lookup g) (if g=f then some u else j g)
  rw[GR];by_cases q:g=f
  ·rw[aO q,aO q];exact F
  ·rw[aM q,aM q];exact r g
 ·by_cases q:g=f
  ·rw[q];exact(JO f y fs).1
  ·refine(JO f y fs).2 g (l g λz=>B ?_);show (if g=f then some u else j g)=none
   rw[aM q];exact z
def ZF.made(I:ZF X kj σ H s):ZF X kj σ (upd (upd H s.heap.objs.size (.own (s.heap.objs.size+1))) (s.heap.objs.size+1) (.ins C s.heap.objs.size []))
  { s with heap:=(s.heap.push wK).push (vZ C s.heap.objs.size) }:=by
 have c:(s.heap.push wK).get? s.heap.objs.size=some wK:=yO s.heap rfl;have h:((s.heap.push wK).push (vZ C s.heap.objs.size)).get? (s.heap.objs.size+1)=some (vZ C s.heap.objs.size):=by
  have:=yO (s.heap.push wK) (o:=vZ C s.heap.objs.size) rfl
  rwa [vH] at this
 have i:(s.heap.push wK).Ns s.heap.objs.size (λ_=>none):=⟨wK,#[],_,c,rfl,(λe j=>absurd j (by simp)),λ_=>rfl⟩
 have g:=I.laid (a:=s.heap.objs.size) (o:=.own (s.heap.objs.size+1)) (h':=s.heap.push wK) (t':=s.toks) (λb u q=>zO _ q) (zY _) ⟨_,c⟩;refine g.laid (a:=s.heap.objs.size+1) (o:=.ins C s.heap.objs.size []) (t':=s.toks) (λb u q=>zO _ q) (vT (vH _ _)) ?_;have d:s.heap.objs.size≠s.heap.objs.size+1:=yU (wN _);refine⟨by rw[ZS d,ZM],zL _,d,h,λ_=>none,(Heap.Ns1.of_empty i).at λo q=>zO _ q,λ_=>True.intro,λy k=>absurd rfl k⟩
def GK{c:am}{w:ax}{b:Env}{e:Expr}{f:Str}{pos:Pos}{s:al}{Q:ja}(g:attributeBase e f b (aH e b)=aH e b)(h:aC (aB c w) A (aH e b) (λo d=>aC (aB c w) A (getAttr o f true) Q E d) E s):aC (aB c w) A (aH (.Attribute e f pos) b) Q E s:=
 Attribute_any_ h (by rw[arm_eval_Attribute,g])
end
inductive MD(K:zZ)(f:Str)(Q:VK)(x:V)(b:Hp):Prop
 |mk(a C d c v:_)(_:x=.ref a)(_:b a=some (.ins C d c))(_:V8 K C)(_:Z6 K C f)(_:c.lookup f=some v)(_:Q v b)
def B6(K:zZ)(b:TE)(f:Str):TE:=λc H Q=>b c H λx a=>MD K f Q x a
inductive Mf(K:zZ)(f:Str)(D:Z8)(e:L2.St)(y x:V)(c:Hp):Prop
 |mk(a C d b:_)(_:x=.ref a)(_:c a=some (.ins C d b))(_:V8 K C)(_:Z6 K C f)(_:b.length<1000)(_:D.nx e (upd c a (.ins C d (XB f y b))))
def ZSP(K:zZ)(d e:TE)(f:Str):TS:=λD a H=>e a H λy b=>d a b λx c=>Mf K f D a y x c
def FR(X:Cx)(c:Operator)(rd:V->V->Hp->VK->Prop):Prop:=
 ∀(a:js)(s:al)(b:St)(H:Hp)(x y:V)(u v:aj)(Q:VK),ZF X a b H s->ZQ x u->ZQ y v->rd x y H Q->aC (aB X.prog X.w) X.A (inplaceOp c u v) (EP X a b Q) X.xe s
inductive QB(K:zZ)(k:TE)(rd:V->V->Hp->VK->Prop)(f:Str)(D:Z8)(h:L2.St)(x:V)(d:Hp):Prop
 |mk(a C j g v:_)(_:x=.ref a)(_:d a=some (.ins C j g))(_:V8 K C)(_:Z6 K C f)(_:g.lookup f=some v)(_:k h d λy i=>rd v y i λz e=>∃ c b,e a=some (.ins C c b)/\b.length<1000/\D.nx h (upd e a (.ins C c (XB f z b))))
def ZOb(K:zZ)(c d:TE)(rd:V->V->Hp->VK->Prop)(f:Str):TS:=λD a H=>c a H λx b=>QB K d rd f D a x b
section
variable{o e value:Expr}{f:Str}{pos pos' tpos:Pos}{ta tv:TE}
def We(p:PE X e ta)(m:attributeBase e f X.env (aH e X.env)=aH e X.env):PE X (.Attribute e f pos) (B6 X.K ta f):=by
 intro b s w H Q I h;refine GK m (Zz (p b s w H _ I h) ?_);rintro u A ⟨x,d,g,t,a,C,y,z,v,k,j,c,n,l,q⟩;subst k;obtain rfl:u=Value.ref a:=t;exact Ca g j c n l λD B i r=>⟨v,d,i,r,q⟩
def Pd(r:PE X o ta)(v:PE X value tv)(t:swapsWith value (some (.Attribute o f pos')) pos.line X.env=pure false):PS X (.Assign [.Attribute o f pos'] value pos) (ZSP X.K ta tv f):=by
 intro b s d H D I h;refine plainObj_wpAny_Assign_Attribute (Z7 (v b s d H _ I h) λu E y g i B q=>Zz (r b E d g _ i q) λw L ⟨x,F,j,A,a,C,G,J,p,m,c,n,l,z⟩=>?_) t;subst p;obtain rfl:w=Value.ref a:=A;exact DJ j m c n l B λM k=>⟨d,_,k,z⟩
def Go{j:Operator}{rd:V->V->Hp->VK->Prop}(J:PE X o ta)(L:PE X value tv)(i:FR X j rd):PS X (.AugAssign (.Attribute o f tpos) j value pos) (ZOb X.K ta tv rd f):=by
 intro b s d H D I h;refine wpAny_AugAssign_AttributeAny (Zz (J b s d H _ I h) ?_);rintro N s1 ⟨x,k,p,R,a,C,dx,fs,v,F,E,c,n,l,q⟩;subst F;obtain rfl:N=Value.ref a:=R;refine Ca p E c n l λu U r Q=>Z7 (L b U d k _ r q) λY W y m t S O=>Zz (i b W d m v y u Y _ t Q S O) ?_;rintro w4 s4 ⟨z,Z,w,T,B,G,g,M,P⟩;exact DJ w g c n M T λs5 A=>⟨d,_,A,P⟩
inductive K0(x y:V)(H:Hp)(Q:VK):Prop
 |mk(i j:_)(_:x=.int i)(_:y=.int j)(_:Q (.int (i-j)) H)
def D3:FR X .Sub K0:=by
 rintro a s g H x y u v Q I c d ⟨i,j,rfl,rfl,q⟩;obtain⟨t,rfl⟩:=(show ∃ t,u=Value.int i t from c);obtain⟨b,rfl⟩:=(show ∃ b,v=Value.int j b from d);exact PyProof.Rows.isub_int ⟨.int (i-j),H,I.tok _,⟨_,rfl⟩,q⟩
end
section
variable{kj:js}{σ:St}{H:Hp}{s:al}{A:ay}{E Q:ja}{c:aj}{b:Bool}
inductive Y0(K:zZ)(H:Hp):V->aj->Prop where
 | non:Y0 K H .non (.type "NoneType")
 | bl (x:Bool):Y0 K H (.bl x) (.type "bool")
 | int (i:Int):Y0 K H (.int i) (.type "int")
 | str (x:Str):Y0 K H (.str x) (.type "str")
 | flt (x:UInt64):Y0 K H (.flt x) (.type "float")
 | lst {a:ak} {xs:jf} (e:H a=some (.lst xs)):Y0 K H (.ref a) (.type "list")
 | frz {a:ak} {o:aI} {xs:jf} (e:H a=some (.frz o (.lst xs))):Y0 K H (.ref a) (.type "list")
 | tup {a:ak} {xs:jf} (e:H a=some (.tup xs)):Y0 K H (.ref a) (.type "tuple")
 | dK {a:ak} {kvs:List (Zb×V)} (e:H a=some (.dK kvs)):Y0 K H (.ref a) (.type "dict")
 | dT {a:ak} {kvs:List (jC×V)} (e:H a=some (.dT kvs)):Y0 K H (.ref a) (.type "dict")
 | ins {a C dx:ak} {fs:List (Str×V)} (e:H a=some (.ins C dx fs)) (cl:V8 K C) (ha:zA K (.ref C) "__class__" = some (some (.builtin "object.__class__")))
   (hn:PySem.W.specialIn K (.builtin "object.__class__") "__get__" = some (some (.builtin "getset_descriptor.__get__"))) (htk:PySem.W.takesIn K (.builtin "object.__class__")=some true)
   (hm:yI K C (.type "object")=some true):Y0 K H (.ref a) (.ref C)
def ZKC{x:V}{u t:aj}(I:ZF X kj σ H s)(f:ZQ x u)(N:Y0 X.K H x t)(e:yZ X.K t c=some b)(h:∀ M,Q (.bool b) { s with toks:=M }):
  aC (aB X.prog X.w) A (call (.builtin "isinstance") [u,c]) Q E s:=by
 cases N with
 | non=>cases(show u=Value.none from f);exact xI PySem.W.kitx_none I.kIn True.intro e (λz=>nomatch z) h
 | bl y=>cases(show u=Value.bool y from f);exact xI PySem.W.kitx_bool I.kIn True.intro e (λz=>nomatch z) h
 | int i=>obtain⟨t,q⟩:=(show ∃ t,u=Value.int i t from f);cases q;exact xI PySem.W.kitx_int I.kIn True.intro e (λz=>nomatch z) h
 | str y=>obtain⟨t,q⟩:=(show ∃ t,u=Value.str y t from f);cases q;exact xI PySem.W.kitx_str I.kIn True.intro e (λz=>nomatch z) h
 | flt y=>obtain⟨t,q⟩:=(show ∃ t,u=Value.float y t from f);cases q;exact xI PySem.W.kitx_float I.kIn True.intro e (λz=>nomatch z) h
 | @lst a k d=>
  cases(show u=Value.ref a from f);obtain⟨_,_,n,_,g⟩:=(show Ze X.prog X.w H s.heap a (.lst k) from I.hok a _ d);exact xI PySem.W.kitx_list I.kIn ⟨_,g,rfl⟩ e (λz=>nomatch z) h
 | @frz a L k d=>
  cases(show u=Value.ref a from f);obtain⟨_,_,_,n,_,g⟩:=(show Ze X.prog X.w H s.heap a (.frz L (.lst k)) from I.hok a _ d);exact xI PySem.W.kitx_list I.kIn ⟨_,g,rfl⟩ e (λz=>nomatch z) h
 | @tup a k d=>
  cases(show u=Value.ref a from f);obtain⟨_,_,_,p⟩:=(show Ze X.prog X.w H s.heap a (.tup k) from I.hok a _ d);obtain⟨o,g,l,_⟩:=p;exact xI PySem.W.kitx_tuple I.kIn ⟨o,g,l⟩ e (λz=>nomatch z) h
 | @dK a j d=>
  cases(show u=Value.ref a from f);obtain⟨_,_,U,_,p⟩:=(show Ze X.prog X.w H s.heap a (.dK j) from I.hok a _ d);obtain⟨o,B,v,g,l,_⟩:=p;exact xI PySem.W.kitx_dict I.kIn ⟨o,g,l.1⟩ e (λz=>nomatch z) h
 | @dT a j d=>
  cases(show u=Value.ref a from f);obtain⟨_,_,k,_,o,B,v,g,l,_⟩:=(show Ze X.prog X.w H s.heap a (.dT j) from I.hok a _ d);exact xI PySem.W.kitx_dict I.kIn ⟨o,g,l.1⟩ e (λz=>nomatch z) h
 | @ins a C P R d r D G m F=>
  cases(show u=Value.ref a from f);obtain⟨S,O,_⟩:=Lu I.hok d;obtain⟨T,J,_⟩:=O.look;exact xI (PySem.W.kitx_own (r.get _) r.hd D G m F) I.kIn J e (λz=>nomatch z) h
end
structure ZT(k:Nat)(A:ay):Prop where
 hd:A.handled=none
 dp:A.depth+3 * k+5<recursionLimit
 un:A.units+16 * k+200<cLine
def ZT.mono{j k:Nat}{A:ay}(r:ZT k A)(h:j<=k):ZT j A:=⟨r.hd,by have:=r.dp;lia,by have:=r.un;lia⟩
def ZT.to{j:Nat}{A:ay}(r:ZT j A)(k:Nat)(h:k<=j:=by decide):ZT k A:=r.mono h
def ZT.deeper{k:Nat}{A:ay}(r:ZT (k+1) A)(a:Env):ZT k (A.deeper a):=
 ⟨r.hd,by have:=r.dp;show A.depth+1+3 * k+5<_;lia,by have:=r.un;show A.units+3+16 * k+200<_;lia⟩
def ZT.in1{k:Nat}{A:ay}(r:ZT (k+1) A):ZT k A.in1:=
 ⟨r.hd,by have:=r.dp;show A.depth+3 * k+5<_;lia,by have:=r.un;show A.units+1+16 * k+200<_;lia⟩
def BH{A:ay}{C:ak}{b:je}{a:jI}:(A.under (.builtin "type.__call__" ⟨.ref C::b,a⟩)).depth=A.depth+1:=by
 first | rfl | simp[Around.under,Code.weight,Code.isCreation,Code.isGuard,Code.isCaller,Code.frames,Code.isFrame,guardIds]
def ZIl{A:ay}{C:ak}{b:je}{a:jI}:(A.under (.builtin "type.__call__" ⟨.ref C::b,a⟩)).units=A.units+1:=by
 first | rfl | simp[Around.under,Code.cUnits,Code.frames,Code.isFrame]
def ZT.make{k:Nat}{A:ay}(r:ZT (k+1) A)(C:ak)(b:je)(a:jI):ZT k (A.under (.builtin "type.__call__" ⟨.ref C::b,a⟩)):=
 ⟨r.hd,by have:=r.dp;rw[BH];lia,by have:=r.un;rw[ZIl];lia⟩
def ZT.depth{k:Nat}{A:ay}(r:ZT k A):A.depth<recursionLimit:=by have:=r.dp;lia
def ZT.units{k:Nat}{A:ay}(r:ZT k A):A.units+64<cLine:=by have:=r.un;lia
def ZT.units0{k:Nat}{A:ay}(r:ZT k A):A.units<cLine:=by have:=r.un;lia
def Vr:TA:=λ_ H Q=>Q [] H
def YX(d:TE)(e:TA):TA:=λa H Q=>d a H λx b=>e a b λf c=>Q (x::f) c
section
variable{e:Expr}{es:jB}{te:TE}{t:TA}{pos:Pos}
def Zj:PA X [] Vr:=λ_ _ _ _ H Q I h=>Calls.spliced_nil ⟨[],H,I,.nil,h⟩
def ZW(i:PE X e te)(j:PA X es t)(k:aw (e::es) X.env=(false,aH e X.env)::aw es X.env:=by rfl):PA X (e::es) (YX te t):=by
 intro pos a s b H Q I h;rw[k];show aC _ _ (spliced ((false,aH e X.env)::aG pos (aw es X.env))) _ _ s;refine Calls.spliced_cons (Z7 (i a s b H _ I h) λu p x c f n l=>?_);exact Z7 (j pos a p b c _ f l) λv r q d g o m=>⟨x::q,d,g,.cons n o,m⟩
def ZSb(t:TA):TE:=λc H Q=>t c H λb a=>b.length<=ar/\∀ p,a p=none->Q (.ref p) (upd a p (.tup b))
def EV(t:TA):TE:=λc H Q=>t c H λb a=>b.length<=ar/\∀ p,a p=none->Q (.ref p) (upd a p (.lst b))
def Yw{k}(h:PA X es t):PE X (.Tuple es k pos) (ZSb t):=by
 intro a s m H Q I i;refine wpAny_Tuple_spliced (Zz (h pos a s m H _ I i) λj c ⟨l,d,f,r,z,q⟩=>⟨by rw[<-r.length];exact z,?_⟩)
 have g:d c.heap.objs.size=none:=f.hok.fresh (zY _);refine⟨.ref c.heap.objs.size,upd d c.heap.objs.size (.tup l),f.laid (t':=c.toks) (λb u e=>zO _ e) (zY _) ?_,rfl,q _ g⟩;exact⟨z,j,r,⟨_,yO _ rfl,rfl,_,rfl⟩⟩
def YG(h:PA X es t):PE X (.List es pos) (EV t):=by
 intro a s l H Q I i;refine wpAny_List_spliced (Zz (h pos a s l H _ I i) λj c ⟨k,d,f,r,z,q⟩=>⟨by rw[<-r.length];exact z,?_⟩)
 have g:d c.heap.objs.size=none:=f.hok.fresh (zY _);refine⟨.ref c.heap.objs.size,upd d c.heap.objs.size (.lst k),f.laid (t':=c.toks) (λb u e=>zO _ e) (zY _) ?_,rfl,q _ g⟩;exact⟨z,j,0,r,yO _ rfl⟩
end
abbrev Sp:=jf->Hp->VK->XK->Prop
abbrev Wg:=jx->Hp->al->XK->ja
structure Vj(P:am)(w:ax)(K:zZ)(mg:jc)(km:aE)(A:ay)(outer:jx)(s:al)(H:Hp):Prop where
 frames:A.frames=some outer
 mod:Mod K mg km
 bs:∀ b o,km.get? b=some o->s.heap.get? b=some o/\H b=none
 bsz:km.objs.size<=s.heap.objs.size
 funs:s.heap.FunFrames km outer
 frf:∀ b∈frs outer,H b=none
 hok:Yv P w H s.heap
 bare:AllBare s.gens
def CE(a:jx)(P:am)(w:ax)(H:Hp)(s:al)(Q:VK)(u:aj)(b:al):Prop:=
 ∃ v c,b.os=s.os/\AllBare b.gens/\Un (frs a) [] H c s.heap b.heap/\Yv P w c b.heap/\ZQ v u/\Q v c
def CR(c:Wg)(a:jx)(P:am)(w:ax)(H:Hp)(s:al)(Q:VK)(E:XK)(r:Result)(b:al):Prop:=
 match r with
 | .ok (.ret u)=>CE a P w H s Q u b
 | .ok _=>False
 | .error e=>c a H s E e b
structure ZI(P:am)(w:ax)(K:zZ)(mg:jc)(km:aE)(CX:Wg)(k:Nat)(f:ak)(fd:ao)(ps:jr)(sp:Sp):Prop where
 len:∀ vs H Q E,sp vs H Q E->vs.length=ps.length
 run:∀(A:ay)(outer:jx)(s:al)(H:Hp)(args:Args)(us:je)(vs:jf)(Q:VK)(E:XK),ZT k A->Vj P w K mg km A outer s H->BindsTo s fd args (ps.zip us)->ZO vs us->sp vs H Q E ->
  codeAny (aB P w) A (.call (.ref f) args) (CR CX outer P w H s Q E) s
def ZI.imp{P:am}{w:ax}{K:zZ}{i:jc}{a:aE}{e:Wg}{k:Nat}{f:ak}{g:ao}{j:jr}{l d:Sp}(F:ZI P w K i a e k f g j l)(h:∀ c H Q E,d c H Q E->l c H Q E):ZI P w K i a e k f g j d:=
 ⟨λc H Q E q=>F.len c H Q E (h _ _ _ _ q),λA b s H args t c Q E o n m r p=>F.run A b s H args t c Q E o n m r (h _ _ _ _ p)⟩
def Vj.make{P:am}{w:ax}{K:zZ}{c:jc}{b:aE}{A:ay}{a:jx}{s:al}{H:Hp}(e:Vj P w K c b A a s H)(C:ak)(f:je)(d:jI):
  Vj P w K c b (A.under (.builtin "type.__call__" ⟨.ref C::f,d⟩)) a s H:=⟨by first | exact e.frames | (simpa [Around.under,Code.envs,Code.isFrame,pushEnvs] using e.frames),e.mod,e.bs,e.bsz,e.funs,e.frf,e.hok,e.bare⟩
section
variable{kj:js}{σ:St}{H:Hp}{s s':al}
def ZF.env0(I:ZF X kj σ H s):Vj X.prog X.w X.K X.mg X.base X.A X.stack s H:=
 ⟨I.ok.frames,I.ok.mod,I.bs,zS I.ok.bsz I.sz,I.stack,I.stkFree,I.hok,I.bare⟩
def ZF.after{Q:VK}{u:aj}(I:ZF X kj σ H s)(h:CE X.stack X.prog X.w H s Q u s'):EP X kj σ Q u s':=by
 obtain⟨v,f,j,a,k,c,r,q⟩:=h;obtain⟨i,g,d,t,e⟩:=s';obtain rfl:e=s.os:=j;exact⟨v,f,I.call (h':=i) (g':=g) (d':=d) (t':=t) (ch:=[]) k c a (λb z=>absurd z (by simp)),r,q⟩
end
def M2(c:Sp)(a:jf)(E:XK)(t:TA):TE:=λe H Q=>t e H λd b=>c (d++a) b Q E
inductive Ol(C:ak)(m:Str)(g:Sp)(b:jf)(E:XK)(t:TA)(i:L2.St)(Q:VK)(x:V)(c:Hp):Prop
 |mk(a f d:_)(_:x=.ref a)(_:c a=some (.ins C f d))(_:d.lookup m=none)(_:t i c λh e=>g (x::(h++b)) e Q E)
def LV(C:ak)(m:Str)(d:Sp)(a:jf)(E:XK)(e:TE)(t:TA):TE:=λb H Q=>e b H λx c=>Ol C m d a E t b Q x c
def Lr(C:ak)(e:Sp)(c:jf)(E:XK)(t:TA):TE:=λg H Q=>t g H λf b=>∀ x a,b x=none->b a=none->a≠x ->
 e (.ref x::(f++c)) (upd (upd b a (.own x)) x (.ins C a [])) (λv d=>v=.non/\Q (.ref x) d) E
def Zt(K:zZ)(d:ao)(c:jr)(b:je):Prop:=
 ∀(s:al)(a:je),K.In s.heap->(a++b).length=c.length->BindsTo s d ⟨a,[]⟩ (c.zip (a++b))
def Zt.all{K:zZ}{c:ao}{b:jr}(h:∀ a:je,a.length=b.length->bindArgs c ⟨a,[]⟩=pure (b.zip a)):Zt K c b []:=λs a _ d=>by
 rw[yS] at d⊢;exact .of_eq (h a d)
def Ut(c:Wg)(X:Cx)(E:XK):Prop:=∀(a:js)(d:St)(H:Hp)(s:al)(e:aj)(b:al),ZF X a d H s->c X.stack H s E e b->X.xe e b
section
variable{CX:Wg}{k:Nat}{f C:ak}{fd:ao}{ps:jr}{sp:Sp}{jl:jf}{ds:je}{E:XK}{x m:Str}{p pos jh:Pos}{e o:Expr}{es:jB}{ta:TE}{t:TA}
def KZ{a:js}{c:St}{H:Hp}{s:al}{Q:VK}{us:je}{vs:jf}(F:ZI X.prog X.w X.K X.mg X.base CX k f fd ps sp)(n:ZT k X.A)(i:Zt X.K fd ps ds)(j:ZO jl ds)(q:Ut CX X E)(I:ZF X a c H s)(r:ZO vs us)(h:sp (vs++jl) H Q E):aC (aB X.prog X.w) X.A (call (.ref f) us) (EP X a c Q) X.xe s:=by
 have d:ZO (vs++jl) (us++ds):=r.append j;have l:(us++ds).length=ps.length:=by rw[<-d.length];exact F.len _ _ _ _ h
 refine wpAny_call (codeAny_mono (F.run X.A X.stack s H ⟨us,[]⟩ (us++ds) (vs++jl) Q E n I.env0 (i s us I.kIn l) d h) λr v b=>?_)
 cases r with
 | error e=>exact q a c H s e v I b
 | ok g=>
  cases g with
  | ret u=>exact I.after b
  | next=>exact False.elim b
  | brk=>exact False.elim b
  | cont=>exact False.elim b
def IH(F:ZI X.prog X.w X.K X.mg X.base CX k f fd ps sp)(y:ZT k X.A)(n:Gl X x)(v:X.mg x=some (.ref f))(u:yL X.K (.ref f)=true)(i:Zt X.K fd ps ds)(j:ZO jl ds)(z:Ut CX X E)(g:PA X (e::es) t)(b:(x==("__debug__" : Str))=false:=by decide)(l:aw (e::es) X.env=(false,aH e X.env)::aw es X.env:=by rfl)(c:(aG pos (aw es X.env)).any (·.1)=false:=by rfl):
  PE X (.Call (.Name x p) (e::es) [] pos) (M2 sp jl E t):=by
 intro a s B H Q I h;refine ag (P5 I n v ?_ b);refine uF (h₀:=X.base) I.ok.mod.kin u (Z7 (g pos a s B H _ I h) λJ G L D d r q=>⟨d.kIn,?_⟩) l c;exact KZ F y i j z d r q
def ZOW{v:Sem Bool}(M:PE X o ta)(c:V8 X.K C)(n:QE X.K C m f)(F:ZI X.prog X.w X.K X.mg X.base CX k f fd ps sp)(N:ZT k X.A)(J:Zt X.K fd ps ds)(L:ZO jl ds)(P:Ut CX X E)(G:PA X (e::es) t)(g:aw (e::es) X.env=(false,aH e X.env)::aw es X.env:=by rfl)(d:(aG pos (aw es X.env)).any (·.1)=false:=by rfl)(O:aH (.Call (.Attribute o m jh) (e::es) [] pos) X.env=(do
   let ov<-aH o X.env
   standAt jh.atName
   let (f,first)<-holding [ov] (getMethod ov m v)
   callWith pos f first (aG pos (aw (e::es) X.env)) (backToKw pos (keywordEach [] X.env))):=by rfl):
  PE X (.Call (.Attribute o m jh) (e::es) [] pos) (LV C m sp jl E ta t):=by
 intro b s y H Q I h;refine pV (pl:=v) (Zz (M b s y H _ I h) λu T ⟨x,z,i,S,a,Z,fs,D,B,l,q⟩=>?_) O;subst D;obtain rfl:u=Value.ref a:=S;refine Ed i B c n l ?_;refine uF (first:=[.ref a]) (h₀:=X.base) I.ok.mod.kin n.kp (Z7 (G pos b T y z _ i q) λU s2 V Y j r R=>⟨j.kIn,?_⟩) g d
 exact KZ (us:=.ref a::U) (vs:=.ref a::V) F N J L P j (.cons rfl r) R
def ZLX{i:Sem Bool}(y:PE X o ta)(c:V8 X.K C)(g:QE X.K C m f)(F:ZI X.prog X.w X.K X.mg X.base CX k f fd ps sp)(z:ZT k X.A)(r:Zt X.K fd ps ds)(v:ZO jl ds)(D:Ut CX X E)(B:aH (.Call (.Attribute o m jh) [] [] pos) X.env=(do
   let ov<-aH o X.env
   standAt jh.atName
   let (f,first)<-holding [ov] (getMethod ov m i)
   callWith pos f first (aG pos (aw [] X.env)) (backToKw pos (keywordEach [] X.env))):=by rfl):
  PE X (.Call (.Attribute o m jh) [] [] pos) (LV C m sp jl E ta Vr):=by
 intro b s J H Q I h;refine pV (pl:=i) (Zz (y b s J H _ I h) λu O ⟨x,L,d,G,a,M,N,n,j,l,q⟩=>?_) B;subst n;obtain rfl:u=Value.ref a:=G;refine Ed d j c g l ?_;exact qW (first:=[.ref a]) d.kIn g.kp (KZ (us:=[.ref a]) (vs:=[.ref a]) F z r v D d (.cons rfl .nil) q)
structure Mk(K:zZ)(C f:ak):Prop where
 makes:sJ K C=true
 init:zA K (.ref C) "__init__" = some (some (.ref f))
 fn:wE K (.ref f)=true
 kp:yL K (.ref C)=true
def Gf{b:js}{i:St}{H:Hp}{s:al}{Q:VK}{us:je}{g:jf}(M:Mk X.K C f)(F:ZI X.prog X.w X.K X.mg X.base CX k f fd ps sp)(L:ZT (k+1) X.A)(D:Zt X.K fd ps ds)(G:ZO jl ds)(N:Ut CX X E)(I:ZF X b i H s)(r:ZO g us)(h:∀ x d,H x=none->H d=none->d≠x->sp (.ref x::(g++jl)) (upd (upd H d (.own x)) x (.ins C d [])) (λv q=>v=.non/\Q (.ref x) q) E):
  aC (aB X.prog X.w) X.A (call (.ref C) us) (EP X b i Q) X.xe s:=by
 have j:=h (s.heap.objs.size+1) s.heap.objs.size (I.hok.fresh (wG _)) (I.hok.fresh (zY _)) (yU (wN _));have c:=ZF.made (C:=C) I;have l:ZO (V.ref (s.heap.objs.size+1)::(g++jl)) (Value.ref (s.heap.objs.size+1)::(us++ds)):=.cons rfl (r.append G);have J:(Value.ref (s.heap.objs.size+1)::us++ds).length=ps.length:=by
  have e:=l.length;rw[F.len _ _ _ _ j] at e;exact e.symm
 refine wpAny_call (ZMR (f:=f) I.kIn M.makes M.init (beq_iff_eq.mp M.fn) (codeAny_mono (F.run _ X.stack _ _ ⟨Value.ref (s.heap.objs.size+1)::us,[]⟩ (Value.ref (s.heap.objs.size+1)::(us++ds)) _ _ E (L.make C us [])
  (c.env0.make C us []) (D _ (Value.ref (s.heap.objs.size+1)::us) c.kIn J) l j) λr R a=>?_))
 cases r with
 | error e=>exact N b i _ _ e R c a
 | ok B=>
  cases B with
  | ret u=>
   obtain⟨v,n,y,P,z,O⟩:=c.after a;subst z;exact⟨P,⟨V.ref (s.heap.objs.size+1),n,y,rfl,O⟩⟩
  | next=>exact False.elim a
  | brk=>exact False.elim a
  | cont=>exact False.elim a
def ZOf(M:Mk X.K C f)(F:ZI X.prog X.w X.K X.mg X.base CX k f fd ps sp)(v:ZT (k+1) X.A)(n:Gl X x)(u:X.mg x=some (.ref C))(i:Zt X.K fd ps ds)(j:ZO jl ds)(y:Ut CX X E)(g:PA X (e::es) t)(b:(x==("__debug__" : Str))=false:=by decide)(l:aw (e::es) X.env=(false,aH e X.env)::aw es X.env:=by rfl)(c:(aG pos (aw es X.env)).any (·.1)=false:=by rfl):
  PE X (.Call (.Name x p) (e::es) [] pos) (Lr C sp jl E t):=by
 intro a s z H Q I h;refine ag (P5 I n u ?_ b);refine uF (h₀:=X.base) I.ok.mod.kin M.kp (Z7 (g pos a s z H _ I h) λG D J B d r q=>⟨d.kIn,?_⟩) l c;exact Gf M F v i j y d r q
def AM(M:Mk X.K C f)(F:ZI X.prog X.w X.K X.mg X.base CX k f fd ps sp)(j:ZT (k+1) X.A)(g:Gl X x)(i:X.mg x=some (.ref C))(c:Zt X.K fd ps ds)(d:ZO jl ds)(l:Ut CX X E)(a:(x==("__debug__" : Str))=false:=by decide):PE X (.Call (.Name x p) [] [] pos) (Lr C sp jl E Vr):=by
 intro b s n H Q I h;refine ag (P5 I g i ?_ a);exact qW I.kIn M.kp (Gf (us:=[]) M F j c d l I .nil h)
end
def PK(X:Cx)(b:List Keyword)(t:TA):Prop:=
 ∀(pos:Pos)(a:js)(s:al)(c:St)(H:Hp)(Q:jf->Hp->Prop),ZF X a c H s->t c H Q->aC (aB X.prog X.w) X.A (evalAll ((backToKw pos (keywordEach b X.env)).map (·.2))) (AP X a c Q) X.xe s
section
variable{CX:Wg}{k:Nat}{f C:ak}{fd:ao}{ps ks:jr}{sp:Sp}{E:XK}{x m:Str}{p pos jh kpos:Pos}{e o:Expr}{es:jB}{kws:List Keyword}{te ta:TE}{t tk:TA}{nm:Option Str}
def ZQl:PK X [] Vr:=λ_ _ _ _ H Q I h=>wpAny_evalAll_nil ⟨[],H,I,.nil,h⟩
def ZNc(j:PE X e te)(l:PK X kws t):PK X (⟨nm,e,kpos⟩::kws) (YX te t):=by
 intro pos a s b H Q I h;show aC _ _ (evalAll ((do let v<-aH e X.env;standAt pos;pure v)::(backToKw pos (keywordEach kws X.env)).map (·.2))) _ _ s
 refine wpAny_evalAll_cons (aa (Z7 (j a s b H _ I h) λu y x c g r n=>aa (ah (ad ?_))));exact Z7 (l pos a y b c _ g n) λB A z d i w q=>⟨x::z,d,i,.cons r w,q⟩
variable{g:je->je->je}{gV:jf->jf->jf}
end
structure ZA(N P:jr)(sc:aF):Prop where
 kind:sc.kind=.function
 co:sc.isCoroutine=false
 gen:sc.isGenerator=false
 nd:N.Nodup
 pre:N.take P.length=P
 par:∀ x∈P,sc.names.lookup x=some .local\/sc.names.lookup x=some .cell
 nofree:∀ y∈sc.names,y.2≠.free
def Zr{N P:jr}{a:aF}(b:a.kind=.function:=by rfl)(c:a.isCoroutine=false:=by rfl)(d:a.isGenerator=false:=by rfl)(e:N.Nodup:=by decide +kernel)(f:N.take P.length=P:=by rfl)(g:∀ x∈P,a.names.lookup x=some .local\/a.names.lookup x=some .cell:=by decide +kernel)(h:∀ y∈a.names,y.2≠.free:=by decide +kernel):ZA N P a:=⟨b,c,d,e,f,g,h⟩
def Es{kindOf:Str->Option NameKind}{x:Str}:∀{a:jI}{m:jc},(∀ v,(x,v)∉a)->bindL kindOf a m x=m x
 | [],_,_=>rfl
 | (n,v)::r,m,h=>by
  unfold bindL;rw[Es λw b=>h w (zI _ b)];split
  ·have:x≠n:=by rintro rfl;exact h v zC
   simp[this]
  ·rfl
def GP{kindOf:Str->Option NameKind}{x:Str}:∀{a:jI}{m:jc},(∀ v,(x,v)∉a)->bindC kindOf a m x=m x
 | [],_,_=>rfl
 | (n,v)::r,m,h=>by
  unfold bindC;rw[GP λw b=>h w (zI _ b)];split
  ·rfl
  ·have:x≠n:=by rintro rfl;exact h v zC
   simp[this]
def G0{kindOf:Str->Option NameKind}{x:Str}{v:aj}:∀{P:jr}{a:je}{i:Nat}{m:jc},P.Nodup->P[i]? = some x->a[i]? = some v->kindOf x=some .local ->
  bindL kindOf (P.zip a) m x=some v
 | [],_,_,_,_,h,_,_=>by simp at h
 | _::_,[],_,_,_,_,h,_=>by simp at h
 | p::P,w::a,0,m,nd,h1,h2,hk=>by
  simp at h1 h2;subst h1;subst h2;show bindL kindOf ((p,w)::P.zip a) m p=_;unfold bindL;rw[Es λv b=>(xJ.mp nd).1 (sG b).1,aO hk];simp
 | p::P,w::a,i+1,m,nd,h1,h2,hk=>by
  show bindL kindOf ((p,w)::P.zip a) m x=_;unfold bindL;exact G0 (i:=i) (xJ.mp nd).2 (by simpa using h1) (by simpa using h2) hk
def Ce{kindOf:Str->Option NameKind}{x:Str}{v:aj}:∀{P:jr}{a:je}{i:Nat}{m:jc},P.Nodup->P[i]? = some x->a[i]? = some v->kindOf x≠some .local ->
  bindC kindOf (P.zip a) m x=some v
 | [],_,_,_,_,h,_,_=>by simp at h
 | _::_,[],_,_,_,_,h,_=>by simp at h
 | p::P,w::a,0,m,nd,h1,h2,hk=>by
  simp at h1 h2;subst h1;subst h2;show bindC kindOf ((p,w)::P.zip a) m p=_;unfold bindC;rw[GP λv b=>(xJ.mp nd).1 (sG b).1,aM hk];simp
 | p::P,w::a,i+1,m,nd,h1,h2,hk=>by
  show bindC kindOf ((p,w)::P.zip a) m x=_;unfold bindC;exact Ce (i:=i) (xJ.mp nd).2 (by simpa using h1) (by simpa using h2) hk
def Qg(N:jr)(a:jf):St:=a.map some++xK (N.length-a.length) none
def WZ(CX:Wg)(P:am)(w:ax)(K:zZ)(mg:jc)(km:aE)(N:jr)(qual:Str)(scope:aF)(f:ak)(cd:aj)(A:ay)(outer:jx)(s:al)(H:Hp)(E:XK):Cx where
 prog:=P
 w:=w
 K:=K
 mg:=mg
 base:=km
 A:=A.deeper (envOfC qual scope s.heap.objs.size f cd)
 N:=N
 s₀:=s
 H₀:=H
 env:=envOfC qual scope s.heap.objs.size f cd
 outer:=outer
 stack:=envOfC qual scope s.heap.objs.size f cd::outer
 ex:=[]
 calm:=true
 fn:=λ_=>true
 pn:=[]
 xe:=λe s'=>aC (aB P w) (A.deeper (envOfC qual scope s.heap.objs.size f cd)) (leaving (envOfC qual scope s.heap.objs.size f cd) e) (λ_ s''=>CX outer H s E e s'') (λe' s''=>CX outer H s E e' s'') s'
def Ho{a:aF}{n:Nat}{x:Str}(h:a.names.lookup x=some .cell):∃ c,(cellsFrom n a.names []).lookup x=some c:=by
 have q:=pQ a.names n [] (.inl h);exact sO.mp q
def ZKa{Q:Wg}{P:am}{w:ax}{K:zZ}{M:jc}{m:aE}{N C:jr}{j:Str}{d:aF}{f:ak}{I:aj}{A:ay}{g:jx}{s U:al}{H:Hp}{E:XK}{O:je}{D:jf}(S:ZA N C d)(Y:A.handled=none)(o:Vj P w K M m A g s H)(hl:D.length=C.length)(r:ZO D O)(x:InCallC s s.heap.objs.size (bindL (envOfC j d s.heap.objs.size f I).kindOf (C.zip O) λ_=>none) (cellsFrom (s.heap.objs.size+1) d.names []) (bindC (envOfC j d s.heap.objs.size f I).kindOf (C.zip O) λ_=>none) U):
  ZF (WZ Q P w K M m N j d f I A g s H E) [] (Qg N D) H U:=by
 have Z:C.length<=N.length:=by have:=congrArg wQ S.pre;rw[xX] at this;lia
 obtain⟨J,tk,rfl,R⟩:=x.done;have B:∀ b:ak,b∉(WZ Q P w K M m N j d f I A g s H E).ex:=λb z=>absurd (show b∈([]:jD) from z) (by simp)
 refine⟨⟨o.mod,S.kind,rfl,rfl,zY _,λy z c J l=>?_,λy t=>?_,λy c _ h=>?_,λ_=>Y,Around.frames_deeper o.frames,.inr ⟨rfl,rfl⟩,λb z=>absurd z (B b),o.bs,o.bsz,λb _ _=>B b,λb z=>absurd z (B b),o.funs,o.frf⟩,
  rfl,o.bare,Un.kept R,⟨_,x.toInCall.ns,λi y v J l h3=>?_⟩,λy c h=>⟨_,x.cell y c h⟩,o.hok.fresh (zY _),λy c h=>?_,λp F=>absurd (show p∈([]:js) from F) (by simp),o.hok.kept R,?_⟩
 ·exact name_of_addr x.apart (PySem.mem_of_lookup J) (PySem.mem_of_lookup l)
 ·have t:d.names.lookup y=some .cell\/d.names.lookup y=some .free:=t;rcases t with t | t
  ·exact Ho t
  ·exact absurd rfl (S.nofree _ (PySem.mem_of_lookup t))
 ·exact yG (x.above y c (PySem.mem_of_lookup h))
 ·have L:i<D.length:=by
   unfold Qg at l;by_cases L:i<D.length
   ·exact L
   ·rw[xQ (by simpa using L)] at l
    rw[List.getElem?_replicate] at l;split at l <;> cases l
  have X:D[i]? = some v:=by
   unfold Qg at l;rw[wP (by simpa using L),zD] at l
   cases e:D[i]? with
   | none=>rw[e] at l;cases l
   | some a=>rw[e] at l;cases l;rfl
  obtain⟨u,T,rv⟩:=r.get X;have F:C[i]? = some y:=by
   rw[<-S.pre,qO ∅];exact J
  have G:C.Nodup:=by rw[<-S.pre];exact S.nd.sublist (List.take_sublist _ _)
  exists u,rv;rcases S.par y (zK F) with k | k
  ·exact .inl ⟨k,G0 G F T k⟩
  ·obtain⟨c,e⟩:=Ho (n:=s.heap.objs.size+1) k;refine .inr ⟨.inl k,c,e,?_⟩;have q:=x.cell y c e;rw[Ce G F T (by show d.names.lookup y≠_;rw[k];decide)] at q
   exact q
 ·exact o.hok.fresh (yG (x.above y c (PySem.mem_of_lookup h)))
 ·unfold Qg;show _=N.length;rw[zW,zX,List.length_replicate]
  lia
def E4{R:Wg}{P:am}{w:ax}{K:zZ}{T:jc}{h:aE}{k:Nat}{f:ak}{z d:Str}{i:Arguments}{j:jF}{a:aF}{dV kV F pm g ct oc:aj}{an od:jA}{a0:Array (jd)}{N U:jr}{sp:Sp}(lk:K.lookup f=some ⟨oc,od,.func (xW z d i j a dV kV F pm an g ct),a0⟩)(X:wC K g d=true)(S:ZA N U a)(O:∀ l H Q E,sp l H Q E->l.length=U.length)(B:∀ (A:ay) (c:jx) (s:al) (H:Hp) (l:jf) (Q:VK) (E:XK),ZT k (A.deeper (envOfC d a s.heap.objs.size f g))->sp l H Q E ->
   ∃ t,Xh (WZ R P w K T h N d a f g A c s H E) j t/\t { nx:=λ_ p=>Q .non p,rt:=Q } (Qg N l) H):
  ZI P w K T h R (k+1) f (xW z d i j a dV kV F pm an g ct) U sp:=by
 exists O;intro A c s H args us l Q E Y G hb r M;have hl:=O _ _ _ _ M;have KX:K.In s.heap:=G.mod.kin.keeps λb o e=>(G.bs b o e).1;have Z:s.heap.NoLimit:=G.mod.nolimit.keeps λb o e=>(G.bs b o e).1;have C:∀ y∈U.zip us,a.names.lookup y.1=some .local\/(a.names.lookup y.1=some .cell/\((cellsFrom (s.heap.objs.size+1) a.names []).lookup y.1).isSome=true):=λ⟨n,v⟩ hy=>by
  rcases S.par n (sG hy).1 with q | q
  ·exact .inl q
  ·exact .inr ⟨q,pQ _ _ _ (.inl q)⟩
 refine codeAny_call_function Y.depth (KX _ _ lk) rfl S.co S.gen rfl (PySem.W.codeRec_of KX X) (hb _ _ _ _ ?_);refine wpAny_newFunctionEnv_cells S.kind C λa1 he s1 x=>?_;subst he;refine⟨Z.keeps x.toInCall.keep,codeAny_func ?_⟩;obtain⟨t,ht,hq⟩:=B A c s H l Q E (Y.deeper _) M;have I:ZF (WZ R P w K T h N d a f g A c s H E) [] (Qg N l) H s1:=ZKa S Y.hd G hl r x;refine ae (ht [] s1 (Qg N l) H _ I hq) (λfl s' D=>?_) λe s' D=>D;have L:∀{m:St}{p:Hp}{v:V}{u:aj},ZF (WZ R P w K T h N d a f g A c s H E) [] m p s'->ZQ v u->Q v p->CE c P w H s Q u s':=
  fun{m p v u} J rv q=>⟨v,p,J.os,J.bare,J.base,J.hok,rv,q⟩
 cases fl with
 | ret u=>
  obtain⟨v,m,p,J,rv,q⟩:=D;exact L J rv q
 | next=>
  obtain⟨m,p,J,q⟩:=D;exact L (v:=V.non) (u:=Value.none) J rfl q
 | brk=>
  obtain⟨_,_,_,q⟩:=D;exact False.elim q
 | cont=>
  obtain⟨_,_,_,q⟩:=D;exact False.elim q
section
variable{x:Str}{p pos:Pos}{e:Expr}{es:jB}{t:TA}{id T:String}{r:jf->Hp->VK->Prop}
def Cd(r:jf->Hp->VK->Prop)(t:TA):TE:=λc H Q=>t c H λb a=>r b a Q
def Z2(j:Wu X (.builtin id) r)(l:Gl X x)(m:X.mg x=none)(o:az x=some (.builtin id))(i:PA X (e::es) t)(n:x ≠ "__name__" :=by decide)(b:(x==("__debug__" : Str))=false:=by decide)(k:aw (e::es) X.env=(false,aH e X.env)::aw es X.env:=by rfl)(c:(aG pos (aw es X.env)).any (·.1)=false:=by rfl):PE X (.Call (.Name x p) (e::es) [] pos) (Cd r t):=by
 intro a s d H Q I h;refine ag (O6 I l m o ?_ n b);exact PyProof.Rows.callWith_builtin1 (Z7 (i pos a s d H _ I h) λw v y f g u q=>j a v d f y w Q g u q) k c
def X0(j:Wu X (.type T) r)(l:Gl X x)(m:X.mg x=none)(o:az x=some (.type T))(i:PA X (e::es) t)(n:x ≠ "__name__" :=by decide)(b:(x==("__debug__" : Str))=false:=by decide)(k:aw (e::es) X.env=(false,aH e X.env)::aw es X.env:=by rfl)(c:(aG pos (aw es X.env)).any (·.1)=false:=by rfl):PE X (.Call (.Name x p) (e::es) [] pos) (Cd r t):=by
 intro a s d H Q I h;refine ag (O6 I l m o ?_ n b);exact PyProof.Rows.callWith_type1 (Z7 (i pos a s d H _ I h) λw v y f g u q=>j a v d f y w Q g u q) k c
end
end L2
variable{X:L2.Cx}{prog P:am}{w:ax}{A:ay}{E:ja}{s:al}{K:zZ}{mg:jc}{f:ak}{fd:ao}{km:aE}
namespace HT
open PySem PyProof.Rows
def rcLt_int(A:ay)(s:al)(a:Int)(t:Tok)(c:Int)(u:Tok)(b:am)(w:ax)(E Q:ja)(h:Q (.bool (decide (a<c))) s):
  aC (aB b w) A (richCompare .Lt (.int a t) (.int c u)) Q E s:=
 (PyProof.Rows.lt_int h:aC (aB b w) A (aA .Lt (.int a t) (.int c u)) Q E s)
section
open PySem.SeqAt
open PySem.AutoSeq1 (wpAny_loadPart')
open PySem.MeetsSeq PySem.MeetsSeq2 PySem.MeetsSeq3
end
def sIx(n d:Nat):jy->Nat
 | none=>d
 | some v=>if v<0 then (v+(n:Int)).toNat else min v.toNat n
def sIx_none(n d:Nat):sIx n d none=d:=rfl
def sIx_nat(n d k:Nat):sIx n d (some (k:Int))=min k n:=by
 show (if (k:Int)<0 then ((k:Int)+(n:Int)).toNat else min (k:Int).toNat n)=min k n
 rw[aM ∅,tE]
def ZQm(n d:Nat)(b:d<=n)(o:jy):sIx n d o<=n:=by
 cases o with
 | none=>exact b
 | some v=>
  show (if v<0 then (v+(n:Int)).toNat else min v.toNat n)<=n
  by_cases a:v<0
  ·rw[aO a];lia
  ·rw[aM a];exact uO _ _
def mnI{v:Int}{n:Nat}(h:¬v<0):min v (n:Int)=((min v.toNat n:Nat):Int):=by
 obtain⟨k,rfl⟩:=zEL (uV.mp h);exact(by omega:min (k:Int) (n:Int)=((min k n:Nat):Int))
def Gq(v:Int)(n d:Nat):(if v<0 then max (v+(n:Int)) 0 else min v (n:Int))=((sIx n d (some v):Nat):Int):=by
 show (if v<0 then max (v+(n:Int)) 0 else min v (n:Int))=(((if v<0 then (v+(n:Int)).toNat else min v.toNat n):Nat):Int)
 by_cases a:v<0
 ·simp only[aO a];lia
 ·simp only[aM a];exact mnI a
def ZIq(b a:jy)(n:Nat):Builtin.Slice.sliceAdjust b a 1 (n:Int)=(((sIx n 0 b:Nat):Int),((sIx n n a:Nat):Int)):=by
 have c:¬ ((1:Int)<0):=∅
 unfold Builtin.Slice.sliceAdjust;simp only[c,if_false];refine Prod.ext ?_ ?_
 ·cases b with
  | none=>rfl
  | some v=>exact Gq v n 0
 ·cases a with
  | none=>rfl
  | some v=>exact Gq v n n
def ZIY(i j:Nat):Builtin.Slice.slicePlaces (i:Int) (j:Int) 1=j-i:=by
 unfold Builtin.Slice.slicePlaces;have a:(1:Int) > 0:=∅
 simp only[a,if_true,tP];split <;> lia
def slicePart_{v:aj}{o:jy}{Q:jy->al->Prop}(p:IsPart v o)(h:Q o s):aC (aB prog w) A (Builtin.Slice.slicePartIndex v) Q E s:=by
 cases p with
 | none=>exact slicePart_none h
 | int i t=>exact slicePart_int h
def ZC8{g:ak}{e f:aj}{a c:jy}{n:Nat}{Q:Int×Int×Nat->al->Prop}(j:s.heap.IsSliceOf g e f .none)(k:IsPart e a)(l:IsPart f c)(h:Q (((sIx n 0 a:Nat):Int),1,sIx n n c-sIx n 0 a) s):aC (aB prog w) A (Builtin.Slice.sliceApplied (.ref g) (pure (n:Int))) Q E s:=by
 obtain⟨m,d,i,b⟩:=id j;unfold Builtin.Slice.sliceApplied Builtin.Slice.sliceFields;refine aa (aa (wpAny_field d b (x:=e) rfl (aa (wpAny_field d b (x:=f) rfl (aa (wpAny_field d b (x:=.none) rfl (ad ?_)))))));refine aa (slicePart_none ?_);show aC _ _ (if ((1:Int)==0)=true then _ else _) _ _ s
 rw[aM (by decide)]
 refine aa (slicePart_ k (aa (slicePart_ l (aa (ad ?_)))));show aC _ _ (match Builtin.Slice.sliceAdjust a c 1 (n:Int) with | (a,c)=>pure (a,(1:Int),Builtin.Slice.slicePlaces a c 1)) _ _ s
 rw[ZIq a c n];show aC _ _ (pure (((sIx n 0 a:Nat):Int),(1:Int),Builtin.Slice.slicePlaces ((sIx n 0 a:Nat):Int) ((sIx n n c:Nat):Int) 1)) _ _ s;rw[ZIY];exact ad h
def ZLL(a:ju)(i k:Nat):((yX k).filterMap fun(m:Nat)=>a[((i:Int)+(m:Int) * 1).toNat]?).toArray=((a.toList.drop i).take k).toArray:=by
 have e:(fun(m:Nat)=>a[((i:Int)+(m:Int) * 1).toNat]?)=λm=>a[i+m]? :=by
  funext m
  have:((i:Int)+(m:Int) * 1).toNat=i+m:=∅
  rw[this]
 rw[e];have:=pick_run a i k;rw[rJ] at this;have b:((λx=>a[x]?) ∘ λx=>i+x)=λm=>a[i+m]? :=rfl;rw[b] at this;rw[this]
def getItem_tuple_cut{t k:ak}{a:ju}{n o:aj}{c d:jy}{Q:ja}(e:IsTup s.heap t a)(l:s.heap.IsSliceOf k n o .none)(x:IsPart n c)(y:IsPart o d)(u:¬ (sIx a.size 0 c=0/\sIx a.size a.size d=a.size))(h:Q (.ref s.heap.objs.size) { s with heap:=s.heap.push { cls:=.type "tuple",data:=.seq ((a.toList.drop (sIx a.size 0 c)).take (sIx a.size a.size d-sIx a.size 0 c)).toArray } })(r:a.size<=ar):aC (aB prog w) A (getItem (.ref t) (.ref k)) Q E s:=by
 have b:sizeOk (.seq ((a.toList.drop (sIx a.size 0 c)).take (sIx a.size a.size d-sIx a.size 0 c)).toArray):=by
  show ((a.toList.drop (sIx a.size 0 c)).take (sIx a.size a.size d-sIx a.size 0 c)).toArray.size<=ar;rw[zP,xX,wL,yP];exact zS (uO _ _) (zS (vU _ _) ‹_›)
 have z:sIx a.size a.size d<=a.size:=ZQm _ _ (zY _) d;obtain⟨v,j,g,p⟩:=id l;have f:s.TypeIs (.ref k) "slice" :=⟨v,j,g⟩;unfold getItem
 try with_reducible refine af ?_
 first | refine aa (ad ?_) | skip
 refine aa (wpAny_sequenceKey e.typeIs (by decide) ?_)
 refine aa (wpAny_callSpecial?_slot (name:=yE "__getitem__") e.typeIs PyProof.Rows.slot_tuple_getitem
  (wpAny_call_entry PyProof.Rows.slot_tuple_getitem e.typeIs entry_tuple_getitem ?_ (args_tuple_getitem _ _)))
 show aC _ _ (Builtin.Tuple.tupleItemsOf (.ref t) >>= _) _ _ s;refine aa (tupleItemsOf_ e ?_);refine aa (wpAny_typeOf f ?_);rw[aO (by decide)]
 refine aa (ZC8 l x y ?_);have i:¬ ((((sIx a.size 0 c:Nat):Int)==0&&(1:Int)==1&&(sIx a.size a.size d-sIx a.size 0 c)==a.size)=true):=by
  intro q;rw[zR,zR] at q;have B:((sIx a.size 0 c:Nat):Int)=0:=eq_of_beq q.1.1;have C:sIx a.size a.size d-sIx a.size 0 c=a.size:=eq_of_beq q.2;exact u ⟨∅,∅⟩
 show aC _ _ (if (((sIx a.size 0 c:Nat):Int)==0&&(1:Int)==1&&(sIx a.size a.size d-sIx a.size 0 c)==a.size)=true then _ else _) _ _ s
 rw[aM i,ZLL]
 first
  | exact aa (m:=Builtin.Tuple.tupleExact _) (wpAny_newObj_type (ad ⟨_,rfl,ad h⟩) b)
  | exact aa (m:=Builtin.Tuple.tupleExact _) (wpAny_newObj_type (aa (ad (ad ⟨_,rfl,ad h⟩))) b)
  | exact aa (aa (m:=Builtin.Tuple.tupleExact _) (wpAny_newObj_type (ad (ad ⟨_,rfl,ad h⟩)) b))
  | exact aa (aa (m:=Builtin.Tuple.tupleExact _) (wpAny_newObj_type (ad ⟨_,rfl,ad h⟩) b))
end HT
namespace L2
open PySem PySem.Spec PyProof.Rows
abbrev TO:=St->Hp->(jy->Hp->Prop)->Prop
def PO(X:Cx)(e:Option Expr)(t:TO):Prop:=
 ∀(a:js)(s:al)(b:St)(H:Hp)(Q:jy->Hp->Prop),ZF X a b H s->t b H Q ->
  aC (aB X.prog X.w) X.A (evalPart e X.env) (λu d=>∃ o c,ZF X a b c d/\IsPart u o/\Q o c) X.xe s
def ZOn:TO:=λ_ H Q=>Q none H
inductive Oi(Q:jy->Hp->Prop)(x:V)(a:Hp):Prop
 |mk(i:_)(_:x=.int i)(_:Q (some i) a)
def ZRH(t:TE):TO:=λb H Q=>t b H λx a=>Oi Q x a
def ZIn{a:jt}:∀{b:je},ZO (a.map V.int) b->IntsAre b a:=by
 induction a with
 | nil=>intro b r;rw[vJ] at r;cases r;exact .nil
 | cons n a c=>
  intro b r;rw[yR] at r
  cases r with
  | cons d f=>
   obtain⟨t,e⟩:=d;subst e;exact .cons n t (c f)
section
variable{e:Expr}{te:TE}{lo hi:Option Expr}{tl th:TO}{pos p2:Pos}
def AG:PO X none ZOn:=by
 intro a s b H Q I h;rw[evalPart_none];exact ad ⟨none,H,I,.none,h⟩
def JH(h:PE X e te):PO X (some e) (ZRH te):=by
 intro a s j H Q I d;rw[evalPart_some];refine Z7 (h a s j H _ I d) λu k x b c g f=>?_;obtain⟨i,rfl,q⟩:=f;obtain⟨t,rfl⟩:=g;exact⟨some i,b,c,.int i t,q⟩
def He(X:Cx)(r:V->jy->jy->Hp->VK->Prop):Prop:=
 ∀(a:js)(s:al)(f:St)(H:Hp)(x:V)(v c d:aj)(lo hi:jy)(b:ak)(Q:VK),ZF X a f H s->ZQ x v->s.heap.IsSliceOf b c d .none->IsPart c lo->IsPart d hi->r x lo hi H Q ->
  ∃ T id,typeLookup (.type T) "__getitem__" = pure (some (.builtin id))/\s.TypeIs v T/\aC (aB X.prog X.w) X.A (getItem v (.ref b)) (EP X a f Q) X.xe s
def tSl(r:V->jy->jy->Hp->VK->Prop)(te:TE)(tl th:TO):TE:=λa H Q=>te a H λx b=>tl a b λl c=>th a c λu d=>r x l u d Q
def ED{r:V->jy->jy->Hp->VK->Prop}(C:He X r)(y:PE X e te)(B:PO X lo tl)(E:PO X hi th):PE X (.Subscript e (.Slice lo hi none p2) pos) (tSl r te tl th):=by
 intro a s d H Q I h;refine Subscript_ (Z7 (y a s d H _ I h) λv N x j m M J=>?_);refine wpAny_Slice (Z7 (B a N d j _ m J) λf O l k n F K=>Z7 (E a O d k _ n K) λg c u i o G L=>?_);rw[evalPart_none];refine ad ?_;have p:ZF X a d i { c with heap:=c.heap.push { cls:=.type "slice",data:=.fields #[f,g,.none] } }:=o.kept (t':=c.toks) λb P q=>zO _ q;obtain⟨T,id,t,D,z⟩:=C a { c with heap:=c.heap.push { cls:=.type "slice",data:=.fields #[f,g,.none] } } d i x v f g l u c.heap.objs.size Q p M (qR.new ..) F G L;show aC (aB X.prog X.w) X.A (subscriptTail e (.Slice lo hi none p2) v (.ref c.heap.objs.size)) (EP X a d Q) X.xe { c with heap:=c.heap.push { cls:=.type "slice",data:=.fields #[f,g,.none] } };exact tail_any (ops:=[.ref c.heap.objs.size,v]) D t z (by with_unfolding_all rfl)
def Qx(a:jf)(lo hi:jy):jf:=(a.drop (HT.sIx a.length 0 lo)).take (HT.sIx a.length a.length hi-HT.sIx a.length 0 lo)
def Eh(a:jf)(lo hi:jy):(Qx a lo hi).length<=a.length:=by
 unfold Qx;rw[xX,wL];exact zS (uO _ _) (vU _ _)
inductive Js(K:zZ)(x:V)(lo hi:jy)(H:Hp)(Q:VK):Prop
 |mk(a b:_)(_:x=.ref a)(_:Zh K H a b)(_:¬ (HT.sIx b.length 0 lo=0/\HT.sIx b.length b.length hi=b.length))(_:∀ p,H p=none->Q (.ref p) (upd H p (.tup (Qx b lo hi))))
def B2:He X (Js X.K):=by
 intro j s A H x v y z lo hi w Q I t k n p h;obtain⟨a,d,rfl,m,l,q⟩:=h;cases t;obtain⟨f,r,g,i⟩:=I.tuple m;have c:f.toArray.size=d.length:=by rw[zP];exact r.length.symm
 exists "tuple",_,PyProof.Rows.slot_tuple_getitem.lookup,g.typeIs;refine HT.getItem_tuple_cut g k n p (by rw[c];exact l) ?_ (by rw[c];exact i)
 rw[c];refine⟨.ref s.heap.objs.size,_,I.laid (t':=s.toks) (o:=.tup (Qx d lo hi)) (λb u q=>zO _ q) (zY _) ?_,rfl,q _ (I.hok.fresh (zY _))⟩;exact⟨zS (Eh d lo hi) i,_,(r.drop (HT.sIx d.length 0 lo)).take (HT.sIx d.length d.length hi-HT.sIx d.length 0 lo),IsTup.new _ _⟩
end
def QC(n:Nat)(i:Int):jq:=if 0<=i then (if i<n then some i.toNat else none) else if -(n:Int)<=i then some (i+n).toNat else none
def Xt{b:Type}(a:List b)(i:Int):Option b:=(QC a.length i).bind λj=>a[j]?
def FO{n:Nat}{i:Int}{j:Nat}(h:QC n i=some j):seqIndex? i n=some j/\j<n /\ -(n:Int)<=i/\i<n:=by
 unfold QC at h;by_cases b:0<=i
 ·rw[aO b] at h;by_cases a:i<n
  ·rw[aO a] at h;have e:i.toNat=j:=zG.inj h;exact⟨by rw[seqIndex_of b a,e],∅,∅,a⟩
  ·rw[aM a] at h;cases h
 ·rw[aM b] at h;by_cases a : -(n:Int)<=i
  ·rw[aO a] at h;have e:(i+n).toNat=j:=zG.inj h;exact⟨by rw[seqIndex_neg ∅ a,e],∅,a,∅⟩
  ·rw[aM a] at h;cases h
def JP{b:Type}{a:List b}{i:Int}{v:b}(h:Xt a i=some v):∃ j,seqIndex? i a.length=some j/\a[j]? = some v/\j<a.length /\ -(a.length:Int)<=i/\i<a.length:=by
 unfold Xt at h
 cases e:QC a.length i with
 | none=>rw[e] at h;cases h
 | some j=>
  rw[e] at h;obtain⟨c,d,f,g⟩:=FO e;exact⟨j,c,h,d,f,g⟩
def Xo{b:Type}{a:List b}{j:Nat}{v:b}(h:a[j]? = some v):Xt a (j:Int)=some v:=by
 have c:j<a.length:=(yT.mp h).1;have e:QC a.length (j:Int)=some j:=by
  unfold QC;rw[aO ∅,aO ∅];simp
 unfold Xt;rw[e];exact h
def DE{b:Type}(a:List b)(v:b):Xt (a++[v]) (-1)=some v:=by
 have c:(a++[v]).length=a.length+1:=by simp
 have e:QC (a++[v]).length (-1)=some a.length:=by
  unfold QC;rw[c,aM (by decide),aO ∅]
  congr 1
  lia
 unfold Xt;rw[e];show (a++[v])[a.length]? = some v;simp
def IA(b:Expr):Prop:=∀ o i,subscripted b false o i=operate [o,i] (getItem o i)
def Qk(X:Cx)(r:R2):Prop:=
 ∀(c a:Expr)(b:js)(s:al)(d:St)(H:Hp)(x y:V)(v u:aj)(Q:VK),ZF X b d H s->ZQ x v->ZQ y u->r x y H Q ->
  subscripted a false v u=operate [v,u] (getItem v u)->aC (aB X.prog X.w) X.A (subscriptTail c a v u) (EP X b d Q) X.xe s
def Fy(X:Cx)(id:String)(r:V->jf->Hp->VK->Prop):Prop:=
 ∀(a:js)(s:al)(d:St)(H:Hp)(x:V)(c:jf)(v:aj)(b:je)(Q:VK),ZF X a d H s->ZQ x v->ZO c b->r x c H Q ->
  aC (aB X.prog X.w) X.A (call (.builtin id) (v::b)) (EP X a d Q) X.xe s
section
variable{a b:Expr}{ta tb:TE}{pos:Pos}
def Qk.or{r g:R2}(h:Qk X r)(l:Qk X g):Qk X (λx y H Q=>r x y H Q\/g x y H Q):=by
 intro d c e s k H x y v u Q I i j q f;rcases q with q | q
 ·exact h d c e s k H x y v u Q I i j q f
 ·exact l d c e s k H x y v u Q I i j q f
def Vu{r:R2}(i:Qk X r)(f:PE X a ta)(g:PE X b tb)(j:IA b):PE X (.Subscript a b pos) (Px r ta tb):=by
 intro c s n H Q I h;exact Subscript_ (Kw f g I h λv u m x y d e k l q=>i a b c m n d x y v u Q e k l q (j _ _))
inductive MG(K:zZ)(x y:V)(H:Hp)(Q:VK):Prop
 |mk(p c i v:_)(_:x=.ref p)(_:y=.int i)(_:ZG K H p c)(_:Xt c i=some v)(_:Q v H)
inductive Q8(K:zZ)(x y:V)(H:Hp)(Q:VK):Prop
 |mk(p c i v:_)(_:x=.ref p)(_:y=.int i)(_:Zh K H p c)(_:Xt c i=some v)(_:Q v H)
inductive MY(x y:V)(H:Hp)(Q:VK):Prop
 |mk(z i c:_)(_:x=.str z)(_:y=.int i)(_:z.length<=ar)(_:Xt z.cps.toList i=some c)(_:Q (.str ⟨#[c]⟩) H)
def Zp:Qk X (MG X.K):=by
 intro n m c s C H x y v u Q I M N h B;obtain⟨p,T,i,z,rfl,rfl,L,G,q⟩:=h;cases M;obtain⟨t,rfl⟩:=N;obtain⟨g,r,k,S⟩:=I.list L;obtain⟨j,e,D,P,E,F⟩:=JP G;obtain⟨w,o,l⟩:=r.get D;have J:=r.length;have R:=NP;have d:EP X c C Q w s:=⟨z,H,I,l,q⟩;by_cases A:0<=i
 ·have f:i.toNat=j:=by
   rw[seqIndex_of A F] at e;exact zG.inj e
  exact item_listR k.isList A ∅ (by rw[f];simpa using o) d B
 ·have f:(i+(g.toArray.size:Int)).toNat=j:=by
   rw[seqIndex_neg ∅ E] at e
   rw[zP,<-J];exact zG.inj e
  exact subscriptTail_builtinR (x:=w) k.isList.typeIs slot_list_getitem.lookup
   (wpAny_getItem_list_neg (Q:=λr O=>r=w/\EP X c C Q r O) k.isList ∅ (by rw[zP] <;> lia) ∅ (by rw[f];simpa using o) ⟨rfl,d⟩) B
def Qq:Qk X (Q8 X.K):=by
 intro g f c s l H x y v u Q I F G h D;obtain⟨p,R,i,z,rfl,rfl,C,A,q⟩:=h;cases F;obtain⟨t,rfl⟩:=G;obtain⟨E,r,k,P⟩:=I.tuple C;obtain⟨j,n,o,L,M,N⟩:=JP A;obtain⟨w,m,e⟩:=r.get o;have B:=r.length;have O:=NP;have d:EP X c l Q w s:=⟨z,H,I,e,q⟩;exact subscriptTail_builtinR (x:=w) k.typeIs slot_tuple_getitem.lookup
  (getItem_tuple (j:=j) (Q:=λr J=>r=w/\EP X c l Q r J) k ∅ ∅ (by rw[zP,<-B];exact n) (by simpa using m) ⟨rfl,d⟩) D
def Ec:Qk X MY:=by
 intro e d g s G H x y v u Q I A B h w;obtain⟨z,i,c,rfl,rfl,E,p,q⟩:=h;obtain⟨t,rfl⟩:=A;obtain⟨F,rfl⟩:=B;obtain⟨j,f,m,C,n,o⟩:=JP p;have r:z.cps.toList.length=z.length:=by simp[Str.length]
 rw[r] at f n o;have D:=NP;exact tail_any (typeIs_str s z t) slot_str_getitem.lookup (getItem_str (c:=c) (by
  have k:decide (i < -(2 ^ 63:Int))=false:=aJ ∅
  have l:decide (i ≥ 2 ^ 63)=false:=aJ ∅
  rw[k,l,Bool.or_false]) (by rw[f];simpa using m) ⟨.str ⟨#[c]⟩,H,I.tok _,⟨_,rfl⟩,q⟩) w
def M0(K:zZ):R2:=λx y H Q=>MG K x y H Q\/Q8 K x y H Q\/MY x y H Q
def ZP4:Qk X (M0 X.K):=Zp.or (Qq.or Ec)
def Y9{X:Cx}{a b:Expr}{ta tb:TE}{pos:Pos}(K:zZ)(c:PE X a ta)(d:PE X b tb)(f:IA b:=by exact λ_ _=>rfl)(e:Qk X (Q8 K):=by exact Qq):PE X (.Subscript a b pos) (Px (Q8 K) ta tb):=Vu e c d f
def YJ{X:Cx}{a b:Expr}{ta tb:TE}{pos:Pos}(K:zZ)(c:PE X a ta)(d:PE X b tb)(f:IA b:=by exact λ_ _=>rfl)(e:Qk X (M0 K):=by exact ZP4):PE X (.Subscript a b pos) (Px (M0 K) ta tb):=Vu e c d f
def Bk(c:je)(n j:Nat)(u:aj):Obj.mapSeq (·.setIfInBounds j u) { cls:=.type "list",data:=.seq c.toArray n }={ cls:=.type "list",data:=.seq (c.set j u).toArray n }:=by
 simp[Obj.mapSeq]
def ZF.lst{d:js}{g:St}{H:Hp}{s:al}{p:ak}{f:jf}(I:ZF X d g H s)(h:H p=some (.lst f)):
  ∃(c:je)(n:Nat),ZO f c/\s.heap.get? p=some { cls:=.type "list",data:=.seq c.toArray n }/\f.length<=sizeLine:=by
 obtain⟨z,c,n,r,e⟩:=I.hok p _ h;exact⟨c,n,r,e,z⟩
def ZF.lstUpd{d:js}{l:St}{H:Hp}{s:al}{p:ak}{w j:jf}{g c:je}{n i:Nat}{f:aI->aI}(I:ZF X d l H s)(h:H p=some (.lst w))(o:s.heap.get? p=some { cls:=.type "list",data:=.seq g.toArray n })(k:f { cls:=.type "list",data:=.seq g.toArray n }={ cls:=.type "list",data:=.seq c.toArray i })(r:ZO j c)(v:j.length<=ar)(t:Nat):
  ZF X d l (upd H p (.lst j)) { s with heap:=s.heap.update p f,toks:=t }:=by
 have e:(s.heap.update p f).get? p=some { cls:=.type "list",data:=.seq c.toArray i }:=by
  rw[vM f o (by rw[k] <;> rfl),k]
 refine I.write (x:=p) (e:=p) (by rw[h];trivial) (.inl rfl) (λb u m q=>(vA _ _ (Ne.symm m)).trans q) ⟨_,e⟩ ?_
 exact⟨v,c,i,r,e⟩
inductive ML(o i v:V)(H:Hp)(Q:Hp->Prop):Prop
 |mk(p c k j:_)(_:o=.ref p)(_:i=.int k)(_:H p=some (.lst c))(_:QC c.length k=some j)(_:Q (upd H p (.lst (c.set j v))))
def HI:Di X ML:=by
 intro d s G H o i v L iv u Q I D C E h;obtain⟨p,F,k,j,rfl,rfl,z,A,q⟩:=h;cases D;obtain⟨t,rfl⟩:=C;obtain⟨c,n,r,l,B⟩:=I.lst z;obtain⟨e,J,x,y⟩:=FO A;have g:=r.length;have K:=NP;have m:ZF X d G (upd H p (.lst (F.set j v))) { s with heap:=s.heap.update p (Obj.mapSeq (·.setIfInBounds j u)) }:=
  I.lstUpd z l (Bk c n j u) (r.set E j) (by rw[List.length_set];exact B) s.toks
 by_cases w:0<=k
 ·have f:k.toNat=j:=by
   rw[seqIndex_of w y] at e;exact zG.inj e
  exact PySem.W.ki_setAt l w ∅ (by rw[zP,<-g];exact y) (by rw[f];exact⟨_,m,q⟩)
 ·have f:(k+(c.toArray.size:Int)).toNat=j:=by
   rw[seqIndex_neg ∅ x] at e
   rw[zP,<-g];exact zG.inj e
  exact PySem.W.ki_setBack l ∅ (by rw[zP,<-g];exact x) ∅ (by rw[f];exact⟨_,m,q⟩)
def ZF4(d c:jy)(n:Nat):(sliceBounds d c none n).1=((HT.sIx n 0 d:Nat):Int)/\(sliceBounds d c none n).2.1=((HT.sIx n n c:Nat):Int)/\(sliceBounds d c none n).2.2=1:=by
 refine⟨?_,?_,rfl⟩
 ·cases d with
  | none=>simp[sliceBounds,HT.sIx]
  | some i=>
   simp only[sliceBounds,HT.sIx,rN,show (1:Int) > 0 by decide,if_true]
   by_cases h:i<0
   ·simp only[h,if_true] <;> lia
   ·simp only[h,if_false] <;> exact(congrArg (max 0) (HT.mnI h)).trans (Int.max_eq_right (sY _))
 ·cases c with
  | none=>simp[sliceBounds,HT.sIx]
  | some i=>
   simp only[sliceBounds,HT.sIx,rN,show (1:Int) > 0 by decide,if_true]
   by_cases h:i<0
   ·simp only[h,if_true] <;> lia
   ·simp only[h,if_false] <;> exact(congrArg (max 0) (HT.mnI h)).trans (Int.max_eq_right (sY _))
def ZFE(c:je)(d e:jy):slicePick c.toArray d e none=((c.drop (HT.sIx c.length 0 d)).take (HT.sIx c.length c.length e-HT.sIx c.length 0 d)).toArray:=by
 obtain⟨f,g,h⟩:=ZF4 d e c.toArray.size;unfold slicePick;rw[f,g,h];simp only[sliceRange_one,pick_run,zP] <;> rfl
inductive Kp(K:zZ)(x:V)(e d:jy)(H:Hp)(Q:VK):Prop
 |mk(a c:_)(_:x=.ref a)(_:ZG K H a c)(_:∀ p,H p=none->Q (.ref p) (upd H p (.lst (Qx c e d))))
def ZNa:He X (Kp X.K):=by
 intro i s A H x v y z e f w Q I t j n p h;obtain⟨a,c,rfl,k,q⟩:=h;cases t;obtain⟨m,r,g,l⟩:=I.list k;have d:=r.length;exists "list",_,slot_list_getitem.lookup,g.isList.typeIs;refine wpAny_getItem_list_slice g.isList j n p .none (by simp) ?_ (by rw[zP] <;> lia)
 rw[ZFE,<-d];refine⟨.ref s.heap.objs.size,_,I.laid (t':=s.toks) (o:=.lst (Qx c e f)) (λb u q=>zO _ q) (zY _) ?_,rfl,q _ (I.hok.fresh (zY _))⟩;exact⟨zS (Eh c e f) l,_,0,(r.drop (HT.sIx c.length 0 e)).take (HT.sIx c.length c.length f-HT.sIx c.length 0 e),yO _ rfl⟩
def PN:V->Bool
 | .non=>true
 | .bl _=>true
 | .int _=>true
 | .str _=>true
 | _=>false
def Pn:V->V->Bool
 | .non,.non=>true
 | .bl a,.bl b=>a==b
 | .bl a,.int b=>(if a then 1 else 0)==b
 | .int a,.bl b=>a==(if b then 1 else 0)
 | .int a,.int b=>a==b
 | .str a,.str b=>a==b
 | _,_=>false
def ZQL{A:ay}{s:al}{y x:V}{u v:aj}(f:ZQ y u)(c:ZQ x v)(g:PN y=true)(e:PN x=true):SeqAt.EqAt A s u v (Pn y x):=by
 cases y with
 | non=>
  cases f
  cases x with
  | non=>cases c;exact SeqAt.EqAt.same _
  | bl b=>cases c;exact SeqAt.EqAt.none_bool b
  | int b=>obtain⟨t,rfl⟩:=c;exact SeqAt.EqAt.none_int b t
  | str b=>obtain⟨t,rfl⟩:=c;exact SeqAt.EqAt.none_str b t
  | _=>exact absurd (show false=true from e) zV
 | bl a=>
  cases f
  cases x with
  | non=>cases c;exact SeqAt.EqAt.bool_none a
  | bl b=>cases c;exact SeqAt.EqAt.bool_bool a b
  | int b=>obtain⟨t,rfl⟩:=c;exact SeqAt.EqAt.bool_int a b t
  | str b=>obtain⟨t,rfl⟩:=c;exact SeqAt.EqAt.bool_str a b t
  | _=>exact absurd (show false=true from e) zV
 | int a=>
  obtain⟨d,rfl⟩:=f
  cases x with
  | non=>cases c;exact SeqAt.EqAt.int_none a d
  | bl b=>cases c;exact SeqAt.EqAt.int_bool a d b
  | int b=>obtain⟨t,rfl⟩:=c;exact SeqAt.EqAt.int_int a d b t
  | str b=>obtain⟨t,rfl⟩:=c;exact SeqAt.EqAt.int_str a d b t
  | _=>exact absurd (show false=true from e) zV
 | str a=>
  obtain⟨d,rfl⟩:=f
  cases x with
  | non=>cases c;exact SeqAt.EqAt.str_none a d
  | bl b=>cases c;exact SeqAt.EqAt.str_bool a d b
  | int b=>obtain⟨t,rfl⟩:=c;exact SeqAt.EqAt.str_int a d b t
  | str b=>obtain⟨t,rfl⟩:=c;exact SeqAt.EqAt.str_str a d b t
  | _=>exact absurd (show false=true from e) zV
 | _=>exact absurd (show false=true from g) zV
def Pk(x:V)(u:aj):Bool:=match u with
 | .none=>Pn .non x
 | .bool b=>Pn (.bl b) x
 | .int i _=>Pn (.int i) x
 | .str z _=>Pn (.str z) x
 | _=>false
def EK{x y:V}{u:aj}(r:ZQ y u)(f:PN y=true):Pk x u=Pn y x:=by
 cases y with
 | non=>cases r;rfl
 | bl b=>cases r;rfl
 | int i=>obtain⟨t,rfl⟩:=r;rfl
 | str z=>obtain⟨t,rfl⟩:=r;rfl
 | _=>exact absurd (show false=true from f) zV
def J4{x:V}:∀{c:jf}{d:je},ZO c d->c.all PN=true->d.any (Pk x)=c.any λy=>Pn y x
 | _,_,.nil,_=>rfl
 | y::c,u::d,.cons r t,f=>by
  rw[tY,zR] at f;rw[tX,tX,EK r f.1,J4 t f.2]
def Jk{A:ay}{s:al}{x:V}{v:aj}(h:ZQ x v)(g:PN x=true):∀{e:jf}{d:je},ZO e d->e.all PN=true->∀ u∈d,SeqAt.EqAt A s u v (Pk x u)
 | _,_,.nil,_=>λu c=>by cases c
 | y::e,u::d,.cons r t,f=>λi c=>by
  rw[tY,zR] at f;rcases zF.mp c with rfl | c
  ·rw[EK r f.1];exact ZQL r h f.1 g
  ·exact Jk h g t f.2 i c
def IK(x:V)(c:jf):Bool:=c.any λy=>Pn y x
inductive JS(K:zZ)(d:Bool)(x y:V)(H:Hp)(Q:VK):Prop
 |mk(p c:_)(_:y=.ref p)(_:ZG K H p c\/Zh K H p c)(_:PN x=true)(_:c.all PN=true)(_:Q (.bl (if d then !IK x c else IK x c)) H)
def ZFR:Yd X (aA .NotIn) (JS X.K true):=by
 intro j s o H x y v u Q I k m h;obtain⟨p,n,rfl,d,i,e,q⟩:=h;cases m;rcases d with d | d
 ·obtain⟨c,r,g,l⟩:=I.list d;refine SeqAt.notIn_listAt (Pk x) g.isList (λw f=>Jk k i r e w (by simpa using f)) ⟨.bl _,H,I,rfl,?_⟩
  rw[show c.toArray.any (Pk x)=c.any (Pk x) by simp,J4 r e]
  exact q
 ·obtain⟨c,r,g,l⟩:=I.tuple d;refine SeqAt.notIn_tupleAt (Pk x) g (λw f=>Jk k i r e w (by simpa using f)) ⟨.bl _,H,I,rfl,?_⟩
  rw[show c.toArray.any (Pk x)=c.any (Pk x) by simp,J4 r e]
  exact q
inductive WT(d:zZ)(e:jf)(H:Hp)(Q:VK):Prop
 |mk(p c:_)(_:e=[.ref p])(_:ZG d H p c\/Zh d H p c)(_:Q (.int c.length) H)
def WN:Wu X (.builtin "len") (WT X.K):=by
 intro i s t H o n Q I r h;obtain⟨p,j,rfl,d,q⟩:=h;obtain⟨u,rfl,l⟩:=Vp r;cases l;have m:=NP;rcases d with d | d
 ·obtain⟨e,g,f,k⟩:=I.list d;have c:=g.length;exact Calls.call_len_list f.isList (by simp only[zP] <;> lia) ⟨.int j.length,H,I.tok _,⟨s.toks+1,by rw[zP,c]⟩,q⟩
 ·obtain⟨e,g,f,k⟩:=I.tuple d;have c:=g.length;exact len_tuple f (by simp only[zP] <;> lia) ⟨.int j.length,H,I.tok _,⟨s.toks+1,by rw[zP,c]⟩,q⟩
inductive Wd(c:jf)(H:Hp)(Q:VK):Prop
 |mk(z:_)(_:c=[.str z])(_:z.length<=ar)(_:Q (.int z.length) H)
def ZFz:Wu X (.builtin "len") (Wd):=by
 intro c s i H g f Q I r h;obtain⟨z,rfl,e,q⟩:=h;obtain⟨u,rfl,t,rfl⟩:=Vp r;have d:=NP;exact len_str ∅ ⟨.int z.length,H,I.tok _,⟨_,rfl⟩,q⟩
inductive WU(d:zZ)(e:jf)(H:Hp)(Q:VK):Prop
 |mk(p c:_)(_:e=[.ref p])(_:ZG d H p c\/Zh d H p c)(_:∀ l,H l=none->Q (.ref l) (upd H l (.lst c)))
def Qu:Wu X (.type "list") (WU X.K):=by
 intro t s D H F E Q I r h;obtain⟨p,A,rfl,k,q⟩:=h;obtain⟨u,rfl,C⟩:=Vp r;cases C;have i:∀(c:je),ZO A c->A.length<=ar->∀(d:aE)(f:Nat),(∀ b B,s.heap.get? b=some B->d.get? b=some B) ->
   d.get? s.heap.objs.size=some { cls:=.type "list",dict:=none,data:=.seq c.toArray f,slots:=#[] }->EP X t D Q (.ref s.heap.objs.size) { s with heap:=d }:=λc g l d f m e=>
  ⟨.ref s.heap.objs.size,_,I.laid (t':=s.toks) m (zY _) (show Ze X.prog X.w _ d _ (.lst A) from ⟨l,c,f,g,e⟩),rfl,q _ (I.hok.fresh (zY _))⟩
 rcases k with k | k
 ·obtain⟨c,g,z,l⟩:=I.list k;have j:=g.length;obtain⟨o,y,v,n,x⟩:=z.isList;exact call_list_seq p (.inl rfl) y v x (λd f m e=>i c g l d f m e) (by simp only[zP] <;> lia)
 ·obtain⟨c,g,z,l⟩:=I.tuple k;have j:=g.length;obtain⟨o,y,v,n,x⟩:=z;exact call_list_seq p (.inr rfl) y v x (λd f m e=>i c g l d f m e) (by simp only[zP] <;> lia)
inductive WC(d:zZ)(e:jf)(H:Hp)(Q:VK):Prop
 |mk(p c:_)(_:e=[.ref p])(_:(ZG d H p c/\∀ l,H l=none->Q (.ref l) (upd H l (.tup c)))\/(Zh d H p c/\Q (.ref p) H))
def NH:Wu X (.type "tuple") (WC X.K):=by
 intro c s t H A z Q I r h;obtain⟨p,n,rfl,h⟩:=h;obtain⟨u,rfl,y⟩:=Vp r;cases y;rcases h with ⟨g,q⟩ | ⟨g,q⟩
 ·obtain⟨d,j,i,m⟩:=I.list g;have l:=j.length;refine call_tuple_list i.isList (λf x=>?_) (by simp only[zP] <;> lia)
  have k:ZF X c t H { s with heap:=f }:=I.kept (t':=s.toks) x;have v:ZF X c t (upd H f.objs.size (.tup n)) { s with heap:=f.push { cls:=.type "tuple",data:=.seq d.toArray } }:=
   k.laid (t':=s.toks) (λb o e=>zO _ e) (zY _) (show Ze X.prog X.w _ _ _ (.tup n) from ⟨m,d,j,IsTup.new _ _⟩)
  exact⟨.ref f.objs.size,_,v,rfl,q _ (k.hok.fresh (zY _))⟩
 ·obtain⟨d,j,i,m⟩:=I.tuple g;exact call_tuple_same i ⟨.ref p,H,I,rfl,q⟩
def HP(K:zZ)(T:String)(x:V)(H:Hp):Prop:=match x with
 | .str _=>T = "str"
 | .int _=>T = "int"
 | .ref p=>(T = "list" /\ ∃ d,ZG K H p d)\/(T = "tuple" /\ ∃ o,K.lookup p=some o/\o.cls=.type "tuple" /\ o.dict=none) \/
   (T = "dict" /\ ((∃ c,H p=some (.dK c))\/∃ c,H p=some (.dT c)))\/(T = "set" /\ ∃ S n,H p=some (.set S n))
 | _=>False
def Dy{g:js}{A:St}{H:Hp}{s:al}{T:String}{x:V}{v:aj}(I:ZF X g A H s)(r:ZQ x v)(h:HP X.K T x H):
  s.TypeIs v T/\∀ a,v=.ref a->∃ m,s.heap.get? a=some m/\m.dict=none:=by
 cases x with
 | str z=>
  obtain⟨t,rfl⟩:=r;cases(show T = "str" from h);exact⟨typeIs_str s z t,λ_ e=>nomatch e⟩
 | int i=>
  obtain⟨t,rfl⟩:=r;cases(show T = "int" from h);exact⟨typeIs_int s i t,λ_ e=>nomatch e⟩
 | ref p=>
  cases r;rcases h with ⟨rfl,B,w⟩ | ⟨rfl,o,d,u,k⟩ | ⟨rfl,d⟩ | ⟨rfl,S,n,d⟩
  ·obtain⟨y,_,q,_⟩:=I.list w;exists q.isList.typeIs;intro a e;cases e;obtain⟨o,n,e,c,k,_⟩:=q;exact⟨o,e,k⟩
  ·exists ⟨o,I.kIn p o d,u⟩;intro a e;cases e;exact⟨o,I.kIn _ o d,k⟩
  ·have z:∃ o,s.heap.get? p=some o/\o.ExactDict:=by
    rcases d with ⟨l,d⟩ | ⟨l,d⟩
    ·obtain⟨_,_,_,_,o,_,_,e,f,_⟩:=I.hok p _ d;exact⟨o,e,f⟩
    ·obtain⟨_,_,_,_,o,_,_,e,f,_⟩:=I.hok p _ d;exact⟨o,e,f⟩
   obtain⟨o,e,f⟩:=z;exists ⟨o,e,f.1⟩;intro a j;cases j;exact⟨o,e,f.2.1⟩
  ·obtain⟨o,_,_,_,e,f,_⟩:=I.hok p _ d;exists ⟨o,e,f.1⟩;intro a j;cases j;exact⟨o,e,f.2.1⟩
 | _=>exact False.elim h
def Bt(K:zZ)(T:String)(r:V->jf->Hp->VK->Prop)(d:TE):TE:=λe H Q=>d e H λx c=>HP K T x c/\r x [] c Q
def Ba(K:zZ)(T:String)(r:V->jf->Hp->VK->Prop)(f:TE)(t:TA):TE:=λd H Q=>f d H λx c=>HP K T x c/\t d c λg e=>r x g e Q
variable{o e:Expr}{es:jB}{to:TE}{t:TA}{name:Str}{jh ji:Pos}{T id:String}{r:V->jf->Hp->VK->Prop}
def EU(w:PlainAttrs T)(g:Slot T name id)(i:typeOf (.builtin id)=pure (.type "method_descriptor"))(q:Fy X id r)(u:PE X o to)(d:attributeBase o name X.env (aH o X.env)=aH o X.env:=by rfl)(f:(jh.endLine==ji.line)=true:=by rfl):PE X (.Call (.Attribute o name jh) [] [] ji) (Bt X.K T r to):=by
 intro c s l H Q I h;refine wpAny_Call_method0_late d f (Zz (u c s l H _ I h) ?_);rintro v z ⟨x,m,j,k,A,y⟩;obtain⟨n,p⟩:=Dy j k A;exact⟨T,id,w,g,i,n,p,Calls.callWith_builtin rfl (PySem.evalArgs_none (q c z l m x [] v [] Q j k .nil y))⟩
def VM(E:PlainAttrs T)(j:Slot T name id)(k:typeOf (.builtin id)=pure (.type "method_descriptor"))(B:Fy X id r)(C:PE X o to)(A:PA X (e::es) t)(f:attributeBase o name X.env (aH o X.env)=aH o X.env:=by rfl)(i:((aG ji (aw (e::es) X.env)).all (λx=>!x.1)&&(backToKw ji (keywordEach [] X.env)).all (λx=>x.1.isSome)
   && decide ((e::es).length+([]:List Keyword).length+(if ([]:List Keyword).isEmpty then 0 else 1)<30))=true:=by rfl)(g:(jh.endLine==ji.line)=true:=by rfl)(D:aw (e::es) X.env=(false,aH e X.env)::aw es X.env:=by rfl)(d:(aG ji (aw es X.env)).any (·.1)=false:=by rfl):
  PE X (.Call (.Attribute o name jh) (e::es) [] ji) (Ba X.K T r to t):=by
 intro c s l H Q I h;refine wpAny_Call_method_late f i g rfl (Zz (C c s l H _ I h) ?_);rintro v L ⟨x,q,m,p,N,F⟩;obtain⟨y,z⟩:=Dy m p N;exists T,id,E,j,k,y,z;have n:=A ji c L l q _ m F;rw[D] at n⊢;refine Calls.callWith_builtin (by show (false || (aG ji (aw es X.env)).any (·.1))=false;rw[d] <;> rfl) (Calls.evalArgs_plain ?_)
 exact Z7 n λO M P u w J G=>B c M l u x P v O Q w p J G
end
def LQ(X:Cx)(id:String)(r:V->jf->Hp->VK->Prop):Prop:=
 ∀(a:js)(s:al)(d:St)(H:Hp)(x:V)(c:jf)(v:aj)(b:je)(Q:VK),ZF X a d H s->ZQ x v->ZO c b->r x c H Q ->
  aC (aB X.prog X.w) X.A (call (.builtin id) (v::b)) (EP X a d Q) X.xe s
def ZO.one:∀{x:V}{a:je},ZO [x] a->∃ u,a=[u]/\ZQ x u:=λh=>by cases h with | cons r n=>cases n;exact⟨_,rfl,r⟩
def ZO.zero:∀{a:je},ZO [] a->a=[]
 | _,.nil=>rfl
def ZO.dropLast{b:jf}{a:je}(h:ZO b a):ZO b.dropLast a.dropLast:=by
 induction h with
 | nil=>exact .nil
 | cons r t c=>
  cases t with
  | nil=>exact .nil
  | cons q d=>exact .cons r c
def ZIi{d:Type}(l:List d):l.eraseIdx (l.length-1)=l.dropLast:=by
 induction l with
 | nil=>rfl
 | cons a r c=>
  cases r with
  | nil=>rfl
  | cons b r=>
   have e:(a::b::r).length-1=((b::r).length-1)+1:=by
    have f:(a::b::r).length=r.length+2:=rfl;have g:(b::r).length=r.length+1:=rfl
    lia
   rw[e,List.eraseIdx_cons_succ,c]
   all_goals rfl
section
variable{kj:js}{σ:St}{H:Hp}{l b:ak}{xs ys zs:jf}
def ZF.lset{a its':je}{n:Nat}{f:ju->ju}{k:Nat}(I:ZF X kj σ H s)(c:H l=some (.lst xs))(e:s.heap.get? l=some { cls:=.type "list",data:=.seq a.toArray n })(g:f a.toArray=its'.toArray)(i:ZO ys its')(j:ys.length<=ar):
  ZF X kj σ (upd H l (.lst ys)) { s with heap:=s.heap.update l (Obj.mapSeq f),toks:=k }:=by
 have q:=PySem.IsL.update e f;rw[g] at q;refine I.write (x:=l) (e:=l) (by rw[c];exact trivial) (.inl rfl) (λm u d h=>(vA s.heap (Obj.mapSeq f) (Ne.symm d)).trans h) ⟨_,q⟩ ?_
 exact⟨j,its',_,i,q⟩
def ZF.lnew{a:je}{t':Nat}(I:ZF X kj σ H s)(c:ZO ys a)(d:ys.length<=ar):
  ZF X kj σ (upd H s.heap.objs.size (.lst ys)) { s with heap:=s.heap.push { cls:=.type "list",data:=.seq a.toArray },toks:=t' }:=
 I.laid (λ_ _ q=>zO _ q) (zY _) ⟨d,a,0,c,yO _ rfl⟩
def ZF.fresh(I:ZF X kj σ H s):H s.heap.objs.size=none:=I.hok.fresh (zY _)
def ZF.lstM(I:ZF X kj σ H s)(c:H l=some (.lst xs)):xs.length<=ar/\∃(a:je)(n:Nat),ZO xs a/\xs.length=a.length/\s.heap.get? l=some { cls:=.type "list",data:=.seq a.toArray n }:=by
 obtain⟨z,a,n,r,e⟩:=I.hok l _ c;exact⟨z,a,n,r,r.length,e⟩
def Hv{n:Nat}(h:n<=ar):Builtin.List.listTooLong n=false:=by
 unfold Builtin.List.listTooLong;exact aJ ∅
end
inductive Q6(x:V)(b:jf)(H:Hp)(Q:VK):Prop
 |mk(l a y:_)(_:x=.ref l)(_:b=[y])(_:H l=some (.lst a))(_:a.length<ar)(_:Q .non (upd H l (.lst (a++[y]))))
def Uh:LQ X "list.append" Q6:=by
 intro c s p H x m v k Q I g f h;obtain⟨l,o,y,rfl,rfl,b,j,q⟩:=h;cases g;obtain⟨u,rfl,d⟩:=f.one;obtain⟨z,a,n,r,i,e⟩:=I.lstM b;refine call_meets F.slot_list_append ⟨_,e,rfl⟩ F.entry_list_append (F.args_list_append_2 _ _) (PySem.list_append l a.toArray n u (by rw[zP];lia)) ⟨e,?_⟩
 refine⟨.non,_,I.lset (its':=a++[u]) b e (by simp) (r.append (.cons d .nil)) ?_,rfl,q⟩
 rw[zW,vB]
 lia
inductive PV(x:V)(d:jf)(H:Hp)(Q:VK):Prop
 |mk(l b a c:_)(_:x=.ref l)(_:d=[.ref b])(_:H l=some (.lst a))(_:H b=some (.lst c))(_:a.length+c.length<=ar)(_:Q .non (upd H l (.lst (a++c))))
def Jn:LQ X "list.extend" PV:=by
 intro i s K H x D v C Q I y w h;obtain⟨l,b,E,J,rfl,rfl,g,k,B,q⟩:=h;cases y;obtain⟨u,rfl,t⟩:=w.one;cases t;obtain⟨z,c,n,r,A,e⟩:=I.lstM g;obtain⟨G,a,o,p,m,j⟩:=I.lstM k;have f:c.toArray.size+a.toArray.size<=sizeLine:=by rw[zP,zP];lia
 have d:¬ (!c.toArray.isEmpty&&Builtin.List.listTooLong (c.toArray.size+a.toArray.size))=true:=by
  rw[Hv f,uS];exact zV
 refine call_meets F.slot_list_extend ⟨_,e,rfl⟩ F.entry_list_extend (F.args_list_extend_2 _ _)
  (AutoSeq1.list_extend_list_list_0 l c.toArray n b a.toArray o d (by rw[zP];lia) ∅) ⟨e,j,?_⟩
 refine⟨.non,_,I.lset (its':=c++a) g e (by simp) (r.append p) ?_,rfl,q⟩
 rw[zW]
 lia
inductive IZ(x:V)(b:jf)(H:Hp)(Q:VK):Prop
 |mk(l a y:_)(_:x=.ref l)(_:b=[])(_:H l=some (.lst a))(_:a[a.length-1]? = some y)(_:Q y (upd H l (.lst a.dropLast)))
def Dx:LQ X "list.pop" IZ:=by
 intro f s A H x t v p Q I o m h;obtain⟨l,w,y,rfl,rfl,d,j,q⟩:=h;cases o;have b:=m.zero;subst b;obtain⟨z,a,n,r,g,e⟩:=I.lstM d;obtain⟨u,i,k⟩:=r.get j;have c:a.toArray[a.toArray.size-1]? = some u:=by
  show a.toArray[a.length-1]? = some u;rw[<-yY,<-g];exact i
 refine call_meets F.slot_list_pop ⟨_,e,rfl⟩ F.entry_list_pop (F.args_list_pop_1 _) (MeetsSeq.list_pop_last l a.toArray n u c (by rw[zP];lia)) ⟨e,?_⟩
 refine⟨y,_,I.lset (its':=a.dropLast) d e ?_ r.dropLast ?_,k,q⟩
 ·show a.toArray.eraseIdxIfInBounds (a.toArray.size-1)=a.dropLast.toArray;rw[zP,List.eraseIdxIfInBounds_toArray,ZIi]
 ·rw[List.length_dropLast]
  lia
inductive MM(x y:V)(H:Hp)(Q:VK):Prop
 |mk(l b a c:_)(_:x=.ref l)(_:y=.ref b)(_:H l=some (.lst a))(_:H b=some (.lst c))(_:a.length+c.length<=ar)(_:∀ p,H p=none->Q (.ref p) (upd H p (.lst (a++c))))
def LY:Yd X (binaryOp .Add) MM:=by
 intro d s E H x y v u Q I o p h;obtain⟨l,b,B,D,rfl,rfl,j,i,w,q⟩:=h;cases o;cases p;obtain⟨z,c,n,r,t,e⟩:=I.lstM j;obtain⟨C,a,A,m,k,f⟩:=I.lstM i;refine PySem.P.add_list e f ?_ (by rw[zP,zP];lia)
 have g:c.toArray++a.toArray=(c++a).toArray:=by simp
 rw[g];exact⟨.ref _,_,I.lnew (t':=s.toks) (r.append m) (by rw[zW];lia),rfl,q _ I.fresh⟩
end L2
namespace Att
open PySem PySem.W PySem.Calls PyProof.Rows
def ZD4{P:Params}{h:aE}:∀(c:jt)(d:je),WellAll P h d (c.map WData.int)->IntsAre d c:=by
 intro c
 induction c with
 | nil=>
  intro d w;rw[vJ] at w;cases w;exact .nil
 | cons n c e=>
  intro d w;rw[yR] at w
  cases w with
  | cons a b=>
   cases a;exact .cons _ _ (e _ b)
def AN{l:OpenLaw}{n:Nat}(v:l.most=some n){P:Params}{h:aE}{args:List WData}{e:je}(c:l.row.toRowW.claim.pre args=true)(m:WellAll P h e args):
  ∃ a p b,e=[Value.ref a]/\args=[WData.list (b.map WData.int)]/\h.get? a=some { cls:=.type "list",data:=.seq p.toArray }/\IntsAre p b/\b.length<=n:=by
 have k:WShape.hasAll [] args [.list .int]=true:=(pre_splitW c).1;have o:l.pre.holds [] { args:=args }=true:=(pre_splitW c).2;obtain⟨d,r,rfl,s,t⟩:=hasAllW_cons k;obtain rfl:=hasAllW_nil t;obtain⟨A,rfl,u⟩:=hasW_list s;obtain⟨b,rfl⟩:=items_int u;have g:b.length<=n:=by
  unfold OpenLaw.pre at o;have i:(WTm.not (.lt (.lit (.int (n:Int))) (.len (.arg 0)))).holds [] { args:=[.list (b.map .int)] }=true:=by
   have i:=(holds_andW o).1;rw[v] at i;exact i
  have j:=condW_of i (w_not (w_lt w_lit (w_len_list (w_arg rfl))));rw[zX] at j;refine wV λq=>?_;have x:(n:Int)<((b.length:Nat):Int):=∅
  first
   | (rw[aK x] at j;exact absurd j (by decide))
   | (simp at j;lia)
 cases m with
 | cons y z=>
  cases z
  cases y with
  | list w f=>exact⟨_,_,b,rfl,rfl,w,ZD4 b _ f,g⟩
def ZJJ(l:OpenLaw)(args:List WData):l.row.toRowW.claim.post args (.bool true) args=true:=
 postW_of (r:=l.row.toRowW) (X:=(true==true))
  (show WShape.has [] (.bool true) .bool=true by first | rfl | decide | simp[WShape.has,WShape.arms,WShape.armsAll])
  (show (WTm.eq .res (.lit (.bool true))).value [] { args:=args,res:=some (.bool true),after:=args }=some (.bool (true==true)) from w_eq_bool (w_res rfl) w_lit) rfl
def attach_call{l:OpenLaw}{n:Nat}{q:am}{c:jr}{E:(jc)->aE->Prop}{F:ax->aE->Prop}{d:DefRec}(S:l.most=some n)(z:d.params.defaults=[])(j:∀ (w:ax) (e b:al) (u C:jc) (k:ak) (o:aI) (D t g:aj) (a:ak) (i:je) (v:jt),
   Ground q c [] E w e u C b.heap->F w b.heap ->
   b.heap.get? k=some o->o.data=.func (docDef d.name d.params d.body d.scope D t g)->b.heap.CodeRec t d.name->u d.name=some (.ref k) ->
   b.heap.get? a=some { cls:=.type "list",data:=.seq i.toArray }->IntsAre i v->v.length<=n->b.gens=#[] ->
   codeAny (aB l.prog w) callerA (.call (.ref k) ⟨[.ref a],[]⟩) (λr x=>r=.ok (.ret (.bool true))/\OldK b.heap x.heap/\x.os=b.os/\AllBare x.gens) b):
  WalkO q c E F l.row.toRowW d [] (λf i=>PySem.call f i):=by
 intro w e b u C G Y k o D t g K kV T O y H A P args J W s I V B Q;obtain rfl:K=.none:=Dflts.none H z;obtain rfl:kV=.none:=Dflts.noKw H;obtain⟨a,i,v,rfl,rfl,p,h,m⟩:=AN S s B;refine enter_call (codeAny_mono (j w e b u C k o D t g a i v G Y T (fd_plain O) y A p h m P) λr x U=>?_);obtain⟨rfl,L,M,N⟩:=U;exact⟨.inl ⟨.bool true,.bool true,[],rfl,λ_=>rfl,.bool true,ZJJ l _,λ_=>⟨tH.nil,λ_ R=>(nomatch R)⟩⟩,L,M,N⟩
section
variable{K:Frag}
def ZRy(h:aE)(L d:ak):js:=(yX h.objs.size).filterMap λa=>if a=L\/a=d then none else (h.get? a).map λo=>(a,o)
end
end Att
namespace L2
open PySem PySem.Spec PyProof.Rows
def Er:∀{b:je}{a:jt},IntsAre b a->ZO (a.map V.int) b:=by intro _ _ h;induction h with
 | nil=>exact .nil
 | cons n t _ c=>exact .cons ⟨t,rfl⟩ c
def IL(H:Hp):Prop:=∀ b,H b=none\/∃ o a,H b=some (.frz o (.lst a))
def ZLy{P:am}{w:ax}{K:zZ}{M Z:jc}{CX:Wg}{k:Nat}{S a:ak}{fd:ao}{x:Str}{sp:Sp}{c:al}{y:je}{N:jt}(KX:K.In c.heap)(G:c.heap.Ns aq M)(g:c.heap.Ns builtinsNs Z)(U:∀ x:Str,x ≠ "__name__"->Z x=az x)(E:c.heap.NoLimit)(hg:c.gens=#[])(Q:c.heap.get? a=some { cls:=.type "list",data:=.seq y.toArray })(hi:IntsAre y N)(hl:N.length<=ar)(hr:ZT k callerA)(F:∀ i:aE,K.In i->i.Ns aq M->ZI P w K M i CX k S fd [x] sp)(t:∀ (s:al) (u:aj),BindsTo s fd ⟨[u],[]⟩ [(x,u)])(Y:∀ H:Hp,IL H->ZG K H a (N.map V.int)->sp [.ref a] H (λv _=>v=.bl true) λ_ _ _=>False)(T:∀ H e j,CX [] H c (λ_ _ _=>False) e j->False):
  codeAny (aB P w) callerA (.call (.ref S) ⟨[.ref a],[]⟩) (λr j=>r=.ok (.ret (.bool true))/\OldK c.heap j.heap/\j.os=c.os/\AllBare j.gens) c:=by
 have rv:=Er hi;have L:=hi.length;have p:∀ H:Hp,IL H->ZG K H a (N.map V.int)->Yv P w H c.heap->(∀ b,H b≠none->b=a)->(H a≠none->K.lookup a=none) ->
   codeAny (aB P w) callerA (.call (.ref S) ⟨[.ref a],[]⟩) (λr j=>r=.ok (.ret (.bool true))/\OldK c.heap j.heap/\j.os=c.os/\AllBare j.gens) c:=by
  intro H hO hS I hA hK;have f:∀{b:ak}{o:aI},c.heap.get? b=some o->H b=none->(Pi c.heap H).get? b=some o:=λe n=>ZMf e n;have a0:∀{b:ak}{o:aI}{C:Array DictEntry}{B:Nat},c.heap.get? b=some o->o.data=.dict C B->H b=none:=fun{b o C B} e d=>by
   cases q:H b with
   | none=>rfl
   | some u=>
    have R:b=a:=hA b (by rw[q];simp)
    subst R;rw[Q] at e;cases e;have d':Data.seq y.toArray _=Data.dict C B:=d;cases d'
  have l:∀{b:ak}{m:jc},c.heap.Ns b m->(Pi c.heap H).Ns b m:=fun{b m} ⟨o,C,B,e,d,r⟩=>⟨o,C,B,f e (a0 e d),d,r⟩;have D:K.In (Pi c.heap H):=λb o e=>f (KX b o e) (by
   cases q:H b with
   | none=>rfl
   | some u=>
    have R:b=a:=hA b (by rw[q];simp)
    subst R;rw[hK (by rw[q];simp)] at e;cases e)
  have hM:Mod K M (Pi c.heap H):=⟨D,l G,⟨Z,l g,U⟩,let ⟨mc,h1,h2⟩:=E;⟨mc,l h1,h2⟩⟩;have e0:Vj P w K M (Pi c.heap H) callerA [] c H:=⟨rfl,hM,λb o e=>A7 e,vT (ZJI _ _),trivial,λb g=>absurd (show b∈([]:jD) from g) (by simp),I,.of_eq hg⟩
  refine codeAny_mono ((F _ D (l G)).run callerA [] c H ⟨[.ref a],[]⟩ [.ref a] [.ref a] _ _ hr e0 (t c (.ref a)) (.cons rfl .nil) (Y H hO hS)) λr j h=>?_
  cases r with
  | error e=>exact(T H e j h).elim
  | ok fl=>
   cases fl with
   | next=>exact False.elim h
   | brk=>exact False.elim h
   | cont=>exact False.elim h
   | ret u=>
    obtain⟨v,H',os,A,un,J,r',q⟩:=h;have q':v=.bl true:=q;subst q';obtain rfl:u=Value.bool true:=r';refine⟨rfl,OldK.of_keep λb o e=>?_,os,A⟩
    cases q:H b with
    | none=>exact un.keep b o e q (by intro z;exact absurd (show b∈([]:jD) from z) (by simp)) (by simp)
    | some u=>
     rcases hO b with z | ⟨ob,xs,z⟩
     ·rw[q] at z;cases z
     ·have z2:=un.frzs b ob _ z;obtain⟨e1,_⟩:=I b _ z;obtain⟨e2,_⟩:=J b _ z2;rw[e] at e1;cases e1;exact e2
 cases X:K.lookup a with
 | some o=>
  have e:=KX a o X;rw[Q] at e;cases e;refine p (λ_=>none) (λ_=>.inl rfl) (.inr ⟨_,y.toArray,_,X,rfl,rfl,rfl,by rw[zP,L];exact hl,by simpa using rv⟩) (λb u z=>by have O:(none:Option HO)=some u:=z;cases O) (λb z=>absurd rfl z) λz=>absurd rfl z
 | none=>
  refine p (λb=>if b=a then some (.frz { cls:=.type "list",data:=.seq y.toArray } (.lst (N.map V.int))) else none) (λb=>?_) (.inl (.inr ⟨{ cls:=.type "list",data:=.seq y.toArray },aO rfl⟩)) (λb u z=>?_) (λb z=>?_) λ_=>X
  ·by_cases g:b=a
   ·exact .inr ⟨_,_,aO g⟩
   ·exact .inl (aM g)
  ·by_cases g:b=a
   ·have O:=(aO g).symm.trans z;cases O;subst g;exact⟨Q,by rw[zX];exact hl,y,_,rv,Q⟩
   ·have O:=(aM g).symm.trans z;cases O
  ·by_cases g:b=a
   ·exact g
   ·exact absurd (aM g) z
abbrev KOf{K:zZ}{h:aE}(_:K.In h):zZ:=K
def Lv{l:rR}{n k:Nat}{q:am}{loose:jr}{XP:(jc)->aE->Prop}{YP:ax->aE->Prop}{d:DefRec}{K:Params->zZ}{CX:ax->Wg}{sp:ax->Sp}{x:Str}(hn:l.most=some n)(hn2:n<=ar)(hdf:d.params.defaults=[])(hr:ZT k callerA)(hY:∀ (w:ax) (h:aE),YP w h->(K w.params).In h)(F:∀ (w:ax) (m:jc) (t:ak) (h:aE),(K w.params).In h->h.Ns aq m->m d.name=some (.ref t) ->
   ∃ z:ao,(∀ (s:al) (u:aj),BindsTo s z ⟨[u],[]⟩ [(x,u)]) /\
    ∀ c:aE,(K w.params).In c->c.Ns aq m->ZI l.prog w (K w.params) m c (CX w) k t z [x] (sp w))(hsp:∀ (w:ax) (H:Hp) (a:ak) (y:jt),y.length<=n->IL H->ZG (K w.params) H a (y.map V.int)->sp w [.ref a] H (λv _=>v=.bl true) λ_ _ _=>False)(hCX:∀ (w:ax) (H:Hp) (s:al) (e:aj) (B:al),CX w [] H s (λ_ _ _=>False) e B->False):
  PySem.W.WalkO q loose XP YP l.row.toRowW d [] (λf E=>PySem.call f E):=by
 refine Att.attach_call hn hdf λw D r m U t o X Q I a E y G Y S R O A p j i P=>?_;have C:=hY w _ Y;obtain⟨z,N,J⟩:=F w m t _ C G.T.g A;exact ZLy C G.T.g G.T.b G.T.builtins G.T.nolimit P p j (zS i hn2) hr J N (λH L M=>hsp w H a y i L M) λH e B=>hCX w H r e B
def VO(s:aD)(j:Nat):Stmt:=match s with
 | .ClassDef _ _ _ a _ _ _ _ _ _ _=>a.getD j (.Pass ⟨0,0,0,0⟩)
 | _=>.Pass ⟨0,0,0,0⟩
def Uf(s:aD):Arguments:=match s with
 | .FunctionDef _ a _ _ _ _ _ _ _ _=>a
 | _=>{ posonlyargs:=[],args:=[],vararg:=none,kwonlyargs:=[],kw_defaults:=[],kwarg:=none,defaults:=[] }
def WY(s:aD):List Stmt:=match s with
 | .FunctionDef _ _ b _ _ _ _ _ _ _=>b
 | _=>[]
def Zc(s:aD):Scope:=match s with
 | .FunctionDef _ _ _ _ _ _ a _ _ _=>a
 | _=>{ kind:=.function,names:=[],isGenerator:=false,isCoroutine:=false }
abbrev ZZ:Wg:=λ_ _ _ _ _ _=>False
abbrev E0:XK:=λ_ _ _=>False
def XJ{X:Cx}:Ut ZZ X E0:=λ_ _ _ _ _ _ _ h=>h.elim
structure Zf(K:zZ)(x qual:Str)(st:aD)(f:ak)(fd:ao):Prop where
 ex:∃(oc:aj)(od:jA)(kV doc pm:aj)(an:jA)(cdv ct:aj)(osl:Array (jd)),
  fd=xW x qual (Uf st) (WY st) (Zc st) .none kV doc pm an cdv ct/\K.lookup f=some ⟨oc,od,.func fd,osl⟩/\wC K cdv qual=true
 kp:yL K (.ref f)=true
def Zf.ok{x b:Str}{g:aD}{f:ak}{o:ao}{N m:jr}{k:Nat}{n:Sp}(F:Zf K x b g f o)(S:ZA N m (Zc g))(l:∀ e H Q E,n e H Q E->e.length=m.length)(d:∀ (c:aj) (A:ay) (a:jx) (s:al) (H:Hp) (e:jf) (Q:VK) (E:XK),ZT k (A.deeper (envOfC b (Zc g) s.heap.objs.size f c))->n e H Q E ->
   let X:=(WZ ZZ P w K mg km N b (Zc g) f c A a s H E).nox;∃ t,Xh X (WY g) t/\t { nx:=λ_ p=>Q .non p,rt:=Q } (Qg N e) H):ZI P w K mg km ZZ (k+1) f o m n:=by
 obtain⟨B,C,kV,r,D,z,c,ct,y,rfl,v,i⟩:=F.ex;refine E4 v i S l λA a s H e Q E u j=>?_;obtain⟨t,h,q⟩:=d c A a s H e Q E u j;exact⟨t,h.nox,q⟩
def Zf.ko{x a:Str}{g:aD}{f:ak}{m:ao}{N j:jr}{k:Nat}{l:Sp}(F:Zf K x a g f m)(S:ZA N j (Zc g))(b:∀ (e:aj) (A:ay) (c:jx) (s:al) (H:Hp) (d:jf) (Q:VK) (E:XK),ZT k (A.deeper (envOfC a (Zc g) s.heap.objs.size f e))->l d H Q E ->
   let X:=(WZ ZZ P w K mg km N a (Zc g) f e A c s H E).nox;∃ t,Xh X (WY g) t/\t { nx:=λ_ n=>Q .non n,rt:=Q } (Qg N d) H)(i:∀ d H Q E,l d H Q E->d.length=j.length:=by intro d _ _ _ h;cases h;subst d;rfl):ZI P w K mg km ZZ (k+1) f m j l:=F.ok S i b
def Zf.binds{x a:Str}{d:aD}{f:ak}{k:ao}{i:jr}(F:Zf K x a d f k)(h:∀ (kV c g:aj) (e:jA) (b ct:aj) (j:je),j.length=i.length->bindArgs (xW x a (Uf d) (WY d) (Zc d) .none kV c g e b ct) ⟨j,[]⟩=pure (i.zip j)):Zt K k i []:=by
 obtain⟨o,p,kV,c,g,e,b,ct,m,rfl,n,l⟩:=F.ex;exact .all (h kV c g e b ct)
def Pc{x a:Str}{st:aD}{f:ak}{i:aj}{j g:jA}{e:Array (jd)}{kV d h b ct:aj}(l:K.lookup f=some ⟨i,j,.func (xW x a (Uf st) (WY st) (Zc st) .none kV d h g b ct),e⟩)(c:wC K b a=true)(k:yL K (.ref f)=true):Zf K x a st f (xW x a (Uf st) (WY st) (Zc st) .none kV d h g b ct):=⟨⟨i,j,kV,d,h,g,b,ct,e,rfl,l,c⟩,k⟩
def PF{A:ay}{k:Nat}(a:ZT k A):A.units+1<cLine:=wJ (rG (by decide:1<=64) _) a.units
def Yq{n:Nat}(h:n<=1000):n<sizeLine:=wJ h (by decide)
def pv(i:Nat){x:Str}{pos:Pos}(b:X.N[i]? = some x:=by rfl)(d:J9 X.env.scope x:=by first | exact Or.inl rfl | exact Or.inr (Or.inl rfl) | exact Or.inr (Or.inr rfl))(c:(x==("__debug__" : Str))=false:=by decide)(a:(x==("__classdict__" : Str))=false:=by decide):PE X (.Name x pos) (OO i):=C0 b d c a
def Zk{A B:Prop}(h:B):if false=true then A else B:=by
 rw[aM zV];exact h
def Zw{A B:Prop}(h:A):if true=true then A else B:=by
 rw[aO rfl];exact h
def Xw{c A B:Prop}[Decidable c](a:c->A)(b:¬ c->B):if c then A else B:=by
 by_cases h:c
 ·rw[aO h];exact a h
 ·rw[aM h];exact b h
def ZRN{c A B:Prop}[Decidable c](a:c)(h:B):if (!decide c)=true then A else B:=by
 rw[aK a];exact Zk h
def ZC(H a:Hp):Prop:=∀ b o,H b=some o->a b=some o
def ZC.refl(H:Hp):ZC H H:=λ_ _ h=>h
def ZC.trans{H d e:Hp}(a:ZC H d)(b:ZC d e):ZC H e:=λc o h=>b c o (a c o h)
def ZC.free{H a:Hp}(e:ZC H a){l:ak}(h:a l=tJ):H l=tJ:=by
 cases q:H l with
 | none=>rfl
 | some o=>
  rw[e l o q] at h;cases h
def ZC.seq{K:zZ}{H b:Hp}{a:ak}{c:jf}(e:ZC H b)(h:ZG K H a c):ZG K b a c:=by
 rcases h with (h | ⟨o,h⟩) | h
 ·exact .inl (.inl (e _ _ h))
 ·exact .inl (.inr ⟨o,e _ _ h⟩)
 ·exact .inr h
section
variable{R:Result->al->Prop}
def ZGH{elt target iter:Expr}{ifs:jB}{scope:aF}{pos:Pos}{it acc:aj}{env:Env}(I:Nat->al->Prop)(turn:∀ n s,I n s->aC (aB prog w) A (pyNext it) (λr d=>match r with
   | none=>R (.ok .next) d
   | some v=>aC (aB prog w) A (letOwnedTupleGo target it v) (λ_ j=>aC (aB prog w) A (assign target env v) (λ_ k=>
     aC (aB prog w) A (forIn ifs true λc r=>if r=true then do let y<-isTrue c env (aH c env);pure (ForInStep.yield y) else pure (ForInStep.yield r)) (λy f=>
      if y=true then aC (aB prog w) A (aH elt env) (λx l=>
       aC (aB prog w) A (call (.builtin "list.append") [acc,x]) (λ_ o=>∃ m,m<n/\I m o) (notedBy (aB prog w) A env λe b=>R (.error e) b) l) (notedBy (aB prog w) A env λe b=>R (.error e) b) f
      else ∃ m,m<n/\I m f) (notedBy (aB prog w) A env λe b=>R (.error e) b) k) (notedBy (aB prog w) A env λe b=>R (.error e) b) j) (notedBy (aB prog w) A env λe b=>R (.error e) b) d) (notedBy (aB prog w) A env λe b=>R (.error e) b) s)(n:Nat)(h:I n s):
  codeAny (aB prog w) A (.compLoop (.ListComp elt [⟨target,iter,ifs,0⟩] scope pos) 0 it acc env) R s:=by
 refine codeAny_loop rfl I (λn s z=>?_) n h;show aC _ A ((compTurn (.ListComp elt [⟨target,iter,ifs,0⟩] scope pos) 0 it acc env).onRaise (λx=>do noteFrame x env;theTreesLotGoes x)) _ _ s
 refine wpAny_noted ?_;rw[compTurn_list];refine aa (ah (aa (ae (turn n s z) (λr d g=>?_) λ_ _ a=>a)))
 cases r with
 | none=>exact ad g
 | some v=>
  refine aa (ae g (λ_ j p=>?_) λ_ _ a=>a);refine aa (ae p (λ_ k q=>aa (ae q (λy f i=>?_) λ_ _ a=>a)) λ_ _ a=>a)
  cases y with
  | false=>exact ad ⟨rfl,i⟩
  | true=>
   exact aa (aa (ae i (λx l t=>aa (ae t (λ_ o u=>ad (ad ⟨rfl,u⟩)) λ_ _ a=>a)) λ_ _ a=>a))
end
def WS(b:Env)(l:List (Str×NameKind)):jE->jE:=λa=>l.foldl (λa p=>if p.2==.free then (p.1,(b.cells.lookup p.1).getD 0)::a else a) a
def MJ(a:Env)(l:List (Str×NameKind)):Prop:=∀ p∈l,p.2=.free->∃ c,a.cells.lookup p.1=some c
def Gd{b:Env}{d:aF}(h:MJ b d.names):closureFor d b=pure (WS b d.names []):=by
 have i:∀(l:List (Str×NameKind))(f:jE),MJ b l->(forIn l f λx r=>if (x.2==.free)=true then do let a<-cellOf b x.1;pure (ForInStep.yield ((x.1,a)::r)) else pure (ForInStep.yield r):Sem (jE))=pure (WS b l f):=by
  intro l
  induction l with
  | nil=>intro f _;rfl
  | cons p r n=>
   intro f j;have e:WS b (p::r) f=WS b r (if p.2==.free then (p.1,(b.cells.lookup p.1).getD 0)::f else f):=rfl
   rw[sH,e]
   cases o:(p.2==NameKind.free) with
   | true=>
    obtain⟨c,m⟩:=j p zC (eq_of_beq o);have g:cellOf b p.1=pure c:=by unfold cellOf;rw[m]
    simp only[if_true,g,pure_bind];rw[n _ λq k=>j q (zI _ k),m];rfl
   | false=>
    simp only[wU,if_false,pure_bind];exact n _ λq k=>j q (zI _ k)
 have:=i d.names [] h;simpa [closureFor] using this
def GO{a:Env}:∀{l:List (Str×NameKind)}{b:jE}{x:Str}{c:ak},MJ a l->(WS a l b).lookup x=some c->b.lookup x=some c\/a.cells.lookup x=some c
 | [],_,_,_,_,h=>.inl h
 | p::r,b,x,c,hf,h=>by
  have i:(WS a r (if p.2==.free then (p.1,(a.cells.lookup p.1).getD 0)::b else b)).lookup x=some c:=h
  rcases GO (λq j=>hf q (zI _ j)) i with q | q
  ·cases f:(p.2==NameKind.free) with
   | true=>
    rw[f,aO rfl,xA] at q
    cases e:x==p.1 with
    | true=>
     rw[e] at q;obtain⟨d,g⟩:=hf p zC (eq_of_beq f);refine .inr ?_;rw[eq_of_beq e,g];rw[g] at q;exact q
    | false=>
     rw[e] at q;exact .inl q
   | false=>
    rw[f,aM zV] at q;exact .inl q
  ·exact .inr q
def Ds{a:Env}{x:Str}:∀{l:List (Str×NameKind)}{b:jE},(b.lookup x).isSome=true->((WS a l b).lookup x).isSome=true
 | [],_,h=>h
 | p::r,b,h=>by
  show ((WS a r (if p.2==.free then (p.1,(a.cells.lookup p.1).getD 0)::b else b)).lookup x).isSome=true
  refine Ds ?_
  cases c:(p.2==NameKind.free) with
  | true=>
   rw[aO rfl,xA]
   cases e:x==p.1 with
   | true=>rfl
   | false=>exact h
  | false=>rw[aM zV];exact h
def FB{a:Env}{x:Str}:∀{l:List (Str×NameKind)}{b:jE},(x,NameKind.free)∈l->((WS a l b).lookup x).isSome=true
 | [],_,h=>by cases h
 | p::r,b,h=>by
  show ((WS a r (if p.2==.free then (p.1,(a.cells.lookup p.1).getD 0)::b else b)).lookup x).isSome=true
  rcases zF.mp h with e | h
  ·subst e;refine Ds ?_;show (xD x ((x,(a.cells.lookup x).getD 0)::b)).isSome=true;rw[xA,beq_self_eq_true];rfl
  ·exact FB h
def Yx(a:Env)(b:jE):Prop:=∀ x c,b.lookup x=some c->a.cells.lookup x=some c
def Yx.get{a:Env}{b:jE}{x:Str}{c:ak}(h:Yx a b)(e:b.lookup x=some c):a.cells.lookup x=some c:=h x c e
def Eg{a:Env}{l:List (Str×NameKind)}(h:MJ a l):Yx a (WS a l []):=λx c e=>by
 rcases GO h e with q | q
 ·cases q
 ·exact q
def Hu{env:Env}:∀{names:List (Str×NameKind)}{x:Str},names.lookup x=some .free ->
  (names.map fun(n,k)=>if (k==NameKind.free&&env.scope.kind==.function&&env.kindOf n==some .cell) then (n,NameKind.cell) else (n,k)).lookup x=some .cell \/
  (names.map fun(n,k)=>if (k==NameKind.free&&env.scope.kind==.function&&env.kindOf n==some .cell) then (n,NameKind.cell) else (n,k)).lookup x=some .free
 | [],_,h=>by simp at h
 | (n,k)::r,x,h=>by
  rw[xA] at h;simp only[yR]
  cases a:x==n with
  | true=>
   rw[a] at h;cases h;split
   ·exact .inl (by rw[xA,a])
   ·exact .inr (by rw[xA,a])
  | false=>
   rw[a] at h;have b:=Hu (env:=env) h;split
   ·rw[xA,a];exact b
   ·rw[xA,a];exact b
def DZ{env:Env}:∀{names:List (Str×NameKind)}{x:Str},(∀ y∈names,y.2≠.cell) ->
  ((names.map fun(n,k)=>if (k==NameKind.free&&env.scope.kind==.function&&env.kindOf n==some .cell) then (n,NameKind.cell) else (n,k)).lookup x=some .cell \/
  (names.map fun(n,k)=>if (k==NameKind.free&&env.scope.kind==.function&&env.kindOf n==some .cell) then (n,NameKind.cell) else (n,k)).lookup x=some .free)->(x,NameKind.free)∈names
 | [],_,_,h=>by simp at h
 | (n,k)::r,x,hc,h=>by
  have e:∀ y∈r,y.2≠.cell:=λy f=>hc y (zI _ f);simp only[yR] at h
  cases b:x==n with
  | true=>
   have c:=eq_of_beq b;subst c;by_cases a:k=.free
   ·subst a;exact zC
   ·have d:(k==NameKind.free)=false:=by simpa using a
    simp only[d,vS,wU,if_false,xA,beq_self_eq_true] at h;rcases h with h | h
    ·exact absurd (zG.inj h) (hc _ zC)
    ·exact absurd (zG.inj h) a
  | false=>
   refine zI _ (DZ (env:=env) e ?_);split at h
   ·simpa only [xA,b] using h
   ·simpa only [xA,b] using h
def YF(X:Cx)(a:aF):jm->jr->Prop
 | [],[]=>True
 | i::is,y::ys=>X.N[i]? = some y/\(X.env.kindOf y=some .cell\/X.env.kindOf y=some .free)/\a.names.lookup y=some .free/\YF X a is ys
 | _,_=>False
def YF.len{X:Cx}{a:aF}:∀{b:jm}{c:jr},YF X a b c->b.length=c.length
 | [],[],_=>rfl
 | _::_,_::_,h=>congrArg (· + 1) h.2.2.2.len
def YF.get{X:Cx}{a:aF}:∀{b:jm}{c:jr}{j:Nat}{y:Str},YF X a b c->c[j]? = some y ->
  ∃ i,b[j]? = some i/\X.N[i]? = some y/\(X.env.kindOf y=some .cell\/X.env.kindOf y=some .free)/\a.names.lookup y=some .free
 | [],[],_,_,_,h=>by simp at h
 | i::_,z::_,0,y,f,h=>by
  simp at h;subst h;exact⟨i,rfl,f.1,f.2.1,f.2.2.1⟩
 | _::b,_::c,j+1,y,f,h=>by
  obtain⟨i,e,r⟩:=YF.get (j:=j) f.2.2.2 (by simpa using h)
  exact⟨i,by simpa using e,r⟩
def WQ(X:Cx)(N:jr)(a:aF)(b:jE)(C:ak)(s:al)(H:Hp)(c:jD)(E:ja):Cx where
 prog:=X.prog
 w:=X.w
 K:=X.K
 mg:=X.mg
 base:=X.base
 A:=X.A
 N:=N
 s₀:=s
 H₀:=H
 env:=compEnvC a b C X.env
 outer:=X.stack
 stack:=X.stack
 ex:=c
 fn:=λ_=>false
 calm:=X.calm
 pn:=[]
 xe:=E
def MS(b:St)(a:jm)(x:V):St:=some x::a.map λi=>(b[i]?).join
def Oo(X:Cx)(b:jB)(e:TT):Prop:=
 ∀(a:js)(s:al)(d:St)(H:Hp)(Q:Bool->Hp->Prop),ZF X a d H s->e d H Q ->
  aC (aB X.prog X.w) X.A (forIn b true λc r=>if r=true then do let ok<-isTrue c X.env (aH c X.env);pure (ForInStep.yield ok) else pure (ForInStep.yield r)) (TP X a d Q) X.xe s
def IX:TT:=λ_ H Q=>Q true H
def VV{X:Cx}:Oo X [] IX:=λ_ _ _ H _ I h=>wpAny_tests_nil ⟨H,I,h⟩
def NY{X:Cx}{c:Expr}{t:TT}(h:PT X c t):Oo X [c] t:=λa s d H Q I b=>wpAny_tests_one (h a s d H Q I b)
def V9(J:It)(j:St)(h:jm)(l:TT)(k:TE)(e:Hp)(Q:VK):Prop:=
 ∀ D,e D=none->∃ W:Nat->Nat->Hp->Prop,(∃ m,W 0 m (upd e D (.lst [])))/\∀ i m H,W i m H ->
  (J.stop i H/\Q (.ref D) H)\/(J.go i H/\∀ x d,J.yld i H x d->l (MS j h x) d λc f=>
   if c=true then k (MS j h x) f λy g=>∃ b a,g D=some (.lst b)/\b.length<ar/\a<m/\W (i+1) a (upd g D (.lst (b++[y])))
   else ∃ a,a<m/\W (i+1) a f)
def F2(f:TI)(c:jm)(e:TT)(d:TE):TE:=λa H Q=>f a H λJ b=>V9 J a c e d b Q
section
variable{kj:js}{σ:St}{H:Hp}
def AY{b:jm}{j:Nat}{v:V}(h:(b.map λi=>(σ[i]?).join)[j]? = some (some v)):∃ i,b[j]? = some i/\σ[i]? = some (some v):=by
 rw[zD] at h
 cases e:b[j]? with
 | none=>rw[e] at h;cases h
 | some i=>
  rw[e] at h;have a:(σ[i]?).join=some v:=zG.inj h;exists i,rfl
  cases q:σ[i]? with
  | none=>rw[q] at a;cases a
  | some o=>
   rw[q] at a
   cases o with
   | none=>cases a
   | some z=>cases a;rfl
def Nk(a:Env)(l:List (Str×NameKind)):Bool:=l.all λp=>!(p.2==.free) || a.kindOf p.1==some .cell || a.kindOf p.1==some .free
def GH{X:Cx}{l:List (Str×NameKind)}(a:X.Ok)(h:Nk X.env l=true):MJ X.env l:=λp c b=>by
 have q:=zQ.mp h p c;rw[b] at q;have d:(X.env.kindOf p.1==some .cell || X.env.kindOf p.1==some .free)=true:=by simpa using q
 rcases Bool.or_eq_true_iff.mp d with q | q
 ·exact a.has p.1 (.inl (eq_of_beq q))
 ·exact a.has p.1 (.inr (eq_of_beq q))
def NM(a:aF)(x:Str):Bool:=a.kind==.function&&a.names.lookup x==some .local&&a.names.all (λp=>!(p.2==.cell))&&a.names.all (λp=>!(p.2==.local) || a.names.lookup p.1==some .local)
structure PJ(scope:aF)(x:Str):Prop where
 kind:scope.kind=.function
 own:scope.names.lookup x=some .local
 cell:∀ y∈scope.names,y.2≠.cell
 names:∀ y∈scope.names,y.2=.local->scope.names.lookup y.1=some .local
def Mn{a:aF}{x:Str}(h:NM a x=true):PJ a x:=by
 unfold NM at h;rw[zR,zR,zR] at h;obtain⟨⟨⟨c,d⟩,e⟩,f⟩:=h;refine⟨eq_of_beq c,eq_of_beq d,λy b z=>?_,λy b z=>?_⟩
 ·have:=zQ.mp e y b;rw[z] at this;cases this
 ·have:=zQ.mp f y b;rw[z] at this;have q:(a.names.lookup y.1==some NameKind.local)=true:=by simpa using this
  exact eq_of_beq q
def GS{a:aF}{b:Env}(d:∀ y∈a.names,y.2≠.cell)(y:Str)(h:(relabel a b).names.lookup y=some .cell\/(relabel a b).names.lookup y=some .free):∃ c,(WS b a.names []).lookup y=some c:=
 sO.mp (FB (DZ d h))
def ES(i:Nat)(t:TE):TS:=λD σ H=>t σ H λv a=>D.nx (σ.set i (some v)) a
end
def Ld(b:jr)(c:St)(a:jm):St:=b.map (λ_=>(none:jg))++a.map λi=>(c[i]?).join
def JR(J:It)(k:Nat)(g:TG)(p:St)(n:jm)(s:TT)(r:TE)(h:Hp)(Q:VK):Prop:=
 ∀ D,h D=none->∃ W:Nat->Nat->Hp->Prop,(∃ m,W 0 m (upd h D (.lst [])))/\∀ i m H,W i m H ->
  (J.stop i H/\Q (.ref D) H)\/(J.go i H/\∀ x f,J.yld i H x f->∀ o:St,o.length=k->g x (o++n.map λi=>(p[i]?).join) f λa q=>(∃ d:St,d.length=k/\a=d++n.map λi=>(p[i]?).join)/\s a q λc j=>
   if c=true then r a j λy l=>∃ e b,l D=some (.lst e)/\e.length<ar/\b<m/\W (i+1) b (upd l D (.lst (e++[y])))
   else ∃ b,b<m/\W (i+1) b j)
def Ew(k:Nat)(g:TG)(f:TI)(c:jm)(e:TT)(d:TE):TE:=λa H Q=>f a H λJ b=>JR J k g a c e d b Q
section
variable{kj:js}{σ:St}{H:Hp}
def B7{t K:jr}{J:jm}{a:aF}{L:jE}{fp:jD}{E:ja}{g:aE}{D C n tk:Nat}{m:jc}(I:ZF X kj σ H s)(N:∀ b∈fp,VD X kj H b/\b<s.heap.objs.size)(f:Yx X.env L)(B:a.kind=.function)(w:∀ y,((relabel a X.env).names.lookup y=some .cell\/(relabel a X.env).names.lookup y=some .free)->∃ c,L.lookup y=some c)(fo:YF X a J K)(M:s.heap.objs.size<=D)(R:s.heap.objs.size<=C)(S:D≠C)(T:g.Ns C m)(k:∀ b o,s.heap.get? b=some o->g.get? b=some o)(hd:g.get? D=some { cls:=.type "list",data:=.seq ([]:je).toArray n }):
  ZF (WQ X (t++K) a L C s H fp E) [] (Ld t σ J) (upd H D (.lst [])) { s with heap:=g,toks:=tk }:=by
 have d:∀ y c,L.lookup y=some c->c<s.heap.objs.size:=λy c e=>by
  obtain⟨v,q⟩:=I.cell y c (f.get e);exact q.lt
 refine⟨⟨I.ok.mod,B,I.ok.glob,I.ok.blt,R,λy z c h1 h2=>I.ok.inj y z c (f.get h1) (f.get h2),w,λy c h _=>absurd h (by simp[WQ]),I.ok.hd,I.ok.frames,.inl rfl,λb G=>⟨?_,λy c e=>?_⟩,I.bs,zS I.ok.bsz I.sz,λb o e G=>?_,λb G z=>?_,I.stack,I.stkFree⟩,
  rfl,I.bare,Un.laid k M (I.hok.fresh M),⟨m,T,λj y v e1 Z F=>?_⟩,λy c e=>?_,?_,λy c e=>?_,λp hp=>absurd (show p∈([]:js) from hp) (by simp),I.hok.laid k M ?_,?_⟩
 ·exact yU (yW (N b G).2 R)
 ·exact(N b G).1.2.2.2.2.1 y c (f.get e)
 ·obtain⟨_,_,_,z,_⟩:=(N b G).1;rcases z with z | z
  ·exact I.ok.noex b o e z
  ·exact absurd (yW (zN (I.ok.bs b o e).1) z) (vW _)
 ·obtain⟨_,z1,z2,_⟩:=(N b G).1;rcases zF.mp (I.stkSub b z) with q | q
  ·exact z1 q
  ·exact z2 q
 ·by_cases O:j<t.length
  ·exfalso
   have F:(t.map (λ_=>(none:jg))++J.map λi=>(σ[i]?).join)[j]? = some (some v):=Z;rw[wP (by rw[zX];exact O),zD,zU O] at F
   cases F
  ·have Y:(t++K)[j]? = some y:=e1;have P:K[j-t.length]? = some y:=by rw[xQ (wV O)] at Y;exact Y
   have F:(t.map (λ_=>(none:jg))++J.map λi=>(σ[i]?).join)[j]? = some (some v):=Z;have Q:(J.map λi=>(σ[i]?).join)[j-t.length]? = some (some v):=by
    rw[xQ (by rw[zX];exact wV O),zX] at F
    exact F
   obtain⟨i,q1,q2⟩:=AY Q;obtain⟨i',p1,p2,x,W⟩:=fo.get P;rw[q1] at p1;cases p1;have p4:(relabel a X.env).names.lookup y=some .cell\/(relabel a X.env).names.lookup y=some .free:=Hu W;obtain⟨c,p5⟩:=w y p4;obtain⟨m0,a0,hl⟩:=I.loc;obtain⟨u,r,l⟩:=hl i y v p2 q2 (.inr x);refine⟨u,r,.inr ⟨p4,c,p5,?_⟩⟩;rcases l with ⟨l1,_⟩ | ⟨_,c',l2,l3⟩
   ·rcases x with x | x
    ·rw[l1] at x;cases x
    ·rw[l1] at x;cases x
   ·rw[f.get p5] at l2;cases l2;obtain⟨o,U,A⟩:=l3;exact⟨o,k _ _ U,A⟩
 ·obtain⟨v,o,U,A⟩:=I.cell y c (f.get e);exact⟨v,o,k _ _ U,A⟩
 ·show upd H D (.lst []) C=none;rw[ZS (Ne.symm S)];exact I.hok.fresh R
 ·show upd H D (.lst []) c=none;rw[ZS (yU (yW (d y c e) M))];exact I.freeC y c (f.get e)
 ·exact⟨zL _,[],n,.nil,hd⟩
 ·show (Ld t σ J).length=(t++K).length;unfold Ld;rw[zW,zX,zX,fo.len,zW]
def D8(k:Nat)(c:jm)(σ a:St):Prop:=∃ b:St,b.length=k/\a=b++c.map λi=>(σ[i]?).join
inductive Hf(Y:Cx)(k:Nat)(f:jm)(σ:St)(g:Nat->aE->Prop)(e:jD)(W:Nat->Nat->Hp->Prop)(n:Nat)(d:al):Prop
 |mk(i:Nat)(a:St)(c:Hp):ZF Y [] a c d->D8 k f σ a->g i d.heap->(∀ b∈e,c b=none)->W i n c->Hf Y k f σ g e W n d
def Df{elt iter tg:Expr}{xs:jr}{g:TG}{ifs:jB}{scope:aF}{cl:jE}{pos:Pos}{ix:jm}{ys:jr}{tt:TT}{te:TE}{it:ak}{fp:jD}{tn:Nat->aE->Prop}{J:It}{Q:VK}{E:ja}{RR:aj->ak->Result->al->Prop}(hc:X.calm=true)(hg:∀ C s H fp E,PG (WQ X (xs++ys) scope cl C s H fp E) tg g)(ht:∀ C s H fp E,Oo (WQ X (xs++ys) scope cl C s H fp E) ifs tt)(he:∀ C s H fp E,PE (WQ X (xs++ys) scope cl C s H fp E) elt te)(sub:Yx X.env cl)(hkind:scope.kind=.function)(hcell:∀ y∈scope.names,y.2≠.cell)(hhas:∀ y,((relabel scope X.env).names.lookup y=some .cell\/(relabel scope X.env).names.lookup y=some .free)->∃ c,cl.lookup y=some c)(fo:YF X scope ix ys)(I:ZF X kj σ H s)(T:Ue X.prog X.w X.K tg J fp it tn)(st:tn 0 s.heap)(hf:∀ b∈fp,VD X kj H b)(q:JR J xs.length g σ ix tt te H Q)(hRR:∀ D C s' H' m,s.heap.objs.size<=C->ZF X kj σ H' s'->VD X kj H' C->s'.heap.Ns C m->Q (.ref D) H'->RR (.ref D) C (.ok .next) s'):
  aC (aB X.prog X.w) X.A (newList []) (λacc s₃=>aC (aB X.prog X.w) X.A (newFunctionEnv scope X.env.globals cl [] X.env.qual none .none (some X.env)) (λcenv s₄=>
   codeAny (aB X.prog X.w) X.A (.compStart (.ListComp elt [⟨tg,iter,ifs,0⟩] scope pos) 0 (.ref it) acc { cenv with scope:=relabel scope X.env }) (RR acc cenv.locals) s₄) E s₃) E s:=by
 refine wpAny_newObj_type (wpAny_newFunctionEnv hcell (by intro y hy;simp at hy) (λh₁ hns₁ hsb₁=>?_) hkind)
 dsimp only at hns₁ hsb₁⊢;generalize hH2:s.heap.push { cls:=.type "list",dict:=none,data:=.seq ([]:je).toArray }=H2 at hns₁ hsb₁⊢;have hC:H2.objs.size=s.heap.objs.size+1:=by rw[<-hH2,vH]
 have hDC:s.heap.objs.size≠H2.objs.size:=by rw[hC];exact yU (wN _)
 have hCle:s.heap.objs.size<=H2.objs.size:=by rw[hC];exact wG _
 have below:∀ b,b<s.heap.objs.size->b≠H2.objs.size/\b≠s.heap.objs.size:=λb hb=>⟨by rw[hC];exact yU (rS hb),yU hb⟩
 have old:∀ b o,s.heap.get? b=some o->h₁.get? b=some o:=λb o e=>hsb₁.extBut b o (below b (zN e)).1 (zO _ (hH2 ▸ zO _ e));have hacc:∃ n,h₁.get? s.heap.objs.size=some { cls:=.type "list",data:=.seq ([]:je).toArray n }:=⟨_,hsb₁.extBut _ _ hDC (zO _ (hH2 ▸ yO _ rfl))⟩;obtain⟨nD,hacc⟩:=hacc;have hf':∀ b∈fp,VD X kj H b/\b<s.heap.objs.size:=λb hb=>⟨hf b hb,by obtain⟨o,e,_⟩:=T.obj 0 _ st b hb;exact zN e⟩
 have hDn:H s.heap.objs.size=none:=I.hok.fresh (zY _);obtain⟨W,⟨m0,w0⟩,turn⟩:=q _ hDn;generalize hE:notedBy (aB X.prog X.w) X.A (compEnvC scope cl H2.objs.size X.env) (λe s'=>RR (.ref s.heap.objs.size) H2.objs.size (.error e) s')=EE;have I0:ZF (WQ X (xs++ys) scope cl H2.objs.size s H fp EE) [] (Ld xs σ ix) (upd H s.heap.objs.size (.lst [])) { s with heap:=h₁,toks:=s.toks+([]:jI).length }:=
  B7 I hf' sub hkind hhas fo (zY _) hCle hDC hns₁ old hacc
 have st1:tn 0 h₁:=T.keep _ _ _ st λb _ o e=>old b o e;have fr1:∀ b∈fp,upd H s.heap.objs.size (.lst []) b=none:=λb hb=>by rw[ZS (below b (hf' b hb).2).2];exact(hf b hb).1
 have stat:∀{H':Hp},(∀ b∈fp,H' b=none)->∀ b∈fp,VD (WQ X (xs++ys) scope cl H2.objs.size s H fp EE) [] H' b:=λhn b hb=>
  ⟨hn b hb,(I0.ok.exf b hb).1,I0.ok.exfs b hb,.inl hb,(I0.ok.exf b hb).2,λp hp=>absurd (show p∈([]:js) from hp) (by simp)⟩
 have loop:∀ s₃:al,s₃={ s with heap:=h₁,toks:=s.toks+([]:jI).length } ->
   codeAny (aB X.prog X.w) X.A (.compLoop (.ListComp elt [⟨tg,iter,ifs,0⟩] scope pos) 0 (.ref it) (.ref s.heap.objs.size) (compEnvC scope cl H2.objs.size X.env)) (RR (.ref s.heap.objs.size) H2.objs.size) s₃:=by
  rintro s₃ rfl;refine ZGH (Hf (WQ X (xs++ys) scope cl H2.objs.size s H fp EE) xs.length ix σ tn fp W) ?_ m0 ⟨0,_,_,I0,⟨_,zX _,rfl⟩,st1,fr1,w0⟩;rintro n s3 ⟨i,σ3,H3,I3,⟨o3,ho3,hσ3⟩,st3,fr3,w3⟩;rw[hE];rcases turn i n H3 w3 with ⟨stop,qn⟩ | ⟨go,step⟩
  ·refine Zz (T.done (WQ X (xs++ys) scope cl H2.objs.size s H fp EE) rfl rfl rfl hc i [] s3 σ3 H3 EE I3 (stat fr3) st3 stop) ?_;rintro r s4 ⟨hr,I4⟩;subst hr;obtain⟨m4,hn4,_⟩:=I4.loc;have Ix:ZF X kj σ H3 s4:=I.call' (s':=s4) (ch:=fp) I4.os I4.base I4.hok I4.bare λb hb=>by
    obtain⟨_,z1,_,z3,z4,z5⟩:=hf b hb;exact⟨z3,z1,z4,z5⟩
   exact hRR _ _ s4 H3 m4 hCle Ix (I.fpOk hCle I4.free) hn4 qn
  ·refine Zz (T.item (WQ X (xs++ys) scope cl H2.objs.size s H fp EE) rfl rfl rfl hc i [] s3 σ3 H3 EE I3 (stat fr3) st3 go) ?_;rintro r s4 ⟨u,hr,h4⟩;subst hr;refine Zz h4 ?_;rintro _ s5 ⟨xv,H5,I5,r5,y5,st5,fr5⟩;have I5':=I5.pinned (stat fr5) (T.obj _ _ st5);have again:∀{σ7:St}{H7:Hp}{s7:al}{m':Nat},ZF (WQ X (xs++ys) scope cl H2.objs.size s H fp EE) ([]++MK fp s5.heap) σ7 H7 s7->D8 xs.length ix σ σ7->m'<n->W (i+1) m' H7 ->
     ∃ m,m<n/\Hf (WQ X (xs++ys) scope cl H2.objs.size s H fp EE) xs.length ix σ tn fp W m s7:=fun{σ7 H7 s7 m'} I7 e7 hm w7=>by
    refine⟨m',hm,.mk (i+1) σ7 H7 I7.unpinned e7 (T.keep _ _ _ st5 λb hb o e=>(I7.pin (b,o) (yC _ (yC _ (Lj hb e)))).1) (λb hb=>?_) w7⟩;obtain⟨o,e,d⟩:=T.obj _ _ st5 b hb;exact(I7.pin (b,o) (yC _ (yC _ (Lj hb e)))).2.1
   have stp:=step xv _ y5 o3 ho3;rw[<-hσ3] at stp;refine Zz (hg _ _ _ _ _ _ s5 σ3 H5 xv u _ I5' r5 stp) ?_;rintro _ s6 ⟨σ6,H6,I6,e6,q6⟩;refine Zz (ht _ _ _ _ _ _ s6 _ _ _ I6 q6) ?_;rintro ok s7 ⟨H7,I7,q7⟩
   cases ok with
   | false=>
    rw[aM zV] at q7⊢;obtain⟨m',hm,w7⟩:=q7;exact again I7 e6 hm w7
   | true=>
    rw[aO rfl] at q7⊢;refine Zz (he _ _ _ _ _ _ s7 _ _ _ I7 q7) ?_;rintro y s8 ⟨yv,H8,I8,r8,ys8,m',e8,z8,hm,w8⟩;refine Zz (Uh _ s8 _ H8 (.ref s.heap.objs.size) [yv] (.ref s.heap.objs.size) [y] (λ_ H9=>W (i+1) m' H9) I8 rfl (.cons r8 .nil) ⟨_,ys8,yv,rfl,rfl,e8,z8,w8⟩) ?_;rintro _ s9 ⟨_,H9,I9,_,w9⟩;exact again I9 e6 hm w9
 exact codeAny_compStart_list (loop _ rfl) (T.self _ 0 _ _ _ st1 (loop _ rfl))
def ZMI{f c r:Expr}(j:jr)(x:Str){g:TG}{i:jB}{a:aF}{pos:Pos}{z:TI}{y:TT}{u:TE}(t:jm)(k:jr)(Z:X.calm=true)(hg:∀ C s H d E,PG (WQ X (j++k) a (WS X.env a.names []) C s H d E) r g)(hi:PI X r c z)(ht:∀ C s H d E,Oo (WQ X (j++k) a (WS X.env a.names []) C s H d E) i y)(he:∀ C s H d E,PE (WQ X (j++k) a (WS X.env a.names []) C s H d E) f u)(V:YF X a t k)(hk:Nk X.env a.names=true:=by rfl)(n:NM a x=true:=by rfl)(hs:∀ x,foldedSetIterable c X.env x=pure x:=by intro _;rfl):
  PE X (.ListComp f [⟨r,c,i,0⟩] a pos) (Ew j.length g z t y u):=by
 intro kj s σ H Q I h;have B:=Mn n;have F:=GH I.ok hk;rw[eval_ListComp];refine wpAny_comprehension_free (use:=none) rfl hs (Gd F) B.kind B.names (Zz (hi kj s σ H _ I h) λv s1 W=>Zz W λa0 s2 Y=>?_);obtain⟨it,d,tn,J,H2,e,K,T,p,O,q2⟩:=Y;subst e;refine Df (RR:=λl C=>compPost (aB X.prog X.w) X.A X.xe none (EP X kj σ Q) l C) Z hg ht he (Eg F) B.kind B.cell (GS B.cell) V K T p O q2 ?_;intro D C s' G m hC L U hn q;refine⟨m,hn,λh' sb=>⟨.ref D,G,?_,rfl,q⟩⟩;obtain⟨M,N,_,P,R,S⟩:=U;exact L.turned (t':=s'.toks) (λb o n e=>(sb.2 b n).trans e) M N P R S
def BP{f d t:Expr}(u:jr)(x:Str){g:TG}{y:Str}{n:Pos}{j:jB}{c:aF}{pos k:Pos}{wi:TI}{tt:TT}{Z:TE}{i:Nat}(Y:jm)(G:jr)(hN:X.N.Nodup)(M:X.N[i]? = some y)(W:X.env.scope.names.lookup y=some .local)(hc:X.calm=true)(hg:∀ C s H l E,PG (WQ X (u++G) c (WS X.env c.names []) C s H l E) t g)(hi:PI X t d wi)(ht:∀ C s H l E,Oo (WQ X (u++G) c (WS X.env c.names []) C s H l E) j tt)(he:∀ C s H l E,PE (WQ X (u++G) c (WS X.env c.names []) C s H l E) f Z)(fo:YF X c Y G)(O:swapsWith (.ListComp f [⟨t,d,j,0⟩] c pos) (some (.Name y n)) k.line X.env=pure true:=by rfl)(hk:Nk X.env c.names=true:=by rfl)(L:NM c x=true:=by rfl)(hs:∀ x,foldedSetIterable d X.env x=pure x:=by intro _;rfl):
  PS X (.Assign [.Name y n] (.ListComp f [⟨t,d,j,0⟩] c pos) k) (ES i (Ew u.length g wi Y tt Z)):=by
 intro kj s σ H D I h;have B:=Mn L;have F:=GH I.ok hk;rw[exec_Assign_Name_used _ _ _ _ O];refine aa (ah (aa ?_));show aC _ X.A (do let _<-comprehension (.ListComp f [⟨t,d,j,0⟩] c pos) c X.env _ (newList []) false (aH d X.env) (some (assign (.Name y n) X.env))) _ _ s
 refine aa (ae (wpAny_comprehension_free (use:=some (assign (.Name y n) X.env)) (Q:=λ_ r=>SP X kj D .next r) rfl hs (Gd F) B.kind B.names
  (Zz (hi kj s σ H _ I h) λv s1 h1=>Zz h1 λa0 s2 h2=>?_)) (λ_ r hq=>ad (ad hq)) λ_ _ e=>e)
 obtain⟨it,l,tn,J,H2,e,I2,T,R,f2,q2⟩:=h2;subst e;refine Df (RR:=λK C=>compPost (aB X.prog X.w) X.A X.xe (some (assign (.Name y n) X.env)) (λ_ r=>SP X kj D .next r) K C) hc hg ht he (Eg F) B.kind B.cell (GS B.cell) fo I2 T R f2 q2 ?_;intro S C r H' m hC Ix fC hn q;obtain⟨f0,U,_,f3,V,f5⟩:=fC;show aC _ X.A (assign (.Name y n) X.env (.ref S)) _ _ _;refine wpAny_assign_Name (CL Ix hN M (.inl W) (v:=.ref S) rfl (λs3 I3 ⟨a,sb,p⟩=>?_) (.inr W));have ne:C≠a:=by
  rcases p with p | p
  ·rw[p];exact U
  ·exact λz=>V y a p z.symm
 refine⟨m,hn.sameBut sb ne,λh' P=>⟨_,H',?_,q⟩⟩;exact I3.turned (t':=s3.toks) (λb o L e=>(P.2 b L).trans e) f0 U f3 V f5
def V9.toT{J:It}{a:jm}{c:TT}{b:TE}{Q:VK}(h:V9 J σ a c b H Q):JR J 1 (P9 0) σ a c b H Q:=λD f=>by
 obtain⟨W,e,j⟩:=h D f;refine⟨W,e,λi m H k=>(j i m H k).imp id λq=>⟨q.1,λx d y l g=>?_⟩⟩;obtain⟨_,rfl⟩:=zEI.mp g;exact⟨⟨[some x],rfl,rfl⟩,q.2 x d y⟩
inductive MC(c:TI)(σ:L2.St)(H:Hp)(K:It->Hp->Prop):Prop
 |mk(b:It->Hp->Prop)(_:c σ H b)(_:∀ J a,b J a->K J a)
def PI.more{i g:Expr}{j:TI}(h:PI X i g j):PI X i g (MC j):=λkj s σ H R I ⟨l,n,f⟩=>
 ae (h kj s σ H l I n) (λ_ _ z=>ae z (by rintro _ _ ⟨o,m,p,J,k,a,b,c,d,e,r⟩;exact⟨o,m,p,J,k,a,b,c,d,e,f _ _ r⟩) λ_ _ z=>z) λ_ _ z=>z
def Wr{c b:Expr}{x:Str}{n:Pos}{d:jB}{a:aF}{pos:Pos}{q:TI}{p:TT}{o:TE}(k:jm)(e:jr)(t:X.calm=true)(v:PI X (.Name x n) b q)(A:∀ C s H f E,Oo (WQ X (x::e) a (WS X.env a.names []) C s H f E) d p)(u:∀ C s H f E,PE (WQ X (x::e) a (WS X.env a.names []) C s H f E) c o)(r:YF X a k e)(w:Nk X.env a.names=true:=by rfl)(l:NM a x=true:=by rfl)(j:(x::e).Nodup:=by decide +kernel)(y:∀ x,foldedSetIterable b X.env x=pure x:=by intro _;rfl):
  PE X (.ListComp c [⟨.Name x n,b,d,0⟩] a pos) (F2 q k p o):=by
 intro kj s σ H Q I h;have m:(relabel a X.env).names.lookup x=some .local:=lookup_relabel_local (Mn l).own;exact ZMI [x] x (g:=P9 0) k e t (λ_ _ _ _ _=>Jo (i:=0) j rfl (Or.inl m) (Or.inr m)) (PI.more v) A u r w l y kj s σ H Q I ⟨_,h,λ_ _ z=>V9.toT z⟩
def K2{d b:Expr}{x y:Str}{o r:Pos}{e:jB}{a:aF}{pos c:Pos}{v:TI}{u:TT}{t:TE}{i:Nat}(n:jm)(f:jr)(A:X.N.Nodup)(k:X.N[i]? = some y)(M:X.env.scope.names.lookup y=some .local)(B:X.calm=true)(G:PI X (.Name x o) b v)(L:∀ C s H j E,Oo (WQ X (x::f) a (WS X.env a.names []) C s H j E) e u)(F:∀ C s H j E,PE (WQ X (x::f) a (WS X.env a.names []) C s H j E) d t)(w:YF X a n f)(m:swapsWith (.ListComp d [⟨.Name x o,b,e,0⟩] a pos) (some (.Name y r)) c.line X.env=pure true:=by rfl)(J:Nk X.env a.names=true:=by rfl)(p:NM a x=true:=by rfl)(l:(x::f).Nodup:=by decide +kernel)(K:∀ x,foldedSetIterable b X.env x=pure x:=by intro _;rfl):
  PS X (.Assign [.Name y r] (.ListComp d [⟨.Name x o,b,e,0⟩] a pos) c) (ES i (F2 v n u t)):=by
 intro kj s σ H D I h;have q:(relabel a X.env).names.lookup x=some .local:=lookup_relabel_local (Mn p).own;exact BP [x] x (g:=P9 0) n f A k M B (λ_ _ _ _ _=>Jo (i:=0) l rfl (Or.inl q) (Or.inr q)) (PI.more G) L F w m J p K kj s σ H D I ⟨_,h,λ_ _ z=>V9.toT z⟩
end
end L2
local macro_rules|`(tactic|lia)=>`(tactic|first|assumption|exact wJ ‹_› ‹_›|exact yW ‹_› ‹_›|exact zS ‹_› ‹_›|exact zS ‹_› (yH rfl)|exact yW ‹_› (yH rfl)|exact wJ ‹_› (yH rfl)|exact zS (zS ‹_› ‹_›) (yH rfl)|exact zS (vT ‹_›) (zS ‹_› (yH rfl))|exact zS (vT (Eq.symm ‹_›)) (zS ‹_› (yH rfl))|exact yG ‹_›|exact Nat.pos_of_ne_zero ‹_›|exact Nat.le_succ_of_le ‹_›|exact vD ‹_›|exact yH rfl|exact zY _|exact xB _ _|exact Nat.le_add_left _ _|exact vU _ _|exact sY _|exact Nat.lt_of_not_le ‹_›|exact wV ‹_›|exact Int.lt_of_not_ge ‹_›|exact uV.mp ‹_›|exact uG ‹_› (wN _)|exact Nat.lt_of_lt_of_eq ‹_› (Eq.symm ‹_›)|exact Nat.lt_of_lt_of_eq ‹_› ‹_›|exact Eq.symm (Nat.succ_pred_eq_of_ne_zero ‹_›)|exact Nat.add_sub_of_le ‹_›|exact Nat.add_lt_of_lt_sub' ‹_›|exact Int.ofNat_lt.mpr ‹_›|exact wJ (xB _ _) ‹_›|exact zS (uO _ _) (vU _ _)|exact zS (uO _ _) (zS (vU _ _) ‹_›)|exact zS (vU _ _) ‹_›|exact Nat.le_sub_of_add_le' ‹_›|exact Nat.le_sub_of_add_le ‹_›|exact wH ‹_› ‹_›|exact wJ (vT ‹_›) ‹_›|lia (splits:=8))
namespace L2
open PySem PySem.Spec PyProof.Rows
inductive JJ(K:zZ)(a:jf)(H:Hp)(Q:VK):Prop
 |mk(x n t b:_)(_:a=[x,.ty n])(_:Y0 K H x t)(_:yZ K t (.type n)=some b)(_:Q (.bl b) H)
def V5:Wu X (.builtin "isinstance") (JJ X.K):=by
 intro a s l H k j Q I r h;obtain⟨x,n,t,b,rfl,g,e,q⟩:=h;obtain⟨u,i,rfl,d,c⟩:=Lg r;cases(show i=Value.type n from c);exact ZKC I d g e λf=>⟨.bl b,H,I.tok f,rfl,q⟩
def AW{K:zZ}:yZ K (.type "bool") (.type "bool")=some true:=by kernel_rfl
def Gb{K:zZ}:yZ K (.type "int") (.type "bool")=some false:=by kernel_rfl
def ZPg{K:zZ}:yZ K (.type "str") (.type "bool")=some false:=by kernel_rfl
def Bn{K:zZ}:yZ K (.type "tuple") (.type "bool")=some false:=by kernel_rfl
def LZ{K:zZ}:yZ K (.type "int") (.type "int")=some true:=by kernel_rfl
def KB{K:zZ}:yZ K (.type "str") (.type "int")=some false:=by kernel_rfl
def Ll{K:zZ}:yZ K (.type "tuple") (.type "int")=some false:=by kernel_rfl
def kit_is'{K:zZ}:yZ K (.type "int") (.type "str")=some false:=by kernel_rfl
def MR{K:zZ}:yZ K (.type "str") (.type "str")=some true:=by kernel_rfl
def LO{K:zZ}:yZ K (.type "tuple") (.type "str")=some false:=by kernel_rfl
def Ej{K:zZ}:yZ K (.type "int") (.type "tuple")=some false:=by kernel_rfl
def FQ{K:zZ}:yZ K (.type "str") (.type "tuple")=some false:=by kernel_rfl
def Hl{K:zZ}:yZ K (.type "tuple") (.type "tuple")=some true:=by kernel_rfl
def VA:az "isinstance" = some (.builtin "isinstance"):=by decide +kernel
def LG:az "all" = some (.builtin "all"):=by decide +kernel
def Ir:az "max" = some (.builtin "max"):=by decide +kernel
def G5:az "min" = some (.builtin "min"):=by decide +kernel
def IE:az "abs" = some (.builtin "abs"):=by decide +kernel
def Xu:az "len" = some (.builtin "len"):=by decide +kernel
def Dv:az "bool" = some (.type "bool"):=by decide +kernel
def Q2:az "int" = some (.type "int"):=by decide +kernel
def Ma:az "str" = some (.type "str"):=by decide +kernel
def Pb:az "tuple" = some (.type "tuple"):=by decide +kernel
def Uw:az "list" = some (.type "list"):=by decide +kernel
inductive Vw(x y:V)(H:Hp)(Q:VK):Prop
 |mk(i j:_)(_:x=.str i)(_:y=.str j)(_:Q (.bl (!decide (j.cps.toList<i.cps.toList))) H)
def D4:Yd X (aA .LtE) (Vw):=by
 intro a s e H x y v u Q I b c h;obtain⟨i,j,rfl,rfl,q⟩:=h;obtain⟨t,rfl⟩:=b;obtain⟨d,rfl⟩:=c;exact PySem.P.le_str (Yt I q (by simp))
inductive V3(a:zZ)(x y:V)(H:Hp)(Q:VK):Prop
 |mk(p b c:_)(_:x=.ref p)(_:y=.ref b)(_:ZG a H p c)(_:ZG a H b [])(_:Q (.bl c.isEmpty) H)
def ZJ4(f:X.A.units<cLine):Yd X (aA .Eq) (V3 X.K):=by
 intro l s G H x y v u Q I B C h;obtain⟨p,b,D,rfl,rfl,c,o,q⟩:=h;cases B;cases C;obtain⟨d,w,i,E⟩:=I.list c;obtain⟨a,z,k,F⟩:=I.list o;have g:=w.length;have t:=z.length;have n:a=[]:=tT (by rw[<-t];rfl)
 subst n
 cases D with
 | nil=>
  have m:d=[]:=tT (by rw[<-g];rfl)
  subst m;exact PySem.SeqAt.eq_listAt (e:=λ_=>true) i.isList k.isList rfl f (λj c _=>absurd c (by simp)) (Yt I q (by simp))
 | cons x r=>exact PySem.SeqAt.eq_list_lengthsAt i.isList k.isList (by simp;intro e;subst e;simp at g) f (Yt I q rfl)
def ZRI(i j:Int):Prop:=0<j/\j.natAbs.log2<9000
def BN:Yd X (binaryOp .FloorDiv) (rI ZRI λi j=>.int (i / j)):=Nx λi j _ _ _ _ _ a q=>by
 have b:(0:Int)<j:=a.1;exact floordiv_int ∅ (by rw[pU i ∅];exact q) (.inl (PyProof.noPylong_of_log2 a.2))
inductive PM(b:zZ)(c:jf)(H:Hp)(Q:VK):Prop
 |mk(p:ak)(a:List Bool)(_:c=[.ref p])(_:ZG b H p (a.map V.bl))(_:Q (.bl (a.all id)) H)
def LH(C:X.calm=true):Wu X (.builtin "all") (PM X.K):=by
 intro w s Y H W V Q I r h;obtain⟨p,a,rfl,G,q⟩:=h;obtain⟨u,rfl,L⟩:=Vp r;cases L;obtain⟨c,y,k,T⟩:=I.list G;have t:=y.length;have g:p<s.heap.objs.size:=by obtain⟨_,e,_⟩:=k.isList;exact zN e
 have j:p≠s.heap.objs.size:=yU g;have D:=I.ok.hd C;have N:∀(i:Nat)(v:aj),c.toArray[i]? = some v->v=.bool (a.getD i true):=λi v J=>by
  have d:c[i]? = some v:=by simpa using J
  have S:i<c.length:=(yT.mp d).1;have n:i<a.length:=by rw[zX] at t;lia
  obtain⟨u,l,f⟩:=y.get (i:=i) (x:=.bl a[i]) (by rw[zD,zU n];rfl)
  rw[d] at l;cases l;rw[show v=Value.bool a[i] from f,zT,zU n];rfl
 refine call_all_walk (wpAny_pyIter_list k.isList ?_);refine⟨_,_,_,_,_,_,(λi=>a.getD i true),rfl,Walks.list (A:=X.A.in1) D s.heap.objs.size p j c.toArray,⟨⟨_,yO _ rfl,rfl,rfl⟩,k.isList.push _⟩,λi v U P O z B=>?_,λR M E=>?_⟩
 ·rw[N i v z];exact wpAny_truthy_bool B
 ·have e:(yX c.toArray.size).all (λi=>a.getD i true)=a.all id:=by
   rw[zP,<-t,zX];have f:a.all id=((yX a.length).map λi=>a.getD i true).all id:=by rw[range_getD]
   rw[f,uT];rfl
  rw[e];refine⟨.bl (a.all id),H,I.kept (t':=M) λb o m=>E b o ?_ (zO _ m),rfl,q⟩;intro F;exact absurd (zN m) (by rw[zB.mp F];exact vW _)
section
variable{R:Result->al->Prop}
end
def Gw(x:Str):It:=⟨λi _=>i<x.cps.size,λi H v a=>a=H/\∃ c,x.cps[i]? = some c/\v=.str ⟨#[c]⟩,λi _=>i=x.cps.size⟩
def Ht{P:am}{w:ax}{K:zZ}{tg:Expr}(ty:String)(hty:["enumerate","zip","dict_itemiterator","dict_reverseitemiterator","odict_iterator","itertools.zip_longest","itertools.pairwise"].contains ty=false)(x:Str)(t:Tok)(it:ak)(W:∀ A:ay,A.handled=none->Walks P w A it [it] [it] x.cps.size (SignAt x) (λi h=>h.IsStrIter it ty x t i))(self:∀ (A:ay) (i:Nat) (s:al) (Q:ja) (E:ja),s.heap.IsStrIter it ty x t i->Q (.ref it) s->aC (aB P w) A (pyIter (.ref it)) Q E s):
  Ue P w K tg (Gw x) [it] it (λi h=>h.IsStrIter it ty x t i) where
 mem:=by simp
 obj:=λi h st b hb=>by
  have e:b=it:=by simpa using hb
  subst e;obtain⟨o,e,c,d⟩:=st;exact⟨o,e,λv z=>by rw[d] at z;cases z⟩
 keep:=λi h h' ⟨o,e,r⟩ k=>⟨o,k it (by simp) o e,r⟩
 item:=by
  intro X hP hw hK hc i kj s σ H E I hf st hg;subst hP hw hK;obtain⟨f0,f1,f2,f3,f4,f5⟩:=hf it (by simp)
  refine(W X.A (I.ok.hd hc)).item i s _ _ hg st λv h' tk hv st' kk=>?_;obtain⟨c,u,hx,rfl⟩:=hv;have I1:ZF X kj σ H { s with heap:=h',toks:=tk }:=I.turned (λb o hb e=>kk b o (by simpa using hb) e) f0 f1 f3 f4 f5
  obtain⟨o,e,cl,d⟩:=id st';exact⟨_,rfl,M5 (s:={ s with heap:=h',toks:=tk }) e cl d hty ⟨.str ⟨#[c]⟩,H,I1,⟨u,rfl⟩,⟨rfl,c,hx,rfl⟩,st',λb hb=>(hf b hb).1⟩⟩
 done:=by
  intro X hP hw hK hc i kj s σ H E I hf st hg;subst hP hw hK;obtain⟨f0,f1,f2,f3,f4,f5⟩:=hf it (by simp)
  have hi:i=x.cps.size:=hg;subst hi;exact(W X.A (I.ok.hd hc)).done s _ _ st λh' tk kk=>⟨rfl,I.turned (λb o hb e=>kk b o (by simpa using hb) e) f0 f1 f3 f4 f5⟩
 self:=self
section
variable{tg:Expr}
inductive MO(R:It->Hp->Prop)(v:V)(a:Hp):Prop
 |mk(x:_)(_:v=.str x)(_:R (Gw x) a)
def ZSR(b:TE):TI:=λc H R=>b c H λv a=>MO R v a
def Cw{l:Expr}{n:TE}(r:PE X l n):PI X tg l (ZSR n):=by
 intro a s w H R I h;refine Zz (r a s w H _ I h) ?_;rintro v c ⟨z,f,d,u,x,e,q⟩;subst e;obtain⟨t,rfl⟩:=u;have k:∀ b∈[c.heap.objs.size],VD X a f b:=λb p=>by
  rw[zB.mp p];exact d.fpOk (zY _) (d.hok.fresh (zY _))
 cases m:x.cps.all (· < 128)
 ·exact wpAny_pyIter_wide m ⟨c.heap.objs.size,[c.heap.objs.size],_,_,f,rfl,d.kept (t':=c.toks) λb o e=>zO _ e,
   Ht "str_iterator" (by decide) x t _ (λA g=>Walks.strWide g _ x t) (λA i s Q E j h=>wpAny_pyIter_striter_wide j h),⟨_,yO _ rfl,rfl,rfl⟩,k,q⟩
 ·exact wpAny_pyIter_ascii m ⟨c.heap.objs.size,[c.heap.objs.size],_,_,f,rfl,d.kept (t':=c.toks) λb o e=>zO _ e,
   Ht "str_ascii_iterator" (by decide) x t _ (λA g=>Walks.strAscii g _ x t) (λA i s Q E j h=>wpAny_pyIter_striter_ascii j h),⟨_,yO _ rfl,rfl,rfl⟩,k,q⟩
end
section
variable{σ:St}{H:Hp}{ix:jm}{te:TE}{Q:VK}
def Vc{J:It}{n:Nat}(d:Nat->V->Prop)(c:ak->Nat->jf->Hp->Prop)(z:n<ar)(k:∀ D i a H,i<n->c D i a H->J.go i H)(t:∀ D i a H x g,i<n->c D i a H->J.yld i H x g->g=H/\d i x)(f:∀ D a H,c D n a H->J.stop n H)(q:∀ D,H D=none->c D 0 [] (upd H D (.lst [])))(step:∀ D i a H x,H D=some (.lst a)->a.length<=i->i<n->d i x->c D i a H->∀ R:VK,(∀ y h,h D=some (.lst a)->c D (i+1) (a++[y]) (upd h D (.lst (a++[y])))->R y h)->te (MS σ ix x) H R)(j:∀ D a H,H D=some (.lst a)->c D n a H->Q (.ref D) H):V9 J σ ix IX te H Q:=by
 intro D r;exists λi m H=>m=n-i/\i<=n/\∃ a,H D=some (.lst a)/\a.length<=i/\c D i a H,⟨n,rfl,zL _,[],ZM,zY _,q D r⟩;rintro i m H ⟨rfl,w,a,e,s,p⟩;by_cases b:i<n
 ·refine .inr ⟨k D i a H b p,λx g y=>?_⟩;obtain⟨rfl,u⟩:=t D i a H x g b p y;unfold IX;dsimp only;rw[aO rfl];refine step D i a _ x e s b u p _ λy h o v=>?_;exact⟨a,n-(i+1),o,∅,∅,rfl,b,a++[y],ZM,by rw[zW,vB];lia,v⟩
 ·have l:i=n:=∅
  subst l;exact .inl ⟨f D a H p,j D a H e p⟩
end
end L2
namespace Tw
open PySem
inductive KT where
 | int (i:Int)
 | str (x:Str)
 | tup (l:List KT)
abbrev jp:=List KT
abbrev jJ:=Option KT
mutual
def KT.depth:KT->Nat
 | .int _=>0
 | .str _=>0
 | .tup l=>1+ke l
def ke:jp->Nat
 | []=>0
 | t::r=>max t.depth (ke r)
end
mutual
def KT.size:KT->Nat
 | .int _=>1
 | .str _=>1
 | .tup l=>1+sizeL l
def sizeL:jp->Nat
 | []=>0
 | t::r=>t.size+sizeL r
end
def Us(c:Nat):Bool:=decide (32<=c)&&decide (c<=126)
def U7(x:Str):Bool:=decide (x.length<=40)&&x.cps.toList.all Us
mutual
def KT.fits:KT->Nat->Bool
 | .int i,_=>decide (i.natAbs<10 ^ 60)
 | .str x,_=>U7 x
 | .tup l,r=>decide (0<r)&&(decide (l.length<=4)&&fitsL l (r-1))
def fitsL:jp->Nat->Bool
 | [],_=>true
 | t::l,r=>t.fits r&&fitsL l r
end
def LB(r:Nat):∀ l:jp,fitsL l r=l.all λt=>t.fits r
 | []=>by simp[fitsL]
 | t::l=>by rw[fitsL,tY,LB r l]
mutual
def Um:∀(t:KT)(r:Nat),t.fits r=true->t.depth<=r
 | .int _,r,_=>by rw[KT.depth];exact zL _
 | .str _,r,_=>by rw[KT.depth];exact zL _
 | .tup l,r,h=>by
  rw[KT.fits,zR,zR] at h;obtain⟨h1,_,h3⟩:=h;have h1':0<r:=of_decide_eq_true h1;have:=fitsL_depth l (r-1) h3;rw[KT.depth]
  lia
def fitsL_depth:∀(l:jp)(r:Nat),fitsL l r=true->ke l<=r
 | [],r,_=>by rw[ke];exact zL _
 | t::l,r,h=>by
  rw[fitsL,zR] at h;have a:=Um t r h.1;have b:=fitsL_depth l r h.2;rw[ke]
  lia
end
def KT.things:KT->jp
 | .tup l=>l
 | _=>[]
def below(l:jp):jp:=l.flatMap KT.things
end Tw
namespace Tw
open PySem PySem.Spec L2
structure ZB(P:am)(w:ax)(K:zZ)(mg:jc)(km:aE)(k:Nat)(x:Str)(ps:jr)(sp:Sp):Prop where
 ex:∃ f fd,ZI P w K mg km ZZ k f fd ps sp/\Zt K fd ps []/\yL K (.ref f)=true/\mg x=some (.ref f)
def Zg{X:Cx}{k:Nat}{x:Str}{o:jr}{g:Sp}{e:Expr}{a:jB}{t:TA}{p pos:Pos}(D:ZB X.prog X.w X.K X.mg X.base k x o g)(l:ZT k X.A)(h:PA X (e::a) t)(j:Gl X x:=by rfl)(c:(x==("__debug__" : Str))=false:=by decide)(i:aw (e::a) X.env=(false,aH e X.env)::aw a X.env:=by rfl)(d:(aG pos (aw a X.env)).any (·.1)=false:=by rfl):
  PE X (.Call (.Name x p) (e::a) [] pos) (M2 g [] E0 t):=by
 obtain⟨f,q,F,b,n,m⟩:=D.ex;exact IH F l j m n b .nil XJ h c i d
mutual
def ZD(H:Hp):KT->V->Prop
 | .int i,v=>v=.int i
 | .str x,v=>v=.str x
 | .tup l,v=>∃ a vs,v=.ref a/\H a=some (.tup vs)/\jY H l vs
def jY(H:Hp):jp->jf->Prop
 | [],vs=>vs=[]
 | t::l,vs=>∃ v r,vs=v::r/\ZD H t v/\jY H l r
end
def Z3(H c:Hp):Prop:=∀ b a,H b=some (.tup a)->c b=some (.tup a)
mutual
def ZD.mono{H H':Hp}(m:Z3 H H'):∀(t:KT)(v:V),ZD H t v->ZD H' t v
 | .int _,_,h=>by rw[ZD] at h⊢;exact h
 | .str _,_,h=>by rw[ZD] at h⊢;exact h
 | .tup l,_,h=>by
  rw[ZD] at h⊢;obtain⟨a,vs,e,h1,h2⟩:=h;exact⟨a,vs,e,m a vs h1,jY.mono m l vs h2⟩
def jY.mono{H H':Hp}(m:Z3 H H'):∀(l:jp)(vs:jf),jY H l vs->jY H' l vs
 | [],_,h=>by rw[jY] at h⊢;exact h
 | t::l,_,h=>by
  rw[jY] at h⊢;obtain⟨v,r,e,h1,h2⟩:=h;exact⟨v,r,e,ZD.mono m t v h1,jY.mono m l r h2⟩
end
def jY.nil{H:Hp}:jY H [] []:=by rw[jY]
def jY.cons{H:Hp}{t:KT}{l:jp}{v:V}{r:jf}(h:ZD H t v)(a:jY H l r):jY H (t::l) (v::r):=by
 rw[jY];exact⟨v,r,rfl,h,a⟩
def ZD.tup{H:Hp}{a:ak}{b:jf}{l:jp}(e:H a=some (.tup b))(h:jY H l b):ZD H (.tup l) (.ref a):=by
 rw[ZD];exact⟨a,b,rfl,e,h⟩
def ZD.int{H:Hp}(i:Int):ZD H (.int i) (.int i):=by rw[ZD]
def ZD.str{H:Hp}(x:Str):ZD H (.str x) (.str x):=by rw[ZD]
def jY.append{H:Hp}:∀{l m:jp}{a b:jf},jY H l a->jY H m b->jY H (l++m) (a++b)
 | [],m,a,b,h,g=>by rw[jY] at h;subst h;exact g
 | t::l,m,a,b,h,g=>by
  rw[jY] at h;obtain⟨v,r,rfl,c,d⟩:=h;exact .cons c (d.append g)
def jY.length{H:Hp}:∀{l:jp}{a:jf},jY H l a->l.length=a.length
 | [],a,h=>by rw[jY] at h;subst h;rfl
 | t::l,a,h=>by
  rw[jY] at h;obtain⟨v,r,rfl,_,b⟩:=h;rw[zJ,zJ,b.length]
def jY.get{H:Hp}:∀{l:jp}{a:jf}{i:Nat}{v:V},jY H l a->a[i]? = some v->∃ t,l[i]? = some t/\ZD H t v
 | [],a,i,v,h,e=>by rw[jY] at h;subst h;simp at e
 | t::l,a,0,v,h,e=>by
  rw[jY] at h;obtain⟨j,r,rfl,d,_⟩:=h;simp at e;subst e;exact⟨t,rfl,d⟩
 | t::l,a,i+1,v,h,e=>by
  rw[jY] at h;obtain⟨j,r,rfl,_,f⟩:=h;obtain⟨g,b,c⟩:=f.get (i:=i) (by simpa using e)
  exact⟨g,by simpa using b,c⟩
def jY.take{H:Hp}:∀{l:jp}{a:jf}(n:Nat),jY H l a->jY H (l.take n) (a.take n)
 | l,a,0,_=>by simp only[wD];exact .nil
 | [],a,n+1,h=>by rw[jY] at h;subst h;exact .nil
 | t::l,a,n+1,h=>by
  rw[jY] at h;obtain⟨d,r,rfl,b,c⟩:=h;exact .cons b (c.take n)
def jY.drop{H:Hp}:∀{l:jp}{a:jf}(n:Nat),jY H l a->jY H (l.drop n) (a.drop n)
 | l,a,0,h=>h
 | [],a,n+1,h=>by rw[jY] at h;subst h;exact .nil
 | t::l,a,n+1,h=>by
  rw[jY] at h;obtain⟨d,r,rfl,c,b⟩:=h;exact b.drop n
def KT.ty:KT->aj
 | .int _=>.type "int"
 | .str _=>.type "str"
 | .tup _=>.type "tuple"
def ZD.ty{H:Hp}{K:zZ}{t:KT}{v:V}(h:ZD H t v):Y0 K H v t.ty:=by
 cases t with
 | int i=>rw[ZD] at h;subst h;exact .int i
 | str x=>rw[ZD] at h;subst h;exact .str x
 | tup l=>rw[ZD] at h;obtain⟨a,b,rfl,e,_⟩:=h;exact .tup e
def ZE(p:ak)(H a:Hp):Prop:=∀ b o,H b=some o->b≠p->a b=some o
def ZE.refl(p:ak)(H:Hp):ZE p H H:=λ_ _ h _=>h
def ZE.trans{p:ak}{H d e:Hp}(a:ZE p H d)(b:ZE p d e):ZE p H e:=λc o h n=>b c o (a c o h n) n
def ZE.upd{p:ak}{H b:Hp}{o:HO}(a:ZE p H b):ZE p H (L2.upd b p o):=λc u h n=>by rw[ZS n];exact a c u h n
def ZE.of{p:ak}{H b:Hp}(a:ZC H b):ZE p H b:=λc o h _=>a c o h
def ZE.tups{p:ak}{H H':Hp}{c:jf}(a:ZE p H H')(h:H p=some (.lst c)):Z3 H H':=λb d e=>a b _ e (ZV e h)
def ZC.tups{H H':Hp}(a:ZC H H'):Z3 H H':=λb c e=>a b _ e
def ZD.sm{H a:Hp}{t:KT}{v:V}(h:ZD H t v)(s:ZC H a):ZD a t v:=h.mono (ZC.tups s) _ _
def jY.sm{H a:Hp}{t:jp}{v:jf}(h:jY H t v)(s:ZC H a):jY a t v:=h.mono (ZC.tups s) _ _
def ZU{H:Hp}{p:ak}(h:H p=none)(o:HO):ZC H (L2.upd H p o):=λb u q=>by rw[ZS (ZY q h)];exact q
structure ZH(H:Hp)(p:ak):Prop where
 ex:∃ a b c d:Int,H p=some (.lst [.int a,.int b,.int c,.int d])/\0<=a/\a<2147483647/\0<=c/\0<=d
def ZH.stay{H f:Hp}{p q:ak}(w:ZH H p)(s:ZE q H f)(n:p≠q):ZH f p:=by
 obtain⟨a,b,c,d,e,r⟩:=w.ex;exact⟨a,b,c,d,s p _ e n,r⟩
def ZH.same{H f:Hp}{p:ak}(w:ZH H p)(s:ZC H f):ZH f p:=by
 obtain⟨a,b,c,d,e,r⟩:=w.ex;exact⟨a,b,c,d,s p _ e,r⟩
def ZH.some{H:Hp}{p:ak}(w:ZH H p):∃ f,H p=zG (.lst f):=by
 obtain⟨a,b,c,d,e,r⟩:=w.ex;exact⟨_,e⟩
def ZE.tupsW{p:ak}{H b:Hp}(a:ZE p H b)(w:ZH H p):Z3 H b:=by
 obtain⟨c,e⟩:=w.some;exact a.tups e
def E5(m:Int):Prop:=0<m/\m.natAbs.log2<9000
inductive VB(K:zZ)(d:jf)(H:Hp)(Q:VK)(_:XK):Prop
 |mk(a:ak)(c:jt)(k:Int)(_:d=[.ref a,.int k])(_:ZG K H a (c.map V.int))(_:c.length<=63)(_:0<=k)(_:k<=1000)(_:∀(p:ak)(b:Hp),H p=none->ZC H b->ZH b p->Q (.ref p) b)
inductive Zs(b:jf)(H:Hp)(Q:VK)(_:XK):Prop
 |mk(p:ak)(m:Int)(_:b=[.ref p,.int m])(_:ZH H p)(_:E5 m)(_:∀(r:Int)(a:Hp),0<=r->r<m->ZH a p->ZE p H a->Q (.int r) a)
inductive VC(b:jf)(H:Hp)(Q:VK)(_:XK):Prop
 |mk(p:ak)(_:b=[.ref p])(_:ZH H p)(_:∀(x:Str)(a:Hp),U7 x=true->ZH a p->ZE p H a->Q (.str x) a)
inductive XE(n:Nat)(b:jf)(H:Hp)(Q:VK)(_:XK):Prop
 |mk(p:ak)(r:Nat)(_:b=[.ref p,.int (r:Int)])(_:ZH H p)(_:r<n)(_:∀(v:V)(t:KT)(a:Hp),ZD a t v->t.fits r=true->ZH a p->ZE p H a->Q v a)
inductive QA(a:jf)(H:Hp)(Q:VK)(_:XK):Prop
 |mk(i:Int)(_:a=[.int i])(_:Q (.bl (decide (i.natAbs<10 ^ 60))) H)
inductive UC(a:jf)(H:Hp)(Q:VK)(_:XK):Prop
 |mk(c:Nat)(_:a=[.str ⟨#[c]⟩])(_:Q (.bl (Us c)) H)
inductive UG(b:jf)(H:Hp)(Q:VK)(_:XK):Prop
 |mk(v:V)(t:KT)(q:Nat)(_:b=[v])(_:ZD H t v)(_:t.fits q=true)(_:∀ a,ZC H a->Q (.bl (t.fits 3)) a)
inductive UW(K:zZ)(d:jf)(H:Hp)(Q:VK)(_:XK):Prop
 |mk(a:ak)(b:jt)(_:d=[.ref a])(_:ZG K H a (b.map V.int))(_:b.length<=63)(_:∀ c,Q (.bl true) c)
def nn{n:Nat}(h:n<=1000):n<=sizeLine:=yG (Yq h)
def Zu{n:Nat}(h:Nat.ble n 1000=true:=by rfl):n<=sizeLine:=nn (yH h)
def HJ{x y:V}{i:Int}(a:0<=i)(b:i<2):∃ v,Xt [x,y] i=some v/\(v=x\/v=y):=by
 rcases(show i=0\/i=1 by lia) with e | e
 ·subst e;exact⟨x,rfl,.inl rfl⟩
 ·subst e;exact⟨y,rfl,.inr rfl⟩
def Op{b:Type}{xs:List b}{i:Int}(c:0<=i)(d:i<(xs.length:Int)):∃ v,Xt xs i=some v/\v∈xs:=by
 have a:i.toNat<xs.length:=∅
 have e:i=((i.toNat:Nat):Int):=∅
 rw[e];exact⟨xs[i.toNat],Xo (zU a),xL a⟩
def Xn{m:Int}(a:0<m)(b:m.natAbs<2 ^ 250):E5 m:=by
 exists a;have:m.natAbs.log2<250:=(Nat.log2_lt ∅).mpr b
 lia
def ME{i j:Int}(h:V.int i=V.int j):i=j:=by injection h
def ZLI(c:Nat):((!decide ([c]<[32])) && !decide ([126]<[c]))=Us c:=by
 unfold Us;have a:([c]<[32]) ↔ c<32:=by simp[tQ]
 have b:([126]<[c]) ↔ 126<c:=by simp[tQ]
 rw[vE];simp only[zR,Bool.not_eq_true',decide_eq_false_iff_not,decide_eq_true_eq,a,b]
 lia
def AD(i:Int):decide ((if i<0 then -i else i)<10 ^ (60:Int).toNat)=decide (i.natAbs<10 ^ 60):=by
 have e:((10:Int) ^ (60:Int).toNat)=((10 ^ 60:Nat):Int):=by decide +kernel
 rw[e];generalize (10 ^ 60:Nat)=N;apply decide_eq_decide.mpr;split <;> lia
end Tw
namespace Tw
open PySem
mutual
def KT.eqb:KT->KT->Bool
 | .int i,.int j=>i==j
 | .str x,.str y=>x==y
 | .tup l,.tup m=>kc l m
 | _,_=>false
def kc:jp->jp->Bool
 | [],[]=>true
 | a::l,b::m=>a.eqb b&&kc l m
 | _,_=>false
end
mutual
def KT.plt:KT->KT->Bool
 | .int i,.int j=>decide (i<j)
 | .str x,.str y=>decide (x.cps.toList<y.cps.toList)
 | .tup l,.tup m=>pltL l m
 | _,_=>false
def pltL:jp->jp->Bool
 | [],[]=>false
 | [],_::_=>true
 | _::_,[]=>false
 | a::l,b::m=>if a.eqb b=true then pltL l m else a.plt b
end
mutual
def KT.cmp:KT->KT->Bool
 | .int _,.int _=>true
 | .str _,.str _=>true
 | .tup l,.tup m=>cmpL l m
 | _,_=>false
def cmpL:jp->jp->Bool
 | [],_=>true
 | _::_,[]=>true
 | a::l,b::m=>if a.eqb b=true then cmpL l m else a.cmp b
end
def KT.kind:KT->Nat
 | .int _=>0
 | .str _=>1
 | .tup _=>2
mutual
def KT.lt:KT->KT->Bool
 | .int i,.int j=>decide (i<j)
 | .int _,.str _=>true
 | .int _,.tup _=>true
 | .str _,.int _=>false
 | .str x,.str y=>decide (x.cps.toList<y.cps.toList)
 | .str _,.tup _=>true
 | .tup _,.int _=>false
 | .tup _,.str _=>false
 | .tup l,.tup m=>ltL l m
def ltL:jp->jp->Bool
 | [],[]=>false
 | [],_::_=>true
 | _::_,[]=>false
 | a::l,b::m=>if a.eqb b=true then ltL l m else a.lt b
end
mutual
def KT.st:KT->KT
 | .int i=>.tup [.int 0,.int i]
 | .str x=>.tup [.int 1,.str x]
 | .tup l=>.tup [.int 2,.tup (stL l)]
def stL:jp->jp
 | []=>[]
 | t::l=>t.st::stL l
end
def Fc:∀ l:jp,stL l=l.map KT.st
 | []=>by rw[stL];rfl
 | t::l=>by rw[stL,Fc l];rfl
mutual
def QZ:∀(a b:KT),a.eqb b=true->a=b
 | .int i,.int j,h=>by rw[KT.eqb] at h;rw[eq_of_beq h]
 | .str x,.str y,h=>by rw[KT.eqb] at h;rw[eq_of_beq h]
 | .tup l,.tup m,h=>by rw[KT.eqb] at h;rw[eqbL_eq l m h]
 | .int _,.str _,h=>by simp[KT.eqb] at h
 | .int _,.tup _,h=>by simp[KT.eqb] at h
 | .str _,.int _,h=>by simp[KT.eqb] at h
 | .str _,.tup _,h=>by simp[KT.eqb] at h
 | .tup _,.int _,h=>by simp[KT.eqb] at h
 | .tup _,.str _,h=>by simp[KT.eqb] at h
def eqbL_eq:∀(l m:jp),kc l m=true->l=m
 | [],[],_=>rfl
 | a::l,b::m,h=>by
  rw[kc,zR] at h;rw[QZ a b h.1,eqbL_eq l m h.2]
 | [],_::_,h=>by simp[kc] at h
 | _::_,[],h=>by simp[kc] at h
end
mutual
def QF:∀ a:KT,a.eqb a=true
 | .int i=>by rw[KT.eqb];exact beq_self_eq_true i
 | .str x=>by rw[KT.eqb];exact beq_self_eq_true x
 | .tup l=>by rw[KT.eqb];exact eqbL_self l
def eqbL_self:∀ l:jp,kc l l=true
 | []=>by rw[kc]
 | a::l=>by rw[kc,QF a,eqbL_self l];rfl
end
def Yn{a b:KT}:a.eqb b=true ↔ a=b:=⟨QZ a b,λe=>by rw[e];exact QF b⟩
mutual
def Fq:∀ a b:KT,a.st.eqb b.st=a.eqb b
 | .int i,.int j=>by simp[KT.st,KT.eqb,kc]
 | .str x,.str y=>by simp[KT.st,KT.eqb,kc]
 | .tup l,.tup m=>by simp[KT.st,KT.eqb,kc,eqbL_st l m]
 | .int _,.str _=>by simp[KT.st,KT.eqb,kc]
 | .int _,.tup _=>by simp[KT.st,KT.eqb,kc]
 | .str _,.int _=>by simp[KT.st,KT.eqb,kc]
 | .str _,.tup _=>by simp[KT.st,KT.eqb,kc]
 | .tup _,.int _=>by simp[KT.st,KT.eqb,kc]
 | .tup _,.str _=>by simp[KT.st,KT.eqb,kc]
def eqbL_st:∀ l m:jp,kc (stL l) (stL m)=kc l m
 | [],[]=>by simp[stL,kc]
 | a::l,b::m=>by simp[stL,kc,Fq a b,eqbL_st l m]
 | [],_::_=>by simp[stL,kc]
 | _::_,[]=>by simp[stL,kc]
end
def Hq:∀ l:jp,ltL l l=false
 | []=>by rw[ltL]
 | a::l=>by rw[ltL,QF a,aO rfl,Hq l]
def EO{l m:jp}(h:kc l m=true):ltL l m=false:=by
 rw[eqbL_eq l m h];exact Hq m
mutual
def En:∀ a b:KT,a.st.cmp b.st=true
 | .int i,.int j=>by simp[KT.st,KT.eqb,KT.cmp,cmpL]
 | .str x,.str y=>by simp[KT.st,KT.eqb,KT.cmp,cmpL]
 | .tup l,.tup m=>by simp[KT.st,KT.eqb,KT.cmp,cmpL,cmpL_st l m]
 | .int _,.str _=>by simp[KT.st,KT.eqb,KT.cmp,cmpL]
 | .int _,.tup _=>by simp[KT.st,KT.eqb,KT.cmp,cmpL]
 | .str _,.int _=>by simp[KT.st,KT.eqb,KT.cmp,cmpL]
 | .str _,.tup _=>by simp[KT.st,KT.eqb,KT.cmp,cmpL]
 | .tup _,.int _=>by simp[KT.st,KT.eqb,KT.cmp,cmpL]
 | .tup _,.str _=>by simp[KT.st,KT.eqb,KT.cmp,cmpL]
def cmpL_st:∀ l m:jp,cmpL (stL l) (stL m)=true
 | [],_=>by simp[stL,cmpL]
 | _::_,[]=>by simp[stL,cmpL]
 | a::l,b::m=>by
  rw[stL,stL,cmpL,cmpL_st l m,En a b];split <;> rfl
end
mutual
def Fb:∀ a b:KT,a.st.plt b.st=a.lt b
 | .int i,.int j=>by
  simp only[KT.st,KT.eqb,KT.plt,pltL,KT.lt,beq_self_eq_true,if_true];by_cases h:i=j
  ·subst h;simp
  ·simp[h]
 | .str x,.str y=>by
  simp only[KT.st,KT.eqb,KT.plt,pltL,KT.lt,beq_self_eq_true,if_true];by_cases h:x=y
  ·subst h;simp
  ·simp[h]
 | .tup l,.tup m=>by
  simp only[KT.st,KT.eqb,KT.plt,pltL,KT.lt,beq_self_eq_true,if_true,eqbL_st,pltL_st l m]
  cases h:kc l m with
  | true=>rw[aO rfl,EO h]
  | false=>rw[aM zV]
 | .int _,.str _=>by simp[KT.st,KT.eqb,KT.plt,pltL,KT.lt]
 | .int _,.tup _=>by simp[KT.st,KT.eqb,KT.plt,pltL,KT.lt]
 | .str _,.int _=>by simp[KT.st,KT.eqb,KT.plt,pltL,KT.lt]
 | .str _,.tup _=>by simp[KT.st,KT.eqb,KT.plt,pltL,KT.lt]
 | .tup _,.int _=>by simp[KT.st,KT.eqb,KT.plt,pltL,KT.lt]
 | .tup _,.str _=>by simp[KT.st,KT.eqb,KT.plt,pltL,KT.lt]
def pltL_st:∀ l m:jp,pltL (stL l) (stL m)=ltL l m
 | [],[]=>by simp[stL,pltL,ltL]
 | [],_::_=>by simp[stL,pltL,ltL]
 | _::_,[]=>by simp[stL,pltL,ltL]
 | a::l,b::m=>by rw[stL,stL,pltL,ltL,Fq a b,pltL_st l m,Fb a b]
end
mutual
def GU:∀ t:KT,t.st.depth<=2 * t.depth+1
 | .int i=>by simp[KT.st,KT.depth,ke]
 | .str x=>by simp[KT.st,KT.depth,ke]
 | .tup l=>by
  have:=depthL_st l;simp only[KT.st,KT.depth,ke]
  lia
def depthL_st:∀ l:jp,ke (stL l)<=2 * ke l+1
 | []=>by simp[stL,ke]
 | t::l=>by
  have a:=GU t;have b:=depthL_st l;rw[stL,ke,ke]
  lia
end
def ZOr{x:Str}(h:U7 x=true):x.cps.size<=40/\x.cps.toList.all Us=true:=by
 unfold U7 at h;rw[zR] at h;exact⟨of_decide_eq_true h.1,h.2⟩
def Ey:∀(l m:jm),l<m->¬ m<l
 | [],[],h,_=>absurd h (uP _)
 | [],_::_,_,h=>absurd h (uP _)
 | _::_,[],h,_=>absurd h (uP _)
 | a::l,b::m,h,c=>by
  rw[tQ] at h c;rcases h with h | ⟨rfl,h⟩
  ·rcases c with c | ⟨rfl,c⟩
   ·lia
   ·lia
  ·rcases c with c | ⟨_,c⟩
   ·lia
   ·exact Ey l m h c
def Hz:∀(l m:jm),¬ l<m->¬ m<l->l=m
 | [],[],_,_=>rfl
 | [],_::_,h,_=>absurd (rW _ _) h
 | _::_,[],_,h=>absurd (rW _ _) h
 | a::l,b::m,h,h'=>by
  rw[tQ] at h h';have e:a=b:=by
   rcases Nat.lt_trichotomy a b with c | c | c
   ·exact absurd (.inl c) h
   ·exact c
   ·exact absurd (.inl c) h'
  subst e;rw[Hz l m (λz=>h (.inr ⟨rfl,z⟩)) λz=>h' (.inr ⟨rfl,z⟩)]
def GI:∀(l m k:jm),l<m->m<k->l<k
 | _,_,[],_,h=>absurd h (uP _)
 | [],_,_::_,_,_=>rW _ _
 | _::_,[],_,h,_=>absurd h (uP _)
 | a::l,b::m,c::k,h,d=>by
  rw[tQ] at h d⊢;rcases h with h | ⟨rfl,h⟩
  ·rcases d with d | ⟨rfl,d⟩
   ·exact .inl (tN h d)
   ·exact .inl h
  ·rcases d with d | ⟨rfl,d⟩
   ·exact .inl d
   ·exact .inr ⟨rfl,GI l m k h d⟩
def eqb_comm'(a b:KT):a.eqb b=b.eqb a:=by
 rw[vE,Yn,Yn];exact eq_comm
mutual
def Nz:∀(a b:KT),a.lt b=true->b.lt a=false
 | .int i,.int j,h=>by rw[KT.lt] at h⊢;have:=of_decide_eq_true h;exact aJ ∅
 | .int _,.str _,_=>by rw[KT.lt]
 | .int _,.tup _,_=>by rw[KT.lt]
 | .str _,.int _,h=>by rw[KT.lt] at h;cases h
 | .str x,.str y,h=>by rw[KT.lt] at h⊢;exact aJ (Ey _ _ (of_decide_eq_true h))
 | .str _,.tup _,_=>by rw[KT.lt]
 | .tup _,.int _,h=>by rw[KT.lt] at h;cases h
 | .tup _,.str _,h=>by rw[KT.lt] at h;cases h
 | .tup l,.tup m,h=>by rw[KT.lt] at h⊢;exact ltL_asym l m h
def ltL_asym:∀(l m:jp),ltL l m=true->ltL m l=false
 | [],[],h=>by rw[ltL] at h;cases h
 | [],_::_,_=>by rw[ltL]
 | _::_,[],h=>by rw[ltL] at h;cases h
 | a::l,b::m,h=>by
  rw[ltL] at h⊢;rw[eqb_comm' b a]
  cases e:a.eqb b with
  | true=>rw[e,aO rfl] at h;rw[aO rfl];exact ltL_asym l m h
  | false=>rw[e,aM zV] at h;rw[aM zV];exact Nz a b h
end
mutual
def IN:∀(a b:KT),a.lt b=false->b.lt a=false->a=b
 | .int i,.int j,h,h'=>by rw[KT.lt] at h h';have:=of_decide_eq_false h;have:=of_decide_eq_false h';rw[show i=j by lia]
 | .int _,.str _,h,_=>by rw[KT.lt] at h;cases h
 | .int _,.tup _,h,_=>by rw[KT.lt] at h;cases h
 | .str _,.int _,_,h=>by rw[KT.lt] at h;cases h
 | .str x,.str y,h,h'=>by
  rw[KT.lt] at h h';have e:=Hz _ _ (of_decide_eq_false h) (of_decide_eq_false h');obtain⟨⟨x⟩⟩:=x;obtain⟨⟨y⟩⟩:=y;dsimp only at e;rw[e]
 | .str _,.tup _,h,_=>by rw[KT.lt] at h;cases h
 | .tup _,.int _,_,h=>by rw[KT.lt] at h;cases h
 | .tup _,.str _,_,h=>by rw[KT.lt] at h;cases h
 | .tup l,.tup m,h,h'=>by rw[KT.lt] at h h';rw[ltL_total l m h h']
def ltL_total:∀(l m:jp),ltL l m=false->ltL m l=false->l=m
 | [],[],_,_=>rfl
 | [],_::_,h,_=>by rw[ltL] at h;cases h
 | _::_,[],_,h=>by rw[ltL] at h;cases h
 | a::l,b::m,h,h'=>by
  rw[ltL] at h h';rw[eqb_comm' b a] at h'
  cases e:a.eqb b with
  | true=>rw[e,aO rfl] at h h';rw[Yn.mp e,ltL_total l m h h']
  | false=>
   rw[e,aM zV] at h h';have:=IN a b h h';rw[this,QF] at e;cases e
end
def PR(a:KT):a.lt a=false:=by
 cases h:a.lt a with
 | false=>rfl
 | true=>have:=Nz a a h;rw[h] at this;cases this
mutual
def lt_trans':∀(a b c:KT),a.lt b=true->b.lt c=true->a.lt c=true
 | .int i,.int j,.int k,h,h'=>by rw[KT.lt] at h h'⊢;have:=of_decide_eq_true h;have:=of_decide_eq_true h';exact aK ∅
 | .int _,_,.str _,_,_=>by rw[KT.lt]
 | .int _,_,.tup _,_,_=>by rw[KT.lt]
 | .str _,_,.tup _,_,_=>by rw[KT.lt]
 | .int _,.str _,.int _,_,h=>by rw[KT.lt] at h;cases h
 | .int _,.tup _,.int _,_,h=>by rw[KT.lt] at h;cases h
 | .str _,.int _,_,h,_=>by rw[KT.lt] at h;cases h
 | .str x,.str y,.str z,h,h'=>by rw[KT.lt] at h h'⊢;exact aK (GI _ _ _ (of_decide_eq_true h) (of_decide_eq_true h'))
 | .str _,.str _,.int _,_,h=>by rw[KT.lt] at h;cases h
 | .str _,.tup _,.str _,_,h=>by rw[KT.lt] at h;cases h
 | .str _,.tup _,.int _,_,h=>by rw[KT.lt] at h;cases h
 | .tup _,.int _,_,h,_=>by rw[KT.lt] at h;cases h
 | .tup _,.str _,_,h,_=>by rw[KT.lt] at h;cases h
 | .tup l,.tup m,.tup k,h,h'=>by rw[KT.lt] at h h'⊢;exact ltL_trans l m k h h'
 | .tup _,.tup _,.int _,_,h=>by rw[KT.lt] at h;cases h
 | .tup _,.tup _,.str _,_,h=>by rw[KT.lt] at h;cases h
def ltL_trans:∀(l m k:jp),ltL l m=true->ltL m k=true->ltL l k=true
 | _,[],[],_,h=>by rw[ltL] at h;cases h
 | _,_::_,[],_,h=>by rw[ltL] at h;cases h
 | [],_,_::_,_,_=>by rw[ltL]
 | _::_,[],_::_,h,_=>by rw[ltL] at h;cases h
 | a::l,b::m,c::k,h,h'=>by
  rw[ltL] at h h'⊢
  cases e:a.eqb b with
  | true=>
   rw[e,aO rfl] at h;have ab:=Yn.mp e;subst ab
   cases e2:a.eqb c with
   | true=>rw[e2,aO rfl] at h';rw[aO rfl];exact ltL_trans l m k h h'
   | false=>rw[e2,aM zV] at h';rw[aM zV];exact h'
  | false=>
   rw[e,aM zV] at h
   cases e2:b.eqb c with
   | true=>
    have bc:=Yn.mp e2;subst bc;rw[e,aM zV];exact h
   | false=>
    rw[e2,aM zV] at h';have ac:=lt_trans' a b c h h'
    cases e3:a.eqb c with
    | true=>
     have:=Yn.mp e3;subst this;rw[PR] at ac;cases ac
    | false=>rw[aM zV];exact ac
end
def le_trans'{a b c:KT}(f:b.lt a=false)(d:c.lt b=false):c.lt a=false:=by
 cases h:c.lt a with
 | false=>rfl
 | true=>
  cases e:a.lt b with
  | true=>rw[lt_trans' c a b h e] at d;cases d
  | false=>rw[IN a b e f,d] at h;cases h
def ZLW{a b c:KT}(e:b.lt a=false)(d:b.lt c=true):a.lt c=true:=by
 cases h:a.lt c with
 | true=>rfl
 | false=>rw[le_trans' h e] at d;cases d
end Tw
namespace Tw
open PySem PySem.Spec L2 PyProof.Rows
mutual
def ZK(h:aE):KT->aj->Prop
 | .int i,v=>∃ t,v=.int i t
 | .str x,v=>∃ t,v=.str x t
 | .tup l,v=>∃(a:ak)(its:je),v=.ref a/\IsTup h a its.toArray/\jZ h l its
def jZ(h:aE):jp->je->Prop
 | [],vs=>vs=[]
 | t::l,vs=>∃ v r,vs=v::r/\ZK h t v/\jZ h l r
end
section
variable{kj:js}{σ:L2.St}{H:Hp}
mutual
def Vt(I:ZF X kj σ H s):∀(t:KT)(x:V)(v:aj),ZD H t x->ZQ x v->ZK s.heap t v
 | .int i,x,v,h,r=>by
  rw[ZD] at h;subst h;rw[ZK];exact r
 | .str y,x,v,h,r=>by
  rw[ZD] at h;subst h;rw[ZK];exact r
 | .tup l,x,v,h,r=>by
  rw[ZD] at h;obtain⟨a,vs,rfl,e,hk⟩:=h;obtain⟨its,rv,pl,_⟩:=I.tuple (Zh.of e);rw[ZK];exact⟨a,its,r,pl,kvals_of I l vs its hk rv⟩
def kvals_of(I:ZF X kj σ H s):∀(l:jp)(vs:jf)(us:je),jY H l vs->ZO vs us->jZ s.heap l us
 | [],vs,us,h,r=>by
  rw[jY] at h;subst h;rw[jZ];cases r;rfl
 | t::l,vs,us,h,r=>by
  rw[jY] at h;obtain⟨v,q,rfl,h1,h2⟩:=h
  cases r with
  | cons r1 r2=>
   rw[jZ];exact⟨_,_,rfl,Vt I t v _ h1 r1,kvals_of I l q _ h2 r2⟩
end
end
def B3{h:aE}{a:ak}{c b:je}(x:IsTup h a c.toArray)(y:IsTup h a b.toArray):c=b:=by
 obtain⟨o,e,_,n,d⟩:=x;obtain⟨j,g,_,i,f⟩:=y;rw[e] at g;cases g;rw[d] at f;injection f with d1 _;simpa using congrArg zEM d1
mutual
def ZK.inj{h:aE}:∀(a b:KT)(v:aj),ZK h a v->ZK h b v->a.eqb b=true
 | .int i,b,v,x,y=>by
  rw[ZK] at x;obtain⟨t,rfl⟩:=x
  cases b with
  | int j=>rw[ZK] at y;obtain⟨u,e⟩:=y;injection e with e _;rw[KT.eqb,e];exact beq_self_eq_true j
  | str z=>rw[ZK] at y;obtain⟨u,e⟩:=y;cases e
  | tup m=>rw[ZK] at y;obtain⟨_,_,e,_⟩:=y;cases e
 | .str w,b,v,x,y=>by
  rw[ZK] at x;obtain⟨t,rfl⟩:=x
  cases b with
  | int j=>rw[ZK] at y;obtain⟨u,e⟩:=y;cases e
  | str z=>rw[ZK] at y;obtain⟨u,e⟩:=y;injection e with e _;rw[KT.eqb,e];exact beq_self_eq_true z
  | tup m=>rw[ZK] at y;obtain⟨_,_,e,_⟩:=y;cases e
 | .tup l,b,v,x,y=>by
  rw[ZK] at x;obtain⟨p,its,rfl,px,kx⟩:=x
  cases b with
  | int j=>rw[ZK] at y;obtain⟨u,e⟩:=y;cases e
  | str z=>rw[ZK] at y;obtain⟨u,e⟩:=y;cases e
  | tup m=>
   rw[ZK] at y;obtain⟨q,its',e,py,ky⟩:=y;cases e;cases B3 px py;rw[KT.eqb];exact jZ.inj l m its kx ky
def jZ.inj{h:aE}:∀(l m:jp)(us:je),jZ h l us->jZ h m us->kc l m=true
 | [],m,us,x,y=>by
  rw[jZ] at x;subst x
  cases m with
  | nil=>rw[kc]
  | cons b m=>rw[jZ] at y;obtain⟨_,_,e,_⟩:=y;cases e
 | a::l,m,us,x,y=>by
  rw[jZ] at x;obtain⟨v,r,rfl,x1,x2⟩:=x
  cases m with
  | nil=>rw[jZ] at y;cases y
  | cons b m=>
   rw[jZ] at y;obtain⟨v',r',e,y1,y2⟩:=y;injection e with e1 e2;subst e1 e2;rw[kc,ZK.inj a b v x1 y1,jZ.inj l m r x2 y2];rfl
end
def jZ.length{h:aE}:∀{l:jp}{b:je},jZ h l b->l.length=b.length
 | [],b,x=>by rw[jZ] at x;subst x;rfl
 | a::l,b,x=>by
  rw[jZ] at x;obtain⟨v,r,rfl,_,c⟩:=x;rw[zJ,zJ,c.length]
def jZ.get{h:aE}:∀{l:jp}{b:je}{j:Nat}{u:aj},jZ h l b->b[j]? = some u->∃ t,l[j]? = some t/\ZK h t u
 | [],b,j,u,x,e=>by rw[jZ] at x;subst x;simp at e
 | a::l,b,0,u,x,e=>by
  rw[jZ] at x;obtain⟨v,r,rfl,f,_⟩:=x;simp at e;subst e;exact⟨a,rfl,f⟩
 | a::l,b,j+1,u,x,e=>by
  rw[jZ] at x;obtain⟨v,r,rfl,_,g⟩:=x;obtain⟨t,c,d⟩:=g.get (j:=j) (by simpa using e)
  exact⟨t,by simpa using c,d⟩
def Pr:∀{l:jp}{t:KT},t∈l->t.depth<=ke l
 | [],_,h=>by cases h
 | u::l,t,h=>by
  rw[ke];rcases zF.mp h with e | h
  ·subst e;lia
  ·have:=Pr h;lia
def O0:∀(l m:jp),((yX (min l.length m.length)).all (λj=>(l.getD j (.int 0)).eqb (m.getD j (.int 0)))&&l.length==m.length)=kc l m
 | [],[]=>by simp[kc]
 | [],_::_=>by simp[kc]
 | _::_,[]=>by simp[kc]
 | a::l,b::m=>by
  have c:=O0 l m;have e:min (a::l).length (b::m).length=min l.length m.length+1:=by simp only[zJ];lia
  rw[e,zEH,tY,uT,kc,<-c,Bool.and_assoc];simp[Function.comp_def]
def OV{s:al}:∀(n:Nat)(a b:KT)(A:ay)(v u:aj),a.depth<=n->ZK s.heap a v->ZK s.heap b u->A.units+a.depth<cLine->SeqAt.EqAt A s v u (a.eqb b)
 | n,.int i,b,A,v,u,_,x,y,o=>by
  rw[ZK] at x;obtain⟨t,rfl⟩:=x;have d:A.units<cLine:=∅
  cases b with
  | int j=>rw[ZK] at y;obtain⟨g,rfl⟩:=y;rw[KT.eqb];exact SeqAt.EqAt.int_int i t j g
  | str z=>rw[ZK] at y;obtain⟨g,rfl⟩:=y;rw[show (KT.int i).eqb (.str z)=false by simp[KT.eqb]];exact SeqAt.EqAt.int_str i t z g
  | tup m=>rw[ZK] at y;obtain⟨p,f,rfl,k,_⟩:=y;rw[show (KT.int i).eqb (.tup m)=false by simp[KT.eqb]];exact SeqAt.EqAt.int_tuple i t k d
 | n,.str w,b,A,v,u,_,x,y,o=>by
  rw[ZK] at x;obtain⟨t,rfl⟩:=x;have d:A.units<cLine:=∅
  cases b with
  | int j=>rw[ZK] at y;obtain⟨g,rfl⟩:=y;rw[show (KT.str w).eqb (.int j)=false by simp[KT.eqb]];exact SeqAt.EqAt.str_int w t j g
  | str z=>rw[ZK] at y;obtain⟨g,rfl⟩:=y;rw[KT.eqb];exact SeqAt.EqAt.str_str w t z g
  | tup m=>rw[ZK] at y;obtain⟨p,f,rfl,k,_⟩:=y;rw[show (KT.str w).eqb (.tup m)=false by simp[KT.eqb]];exact SeqAt.EqAt.str_tuple w t k d
 | 0,.tup l,b,A,v,u,C,x,y,o=>by
  rw[KT.depth] at C
  lia
 | n+1,.tup l,b,A,v,u,C,x,y,o=>by
  have U:=x;rw[ZK] at x;obtain⟨p,f,rfl,D,G⟩:=x;rw[KT.depth] at C o;have d:A.units<cLine:=∅
  cases b with
  | int j=>rw[ZK] at y;obtain⟨g,rfl⟩:=y;rw[show (KT.tup l).eqb (.int j)=false by simp[KT.eqb]];exact SeqAt.EqAt.tuple_int j g D d
  | str z=>rw[ZK] at y;obtain⟨g,rfl⟩:=y;rw[show (KT.tup l).eqb (.str z)=false by simp[KT.eqb]];exact SeqAt.EqAt.tuple_str z g D d
  | tup m=>
   have V:=y;rw[ZK] at y;obtain⟨q,c,rfl,k,H⟩:=y;by_cases h:p=q
   ·subst h;rw[ZK.inj _ _ _ U V];exact SeqAt.EqAt.same _
   ·have S:=G.length;have T:=H.length;have I:=SeqAt.RcAt.tuples (A:=A) (s:=s) (e:=λj=>(l.getD j (.int 0)).eqb (m.getD j (.int 0))) D k d (λj O P=>by
     have r:j<f.length:=by simpa using O
     have B:j<c.length:=by simpa using P
     obtain⟨E,F,Q⟩:=G.get (j:=j) (u:=f[j]) (by simp[r])
     obtain⟨J,K,R⟩:=H.get (j:=j) (u:=c[j]) (by simp[B])
     have W:=Pr (zK F);have M:l.getD j (.int 0)=E:=by rw[zT,F];rfl
     have N:m.getD j (.int 0)=J:=by rw[zT,K];rfl
     have:=OV n E J A.in1 f[j] c[j] ∅ Q R (by show A.units+1+E.depth<cLine;lia)
     show SeqAt.EqAt A.in1 s _ _ ((l.getD j (.int 0)).eqb (m.getD j (.int 0)));rw[M,N];simpa using this)
    have L:((yX (min f.toArray.size c.toArray.size)).all (λj=>(l.getD j (.int 0)).eqb (m.getD j (.int 0)))&&f.toArray.size==c.toArray.size)=(KT.tup l).eqb (.tup m):=by
     rw[zP,zP,<-S,<-T,KT.eqb];exact O0 l m
    rw[L] at I;exact .of_refs h I
def VR(o:Bool)(a b:KT):Bool:=bif o then !b.plt a else a.plt b
def Qs(o:Bool)(l m:jp):Bool:=bif o then !pltL m l else pltL l m
def ZL3{o:Bool}{a c:KT}{l m:jp}:Qs o (a::l) (c::m)=if a.eqb c=true then Qs o l m else VR o a c:=by
 unfold Qs VR;rw[pltL,pltL,eqb_comm' c a];cases o <;> cases a.eqb c <;> rfl
def BD{o:Bool}{l m:jp}{i j:Nat}(h:l=[]\/m=[])(e:l.length+j=m.length+i):Qs o l m=bif o then decide (i<=j) else decide (i<j):=by
 rcases h with rfl | rfl
 ·cases m <;> cases o <;> simp[Qs,pltL] at e⊢ <;> lia
 ·cases l <;> cases o <;> simp[Qs,pltL] at e⊢ <;> lia
def Mi(o:Bool)(A:ay)(s:al)(v u:aj)(b:Bool):Prop:=
 ∀(a:am)(w:ax)(E:ja)(Q:ja),Q (.bool b) s->aC (aB a w) A (richCompare (bif o then .LtE else .Lt) v u) Q E s
section
open PySem.SeqAt
open PySem.AutoSeq1 (wpAny_loadPart')
open PySem.MeetsSeq PySem.MeetsSeq2 PySem.MeetsSeq3
inductive F8(c:aE)(d:jp)(n m:Nat)(G:jp->jp->Prop)(rest:List (aj×aj)):Prop
 |mk(e f:je)(a b:jp):rest=e.zip f->jZ c a e->jZ c b f->(∀ x∈a,x∈d)->cmpL a b=true->a.length+m=b.length+n->G a b->F8 c d n m G rest
def ZD8(o:Bool)(l b:ak)(f e:ju)(n n2:Nat)(Z K:jA)(sl O:Array (jd))(D J:jp):
  Meets ((bif o then Builtin.«tuple.__le__» else Builtin.«tuple.__lt__») ⟨[.ref l,.ref b],[]⟩)
   (λA R s=>s.heap.get? l=some { cls:=.type "tuple",dict:=Z,data:=.seq f n,slots:=sl }/\s.heap.get? b=some { cls:=.type "tuple",dict:=K,data:=.seq e n2,slots:=O } /\
    jZ s.heap D f.toList/\jZ s.heap J e.toList/\cmpL D J=true /\
    (∀ x y v u,x∈D->ZK s.heap x v->ZK s.heap y u->EqAt A.in1 s v u (x.eqb y))/\(∀ x y v u,x∈D->ZK s.heap x v->ZK s.heap y u->x.cmp y=true->Mi o A.in1 s v u (VR o x y)) /\
    R (.ok (.ret (.bool (Qs o D J)))) s):=by
 have P:=@ZL3 o;have Q:=@BD o;generalize Qs o=F at P Q⊢;cases o
 all_goals
  dsimp only[cond_true,cond_false];refine .of_wp λC w A R s h=>?_;obtain⟨L,g,d,Y,X⟩:=s;obtain⟨hl,hb,S,T,hc,hE,hL,h⟩:=h;have f2:=AutoSeq1.sub_tuple_tuple;have z1:f.size=D.length:=by rw[S.length];simp
  have z2:e.size=J.length:=by rw[T.length];simp
  wp_walk using wpAny_loadPart' hl,wpAny_loadPart' hb,wpAny_forIn_list _ (λrest b N=>b.1=none/\N=⟨L,g,d,Y,X⟩/\F8 L D f.size e.size (λa b=>R (.ok (.ret (.bool (F a b)))) ⟨L,g,d,Y,X⟩) rest) _
  case turn=>
   rintro⟨y,x⟩ rest b N ⟨E,rfl,vs,ws,q,r,p,i,j,t,k,m,B⟩
   cases q with
   | nil=>rw[jZ] at i;subst i;rw[List.zip_nil_left] at p;cases p
   | cons a q=>
    cases r with
    | nil=>rw[jZ] at j;subst j;rw[List.zip_nil_right] at p;cases p
    | cons c r=>
     rw[jZ] at i j;obtain⟨v,vr,rfl,V,H⟩:=i;obtain⟨u,ur,rfl,W,I⟩:=j;rw[List.zip_cons_cons] at p;injection p with hyx hrest;injection hyx with hy M;subst hy M;rw[P] at B;rw[cmpL] at k;simp only[zJ] at m;have he:=hE a c y x (t a zC) V W;refine aa (he C w _ _ ?_)
     cases U:a.eqb c with
     | true=>
      rw[U,aO rfl] at B k
      wp_walk
      exact⟨rfl,rfl,_,_,_,_,hrest,H,I,λz p=>t z (zI _ p),k,∅,B⟩
     | false=>
      rw[U,aM zV] at B k;have G:=hL a c y x (t a zC) V W k C w;dsimp only[cond_true,cond_false] at G
      wp_walk using G
      exact⟨_,rfl,by simpa using B⟩
  case fin=>
   rintro⟨b1,b2⟩ N ⟨E,rfl,vs,ws,q,r,p,i,j,t,k,m,B⟩;simp only at E;subst E;rw[Q (by
    cases q with
    | nil=>exact .inl rfl
    | cons a q=>
     cases r with
     | nil=>exact .inr rfl
     | cons c r=>
      rw[jZ] at i j;obtain⟨v,vr,rfl,_,_⟩:=i;obtain⟨u,ur,rfl,_,_⟩:=j;rw[List.zip_cons_cons] at p;cases p) m] at B
   wp_walk
   exact⟨_,rfl,by simpa [Builtin.Tuple.tupleCompareSizes] using B⟩
  case h=>
   exact⟨rfl,rfl,f.toList,e.toList,D,J,rfl,S,T,λ_ M=>M,hc,∅,h⟩
end
def Jr(o:Bool){s:al}:∀(n:Nat)(a b:KT)(A:ay)(v u:aj),a.depth<=n->ZK s.heap a v->ZK s.heap b u->a.cmp b=true->A.units+a.depth<cLine->Mi o A s v u (VR o a b)
 | n,.int i,b,A,v,u,_,x,y,d,H=>by
  rw[ZK] at x;obtain⟨t,rfl⟩:=x
  cases b with
  | int j=>
   rw[ZK] at y;obtain⟨D,rfl⟩:=y;unfold VR;rw[KT.plt,KT.plt];intro c w E Q h;cases o
   ·exact HT.rcLt_int A s i t j D c w E Q h
   ·exact(le_int (by rw[show decide (i<=j) = !decide (j<i) by by_cases z:j<i <;> simp[z] <;> lia];exact h):aC (aB c w) A (aA .LtE (.int i t) (.int j D)) Q E s)
  | str z=>simp[KT.cmp] at d
  | tup m=>simp[KT.cmp] at d
 | n,.str w,b,A,v,u,_,x,y,d,H=>by
  rw[ZK] at x;obtain⟨t,rfl⟩:=x
  cases b with
  | int j=>simp[KT.cmp] at d
  | str z=>
   rw[ZK] at y;obtain⟨D,rfl⟩:=y;unfold VR;rw[KT.plt,KT.plt];intro c w' E Q h;cases o
   ·exact(lt_str h:aC (aB c w') A (aA .Lt (.str w t) (.str z D)) Q E s)
   ·exact(PySem.P.le_str h:aC (aB c w') A (aA .LtE (.str w t) (.str z D)) Q E s)
  | tup m=>simp[KT.cmp] at d
 | 0,.tup l,b,A,v,u,K,x,y,d,H=>by
  rw[KT.depth] at K
  lia
 | n+1,.tup l,b,A,v,u,K,x,y,d,H=>by
  rw[ZK] at x;obtain⟨p,M,rfl,px,Z⟩:=x;rw[KT.depth] at K H;have B:A.units<cLine:=∅
  cases b with
  | int j=>simp[KT.cmp] at d
  | str z=>simp[KT.cmp] at d
  | tup m=>
   rw[ZK] at y;obtain⟨q,C,rfl,py,ky⟩:=y;rw[KT.cmp] at d;have e:VR o (.tup l) (.tup m)=Qs o l m:=by
    unfold VR Qs;rw[KT.plt,KT.plt]
   rw[e];intro c w E Q h;obtain⟨⟨cls,dd,data,sl⟩,G,k,R,Y⟩:=id px;obtain⟨⟨V,J,I,U⟩,f,g,S,r⟩:=id py;simp only at k Y g r;subst k Y g r;have W:∀ x y v u,x∈l->ZK s.heap x v->ZK s.heap y u->SeqAt.EqAt A.in1 s v u (x.eqb y):=λx y v u L N O=>by
    have d1:=Pr L;exact OV x.depth x y A.in1 v u (zY _) N O (by show A.units+1+x.depth<cLine;lia)
   have X:∀ x y v u,x∈l->ZK s.heap x v->ZK s.heap y u->x.cmp y=true->Mi o A.in1 s v u (VR o x y):=λx y v u L N O k3=>by
    have d1:=Pr L;exact Jr o n x y A.in1 v u ∅ N O k3 (by show A.units+1+x.depth<cLine;lia)
   have T:=ZD8 o p q M.toArray C.toArray R S dd J sl U l m;cases o
   ·exact richCompare_meets_room (op:=.Lt) ⟨_,G,rfl⟩ ⟨_,f,rfl⟩ PySem.F.slot_tuple_lt PySem.F.entry_tuple_lt (PySem.F.args_tuple_lt_2 _ _) T ⟨G,f,Z,ky,d,W,X,(λx=>nomatch x),h⟩ B
   ·exact richCompare_meets_room (op:=.LtE) ⟨_,G,rfl⟩ ⟨_,f,rfl⟩ PySem.F.slot_tuple_le PySem.F.entry_tuple_le (PySem.F.args_tuple_le_2 _ _) T ⟨G,f,Z,ky,d,W,X,(λx=>nomatch x),h⟩ B
def De{s:al}(n:Nat)(a b:KT)(A:ay)(v u:aj):a.depth<=n->ZK s.heap a v->ZK s.heap b u->a.cmp b=true->A.units+a.depth<cLine->Mi false A s v u (a.plt b):=Jr false n a b A v u
def ZT.key{k:Nat}{A:ay}(r:ZT k A){n:Nat}(h:n<=200):A.units+n<cLine:=by have:=r.un;lia
inductive HW(x y:V)(H:Hp)(Q:VK):Prop
 |mk(a b:_)(_:ZD H a x)(_:ZD H b y)(_:a.cmp b=true)(_:a.depth<=200)(_:Q (.bl (a.plt b)) H)
def ZPW{k:Nat}(i:ZT k X.A):Yd X (aA .Lt) HW:=by
 intro c s m H x y v u Q I j l h;obtain⟨a,b,d,e,f,g,q⟩:=h;exact De a.depth a b X.A v u (zY _) (Vt I a x v d j) (Vt I b y u e l) f (ZT.key i g) X.prog X.w X.xe _ ⟨.bl _,H,I,rfl,q⟩
mutual
def X6(w:ax):KT->Int
 | .int i=>hashInt i
 | .str x=>FH w (.inr x)
 | .tup l=>reduceHash (Builtin.Tuple.tupleHashOf (hashL w l))
def hashL(w:ax):jp->jt
 | []=>[]
 | t::l=>X6 w t::hashL w l
end
def EW(w:ax):∀(l m:jp),hashL w (l++m)=hashL w l++hashL w m
 | [],m=>by rw[hashL];rfl
 | t::l,m=>by rw[uL,hashL,hashL,EW w l m];rfl
def JN:∀(n:Nat)(t:KT){A:ay}{E:ja}{s:al}{v:aj}{Q:Int->al->Prop},t.depth<=n->ZK s.heap t v->A.units+t.depth<cLine->(∀ d,s.toks<=d->Q (X6 w t) { s with toks:=d })->aC (aB prog w) A (pyHash v) Q E s
 | n,.int i,A,E,s,v,Q,_,x,B,q=>by
  rw[ZK] at x;obtain⟨t,rfl⟩:=x;rw[X6] at q;exact wpAny_pyHash_int (q _ (wG _))
 | n,.str i,A,E,s,v,Q,_,x,B,q=>by
  rw[ZK] at x;obtain⟨t,rfl⟩:=x;rw[X6] at q;exact wpAny_pyHash_str (q _ (wG _))
 | 0,.tup l,A,E,s,v,Q,D,x,B,q=>by rw[KT.depth] at D;lia
 | n+1,.tup l,A,E,s,v,Q,D,x,B,q=>by
  rw[KT.depth] at D B;rw[ZK] at x;obtain⟨a,N,rfl,I,R⟩:=x;have z:=I.typeIs;obtain⟨o,M,S,nn,K⟩:=I;unfold pyHash
  first | unfold pyHashByItsType | skip
  first | refine aa (wpAny_cRoomFor_or (.inr ∅) ?_) | skip
  refine aa (wpAny_specialOf z sP.lookup ?_);show aC _ _ (if (some (Value.builtin "tuple.__hash__")==some Value.none)=true then _ else _) Q E s
  rw[aM (by rw[beq_builtin_none];exact zV)]
  refine aa (wpAny_specialOf z sP.lookup ?_);show aC _ _ (callSpecialIfBoundUnlessNone? (.ref a) "__hash__" _ >>= _) Q E s;refine aa (wpAny_callSpecialIfBoundUnlessNone?_slot z sP (wpAny_call_entry sP z PySem.F.entry_tuple_hash ?_ (PySem.F.args_tuple_hash_1 _)));show aC _ _ (Builtin.Tuple.tupleItemsOf (.ref a) >>= _) _ _ s;refine aa (wpAny_tupleItemsOf M K (aa ?_));rw[<-rH];refine wpAny_forIn_list _ (λrest (b:Array Int) H=>∃ h c d,l=h++c/\jZ s.heap c rest/\b.toList=hashL w h/\H={ s with toks:=d }/\s.toks<=d) _ ?_ ?_ _ _ ⟨[],l,s.toks,rfl,R,by rw[hashL],rfl,zY _⟩
  ·rintro x rest b H ⟨h,c,d,k,f,C,rfl,p⟩
   cases c with
   | nil=>rw[jZ] at f;cases f
   | cons t c=>
    rw[jZ] at f;obtain⟨U,T,e,O,P⟩:=f;injection e with e1 e2;subst e1 e2;have L:t.depth<=ke l:=by rw[k];exact Pr (by simp)
    refine aa (JN n t (s:={ s with toks:=d }) ∅ O (by show A.units+1+_<_;lia) λy J=>?_)
    have m:∃ j r u,l=j++r/\jZ s.heap r rest/\(b.push (X6 w t)).toList=hashL w j/\({ s with toks:=y }:al)={ s with toks:=u }/\s.toks<=u:=
     ⟨h++[t],c,y,by rw[k];simp,P,by rw[vP,C,EW,hashL,hashL],rfl,zS p J⟩
    first | exact ad m | exact aa (ad (ad m))
  ·rintro b H ⟨h,c,d,k,f,C,rfl,p⟩
   cases c with
   | cons t c=>rw[jZ] at f;obtain⟨_,_,e,_⟩:=f;cases e
   | nil=>
    rw[yS] at k;subst k;show aC _ _ (retInt (Builtin.Tuple.tupleHashOf b.toList)) _ _ _;rw[C];refine wpAny_ret_mkInt ?_;show aC _ _ (if (decide (-(2:Int) ^ 63<=Builtin.Tuple.tupleHashOf (hashL w l))&&decide (Builtin.Tuple.tupleHashOf (hashL w l)<2 ^ 63))=true then _ else _) Q E _
    have g:=q (d+1) ∅
    rw[X6] at g;unfold reduceHash at g;split
    ·rename_i G
     rw[aO G] at g;exact ad g
    ·rename_i G
     rw[aM G] at g;exact aa (ai (ad g))
def KS:∀(n:Nat)(t:KT){A:ay}{E:ja}{s:al}{v:aj}{Q:Bool->al->Prop},t.depth<=n->ZK s.heap t v->Q true s->aC (aB prog w) A (eqIsQuiet n v) Q E s
 | n,.int i,A,E,s,v,Q,_,x,q=>by
  rw[ZK] at x;obtain⟨t,rfl⟩:=x;rw[eqIsQuiet_byValue n rfl];exact ad q
 | n,.str i,A,E,s,v,Q,_,x,q=>by
  rw[ZK] at x;obtain⟨t,rfl⟩:=x;rw[eqIsQuiet_byValue n rfl];exact ad q
 | 0,.tup l,A,E,s,v,Q,f,x,q=>by rw[KT.depth] at f;lia
 | n+1,.tup l,A,E,s,v,Q,f,x,q=>by
  rw[KT.depth] at f;rw[ZK] at x;obtain⟨a,h,rfl,m,B⟩:=x;have k:=m.typeIs;obtain⟨o,u,C,nn,p⟩:=m;unfold eqIsQuiet;refine aa (wpAny_specialOf k PySem.F.slot_tuple_eq.lookup ?_);show aC _ _ (isInstance (.ref a) (.type "tuple") >>= _) _ _ s;refine aa (wpAny_isInstance k isSubtype_tuple_tuple ?_);simp only[tI,wU,if_false];refine aa (wpAny_seqItems u p (aa ?_));show aC _ _ (forIn h.toArray _ _) _ _ s;rw[<-rH];refine wpAny_forIn_list _ (λrest r j=>r.1=none/\j=s/\∃ b,jZ s.heap b rest/\ke b<=n) _ ?_ ?_ _ _ ⟨rfl,rfl,l,B,∅⟩
  ·rintro x rest r j ⟨g,rfl,b,c,d⟩
   cases b with
   | nil=>rw[jZ] at c;cases c
   | cons t b=>
    rw[jZ] at c;obtain⟨I,D,e,y,z⟩:=c;injection e with e1 e2;subst e1 e2;rw[ke] at d;refine aa (KS n t ∅ y ?_)
    simp only[tI,wU,if_false];exact ad ⟨rfl,rfl,b,z,∅⟩
  ·rintro⟨G,H⟩ j ⟨g,rfl,_⟩;dsimp only at g;subst g;exact ad q
structure NQ(w:ax)(h:aE)(ks:jp)(es:Array DictEntry):Prop where
 len:es.size=ks.length
 ent:∀(i:Nat)(e:DictEntry),es[i]? = some e->∃ t,ks[i]? = some t/\e.hash=X6 w t/\ZK h t e.key/\t.depth<=3
 nd:ks.Nodup
def NQ.uniq{h:aE}{b:jp}{d:Array DictEntry}(x:NQ w h b d){i j:Nat}{t:KT}(c:b[i]? = some t)(e:b[j]? = some t):i=j:=by
 obtain⟨a,f⟩:=yT.mp c;exact(rP a x.nd).mp (c.trans e.symm)
def NQ.get{h:aE}{f:jp}{b:Array DictEntry}(x:NQ w h f b){j:Nat}{t:KT}(d:f[j]? = some t):∃ e,b[j]? = some e/\e.hash=X6 w t/\ZK h t e.key/\t.depth<=3:=by
 obtain⟨a,_⟩:=yT.mp d;have l:j<b.size:=by have:=x.len;lia
 have e:b[j]? = some b[j]:=xV l;obtain⟨m,c,g,i,k⟩:=x.ent j _ e;rw[d] at c;cases c;exact⟨_,e,g,i,k⟩
def Ih{v:aj}{a:je}{Q:Bool->al->Prop}(i:∃ t,ZK s.heap t v/\t.depth<=8)(f:∀ u∈a,∃ t,ZK s.heap t u/\t.depth<=8)(h:Q false s):aC (aB prog w) A (tableMayTell v a) Q E s:=by
 unfold tableMayTell;refine wpAny_ite_split (λ_=>ad h) (λ_=>?_);obtain⟨t,kv,e⟩:=i;refine aa (KS 8 t e kv ?_);simp only[tI,wU,if_false];refine aa ?_;refine wpAny_forIn_list _ (λrest r c=>c=s/\r=(none,())/\∀ u∈rest,u∈a) _ ?_ ?_ _ _ ⟨rfl,rfl,λ_ z=>z⟩
 ·rintro u rest r c ⟨rfl,rfl,d⟩;obtain⟨j,VR,b⟩:=f u (d u (zC ..));refine aa (KS 8 j b VR ?_);simp only[tI,wU,if_false];exact ad ⟨rfl,rfl,λu g=>d u (zI _ g)⟩
 ·rintro r c ⟨rfl,rfl,_⟩;exact ad h
def ZOC{d:ak}{o:aI}{c:Array DictEntry}{ep:Nat}{X:jp}{t:KT}{v:aj}{Q:jq->al->Prop}(M:ZK s.heap t v)(dt:t.depth<=3)(hu:A.units+3<cLine)(U:s.heap.get? d=some o)(T:o.data=.dict c ep)(x:NQ w s.heap X c)(a1:t∉X->Q none s)(F:∀ j,X[j]? = some t->Q (some j) s):aC (aB prog w) A (dictFind d v (X6 w t)) Q E s:=by
 have N:∀ j,X[j]? = some t->j∈placesWithHash c.size (λi=>c[i]?.map (·.hash)) (X6 w t):=λj k=>by
  obtain⟨e,n,B,_⟩:=x.get k;obtain⟨lt,_⟩:=vV.mp n;unfold placesWithHash;rw[wB,xY];exact⟨lt,by show (Option.map _ c[j]? == _)=true;rw[n,wA,B];simp⟩
 have G:∀ i,i∈placesWithHash c.size (λi=>c[i]?.map (·.hash)) (X6 w t)->∃ e u,c[i]? = some e/\e.hash=X6 w t/\X[i]? = some u/\ZK s.heap u e.key/\u.depth<=3:=λi K=>by
  unfold placesWithHash at K;rw[wB,xY] at K;have n:c[i]? = some c[i]:=xV K.1;obtain⟨u,B,_,C,D⟩:=x.ent i _ n;have:(Option.map (·.hash) c[i]? == some (X6 w t))=true:=K.2;rw[n,wA] at this;exact⟨_,u,n,by simpa using this,B,C,D⟩
 have a4:(placesWithHash c.size (λi=>c[i]?.map (·.hash)) (X6 w t)).Nodup:=by
  unfold placesWithHash;exact List.nodup_range.filter _
 have p:∀(u:KT)(e:DictEntry),ZK s.heap u e.key->u.depth<=3->SeqAt.EqAt A s e.key v (u.eqb t):=λu e k1 d1=>OV u.depth u t A e.key v (zY _) k1 M ∅
 have m:∀ u∈(placesWithHash c.size (λi=>c[i]?.map (·.hash)) (X6 w t)).filterMap (λi=>c[i]?.map (·.key)),∃ t,ZK s.heap t u/\t.depth<=8:=λu hu=>by
  obtain⟨i,K,e⟩:=sV.mp hu;obtain⟨en,z,n,_,_,C,D⟩:=G i K;rw[n,wA] at e;cases e;exact⟨z,C,∅⟩
 unfold dictFind
 try with_reducible refine af ?_
 refine aa (wpAny_dictEntries U T ?_);generalize hP:placesWithHash c.size (λi=>c[i]?.map (·.hash)) (X6 w t)=pl at N G a4 m;have O:aC (aB prog w) A (dictWalkPlain d v (X6 w t) c pl) Q E s:=by
  unfold dictWalkPlain;refine aa ?_;refine wpAny_forIn_list _ (λrest b s'=>s'=s/\b=(none,())/\(∀ i∈rest,i∈pl)/\∀ i∈pl,i∈rest\/X[i]? ≠ some t) _ ?_ ?_ _ _ ⟨rfl,rfl,λ_ z=>z,λ_ z=>.inl z⟩
  ·rintro i rest b s' ⟨rfl,rfl,h1,H⟩;obtain⟨e,u,n,B,J,C,D⟩:=G i (h1 i (zC ..));rw[n];dsimp only;rw[B,aO (by simp)]
   refine aa (wpAny_dictEpoch U T (aa (p u e C D prog w _ _ (aa (wpAny_dictEpoch U T ?_)))));rw[aM (by simp)]
   cases I:u.eqb t with
   | true=>
    have:u=t:=QZ u t I;subst this;rw[aO rfl];exact aa (ai (ad (ad (F i J))))
   | false=>
    rw[aM zV];refine aa (ai (ad ⟨rfl,rfl,λj k=>h1 j (zI _ k),λj k=>?_⟩));rcases H j k with z | z
    ·rcases zF.mp z with z | z
     ·subst z;refine .inr λz=>?_;rw[J] at z;cases z;rw[QF] at I;cases I
     ·exact .inl z
    ·exact .inr z
  ·rintro b s' ⟨rfl,rfl,_,H⟩;refine ad (a1 λz=>?_);obtain⟨j,k⟩:=vL.mp z;rcases H j (N j k) with q | q
   ·cases q
   ·exact q k
 have L:∀(f:Nat->Option (jq)×jq->Sem (ForInStep (Option (jq)×jq)))(g:Option (jq)×jq->Sem (jq)),(∀ r,g (some r,none)=pure r)->(∀ h,g (none,h)=pure h) ->
   (∀ i u e (R:ForInStep (Option (jq)×jq)->al->Prop),c[i]? = some e->e.hash=X6 w t->ZK s.heap u e.key->u.depth<=3->u=t->R (.done (some (some i),none)) s->R (.yield (none,some i)) s->aC (aB prog w) A (f i (none,none)) R E s) ->
   (∀ i u e a0 (R:ForInStep (Option (jq)×jq)->al->Prop),c[i]? = some e->e.hash=X6 w t->ZK s.heap u e.key->u.depth<=3->u≠t->R (.yield (none,a0)) s->aC (aB prog w) A (f i (none,a0)) R E s) ->
   aC (aB prog w) A (forIn pl (none,none) f >>= g) Q E s:=λf g g1 g2 f1 f2=>by
  refine aa ?_;refine wpAny_forIn_list _ (λrest b s'=>s'=s/\rest.Nodup/\(∀ i∈rest,i∈pl)/\((b=(none,none)/\∀ i∈pl,i∈rest\/X[i]? ≠ some t)\/∃ j,b=(none,some j)/\X[j]? = some t/\j∉rest)) _ ?_ ?_ _ _ ⟨rfl,a4,λ_ z=>z,.inl ⟨rfl,λ_ z=>.inl z⟩⟩
  ·rintro i rest b s' ⟨rfl,nd,h1,H⟩;obtain⟨e,u,n,B,J,C,D⟩:=G i (h1 i (zC ..));have V:=xJ.mp nd;have Z:∀ j∈rest,j∈pl:=λj k=>h1 j (zI _ k);by_cases I:u=t
   ·have S:=J;rw[I] at S;rcases H with ⟨rfl,H⟩ | ⟨j,rfl,k,hn⟩
    ·refine f1 i u e _ n B C D I ?_ ?_
     ·show aC _ _ (g (some (some i),none)) _ _ _;rw[g1];exact ad (F i S)
     ·exact⟨rfl,V.2,Z,.inr ⟨i,rfl,S,V.1⟩⟩
    ·have:i=j:=x.uniq S k;exact absurd (this ▸ zC ..) hn
   ·rcases H with ⟨rfl,H⟩ | ⟨j,rfl,k,hn⟩
    ·refine f2 i u e none _ n B C D I ⟨rfl,V.2,Z,.inl ⟨rfl,λj k=>?_⟩⟩;rcases H j k with z | z
     ·rcases zF.mp z with z | z
      ·subst z;exact .inr λz=>I (by rw[J] at z;exact zG.inj z)
      ·exact .inl z
     ·exact .inr z
    ·exact f2 i u e (some j) _ n B C D I ⟨rfl,V.2,Z,.inr ⟨j,rfl,k,λz=>hn (zI _ z)⟩⟩
  ·rintro b s' ⟨rfl,_,_,H⟩;rcases H with ⟨rfl,H⟩ | ⟨j,rfl,k,hn⟩
   ·rw[g2];refine ad (a1 λz=>?_);obtain⟨j,k⟩:=vL.mp z;rcases H j (N j k) with q | q
    ·cases q
    ·exact q k
   ·rw[g2];exact ad (F j k)
 have vs:(∃ a,v=.ref a)\/(∃ i P,v=.int i P)\/∃ y P,v=.str y P/\t=.str y:=by
  cases t with
  | int i=>rw[ZK] at M;obtain⟨P,e⟩:=M;exact .inr (.inl ⟨i,P,e⟩)
  | str y=>rw[ZK] at M;obtain⟨P,e⟩:=M;exact .inr (.inr ⟨y,P,e,rfl⟩)
  | tup l=>rw[ZK] at M;obtain⟨a,_,e,_⟩:=M;exact .inl ⟨a,e⟩
 rcases vs with ⟨a,rfl⟩ | ⟨i,P,rfl⟩ | ⟨y,P,rfl,ht⟩
 case' inl=>
  dsimp only;rw[aM (by simp[carriedByValue])]
  have a2:¬ (c.any λe=>e.key==Value.ref a&&e.hash != X6 w t)=true:=by
   rw[<-Array.any_toList,uM];rintro⟨e,a5,hc⟩;obtain⟨j,k⟩:=vL.mp a5;rw[yY] at k;obtain⟨u,_,B,J,_⟩:=x.ent j e k;rw[zR] at hc;rw[eq_of_beq hc.1] at J;have:u=t:=QZ _ _ (ZK.inj _ _ _ J M);rw[B,this] at hc;simp at hc
  rw[aM a2];refine wpAny_ite_split (λ_=>aa (ad ?_)) (λ_=>aa (Ih ⟨t,M,∅⟩ m ?_))
 case' inr.inl=>
  dsimp only;refine wpAny_ite_split (λ_=>O) (λ_=>?_);refine wpAny_ite_split (λ_=>aa (ad ?_)) (λ_=>aa (Ih ⟨t,M,∅⟩ m ?_))
 case' inr.inr=>
  have Y:aC (aB prog w) A (foundByValue d (.str y P) c y) Q E s:=by
   unfold foundByValue
   cases hf:c.findIdx? (λe=>e.key.isStr y) with
   | none=>
    refine ad (a1 λz=>?_);obtain⟨j,k⟩:=vL.mp z;obtain⟨e,n,B,J,_⟩:=x.get k;have:=Array.findIdx?_eq_none_iff.mp hf e (Array.mem_of_getElem? n);rw[ht,ZK] at J;obtain⟨W,ek⟩:=J;rw[ek] at this;simp[Value.isStr] at this
   | some i=>
    obtain⟨a6,K,_⟩:=Array.findIdx?_eq_some_iff_getElem.mp hf;have n:c[i]? = some c[i]:=xV a6;obtain⟨u,B,J,C,D⟩:=x.ent i _ n;have a3:u=t:=by
     have hs:∃ W,c[i].key=.str y W:=by
      cases q:c[i].key with
      | str z tz=>rw[q] at K;simp[Value.isStr] at K;exact⟨tz,by rw[K]⟩
      | _=>rw[q] at K;simp[Value.isStr] at K
     obtain⟨W,ek⟩:=hs;have hk:ZK s.heap (.str y) c[i].key:=by rw[ZK];exact⟨W,ek⟩
     rw[ht];exact QZ _ _ (ZK.inj _ _ _ C hk)
    dsimp only;rw[n];dsimp only;refine aa (wpAny_dictEpoch U T (aa (p u _ C D prog w _ _ (aa (wpAny_dictEpoch U T ?_)))));rw[aM (by simp),a3,QF,aO rfl]
    exact aa (ai (ad (F i (by rw[B,a3]))))
  dsimp only;refine wpAny_ite_split (λ_=>Y) (λ_=>?_);refine wpAny_ite_split (λ_=>O) (λ_=>?_);refine wpAny_ite_split (λ_=>aa (ad ?_)) (λ_=>aa (Ih ⟨t,M,∅⟩ m ?_))
 all_goals
  rw[aM (by simp)]
  refine L _ _ (λr=>rfl) (λh=>rfl) (λi u e R n B C D I r1 r2=>?_) (λi u e a0 R n B C D I r1=>?_)
  ·rw[n];dsimp only;rw[B,aO (by simp)]
   refine aa (wpAny_dictEpoch U T (aa (p u e C D prog w _ _ (aa (wpAny_dictEpoch U T ?_)))));rw[aM (by simp),I,QF,aO rfl]
   simp only[Option.isSome_none,wU,if_false];refine aa (ai (wpAny_ite_split (λ_=>ad r1) (λ_=>ad r2)))
  ·rw[n];dsimp only;rw[B,aO (by simp)]
   refine aa (wpAny_dictEpoch U T (aa (p u e C D prog w _ _ (aa (wpAny_dictEpoch U T ?_)))));have hf:u.eqb t=false:=by
    cases q:u.eqb t with
    | false=>rfl
    | true=>exact absurd (QZ _ _ q) I
   rw[aM (by simp),hf,aM zV]
   refine aa (ai ?_);rw[aM (by simp)]
   exact ad r1
end Tw
namespace L2
open PySem PySem.Spec PyProof.Rows
def Ze.there{P:am}{w:ax}{H:Hp}{h:aE}{a:ak}:∀{o:HO},Ze P w H h a o->∃ b,h.get? a=some b:=by
 intro o x
 induction o with
 | lst l=>obtain⟨z,j,n,r,e⟩:=x;exact⟨_,e⟩
 | tup l=>obtain⟨z,j,r,b,e,c⟩:=x;exact⟨_,e⟩
 | dK k=>obtain⟨z,y,G,r,b,i,g,e,c⟩:=x;exact⟨_,e⟩
 | dT k=>obtain⟨z,y,l,r,b,i,g,e,c⟩:=x;exact⟨_,e⟩
 | set S n=>obtain⟨b,i,g,t,e,c⟩:=x;exact⟨_,e⟩
 | ins C p m=>obtain⟨d,z,D,e,_⟩:=x;exact⟨_,e⟩
 | own y=>exact x
 | xd m=>obtain⟨B,⟨E,i,g,e,c⟩,r⟩:=x;exact⟨_,e⟩
 | rng A q=>obtain⟨t,u,v,e⟩:=x;exact⟨_,e⟩
 | frz b u s=>exact⟨_,x.1⟩
 | tbl F=>exact⟨_,x⟩
 | met f y=>exact⟨_,x⟩
 | ext I=>exact x.2.1
def Yv.there{P:am}{w:ax}{H:Hp}{h:aE}{a:ak}(x:Yv P w H h)(n:H a≠none):∃ b,h.get? a=some b:=by
 cases e:H a with
 | none=>exact absurd e n
 | some o=>exact Ze.there (x a o e)
def Yv.keptT{P:am}{w:ax}{H:Hp}{h d:aE}(x:Yv P w H h)(k:∀ b u,h.get? b=some u->H b≠none->d.get? b=some u):Yv P w H d:=λa o e=>
 (x a o e).stay (λb u c q=>k b u q (by
  rcases c with rfl | c
  ·rw[e];exact λz=>nomatch z
  ·rw[c];exact λz=>nomatch z)) (λ_ q=>q) λ_ _ q=>q
section
variable{kj:js}{σ:St}{H H':Hp}{s':al}{E:XK}
def ZF.noloc(I:ZF X kj σ H s):X.s₀.heap.get? X.env.locals=none:=uA I.ok.above
def JK(I:ZF X kj σ H s):∀ b∈frs X.stack,∀ o,s.heap.get? b=some o->∀ a,o.data≠.fields a:=λb c o q a z=>by
 obtain⟨_,f,e,d⟩:=I.stack.mem c;rw[q] at e;cases e;exact d a z
end
end L2
namespace L2
open PySem PySem.Spec PySem.W PyProof.Rows
def WD(x C:ak)(h:aE):Prop:=∃ o,h.get? x=some o/\o.cls=.ref C
def WD.ty{x C:ak}{h:aE}(I:WD x C h)(M:Model):Looks M h (typeOf (.ref x)) (.ref C):=by
 obtain⟨o,e,c⟩:=I;rw[<-c];exact Looks.andThen (Looks.ld e) Looks.now
structure WM(K:Frag)(C:ak):Prop where
 ga:findIn K (.ref C) "__getattribute__" = some (some (.builtin "BaseException.__getattribute__"))
 hk:findIn K (.ref C) "__getattr__" = some none
 mB:mroIn K C (.type "BaseException")=some true
 mO:mroIn K C (.type "object")=some true
 ca:findIn K (.ref C) "__class__" = some (some (.builtin "object.__class__"))
 hn:specialIn K (.builtin "object.__class__") "__get__" = some (some (.builtin "getset_descriptor.__get__"))
 tk:takesIn K (.builtin "object.__class__")=some true
section
variable{K:Frag}{x C:ak}
def A8{a:aj}{Q:Unit->al->Prop}(X:K.In s.heap)(I:WD x C s.heap)(b:mroIn K C (.type "BaseException")=some true)(c:Q () s):
  aC (aB prog w) A (checkBuiltinCall "BaseException.__getattribute__" ⟨[.ref x,a],[]⟩) Q E s:=by
 obtain⟨h,g,d,t,l⟩:=s;have e:builtinKind "BaseException.__getattribute__" = some .slot:=by decide +kernel
 have f:splitId "BaseException.__getattribute__" = some ("BaseException","__getattribute__"):=by decide +kernel
 have i:=I.ty (aB prog w);have j:=looks_mroIn (M:=aB prog w) X b;have k:=F.args_bexc_ga (.ref x) a;simp only[checkBuiltinCall,e,f];refine aa ?_;unfold isInstance
 repeat lk
 exact c
def C1{b:Str}{i:Tok}{r:Builtin.ObjectAttr.Found}{Q:Fin->al->Prop}(X:K.In s.heap)(I:WD x C s.heap)(e:Looks (aB prog w) s.heap (Builtin.ObjectAttr.find (.ref x) (.ref C) b) r)(h:match r with
   | .value v=>Q (.done (.ret v)) s
   | .bind g a=>aC (aB prog w) A (call g [a,.ref x,.ref C]) (λv c=>Q (.done (.ret v)) c) E s
   | .missing=>False):aC (aB prog w) A (Builtin.«object.__getattribute__» ⟨[.ref x,.str b i],[]⟩) Q E s:=by
 obtain⟨j,g,d,t,k⟩:=s;have f:=I.ty (aB prog w);unfold Builtin.«object.__getattribute__»;refine aa (ad ?_);refine aa (ad ?_);refine aa (f.at ?_);refine aa (e.at ?_)
 cases r with
 | value v=>exact ad h
 | bind g a=>
  show aC _ _ (holding [a] (call g [a,.ref x,.ref C]) >>= ret) _ _ _;exact aa (af (ae h (λv c z=>ad z) λ_ _ z=>z))
 | missing=>exact h.elim
def CJ{c:Str}{r:Builtin.ObjectAttr.Found}{b f:Bool}{k:Tok}{Q:ja}(X:K.In s.heap)(I:WD x C s.heap)(e:WM K C)(l:Looks (aB prog w) s.heap (Builtin.ObjectAttr.find (.ref x) (.ref C) c) r)(h:match r with
   | .value v=>handedIn v=true/\Q v s
   | .bind g a=>aC (aB prog w) A.in1 (call g [a,.ref x,.ref C]) (λv j=>handedIn v=true/\Q v j) (λ_ _=>False) s
   | .missing=>False):aC (aB prog w) A (getAttrBy (.ref x) (.str c k) f b) Q E s:=by
 have i:=F.excAttr_ValueError;have m:=I.ty (aB prog w);have n:=looks_findIn (M:=aB prog w) X e.ga;have o:=looks_findIn (M:=aB prog w) X e.hk;have p:(Value.builtin "BaseException.__getattribute__" == Value.builtin "object.__getattribute__")=false:=by decide +kernel
 obtain⟨q,g,d,t,u⟩:=s;unfold getAttrBy;refine af (aa (m.at (aa (n.at ?_))));show aC _ _ (if (true&&(Value.builtin "BaseException.__getattribute__" == Value.builtin "object.__getattribute__"))=true then _ else getAttrByItsOwn (.ref x) (.str c k) (.ref C) (.builtin "BaseException.__getattribute__") f b) _ _ _
 rw[p,aM (by decide)]
 unfold getAttrByItsOwn hookBefore;refine aa (o.at ?_);refine aa (wpAny_attempt (af ?_));unfold callGetattribute;rw[aM (by cases b <;> decide)]
 unfold boundAndCalled;rw[i.ga.bind (.ref x)];refine aa (ad ?_);refine wpAny_call (codeAny_call_builtin i.ga.plain F.entry_bexc_ga (A8 X I e.mB (C1 X I l ?_)))
 cases r with
 | value v=>exact handed_on h.1 h.2
 | bind g a=>exact ae h (λv j z=>handed_on z.1 z.2) λ_ _ z=>z.elim
 | missing=>exact h.elim
def ZNo{R:Result->al->Prop}{b:aj}(X:K.In s.heap)(I:WD x C s.heap)(e:WM K C)(h:R (.ok (.ret (.ref C))) s):
  codeAny (aB prog w) A (.call (.builtin "getset_descriptor.__get__") ⟨[.builtin "object.__class__",.ref x,b],[]⟩) R s:=by
 obtain⟨f,d,c,j,a⟩:=s;have g:=I.ty (aB prog w);have i:=looks_mroIn (M:=aB prog w) X e.mO;refine codeAny_call_builtin KF.slot_gs.plain KF.entry_gs ?_;refine KF.slot_gs.check _ _ _ _ _ _ _ _ KF.type_class (KF.args_gs _ _ _) ?_;unfold Builtin.«getset_descriptor.__get__»;unfold Builtin.Getset_descriptor.descrGet;rw[dga_obj];refine aa (ad ?_);unfold Builtin.Getset_descriptor.descrGetter;unfold Builtin.Getset_descriptor.descrCheckInstance;unfold Builtin.Getset_descriptor.descrNameAndClass;unfold isInstance;simp only[KF.owner_class]
 repeat lk
 exists Code.quiet_builtin _ (by decide +kernel)
 refine codeAny_builtin KF.entry_class ?_;unfold Builtin.«object.__class__»;unfold shownTypeOf
 repeat lk
 exact h
def ZMe(X:K.In s.heap)(e:WM K C)(M:Model):Looks M s.heap (Builtin.ObjectAttr.find (.ref x) (.ref C) "__class__") (.bind (.builtin "getset_descriptor.__get__") (.builtin "object.__class__")):=by
 have a:=looks_findIn (M:=M) X e.ca;have b:=looks_specialIn (M:=M) X e.hn;have c:=looks_takesIn (M:=M) X e.tk;refine Looks.andThen a (Looks.andThen b ?_);exact Looks.andThen (show Looks M s.heap (Builtin.ObjectAttr.dataDescriptor? (some (.builtin "object.__class__")) (some (.builtin "getset_descriptor.__get__"))) (some (_,_)) from Looks.andThen c Looks.now) (Looks.tag Looks.now)
end
def WM.cls{K:Frag}{C:ak}(e:WM K C):∃ g d c k,K.lookup C=some ⟨g,d,.cls c,k⟩:=by
 obtain⟨c,h,_⟩:=pT.mp e.mB;unfold clsIn at h;split at h
 ·rename_i f i a b j
  exact⟨f,i,a,b,j⟩
 ·cases h
def ZLv{K:Frag}{x C:ak}(e:WM K C):KitX K (.ref x) (.ref C) (WD x C) where
 ty:=λM _ _ I=>I.ty M
 it:=λ_ _ X _=>by
  obtain⟨i,d,g,m,b⟩:=e.cls;intro p t r v k q;unfold isType loadHead;have z:=k _ _ (X _ _ b);exact aa (wpAny_loadPart z (ad q))
 ne:=λh f u l n m X a=>by
  obtain⟨i,d,g,o,b⟩:=e.cls
  cases q:(Value.ref C==Value.ref f) with
  | false=>rfl
  | true=>
   have j:C=f:=Value.ref.inj (eq_of_beq q);rw[<-j,X _ _ b] at a;cases a
 ca:=fun{c w A E Q s} X I k=>by
  unfold getAttr? getAttrBy?;refine aa (wpAny_mkText (aa (wpAny_attempt ?_)));refine CJ (s:={ s with toks:=s.toks+1 }) X I e (ZMe (s:={ s with toks:=s.toks+1 }) X e _) ?_;exact wpAny_call (ZNo (s:={ s with toks:=s.toks+1 }) X I e ⟨rfl,ad k⟩)
end L2
namespace L2
open PySem PySem.Spec PyProof.Rows
def Cx.held(X:Cx)(a:ak)(E:ja):Cx:={ X with A:=X.A.mark (some (.ref a)),calm:=false,xe:=E }
section
variable{kj:js}{σ:St}{H H':Hp}{s':al}{ea:ak}
def ZF.held(I:ZF X kj σ H s)(ea:ak)(E:ja):ZF (X.held ea E) kj σ H s:=
 ⟨⟨I.ok.mod,I.ok.kind,I.ok.glob,I.ok.blt,I.ok.above,I.ok.inj,I.ok.has,I.ok.cab,λz=>absurd z zV,I.ok.frames,I.ok.stk,I.ok.exf,I.ok.bs,I.ok.bsz,I.ok.noex,I.ok.exfs,I.ok.funs,I.ok.frf⟩,
  I.os,I.bare,I.base,I.loc,I.cell,I.free,I.freeC,I.pin,I.hok,I.len⟩
def ZF.unheld(a:X.Ok)(I:ZF (X.held ea E) kj σ H s):ZF X kj σ H s:=⟨a,I.os,I.bare,I.base,I.loc,I.cell,I.free,I.freeC,I.pin,I.hok,I.len⟩
def ZF.track{a:ak}{o:HO}(I:ZF X kj σ H s)(l:X.s₀.heap.get? a=none)(t:a≠X.env.locals)(m:∀ x c,X.env.cells.lookup x=some c->c≠a)(y:∀ p∈X.pn++kj,p.1≠a)(v:H a=none)(h:Ze X.prog X.w (upd H a o) s.heap a o):ZF X kj σ (upd H a o) s:=by
 have g:∀{b:ak}{u:HO},H b=some u->b≠a:=fun{b u} e z=>by rw[z,v] at e;cases e
 refine⟨I.ok,I.os,I.bare,⟨I.base.keep,I.base.slot,λb i q n A=>?_,I.base.there,λb k q=>?_,λb i u q=>?_,λb B q=>?_⟩,I.loc,I.cell,?_,λx c e=>?_,λp d=>?_,λb u e=>?_,I.len⟩
 ·rw[ZS (λz=>by rw[z,l] at q;cases q)]
  exact I.base.free b i q n A
 ·have e:=I.base.tups b k q;rw[ZS (g e)];exact e
 ·have e:=I.base.frzs b i u q;rw[ZS (g e)];exact e
 ·obtain⟨f,e⟩:=I.base.tbls b B q;exact⟨f,by rw[ZS (g e)];exact e⟩
 ·rw[ZS (Ne.symm t)];exact I.free
 ·rw[ZS (m x c e)];exact I.freeC x c e
 ·obtain⟨e,n,r⟩:=I.pin p d;exact⟨e,by rw[ZS (y p d)];exact n,r⟩
 ·by_cases j:b=a
  ·subst j;rw[ZM] at e;cases e;exact h
  ·rw[ZS j] at e;exact(I.hok b u e).stay (λ_ _ _ q=>q) (λc q=>by rw[ZS (g q)];exact q) λc k q=>by rw[ZS (g q)];exact q
def ZF.goes{i:Nat}{n:Str}{M:Model}{A:ay}{Q:Unit->al->Prop}{pos:Pos}(I:ZF X kj σ H s)(L:X.N.Nodup)(D:X.N[i]? = some n)(f:X.env.scope.names.lookup n=some .local)(h:∀ s',ZF X kj (σ.set i none) H s'->Q () s'):aC M A (do bindName X.env n .none;unbindBehindTheSuite X.env n pos) Q E s:=by
 obtain⟨m,F,O⟩:=id I.loc;have r:(X.env.scope.kind==.class || (X.env.scope.kind==.module&&X.env.locals != X.env.globals))=false:=by rw[I.ok.kind];rfl
 have t:i<σ.length:=by rw[I.len];exact(yT.mp D).1
 refine wpAny_nameGoes_keeps f F r λh' v C a=>h _ ?_;obtain⟨oL,_,_,P,_⟩:=id F;have g:∀ b o,X.s₀.heap.get? b=some o->b≠X.env.locals:=λb o e=>yU (yW (zN e) I.ok.above);refine⟨I.ok,I.os,I.bare,⟨λb o e n x f=>?_,λb o e n x f=>?_,I.base.free,λb o e f=>?_,I.base.tups,I.base.frzs,I.base.tbls⟩,⟨_,C,λj y Z l u K=>?_⟩,λy c e=>?_,I.free,I.freeC,λp R=>?_,λb U e=>?_,by simpa using I.len⟩
 ·exact(a.2 b (g b o e)).trans (I.base.keep b o e n x f)
 ·obtain⟨W,l⟩:=I.base.slot b o e n x f;exact⟨W,(a.2 b (g b o e)).trans l⟩
 ·obtain⟨T,l⟩:=I.base.there b o e f;exact⟨T,(a.2 b (g b o e)).trans l⟩
 ·by_cases B:j=i
  ·subst B;rw[qG t] at u;cases u
  ·rw[qX (Ne.symm B)] at u;obtain⟨Y,V,q⟩:=O j y Z l u K;exists Y,V;rcases q with ⟨k,e⟩ | ⟨k,c,e,z⟩
   ·refine .inl ⟨k,?_⟩;have:y≠n:=λe=>B (J8 L l (e ▸ D));simp[this,e]
   ·exact .inr ⟨k,c,e,z.sameBut a (I.cne y c e)⟩
 ·obtain⟨J,z⟩:=I.cell y c e;exact⟨J,z.sameBut a (I.cne y c e)⟩
 ·obtain⟨e,n,G,S,d⟩:=I.pin p R;exact⟨(a.2 p.1 G).trans e,n,G,S,d⟩
 ·refine(I.hok b U e).stay (λc J w q=>(a.2 c ?_).trans q) (λ_ q=>q) λ_ _ q=>q;rintro rfl;rcases w with rfl | w
  ·rw[I.free] at e;cases e
  ·rw[I.free] at w;cases w
end
section
variable{x C CB:ak}
def ZGz{b:Bool}{Q:Bool->al->Prop}(X:K.In s.heap)(I:WD x C s.heap)(o:xN K (.ref CB)=some (.type "type"))(c:yI K CB (.type "BaseException")=some true)(l:yI K C (.ref CB)=some b)(h:Q b s):aC (aB prog w) A (excMatches (.ref x) (.ref CB)) Q E s:=by
 obtain⟨m,g,d,t,H⟩:=s;have v:=I.ty (aB prog w);have y:=sS (M:=aB prog w) X c;have z:=sS (M:=aB prog w) X l;have e:=zEB (M:=aB prog w) X o;have f:=tc_notTuple;have B:yF (aB prog w) m (isType (.ref CB)) true:=by
  obtain⟨j,a,_⟩:=pT.mp c;unfold PySem.W.clsIn at a;split at a
  ·rename_i F G i p n
   intro r D u J k q;unfold isType loadHead;exact aa (wpAny_loadPart (k _ _ (X _ _ n)) (ad q))
  ·cases a
 unfold excMatches isInstance isExcClass;refine aa (aa (e.at ?_));rw[f];refine ad ?_;rw[aM zV];refine aa (ad ?_);simp only[sH,List.forIn_nil]
 cases b with
 | true=>
  repeat (first | lk | wp_step)
  all_goals first | exact h | trace_state
 | false=>
  repeat (first | lk | wp_step)
  all_goals first | exact h | trace_state
end
end L2
namespace Tw
open PySem
inductive TG where
 | int (i:Int)
 | str (x:Str)
 | tup (l:List TG)
 | odd (n:String)
mutual
def TG.fits:TG->Nat->Bool
 | .int i,_=>decide (i.natAbs<10 ^ 60)
 | .str x,_=>U7 x
 | .tup l,r=>decide (0<r)&&(decide (l.length<=4)&&gfitsL l (r-1))
 | .odd _,_=>false
def gfitsL:List TG->Nat->Bool
 | [],_=>true
 | t::l,r=>t.fits r&&gfitsL l r
end
def Gz(r:Nat):∀ l:List TG,gfitsL l r=l.all λt=>t.fits r
 | []=>by simp[gfitsL]
 | t::l=>by rw[gfitsL,tY,Gz r l]
mutual
def KT.emb:KT->TG
 | .int i=>.int i
 | .str x=>.str x
 | .tup l=>.tup (embL l)
def embL:jp->List TG
 | []=>[]
 | t::l=>t.emb::embL l
end
def KJ:∀ l:jp,embL l=l.map KT.emb
 | []=>by rw[embL];rfl
 | t::l=>by rw[embL,KJ l];rfl
mutual
def KW:∀(t:KT)(r:Nat),t.emb.fits r=t.fits r
 | .int i,r=>by rw[KT.emb,TG.fits,KT.fits]
 | .str x,r=>by rw[KT.emb,TG.fits,KT.fits]
 | .tup l,r=>by rw[KT.emb,TG.fits,KT.fits,embL_fits l (r-1),KJ,zX]
def embL_fits:∀(l:jp)(r:Nat),gfitsL (embL l) r=fitsL l r
 | [],r=>by rw[embL,gfitsL,fitsL]
 | t::l,r=>by rw[embL,gfitsL,fitsL,KW t r,embL_fits l r]
end
mutual
def TG.neat:TG->Prop
 | .int _=>True
 | .str x=>x.length<=1000
 | .tup l=>l.length<=5/\neatL l
 | .odd _=>True
def neatL:List TG->Prop
 | []=>True
 | t::l=>t.neat/\neatL l
end
def Fs:∀{l:List TG}{t:TG},neatL l->t∈l->t.neat
 | [],_,_,h=>by cases h
 | u::l,t,h,hm=>by
  rw[neatL] at h;rcases zF.mp hm with e | e
  ·subst e;exact h.1
  ·exact Fs h.2 e
mutual
def JX:∀(t:KT)(r:Nat),t.fits r=true->t.emb.neat
 | .int i,r,h=>by rw[KT.emb,TG.neat];trivial
 | .str x,r,h=>by
  rw[KT.fits] at h;rw[KT.emb,TG.neat];have:=(ZOr h).1;exact zS this (by decide)
 | .tup l,r,h=>by
  rw[KT.fits,zR,zR] at h;rw[KT.emb,TG.neat,KJ,zX,<-KJ];have:=of_decide_eq_true h.2.1;exact⟨∅,embL_neat l (r-1) h.2.2⟩
def embL_neat:∀(l:jp)(r:Nat),fitsL l r=true->neatL (embL l)
 | [],r,h=>by rw[embL,neatL];trivial
 | t::l,r,h=>by
  rw[fitsL,zR] at h;rw[embL,neatL];exact⟨JX t r h.1,embL_neat l r h.2⟩
end
end Tw
namespace L2
open PySem PySem.Spec PyProof.Rows
def ZF.big{a:js}{b:St}{H:Hp}{s:al}(I:ZF X a b H s):sysModules<s.heap.objs.size:=by
 have h:aq<s.heap.objs.size:=(I.mod.glob.keeps I.bk).lt;exact tN (by decide) h
def ZMl{P:am}{w:ax}{H:Hp}(h:aE)(a:sysModules<h.objs.size):Ze P w H (h.push { cls:=.type "dict",data:=.dict #[] }) h.objs.size (.dK []):=
 ⟨zL _,beq_eq_false_iff_ne.mpr (Ne.symm (yU a)),[],.nil,Heap.DictOf.new h⟩
def ZQi:TE:=λ_ H Q=>∀ p,H p=none->Q (.ref p) (upd H p (.dK []))
def Ly{pos:Pos}:PE X (.Dict [] [] pos) ZQi:=λb s c H Q I h=>
 wpAny_Dict_empty ⟨.ref s.heap.objs.size,_,I.laid (a:=s.heap.objs.size) (o:=.dK []) (t':=s.toks) (λ_ _ q=>zO _ q) (zY _) (ZMl s.heap I.big),rfl,h _ (I.hok.fresh (zY _))⟩
def PX(x:Str)(n:Int):Str:=⟨(xK n.toNat x.cps).foldl (· ++ ·) #[]⟩
def FV(a:jK):∀(k:Nat)(b:jK),((xK k a).foldl (· ++ ·) b).size=b.size+k * a.size
 | 0,b=>by simp
 | k+1,b=>by
  rw[List.replicate_succ,tF,FV a k,rM,Nat.succ_mul]
  lia
inductive VS(x y:V)(H:Hp)(Q:VK):Prop
 |mk(i n:_)(_:x=.str i)(_:y=.int n)(_:i.length=1)(_:2<=n)(_:n<=1000)(_:Q (.str (PX i n)) H)
def ZIA:Yd X (binaryOp .Mult) (VS):=by
 intro b s o H x y v u Q I f g h;obtain⟨i,n,rfl,rfl,a,k,l,q⟩:=h;obtain⟨t,rfl⟩:=f;obtain⟨m,rfl⟩:=g;have c:¬ n<1:=∅
 have d:¬ ((n==1 || i.length==0)=true):=by rw[a];simp;lia
 have j:(PX i n).length<=sizeLine:=by
  show ((xK n.toNat i.cps).foldl (· ++ ·) #[]).size<=ar;have e:i.cps.size=1:=a;rw[FV,e];exact yG (Yq (by simp;lia))
 refine PySem.P.mul_str ?_ (λ_ _=>?_) (λ_ _=>?_) ?_
 ·rw[aJ ∅,aJ ∅];rfl
 ·rw[a];have:(1:Int)<=(2 ^ 63-1) / n:=(Int.le_ediv_iff_mul_le ∅).mpr ∅
  lia
 ·rw[a];unfold Builtin.Str.tooLong ar;exact aJ ∅
 ·rw[aM c,aM d];exact⟨j,⟨.str (PX i n),H,I.tok _,⟨_,rfl⟩,q⟩⟩
def cV:V->aj
 | .ty n=>.type n
 | .ref a=>.ref a
 | _=>.none
def Em:V->Bool
 | .ty _=>true
 | .ref _=>true
 | _=>false
def Bh{c:V}{u:aj}(r:ZQ c u)(h:Em c=true):u=cV c:=by
 cases c with
 | ty n=>exact r
 | ref a=>exact r
 | _=>cases h
section
variable{κ:Type}[DecidableEq κ]
def YR(a:List (κ×V))(k:κ):jg:=(a.find? λkv=>decide (kv.1=k)).map (·.2)
def XR(a:List (κ×V))(k:κ)(v:V):List (κ×V):=
 if (a.any λkv=>decide (kv.1=k))=true then a.map (λkv=>if kv.1=k then (kv.1,v) else kv) else a++[(k,v)]
def Qy(a:List (κ×V))(k:κ):List (κ×V):=a.filter λkv=>decide (kv.1≠k)
def QR{p:κ×V}{r:List (κ×V)}{k:κ}(e:p.1=k):YR (p::r) k=some p.2:=by simp[YR,vK,e]
def Qf{p:κ×V}{r:List (κ×V)}{k:κ}(e:¬ p.1=k):YR (p::r) k=YR r k:=by simp[YR,vK,e]
def Oz(k:κ):∀ a:List (κ×V),(a.any λkv=>decide (kv.1=k))=(YR a k).isSome
 | []=>rfl
 | p::r=>by
  rw[tX];by_cases e:p.1=k
  ·simp only[QR e,aK e,Bool.true_or,Option.isSome_some]
  ·rw[Qf e,aJ e,Bool.false_or];exact Oz k r
def CQ(k j:κ)(y:V):∀ a:List (κ×V),YR (a.map λkv=>if kv.1=k then (kv.1,y) else kv) j=(YR a j).map λx=>if j=k then y else x
 | []=>rfl
 | p::r=>by
  have b:=CQ k j y r;rw[yR];by_cases h:p.1=k
  ·rw[aO h];by_cases e:p.1=j
   ·rw[QR (p:=(p.1,y)) e,QR e,wA,aO (e.symm.trans h)]
   ·rw[Qf (p:=(p.1,y)) e,Qf e,b]
  ·rw[aM h];by_cases e:p.1=j
   ·rw[QR (p:=p) e,QR e,wA,aM (λz=>h (e.trans z))]
   ·rw[Qf (p:=p) e,Qf e,b]
def F3(k j:κ)(y:V):∀ a:List (κ×V),YR a k=none->YR (a++[(k,y)]) j=if j=k then some y else YR a j
 | [],_=>by
  by_cases e:k=j
  ·rw[aO e.symm];exact QR (p:=(k,y)) e
  ·rw[aM (λz=>e z.symm)];exact Qf (p:=(k,y)) e
 | p::r,hn=>by
  rw[uL];have b:¬ p.1=k:=λz=>by rw[QR z] at hn;cases hn
  rw[Qf b] at hn;have c:=F3 k j y r hn;by_cases e:p.1=j
  ·rw[QR e,QR e,aM (λz=>b (e.trans z))]
  ·rw[Qf e,Qf e,c]
def LC(b:List (κ×V))(k j:κ)(y:V):YR (XR b k y) j=if j=k then some y else YR b j:=by
 unfold XR;by_cases a:(b.any λkv=>decide (kv.1=k))=true
 ·rw[aO a,CQ];rw[Oz] at a;by_cases e:j=k
  ·obtain⟨x,c⟩:=sO.mp a;rw[aO e,e,c,wA,aO rfl]
  ·rw[aM e]
   cases YR b j with
   | none=>rfl
   | some x=>rw[wA,aM e]
 ·rw[aM a];refine F3 k j y b ?_;rw[Oz] at a
  cases q:YR b k with
  | none=>rfl
  | some x=>rw[q] at a;exact(a rfl).elim
def GE(a:List (κ×V))(k:κ)(v:V):(XR a k v).length<=a.length+1:=by
 unfold XR;split
 ·rw[zX];lia
 ·rw[zW,zJ,sM];lia
def LL{a:List (κ×V)}{k:κ}(v:V)(h:YR a k=none):XR a k v=a++[(k,v)]:=by
 unfold XR;rw[Oz,h];exact aM (by decide)
def Yl.isSome_eq{o:jg}{u:jd}(r:Yl o u):o.isSome=u.isSome:=by
 cases o with
 | none=>cases u with
  | none=>rfl
  | some _=>exact(show False from r).elim
 | some _=>cases u with
  | none=>exact(show False from r).elim
  | some _=>rfl
def KV.val{a:List (κ×V)}{g:List (κ×aj)}(r:KV a g)(k:κ):Yl (YR a k) (valueAt g k):=by
 unfold KV at r
 induction r with
 | nil=>exact True.intro
 | @cons p q l d h t j=>
  obtain⟨f,i⟩:=h;by_cases e:p.1=k
  ·have c:q.1=k:=f.symm.trans e;have b:valueAt (q::d) k=some q.2:=by simp[valueAt,vK,c]
   rw[QR e,b];exact i
  ·have c:¬ q.1=k:=λz=>e (f.trans z);have b:valueAt (q::d) k=valueAt d k:=by simp[valueAt,vK,c]
   rw[Qf e,b];exact j
def KV.any{a:List (κ×V)}{b:List (κ×aj)}(r:KV a b)(k:κ):(a.any λkv=>decide (kv.1=k))=b.any λkv=>decide (kv.1=k):=by
 unfold KV at r
 induction r with
 | nil=>rfl
 | cons h t c=>rw[tX,tX,c,h.1]
def KV.repl{a:List (κ×V)}{c:List (κ×aj)}(r:KV a c)(k:κ){y:V}{u:aj}(g:ZQ y u):
  KV (a.map λkv=>if kv.1=k then (kv.1,y) else kv) (c.map λkv=>if kv.1=k then (kv.1,u) else kv):=by
 unfold KV at r⊢
 induction r with
 | nil=>exact .nil
 | @cons p q i j h t f=>
  rw[yR,yR];refine .cons ?_ f;obtain⟨b,d⟩:=h;by_cases e:p.1=k
  ·rw[aO e,aO (b.symm.trans e)];exact⟨b,g⟩
  ·rw[aM e,aM (λz=>e (b.trans z))];exact⟨b,d⟩
def KV.put{a:List (κ×V)}{b:List (κ×aj)}(r:KV a b)(k:κ){y:V}{u:aj}(c:ZQ y u):KV (XR a k y) (stored b k u):=by
 unfold XR stored;rw[r.any k];by_cases e:(b.any λkv=>decide (kv.1=k))=true
 ·rw[aO e,aO e];exact r.repl k c
 ·rw[aM e,aM e];exact Paired.snoc r ⟨rfl,c⟩
def KV.drop{c:List (κ×V)}{g:List (κ×aj)}(r:KV c g)(k:κ):KV (Qy c k) (without g k):=by
 unfold KV at r⊢;unfold Qy without
 induction r with
 | nil=>exact .nil
 | @cons p q l m h t f=>
  obtain⟨d,j⟩:=h;rw[vR,vR];by_cases e:p.1=k
  ·have a:¬ decide (p.1≠k)=true:=by simp[e]
   have b:¬ decide (q.1≠k)=true:=by simp[d.symm.trans e]
   rw[aM a,aM b];exact f
  ·have i:¬ q.1=k:=λz=>e (d.trans z);have a:decide (p.1≠k)=true:=by simp[e]
   have b:decide (q.1≠k)=true:=by simp[i]
   rw[aO a,aO b];exact .cons ⟨d,j⟩ f
def KV.keys{a:List (κ×V)}{b:List (κ×aj)}(r:KV a b):a.map (·.1)=b.map (·.1):=by
 unfold KV at r
 induction r with
 | nil=>rfl
 | cons h t c=>rw[yR,yR,c,h.1]
def KV.length{a:List (κ×V)}{b:List (κ×aj)}(r:KV a b):a.length=b.length:=Paired.length r
def C2(a:List (κ×V))(k:κ):(Qy a k).length<=a.length:=vC _ _
end
def Np{P:am}{w:ax}{k:Zb}{u:aj}(r:ZQ (kV k) u):(V0 P w).is k u=true:=by
 cases k with
 | inl i=>obtain⟨t,e⟩:=(show ∃ t,u=Value.int i t from r);subst e;exact ZGY P w i t
 | inr x=>obtain⟨t,e⟩:=(show ∃ t,u=Value.str x t from r);subst e;exact ZGp P w x t
def Fp{P:am}{w:ax}:∀{a:jC}{b:je},ZO (a.map kV) b->ItemsAre (V0 P w) a b
 | [],_,r=>by rw[vJ] at r;cases r;exact .nil
 | k::a,_,r=>by
  rw[yR] at r
  cases r with
  | cons h t=>exact .cons (Np h) (Fp t)
abbrev KT(H:Hp):List (jC×V)->List (jC×ak×aj)->Prop:=Paired λp q=>p.1=q.1/\H q.2.1=some (.tup (p.1.map kV))/\ZQ p.2 q.2.2
def KT.val{H:Hp}{a:List (jC×V)}{g:List (jC×ak×aj)}(r:KT H a g)(k:jC):Yl (YR a k) ((atKey g k).map (·.2)):=by
 induction r with
 | nil=>exact True.intro
 | @cons p q l d h t j=>
  obtain⟨f,_,i⟩:=h;by_cases e:p.1=k
  ·have c:q.1=k:=f.symm.trans e;have b:atKey (q::d) k=some q.2:=by simp[atKey,vK,c]
   rw[QR e,b];exact i
  ·have c:¬ q.1=k:=λz=>e (f.trans z);have b:atKey (q::d) k=atKey d k:=by simp[atKey,vK,c]
   rw[Qf e,b];exact j
def KT.repl{H:Hp}{a:List (jC×V)}{d:List (jC×ak×aj)}(r:KT H a d)(k:jC){y:V}{u:aj}(i:ZQ y u):
  KT H (a.map λkv=>if kv.1=k then (kv.1,y) else kv) (d.map (putAt k u)):=by
 induction r with
 | nil=>exact .nil
 | @cons p q j l h t g=>
  rw[yR,yR];refine .cons ?_ g;obtain⟨b,c,f⟩:=h;unfold putAt;by_cases e:p.1=k
  ·rw[aO e,aO (b.symm.trans e)];exact⟨b,c,i⟩
  ·rw[aM e,aM (λz=>e (b.trans z))];exact⟨b,c,f⟩
def KT.put{H:Hp}{a:List (jC×V)}{c:List (jC×ak×aj)}(r:KT H a c)(k:jC){b:ak}{y:V}{u:aj}(f:H b=some (.tup (k.map kV)))(d:ZQ y u):
  KT H (XR a k y) (storedH c k b u):=by
 have e:(a.any λkv=>decide (kv.1=k))=(atKey c k).isSome:=by
  rw[Oz,(r.val k).isSome_eq,Option.isSome_map]
 unfold XR storedH;rw[e];by_cases q:(atKey c k).isSome=true
 ·rw[aO q,aO q];exact r.repl k d
 ·rw[aM q,aM q];exact Paired.snoc r ⟨rfl,f,d⟩
def KT.keeps{H c:Hp}{a:List (jC×V)}{d:List (jC×ak×aj)}(r:KT H a d)(f:∀ b e,H b=some (.tup e)->c b=some (.tup e)):KT c a d:=
 Paired.mapP r λ_ _ z=>⟨z.1,f _ _ z.2.1,z.2.2⟩
section
variable{H:Hp}{h:aE}{a:ak}
def Fa{u:HO}(b:Yv P w H h)(e:Rd H a u):Ze P w H h a u:=e.ok b
def NJ{b:List (Zb×V)}(d:Yv P w H h)(e:Rd H a (.dK b)):b.length<=ar/\(a==sysModules)=false/\∃ c,KV b c/\h.DictOf (V0 P w) a c:=
 show Ze P w H h a (.dK b) from Fa d e
def Nh{b:List (Zb×V)}(d:Yv P w H h)(e:H a=some (.dK b)):b.length<=ar/\(a==sysModules)=false/\∃ c,KV b c/\h.DictOf (V0 P w) a c:=NJ d (.inl e)
def Mj{c:jC}(i:Yv P w H h)(e:H a=some (.tup (c.map kV))):(tupleKind (V0 P w)).is h c a:=by
 obtain⟨_,b,r,o,d,f,n,g⟩:=(show Ze P w H h a (.tup (c.map kV)) from i a _ e);exact⟨o,b.toArray,n,d,f,g,by simpa using Fp r⟩
def Nv{b:List (jC×V)}(i:Yv P w H h)(e:Rd H a (.dT b)):b.length<=ar/\(a==sysModules)=false /\
  ∃ d,KT H b d/\h.DictOfH (tupleKind (V0 P w)) a d:=by
 obtain⟨z,y,d,r,o,k,j,n,s,u,v,A⟩:=(show Ze P w H h a (.dT b) from Fa i e);refine⟨z,y,d,r,o,k,j,n,s,u,v,λx c=>?_,A⟩;have f:∀{l:List (jC×V)}{m:List (jC×ak×aj)},KT H l m->∀ x∈m,(tupleKind (V0 P w)).is h x.1 x.2.1:=by
  intro l m q
  induction q with
  | nil=>intro x c;exact nomatch c
  | @cons p q C D g t B=>
   intro x c;rcases zF.mp c with e | c
   ·subst e;exact Mj i (by rw[<-g.1];exact g.2.1)
   ·exact B x c
 exact f r x c
def ZRP{b:List (jC×V)}(d:Yv P w H h)(e:H a=some (.dT b)):b.length<=ar/\(a==sysModules)=false /\
  ∃ c,KT H b c/\h.DictOfH (tupleKind (V0 P w)) a c:=Nv d (.inl e)
end
def Yk(H:Hp)(a:ak)(y:V)(r:jg):Prop:=
 (∃ c k,Rd H a (.dK c)/\y=kV k/\r=YR c k)\/∃ c k b,Rd H a (.dT c)/\y=.ref b/\H b=some (.tup (k.map kV))/\r=YR c k
def Uk(H:Hp)(a:ak)(y v:V)(d:Hp):Prop:=
 (∃ c k,H a=some (.dK c)/\y=kV k/\c.length<ar/\d=upd H a (.dK (XR c k v))) \/
 ∃ c k b,H a=some (.dT c)/\y=.ref b/\H b=some (.tup (k.map kV))/\c.length<ar/\d=upd H a (.dT (XR c k v))
def Yk.k{H:Hp}{a:ak}{b:List (Zb×V)}{k:Zb}(e:H a=some (.dK b)):Yk H a (kV k) (YR b k):=.inl ⟨b,k,.inl e,rfl,rfl⟩
def Uk.k{H:Hp}{a:ak}{b:List (Zb×V)}{k:Zb}{v:V}(e:H a=some (.dK b))(c:b.length<ar):Uk H a (kV k) v (upd H a (.dK (XR b k v))):=.inl ⟨b,k,e,rfl,c,rfl⟩
section
variable{kj:js}{σ:St}{H:Hp}{a:ak}{y v:V}{u r:aj}{o:jg}
def ZJc{Q:ja}(F:A.units+1<cLine)(I:ZF X kj σ H s)(g:Yk H a y (some v))(t:ZQ y u)(h:∀ f x,ZF X kj σ H x->ZQ v f->Q f x):
  aC (aB X.prog X.w) A (getItem (.ref a) u) Q E s:=by
 rcases g with ⟨q,k,e,j,l⟩ | ⟨q,k,b,e,j,B,l⟩
 ·subst j;obtain⟨z,C,G,c,i⟩:=NJ I.hok e;obtain⟨f,n,d⟩:=Yl.some_of (v:=v) (o:=valueAt G k) (by rw[l];exact c.val k)
  exact wpAny_getItem_of (Np t) i.mapOf n (h f _ (I.tok _) d)
 ·subst j;cases(show u=Value.ref b from t);obtain⟨z,C,J,c,i⟩:=Nv I.hok e;obtain⟨f,n,d⟩:=Yl.some_of (v:=v) (o:=(atKey J k).map (·.2)) (by rw[l];exact c.val k)
  obtain⟨p,D,m⟩:=xR.mp n;refine wpAny_getItem_heap (tupleKind_room_in1 F) (Mj I.hok B) i D ?_;rw[m];exact h f _ (I.tok _) d
def Ah{Q:ja}(t:A.units+1<cLine)(I:ZF X kj σ H s)(g:Yk H a y o)(m:ZQ y u)(h:∀ n,ZF X kj σ H n->Q (.bool (!o.isSome)) n):
  aC (aB X.prog X.w) A (aA .NotIn u (.ref a)) Q E s:=by
 rcases g with ⟨j,k,e,f,l⟩ | ⟨j,k,b,e,f,p,l⟩
 ·subst f;obtain⟨z,i,x,c,d⟩:=NJ I.hok e;refine wpAny_notIn_of (Np m) i d.mapOf ?_;rw[<-(c.val k).isSome_eq,<-l];exact h _ (I.tok _)
 ·subst f;cases(show u=Value.ref b from m);obtain⟨z,i,B,c,d⟩:=Nv I.hok e;refine wpAny_notIn_heap (tupleKind_room_in1 t) (Mj I.hok p) i d ?_;have q:=(c.val k).isSome_eq;rw[Option.isSome_map] at q;rw[<-q,<-l];exact h _ (I.tok _)
def Mz{c:aE}{k:Nat}{f:HO}(I:ZF X kj σ H s)(j:Nc (H a))(i:yD a s.heap c)(h:∃ q,c.get? a=some q)(d:Ze X.prog X.w (upd H a f) c a f):
  ZF X kj σ (upd H a f) { s with heap:=c,toks:=k }:=
 I.write (x:=a) (e:=a) j (.inl rfl) (λb q g z=>(i.2 b g).trans z) h d
def Gg{P:am}{w:ax}{f:Hp}{e:aE}{b:List (Zb×V)}{d:List (Zb×aj)}(z:b.length<=ar)(h:(a==sysModules)=false)(c:KV b d)(g:e.DictOf (V0 P w) a d):
  Ze P w f e a (.dK b):=⟨z,h,d,c,g⟩
def ZI5{D:Hp}{Q:Unit->al->Prop}(V:A.units+1<cLine)(I:ZF X kj σ H s)(g:Uk H a y v D)(L:ZQ y u)(K:ZQ v r)(h:∀ M,ZF X kj σ D M->Q () M):
  aC (aB X.prog X.w) A (setItem (.ref a) u r) Q E s:=by
 rcases g with ⟨d,k,e,p,l,n⟩ | ⟨d,k,b,e,p,F,l,n⟩
 ·subst p n;obtain⟨z,t,W,f,m⟩:=Nh I.hok e;have C:W.length<=sizeLine:=by rw[<-f.length];exact z
  have x:(XR d k v).length<=sizeLine:=by have:=GE d k v;lia
  refine wpAny_setItem_pairs (hsz:=C) (Np L) m λJ i B=>h _ ?_;have U:∃ q,J.get? a=some q:=let ⟨q,_,_,j,_⟩:=i;⟨q,j⟩;exact Mz I (by rw[e];exact True.intro) B U (Gg x t (f.put k K) i)
 ·subst p n;cases(show u=Value.ref b from L);obtain⟨z,t,Y,f,m⟩:=ZRP I.hok e;have C:Y.length<=sizeLine:=by rw[<-Paired.length f];exact z
  have x:(XR d k v).length<=sizeLine:=by have:=GE d k v;lia
  refine wpAny_setItem_heap (hsz:=C) (tupleKind_room_in1 V) (Mj I.hok F) m λJ i B=>h _ ?_;obtain⟨q,O,N,j,P,R,S,_,T⟩:=i;refine Mz I (by rw[e];exact True.intro) B ⟨q,j⟩ ⟨x,t,_,(f.put k F K).keeps λc Z G=>?_,q,O,N,j,P,R,S,T⟩
  rw[ZS (ZV G e (λz=>nomatch z))];exact G
end
section
variable{kj:js}{σ:St}{H:Hp}{a:ak}{kvs:List (Zb×V)}{k:Zb}{u:aj}
def ZRf{v:V}{b:je}{Q:ja}(I:ZF X kj σ H s)(e:H a=some (.dK kvs))(j:ZQ (kV k) u)(l:YR kvs k=some v)(n:b=[]\/∃ x,b=[x])(h:∀ f p,ZF X kj σ (upd H a (.dK (Qy kvs k))) p->ZQ v f->Q f p):aC (aB X.prog X.w) A (call (.builtin "dict.pop") (.ref a::u::b)) Q E s:=by
 obtain⟨z,C,r,c,m⟩:=Nh I.hok e;obtain⟨f,K,g⟩:=Yl.some_of (v:=v) (o:=valueAt r k) (by rw[<-l];exact c.val k)
 have G:(keyPart u).isSome=true:=by
  cases k with
  | inl i=>obtain⟨t,q⟩:=(show ∃ t,u=Value.int i t from j);subst q;rfl
  | inr x=>obtain⟨t,q⟩:=(show ∃ t,u=Value.str x t from j);subst q;rfl
 have B:argsOk "dict.pop" ⟨.ref a::u::b,[]⟩:=by
  rcases n with q | ⟨x,q⟩
  ·subst q;exact PySem.F.args_dict_pop_2 _ _
  ·subst q;exact PySem.F.args_dict_pop_3 _ _ _
 refine call_meetsIn zEA m.typeIs PySem.F.entry_dict_pop B (meets_dict_pop_there (V0 X.prog X.w) a (Np j) b n G)
  ⟨r,f,m,by rw[<-c.length];exact z,K,λy d J=>h f _ ?_ g⟩
 have D:∃ q,y.get? a=some q:=let ⟨q,_,_,hq,_⟩:=d;⟨q,hq⟩;exact Mz I (by rw[e];exact True.intro) J D (Gg (zS (C2 kvs k) z) C (c.drop k) d)
def ZQz{Q:ja}(I:ZF X kj σ H s)(e:Rd H a (.dK kvs))(h:∀ t c,ZF X kj σ H c->Q (.int kvs.length t) c):aC (aB X.prog X.w) A (call (.builtin "len") [.ref a]) Q E s:=by
 obtain⟨z,f,g,b,d⟩:=NJ I.hok e;refine call_len_dict f d (by rw[<-b.length];rw[sizeLine_eq] at z;lia (splits:=8)) ?_
 rw[<-b.length];exact h _ _ (I.tok _)
end
def LI(i:Expr):Prop:=∀ a iv,subscripted i false a iv=operate [a,iv] (getItem a iv)
def CF{a:am}{w:ax}{A:ay}{E:ja}{s:al}{j:Env}{c b:Expr}{pos:Pos}{T id:String}{Q:ja}(p:typeLookup (.type T) "__getitem__" = pure (some (.builtin id)))(q:LI b)(h:aC (aB a w) A (aH c j) (λo f=>aC (aB a w) A (aH b j) (λi d=>d.TypeIs o T/\aC (aB a w) A (getItem o i) Q E d) E f) E s):
  aC (aB a w) A (aH (.Subscript c b pos) j) Q E s:=by
 refine Subscript_ (ae h (λo f l=>ae l (λi d e=>?_) λ_ _ x=>x) λ_ _ x=>x);obtain⟨n,e⟩:=e;unfold subscriptTail;refine aa ?_;rw[getitemInPython_of_ne n.not_modules];refine aa (wpAny_specialOf n p ?_);have k:aC (aB a w) A (subscripted b false o i) (λr g=>aC (aB a w) A (letTemporaryGo c o r >>= λ_=>pure r) Q E g) E d:=by
  rw[q o i];exact wpAny_operating (ae e (λr g m=>aa (wpAny_letTemporaryGo (ad m))) λ_ _ x=>x)
 first
  | exact ad (aa k)
  | exact aa (ad (aa k))
  | exact aa k
def ZGf{X:Cx}{c:js}{h:St}{H:Hp}{s:al}{a:ak}{y:V}{o:jg}(I:ZF X c h H s)(g:Yk H a y o):s.TypeIs (.ref a) "dict" :=by
 rcases g with ⟨f,k,e,_,_⟩ | ⟨f,k,b,e,_,_,_⟩
 ·obtain⟨_,_,i,_,d⟩:=NJ I.hok e;exact d.typeIs
 ·obtain⟨_,_,j,_,d⟩:=Nv I.hok e;exact d.typeIs
inductive OQ(Q:VK)(x y:V)(b:Hp):Prop
 |mk(a v:_)(_:x=.ref a)(_:Yk b a y (some v))(_:Q v b)
def ZRu(d e:TE):TE:=λa H Q=>d a H λx b=>e a b λy c=>OQ Q x y c
inductive U6(Q:VK)(y x:V)(b:Hp):Prop
 |mk(a o:_)(_:x=.ref a)(_:Yk b a y o)(_:Q (.bl (!o.isSome)) b)
def ZOw(e d:TE):TE:=λa H Q=>e a H λy b=>d a b λx c=>U6 Q y x c
inductive OZ(D:Z8)(d:L2.St)(v x y:V)(c:Hp):Prop
 |mk(a b:_)(_:x=.ref a)(_:Uk c a y v b)(_:D.nx d b)
def ZRo(e g f:TE):TS:=λD a H=>f a H λv b=>e a b λx c=>g a c λy d=>OZ D a v x y d
section
variable{o i e value:Expr}{pos pos' tpos:Pos}{td ty tv:TE}
def PD(t:X.A.units+1<cLine)(q:PE X o td)(p:PE X i ty)(r:LI i:=by exact λ_ _=>rfl):PE X (.Subscript o i pos) (ZRu td ty):=by
 intro b s f H Q I h;refine CF qA.lookup r (Z7 (q b s f H _ I h) λu D x j l B w=>Zz (p b D f j _ l w) ?_);rintro iv E ⟨y,k,d,C,a,v,n,g,z⟩;subst n;obtain rfl:u=Value.ref a:=B;exact⟨ZGf d g,ZJc t d g C λJ G m c=>⟨v,k,m,c,z⟩⟩
def IW(q:X.A.units+1<cLine)(n:PE X i ty)(p:PE X o td):PC X .NotIn i o (ZOw ty td):=by
 intro b s c H Q I h;refine Z7 (n b s c H _ I h) λiv B y d j z t=>Zz (p b B c d _ j t) ?_;rintro u C ⟨x,f,k,w,a,r,m,g,v⟩;subst m;obtain rfl:u=Value.ref a:=w;exact Ah q k g z λD l=>⟨.bl (!r.isSome),f,l,rfl,v⟩
def Fk(z:X.A.units+1<cLine)(t:PE X o td)(q:PE X i ty)(B:PE X value tv)(w:swapsWith value (some (.Subscript o i pos')) pos.line X.env=pure false):
  PS X (.Assign [.Subscript o i pos'] value pos) (ZRo td ty tv):=by
 intro b s c H D I h;refine wpAny_Assign_Subscript (Z7 (B b s c H _ I h) λr L v d k G C=>Z7 (t b L c d _ k C) λu M x f l J E=>Zz (q b M c f _ l E) λiv O ⟨y,N,m,K,a,j,p,g,F⟩=>?_) w;subst p;obtain rfl:u=Value.ref a:=J;exact ZI5 z m g K G λP n=>⟨c,j,n,F⟩
end
section
variable{pos:Pos}
end
structure M1(X:Cx)(o:Expr)(m:Str)(jh:Pos)(e:Expr)(ji:Pos):Prop where
 base:attributeBase o m X.env (aH o X.env)=aH o X.env
 few:((aG ji (aw [e] X.env)).all (λx=>!x.1)&&(backToKw ji (keywordEach [] X.env)).all (λx=>x.1.isSome)
  && decide (([e]:jB).length+([]:List Keyword).length+(if ([]:List Keyword).isEmpty then 0 else 1)<30))=true
 line:(jh.endLine==ji.line)=true
 trees:aG ji (aw [e] X.env)=[(false,aH e X.env)]
def GJ(H:Hp)(a:ak):Prop:=(∃ b,Rd H a (.dK b))\/∃ b,Rd H a (.dT b)
def Cs{X:Cx}{g:js}{l:St}{H:Hp}{s:al}{a:ak}(I:ZF X g l H s)(d:GJ H a):
  s.TypeIs (.ref a) "dict" /\ (∀ b,Value.ref a=.ref b->∃ c,s.heap.get? b=some c/\c.dict=none)/\(a==sysModules)=false:=by
 rcases d with ⟨k,e⟩ | ⟨k,e⟩
 ·obtain⟨_,j,m,_,f⟩:=NJ I.hok e;refine⟨f.typeIs,λb q=>?_,j⟩;cases q;obtain⟨c,_,_,h,i,_⟩:=f;exact⟨c,h,i.2.1⟩
 ·obtain⟨_,j,n,_,f⟩:=Nv I.hok e;refine⟨f.typeIs,λb q=>?_,j⟩;cases q;obtain⟨c,_,_,h,i,_⟩:=f;exact⟨c,h,i.2.1⟩
section
variable{kj:js}{σ:St}{H:Hp}{a:ak}{y d:V}{u r:aj}{o:jg}
end
inductive Q5(e:TE)(f:L2.St)(Q:VK)(x:V)(c:Hp):Prop
 |mk(a:_)(_:x=.ref a)(_:GJ c a)(_:e f c λy d=>∃ b k v,d a=some (.dK b)/\y=kV k/\YR b k=some v/\Q v (upd d a (.dK (Qy b k))))
def ZQM(c d:TE):TE:=λa H Q=>c a H λx b=>Q5 d a Q x b
section
variable{o e f:Expr}{jh ji:Pos}{td ty tx:TE}
def AB(z:PE X o td)(w:PE X e ty)(m:M1 X o "pop" jh e ji):PE X (.Call (.Attribute o "pop" jh) [e] [] ji) (ZQM td ty):=by
 intro b s i H Q I h;refine wpAny_Call_method m.base m.few m.line PySem.F.plainAttrs_dict zEA PySem.F.type_dict_pop (Zz (z b s i H _ I h) ?_);rintro u G ⟨x,j,g,D,a,r,d,B⟩;subst r;obtain rfl:u=Value.ref a:=D;obtain⟨J,K,_⟩:=Cs g d;exists J,K;rw[m.trees];refine Calls.callWith_builtin rfl (Calls.evalArgs_plain (Calls.spliced_cons (Zz (w b G i j _ g B) λiv M ⟨y,L,n,E,A,k,v,q,t,l,C⟩=>Calls.spliced_nil ?_)));subst t;exact ZRf n q E l (.inl rfl) λO N p c=>⟨v,_,p,c,C⟩
end
section
variable{kj:js}{σ:St}{H:Hp}{a:ak}{kvs:List (Zb×V)}
end
section
variable{kj:js}{σ:St}{H:Hp}{a:ak}{y:V}{u:aj}
end
inductive UD(c:jf)(H:Hp)(Q:VK):Prop
 |mk(a b:_)(_:c=[V.ref a])(_:H a=some (.dK b))(_:Q (.int b.length) H)
def AF:Wu X (.builtin "len") (UD):=by
 intro c s k H j i Q I r h;obtain⟨a,b,rfl,e,q⟩:=h;obtain⟨u,rfl,f⟩:=Vp r;cases f;exact ZQz I (.inl e) λt g d=>⟨.int b.length,H,d,⟨t,rfl⟩,q⟩
section
variable{κ:Type}[DecidableEq κ]
def ZL9{a:List (κ×V)}{k:κ}(h:YR a k=none):¬ k∈a.map (·.1):=by
 intro m;obtain⟨p,b,e⟩:=zM.mp m;have q:(a.any λkv=>decide (kv.1=k))=true:=uM.mpr ⟨p,b,aK e⟩;rw[Oz,h] at q;exact absurd q (by simp)
def F5{a:List (κ×V)}{k:κ}{v:V}(h:YR a k=some v):k∈a.map (·.1):=by
 have q:(a.any λkv=>decide (kv.1=k))=true:=by
  rw[Oz,h]
  all_goals rfl
 obtain⟨p,b,e⟩:=uM.mp q;exact zM.mpr ⟨p,b,of_decide_eq_true e⟩
end
end L2
namespace Tw
open PySem PySem.Spec L2 PyProof.Rows
def NO(d:ak)(a:Array DictEntry):HO:=.ext λh=>(d==sysModules)=false/\a.size<=ar/\∃ o b,h.get? d=some o/\o.ExactDict/\o.data=.dict a b
abbrev NC(w:ax)(x:KT×V×V)(e:DictEntry):Prop:=e.hash=X6 w x.1/\ZQ x.2.1 e.key/\ZQ x.2.2 e.val
structure YM(w:ax)(H:Hp)(d:ak)(xs:List (KT×V×V)):Prop where
 ex:∃ es,H d=some (NO d es)/\Paired (NC w) xs es.toList
 key:∀ x∈xs,ZD H x.1 x.2.1/\x.1.depth<=3
 nd:(xs.map (·.1)).Nodup
def E6{P:am}{w:ax}{H:Hp}{h:aE}{d:ak}{e:Array DictEntry}(i:(d==sysModules)=false)(j:e.size<=ar)(f:∃ o c,h.get? d=some o/\o.ExactDict/\o.data=.dict e c):Ze P w H h d (NO d e):=by
 exists ⟨i,j,f⟩,?_
 ·obtain⟨o,c,g,_⟩:=f;exact⟨o,g⟩
 ·rintro a b ⟨l,m,o,c,g,r⟩ k;exact⟨l,m,o,c,k o g,r⟩
def Ow{d c:Type}{F:d->c->Prop}:∀{l:List d}{m:List c}{i:Nat}{b:c},Paired F l m->m[i]? = some b->∃ a,l[i]? = some a/\F a b
 | _,_,_,_,.nil,e=>by simp at e
 | _,_,0,_,.cons r _,e=>by simp at e;subst e;exact⟨_,rfl,r⟩
 | _,_,i+1,b,.cons _ t,e=>by
  obtain⟨a,f,g⟩:=Ow (i:=i) (b:=b) t (by simpa using e)
  exact⟨a,by simpa using f,g⟩
def JM{c d:Type}{F:c->d->Prop}:∀{l:List c}{m:List d},l.length=m.length->(∀(i:Nat) a b,l[i]? = some a->m[i]? = some b->F a b)->Paired F l m
 | [],[],_,_=>.nil
 | [],_::_,h,_=>by simp at h
 | _::_,[],h,_=>by simp at h
 | a::l,b::m,h,f=>.cons (f 0 a b rfl rfl) (JM (by simpa using h) λi x y e g=>f (i+1) x y (by simpa using e) (by simpa using g))
def Md{c d:Type}{F:c->d->Prop}{a:c}{b:d}(h:F a b){l:List c}{m:List d}(g:Paired F l m):Paired F (l++[a]) (m++[b]):=by
 induction g with
 | nil=>exact .cons h .nil
 | cons r _ e=>exact .cons r e
def Pl(a:List (KT×V×V))(t:KT):jg:=(a.find? λx=>x.1.eqb t).map (·.2.2)
def NF(t:KT)(v:V)(x:KT×V×V):KT×V×V:=if x.1.eqb t=true then (x.1,x.2.1,v) else x
def U1(a:List (KT×V×V))(t:KT)(y v:V):List (KT×V×V):=if (a.any λx=>x.1.eqb t)=true then a.map (NF t v) else a++[(t,y,v)]
def X1{b:List (KT×V×V)}{t:KT}:(b.any λx=>x.1.eqb t)=true ↔ t∈b.map (·.1):=by
 rw[uM,zM];constructor
 ·rintro⟨x,a,e⟩;exact⟨x,a,QZ _ _ e⟩
 ·rintro⟨x,a,e⟩;exact⟨x,a,by rw[e];exact QF _⟩
def Hg(t:KT)(v:V)(x:KT×V×V):(NF t v x).1=x.1/\(NF t v x).2.1=x.2.1:=by
 unfold NF;split <;> exact⟨rfl,rfl⟩
def Kb(a:List (KT×V×V))(t:KT)(y v:V):(U1 a t y v).map (·.1)=if (a.any λx=>x.1.eqb t)=true then a.map (·.1) else a.map (·.1)++[t]:=by
 unfold U1;split
 ·rw[xO];exact uC λx _=>(Hg t v x).1
 ·rw[zE];rfl
def ZMw(a:List (KT×V×V))(t:KT)(y v:V):(U1 a t y v).length<=a.length+1:=by
 have:=congrArg wQ (Kb a t y v);rw[zX] at this;rw[this];split
 ·rw[zX];lia
 ·rw[zW,zX];simp
def CI{a:List (KT×V×V)}(c:(a.map (·.1)).Nodup){j:Nat}{x:KT×V×V}(e:a[j]? = some x):Pl a x.1=some x.2.2:=by
 induction a generalizing j with
 | nil=>simp at e
 | cons z a f=>
  rw[yR,xJ] at c
  cases j with
  | zero=>
   simp at e;subst e;simp[Pl,QF]
  | succ j=>
   have d:a[j]? = some x:=by simpa using e
   have b:z.1.eqb x.1=false:=by
    cases q:z.1.eqb x.1 with
    | false=>rfl
    | true=>exact absurd (zM.mpr ⟨x,zK d,(QZ _ _ q).symm⟩) c.1
   have:=f c.2 d;simpa [Pl,vK,b] using this
def ZKU{a:List (KT×V×V)}{t:KT}(h:t∉a.map (·.1)):Pl a t=none:=by
 unfold Pl;rw[Option.map_eq_none_iff,List.find?_eq_none];intro x b z;exact h (zM.mpr ⟨x,b,QZ _ _ z⟩)
def YM.same{w:ax}{H a:Hp}{d:ak}{c:List (KT×V×V)}(x:YM w H d c)(s:ZC H a):YM w a d c:=by
 obtain⟨e,f,g⟩:=x.ex;exact⟨⟨e,s _ _ f,g⟩,λz b=>⟨(x.key z b).1.mono (ZC.tups s),(x.key z b).2⟩,x.nd⟩
def YM.but{w:ax}{H H':Hp}{d p:ak}{b:List (KT×V×V)}(x:YM w H d b)(s:ZE p H H')(t:Z3 H H')(n:d≠p):YM w H' d b:=by
 obtain⟨c,e,f⟩:=x.ex;exact⟨⟨c,s _ _ e n,f⟩,λz a=>⟨(x.key z a).1.mono t,(x.key z a).2⟩,x.nd⟩
section
variable{kj:js}{σ:L2.St}{H:Hp}
def YM.es{d:ak}{a:List (KT×V×V)}{c:Array DictEntry}(I:ZF X kj σ H s)(x:YM X.w H d a)(r:Paired (NC X.w) a c.toList):NQ X.w s.heap (a.map (·.1)) c:=by
 refine⟨by have:=Paired.length r;simpa using this.symm,λi e f=>?_,x.nd⟩
 rw[<-yY] at f;obtain⟨z,b,h,j,k⟩:=Ow r f;have g:=x.key z (zK b);exact⟨z.1,by rw[zD,b];rfl,h,Vt I _ _ _ g.1 j,g.2⟩
def Gm{d:ak}{f:List (KT×V×V)}{b:Array DictEntry}{o:aI}{q:Nat}{t:KT}{y:V}{u:aj}{Q:jq->al->Prop}(I:ZF X kj σ H s)(x:YM X.w H d f)(r:Paired (NC X.w) f b.toList)(B:s.heap.get? d=some o)(v:o.data=.dict b q)(D:ZD H t y)(m:t.depth<=3)(G:ZQ y u)(C:A.units+3<cLine)(h:t∉f.map (·.1)->Q none s)(c:∀ j z e,f[j]? = some z->z.1=t->b[j]? = some e->NC X.w z e->Q (some j) s):aC (aB X.prog X.w) A (dictFind d u (X6 X.w t)) Q E s:=by
 refine ZOC (Vt I t y u D G) m C B v (x.es I r) h λj l=>?_;rw[zD] at l;obtain⟨z,g,n⟩:=xR.mp l;have F:j<b.size:=by
  have:=Paired.length r;obtain⟨a,_⟩:=yT.mp g;simp at this
  lia
 have i:b[j]? = some b[j]:=xV F;obtain⟨J,k,p⟩:=Ow r (by rw[yY];exact i)
 rw[g] at k;cases k;exact c j z _ g n i p
def AO{d:ak}{l:List (KT×V×V)}{t:KT}{y v:V}{u r:aj}{Q:Unit->al->Prop}(hu:A.units+4<cLine)(I:ZF X kj σ H s)(x:YM X.w H d l)(hl:l.length<1000)(hy:ZD H t y)(dt:t.depth<=3)(ry:ZQ y u)(rv:ZQ v r)(h:∀ s' H',ZF X kj σ H' s'->ZE d H H'->YM X.w H' d (U1 l t y v)->Q () s'):aC (aB X.prog X.w) A (setItem (.ref d) u r) Q E s:=by
 obtain⟨p,hH,k⟩:=x.ex;obtain⟨⟨O,P,o,W,F,hx,B⟩,_⟩:=I.hok d _ hH;have S:p.size=l.length:=by have:=Paired.length k;simpa using this.symm
 have Z:s.TypeIs (.ref d) "dict" :=⟨o,F,hx.1⟩;unfold setItem
 try with_reducible refine af ?_
 refine aa (wpAny_sequenceKey Z (by decide) ?_)
 refine aa (wpAny_callSpecial?_slot (name:=yE "__setitem__") Z slot_dict_setitem (wpAny_call_entry slot_dict_setitem Z entry_dict_setitem ?_ (args_dict_setitem _ _ _)));show aC _ _ (Builtin.Dict.notOrdered "__setitem__" ⟨[.ref d,u,r],[]⟩ >>= _) _ _ s;refine aa (wpAny_notOrdered_dict Z ?_);show aC _ _ (dictSet d u r >>= _) _ _ s;refine aa ?_;unfold dictSet
 try with_reducible refine af ?_
 refine aa (JN t.depth t (zY _) (Vt I t y u hy ry) (by show A.units+1+_<_;lia) λT a1=>?_)
 unfold dictSetHashed
 try with_reducible refine af ?_
 have I1:ZF X kj σ H { s with toks:=T }:=I.tok T;have mu:Nc (H d):=by rw[hH];exact True.intro
 have f:∀ c,Z3 H (upd H d (NO d c)):=λc b ws e=>by rw[ZS (ZV e hH)];exact e
 have L:∀(c:Array DictEntry)(Y:aE),c.size<=ar->yD d s.heap Y->(∃ o W,Y.get? d=some o/\o.ExactDict/\o.data=.dict c W)->Paired (NC X.w) (U1 l t y v) c.toList->Q () { s with heap:=Y,toks:=T }:=λc Y G hs N hp=>by
  refine h _ (upd H d (NO d c)) (Mz I mu hs (by obtain⟨o,_,g,_⟩:=N;exact⟨o,g⟩) (E6 O G N)) (λb o e n=>by rw[ZS n];exact e) ⟨⟨c,ZM,hp⟩,λz G=>?_,?_⟩
  ·unfold U1 at G;split at G
   ·obtain⟨z',R,rfl⟩:=zM.mp G;rw[(Hg t v z').1,(Hg t v z').2];exact⟨(x.key z' R).1.mono (f c),(x.key z' R).2⟩
   ·rcases yQ.mp G with q | q
    ·exact⟨(x.key z q).1.mono (f c),(x.key z q).2⟩
    ·rw[zB.mp q];exact⟨hy.mono (f c),dt⟩
  ·rw[Kb];split
   ·exact x.nd
   ·rename_i hn
    rw[uI];exact⟨x.nd,by simp,λa ha b m=>by rw[zB.mp m];exact λz=>hn (X1.mpr (z ▸ ha))⟩
 refine aa (Gm (A:=A.in1) I1 x k F B hy dt ry (by show A.units+1+3<_;lia) (λhn=>?_) λj z e e1 U e3 e4=>?_)
 ·have D:¬ (l.any λx=>x.1.eqb t)=true:=λq=>hn (X1.mp q);refine aa (ai (wpAny_updateDictKeys (s:={ s with toks:=T }) (hz:=P) F B ?_));refine ad ⟨.none,rfl,ad (L (p.push ⟨X6 X.w t,u,r⟩) _ (by rw[Array.size_push,S];exact yG (Yq ∅)) (yD.update ..) ⟨_,W+1,vM _ F (Obj.isFreed_of_dict (Obj.data_mapDictKeys B _)),hx.mapDictKeys _,Obj.data_mapDictKeys B _⟩ ?_)⟩
  unfold U1;rw[aM D,vP];exact Md ⟨rfl,ry,rv⟩ k
 ·have D:(l.any λx=>x.1.eqb t)=true:=X1.mpr (zM.mpr ⟨z,zK e1,U⟩);refine aa (ai (aa (wpAny_updateDict (s:={ s with toks:=T }) F B (wpAny_point ?_))));refine ad ⟨.none,rfl,ad (L (p.modify j λe=>{ e with val:=r }) _ (by rw[Array.size_modify];exact P) (yD.update ..) ⟨_,W,vM _ F (Obj.isFreed_of_dict (Obj.data_mapDict B _)),hx.mapDict _,Obj.data_mapDict B _⟩ ?_)⟩
  unfold U1;rw[aO D];have lm:(p.modify j λe=>{ e with val:=r }).toList.length=p.size:=by rw[yP];exact Array.size_modify
  refine JM (by rw[lm,zX,S]) λi a b ha m=>?_
  rw[zD] at ha;obtain⟨a',J,rfl⟩:=xR.mp ha;rw[yY,Array.getElem?_modify] at m;have M:p[i]? = some (p[i]'(by obtain⟨l1,_⟩:=yT.mp J;lia)):=xV _
  obtain⟨a2,K,r1,r2,r3⟩:=Ow k (by rw[yY];exact M)
  rw[J] at K;cases K;rw[M] at m;by_cases C:j=i
  ·subst C;rw[aO rfl,wA] at m;cases m;rw[e1] at J;cases J;unfold NF;rw[U,QF,aO rfl];rw[U] at r1;exact⟨r1,r2,rv⟩
  ·rw[aM C] at m;cases m;have a0:a'.1.eqb t=false:=by
    cases q:a'.1.eqb t with
    | false=>rfl
    | true=>
     have q1:(l.map (·.1))[i]? = some t:=by rw[zD,J];exact congrArg some (QZ _ _ q)
     have q2:(l.map (·.1))[j]? = some t:=by rw[zD,e1];exact congrArg some U
     obtain⟨l1,_⟩:=yT.mp q2;exact absurd ((rP l1 x.nd).mp (q2.trans q1.symm)) C
   unfold NF;rw[a0,aM zV];exact⟨r1,r2,r3⟩
end
end Tw
namespace L2
open PySem PySem.Spec PyProof.Rows
section
variable{T:String}{r d:ak}{n:Nat}{P:Nat->aj->Prop}{OK:aE->Prop}
def Ae{R:Result->al->Prop}(K:sC prog w T r d n P OK)(l:A.handled=none)(h:OK s.heap)(S:ak)(g:S≠r)(f:S≠d)(c:Nat)(k:s.heap.get? S=some { cls:=.type "list",data:=.seq #[] c })(j:∀ e p a i,(∀ b o,b≠S->s.heap.get? b=some o->e.get? b=some o)->e.get? S=some { cls:=.type "list",dict:=none,data:=.seq a i,slots:=#[] }->ItemsOf P a n->R (.ok (.ret (.ref S))) { s with heap:=e,toks:=p })(m:n<=ar):
  codeAny (aB prog w) A (.builtin "list.__iadd__" ⟨[.ref S,.ref r],[]⟩) R s:=by
 refine codeAny_builtin PySem.F.entry_list_iadd ?_;rw[Around.under_plainId qF _];exact PySem.W.kdl_extend (R:=R) K l h S g f (.ref S) c k j m
def ZG3{Q:je->al->Prop}(K:sC prog w T r d n P OK)(q:A.handled=none)(j:OK s.heap)(u:n<=ar)(m:∀ f k a,(∀ b o,s.heap.get? b=some o->f.get? b=some o)->s.heap.objs.size<f.objs.size->ItemsOf P a n->Q a.toList { s with heap:=f,toks:=k }):aC (aB prog w) A (collect (.ref r)) Q E s:=by
 have i:=K.there _ j;unfold collect;refine aa (wpAny_runValue (codeAny_builtin PySem.F.entry_proto_collect ?_));rw[Around.under_plainId PySem.F.plain_proto_collect _];show aC _ A.in1 (newList [] >>= λl=>again (.builtin "list.__iadd__" ⟨[l,.ref r],[]⟩)) _ _ s;refine aa (wpAny_newObj_type ?_);have p:(s.heap.push { cls:=.type "list",data:=.seq ([]:je).toArray }).get? s.heap.objs.size=some { cls:=.type "list",data:=.seq #[] 0 }:=yO _ rfl;refine ad ⟨plainId_quiet qF _,Ae (s:={ s with heap:=s.heap.push { cls:=.type "list",data:=.seq ([]:je).toArray } }) K q (K.keep _ _ j λb _ o e=>zO _ e) s.heap.objs.size (tM i.1) (tM i.2) _ p (λf k c v t g h=>?_) u⟩;show aC _ A (load s.heap.objs.size >>= _) _ _ _;refine aa (wpAny_load g ?_);exact ad (m f k c (λb o e=>t b o (yU (zN e)) (zO _ e)) (zN g) h)
end
def ZKG:∀{c:List (Zb×V)}{g:List (Zb×aj)}{d:jt},KV c g->c.map (·.1)=d.map Sum.inl->∀ b:je,b.length=g.length->(∀(i:Nat)(v:aj),b[i]? = some v->∃(k:Zb)(x:aj),g[i]? = some (k,x)/\OH k v=true)->IntsAre b d:=by
 intro c g d h e b l p;have f:=KV.keys h;rw[e] at f;clear e h
 induction g generalizing d b with
 | nil=>
  cases b with
  | nil=>
   cases d with
   | nil=>exact .nil
   | cons _ _=>simp at f
  | cons _ _=>simp at l
 | cons q r y=>
  cases b with
  | nil=>simp at l
  | cons a b=>
   cases d with
   | nil=>simp at f
   | cons n d=>
    simp only[yR,List.cons.injEq] at f;obtain⟨k,x,o,u⟩:=p 0 a rfl;simp only[List.getElem?_cons_zero,zG.injEq] at o;subst o;have j:Sum.inl n=k:=f.1;subst j;obtain⟨i,t,m,s⟩ | ⟨i,t,m,s⟩:=Qv u
    ·cases m;subst s;exact .cons _ _ (y b (by simpa using l) (λi v w=>by simpa using p (i+1) v (by simpa using w)) f.2)
    ·cases m
def Fo:∀{b:je}{a:jt},IntsAre b a->ZO (a.map V.int) b:=λh=>Er h
def KI:az "sorted" = some (.builtin "sorted"):=by decide +kernel
section
variable{T:String}{r d:ak}{n:Nat}{P:Nat->aj->Prop}{OK:aE->Prop}
end
class Ko where
 k0:SortKind
 k1:jW->Int
 k2:jW->Prop
section
variable[κ:Ko]
abbrev U0:SortKind:=κ.k0
abbrev kv(p:jW):Int:=κ.k1 p
abbrev Ux(p:jW):Prop:=κ.k2 p
class KoOk (prog:am) (w:ax) (A:ay) (s:al):Prop where
 lt:∀{E:ja}{p q:jW}{Q:Bool->al->Prop},Ux p->Ux q->Q (decide (kv p<kv q)) s->aC (aB prog w) A (keyLt' U0 p.1 q.1) Q E s
def Kk(a:jo)(i:Nat):Int:=match a[i]? with
 | some p=>kv p
 | none=>0
def Qt(a:jo)(k:Nat):Prop:=∀ i j,i<=j->j<k->Kk a i<=Kk a j
def Wf(a:jo):Prop:=∀ p,p∈a.toList->Ux p
def Ik{a b:jo}{i j:Nat}(h:a[i]? = b[j]?):Kk a i=Kk b j:=by unfold Kk;rw[h]
def ET{b:jo}{a d:Nat}(g:a<b.size)(f:d<=a)(k:Nat):Kk (bubble b a d) k=if k=a-d then Kk b a else if a-d<k/\k<=a then Kk b (k-1) else Kk b k:=by
 unfold Kk;rw[getElem?_bubble g d f k];by_cases c:k=a-d
 ·rw[aO c,aO c]
 rw[aM c,aM c];by_cases e:a-d<k/\k<=a
 ·rw[aO e,aO e]
 ·rw[aM e,aM e]
def D6{a:jo}{i j:Nat}(b:j<=a.size)(k:Nat):Kk (mirror a i j ((j-i) / 2)) k=if i<=k/\k<j then Kk a (i+j-1-k) else Kk a k:=by
 unfold Kk;rw[getElem?_mirror_all b k];by_cases h:i<=k/\k<j
 ·rw[aO h,aO h]
 ·rw[aM h,aM h]
def CC{a:jo}{i j:Nat}(b:j<=a.size)(h:∀ k,i<=k->k<j->Kk a k=Kk a (j-1))(k:Nat):Kk (mirror a i j ((j-i) / 2)) k=Kk a k:=by
 rw[D6 b];split
 ·rw[h _ ∅ ∅,h k ∅ ∅]
 ·rfl
def gallop':Bool->jW->jo->Nat->Nat->Nat->StateT jS Sem (jq):=sortPriv% PySem.Builtin.gallop
section
variable{α:Type}{x y:StateT jS Sem α}{Q:α->jS->Prop}{st:jS}
def VL{c:Prop}{_:Decidable c}(h:c->wpS (aB prog w) A E s x Q st)(g:¬c->wpS (aB prog w) A E s y Q st):wpS (aB prog w) A E s (if c then x else y) Q st:=by
 by_cases z:c
 ·rw[aO z];exact h z
 ·rw[aM z];exact g z
def NG{c:Prop}{_:Decidable c}(h:c->wpS (aB prog w) A E s x Q st)(g:¬c->wpS (aB prog w) A E s y Q st):wpS (aB prog w) A E s (if decide c=true then x else y) Q st:=VL (λz=>h (of_decide_eq_true z)) λz=>g λe=>z (aK e)
def Wc{a b:Nat}(h:a=b->wpS (aB prog w) A E s x Q st)(g:¬a=b->wpS (aB prog w) A E s y Q st):wpS (aB prog w) A E s (if (a==b)=true then x else y) Q st:=VL (λz=>h (eq_of_beq z)) λz=>g λe=>z (by rw[e];exact beq_self_eq_true _)
end
section
variable[KoOk prog w A s]
def Mv{a:jS}{p q:jW}{Q:jL->jS->Prop}(b:kindOf a=U0)(c:Ux p)(d:Ux q)(h:Q (some (decide (kv p<kv q))) a):wpS (aB prog w) A E s (lt' p q) Q a:=by
 rw[lt'_eq];refine jP (wpS_get ?_);rw[b];exact jP (wpS_lift (wpAny_attempt (KoOk.lt c d ⟨rfl,jQ h⟩)))
def LT{a:jS}{b:jo}{i:Nat}{p:jW}{Q:jW->jS->Prop}(e:b[i]? = some p)(h:Q p a):wpS (aB prog w) A E s (elem' b i) Q a:=by
 rw[elem'_eq,e];exact jQ h
def NE{b:Type}{r:String}{f:Unit->StateT jS Sem b}{a:jS}{Q:b->jS->Prop}(h:wpS (aB prog w) A E s (f ()) Q a):wpS (aB prog w) A E s (liftM (rule r) >>= f) Q a:=jP (wpS_lift (ai ⟨rfl,h⟩))
def Ml{a:jo}{i:Nat}(b:Wf a)(c:i<a.size):∃ p,a[i]? = some p/\Ux p/\Kk a i=kv p:=by
 have e:a[i]? = some a[i]:=getElem?_pos a i c;exists _,e,b _ (by simp)
 unfold Kk;rw[e]
section
variable{α:Type}{Q:α->jS->Prop}{st:jS}
def Q7{a:jo}{i:Nat}{p:jW}{f:jW->StateT jS Sem α}(e:a[i]? = some p)(h:wpS (aB prog w) A E s (f p) Q st):wpS (aB prog w) A E s (elem' a i >>= f) Q st:=jP (LT e h)
def U2{a:jo}{i:Nat}{f:jW->StateT jS Sem α}(c:Wf a)(d:i<a.size)(h:∀ p,a[i]? = some p->Ux p->Kk a i=kv p->wpS (aB prog w) A E s (f p) Q st):wpS (aB prog w) A E s (elem' a i >>= f) Q st:=by
 obtain⟨p,e,g,b⟩:=Ml c d;exact Q7 e (h p e g b)
def F6{p q:jW}{f:jL->StateT jS Sem α}(a:kindOf st=U0)(b:Ux p)(c:Ux q)(h:wpS (aB prog w) A E s (f (some (decide (kv p<kv q)))) Q st):wpS (aB prog w) A E s (lt' p q >>= f) Q st:=jP (Mv a b c h)
def Pt{d:Type}{a b:Nat}{F:Nat->d->StateT jS Sem (ForInStep d)}{c:d}{g:d->StateT jS Sem α}(I:Nat->d->jS->Prop)(R:d->jS->Prop)(j:I a c st)(step:∀ i c st,a<=i->i<b->I i c st->wpS (aB prog w) A E s (F i c) (λr f=>match r with | .done c'=>R c' f | .yield c'=>I (i+1) c' f) st)(h:∀ c st,I (max a b) c st->R c st)(e:∀ c st,R c st->wpS (aB prog w) A E s (g c) Q st):wpS (aB prog w) A E s (forIn [a:b] c F >>= g) Q st:=jP (jV (jU I step h j) e)
end
def bK(c:Bool)(b:jW)(a:jo)(i:Nat):Bool:=if c then decide (Kk a i<kv b) else !decide (kv b<Kk a i)
def Ni{d:jS}{a:Bool}{c:jW}{b:jo}{i:Nat}{Q:jL->jS->Prop}(f:kindOf d=U0)(l:Wf b)(m:i<b.size)(j:Ux c)(h:Q (some (bK a c b i)) d):
  wpS (aB prog w) A E s (elem' b i >>= λx=>if a=true then lt' x c else lt' c x >>= λr=>pure (r.map (!·))) Q d:=by
 obtain⟨p,e,g,k⟩:=Ml l m;refine jP (LT e ?_);unfold bK at h;rw[k] at h;cases a
 ·rw[aM (by simp)]
  exact jP (Mv f j g (jQ h))
 ·rw[aO rfl];exact Mv f g j h
def Jv{t:Type}{f:Nat->Option t×Nat×Nat->StateT jS Sem (ForInStep (Option t×Nat×Nat))}{n b a:Nat}{B:Nat->Bool}{o:jS}{Q:Option t×Nat×Nat->jS->Prop}(G:b<=a)(H:a<=n)(D:∀ i,i<b->B i=true)(z:∀ i,a<=i->i<n->B i=false)(d:∀ i j,i<=j->j<n->B j=true->B i=true)(J:∀ x b a (u:ForInStep (Option t×Nat×Nat)->jS->Prop),a<=n->(a<=b->u (.done (none,b,a)) o)->(∀ m,b<=m->m<a->u (.yield (if B m then (none,m+1,a) else (none,b,m))) o)->wpS (aB prog w) A E s (f x (none,b,a)) u o)(h:∀ k,k<=n->(∀ i,i<k->B i=true)->(∀ i,k<=i->i<n->B i=false)->Q (none,k,k) o):wpS (aB prog w) A E s (forIn [0:n] (none,b,a) f) Q o:=by
 refine jU (I:=λx c g=>g=o/\∃ b a,c=(none,b,a)/\b<=a/\a<=n/\a-b<=n-x/\(∀ i,i<b->B i=true)/\∀ i,a<=i->i<n->B i=false) ?_ ?_ ⟨rfl,b,a,rfl,G,H,∅,D,z⟩
 ·rintro x c g _ K ⟨rfl,b,a,rfl,F,e,v,q,r⟩;refine J x b a _ e (λc=>?_) λm p l=>?_
  ·have:b=a:=∅
   subst this;exact h _ e q r
  ·cases y:B m
   ·rw[aM (by simp)]
    exact⟨rfl,b,m,rfl,p,zS (yG l) e,Nat.le_sub_one_of_lt (yW (qY p l) v),q,λi p l=>by
     cases C:B i with
     | false=>rfl
     | true=>rw[d m i p l C] at y;cases y⟩
   ·rw[aO rfl];exact⟨rfl,m+1,a,rfl,l,e,zS (rE (vD p) _) (Nat.sub_le_sub_right v 1),λi c=>d i m (rV c) (yW l e) y,r⟩
 ·rintro c g ⟨rfl,b,a,rfl,F,e,v,q,r⟩;have:b=a:=∅
  subst this;exact h _ e q r
def JI{D:jS}{b:Bool}{g:jW}{f:jo}{a n d:Nat}{Q:jq->jS->Prop}(J:kindOf D=U0)(K:Ux g)(G:Wf f)(Z:a+n<=f.size)(X:d<n)(p:∀ i j,i<=j->j<n->bK b g f (a+j)=true->bK b g f (a+i)=true)(h:∀ k,k<=n->(∀ i,i<k->bK b g f (a+i)=true)->(∀ i,k<=i->i<n->bK b g f (a+i)=false)->Q (some k) D):wpS (aB prog w) A E s (gallop' b g f a n d) Q D:=by
 have y:∀ i j,i<=j->j<n->bK b g f (a+i)=false->bK b g f (a+j)=false:=λi j L M T=>by
  cases e:bK b g f (a+j) with
  | false=>rfl
  | true=>rw[p i j L M e] at T;cases T
 refine jP (Ni J G ∅ K ?_)
 dsimp only;cases U:bK b g f (a+d)
 ·rw[aM (by simp)]
  refine jP (jV (jU (I:=λx c m=>m=D/\∃ l o,c=(none,l,o)/\l<o/\x+1<=o/\l<d+1/\bK b g f (a+(d-l))=false)
   (Q:=λc m=>m=D/\∃ l o,c=(none,l,o)/\l<o/\l<d+1/\bK b g f (a+(d-l))=false/\(d+1<=o\/bK b g f (a+(d-o))=true)) ?_ ?_ ⟨rfl,0,1,rfl,∅,∅,∅,U⟩) ?_)
  ·rintro x c m _ Y ⟨rfl,l,o,rfl,t,F,q,r⟩;dsimp only;refine VL (λc=>?_) λc=>?_
   ·exact jQ ⟨rfl,l,o,rfl,t,q,r,.inl c⟩
   refine jP (Ni J G ∅ K ?_)
   dsimp only;cases u:bK b g f (a+(d-o))
   ·rw[aM (by simp)]
    exact jQ ⟨rfl,o,2 * o+1,rfl,∅,∅,∅,u⟩
   ·rw[aO rfl];exact jQ ⟨rfl,l,o,rfl,t,q,r,.inr u⟩
  ·rintro c m ⟨rfl,l,o,rfl,t,F,q,r⟩;exact⟨rfl,l,o,rfl,t,q,r,.inl ∅⟩
  ·rintro c m ⟨rfl,l,o,rfl,t,F,q,r⟩;dsimp only;refine jP (Jv (B:=λi=>bK b g f (a+i)) (zS (rE (Nat.le_min.mpr ⟨t,F⟩) _) (vT (Nat.add_sub_add_right d 1 l))) (zS (vU _ _) (yG X)) (λi c=>?_) (λi L M=>y _ _ L M q) p (λx v H V W N O=>?_) λk P R S=>jQ (h k P R S))
   ·rcases r with z | z
    ·rw[Nat.min_eq_right z,Nat.sub_self] at c;exact absurd c (xM _)
    ·exact p i _ ∅ ∅ z
   ·dsimp only;refine VL (λc=>?_) λc=>?_
    ·exact jQ (N c)
    ·refine jP (Ni J G ∅ K ?_)
     have C:=O (v+(H-v) / 2) ∅ ∅
     cases u:bK b g f (a+(v+(H-v) / 2)) <;> rw[u] at C
     ·exact jQ C
     ·exact jQ C
 ·rw[aO rfl];refine jP (jV (jU (I:=λx c m=>m=D/\∃ l o,c=(none,l,o)/\l<o/\x+1<=o/\l<n-d/\bK b g f (a+(d+l))=true)
   (Q:=λc m=>m=D/\∃ l o,c=(none,l,o)/\l<o/\l<n-d/\bK b g f (a+(d+l))=true/\(n-d<=o\/bK b g f (a+(d+o))=false)) ?_ ?_ ⟨rfl,0,1,rfl,∅,∅,∅,U⟩) ?_)
  ·rintro x c m _ Y ⟨rfl,l,o,rfl,t,F,q,r⟩;dsimp only;refine VL (λc=>?_) λc=>?_
   ·exact jQ ⟨rfl,l,o,rfl,t,q,r,.inl c⟩
   refine jP (Ni J G ∅ K ?_)
   dsimp only;cases u:bK b g f (a+(d+o))
   ·rw[aO (by simp)]
    exact jQ ⟨rfl,l,o,rfl,t,q,r,.inr u⟩
   ·rw[aM (by simp)]
    exact jQ ⟨rfl,o,2 * o+1,rfl,∅,∅,∅,u⟩
  ·rintro c m ⟨rfl,l,o,rfl,t,F,q,r⟩;exact⟨rfl,l,o,rfl,t,q,r,.inl ∅⟩
  ·rintro c m ⟨rfl,l,o,rfl,t,F,q,r⟩;dsimp only;refine jP (Jv (B:=λi=>bK b g f (a+i)) ∅ ∅ (λi c=>p i _ ∅ ∅ q) (λi L M=>?_) p (λx v H V W N O=>?_) λk P R S=>jQ (h k P R S))
   ·rcases r with z | z
    ·lia
    ·exact y (d+o) i ∅ ∅ z
   ·dsimp only;refine VL (λc=>?_) λc=>?_
    ·exact jQ (N c)
    ·refine jP (Ni J G ∅ K ?_)
     have C:=O (v+(H-v) / 2) ∅ ∅
     cases u:bK b g f (a+(v+(H-v) / 2)) <;> rw[u] at C
     ·exact jQ C
     ·exact jQ C
end
structure MI(R:jW->jW->Prop)(L out ra rb:jz):Prop where
 perm:(out++(ra++rb)).Perm L
 sa:(out++ra).Pairwise R
 sb:(out++rb).Pairwise R
def MI.swap{R:jW->jW->Prop}{L a b c:jz}(h:MI R L a b c):MI R L a c b:=
 ⟨((wO.refl a).append zEP).trans h.perm,h.sb,h.sa⟩
def MI.takeA{R:jW->jW->Prop}{L a b c:jz}(h:MI R L a b c)(k:Nat)(l:∀ x∈b.take k,∀ y∈c,R x y):MI R L (a++b.take k) (b.drop k) c:=by
 have e:a++b.take k++b.drop k=a++b:=by rw[xU,wX]
 exists ?_,by rw[e];exact h.sa
 ·rw[<-xU,e,xU];exact h.perm
 ·have d:=h.sa;rw[<-e] at d;have j:=(xE.mp d).1;obtain⟨_,g,i⟩:=xE.mp h.sb;refine xE.mpr ⟨j,g,λx m y f=>?_⟩;rcases yQ.mp m with z | z
  ·exact i x z y f
  ·exact l x z y f
def MI.takeB{R:jW->jW->Prop}{L a c b:jz}(h:MI R L a c b)(k:Nat)(d:∀ x∈b.take k,∀ y∈c,R x y):MI R L (a++b.take k) c (b.drop k):=(h.swap.takeA k d).swap
def MP{a:jo}{i:Nat}{p:jW}(e:a[i]? = some p):a.toList.drop i=p::a.toList.drop (i+1):=by
 rw[<-yY] at e;obtain⟨h,e⟩:=yT.mp e;rw[<-e];exact sN h
def NK{a:jo}{i:Nat}{p:jW}(e:a[i]? = some p):Kk a i=kv p:=by
 unfold Kk;rw[e]
def Ob{xs:jo}{i k:Nat}{p:jW}(h:p∈(xs.toList.drop i).take k):∃ j,i<=j/\j<i+k/\j<xs.size/\kv p=Kk xs j:=by
 obtain⟨m,a,e⟩:=List.mem_iff_getElem.mp h;rw[List.getElem_take,List.getElem_drop] at e;rw[xX,wL,yP] at a;exists i+m,∅,∅,by lia
 rw[<-e];exact(NK (by rw[<-yY];exact zU _)).symm
def Og{xs:jo}{i:Nat}{p:jW}(h:p∈xs.toList.drop i):∃ j,i<=j/\j<xs.size/\kv p=Kk xs j:=by
 obtain⟨j,a,_,b,c⟩:=Ob (xs:=xs) (i:=i) (k:=xs.size) (by rw[yV (by rw[wL,yP];lia)];exact h)
 exact⟨j,a,b,c⟩
def O2(a:jo)(i k:Nat):(a.extract i (i+k)).toList=(a.toList.drop i).take k:=by
 rw[tR,tV,tW]
def KC(a:jo)(i:Nat):(a.extract i a.size).toList=a.toList.drop i:=by
 rw[tR,tV,yV (by rw[wL,yP];lia)]
def Xx(p q:jW):Prop:=kv p<=kv q
def X8(L:jz)(r:jo):Prop:=r.toList.Perm L/\r.toList.Pairwise Xx
structure Sm(st st':jS):Prop where
 kind:kindOf st'=kindOf st
 arr:jR st'=jR st
 pend:jT st'=jT st
 failed:failedOf st'=failedOf st
def setMinGallop':Nat->StateT jS Sem Unit:=sortPriv% PySem.Builtin.setMinGallop
def mergeLo':jo->jo->StateT jS Sem (jo):=sortPriv% PySem.Builtin.mergeLo
section
variable{a b out:jo}{ia ib:Nat}{L:jz}
def N4(m:MI Xx L out.toList (a.toList.drop ia) (b.toList.drop ib))(h:b.size<=ib\/a.size<=ia):X8 L (out++a.extract ia a.size++b.extract ib b.size):=by
 unfold X8;rw[wI,wI,KC,KC];exists by rw[xU];exact m.perm
 rcases h with z | z
 ·rw[zEK (l:=b.toList) (by rw[yP];exact z),yS]
  exact m.sa
 ·rw[zEK (l:=a.toList) (by rw[yP];exact z),yS]
  exact m.sb
def KL(m:MI Xx L out.toList (a.toList.drop ia) (b.toList.drop ib))(h:ia+1=a.size)(f:∀ j,j<b.size->Kk b j<=Kk a (a.size-1)):X8 L (out++b.extract ib b.size++a.extract ia a.size):=by
 unfold X8;rw[wI,wI,KC,KC];exists by rw[xU];exact m.swap.perm
 obtain⟨_,d,e⟩:=xE.mp m.sa;refine xE.mpr ⟨m.sb,d,λx g y c=>?_⟩;rcases yQ.mp g with z | z
 ·exact e x z y c
 ·obtain⟨j,_,l,n⟩:=Og z;obtain⟨i,o,p,k⟩:=Og c;have:=f j l;unfold Xx;rw[n,k,show i=a.size-1 by lia]
  exact this
end
section
variable[KoOk prog w A s]
def Ge{d a:Type}{c:a->Prop}{_:∀ n,Decidable (c n)}{x J:a->StateT jS Sem d}{Q:d->jS->Prop}{b:jS}(f:∀ n,∃ m,x n=J m)(k:∀ n,wpS (aB prog w) A E s (J n) Q b)(n:a):wpS (aB prog w) A E s (if c n then x n else J n) Q b:=by
 refine VL (λh=>?_) λh=>?_
 ·obtain⟨m,e⟩:=f n;rw[e];exact k m
 ·exact k n
def KG{g b d:Type}{c:Prop}{_:Decidable c}{x J:b->d->StateT jS Sem g}{Q:g->jS->Prop}{a:jS}{e:b->d->Prop}(P:b->d->Prop)(k:∀ o i,P o i->wpS (aB prog w) A E s (J o i) Q a)(j:¬c->∀ o i,e o i->P o i)(l:c->(∀ o i,P o i->wpS (aB prog w) A E s (J o i) Q a)->∀ o i,e o i->wpS (aB prog w) A E s (x o i) Q a)(o:b)(i:d)(f:e o i):wpS (aB prog w) A E s (if c then x o i else J o i) Q a:=by
 refine VL (λh=>?_) λh=>?_
 ·exact l h k o i f
 ·exact k o i (j h o i f)
def ZMb{a:jS}{g:Nat}{Q:Unit->jS->Prop}(h:∀ b,Sm a b->Q () b):wpS (aB prog w) A E s (setMinGallop' g) Q a:=
 wpS_modify (f:=λa=>SortSt.mk' (kindOf a) (jR a) (jT a) g (failedOf a)) (h _ ⟨rfl,rfl,rfl,rfl⟩)
def Sm.trans{c b a:jS}(h:Sm c b)(g:Sm b a):Sm c a:=⟨g.kind.trans h.kind,g.arr.trans h.arr,g.pend.trans h.pend,g.failed.trans h.failed⟩
def Ji{b:Bool}{d:jW}{c:jo}{a n:Nat}(h:∀ i j,i<=j->j<n->Kk c (a+i)<=Kk c (a+j)):∀ i j,i<=j->j<n->bK b d c (a+j)=true->bK b d c (a+i)=true:=λi j f g e=>by
 have:=h i j f g;unfold bK at e⊢;cases b
 ·simp at e⊢
  lia
 ·simp at e⊢
  lia
def Uo{b:jW}{a:jo}{i:Nat}:(bK false b a i=true ↔ Kk a i<=kv b)/\(bK false b a i=false ↔ kv b<Kk a i):=by
 unfold bK;constructor <;> simp
def Uj{b:jW}{a:jo}{i:Nat}:(bK true b a i=true ↔ Kk a i<kv b)/\(bK true b a i=false ↔ kv b<=Kk a i):=by
 unfold bK;constructor <;> simp
structure NI(a b:jo)(L:jz)(X:Nat)(out:jo)(ia ib:Nat):Prop where
 m:MI Xx L out.toList (a.toList.drop ia) (b.toList.drop ib)
 ha:ia+1<a.size
 hb:ib<b.size
 hx:X<=ia+ib
inductive Ln{γ:Type}(st:jS)(a b:jo)(L:jz)(x:Nat):Option (jo)×jo×Nat×Nat×γ->jS->Prop
 |mk{out:jo}{ia ib:Nat}{g:γ}{st':jS}:Sm st st'->NI a b L x out ia ib->Ln st a b L x (none,out,ia,ib,g) st'
inductive M6{γ:Type}(st:jS)(a b:jo)(L:jz)(x:Nat):Option (jo)×jo×Nat×Nat×γ->jS->Prop
 |more{out:jo}{ia ib:Nat}{g:γ}{st':jS}:Sm st st'->NI a b L x out ia ib->M6 st a b L x (none,out,ia,ib,g) st'
 |done{r:jo}{c:jo×Nat×Nat×γ}{st':jS}:Sm st st'->X8 L r->M6 st a b L x (some r,c) st'
inductive Ii{γ:Type}(st:jS)(L:jz):Option (jo)×γ->jS->Prop
 |mk{r:jo}{c:γ}{st':jS}:Sm st st'->X8 L r->Ii st L (some r,c) st'
structure LoG(a b:jo)(L:jz)(X:Nat)(p:jW)(k:Nat)(out:jo)(ia ib:Nat):Prop where
 I:NI a b L X out ia ib
 k1:k<=a.size-ia
 k2:∀ i,i<k->Kk a (ia+i)<=kv p
 k3:∀ i,k<=i->i<a.size-ia->kv p<Kk a (ia+i)
structure LoH(a b:jo)(L:jz)(X:Nat)(p:jW)(out:jo)(ia ib:Nat):Prop where
 I:NI a b L X out ia ib
 hp:∀ j,ia<=j->j<a.size->kv p<=Kk a j
structure An(a b:jo)(L:jz)(q:jW)(k:Nat)(O:jo)(ia ib jb:Nat):Prop where
 m:MI Xx L O.toList (a.toList.drop ia) (b.toList.drop jb)
 h1:jb<b.size
 h2:ib<jb
 k1:k<=b.size-jb
 k2:∀ i,i<k->Kk b (jb+i)<kv q
 k3:∀ i,k<=i->i<b.size-jb->kv q<=Kk b (jb+i)
structure Ay(a b:jo)(L:jz)(q:jW)(O:jo)(ia ib jb:Nat):Prop where
 m:MI Xx L O.toList (a.toList.drop ia) (b.toList.drop jb)
 h1:jb<b.size
 h2:ib<jb
 hp:∀ j,jb<=j->j<b.size->kv q<=Kk b j
def Sm.refl(a:jS):Sm a a:=⟨rfl,rfl,rfl,rfl⟩
def NI.tb{a b:jo}{L:jz}{X:Nat}{c:jo}{d f:Nat}{p:jW}(I:NI a b L X c d f)(e:b[f]? = some p)(h:∀ j,d<=j->j<a.size->kv p<=Kk a j):MI Xx L (c.push p).toList (a.toList.drop d) (b.toList.drop (f+1)):=by
 have m:=I.m.takeB 1 (λx g y i=>by
  obtain⟨j,k,l,n⟩:=Og (xs:=a) i;rw[MP e,uB,wD] at g;unfold Xx;rw[zB.mp g,n];exact h j k l)
 rw[vG,MP e,uB,wD,<-vP] at m;exact m
def MI.ta{a b:jo}{L:jz}{c:jo}{d f:Nat}{p:jW}(I:MI Xx L c.toList (a.toList.drop d) (b.toList.drop f))(e:a[d]? = some p)(h:∀ j,f<=j->j<b.size->kv p<=Kk b j):MI Xx L (c.push p).toList (a.toList.drop (d+1)) (b.toList.drop f):=by
 have m:=I.takeA 1 (λx g y i=>by
  obtain⟨j,k,l,n⟩:=Og (xs:=b) i;rw[MP e,uB,wD] at g;unfold Xx;rw[zB.mp g,n];exact h j k l)
 rw[vG,MP e,uB,wD,<-vP] at m;exact m
def LP{l:Type}{g:jS}{c:Bool}{d:jW}{a:jo}{b n e:Nat}{f:jq->StateT jS Sem l}{Q:l->jS->Prop}(p:kindOf g=U0)(r:Ux d)(m:Wf a)(t:Qt a a.size)(q:b+n<=a.size)(o:e<n)(h:∀ k,k<=n->(∀ i,i<k->bK c d a (b+i)=true)->(∀ i,k<=i->i<n->bK c d a (b+i)=false)->wpS (aB prog w) A E s (f (some k)) Q g):wpS (aB prog w) A E s (gallop' c d a b n e >>= f) Q g:=
 jP (JI p r m q o (Ji λi j u v=>t _ _ ∅ ∅) h)
def Lk{c:Type}{b:jS}{g:Nat}{f:Unit->StateT jS Sem c}{Q:c->jS->Prop}(h:∀ a,Sm b a->wpS (aB prog w) A E s (f ()) Q a):wpS (aB prog w) A E s (setMinGallop' g >>= f) Q b:=jP (ZMb h)
def Hi{b:Type}{a:jS}{f:jS->StateT jS Sem b}{Q:b->jS->Prop}(h:wpS (aB prog w) A E s (f a) Q a):wpS (aB prog w) A E s (get >>= f) Q a:=jP (wpS_get h)
def Ad{F:jS}{a b:jo}{Q:jo->jS->Prop}(hk:kindOf F=U0)(ka:Wf a)(kb:Wf b)(a1:1<=a.size)(b1:1<=b.size)(sa:Qt a a.size)(sb:Qt b b.size)(h0:∀ i,i<a.size->Kk b 0<=Kk a i)(hl:∀ j,j<b.size->Kk b j<=Kk a (a.size-1))(pa:a.toList.Pairwise Xx)(pb:b.toList.Pairwise Xx)(h:∀ r f,Sm F f->X8 (a.toList++b.toList) r->Q r f):wpS (aB prog w) A E s (mergeLo' a b) Q F:=by
 refine NE (U2 kb b1 λp0 e0 i0 k0=>?_);have m0:MI Xx (a.toList++b.toList) #[p0].toList (a.toList.drop 0) (b.toList.drop 1):=by
  have m:MI Xx (a.toList++b.toList) [] a.toList b.toList:=⟨wO.refl _,pa,pb⟩;have l:=m.takeB 1 (λx J y W=>by
   obtain⟨i,_,i1,_,Y⟩:=Ob (xs:=b) (i:=0) (k:=1) J;obtain⟨j,_,t,B⟩:=Og (xs:=a) (i:=0) W;have:=h0 j t;unfold Xx;rw[Y,B,show i=0 by lia]
   exact this)
  have e:=MP e0;rw[qQ] at e;rw[e] at l⊢;exact l
 refine Wc (λc1=>jQ (h _ _ (Sm.refl _) (N4 m0 (.inl ∅)))) λc1=>Wc (λc2=>jQ (h _ _ (Sm.refl _) (KL m0 c2 hl))) λc2=>Hi ?_
 generalize hL:a.toList++b.toList=L at m0 h;refine Pt (Ln F a b L) (Ii F L) ⟨Sm.refl _,m0,∅,∅,∅⟩ ?step ?fin ?post
 case post=>
  rintro _ f ⟨d,g⟩;exact jQ (h _ f d g)
 case fin=>
  rintro _ f ⟨d,i⟩;have:=i.ha;have:=i.hb;have:=i.hx
  lia
 case step=>
  rintro X _ f _ hX ⟨d,I⟩;refine Pt (λx=>Ln F a b L (X+x)) (M6 F a b L (X+1)) ⟨d,I⟩ ?istep ?ifin ?ipost
  case ifin=>
   rintro _ z ⟨d,I⟩;exact .more d ⟨I.m,I.ha,I.hb,by have:=I.hx;lia⟩
  case istep=>
   clear d I;rintro x _ f _ J ⟨d,I⟩;dsimp only;have C:=I.ha;have R:=I.hb;have S:=I.hx;refine U2 kb I.hb λp T ip kp=>U2 ka ∅ λq U iq kq=>F6 (d.kind.trans hk) ip iq (NG (λc=>Q7 T ?_) λc=>Q7 U ?_)
   ·have l:=I.tb T λj M t=>by
     have:=sa _ j M t
     lia
    exact Wc (λu=>jQ (.done d (N4 l (.inl ∅)))) λu=>VL (λG=>jQ (.more d ⟨l,∅,∅,∅⟩)) λG=>jQ ⟨d,l,∅,∅,∅⟩
   ·have l:=I.m.ta U λj M t=>by
     have:=sb _ j M t
     lia
    exact Wc (λu=>jQ (.done d (KL l u hl))) λu=>VL (λG=>jQ (.more d ⟨l,∅,∅,∅⟩)) λG=>jQ ⟨d,l,∅,∅,∅⟩
  case ipost=>
   clear d I;rintro _ f (⟨d,I⟩ | ⟨d,gd⟩)
   rotate_left
   ·exact jQ ⟨d,gd⟩
   refine NE (Pt (λ_=>Ln F a b L (X+1)) (M6 F a b L (X+1)) ⟨d,I⟩ ?gstep ?gfin ?gpost)
   case gfin=>
    rintro _ f ⟨d,I⟩;exact .more d I
   case gpost=>
    rintro _ f (⟨d,I⟩ | ⟨d,gd⟩)
    ·exact Lk λz D=>jQ ⟨d.trans D,I⟩
    ·exact jQ ⟨d,gd⟩
   case gstep=>
    clear d I;rintro x _ _ _ J (@⟨v,n,K,⟨g,ac,bc⟩,f,d,I⟩);dsimp only
    revert g
    refine Ge (λ_=>⟨_,rfl⟩) λg=>Lk λz D=>?_;have d:=d.trans D;clear D;have V:kindOf z=U0:=d.kind.trans hk;have C:=I.ha;have R:=I.hb;refine U2 kb I.hb λp T ip kp=>LP V ip ka sa ∅ ∅ λk Z k2 k3=>?_
    dsimp only;have H:LoG a b L (X+1) p k v n K:=⟨I,Z,λi h=>Uo.1.mp (k2 i h),λi h1 D=>Uo.2.mp (k3 i h1 D)⟩;clear I Z k2 k3 C
    revert H
    revert n
    revert v
    refine no_implicit_lambda% (KG (λa0 a2=>LoH a b L (X+1) p a0 a2 K) (λv n I=>?_) (λc v n H=>?_) (λc N v n H=>?_))
    ·have hp:=I.hp;have I:=I.I;have C:=I.ha;have S:=I.hx;refine Q7 T ?_;have l:=I.tb T hp;refine Wc (λu=>jQ (.done d (N4 l (.inl ∅)))) λu=>U2 ka ∅ λq U iq kq=>LP V iq kb sb ∅ ∅ λk Z k2 k3=>?_
     dsimp only;generalize v.push p=O at l⊢;have H:An a b L q k O n K (K+1):=⟨l,∅,∅,Z,λi h=>Uj.1.mp (k2 i h),λi h1 D=>Uj.2.mp (k3 i h1 D)⟩
     clear l Z k2 k3 u
     revert H
     generalize K+1=o
     revert o
     revert O
     refine KG (λO o=>Ay a b L q O n K o) (λO o I=>?_) (λc O o H=>?_) (λc N O o H=>?_)
     ·refine Q7 U ?_;have P:=I.m.ta U I.hp;have t:=I.h1;have B:=I.h2;refine Wc (λu=>jQ (.done d (KL P u hl))) λu=>?_;split
      ·exact jQ (.more d ⟨P,∅,∅,∅⟩)
      ·exact jQ ⟨d,P,∅,∅,∅⟩
     ·have e:=H.k1;exists H.m,H.h1,H.h2;intro j t B;have:=H.k3 (j-o) ∅ ∅
      rw[show o+(j-o)=j by lia] at this
      lia
     ·have P:=H.m.takeB k (λx J y W=>by
       obtain⟨i,i0,i1,_,Y⟩:=Ob (xs:=b) J;obtain⟨j,M,t,B⟩:=Og (xs:=a) W;have:=sa n j M t;have:=H.k2 (i-o) ∅
       rw[show o+(i-o)=i by lia] at this
       unfold Xx;rw[Y,B]
       lia)
      rw[vG,<-O2,<-wI] at P;have h1:=H.h1;have D:=H.h2;refine Wc (λG=>jQ (.done d (N4 P (.inl ∅)))) λG=>N _ _ ⟨P,?_,∅,λj t B=>?_⟩
      ·have:=H.k1
       lia
      ·have:=H.k3 (j-o) ∅ ∅
       rw[show o+(j-o)=j by lia] at this
       lia
    ·exists H.I;intro j t B;have:=H.k3 (j-n) ∅ ∅
     rw[show n+(j-n)=j by lia] at this
     lia
    ·have C:=H.I.ha;have S:=H.I.hx;have l:=H.I.m.takeA k (λx J y W=>by
      obtain⟨i,i0,i1,_,Y⟩:=Ob (xs:=a) J;obtain⟨j,M,t,B⟩:=Og (xs:=b) W;have:=sb K j M t;have:=H.k2 (i-n) ∅
      rw[show n+(i-n)=i by lia] at this
      unfold Xx;rw[Y,B]
      lia)
     rw[vG,<-O2,<-wI] at l;refine Wc (λu=>jQ (.done d (KL l u hl))) λu=>Wc (λG=>jQ (.done d (N4 l (.inr ∅)))) λG=>N _ _ ⟨⟨l,?_,R,∅⟩,λj t B=>?_⟩
     ·have:=H.k1
      lia
     ·have:=H.k3 (j-n) ∅ ∅
      rw[show n+(j-n)=j by lia] at this
      lia
end
abbrev Y8(a:jo)(n:Nat):jz:=(a.toList.take n).reverse
def ZPZ{a:jo}{i:Nat}{p:jW}(e:a[i]? = some p):Y8 a (i+1)=p::Y8 a i:=by
 rw[<-yY] at e;show ((a.toList.take (i+1)).reverse)=_;rw[yM,e];simp
def Bi{a:jo}{i:Nat}{p:jW}(e:a[i-1]? = some p)(h:1<=i):Y8 a i=p::Y8 a (i-1):=by
 have:=ZPZ e;rw[Nat.sub_add_cancel h] at this;exact this
def MI.popA{R:jW->jW->Prop}{L c b:jz}{a:jo}{p:jW}(h:MI R L a.toList (p::c) b)(d:∀ y∈b,R p y):MI R L (a.push p).toList c b:=by
 have:=h.takeA 1 (λx f y g=>by
  have e:x=p:=by simpa using f
  rw[e];exact d y g)
 rw[uB,wD,<-vP] at this;exact this
def MI.popB{R:jW->jW->Prop}{L b c:jz}{a:jo}{p:jW}(h:MI R L a.toList b (p::c))(d:∀ y∈b,R p y):MI R L (a.push p).toList b c:=(h.swap.popA d).swap
def Fv{a:jo}{n m:Nat}(h:m<=n)(b:n<=a.size):(Y8 a n).drop (n-m)=Y8 a m:=by
 show ((a.toList.take n).reverse).drop (n-m)=_;rw[List.drop_reverse,xX,yP,show min n a.size-(n-m)=m by lia,List.take_take,show min m n=m by lia]
def JT{a:jo}{n m:Nat}(h:m<=n)(b:n<=a.size):(Y8 a n).take (n-m)=(a.extract m n).reverse.toList:=by
 show ((a.toList.take n).reverse).take (n-m)=_;rw[List.take_reverse,xX,yP,show min n a.size-(n-m)=m by lia,zER,tR,tV,List.drop_take]
def N7{a:jo}{n:Nat}{p:jW}(h:p∈Y8 a n):∃ j,j<n/\j<a.size/\kv p=Kk a j:=by
 obtain⟨j,_,d,b,c⟩:=Ob (xs:=a) (i:=0) (k:=n) (List.mem_reverse.mp h);exact⟨j,∅,b,c⟩
def CZ{a:jo}{n m:Nat}{p:jW}(d:m<=n)(e:n<=a.size)(h:p∈(Y8 a n).take (n-m)):∃ j,m<=j/\j<n/\kv p=Kk a j:=by
 rw[JT d e,zER,tR,tV] at h;obtain⟨j,b,f,g,c⟩:=Ob (xs:=a) (List.mem_reverse.mp h);exact⟨j,b,∅,c⟩
def V2(p q:jW):Prop:=kv q<=kv p
def Ep{L l:jz}{r:jo}(a:l.Perm L)(b:l.Pairwise V2)(e:r.toList=l.reverse):X8 L r:=by
 unfold X8;rw[e];exact⟨(uH l).trans a,qI.mpr b⟩
def Gs(a:jo)(n:Nat):(a.extract 0 n).toList=a.toList.take n:=by
 rw[tR,tV,qQ,Nat.sub_zero]
section
variable{a b out:jo}{na nb:Nat}{L:jz}
def MN(m:MI V2 L out.toList (Y8 a na) (Y8 b nb))(h:na=0\/nb=0):X8 L (a.extract 0 na++b.extract 0 nb++out.reverse):=by
 refine Ep m.swap.perm ?_ (by simp[Gs,Y8])
 rcases h with rfl | rfl
 ·have:Y8 a 0=[]:=rfl;rw[this,yS];exact m.sb
 ·exact m.sa
def KD(m:MI V2 L out.toList (Y8 a na) (Y8 b nb))(h:nb=1)(f:∀ i,i<a.size->Kk b 0<=Kk a i):X8 L (b.extract 0 nb++a.extract 0 na++out.reverse):=by
 refine Ep m.perm ?_ (by simp[Gs,Y8])
 obtain⟨_,d,e⟩:=xE.mp m.sb;rw[<-xU];refine xE.mpr ⟨m.sa,d,λx g y c=>?_⟩;rcases yQ.mp g with z | z
 ·exact e x z y c
 ·obtain⟨j,_,l,n⟩:=N7 z;obtain⟨i,o,p,k⟩:=N7 c;have:=f j l;unfold V2;rw[n,k,show i=0 by lia]
  exact this
end
def mergeHi':jo->jo->StateT jS Sem (jo):=sortPriv% PySem.Builtin.mergeHi
structure Oj(a b:jo)(L:jz)(X:Nat)(out:jo)(na nb:Nat):Prop where
 m:MI V2 L out.toList (Y8 a na) (Y8 b nb)
 a0:1<=na
 a1:na<=a.size
 b0:2<=nb
 b1:nb<=b.size
 hx:na+nb+X<=a.size+b.size
inductive LA{γ:Type}(st:jS)(a b:jo)(L:jz)(x:Nat):Option (jo)×Nat×Nat×jo×γ->jS->Prop
 |mk{na nb:Nat}{out:jo}{g:γ}{st':jS}:Sm st st'->Oj a b L x out na nb->LA st a b L x (none,na,nb,out,g) st'
inductive KO{γ:Type}(st:jS)(a b:jo)(L:jz)(x:Nat):Option (jo)×Nat×Nat×jo×γ->jS->Prop
 |more{na nb:Nat}{out:jo}{g:γ}{st':jS}:Sm st st'->Oj a b L x out na nb->KO st a b L x (none,na,nb,out,g) st'
 |done{r:jo}{c:Nat×Nat×jo×γ}{st':jS}:Sm st st'->X8 L r->KO st a b L x (some r,c) st'
structure Aj(a b:jo)(L:jz)(X:Nat)(p:jW)(t k:Nat)(out:jo)(na nb:Nat):Prop where
 I:Oj a b L X out na nb
 e:na-t=k
 k1:t<=na
 k3:∀ i,t<=i->i<na->kv p<Kk a i
structure HiH(a b:jo)(L:jz)(X:Nat)(p:jW)(out:jo)(na nb:Nat):Prop where
 I:Oj a b L X out na nb
 hp:∀ j,j<na->Kk a j<=kv p
structure HiK(a b:jo)(L:jz)(q:jW)(t k:Nat)(O:jo)(na nb n2:Nat):Prop where
 m:MI V2 L O.toList (Y8 a na) (Y8 b n2)
 h1:n2<nb
 h2:2<=n2
 e:n2-t=k
 k1:t<=n2
 k3:∀ i,t<=i->i<n2->kv q<=Kk b i
structure Ai(a b:jo)(L:jz)(q:jW)(O:jo)(na nb n2:Nat):Prop where
 m:MI V2 L O.toList (Y8 a na) (Y8 b n2)
 h1:n2<nb
 h2:2<=n2
 hp:∀ j,j<n2->Kk b j<=kv q
def MI.pa{a:jo}{L d:jz}{b:jo}{c:Nat}{p:jW}(m:MI V2 L b.toList (Y8 a c) d)(e:a[c-1]? = some p)(h:1<=c)(f:∀ y∈d,kv y<=kv p):MI V2 L (b.push p).toList (Y8 a (c-1)) d:=by
 rw[Bi e h] at m;exact m.popA f
def MI.pb{b:jo}{L d:jz}{a:jo}{c:Nat}{p:jW}(m:MI V2 L a.toList d (Y8 b c))(e:b[c-1]? = some p)(h:1<=c)(f:∀ y∈d,kv y<=kv p):MI V2 L (a.push p).toList d (Y8 b (c-1)):=(m.swap.pa e h f).swap
def Nt{a:jo}{n:Nat}{p:jW}(h:∀ j,j<n->j<a.size->Kk a j<=kv p):∀ y∈Y8 a n,kv y<=kv p:=λy b=>by
 obtain⟨j,c,d,e⟩:=N7 b;rw[e];exact h j c d
section
variable[KoOk prog w A s]
def ZG2{K:jS}{a b:jo}{Q:jo->jS->Prop}(hk:kindOf K=U0)(ka:Wf a)(kb:Wf b)(a1:1<=a.size)(b1:1<=b.size)(sa:Qt a a.size)(sb:Qt b b.size)(h0:∀ i,i<a.size->Kk b 0<=Kk a i)(hl:∀ j,j<b.size->Kk b j<=Kk a (a.size-1))(pa:a.toList.Pairwise Xx)(pb:b.toList.Pairwise Xx)(h:∀ r f,Sm K f->X8 (a.toList++b.toList) r->Q r f):wpS (aB prog w) A E s (mergeHi' a b) Q K:=by
 refine NE (U2 ka (show a.size-1<a.size by lia) λp0 e0 i0 k0=>?_)
 have m0:MI V2 (a.toList++b.toList) #[p0].toList (Y8 a (a.size-1)) (Y8 b b.size):=by
  have ea:Y8 a a.size=a.toList.reverse:=by show (a.toList.take a.size).reverse=_;rw[yV (by simp)]
  have eb:Y8 b b.size=b.toList.reverse:=by show (b.toList.take b.size).reverse=_;rw[yV (by simp)]
  have m:MI V2 (a.toList++b.toList) #[].toList (Y8 a a.size) (Y8 b b.size):=⟨by rw[ea,eb];exact(uH _).append (uH _),by rw[ea];exact qI.mpr pa,by rw[eb];exact qI.mpr pb⟩
  exact m.pa e0 a1 (Nt λj _ S=>by rw[<-k0];exact hl j S)
 refine Wc (λc1=>jQ (h _ _ (Sm.refl _) (MN m0 (.inl ∅)))) λc1=>Wc (λc2=>jQ (h _ _ (Sm.refl _) (KD m0 c2 h0))) λc2=>Hi ?_
 generalize hL:a.toList++b.toList=L at m0 h;refine Pt (LA K a b L) (Ii K L) ⟨Sm.refl _,m0,∅,∅,∅,∅,∅⟩ ?step ?fin ?post
 case post=>
  rintro _ f ⟨d,g⟩;exact jQ (h _ f d g)
 case fin=>
  rintro _ f ⟨d,i⟩;have:=i.a0;have:=i.b0;have:=i.hx
  lia
 case step=>
  rintro X _ f _ hX ⟨d,I⟩;refine Pt (λx=>LA K a b L (X+x)) (KO K a b L (X+1)) ⟨d,I⟩ ?istep ?ifin ?ipost
  case ifin=>
   rintro _ C ⟨d,I⟩;exact .more d ⟨I.m,I.a0,I.a1,I.b0,I.b1,by have:=I.hx;lia⟩
  case istep=>
   clear d I;rintro x _ _ _ Z (@⟨o,N,l,g,f,d,m,U,P,b0,b9,ix⟩);dsimp only;refine U2 kb ∅ λp V ip kp=>U2 ka ∅ λq W iq kq=>F6 (d.kind.trans hk) ip iq (NG (λc=>Q7 W ?_) λc=>Q7 V ?_)
   ·have n:=m.pa W U (Nt λj R S=>by
     have:=sb j (N-1) ∅ ∅
     lia)
    exact Wc (λu=>jQ (.done d (MN n (.inl u)))) λu=>VL (λG=>jQ (.more d ⟨n,∅,∅,∅,∅,∅⟩)) λG=>jQ ⟨d,n,∅,∅,∅,∅,∅⟩
   ·have n:=m.pb V ∅ (Nt λj R S=>by
     have:=sa j (o-1) ∅ ∅
     lia)
    exact Wc (λu=>jQ (.done d (KD n u h0))) λu=>VL (λG=>jQ (.more d ⟨n,∅,∅,∅,∅,∅⟩)) λG=>jQ ⟨d,n,∅,∅,∅,∅,∅⟩
  case ipost=>
   clear d I;rintro _ f (⟨d,I⟩ | ⟨d,gd⟩)
   rotate_left
   ·exact jQ ⟨d,gd⟩
   refine NE (Pt (λ_=>LA K a b L (X+1)) (KO K a b L (X+1)) ⟨d,I⟩ ?gstep ?gfin ?gpost)
   case gfin=>
    rintro _ f ⟨d,I⟩;exact .more d I
   case gpost=>
    rintro _ f (⟨d,I⟩ | ⟨d,gd⟩)
    ·exact Lk λC M=>jQ ⟨d.trans M,I⟩
    ·exact jQ ⟨d,gd⟩
   case gstep=>
    clear d I;rintro x _ _ _ Z (@⟨o,N,l,⟨g,ac,bc⟩,f,d,I⟩);dsimp only
    revert g
    refine Ge (λ_=>⟨_,rfl⟩) λg=>Lk λC M=>?_;have d:=d.trans M;clear M;have Y:kindOf C=U0:=d.kind.trans hk;have U:=I.a0;have P:=I.a1;have b0:=I.b0;have b9:=I.b1;refine U2 kb ∅ λp V ip kp=>LP Y ip ka sa ∅ ∅ λt D v F=>?_
    dsimp only;simp only[tL] at v F;generalize B:o-t=k;have H:Aj a b L (X+1) p t k l o N:=⟨I,B,D,λi h1 M=>Uo.2.mp (F i h1 M)⟩
    replace v:∀ i,i<t->Kk a i<=kv p:=λi h=>Uo.1.mp (v i h)
    clear I U P D F B
    revert H
    revert l
    revert o
    refine no_implicit_lambda% (KG (λo l=>HiH a b L (X+1) p l o N) (λo l I=>?_) (λc o l H=>?_) (λc T o l H=>?_))
    ·obtain⟨⟨m,U,P,b0,b9,ix⟩,hp⟩:=I;refine Q7 V ?_;have n:=m.pb V ∅ (Nt λj R _=>hp j R)
     refine Wc (λu=>jQ (.done d (KD n u h0))) λu=>U2 ka ∅ λq W iq kq=>LP Y iq kb sb ∅ ∅ λt2 D v F=>?_
     dsimp only;simp only[tL] at v F;generalize l.push p=O at n⊢;generalize hn:N-1=J at n D v F u⊢;generalize B:J-t2=k';have H:HiK a b L q t2 k' O o N J:=⟨n,∅,∅,B,D,λi h1 M=>Uj.2.mp (F i h1 M)⟩
     replace v:∀ i,i<t2->Kk b i<kv q:=λi h=>Uj.1.mp (v i h)
     clear n D F B u hn
     revert H
     revert O
     revert J
     refine KG (λJ O=>Ai a b L q O o N J) (λJ O I=>?_) (λc J O H=>?_) (λc T J O H=>?_)
     ·obtain⟨n,S,j2,hp⟩:=I;refine Q7 W ?_;have z:=n.pa W U (Nt λj R _=>hp j R);refine Wc (λu=>jQ (.done d (MN z (.inl u)))) λu=>?_;split
      ·exact jQ (.more d ⟨z,∅,∅,∅,∅,∅⟩)
      ·exact jQ ⟨d,z,∅,∅,∅,∅,∅⟩
     ·have e:=H.e;exact⟨H.m,H.h1,H.h2,λj c=>wF (v j ∅)⟩
     ·have S:=H.h1;have j3:=H.k1;have z:=H.m.takeB (J-t2) λx Z y hy=>by
       obtain⟨i,i0,i1,i3⟩:=CZ j3 ∅ Z
       obtain⟨j,R,S,j2⟩:=N7 hy;have:=sa j (o-1) ∅ ∅
       have:=H.k3 i i0 i1;unfold V2;rw[i3,j2]
       lia
      rw[Fv j3 ∅,JT j3 ∅,<-wI] at z
      exact Wc (λG=>jQ (.done d (KD z G h0))) λG=>Wc (λc5=>jQ (.done d (MN z (.inr c5)))) λc5=>T _ _ ⟨z,∅,∅,λj c=>wF (v j c)⟩
    ·have e:=H.e;exact⟨H.I,λj c=>v j ∅⟩
    ·obtain⟨⟨m,U,P,b0,b9,ix⟩,e,D,F⟩:=H;have z:=m.takeA (o-t) λx Z y hy=>by
      obtain⟨i,i0,i1,i3⟩:=CZ D P Z;obtain⟨j,R,S,j2⟩:=N7 hy;have:=sb j (N-1) ∅ ∅
      have:=F i i0 i1;unfold V2;rw[i3,j2]
      lia
     rw[Fv D P,JT D P,<-wI] at z;exact Wc (λG=>jQ (.done d (MN z (.inl G)))) λG=>T _ _ ⟨⟨z,∅,∅,∅,∅,∅⟩,v⟩
end
structure TB(a₀:jo)(p₀:jH)(st:jS):Prop where
 perm:(jR st).Perm a₀
 kind:kindOf st=U0
 failed:failedOf st=none
 pend:jT st=p₀
def XT(b:jo)(a n:Nat):Prop:=∀ i j,i<=j->j<n->Kk b (a+i)<=Kk b (a+j)
def Vm(b:jo)(a n:Nat):Prop:=∀ i j,i<=j->j<n->Kk b (a+j)<=Kk b (a+i)
def Fr(b c:jo)(a:Nat):Prop:=∀ i,i<a->Kk c i=Kk b i
section
variable{a₀:jo}{p₀:jH}{st:jS}
def TB.size(h:TB a₀ p₀ st):(jR st).size=a₀.size:=h.perm.size_eq
def TB.setArr(h:TB a₀ p₀ st){a:jo}(b:a.Perm (jR st)):TB a₀ p₀ (jX st a):=⟨b.trans h.perm,h.kind,h.failed,h.pend⟩
def TB.ints(h:TB a₀ p₀ st)(a:Wf a₀):Wf (jR st):=λp b=>a p ((qL.mp h.perm).mem_iff.mp b)
end
section
variable[KoOk prog w A s]{a₀:jo}{p₀:jH}
def Jm{b:Type}{c:Prop}{_:Decidable c}{x J:StateT jS Sem b}{Q:b->jS->Prop}{a:jS}(P:jS->Prop)(k:∀ a,P a->wpS (aB prog w) A E s J Q a)(d:¬c->P a)(e:c->(∀ a,P a->wpS (aB prog w) A E s J Q a)->wpS (aB prog w) A E s x Q a):wpS (aB prog w) A E s (if c then x else J) Q a:=by
 refine VL (λh=>?_) λh=>?_
 ·exact e h k
 ·exact k a (d h)
def KU{a:jS}{i j:Nat}{Q:jL->jS->Prop}(b:TB a₀ p₀ a)(c:Wf a₀)(f:i<a₀.size)(g:j<a₀.size)(h:Q (some (decide (Kk (jR a) i<Kk (jR a) j))) a):wpS (aB prog w) A E s (ltAt' i j) Q a:=by
 obtain⟨p,d,k,m⟩:=Ml (b.ints c) (show i<(jR a).size by rw[b.size];exact f)
 obtain⟨q,e,l,n⟩:=Ml (b.ints c) (show j<(jR a).size by rw[b.size];exact g)
 rw[m,n] at h;exact jP (wpS_get (jP (LT d (jP (LT e (Mv b.kind k l h))))))
def HM{b:Type}{a:jS}{i j:Nat}{f:jL->StateT jS Sem b}{Q:b->jS->Prop}(d:TB a₀ p₀ a)(c:Wf a₀)(e:i<a₀.size)(g:j<a₀.size)(h:wpS (aB prog w) A E s (f (some (decide (Kk (jR a) i<Kk (jR a) j)))) Q a):wpS (aB prog w) A E s (ltAt' i j >>= f) Q a:=jP (KU d c e g h)
def GV{d:Type}{a:jS}{i j:Nat}{x y:d}{f:jL->StateT jS Sem d}{Q:d->jS->Prop}(g:TB a₀ p₀ a)(e:Wf a₀)(k:i<a₀.size)(l:j<a₀.size)(q:Q (if Kk (jR a) i<Kk (jR a) j then x else y) a)(h:∀ b,f (some b)=if b=true then pure x else pure y:=by exact λ_=>rfl):wpS (aB prog w) A E s (ltAt' i j >>= f) Q a:=by
 refine HM g e k l ?_;rw[h];refine NG (λc=>?_) λc=>?_
 ·rw[aO c] at q;exact jQ q
 ·rw[aM c] at q;exact jQ q
structure Ke(a₀:jo)(p₀:jH)(st st2:jS):Prop where
 tb:TB a₀ p₀ st2
 eq:∀ k,Kk (jR st2) k=Kk (jR st) k
inductive Hh{γ:Type}(a₀:jo)(p₀:jH)(xs:jo)(lo n:Nat):Option γ×Unit->jS->Prop
 |mk{z:jS}:TB a₀ p₀ z->Fr xs (jR z) lo->XT (jR z) lo n->Hh a₀ p₀ xs lo n (none,()) z
def ZMB{o:jS}{a n u:Nat}{Q:Bool->jS->Prop}(J:Wf a₀)(V:a+n<=a₀.size)(M:u<=n)(K:TB a₀ p₀ o)(N:XT (jR o) a u)(h:∀ d,TB a₀ p₀ d->Fr (jR o) (jR d) a->XT (jR d) a n->Q true d):wpS (aB prog w) A E s (binarySort' a n u) Q o:=by
 refine Pt (λk=>Hh a₀ p₀ (jR o) a (min k n)) (Hh a₀ p₀ (jR o) a n) ⟨K,λ_ _=>rfl,λi j e m=>?_⟩ ?_ ?_ ?_
 rotate_left
 ·rintro k _ z W X ⟨g,q,b⟩;have I:min k n=k:=∅
  rw[I] at b;have C:a+k<(jR z).size:=by rw[g.size];lia
  refine jP (Jv (B:=λi=>!decide (Kk (jR z) (a+k)<Kk (jR z) (a+i))) (zL _) (zY k) (λi c=>absurd c (xM _)) (λi e m=>by lia) (λi j e m H=>?_) (λx l r T U F G=>?_) λt Y O P=>?_)
  ·have:=b i j e m;simp at H⊢
   lia
  ·dsimp only;refine VL (λc=>?_) λc=>?_
   ·exact jQ (F c)
   refine jP (KU g J ∅ ∅ ?_)
   have y:=G ((l+r) / 2) ∅ ∅
   cases L:decide (Kk (jR z) (a+k)<Kk (jR z) (a+(l+r) / 2)) <;> rw[L] at y
   ·exact jQ y
   ·exact jQ y
  ·refine jP (show wpS (aB prog w) A E s (moveDown' (a+k) (a+t)) _ z from ?_);rw[moveDown'_eq];refine wpS_modify (jQ ⟨g.setArr (bubble_perm _ _ _),λi c=>?_,?_⟩)
   ·show Kk (bubble (jR z) (a+k) (a+k-(a+t))) i=_;rw[ET C ∅,aM ∅,aM ∅]
    exact q i c
   rw[show min (k+1) n=k.succ by lia]
   have D:∀ i,i<=k->Kk (bubble (jR z) (a+k) (a+k-(a+t))) (a+i)=if i<t then Kk (jR z) (a+i) else if i=t then Kk (jR z) (a+k) else Kk (jR z) (a+(i-1)):=λi c=>by
    rw[ET C ∅]
    by_cases p:i<t
    ·rw[aO p,aM ∅,aM ∅]
    rw[aM p];by_cases f:i=t
    ·rw[aO f,aO ∅]
    ·rw[aM f,aM ∅,aO ∅,show a+i-1=a+(i-1) by lia]
   have R:∀ i,i<t->Kk (jR z) (a+i)<=Kk (jR z) (a+k):=λi c=>by
    have:=O i c;simp at this
    lia
   have S:∀ i,t<=i->i<k->Kk (jR z) (a+k)<=Kk (jR z) (a+i):=λi e m=>by
    have:=P i e m;simp at this
    lia
   intro i j e m;show Kk (bubble (jR z) (a+k) (a+k-(a+t))) (a+i)<=Kk (bubble (jR z) (a+k) (a+k-(a+t))) (a+j);rw[D i ∅,D j ∅]
   by_cases p:i<t
   ·rw[aO p];by_cases f:j<t
    ·rw[aO f];exact b i j e ∅
    rw[aM f];by_cases v:j=t
    ·rw[aO v];exact R i p
    ·rw[aM v];exact b i (j-1) ∅ ∅
   rw[aM p,aM (by lia:¬j<t)]
   by_cases f:i=t
   ·rw[aO f];by_cases v:j=t
    ·rw[aO v];exact wR _
    ·rw[aM v];exact S (j-1) ∅ ∅
   ·rw[aM f,aM ∅]
    exact b (i-1) (j-1) ∅ ∅
 ·rintro _ z ⟨g,q,b⟩;rw[show min (max (max u 1) n) n=n by lia] at b
  exact⟨g,q,b⟩
 ·rintro _ z ⟨g,q,b⟩;exact jQ (h z g q b)
 ·by_cases z:u=0
  ·rw[show i=j by lia]
   exact wR _
  ·exact N i j e ∅
def XT.snoc{b:jo}{a x:Nat}(h:XT b a x)(c:1<=x->Kk b (a+x-1)<=Kk b (a+x)):XT b a (x+1):=λi j d g=>by
 by_cases e:j<x
 ·exact h i j d e
 by_cases f:i=j
 ·rw[f];exact wR _
 ·have:=h i (x-1) ∅ ∅
  rw[show j=x by lia]
  rw[show a+(x-1)=a+x-1 by lia] at this
  exact wH this (c ∅)
def Vm.snoc{b:jo}{a x:Nat}(h:Vm b a x)(c:1<=x->Kk b (a+x)<=Kk b (a+x-1)):Vm b a (x+1):=λi j d g=>by
 by_cases e:j<x
 ·exact h i j d e
 by_cases f:i=j
 ·rw[f];exact wR _
 ·have:=h i (x-1) ∅ ∅
  rw[show j=x by lia]
  rw[show a+(x-1)=a+x-1 by lia] at this
  exact wH (c ∅) this
def G4{f:Nat->Option (jq)×Nat->StateT jS Sem (ForInStep (Option (jq)×Nat))}{lo a b:Nat}{d:jS}{Q:Option (jq)×Nat->jS->Prop}(p:1<=a)(j:a<=b)(o:XT (jR d) lo a)(m:∀ x n (i:ForInStep (Option (jq)×Nat)->jS->Prop),1<=n->n<b->i (if Kk (jR d) (lo+n)<Kk (jR d) (lo+n-1) then .done (none,n) else .yield (none,n+1)) d->wpS (aB prog w) A E s (f x (none,n)) i d)(h:∀ n,a<=n->n<=b->XT (jR d) lo n->(n=b\/Kk (jR d) (lo+n)<Kk (jR d) (lo+n-1))->Q (none,n) d):wpS (aB prog w) A E s (forIn [a:b] (none,a) f) Q d:=by
 refine jU (I:=λx c e=>e=d/\c=(none,x)/\XT (jR d) lo x) ?_ ?_ ⟨rfl,rfl,o⟩
 ·rintro x c e k l ⟨rfl,rfl,g⟩;refine m x x _ ∅ l ?_
  by_cases c:Kk (jR e) (lo+x)<Kk (jR e) (lo+x-1)
  ·rw[aO c];exact h x k ∅ g (.inr c)
  ·rw[aM c];exact⟨rfl,rfl,g.snoc λ_=>uV.mp c⟩
 ·rintro c e ⟨rfl,rfl,g⟩;rw[show max a b=b by lia] at g⊢
  exact h b j (zY _) g (.inl rfl)
structure Li(a₀:jo)(p₀:jH)(xs:jo)(lo x neq:Nat)(st':jS):Prop where
 tb:TB a₀ p₀ st'
 fr:Fr xs (jR st') lo
 sg:Vm (jR st') lo x
 le:neq+1<=x
 eq:∀ i,x-(neq+1)<=i->i<x->Kk (jR st') (lo+i)=Kk (jR st') (lo+x-1)
inductive Du{γ:Type}(a₀:jo)(p₀:jH)(xs:jo)(lo x:Nat):Option γ×Nat×Nat->jS->Prop
 |mk{neq:Nat}{st':jS}:Li a₀ p₀ xs lo x neq st'->Du a₀ p₀ xs lo x (none,x,neq) st'
inductive Fh{γ:Type}(a₀:jo)(p₀:jH)(xs:jo)(lo n nrem:Nat):Option γ×Nat×Nat->jS->Prop
 |mk{x neq:Nat}{st':jS}:n+1<=x->x<=nrem->Li a₀ p₀ xs lo x neq st'->Fh a₀ p₀ xs lo n nrem (none,x,neq) st'
def Li.mq{a₀:jo}{p₀:jH}{e:jo}{a x b:Nat}{c:jS}(h:Li a₀ p₀ e a x b c)(d:a+x<=a₀.size)(k:Nat):Kk (mirror (jR c) (a+x-(b+1)) (a+x) ((a+x-(a+x-(b+1))) / 2)) k=Kk (jR c) k:=CC (by rw[h.tb.size];exact d) (λk f g=>by
 have:=h.le;have:=h.eq (k-a) ∅ ∅
 rwa [show a+(k-a)=k by lia] at this) k
def ZIe{l:jS}{a f:Nat}{Q:jq->jS->Prop}(C:Wf a₀)(hn:a+f<=a₀.size)(Y:1<=f)(v:TB a₀ p₀ l)(h:∀ m d,TB a₀ p₀ d->Fr (jR l) (jR d) a->1<=m->m<=f->XT (jR d) a m->Q (some m) d):wpS (aB prog w) A E s (countRun' a f) Q l:=by
 refine jP (G4 (lo:=a) (zY 1) Y (λi j _ _=>by rw[show i=j by lia];exact wR _) (λx n X F G q=>GV v C ∅ ∅ q) λn F G I n4=>?_)
 dsimp only;refine Wc (λnn=>?_) λnn=>?_
 ·exact jQ (h n l v (λ_ _=>rfl) F G I)
 have D:Kk (jR l) (a+n)<Kk (jR l) (a+n-1):=n4.resolve_left nn;refine Jm (λd=>TB a₀ p₀ d/\Fr (jR l) (jR d) a/\Vm (jR d) a (n+1)) (λa2 H=>?_) (λc=>?_) (λc r=>?_)
 ·obtain⟨K,M,L⟩:=H;refine NE ?_;refine Pt (Du a₀ p₀ (jR l) a) (Fh a₀ p₀ (jR l) a n f) ⟨K,M,L,(by lia:0+1<=n+1),λi t u=>by congr 1;lia⟩ ?step ?fin ?post
  case fin=>
   rintro _ d ⟨b⟩;rw[show max (n+1) f=f by lia] at b⊢
   exact⟨∅,∅,b⟩
  case step=>
   rintro x _ d a0 a1 (@⟨R,_,b⟩);dsimp only;refine HM b.tb C ∅ ∅ (NG (λp=>?_) λp=>HM b.tb C ∅ ∅ (NG (λU=>jQ ⟨∅,∅,b⟩) λU=>jQ ⟨b.tb,b.fr,?_,?_,λi t u=>?_⟩))
   ·refine Jm (λg=>Ke a₀ p₀ d g) (λg H=>?_) (λc=>⟨b.tb,λ_=>rfl⟩) (λc r=>?_)
    ·refine jQ ⟨H.1,λi c=>(H.2 i).trans (b.fr i c),Vm.snoc (λi j t u=>?_) λ_=>?_,(by lia:0+1<=x+1),λi t u=>by congr 1;lia⟩
     all_goals rw[H.2,H.2]
     ·exact b.sg i j t u
     ·exact wF p
    ·exact jP (wpS_reverse (r _ ⟨b.tb.setArr (mirror_perm _ _ _ _),b.mq ∅⟩))
   ·exact b.sg.snoc λ_=>uV.mp U
   ·exact vD b.le
   ·rw[show a+(x+1)-1=a+x by lia]
    by_cases z:i=x
    ·rw[z]
    ·have Z:Kk (jR d) (a+x)=Kk (jR d) (a+x-1):=∅
     rw[Z];exact b.eq i ∅ ∅
  case post=>
   rintro _ d (@⟨x,R,_,x1,x2,b⟩);dsimp only;refine Jm (λg=>Ke a₀ p₀ d g) (λg H=>?_) (λc=>⟨b.tb,λ_=>rfl⟩) (λc r=>jP (wpS_reverse (r _ ⟨b.tb.setArr (mirror_perm _ _ _ _),b.mq ∅⟩)))
   refine jP (wpS_reverse (?_));have O:a+x<=(jR g).size:=by rw[H.1.size];lia
   generalize T:jX g (mirror (jR g) a (a+x) ((a+x-a) / 2))=B;have S:TB a₀ p₀ B:=by
    rw[<-T];exact H.1.setArr (mirror_perm _ _ _ _)
   have J:∀ k,Kk (jR B) k=if a<=k/\k<a+x then Kk (jR d) (a+(a+x)-1-k) else Kk (jR d) k:=λk=>by
    rw[<-T];show Kk (mirror (jR g) a (a+x) ((a+x-a) / 2)) k=_;rw[D6 O,H.2,H.2]
   refine jP (G4 (lo:=a) ∅ x2 (λi j c3 c4=>?_) (λy m X F G q=>GV S C ∅ ∅ q) λm m1 m2 m3 m4=>jQ (h m B S (λi c=>?_) ∅ m2 m3))
   ·rw[J,J,aO ∅,aO ∅]
    have:=b.sg (x-1-j) (x-1-i) ∅ ∅
    rwa [show a+(x-1-j)=a+(a+x)-1-(a+j) by lia,show a+(x-1-i)=a+(a+x)-1-(a+i) by lia] at this
   ·rw[J,aM ∅]
    exact b.fr i c
 ·have e:n=1:=∅
  subst e;refine⟨v,λ_ _=>rfl,Vm.snoc (λi j t u=>?_) λ_=>wF D⟩;rw[show i=j by lia]
  exact wR _
 ·refine jP (KU v C ∅ ∅ ?_)
  dsimp only;refine NG (λhr=>?_) λhr=>?_
  ·exact jQ (h n l v (λ_ _=>rfl) F G I)
  have N:a+n<=(jR l).size:=by rw[v.size];lia
  have o:∀ k,a<=k->k<a+n->Kk (jR l) k=Kk (jR l) (a+n-1):=λk t u=>by
   have V:=I 0 (k-a) ∅ ∅
   have W:=I (k-a) (n-1) ∅ ∅
   rw[show a+(k-a)=k by lia] at V W
   rw[show a+(n-1)=a+n-1 by lia] at W
   rw[tO] at V
   lia
  have P:∀ k,Kk (mirror (jR l) a (a+n) ((a+n-a) / 2)) k=Kk (jR l) k:=CC N o;refine jP (wpS_reverse (r _ ⟨v.setArr (mirror_perm _ _ _ _),λi _=>P i,λi j t u=>?_⟩));show Kk (mirror (jR l) a (a+n) ((a+n-a) / 2)) _<=Kk (mirror (jR l) a (a+n) ((a+n-a) / 2)) _;rw[P,P];refine Vm.snoc (x:=n) (λi j t u=>?_) (λ_=>wF D) i j t u;rw[o (a+j) ∅ ∅,o (a+i) ∅ ∅]
  exact wR _
end
def El{o:Nat}:∀(l:jz)(d:Nat)(c:jo)(P M R:jz),c.toList=P++(M++R)->P.length=o+d->M.length=l.length->((l.zipIdx d).foldl (λa x=>a.setIfInBounds (o+x.2) x.1) c).toList=P++(l++R)
 | [],d,c,P,M,R,e,g,f=>by
  rw[List.zipIdx_nil,List.foldl_nil,e,tT f]
 | p::l,d,c,P,M,R,e,g,f=>by
  obtain⟨m,b,rfl⟩:∃ m b,M=m::b:=by
   cases M with
   | nil=>cases f
   | cons m b=>exact⟨m,b,rfl⟩
  rw[List.zipIdx_cons,tF];have:=El (o:=o) l (d+1) (c.setIfInBounds (o+d) p) (P++[p]) b R (by
   rw[qE,e,<-g];simp) (by rw[zW];simp;lia) (by simpa using f)
  rw[this];simp
def wr(b:jo)(o:Nat)(l:jz):jo:=l.zipIdx.foldl (λa x=>a.setIfInBounds (o+x.2) x.1) b
def ZRl{xs r:jo}{o n:Nat}(g:o+n<=xs.size)(b:r.toList.Perm ((xs.toList.drop o).take n)):(wr xs o r.toList).Perm xs/\(∀ i,i<o\/o+n<=i->Kk (wr xs o r.toList) i=Kk xs i)/\∀ i,i<n->Kk (wr xs o r.toList) (o+i)=Kk r i:=by
 have f:r.toList.length=n:=by
  rw[b.length_eq,xX,wL,yP]
  lia
 have d:xs.toList=xs.toList.take o++((xs.toList.drop o).take n++xs.toList.drop (o+n)):=by
  rw[<-vG,wX,wX]
 have c:(xs.toList.take o).length=o:=by
  rw[xX,yP]
  lia
 have a:(wr xs o r.toList).toList=xs.toList.take o++(r.toList++xs.toList.drop (o+n)):=El r.toList 0 xs _ _ _ d c (by rw[<-b.length_eq])
 refine⟨qL.mpr ?_,λi e=>Ik ?_,λi e=>Ik ?_⟩
 ·rw[a]
  conv=>rhs;rw[d]
  exact(wO.refl _).append (b.append (wO.refl _))
 ·rw[<-yY,<-yY,a];rcases e with z | z
  ·rw[wP ∅,qO z]
  ·rw[xQ ∅,xQ ∅,sX,c,f]
   congr 1
   lia
 ·rw[<-yY,<-yY,a,xQ ∅,wP ∅,c]
  congr 1
  lia
def O3{a:jo}{o n i:Nat}(b:i<n):Kk (a.extract o (o+n)) i=Kk a (o+i):=Ik (by
 rw[<-yY,O2,qO b,sX,yY])
def MB{a:jo}(h:Qt a a.size):a.toList.Pairwise Xx:=tU.mpr λi j c b d=>by
 have:=h i j ∅ (by simpa using b)
 unfold Xx;rw[NK (i:=i) (p:=a.toList[i]) (by rw[<-yY];exact zU c),NK (i:=j) (p:=a.toList[j]) (by rw[<-yY];exact zU b)] at this
 exact this
def ZRK{a:jo}(h:a.toList.Pairwise Xx):Qt a a.size:=λi j e f=>by
 have d:j<a.toList.length:=by simpa using f
 have b:i<a.toList.length:=∅
 rw[NK (i:=i) (p:=a.toList[i]) (by rw[<-yY];exact zU b),NK (i:=j) (p:=a.toList[j]) (by rw[<-yY];exact zU d)]
 by_cases c:i=j
 ·subst c;exact wR _
 ·exact tU.mp h i j b d ∅
def AS(a:jo)(c b:Nat):Prop:=∀ i j,c<=i->i<=j->j<b->Kk a i<=Kk a j
def XT.abs{d:jo}{a n:Nat}(h:XT d a n):AS d a (a+n):=λi j b c e=>by
 obtain⟨f,rfl⟩:=vX b;obtain⟨g,rfl⟩:=vX (zS b c);exact h f g (qN c) (qM e)
def AS.seg{b:jo}{a n:Nat}(h:AS b a (a+n)):XT b a n:=λi j c d=>h _ _ (xB _ _) (rG c _) (Nat.add_lt_add_left d _)
def AS.two{a:jo}{c m b:Nat}(h:AS a c m)(g:AS a m b)(f:∀ i j,c<=i->i<m->m<=j->j<b->Kk a i<=Kk a j):AS a c b:=λi j d e k=>by
 by_cases l:j<m
 ·exact h i j d e l
 by_cases n:i<m
 ·exact f i j d n (wV l) k
 ·exact g i j (wV n) e k
def AS.ext{b:jo}{e d o n:Nat}(h:AS b e d)(f:e<=o)(g:o+n<=d)(z:(b.extract o (o+n)).size=n):Qt (b.extract o (o+n)) (b.extract o (o+n)).size:=λi j c a=>by
 rw[z] at a;rw[O3 (wJ c a),O3 a];exact h _ _ (zS f (xB _ _)) (rG c _) (yW (Nat.add_lt_add_left a _) g)
def AS.put{d ys:jo}{h o m e g:Nat}(t:AS d h m)(v:AS d m g)(A:h<=o)(r:m<=e)(l:o<=m)(y:e<=g)(s:∀ i j,h<=i->i<o->m<=j->j<g->Kk d i<=Kk d j)(B:∀ i j,h<=i->i<m->e<=j->j<g->Kk d i<=Kk d j)(f:∀ j,j<o\/e<=j->Kk ys j=Kk d j)(C:AS ys o e)(w:∀ j,o<=j->j<e->∃ u,o<=u/\u<e/\Kk ys j=Kk d u):AS ys h g:=by
 refine AS.two (m:=o) (λi j b a c=>?_) (AS.two C (λi j b a c=>?_) λi j b a c k=>?_) λi j b a c k=>?_
 ·rw[f i (.inl (wJ a c)),f j (.inl c)];exact t i j b a (yW c l)
 ·rw[f i (.inr b),f j (.inr (zS b a))];exact v i j (zS r b) a c
 ·obtain⟨u,n,p,q⟩:=w i b a;rw[q,f j (.inr c)];by_cases z:u<m
  ·exact B u j (zS A n) z c k
  ·exact v u j (wV z) (yG (yW p c)) k
 ·rw[f i (.inl a)];by_cases z:j<e
  ·obtain⟨u,n,p,q⟩:=w j c z;rw[q];by_cases x:u<m
   ·exact t i u b (yG (yW a n)) x
   ·exact s i u b a (wV x) (yW p y)
  ·rw[f j (.inr (wV z))];exact s i j b a (zS r (wV z)) k
section
variable[KoOk prog w A s]{a₀:jo}{p₀:jH}
def A0{b x:jS}{Q:PUnit->jS->Prop}(h:∀ a,a=x->Q ⟨⟩ a):wpS (aB prog w) A E s (set x:StateT jS Sem PUnit) Q b:=by
 unfold wpS;rw[StateT.run_set];exact ad ⟨rfl,h _ rfl⟩
def ZGe{K:jS}{i b d V m a1:Nat}{Q:Bool->jS->Prop}(h0:Wf a₀)(M:TB a₀ p₀ K)(e1:p₀[i]? = some (b,d,V))(e2:p₀[i+1]? = some (b+d,m,a1))(a2:1<=d)(a3:1<=m)(hn:b+d+m<=a₀.size)(W:XT (jR K) b d)(s2:XT (jR K) (b+d) m)(h:∀ g,TB a₀ ((p₀.setIfInBounds i (b,d+m,V)).eraseIdxIfInBounds (i+1)) g->(∀ j,j<b\/b+d+m<=j->Kk (jR g) j=Kk (jR K) j)->XT (jR g) b (d+m)->Q true g):wpS (aB prog w) A E s (mergeAt' i) Q K:=by
 obtain⟨kd,a,pd,gl,R⟩:=K
 replace W:XT a b d:=W
 replace s2:XT a (b+d) m:=s2
 have J:a.Perm a₀:=M.perm;have ep:pd=p₀:=M.pend;have ek:kd=U0:=M.kind;have P:R=none:=M.failed
 replace h:∀ g,TB a₀ ((p₀.setIfInBounds i (b,d+m,V)).eraseIdxIfInBounds (i+1)) g->(∀ j,j<b\/b+d+m<=j->Kk (jR g) j=Kk a j)->XT (jR g) b (d+m)->Q true g:=h
 subst ep;refine Hi ?_;dsimp only;rw[e1,e2];dsimp only;refine jP (A0 λB G=>?_);have l:TB a₀ ((pd.setIfInBounds i (b,d+m,V)).eraseIdxIfInBounds (i+1)) B:=by
  rw[G];exact⟨J,ek,P,rfl⟩
 have Z:jR B=a:=by rw[G]
 clear G;have hz:a.size=a₀.size:=J.size_eq;have N:Wf a:=M.ints h0;have H:=W.abs;have D:=s2.abs;refine U2 N ∅ λq eq iq kq=>jP (JI l.kind iq N ∅ ∅ (Ji W) λk k1 k2 k3=>?_)
 dsimp only
 replace k2:∀ i,b<=i->i<b+k->Kk a i<=kv q:=λi T h2=>by
  obtain⟨i,rfl⟩:=vX T;exact Uo.1.mp (k2 i (qM h2))
 replace k3:kv q<Kk a (b+k)\/k=d:=by
  by_cases z:k<d
  ·exact .inl (Uo.2.mp (k3 k (zY _) z))
  ·exact .inr ∅
 have q0:∀ j,b+d<=j->j<b+d+m->kv q<=Kk a j:=λj v c=>by
  rw[<-kq];exact D _ j (zY _) v c
 have O:∀ i j,b<=i->i<b+k->b+d<=j->j<b+d+m->Kk a i<=Kk a j:=λi j v y F I=>wH (k2 i v y) (q0 j F I);have x:(∀ i j,b<=i->i<b+d->b+d<=j->j<b+d+m->Kk a i<=Kk a j)->Q true B:=λf=>h B l (λj _=>by rw[Z]) (by
  rw[Z];exact AS.seg (by rw[<-vI];exact H.two D f))
 refine Wc (λy=>jQ (x (by rw[show k=d by lia] at O;exact O))) λy=>?_
 obtain⟨n,a0⟩:∃ n,d=k+n:=vX k1;subst a0;rw[tW] at y⊢;rw[<-vI] at H D O x hn q0 kq⊢;generalize ho:b+k=o at *;refine U2 N ∅ λp ep ip kp=>jP (JI l.kind ip N ∅ ∅ (Ji (AS.seg D)) λt t1 t2 t3=>?_)
 dsimp only
 replace t2:t=0\/Kk a (o+n+(t-1))<kv p:=by
  by_cases z:t=0
  ·exact .inl z
  ·exact .inr (Uj.1.mp (t2 (t-1) ∅))
 replace t3:∀ i,o+n+t<=i->i<o+n+m->kv p<=Kk a i:=λi T h2=>by
  obtain⟨i,rfl⟩:=vX (zS (xB _ t) T);exact Uj.2.mp (t3 i (qN T) (qM h2))
 have T3:∀ i j,b<=i->i<o+n->o+n+t<=j->j<o+n+m->Kk a i<=Kk a j:=λi j v y F I=>by
  refine wH (H i (o+n-1) v ∅ ∅) ?_
  rw[kp];exact t3 j F I
 refine Wc (λF=>jQ (x λi j v y I c4=>T3 i j v y ∅ c4)) λF=>?_
 have zx:(a.extract o (o+n)).size=n:=by rw[Array.size_extract,sI ∅];exact tW ..
 have zy:(a.extract (o+n) (o+n+t)).size=t:=by rw[Array.size_extract,sI ∅];exact tW ..
 have U:∀{o n:Nat},Wf (a.extract o (o+n)):=λp J=>N p (by rw[O2] at J;exact List.mem_of_mem_drop (List.mem_of_mem_take J))
 have X:=H.ext (o:=o) (n:=n) ∅ (zY _) zx
 have Y:=D.ext (o:=o+n) (n:=t) (zY _) ∅ zy
 have f0:∀ i,i<(a.extract o (o+n)).size->Kk (a.extract (o+n) (o+n+t)) 0<=Kk (a.extract o (o+n)) i:=λi c=>by
  rw[zx] at c;rw[O3 ∅,O3 c,tO,kq]
  refine wH (wF (k3.resolve_right ∅)) (H o (o+i) ∅ ∅ ∅)
 have R:∀ j,j<(a.extract (o+n) (o+n+t)).size->Kk (a.extract (o+n) (o+n+t)) j<=Kk (a.extract o (o+n)) ((a.extract o (o+n)).size-1):=λj c=>by
  rw[zy] at c;rw[O3 c,zx,O3 ∅,<-Nat.add_sub_assoc ∅,kp]
  exact wH (D (o+n+j) (o+n+(t-1)) ∅ ∅ ∅) (wF (t2.resolve_left F))
 have L:∀ r e,Sm B e->X8 ((a.extract o (o+n)).toList++(a.extract (o+n) (o+n+t)).toList) r->Q (failedOf (jX e (wr (jR e) o r.toList))).isNone (jX e (wr (jR e) o r.toList)):=λr e C gd=>by
  obtain⟨S,g2⟩:=gd;have el:(a.extract o (o+n)).toList++(a.extract (o+n) (o+n+t)).toList=(a.toList.drop o).take (n+t):=by
   rw[O2,O2,List.take_add,vG]
  rw[el] at S;obtain⟨w1,w2,w3⟩:=ZRl (xs:=a) (o:=o) (n:=n+t) ∅ S
  have ez:jR e=a:=C.arr.trans Z;rw[ez];have zr:r.size=n+t:=by
   rw[<-yP,S.length_eq,xX,wL,yP]
   lia
  have sr:=ZRK g2;rw[zr] at sr;have P:failedOf (jX e (wr a o r.toList))=none:=C.failed.trans l.failed;rw[P];refine h _ ⟨w1.trans J,C.kind.trans l.kind,P,C.pend.trans l.pend⟩ (λj hj=>w2 j ∅) (AS.seg ?_)
  rw[<-vI,<-vI,ho];rw[<-vI] at w2;refine AS.put (ys:=wr a o r.toList) H D ∅ (xB _ t) (xB _ n) ∅ O T3 w2 (λi j v y F=>?_) λj v y=>?_
  ·obtain⟨i,rfl⟩:=vX v;obtain⟨j,rfl⟩:=vX (zS v y);rw[w3 i ∅,w3 j ∅]
   exact sr _ _ (qN y) ∅
  ·obtain⟨i,rfl⟩:=vX v;rw[w3 i ∅]
   have hm:r.toList[i]'(by rw[yP];lia)∈(a.toList.drop o).take (n+t):=S.mem_iff.mp (xL _)
   obtain⟨u,u1,u2,_,u3⟩:=Ob hm;exists u,u1,by lia
   rw[<-u3];exact NK (by rw[<-yY];exact zU _)
 refine VL (λI=>?_) λI=>?_
 ·exact jP (Ad l.kind U U ∅ ∅ X Y f0 R (MB X) (MB Y) λr e C gd=>jP (wpS_modify (jP (wpS_get (jQ (L r e C gd))))))
 ·exact jP (ZG2 l.kind U U ∅ ∅ X Y f0 R (MB X) (MB Y) λr e C gd=>jP (wpS_modify (jP (wpS_get (jQ (L r e C gd))))))
end
abbrev Rs:=List (Nat×Nat×Nat)
def Rn(b:jo):Rs->Nat->Nat->Prop
 | [],a,c=>a=c
 | r::l,a,c=>r.1=a/\1<=r.2.1/\XT b r.1 r.2.1/\Rn b l (r.1+r.2.1) c
def Rn.le{b:jo}:∀{l:Rs}{a c:Nat},Rn b l a c->a+l.length<=c
 | [],a,c,h=>by cases h;simp
 | r::l,a,c,⟨h1,h2,_,h4⟩=>by
  have:=h4.le;simp only[zJ]
  lia
def Rn.app{f:jo}:∀{l m:Rs}{a c:Nat},Rn f (l++m) a c ↔ ∃ b,Rn f l a b/\Rn f m b c
 | [],m,a,c=>⟨λh=>⟨a,rfl,h⟩,λ⟨b,d,e⟩=>by cases d;exact e⟩
 | r::l,m,a,c=>by
  show (r.1=a/\1<=r.2.1/\XT f r.1 r.2.1/\Rn f (l++m) (r.1+r.2.1) c) ↔ _;rw[Rn.app];exact⟨λ⟨d,e,g,b,i,j⟩=>⟨b,⟨d,e,g,i⟩,j⟩,λ⟨b,⟨d,e,g,i⟩,j⟩=>⟨d,e,g,b,i,j⟩⟩
def XT.frame{a b:jo}{o n:Nat}(h:XT a o n)(e:∀ j,o<=j->j<o+n->Kk b j=Kk a j):XT b o n:=λi j c d=>by
 rw[e _ ∅ ∅,e _ ∅ ∅]
 exact h i j c d
def Rn.frame{d f:jo}:∀{l:Rs}{a c:Nat},Rn d l a c->(∀ j,a<=j->j<c->Kk f j=Kk d j)->Rn f l a c
 | [],a,c,h,_=>h
 | r::l,a,c,⟨h1,h2,h3,h4⟩,e=>by
  have:=h4.le;exact⟨h1,h2,h3.frame λj g b=>e j ∅ ∅,h4.frame λj g b=>e j ∅ b⟩
def Rn.mod{d:jo}{f:Nat×Nat×Nat->Nat×Nat×Nat}(b:∀ r,(f r).1=r.1/\(f r).2.1=r.2.1):∀{l:Rs}{i a c:Nat},Rn d l a c->Rn d (l.modify i f) a c
 | [],i,a,c,h=>by simpa using h
 | r::l,0,a,c,⟨h1,h2,h3,h4⟩=>by
  rw[List.modify_zero_cons];exact⟨(b r).1.trans h1,by rw[(b r).2];exact h2,by rw[(b r).1,(b r).2];exact h3,by rw[(b r).1,(b r).2];exact h4⟩
 | r::l,i+1,a,c,⟨h1,h2,h3,h4⟩=>by
  rw[List.modify_succ_cons];exact⟨h1,h2,h3,h4.mod b⟩
structure RS(a₀:jo)(lo:Nat)(st:jS):Prop where
 tb:TB a₀ (jT st) st
 rn:Rn (jR st) (jT st).toList 0 lo
 le:lo<=a₀.size
section
variable[KoOk prog w A s]{a₀:jo}
def Gu{d:jS}{i g:Nat}{Q:Bool->jS->Prop}(K:Wf a₀)(r:RS a₀ g d)(L:i+1<(jT d).size)(h:∀ a,RS a₀ g a->(jT a).size+1=(jT d).size->(∀ j,g<=j->Kk (jR a) j=Kk (jR d) j)->Q true a):wpS (aB prog w) A E s (mergeAt' i) Q d:=by
 have M:(jT d).toList.length=(jT d).size:=yP;generalize x:jT d=p at L M h;have e:p.toList=p.toList.take i++p.toList[i]'∅::p.toList[i+1]'∅::p.toList.drop (i+2):=by
  rw[zEJ,zEJ,wX]
 have H:Rn (jR d) p.toList 0 g:=by rw[<-x];exact r.rn
 have t:p[i]? = some (p.toList[i]'∅):=by rw[<-yY];exact zU _
 have u:p[i+1]? = some (p.toList[i+1]'∅):=by rw[<-yY];exact zU _
 generalize p.toList[i]'∅=U at e t
 generalize p.toList[i+1]'∅=V at e u
 have y:(p.toList.take i).length=i:=by rw[xX];lia
 generalize p.toList.take i=P at e y;generalize p.toList.drop (i+2)=R at e;rw[e] at H;obtain⟨b,O,S⟩:=Rn.app.mp H;obtain⟨q,k,o⟩:=U;obtain⟨sb,l,T⟩:=V;obtain⟨z,B,C,D,F,G,n⟩:=S;dsimp only at z B C D F G n;subst D;have Z:=n.le;have N:=r.le;have I:=r.tb;rw[x] at I;refine ZGe K I t u B F ∅ C G λa f m W=>?_
 have J:((p.setIfInBounds i (q,k+l,o)).eraseIdxIfInBounds (i+1)).toList=P++(q,k+l,o)::R:=by
  rw[Array.toList_eraseIdxIfInBounds,qE,e,<-y];simp[List.eraseIdx_append_of_length_le]
 have v:(jT a).toList=P++(q,k+l,o)::R:=by rw[f.pend];exact J
 refine h a ⟨?_,?_,r.le⟩ ?_ λj c=>m j (.inr ∅)
 ·rw[f.pend];exact f
 ·rw[v];refine Rn.app.mpr ⟨b,O.frame λj _ c=>m j (.inl ∅),z,(by show 1<=k+l;lia),W,?_⟩
  dsimp only;rw[<-vI];exact n.frame λj c _=>m j (.inr c)
 ·have X:=congrArg wQ v;have Y:=congrArg wQ e;simp at X Y
  lia
def ZP0{c:Prop}{_:Decidable c}{n:Nat}(h:2<=n):(if c then n-2-1 else n-2)+1<n:=by split <;> lia
def ZPi{n:Nat}(h:n > 1):n-2+1<n:=∅
def ZSW{f b:Type}{c:b->Prop}{_:∀ n,Decidable (c n)}{x J:b->StateT jS Sem f}{Q:f->jS->Prop}{a:jS}{d:b->Prop}(P:b->jS->Prop)(k:∀ n a,P n a->wpS (aB prog w) A E s (J n) Q a)(g:∀ n,¬c n->d n->P n a)(i:∀ n,c n->(∀ n a,P n a->wpS (aB prog w) A E s (J n) Q a)->d n->wpS (aB prog w) A E s (x n) Q a)(n:b)(e:d n):wpS (aB prog w) A E s (if c n then x n else J n) Q a:=by
 refine VL (λh=>?_) λh=>?_
 ·exact i n h k e
 ·exact k n a (g n h e)
def RS.push{b:jS}{a n:Nat}(r:RS a₀ a b)(h:XT (jR b) a n)(d:1<=n)(c:a+n<=a₀.size):RS a₀ (a+n) (setPending b ((jT b).push (a,n,0))):=by
 refine⟨⟨r.tb.perm,r.tb.kind,r.tb.failed,rfl⟩,?_,c⟩;show Rn (jR b) ((jT b).push (a,n,0)).toList 0 (a+n);rw[vP];exact Rn.app.mpr ⟨a,r.rn,rfl,d,h,rfl⟩
def RS.mod{a:jS}{b i:Nat}{f:Nat×Nat×Nat->Nat×Nat×Nat}(r:RS a₀ b a)(c:∀ r,(f r).1=r.1/\(f r).2.1=r.2.1):RS a₀ b (setPending a ((jT a).modify i f)):=by
 refine⟨⟨r.tb.perm,r.tb.kind,r.tb.failed,rfl⟩,?_,r.le⟩;show Rn (jR a) ((jT a).modify i f).toList 0 b;rw[Array.toList_modify];exact r.rn.mod c
def GL{st:jS}{Q:Unit->jS->Prop}(C:Wf a₀)(v:TB a₀ #[] st)(h1:1<=a₀.size)(h:∀ z,(jR z).Perm a₀->failedOf z=none->Qt (jR z) a₀.size->Q () z):wpS (aB prog w) A E s sortRuns' Q st:=by
 obtain⟨kd,X,T,Z,Y⟩:=st;have hz:X.size=a₀.size:=v.perm.size_eq;have r0:RS a₀ 0 (SortSt.mk' kd X T Z Y):=⟨⟨v.perm,v.kind,v.failed,rfl⟩,by
  have:T=#[]:=v.pend;subst this;exact rfl,zL _⟩
 refine jP (wpS_get ?_);dsimp only;rw[hz];generalize hm:minRun' a₀.size a₀.size 0=mr;refine jP (jV (jU (I:=λx c a=>∃ b,c=(none,b)/\RS a₀ b a/\x<=b) (Q:=λc a=>∃ b,c=(none,b)/\RS a₀ a₀.size a) ?step ?fin ⟨0,rfl,r0,zY _⟩) ?post)
 case fin=>
  rintro c a ⟨b,rfl,r,x⟩;have:=r.le;have e:b=a₀.size:=∅
  subst e;exact⟨_,rfl,r⟩
 case post=>
  rintro c a ⟨b,rfl,r⟩;dsimp only;refine jP (jV (jU (I:=λx c a=>c=(none,())/\RS a₀ a₀.size a/\((jT a).size<=1\/(jT a).size+x<=a₀.size)) (Q:=λc a=>c=(none,())/\RS a₀ a₀.size a/\(jT a).size<=1) ?_ ?_ ⟨rfl,r,.inr ?_⟩) ?_)
  ·rintro x c d _ hx ⟨rfl,g,z⟩;refine jP (wpS_get ?_);refine VL (λc=>?_) λc=>?_
   ·exact jQ ⟨rfl,g,c⟩
   refine jP (Gu C g (ZP0 (Nat.not_le.mp c)) λO D e3 _=>?_);rw[aM (by simp)]
   exact jQ ⟨rfl,D,.inr ∅⟩
  ·rintro c d ⟨rfl,g,z⟩;exists rfl,g
   lia
  ·have:=r.rn.le;rw[yP] at this
   lia
  ·rintro c d ⟨rfl,g,z⟩;dsimp only;refine jQ (h d g.tb.perm g.tb.failed ?_);have F:=g.rn;rw[<-yP] at z;generalize (jT d).toList=l at F z
   match l,F,z with
   | [],F,_=>exact absurd F (by show ¬0=a₀.size;lia)
   | [q],⟨q1,q2,q3,U⟩,_=>
    have U:q.1+q.2.1=a₀.size:=U;intro i j G c2;have:=q3 i j G ∅
    rw[q1,tL,tL] at this;exact this
 case step=>
  rintro x c a _ hx ⟨b,rfl,r,xl⟩;dsimp only;refine VL (λG=>?_) λG=>?_
  ·have:=r.le;have e:b=a₀.size:=∅
   subst e;exact jQ ⟨_,rfl,r⟩
  refine jP (ZIe C ∅ ∅ r.tb λm d p J M N B=>?_)
  dsimp only;have g:RS a₀ b d:=⟨by rw[p.pend];exact p,by rw[p.pend];exact r.rn.frame λj _ c=>J j c,r.le⟩
  have H:1<=m/\m<=a₀.size-b/\XT (jR d) b m:=⟨M,N,B⟩;clear M N B
  revert H
  revert m
  refine ZSW (λn st=>RS a₀ b st/\XT (jR st) b n/\1<=n/\b+n<=a₀.size) (λn O H=>?_) (λm _ H=>⟨g,H.2.2,H.1,∅⟩) (λm cm L H=>?_)
  ·obtain⟨D,W,S,R⟩:=H;refine jP (wpS_get ?_);split
   ·rename_i V P pw _
    refine jP (jV (jU (I:=λ_ c st=>c=(none,())/\RS a₀ b st/\XT (jR st) b n) (Q:=λc st=>c=(none,())/\RS a₀ b st/\XT (jR st) b n) ?_ (λ_ _ h=>h) ⟨rfl,D,W⟩) ?_)
    ·rintro y c k _ _ ⟨rfl,u,o⟩;refine jP (wpS_get ?_);by_cases c:(jT k).size > 1
     ·rw[aO c];split
      ·split
       ·exact jQ ⟨rfl,u,o⟩
       ·refine jP (Gu C u (ZPi c) λa0 r5 _ k5=>?_);rw[aM (by simp)]
        exact jQ ⟨rfl,r5,o.frame λj c _=>k5 j c⟩
      ·exact jQ ⟨rfl,u,o⟩
     ·rw[aM c];exact jQ ⟨rfl,u,o⟩
    ·rintro c k ⟨rfl,u,o⟩;dsimp only;exact jP (wpS_modify (jP (wpS_modify (jQ ⟨_,rfl,(u.mod (i:=(jT k).size-1) (f:=λx=>(x.1,x.2.1,power' a₀.size (2 * V+P) (2 * V+P+P+n) a₀.size)) λ_=>⟨rfl,rfl⟩).push o S R,∅⟩))))
   ·exact jP (wpS_modify (jQ ⟨_,rfl,D.push W S R,∅⟩))
  ·obtain⟨M,N,m3⟩:=H;refine NE ?_;refine jP (ZMB C ∅ ∅ g.tb m3 λk t K o=>?_)
   rw[aM (by simp)]
   exact L _ k ⟨⟨by rw[t.pend];exact t,by rw[t.pend];exact g.rn.frame λj _ c=>K j c,g.le⟩,o,∅,∅⟩
end
end
end L2
namespace Tw
open PySem PySem.Spec L2 PyProof.Rows
structure Kg(g:KT->KT):Prop where
 plt:∀ t u,(g t).plt (g u)=t.lt u
 cmp:∀ t u,(g t).cmp (g u)=true
 shape:∃ n:Nat,∀ t,∃(k:Int)(r:jp),g t=.tup (.int k::r)/\r.length=n
def QV(g:KT->KT)(h:aE)(t:KT)(v:aj):Prop:=ZK h (g t) v
section
variable{g:KT->KT}
def EF:∀{l m:jp}{f d:je}{i:Nat}{Q:Bool->al->Prop},l.length=m.length->jZ s.heap l f->jZ s.heap m d->cmpL l m=true->A.units+ke l<cLine->Q (pltL l m) s->PySem.W.KatLex prog w A true false Q (f.zip d) (i+1) s
 | [],m,f,d,i,Q,c,x,y,_,_,h=>by
  rw[jZ] at x;subst x
  cases m with
  | nil=>rw[pltL] at h;exact PySem.W.kat_nil h
  | cons _ _=>simp at c
 | a::l,m,f,d,i,Q,c,x,y,hc,hu,h=>by
  cases m with
  | nil=>simp at c
  | cons b m=>
   rw[jZ] at x y;obtain⟨v,r,rfl,k,o⟩:=x;obtain⟨j,q,rfl,n,p⟩:=y;rw[ke] at hu;rw[pltL] at h;rw[cmpL] at hc;refine PySem.W.kat_cons (OV a.depth a b A v j (zY _) k n ∅ prog w _ _ ?_)
   refine PySem.W.kat_go (λe=>PySem.W.kat_yes ?_) (λe=>PySem.W.kat_no ?_)
   ·rw[e,aO rfl] at h hc;exact EF (by simpa using c) o p hc ∅ h
   ·rw[e,aM zV] at h hc;exact PySem.W.kat_one v j (De a.depth a b A v j (zY _) k n hc ∅ prog w _ _ h)
def ZSN(z:Kg g){t u:KT}{x y:aj}{Q:Bool->al->Prop}(l:QV g s.heap t x)(o:QV g s.heap u y)(G:A.units+(g t).depth<cLine)(h:Q (t.lt u) s):aC (aB prog w) A (keyLt' (tuples' true) x y) Q E s:=by
 obtain⟨n,M⟩:=z.shape;obtain⟨k,r,S,la⟩:=M t;obtain⟨m,q,T,lc⟩:=M u;have b:=z.plt t u;have d:=z.cmp t u;unfold QV at l o;rw[S] at b d l G;rw[T] at b d o;rw[ZK] at l o;obtain⟨a,Y,rfl,⟨⟨cl,dd,O,sl⟩,X,U,n1,V⟩,i⟩:=l;obtain⟨c,H,rfl,⟨⟨N,R,P,a0⟩,B,F,n2,v⟩,j⟩:=o;have Z:=i.length;have l2:=j.length;rw[jZ] at i j;obtain⟨v1,K,rfl,I,i⟩:=i;obtain⟨v2,L,rfl,J,j⟩:=j;rw[ZK] at I J;obtain⟨C,rfl⟩:=I;obtain⟨D,rfl⟩:=J;rw[KT.plt,pltL] at b;rw[KT.cmp,cmpL] at d;rw[KT.depth,ke] at G;refine PySem.W.kat_lt X V B v ?_;have f:decide ((Value.int k C::K).toArray.size<(Value.int m D::L).toArray.size)=false:=by
  simp only[zJ] at Z l2;simp only[zP,zJ,decide_eq_false_iff_not]
  lia
 rw[f];show PySem.W.KatLex prog w A true false Q ((.int k C,.int m D)::K.zip L) 0 s;refine PySem.W.kat_cons (SeqAt.EqAt.int_int k C m D prog w _ _ ?_);refine PySem.W.kat_go (λe=>PySem.W.kat_yes ?_) (λe=>PySem.W.kat_no ?_)
 ·have p:(KT.int k).eqb (KT.int m)=true:=by rw[KT.eqb];exact e
  rw[p,aO rfl] at b d;refine EF (by rw[la,lc]) i j d ∅ ?_
  rw[b];exact h
 ·have p:(KT.int k).eqb (KT.int m)=false:=by rw[KT.eqb];exact e
  rw[p,aM zV,KT.plt] at b;refine oneLt_int ?_;rw[b];exact h
end
def Ys(g:KT->KT)(h:aE):jp->je->Prop
 | [],[]=>True
 | t::ts,v::vs=>QV g h t v/\Ys g h ts vs
 | _,_=>False
def Ys.len{g:KT->KT}{h:aE}:∀{a:jp}{b:je},Ys g h a b->a.length=b.length
 | [],[],_=>rfl
 | _::_,_::_,x=>congrArg (· + 1) x.2.len
 | [],_::_,x=>x.elim
 | _::_,[],x=>x.elim
def Ys.get{g:KT->KT}{h:aE}:∀{c:jp}{b:je},Ys g h c b->∀ i,i<b.length->QV g h (c.getD i (.int 0)) (b.getD i Value.none)
 | _::_,_::_,x,0,_=>x.1
 | _::_,_::_,x,i+1,a=>x.2.get i (by simpa using a)
 | [],[],_,_,a=>absurd a (by simp)
 | [],_::_,x,_,_=>x.elim
 | _::_,[],x,_,_=>x.elim
def Ys.firsts{g:KT->KT}(i:Kg g){h:aE}:∀{m:jp}{d:je},Ys g h m d->∃ b,PySem.W.KatTups h d b/\b.length=d.length/\∀ v∈b,∃ k t,v=Value.int k t
 | [],[],_=>⟨[],.nil,rfl,λv c=>absurd c (by simp)⟩
 | t::m,v::d,x=>by
  obtain⟨b,q,s,u⟩:=Ys.firsts i x.2;obtain⟨_,B⟩:=i.shape;obtain⟨k,r,p,_⟩:=B t;have f:=x.1;unfold QV at f;rw[p,ZK] at f;obtain⟨a,A,rfl,⟨o,z,w,n,y⟩,e⟩:=f;rw[jZ] at e;obtain⟨D,C,rfl,j,e⟩:=e;rw[ZK] at j;obtain⟨l,rfl⟩:=j;exists .int k l::b,.cons z w y rfl q,by simp[s]
  intro v c;rcases zF.mp c with rfl | c
  ·exact⟨k,l,rfl⟩
  ·exact u v c
 | [],_::_,x=>x.elim
 | _::_,[],x=>x.elim
section
variable{g:KT->KT}
def ZP1(d:Kg g){i:jp}{a:je}{Q:PyProof.Rows.SortKind->al->Prop}(m:0<a.length)(h:Ys g s.heap i a)(e:Q (tuples' true) s):aC (aB prog w) A (keyKind' a.toArray) Q E s:=by
 obtain⟨j,b,l,c⟩:=h.firsts d;refine PySem.W.kat_kind (T:=.type "int") b ∅ (λv f=>?_) (by decide) e
 obtain⟨k,t,rfl⟩:=c v f;exact yF.of_pure rfl
end
def rk(a:jp)(t:KT):Int:=((a.countP λu=>u.lt t:Nat):Int)
def DQ{c:jp}{t u:KT}(d:t∈c):decide (rk c t<rk c u)=t.lt u:=by
 unfold rk
 cases h:t.lt u with
 | true=>
  obtain⟨a,b,rfl⟩:=List.append_of_mem d;have m (l:jp):=zEQ (l:=l) (p:=λx=>x.lt t) (q:=λx=>x.lt u) λx _ z=>lt_trans' x t u z h;have:=m a;have:=m b;rw[List.countP_append,List.countP_append,List.countP_cons_of_neg (by rw[PR];decide),List.countP_cons_of_pos (p:=λx:KT=>x.lt u) h]
  exact aK ∅
 | false=>
  have:=zEQ (l:=c) (p:=λx=>x.lt u) (q:=λx=>x.lt t) λx _ z=>by
   cases e:x.lt t with
   | true=>rfl
   | false=>rw[le_trans' h e] at z;cases z
  exact aJ ∅
open Classical in
noncomputable abbrev kG(g:KT->KT)(a:jp)(h:aE):Ko:=⟨tuples' true,λp=>if z:∃ t∈a,QV g h t p.1 then rk a z.choose else 0,λp=>∃ t∈a,QV g h t p.1⟩
def M4{g:KT->KT}(b:Kg g){a:jp}{h:aE}{t:KT}{p:jW}(d:t∈a)(c:QV g h t p.1):(kG g a h).k1 p=rk a t:=by
 have z:∃ t∈a,QV g h t p.1:=⟨t,d,c⟩;refine(dif_pos z).trans ?_;have e:g z.choose=g t:=Yn.mp (ZK.inj _ _ _ z.choose_spec.2 c);have f:(λu:KT=>u.lt z.choose)=λu=>u.lt t:=by
  funext u
  rw[<-b.plt,<-b.plt,e]
 unfold rk;rw[f]
def ZLz{d g:Type}{f:d->g}{l m:List g}(h:l.Perm m):∀ k:List d,m=k.map f->∃ p:List d,p.Perm k/\l=p.map f:=by
 induction h with
 | nil=>exact λk e=>⟨k,.refl _,e⟩
 | cons x _ r=>
  intro k e
  cases k with
  | nil=>cases e
  | cons a k=>
   cases e;obtain⟨p,c,rfl⟩:=r k rfl;exact⟨a::p,c.cons a,rfl⟩
 | swap x y l=>
  intro k e
  match k,e with
  | a::b::k,e=>
   cases e;exact⟨b::a::k,.swap _ _ _,rfl⟩
 | trans _ _ o q=>
  intro k e;obtain⟨p,c,i⟩:=q k e;obtain⟨s,j,n⟩:=o p i;exact⟨s,j.trans c,n⟩
section
variable{g:KT->KT}
def ZRG(x:Kg g){d:jp}{o f:je}{Q:jS->al->Prop}(K:o.length=f.length)(R:2<=f.length)(h:Ys g s.heap d o)(U:∀ t∈d,A.units+(g t).depth<cLine)(L:∀ (p:jm) (l:jS),p.Perm (yX f.length)->(p.map λi=>d.getD i (.int 0)).Pairwise (λa b=>b.lt a=false)->jR l=p.toArray.map (uJ (o.toArray.zip f.toArray))->failedOf l=none->Q l s):
  aC (aB prog w) A ((sortRuns').run (SortSt.mk' (tuples' true) (o.toArray.zip f.toArray) #[] 7 none)) (λr y=>Q r.2 y) E s:=by
 have S:=h.len;have V:@KoOk (kG g d s.heap) prog w A s:=@KoOk.mk (kG g d s.heap) _ _ _ _ fun{E p q Q} ⟨t,G,a⟩ ⟨u,H,b⟩ z=>by
  have z:Q (decide ((kG g d s.heap).k1 p<(kG g d s.heap).k1 q)) s:=z;rw[M4 x G a,M4 x H b,DQ G] at z;exact ZSN x a b (U t G) z
 have j (i:Nat) (m:i<f.length):d.getD i (.int 0)∈d:=by
  rw[zT,zU ∅]
  exact xL _
 have M (i:Nat):=PySem.W.kat_item K i;have O:(o.toArray.zip f.toArray).size=f.length:=by simp[K]
 generalize o.toArray.zip f.toArray=k at L M O⊢;have J:k.toList=(yX f.length).map (uJ k):=by
  apply sL
  ·simp[O]
  ·intro i P R;simp[uJ,Array.getD,show i<k.size by simpa using P]
 have F (i:Nat) (m:i<f.length):QV g s.heap (d.getD i (.int 0)) (uJ k i).1:=by
  rw[M];exact h.get i ∅
 refine ae (GL (κ:=kG g d s.heap) (a₀:=k) (st:=SortSt.mk' (tuples' true) k #[] 7 none) (Q:=λ_ z=>(jR z).Perm k/\failedOf z=none /\ @Qt (kG g d s.heap) (jR z) k.size) (λp n=>?_) (@TB.mk (kG g d s.heap) _ _ _ (.refl _) rfl rfl rfl) ∅ λz C I D=>⟨C,I,D⟩) (λr y T=>?_) λ_ _ z=>z
 ·rw[J] at n;obtain⟨i,m,rfl⟩:=zM.mp n;have m:=xY.mp m;exact⟨_,j i m,F i m⟩
 ·obtain⟨rfl,C,I,D⟩:=T;obtain⟨p,n,e⟩:=ZLz (qL.mp C) _ J;rw[<-C.size_eq] at D;have N:=MB (κ:=kG g d y.heap) D;rw[e,rO] at N;refine L p _ n (rO.mpr (N.imp_of_mem fun{a b} B v c=>?_)) (Array.toList_inj.mp (by rw[e];simp)) I
  have B:=xY.mp (n.mem_iff.mp B);have v:=xY.mp (n.mem_iff.mp v);have c:(kG g d y.heap).k1 _<=(kG g d y.heap).k1 _:=c;rw[M4 x (j a B) (F a B),M4 x (j b v) (F b v)] at c;rw[<-DQ (j b v)];exact aJ ∅
end
inductive PL(g:KT->KT)(c:jf)(H:Hp)(Q:VK)(_:XK):Prop
 |mk(v:V)(t:KT)(_:c=[v])(_:ZD H t v)(_:t.fits 3=true)(_:∀(b:V)(a:Hp),ZD a (g t) b->ZC H a->Q b a)
def EQ{g:KT->KT}{X:Cx}{b:js}{k:L2.St}{H:Hp}{s:al}(I:ZF X b k H s):∀{d:jp}{a:jf}{c:je},jY H (d.map g) a->ZO a c->Ys g s.heap d c
 | [],a,c,h,r=>by
  rw[vJ,jY] at h;subst h;cases r;trivial
 | t::d,a,c,h,r=>by
  rw[yR,jY] at h;obtain⟨v,l,rfl,e,f⟩:=h
  cases r with
  | cons i j=>exact⟨Vt I _ _ _ e i,EQ I f j⟩
section
variable{kj:js}{σ:L2.St}
def CD{H:Hp}{s:al}{b:ak}(I:ZF X kj σ H s)(h:s.heap.objs.size<=b):b∉frs X.stack:=λz=>by
 obtain⟨_,o,e,_⟩:=I.stack.mem z;exact absurd (zN e) (Nat.not_lt.mpr h)
def GN{g:KT->KT}{S:Hp->KT->V->Prop}{sp:Sp}{x0:Str}{k:Nat}{f D kS:ak}{fd:ao}{oD:aI}{H0:Hp}{A:ay}{E:ja}{p:aj->PUnit->Sem (ForInStep PUnit)}{all:jp}(hI:∀ (H c:Hp) (t:KT) (u:V),ZC H c->S H t u->S c t u)(hS:∀ (H:Hp) (u:V) (t:KT) (Q:VK),ZC H0 H->S H t u->(∀ (P:V) (c:Hp),ZD c (g t) P->ZC H c->Q P c)->sp [u] H Q E0)(F:ZI X.prog X.w X.K X.mg X.base ZZ k f fd [x0] sp)(hb:Zt X.K fd [x0] [])(hr:ZT k A)(hA:A.frames=X.A.frames)(nD:D∉frs X.stack)(nS:kS∉frs X.stack)(Y:D≠kS)(a3:H0 D=none)(v:∀ x (s:al) (R:al->Prop),aC (aB X.prog X.w) A (call (.ref f) [x]) (λkv h=>∃ (l:je) (e:Nat),l.length<64/\h.heap.get? kS=some (seqObj "list" l.toArray e)/\R { h with heap:=h.heap.update kS (Obj.mapSeq (·.push kv)) }) (λ_ _=>False) s ->
   aC (aB X.prog X.w) A (p x ⟨⟩) (λr h=>r=.yield ⟨⟩/\R h) E s):
  ∀(r:je)(rU:jf)(O B:jp)(H:Hp)(s:al)(l:je)(m:jf)(e:Nat),all=B++O->all.length<64->ZF X kj σ H s->ZC H0 H->VD X kj H kS->H D=none->ZO rU r->Paired (S H) O rU ->
   s.heap.get? D=some oD->s.heap.get? kS=some (seqObj "list" l.toArray e)->jY H (B.map g) m->ZO m l ->
   aC (aB X.prog X.w) A (forIn r PUnit.unit p) (λ_ h=>∃(c:Hp)(j:je)(d:jf)(U:Nat),ZF X kj σ c h/\ZC H0 c/\VD X kj c kS/\c D=none/\h.heap.get? D=some oD/\h.heap.get? kS=some (seqObj "list" j.toArray U)/\jY c (all.map g) d/\ZO d j) E s
 | [],rU,O,B,H,s,l,m,e,Z,hl,I,s0,W,hD,r,hk,oo,os,y,rk=>by
  cases r;cases hk;rw[yS] at Z;subst Z;rw[List.forIn_nil];exact ad ⟨H,l,m,e,I,s0,W,hD,oo,os,y,rk⟩
 | x::r,rU,O,B,H,s,l,m,e,Z,hl,I,s0,W,hD,rr,hk,oo,os,y,rk=>by
  cases rr with
  | cons ra rb=>
  rename_i u ur
  cases hk with
  | cons a6 a7=>
  rename_i t O
  rw[sH];have c4:l.length=B.length:=by
   have a:=y.length;have b:=rk.length;rw[zX] at a
   lia
  have a8:B.length+(O.length+1)<64:=by rw[Z,zW,zJ] at hl;lia
  refine aa (Zz (v x s (λh=>∃(c:Hp)(j:je)(d:jf)(U:Nat),ZF X kj σ c h/\ZC H0 c/\ZC H c/\VD X kj c kS/\c D=none/\h.heap.get? D=some oD/\h.heap.get? kS=some (seqObj "list" j.toArray U)/\jY c ((B++[t]).map g) d/\ZO d j) ?_) λq h L=>?_)
  ·have a2:Vj X.prog X.w X.K X.mg X.base A X.stack s H:=⟨by rw[hA];exact I.ok.frames,I.env0.mod,I.env0.bs,I.env0.bsz,I.env0.funs,I.env0.frf,I.env0.hok,I.env0.bare⟩
   have c0:sp [u] H (λP c=>ZD c (g t) P/\ZC H c) E0:=hS H u t _ s0 a6 λP c a b=>⟨a,b⟩;have r2:ZO [u] [x]:=.cons ra .nil;refine wpAny_call (codeAny_mono (F.run A X.stack s H ⟨[x],[]⟩ [x] [u] _ E0 hr a2 (hb s [x] I.kIn rfl) r2 c0) λrr h L=>?_)
   cases rr with
   | error ev=>exact L.elim
   | ok fl=>
    cases fl with
    | next=>exact False.elim L
    | brk=>exact False.elim L
    | cont=>exact False.elim L
    | ret kv=>
     obtain⟨P,c,N,T,un,a9,rv,kt,sm⟩:=L;have J:ZF X kj σ c h:=I.call' N un a9 T (λb hb=>absurd hb (by simp))
     have M:=un.keep D oD oo hD nD (by simp)
     have a1:=un.keep kS _ os W.1 nS (by simp)
     have a4:c kS=none:=un.free kS _ os W.1 (by simp)
     have C:c D=none:=un.free D _ oo hD (by simp)
     exists l,e,∅,a1
     have i:VD X kj c kS:=⟨a4,W.2⟩;have ea:(wW l).push kv=wW (l++[kv]):=by simp
     obtain⟨c2,a5⟩:∃ c2,(h.heap.update kS (Obj.mapSeq (·.push kv))).get? kS=some (seqObj "list" (wW (l++[kv])) c2):=⟨_,by rw[<-ea];exact get?_update_seq a1 (·.push kv)⟩
     have sb:=yD.update h.heap kS (Obj.mapSeq (·.push kv));have J2:ZF X kj σ c { h with heap:=h.heap.update kS (Obj.mapSeq (·.push kv)) }:=J.turned (t':=h.toks) (it:=kS) (λb o n q=>(sb.2 b n).trans q) i.1 i.2.1 i.2.2.2.1 i.2.2.2.2.1 i.2.2.2.2.2;refine⟨c,l++[kv],m++[P],c2,J2,s0.trans sm,sm,i,C,(sb.2 D Y).trans M,a5,?_,rk.append (.cons rv .nil)⟩;rw[zE];exact(y.sm sm).append (.cons kt .nil)
  ·obtain⟨rfl,c,j,d,U,J,c3,sm,i,C,M,N,a0,c1⟩:=L;show aC (aB X.prog X.w) A (forIn r PUnit.unit p) _ E h;exact GN hI hS F hb hr hA nD nS Y a3 v r _ O (B++[t]) c h j d U (by rw[Z];simp) hl J c3 i C rb (Paired.mapP (G:=S c) a7 λ_ _ z=>hI _ _ _ _ sm z) M N a0 c1
end
section
variable{kj:js}{σ:L2.St}{H:Hp}
def ZPV{a:ak}{o:HO}(I:ZF X kj σ H s)(l:X.s₀.heap.get? a=none)(t:a≠X.env.locals)(m:∀ x c,X.env.cells.lookup x=some c->c≠a)(y:∀ p∈X.pn++kj,p.1≠a)(v:H a=none)(h:Ze X.prog X.w (upd H a o) s.heap a o):ZF X kj σ (upd H a o) s:=by
 have g:∀{b:ak}{u:HO},H b=some u->b≠a:=fun{b u} e z=>by rw[z,v] at e;cases e
 refine⟨I.ok,I.os,I.bare,⟨I.base.keep,I.base.slot,λb i q n A=>?_,I.base.there,λb k q=>?_,λb i u q=>?_,λb B q=>?_⟩,I.loc,I.cell,?_,λx c e=>?_,λp d=>?_,λb u e=>?_,I.len⟩
 ·rw[ZS (λz=>by rw[z,l] at q;cases q)];exact I.base.free b i q n A
 ·have e:=I.base.tups b k q;rw[ZS (g e)];exact e
 ·have e:=I.base.frzs b i u q;rw[ZS (g e)];exact e
 ·obtain⟨f,e⟩:=I.base.tbls b B q;exact⟨f,by rw[ZS (g e)];exact e⟩
 ·rw[ZS (Ne.symm t)];exact I.free
 ·rw[ZS (m x c e)];exact I.freeC x c e
 ·obtain⟨e,n,r⟩:=I.pin p d;exact⟨e,by rw[ZS (y p d)];exact n,r⟩
 ·by_cases j:b=a
  ·subst j;rw[ZM] at e;cases e;exact h
  ·rw[ZS j] at e;exact(I.hok b u e).stay (λ_ _ _ q=>q) (λc q=>by rw[ZS (g q)];exact q) λc k q=>by rw[ZS (g q)];exact q
def ZO.getD{b:jf}{a:je}(r:ZO b a){i:Nat}(h:i<b.length):ZQ (b.getD i .non) (a.getD i Value.none):=by
 have e:=r.length;obtain⟨u,c,d⟩:=r.get (i:=i) (x:=b[i]) (by simp[h])
 rw[zT,zT,c,zU h];exact d
def E7{b:jf}{a:je}(r:ZO b a):∀(l:jm),(∀ i∈l,i<b.length)->ZO (l.map λi=>b.getD i .non) (l.map λi=>a.getD i Value.none)
 | [],_=>.nil
 | i::l,h=>.cons (ZO.getD r (h i zC)) (E7 r l λj c=>h j (zI _ c))
def Ea{F:KT->V->Prop}{c:jp}{a:jf}(e:Paired F c a):∀(l:jm),(∀ i∈l,i<a.length)->Paired F (l.map λi=>c.getD i (.int 0)) (l.map λi=>a.getD i .non)
 | [],_=>.nil
 | i::l,h=>by
  have d:=h i zC;obtain⟨t,f,k⟩:=Ow e (i:=i) (b:=a[i]) (by simp[d])
  refine .cons (show F (c.getD i (.int 0)) (a.getD i .non) from ?_) (Ea e l λj g=>h j (zI _ g));rw[zT,zT,f,zU d];exact k
def range_getD{a:Type}(l:List a)(d:a):(yX l.length).map (λi=>l.getD i d)=l:=by
 apply sL
 ·simp
 ·intro i c b;simp[b]
def Bg{g:KT->KT}{IT:Hp->KT->V->Prop}{sp:Sp}(hg:Kg g)(dg:∀ t,(g t).depth<=2 * t.depth+2){x0:Str}{k:Nat}{f:ak}{lv:aj}{fd:ao}{us:jf}{y:jp}{Q:VK}(hr:ZT (k+2) X.A)(F:ZI X.prog X.w X.K X.mg X.base ZZ k f fd [x0] sp)(hb:Zt X.K fd [x0] [])(I0:ZF X kj σ H s)(hI:∀ (H h:Hp) (t:KT) (u:V),ZC H h->IT H t u->IT h t u)(hS:∀ (h:Hp) (u:V) (t:KT) (Q:VK),ZC H h->IT h t u->(∀ (v':V) (H2:Hp),ZD H2 (g t) v'->ZC h H2->Q v' H2)->sp [u] h Q E0)(hk:Paired (IT H) y us)(hf:∀ t∈y,t.fits 3=true)(i0:us.length<64)(c3:∀ (Q':je->al->Prop),(∀ (s1:al) (c:je),ZF X kj σ H s1->ZO us c->Q' c s1)->aC (aB X.prog X.w) X.A.in1 (collect lv) Q' X.xe s)(q:∀ (D:ak) (ws:jf) (rs:jp) (h:Hp),ZC H h->H D=none->h D=some (.lst ws)->Paired (IT h) rs ws->rs.Perm y->rs.Pairwise (λa b=>b.lt a=false)->Q (.ref D) h):
  aC (aB X.prog X.w) X.A (call (.builtin "sorted") [lv] [(yE "key",.ref f)]) (EP X kj σ Q) X.xe s:=by
 have i1:=Paired.length hk;have c7:ZT k X.A.in1.in1:=(ZT.in1 (k:=k+1) hr).in1;refine call_function_entry_kw kind_sorted plain_sorted entry_sorted (ksk_s1 _ _) ?_;unfold Builtin.«sorted»;refine aa (m:=checkCount "sorted" 1 1 _) (ad ?_);refine aa (c3 _ λs c I rv=>?_);have e9:=rv.length;refine aa (wpAny_newList ?_ (by rw[sizeLine_eq];lia))
 obtain⟨E,T⟩:∃ E,s.heap.push (seqObj "list" c.toArray 0)=E:=⟨_,rfl⟩;have M:E.get? s.heap.objs.size=some (seqObj "list" c.toArray 0):=by rw[<-T];exact yO _ rfl
 have c8:∀ b o,s.heap.get? b=some o->E.get? b=some o:=λb o z=>by rw[<-T];exact zO _ z
 have e7:E.objs.size=s.heap.objs.size+1:=by rw[<-T,size_push']
 obtain⟨D,eD⟩:∃ D,s.heap.objs.size=D:=⟨_,rfl⟩;rw[eD] at M;have U:s.heap.objs.size<=D:=∅
 have Y:H D=none:=I.hok.fresh U;have C:VD X kj H D:=I.fpOk U Y;have nD:D∉frs X.stack:=CD I U;have e2:X.s₀.heap.get? D=none:=uA (zS I.sz U);have I1:ZF X kj σ H { s with heap:=E }:=I.kept (t':=s.toks) c8;show aC _ _ _ _ _ { s with heap:=s.heap.push (seqObj "list" c.toArray 0) };rw[T,eD];refine aa (af (wpAny_call_entry_kw slot_list_sort ⟨_,M,rfl⟩ entry_list_sort ?body (ksk_l1 _ _)));rw[ksk_t1];unfold ksk_tree;refine aa (listItems_at M rfl ?_);refine aa (listUpdate_at M rfl ?_ (by rw[zP,sizeLine_eq];lia) (zL _))
 have e0:=yD.update E D (Obj.mapSeq λ_=>(#[]:ju));obtain⟨e1,a8⟩:∃ e1,(E.update D (Obj.mapSeq λ_=>(#[]:ju))).get? D=some (seqObj "list" #[] e1):=⟨_,get?_update_seq M λ_=>#[]⟩;obtain⟨B,a3⟩:∃ B,E.update D (Obj.mapSeq λ_=>(#[]:ju))=B:=⟨_,rfl⟩;rw[a3] at a8 e0;show aC _ _ _ _ _ { s with heap:=E.update D (Obj.mapSeq λ_=>(#[]:ju)) };rw[a3];have I2:ZF X kj σ H { s with heap:=B }:=ZF.turned (s:={ s with heap:=E }) (t':=s.toks) (it:=D) I1 (λb o n z=>(e0.2 b n).trans z) C.1 C.2.1 C.2.2.2.1 C.2.2.2.2.1 C.2.2.2.2.2;refine aa (seqEpoch_at a8 rfl ?_);refine aa (wpAny_newTuple ?_ (by show c.length<=_;rw[sizeLine_eq];lia))
 refine aa (wpAny_newList ?_ (zL _));refine af ?_;have e8:B.objs.size=s.heap.objs.size+1:=by rw[<-a3,Heap.size_update,e7]
 obtain⟨h3,a4⟩:∃ h3,(B.push (seqObj "tuple" c.toArray 0)).push (seqObj "list" #[] 0)=h3:=⟨_,rfl⟩;have a5:(B.push (seqObj "tuple" c.toArray 0)).objs.size=s.heap.objs.size+2:=by rw[size_push',e8]
 have N:∀ b o,B.get? b=some o->h3.get? b=some o:=λb o z=>by rw[<-a4];exact zO _ (zO _ z)
 have c4:h3.get? (s.heap.objs.size+2)=some (seqObj "list" (wW []) 0):=by rw[<-a4,<-a5];exact yO _ rfl
 obtain⟨j,c0⟩:∃ j,s.heap.objs.size+2=j:=⟨_,rfl⟩;rw[c0] at c4 a5;have a6:s.heap.objs.size<=j:=∅
 have c1:D≠j:=∅
 have e4:H j=none:=I.hok.fresh a6;have fS:VD X kj H j:=I.fpOk a6 e4;have nS:j∉frs X.stack:=CD I a6;have I3:ZF X kj σ H { s with heap:=h3 }:=I2.kept (t':=s.toks) N;show aC _ _ (ksk_rest D (.ref f) false c.toArray e1 (.ref (B.push (seqObj "tuple" c.toArray 0)).objs.size)) _ _ { s with heap:=(B.push (seqObj "tuple" c.toArray 0)).push (seqObj "list" #[] 0) };rw[a4,a5];have l:∀(h:Hp)(d:al)(O:je)(P:jf)(e:Nat),ZF X kj σ h d->ZC H h->VD X kj h j->h D=none->d.heap.get? D=some (seqObj "list" #[] e1)->d.heap.get? j=some (seqObj "list" O.toArray e)->jY h (y.map g) P->ZO P O ->
   aC (aB X.prog X.w) X.A.in1.in1 (ksk_end D false c.toArray e1 (.ref j) O.toArray) (λl d=>∃ v,l=.done (.ret v)/\aC (aB X.prog X.w) X.A.in1 (ret (.ref D)) (λl d=>∃ v,l=.done (.ret v)/\EP X kj σ Q v d) X.xe d) X.xe d:=by
  intro h d O P e J sm fp L oo os Z rk;have a0:O.length=c.length:=by
   have a:=Z.length;have b:=rk.length;rw[zX] at a
   lia
  have sv:Ys g d.heap y O:=EQ J Z rk;have a2:∀(st:jS)(p:jm),p.Perm (yX c.length)->(p.map λi=>y.getD i (.int 0)).Pairwise (λa b=>b.lt a=false)->(jR st).map (·.2)=wW (p.map λi=>c.getD i Value.none)->failedOf st=none ->
    aC (aB X.prog X.w) X.A.in1.in1 (ksk_tail D false e1 (.ref j) st) (λl d=>∃ v,l=.done (.ret v)/\aC (aB X.prog X.w) X.A.in1 (ret (.ref D)) (λl d=>∃ v,l=.done (.ret v)/\EP X kj σ Q v d) X.xe d) X.xe d:=by
   intro st p hp hs c5 a7;have a1:∀ i∈p,i<us.length:=λi hi=>by
    have:=xY.mp (hp.mem_iff.mp hi)
    lia
   have c6:p.length=c.length:=hp.length_eq.trans List.length_range;have s1:=yD.update d.heap j (Obj.mapSeq λ_=>(#[]:ju));have e3:D≠j:=∅
   have a9:=(s1.2 D e3).trans oo;have s2:=yD.update (d.heap.update j (Obj.mapSeq λ_=>(#[]:ju))) D (Obj.mapSeq λ_=>wW (p.map λi=>c.getD i Value.none));obtain⟨c2,e5⟩:∃ c2,((d.heap.update j (Obj.mapSeq λ_=>(#[]:ju))).update D (Obj.mapSeq λ_=>wW (p.map λi=>c.getD i Value.none))).get? D=some (seqObj "list" (wW (p.map λi=>c.getD i Value.none)) c2):=⟨_,get?_update_seq a9 λ_=>wW (p.map λi=>c.getD i Value.none)⟩;unfold ksk_tail;dsimp only;rw[c5,aM zV];refine aa (listUpdate_at os rfl ?_ (by rw[zP,sizeLine_eq];lia) (zL _))
   refine aa (wpAny_letGo ?_);refine aa (seqEpoch_at a9 rfl ?_);refine aa (listUpdate_at a9 rfl ?_ (zL _) (by rw[zP,zX,c6,sizeLine_eq];lia))
   rw[a7];simp only[bne_self_eq_false,wU,if_false];have J1:ZF X kj σ h { d with heap:=d.heap.update j (Obj.mapSeq λ_=>(#[]:ju)) }:=J.turned (t':=d.toks) (it:=j) (λb o n z=>(s1.2 b n).trans z) fp.1 fp.2.1 fp.2.2.2.1 fp.2.2.2.2.1 fp.2.2.2.2.2;have J2:ZF X kj σ h { d with heap:=(d.heap.update j (Obj.mapSeq λ_=>(#[]:ju))).update D (Obj.mapSeq λ_=>wW (p.map λi=>c.getD i Value.none)) }:=ZF.turned (s:={ d with heap:=d.heap.update j (Obj.mapSeq λ_=>(#[]:ju)) }) (t':=d.toks) (it:=D) J1 (λb o n z=>(s2.2 b n).trans z) L C.2.1 C.2.2.2.1 C.2.2.2.2.1 C.2.2.2.2.2;have J3:=ZPV (a:=D) (o:=.lst (p.map λi=>us.getD i .non)) J2 e2 C.2.1 C.2.2.2.2.1 C.2.2.2.2.2 L ⟨by rw[zX,c6,sizeLine_eq];lia,_,c2,E7 rv _ a1,e5⟩
   have g:=ZU L (.lst (p.map λi=>us.getD i .non));refine ad ⟨.none,rfl,ad ⟨_,rfl,.ref D,_,J3,rfl,q D _ (p.map λi=>y.getD i (.int 0)) _ (sm.trans g) Y ZM (Ea (Paired.mapP (G:=IT _) hk λ_ _ z=>hI _ _ _ _ (sm.trans g) z) _ a1) ?_ hs⟩⟩;have:=hp.map (λi=>y.getD i (KT.int 0));rw[show c.length=y.length by lia,range_getD] at this
   exact this
  unfold ksk_end;dsimp only;rw[aM zV,aM zV];by_cases B:c.length<2
  ·rw[aO (by rw[zP];exact B),aO (by rw[zP];exact B)]
   refine aa (ad (aa (ad ?_)));refine a2 _ (yX c.length) (.refl _) ?_ ?_ rfl
   ·rw[show c.length=y.length by lia,range_getD]
    match y,(show y.length<2 by lia) with
    | [],_=>exact .nil
    | [t],_=>exact zED _ _
   ·show ((O.toArray.zip c.toArray).map (·.2))=_;apply Array.toList_inj.mp;rw[Array.toList_map,ksk_zip];simp only[List.toList_toArray];rw[range_getD,List.map_snd_zip ∅]
  ·rw[aM (by rw[zP];exact B),aM (by rw[zP];exact B)]
   refine aa (ZP1 hg ∅ sv ?_)
   refine aa (Zz (ZRG hg (Q:=λS c9=>c9=d/\∃ p:jm,p.Perm (yX c.length)/\(p.map λi=>y.getD i (.int 0)).Pairwise (λa b=>b.lt a=false)/\jR S=p.toArray.map (uJ (O.toArray.zip c.toArray))/\failedOf S=none)
    a0 ∅ sv (λt ht=>?_) λp S b1 b2 b3 b4=>⟨rfl,p,b1,b2,b3,b4⟩) λr c9 e6=>?_)
   ·have a:=c7.un;have d1:=dg t;have d2:=Um t 3 (hf t ht)
    lia
   ·obtain⟨⟨⟩,S⟩:=r;obtain⟨rfl,p,b1,b2,b3,b4⟩:=e6;exact a2 S p b1 b2 (PySem.W.kat_snds a0 b3) b4
 unfold ksk_rest;refine aa (ai ?_)
 first
  | rw[List.forIn_toArray]
  | (rw[<-rH];simp only[List.toList_toArray])
 refine aa (Zz (GN (all:=y) (H0:=H) (D:=D) (kS:=j) hI hS F hb c7 rfl nD nS c1 Y (λx s4 R hx=>?_) c us y [] H { s with heap:=h3 } [] [] 0 rfl ∅ I3 (ZC.refl H) fS Y rv hk (N _ _ a8) c4 .nil .nil) λ_ s4 h4=>?_)
 ·refine aa (wpAny_attempt (ae hx (λkv s5 h5=>?_) λ_ _ z=>z.elim));obtain⟨O,e,i2,o5,R5⟩:=h5
  try dsimp only
  refine aa (listUpdate_at o5 rfl ?_ (by rw[zP,sizeLine_eq];lia) (zS (vT (Array.size_push ..)) (by rw[zP,sizeLine_eq];lia)))
  exact ad ⟨rfl,R5⟩
 ·obtain⟨h,O,P,e,J,sm,fp,L,oo,os,Z,rk⟩:=h4
  try dsimp only
  exact aa (listItems_at os rfl (l h s4 O P e J sm fp L oo os Z rk))
def Ex{H:Hp}:∀{a:jp}{b:jf},jY H a b->(∀ t∈a,t.fits 3=true)->Paired (λt u=>ZD H t u/\t.fits 3=true) a b
 | [],b,h,_=>by rw[jY] at h;subst h;exact .nil
 | t::a,b,h,hf=>by
  rw[jY] at h;obtain⟨v,r,rfl,c,d⟩:=h;exact .cons ⟨c,hf t zC⟩ (Ex d λt e=>hf t (zI _ e))
def ZRn{H:Hp}{G:KT->Prop}{a:jp}{b:jf}(h:Paired (λt u=>ZD H t u/\G t) a b):jY H a b:=by
 induction h with
 | nil=>exact .nil
 | cons h _ c=>exact .cons h.1 c
def BG{g:KT->KT}(G:Kg g)(B:∀ t,(g t).depth<=2 * t.depth+2){y:Str}{k:Nat}{f:ak}{v:aj}{p:ao}{n:jf}{m:jp}{Q:VK}(L:ZT (k+2) X.A)(F:ZI X.prog X.w X.K X.mg X.base ZZ k f p [y] (PL g))(E:Zt X.K p [y] [])(z:ZF X kj σ H s)(I:jY H m n)(r:∀ t∈m,t.fits 3=true)(l:n.length<64)(d:∀ (o:je->al->Prop),(∀ (x:al) (e:je),ZF X kj σ H x->ZO n e->o e x)->aC (aB X.prog X.w) X.A.in1 (collect v) o X.xe s)(q:∀ (D:ak) (j:jf) (i:jp) (c:Hp),ZC H c->H D=none->c D=some (.lst j)->jY c i j->i.Perm m->i.Pairwise (λa b=>b.lt a=false)->Q (.ref D) c):
  aC (aB X.prog X.w) X.A (call (.builtin "sorted") [v] [(yE "key",.ref f)]) (EP X kj σ Q) X.xe s:=
 Bg (IT:=λH t u=>ZD H t u/\t.fits 3=true) G B L F E z (λ_ _ _ _ P h=>⟨h.1.sm P,h.2⟩) (λc u t Q _ h k=>⟨u,t,rfl,h.1,h.2,k⟩) (Ex I r) r l d λD j i c O M C J N R=>q D j i c O M C (ZRn J) N R
end
def VG(d:ak)(b:Array DictEntry)(a:Nat)(h:aE):Prop:=∃ o,h.get? d=some o/\o.ExactDict/\o.data=.dict b a
section
variable{d:ak}{es:Array DictEntry}{ep:Nat}
def VG.type(x:VG d es ep s.heap):s.TypeIs (.ref d) "dict" :=let ⟨o,g,hx,_⟩:=x;⟨o,g,hx.1⟩
def VG.at{h a:aE}(x:VG d es ep h)(k:∀ o,h.get? d=some o->a.get? d=some o):VG d es ep a:=let ⟨o,g,r⟩:=x;⟨o,k o g,r⟩
def ZMU{Q:ja}(f:(d==sysModules)=false)(x:VG d es ep s.heap)(e:Q (.ref s.heap.objs.size) { s with heap:=s.heap.push { cls:=.type "dict_keyiterator",data:=.fields #[.ref d,.int 0 0,.int es.size 0,.int ep 0] } }):
  aC (aB prog w) A (pyIter (.ref d)) Q E s:=by
 have b:=x.type;obtain⟨o,c,g,a⟩:=x;refine wpAny_pyIter_slot b pR (wpAny_call_entry pR b PySem.F.entry_dict_iter ?_ (PySem.F.args_dict_iter_1 _));unfold Builtin.«dict.__iter__»;refine aa ?_;unfold Builtin.Dict.dictSlotNone;refine aa (wpAny_notOrdered_dict b (ad ?_));show aC _ _ (Builtin.Dict.showsAll d >>= _) _ _ s;unfold Builtin.Dict.showsAll;rw[aM (by rw[f];exact zV)]
 refine aa (ad (aa (wpAny_dictEntries c a (aa (wpAny_dictEpoch c a ?_)))));exact aa (wpAny_newObj_type (ad ⟨_,rfl,"dict_keyiterator",_,⟨_,yO _ rfl,rfl⟩,qK.lookup,e⟩))
def GA{f:ak}{i:Nat}{Q:jd->al->Prop}(v:A.handled=none)(c:s.heap.IsKeyIter f d i es.size ep)(x:VG d es ep s.heap)(t:∀ e h,es[i]? = some e->h.IsKeyIter f d (i+1) es.size ep->yD f s.heap h->Q (some e.key) { s with heap:=h })(r:∀ h,es[i]? = none->Heap.ExtBut f s.heap h->Q none { s with heap:=h }):aC (aB prog w) A (pyNext (.ref f)) Q E s:=by
 obtain⟨o,p,u,j⟩:=id c;obtain⟨z,l,y,k⟩:=x;unfold pyNext;refine aa (wpAny_attempt (wpAny_callSpecial?_slot (name:=yE "__next__") c.typeIs qK (wpAny_call_entry qK c.typeIs PySem.F.entry_dict_keyiterator_next ?_ (PySem.F.args_dict_keyiterator_next_1 _))));refine aa (ad (aa (aa ?_)))
 first | refine aa (wpAny_typeNameOfWhole_keyiter c.typeIs (ad ?_)) | refine aa (wpAny_typeNameOf_keyiter c.typeIs (ad ?_))
 refine aa (wpAny_fieldsOf p j ?_);have n:Builtin.Dict_items.ownsTuple "dict_keyiterator" = false:=by decide
 simp only[n,wU,if_false];show aC _ _ (if (Value.ref d==Value.none)=true then _ else _) _ _ s
 rw[aM (show ¬ ((Value.ref d==Value.none)=true) from zV)];refine aa (ad (aa (wpAny_dictEntries l k ?_)));rw[aM (by simp)]
 refine aa (ad (aa (wpAny_dictEpoch l k ?_)));rw[aM (by simp)]
 refine ad ?_;simp only[show ¬ ((i:Int)<0) from by lia,if_false,tE]
 cases q:es[i]? with
 | some e=>
  refine aa ?_
  first | refine aa (wpAny_typeNameOfWhole_keyiter c.typeIs (ad ?_)) | refine aa (wpAny_typeNameOf_keyiter c.typeIs (ad ?_))
  refine aa (wpAny_isOneOf_keyiter c.typeIs ?_);show aC _ _ (setField (.ref f) 1 (rawInt ((i:Int)+1)) >>= _) _ _ s;refine aa (wpAny_setField p j (by simp) ?_)
  have g:(s.heap.update f (Obj.mapFields (·.setIfInBounds 1 (rawInt ((i:Int)+1))))).IsKeyIter f d (i+1) es.size ep:=
   ⟨_,vM _ p (Obj.isFreed_of_fields (Obj.data_mapFields j _)),(Obj.cls_mapFields ..).trans u,by rw[Obj.data_mapFields j];simp[rawInt]⟩
  refine aa (af (aa (wpAny_isOneOf_keyiter (s:={ s with heap:=s.heap.update f (Obj.mapFields (·.setIfInBounds 1 (rawInt ((i:Int)+1)))) }) g.typeIs ?_)));show aC _ _ (pure e.key) _ _ _;exact ad (ad ⟨_,rfl,ad (t e _ q g (yD.update ..))⟩)
 | none=>
  refine aa ?_
  first | refine aa (wpAny_typeNameOfWhole_keyiter c.typeIs (ad ?_)) | refine aa (wpAny_typeNameOf_keyiter c.typeIs (ad ?_))
  show aC _ _ (setField (.ref f) 0 .none >>= _) _ _ s;refine aa (wpAny_setField p j (by simp) ?_)
  show aC _ _ (newExc (.type "StopIteration") [] >>= _) _ _ _;refine aa ?_;simp only[newExc,newTuple];refine aa (wpAny_newObj_type ?_ (by size_fits))
  refine aa (m:=firstArgMember _ _) (wpAny_of_eq (a:=Value.none) (by first | rfl | (simp only[firstArgMember];rfl)) (wpAny_newObj_type ?_ (by size_fits)))
  simp only[raiseNew];refine aa (wpAny_handled ?_);rw[show A.in1.handled=none from v];refine aa (ad (wpAny_throw ?_));refine aa (wpAny_isInstance (T:= "StopIteration") (b:=true) ⟨_,yO _ rfl,rfl⟩ isSubtype_stop ?_);exact ad (r _ q (((yD.update ..).extBut.push _).push _))
def Bv(m:A.handled=none)(I:ak)(l:d≠I):Walks prog w A I [I,d] [I] es.size (λi v=>(es[i]?).map (·.key)=some v) (λi h=>h.IsKeyIter I d i es.size ep/\VG d es ep h) where
 sub:=λb f=>by simp at f;simp[f]
 frame:=λ_ _ _ a n=>⟨a.1.at λo e=>n I (by simp) o e,a.2.at λo e=>n d (by simp) o e⟩
 item:=λi s Q E r a j=>by
  refine GA m a.1 a.2 (λe g c k p=>?_) (λg c=>by rw[xV r] at c;cases c)
  exact j e.key g s.toks (by rw[c];rfl) ⟨k,a.2.at λo z=>(p.2 d l).trans z⟩ λb o f e=>(p.2 b (λh=>f (by simp[h]))).trans e
 done:=λs Q E a j=>by
  refine GA m a.1 a.2 (λe g c=>by rw[zEF (zY _)] at c;cases c) (λg _ q=>?_)
  exact j g s.toks λb o f e=>q b o (λh=>f (by simp[h])) e
 self:=λ_ _ _ _ a j=>wpAny_pyIter_keyiter a.1 j
def AR(f:(d==sysModules)=false):sC prog w "dict" d d es.size (λi v=>(es[i]?).map (·.key)=some v) (VG d es ep) where
 type:=λ_ x=>x.type
 there:=λ_ x=>by obtain⟨o,g,_⟩:=x;exact⟨zN g,zN g⟩
 keep:=λ_ _ x c=>x.at λo e=>c d (.inl rfl) o e
 notList:=by decide
 notTuple:=by decide
 hint:=λ_ _ _ _ x a=>PySem.W.kdl_hint_dict x.type a
 iter:=λ_ s b x=>⟨_,_,(λ_ _ a=>ZMU f x a),Bv b _ (by obtain⟨o,g,_⟩:=x;exact yU (zN g)),⟨⟨_,yO _ rfl,rfl,rfl⟩,x.at λo e=>zO _ e⟩⟩
end
section
variable{kj:js}{σ:L2.St}{H:Hp}
def BB{w:ax}{k:List (KT×V×V)}{d:Array DictEntry}{c:ju}(r:Paired (NC w) k d.toList)(h:ItemsOf (λi v=>(d[i]?).map (·.key)=some v) c d.size):ZO (k.map (·.2.1)) c.toList:=by
 have p:=Paired.length r;have o:c.toList.length=d.size:=by have:=h.1;simpa using this
 refine JM (by rw[zX,o,p];simp) λi a b g j=>?_
 rw[zD] at g;obtain⟨z,n,rfl⟩:=xR.mp g;rw[yY] at j;have:=h.2 i b j;obtain⟨e,m,rfl⟩:=xR.mp this;obtain⟨q,f,l⟩:=Ow r (by rw[yY];exact m)
 rw[n] at f;cases f;exact l.2.1
def BZ{d:ak}{i:List (KT×V×V)}{Q:je->al->Prop}(n:A.handled=none)(I:ZF X kj σ H s)(x:YM X.w H d i)(l:∀ (h:al) (c:je),ZF X kj σ H h->ZO (i.map (·.2.1)) c->Q c h):aC (aB X.prog X.w) A (collect (.ref d)) Q E s:=by
 obtain⟨u,k,g⟩:=x.ex;obtain⟨⟨b,f,o,j,p,q,m⟩,_⟩:=I.hok d _ k;refine ZG3 (AR (ep:=j) b) n ⟨o,p,q,m⟩ f λv t e r _ a=>?_;exact l _ e.toList (I.kept (t':=t) r) (BB g a)
end
def ZIg:az "sorted" = some (.builtin "sorted"):=by decide +kernel
def ZRS:TE:=λ_ H Q=>∀(p:ak)(a:Hp),H p=none->ZE p H a->ZC H a->YM X.w a p []->Q (.ref p) a
def G9{pos:Pos}:PE X (.Dict [] [] pos) (ZRS (X:=X)):=λd s g H Q I h=>by
 have c:=I.hok.fresh (zY s.heap.objs.size);refine wpAny_Dict_empty ⟨.ref s.heap.objs.size,_,I.laid (a:=s.heap.objs.size) (o:=NO s.heap.objs.size #[]) (t':=s.toks) (λ_ _ q=>zO _ q) (zY _) (E6 (beq_eq_false_iff_ne.mpr (Ne.symm (yU I.big))) (zL _) ⟨_,0,yO _ rfl,⟨rfl,rfl,rfl⟩,rfl⟩),rfl,?_⟩;exact h _ _ c (λb o e n=>by rw[ZS n];exact e) (ZU c _) ⟨⟨#[],ZM,.nil⟩,λz f=>by simp at f,.nil⟩
inductive OU(w:ax)(D:Z8)(e:L2.St)(v x y:V)(b:Hp):Prop
 |mk(a:ak)(d:List (KT×V×V))(t:KT)(_:x=.ref a)(_:YM w b a d)(_:d.length<1000)(_:ZD b t y)(_:t.depth<=3)(_:∀ c,ZE a b c->YM w c a (U1 d t y v)->D.nx e c)
def Co(w:ax)(e g f:TE):TS:=λD a H=>f a H λv b=>e a b λx c=>g a c λy d=>OU w D a v x y d
def Fl{o i b:Expr}{pos d:Pos}{j l k:TE}(L:X.A.units+4<cLine)(J:PE X o j)(G:PE X i l)(M:PE X b k)(K:swapsWith b (some (.Subscript o i d)) pos.line X.env=pure false):
  PS X (.Assign [.Subscript o i d] b pos) (Co X.w j l k):=by
 intro c s e H D I h;refine wpAny_Assign_Subscript (Z7 (M c s e H _ I h) λr V v m p S P=>Z7 (J c V e m _ p P) λu W x n q T Q=>Zz (G c W e n _ q Q) λiv s3 ⟨y,Z,z,U,a,xs,t,F,C,O,N,E,R⟩=>?_) K;subst F;obtain rfl:u=Value.ref a:=T;exact AO L z C O N E U S λs4 g B Y f=>⟨e,g,B,R g Y f⟩
def Cp(g:jp)(e:Hp)(Q:VK):Prop:=∀(D:ak)(f:jf)(d:jp)(c:Hp),ZC e c->e D=none->c D=some (.lst f)->jY c d f->d.Perm g->d.Pairwise (λa b=>b.lt a=false)->Q (.ref D) c
inductive PY(w:ax)(Q:VK)(c:jf)(b:Hp):Prop
 |mk(d:ak)(a:List (KT×V×V))(_:c=[.ref d])(_:YM w b d a)(_:∀ x∈a,x.1.fits 3=true)(_:a.length<64)(_:Cp (a.map (·.1)) b Q)
def ZQO(w:ax)(t:TA):TE:=λc H Q=>t c H λb a=>PY w Q b a
def G1{g:KT->KT}(hg:Kg g)(T:∀ t,(g t).depth<=2 * t.depth+2){k:Nat}{p pos N D:Pos}{e:Expr}{x x0:Str}{t:TA}(R:ZB X.prog X.w X.K X.mg X.base k x [x0] (PL g))(M:ZT (k+2) X.A)(y:Gl X "sorted")(hm:X.mg "sorted" = none)(B:Gl X x)(Y:PA X [e] t)(o:(x==("__debug__" : Str))=false:=by decide)(Z:aG pos (aw [e] X.env)=(false,aH e X.env)::aG pos (aw [] X.env):=by rfl)(a:(aG pos (aw [e] X.env)).any (·.1)=false:=by rfl):
  PE X (.Call (.Name "sorted" p) [e] [⟨some (yE "key"),.Name x D,N⟩] pos) (ZQO X.w t):=by
 intro c s P H Q I h;obtain⟨f,fd,F,b,a0,m⟩:=R.ex;refine ag (O6 I y hm ZIg (callWith_kw (Zz (Y pos c s P H _ I h) λus s1 ⟨vs,G,S,r,d,j,U,n,L,i,q⟩=>?_) Z a));have pk:PK X [⟨some (yE "key"),.Name x D,N⟩] (YX (tC (.ref f)) Vr):=ZNc (WP (v:=.ref f) (pos:=D) B m rfl o) ZQl;refine Zz (pk pos c s1 P G (λO l=>O=[.ref f]/\l=G) S ⟨rfl,rfl⟩) ?_;rintro O s2 ⟨zv,l,J,rz,W,V⟩;subst U W V;obtain⟨u,rfl,ru⟩:=Vp r;obtain⟨u2,rfl,E⟩:=Vp rz;cases ru;cases E;have ka:jY l (j.map (·.1)) (j.map (·.2.1)):=by
  have:=n.key;clear q i L n
  induction j with
  | nil=>exact .nil
  | cons z j ih=>exact .cons (this z (zC ..)).1 (ih λz C=>this z (zI _ C))
 exact BG hg T M F b J ka (λt ht=>by obtain⟨z,C,rfl⟩:=zM.mp ht;exact L z C) (by rw[zX];exact i) (λQ' hq=>BZ M.hd J n hq) q
end Tw
namespace L2
open PySem PySem.Spec PyProof.Rows
def Ip:∀{a:jt}{b:je},ZO (a.map V.int) b->IntsAre b a
 | [],_,h=>by cases h;exact .nil
 | n::a,_,h=>by
  cases h with
  | cons r c=>
   obtain⟨t,rfl⟩:=r;exact .cons _ _ (Ip c)
section
variable{kj:js}{σ:St}{H:Hp}
inductive OR(d:jf)(H:Hp)(Q:VK):Prop
 |mk(a:ak)(b:List (Zb×V))(c:jt)(_:d=[.ref a])(_:H a=some (.dK b))(_:b.map (·.1)=c.map Sum.inl)(_:c.length<1000)(_:∀ p,H p=none->Q (.ref p) (upd H p (.lst (c.map V.int))))
def BS(t:X.calm=true):Wu X (.type "list") OR:=by
 intro kj s σ H L K Q I r h;obtain⟨a,f,g,rfl,p,j,y,q⟩:=h;obtain⟨u,rfl,C⟩:=Vp r;cases C;obtain⟨z,B,E,kv,m⟩:=Nh I.hok p;have G:g.length=f.length:=by have:=congrArg wQ j;simpa using this.symm
 have J:=KV.length kv;obtain⟨k,l⟩:=m.dictAt;refine PySem.W.kdl_call (PySem.W.kdl_dict (knd:=V0 X.prog X.w) (kvs:=E) (ep:=k) B) (I.ok.hd t) l ∅ λF D d c A x b=>?_
 have n:IntsAre d.toList g:=ZKG kv j d.toList (by rw[yP];exact b.1) λi v e=>b.2 i v (by rw[<-yY];exact e)
 exact⟨.ref s.heap.objs.size,_,I.laid (a:=s.heap.objs.size) (o:=.lst (g.map V.int)) (t':=D) A (zY _) ⟨by rw[zX];exact yG (Yq (yG y)),d.toList,c,Fo n,by rw[Array.toArray_toList];exact x⟩,rfl,q _ (I.hok.fresh (zY _))⟩
end
end L2
namespace Tw
open PySem PySem.Spec L2 PyProof.Rows
def QO:jg->jd->Prop
 | some v,some r=>ZQ v r
 | none,none=>True
 | _,_=>False
mutual
def ZK.keep{h h':aE}(k:∀ b o,h.get? b=some o->h'.get? b=some o):∀(t:KT)(v:aj),ZK h t v->ZK h' t v
 | .int i,v,x=>by rw[ZK] at x⊢;exact x
 | .str i,v,x=>by rw[ZK] at x⊢;exact x
 | .tup l,v,x=>by
  rw[ZK] at x⊢;obtain⟨a,its,e,⟨o,g,r⟩,e2⟩:=x;exact⟨a,its,e,⟨o,k _ _ g,r⟩,jZ.keep k l its e2⟩
def jZ.keep{h h':aE}(k:∀ b o,h.get? b=some o->h'.get? b=some o):∀(l:jp)(vs:je),jZ h l vs->jZ h' l vs
 | [],vs,x=>by rw[jZ] at x⊢;exact x
 | t::l,vs,x=>by
  rw[jZ] at x⊢;obtain⟨v,r,e,e1,e2⟩:=x;exact⟨v,r,e,ZK.keep k t v e1,jZ.keep k l r e2⟩
end
section
variable{kj:js}{σ:L2.St}{H:Hp}
def Gh{d:ak}{j:List (KT×V×V)}(I:ZF X kj σ H s)(x:YM X.w H d j):(d==sysModules)=false/\s.TypeIs (.ref d) "dict" /\ ∀ b,Value.ref d=.ref b->∃ f,s.heap.get? b=some f/\f.dict=none:=by
 obtain⟨l,g,i⟩:=x.ex;obtain⟨⟨a,h,o,k,c,e,m⟩,_⟩:=I.hok d _ g;exists a,⟨o,c,e.1⟩;intro b q;cases q;exact⟨o,c,e.2.1⟩
def AX{d:ak}{q:List (KT×V×V)}{t:KT}{y:V}{u:aj}{Q:jd->al->Prop}(O:A.units+4<cLine)(I:ZF X kj σ H s)(x:YM X.w H d q)(m:ZD H t y)(v:t.depth<=3)(p:ZQ y u)(h:∀ f r,ZF X kj σ H f->(∀ b n,s.heap.get? b=some n->f.heap.get? b=some n)->QO (Pl q t) r->Q r f):aC (aB X.prog X.w) A (dictGet d u) Q E s:=by
 obtain⟨N,G,c⟩:=x.ex;obtain⟨⟨l,K,o,M,k,P,i⟩,_⟩:=I.hok d _ G;unfold dictGet
 try with_reducible refine af ?_
 refine aa (JN t.depth t (zY _) (Vt I t y u m p) ∅ λg L=>?_)
 have a:ZF X kj σ H { s with toks:=g }:=I.tok g;refine aa (Gm (A:=A) a x c k i m v p ∅ (λJ=>?_) λj z e B C D F=>?_)
 ·refine ad (h _ none a (λ_ _ e=>e) ?_);rw[ZKU J];trivial
 ·refine aa (wpAny_dictEntries (s:={ s with toks:=g }) k i ?_);rw[D];refine ad (h _ (some e.val) a (λ_ _ e=>e) ?_);rw[<-C,CI x.nd B];exact F.2.2
def A6{d:ak}{g:List (KT×V×V)}{t:KT}{y v:V}{u:aj}{Q:ja}(n:A.units+5<cLine)(I:ZF X kj σ H s)(x:YM X.w H d g)(l:ZD H t y)(j:t.depth<=3)(m:ZQ y u)(k:Pl g t=some v)(h:∀ f a,ZF X kj σ H a->ZQ v f->Q f a):aC (aB X.prog X.w) A (getItem (.ref d) u) Q E s:=by
 obtain⟨e,b,_⟩:=Gh I x;unfold getItem
 try with_reducible refine af ?_
 refine aa (wpAny_sequenceKey b (by decide) ?_)
 refine aa (wpAny_callSpecial?_slot (name:=yE "__getitem__") b slot_dict_getitem (wpAny_call_entry slot_dict_getitem b entry_dict_getitem ?_ (args_dict_getitem _ _)));show aC _ _ (dictGet d u >>= _) _ _ s;refine aa (AX (by show A.units+1+4<_;lia) I x l j m λa r i _ c=>?_)
 rw[k] at c
 cases r with
 | none=>exact c.elim
 | some r=>exact ad ⟨r,rfl,ad (h r a i c)⟩
end
section
variable{o i e f:Expr}{pos jh ji:Pos}{td ty tx:TE}
inductive Oy(w:ax)(Q:VK)(x y:V)(b:Hp):Prop
 |mk(a:ak)(c:List (KT×V×V))(t:KT)(v:V)(_:x=.ref a)(_:YM w b a c)(_:ZD b t y)(_:t.depth<=3)(_:Pl c t=some v)(_:Q v b)
def G8(w:ax)(td ty:TE):TE:=λa H Q=>td a H λx b=>ty a b λy c=>Oy w Q x y c
def ZN6(C:X.A.units+5<cLine)(z:PE X o td)(r:PE X i ty)(B:LI i):PE X (.Subscript o i pos) (G8 X.w td ty):=by
 intro b s j H Q I h;refine CF qA.lookup B (Z7 (z b s j H _ I h) λu M x k m K G=>Zz (r b M j k _ m G) ?_);rintro iv N ⟨y,l,d,L,a,R,t,v,q,g,E,p,D,J⟩;subst q;obtain rfl:u=Value.ref a:=K;exact⟨(Gh d g).2.1,A6 C d g E p L D λP O n c=>⟨v,l,n,c,J⟩⟩
end
def Paired.ixR{b a:Type}{F:b->a->Prop}{l:List b}{m:List a}{i:Nat}{u:a}(h:Paired F l m)(e:m[i]? = some u):∃ r,l[i]? = some r/\F r u:=Ow h e
section
variable{kj:js}{σ:L2.St}{H:Hp}{s0:al}
end
end Tw
namespace Tw
open PySem PySem.Spec L2
def UU(N:ak->Prop)(H:Hp)(n:String)(v:V):Prop:=
 (n = "bool" /\ ∃ b,v=.bl b)\/(n = "NoneType" /\ v=.non)\/(n = "list" /\ ∃ a d,v=.ref a/\H a=some (.lst d)/\¬ N a)\/(n = "dict" /\ ∃ a c,v=.ref a/\H a=some (.dK c)/\¬ N a)
mutual
def Zm(N:ak->Prop)(H:Hp):TG->V->Prop
 | .int i,v=>v=.int i
 | .str x,v=>v=.str x
 | .tup l,v=>∃ a vs,v=.ref a/\H a=some (.tup vs)/\kg N H l vs
 | .odd n,v=>UU N H n v
def kg(N:ak->Prop)(H:Hp):List TG->jf->Prop
 | [],vs=>vs=[]
 | t::l,vs=>∃ v r,vs=v::r/\Zm N H t v/\kg N H l r
end
structure XD(N:ak->Prop)(H H':Hp):Prop where
 tup:Z3 H H'
 rest:∀ b o,H b=some o->¬ N b->H' b=some o
def XD.same{N:ak->Prop}{H a:Hp}(s:ZC H a):XD N H a:=⟨ZC.tups s,λb o e _=>s b o e⟩
mutual
def Zm.mono{N:ak->Prop}{H H':Hp}(m:XD N H H'):∀(t:TG)(v:V),Zm N H t v->Zm N H' t v
 | .int _,_,h=>by rw[Zm] at h⊢;exact h
 | .str _,_,h=>by rw[Zm] at h⊢;exact h
 | .tup l,_,h=>by
  rw[Zm] at h⊢;obtain⟨a,vs,e,h1,h2⟩:=h;exact⟨a,vs,e,m.tup a vs h1,kg.mono m l vs h2⟩
 | .odd n,_,h=>by
  rw[Zm] at h⊢;rcases h with h | h | ⟨e,a,xs,e1,e2,e3⟩ | ⟨e,a,xs,e1,e2,e3⟩
  ·exact .inl h
  ·exact .inr (.inl h)
  ·exact .inr (.inr (.inl ⟨e,a,xs,e1,m.rest _ _ e2 e3,e3⟩))
  ·exact .inr (.inr (.inr ⟨e,a,xs,e1,m.rest _ _ e2 e3,e3⟩))
def kg.mono{N:ak->Prop}{H H':Hp}(m:XD N H H'):∀(l:List TG)(vs:jf),kg N H l vs->kg N H' l vs
 | [],_,h=>by rw[kg] at h⊢;exact h
 | t::l,_,h=>by
  rw[kg] at h⊢;obtain⟨v,r,e,h1,h2⟩:=h;exact⟨v,r,e,Zm.mono m t v h1,kg.mono m l r h2⟩
end
mutual
def Zm.less{N N':ak->Prop}{H:Hp}(m:∀ b,N' b->N b):∀(t:TG)(v:V),Zm N H t v->Zm N' H t v
 | .int _,_,h=>by rw[Zm] at h⊢;exact h
 | .str _,_,h=>by rw[Zm] at h⊢;exact h
 | .tup l,_,h=>by
  rw[Zm] at h⊢;obtain⟨a,vs,e,h1,h2⟩:=h;exact⟨a,vs,e,h1,kg.less m l vs h2⟩
 | .odd n,_,h=>by
  rw[Zm] at h⊢;rcases h with h | h | ⟨e,a,xs,e1,e2,e3⟩ | ⟨e,a,xs,e1,e2,e3⟩
  ·exact .inl h
  ·exact .inr (.inl h)
  ·exact .inr (.inr (.inl ⟨e,a,xs,e1,e2,λz=>e3 (m a z)⟩))
  ·exact .inr (.inr (.inr ⟨e,a,xs,e1,e2,λz=>e3 (m a z)⟩))
def kg.less{N N':ak->Prop}{H:Hp}(m:∀ b,N' b->N b):∀(l:List TG)(vs:jf),kg N H l vs->kg N' H l vs
 | [],_,h=>by rw[kg] at h⊢;exact h
 | t::l,_,h=>by
  rw[kg] at h⊢;obtain⟨v,r,e,h1,h2⟩:=h;exact⟨v,r,e,Zm.less m t v h1,kg.less m l r h2⟩
end
def kg.length{N:ak->Prop}{H:Hp}:∀{l:List TG}{a:jf},kg N H l a->l.length=a.length
 | [],a,h=>by rw[kg] at h;subst h;rfl
 | t::l,a,h=>by
  rw[kg] at h;obtain⟨v,r,rfl,_,b⟩:=h;rw[zJ,zJ,b.length]
def kg.get{N:ak->Prop}{H:Hp}:∀{l:List TG}{a:jf}{i:Nat}{v:V},kg N H l a->a[i]? = some v->∃ t,l[i]? = some t/\Zm N H t v
 | [],a,i,v,h,e=>by rw[kg] at h;subst h;simp at e
 | t::l,a,0,v,h,e=>by
  rw[kg] at h;obtain⟨j,r,rfl,d,_⟩:=h;simp at e;subst e;exact⟨t,rfl,d⟩
 | t::l,a,i+1,v,h,e=>by
  rw[kg] at h;obtain⟨j,r,rfl,_,f⟩:=h;obtain⟨g,b,c⟩:=f.get (i:=i) (by simpa using e)
  exact⟨g,by simpa using b,c⟩
mutual
def Kn{N:ak->Prop}{H:Hp}:∀(t:KT)(v:V),ZD H t v->Zm N H t.emb v
 | .int i,v,h=>by rw[ZD] at h;rw[KT.emb,Zm];exact h
 | .str x,v,h=>by rw[ZD] at h;rw[KT.emb,Zm];exact h
 | .tup l,v,h=>by
  rw[ZD] at h;obtain⟨a,vs,e,h1,h2⟩:=h;rw[KT.emb,Zm];exact⟨a,vs,e,h1,ths_keys l vs h2⟩
def ths_keys{N:ak->Prop}{H:Hp}:∀(l:jp)(vs:jf),jY H l vs->kg N H (embL l) vs
 | [],vs,h=>by rw[jY] at h;rw[embL,kg];exact h
 | t::l,vs,h=>by
  rw[jY] at h;obtain⟨v,r,e,h1,h2⟩:=h;rw[embL,kg];exact⟨v,r,e,Kn t v h1,ths_keys l r h2⟩
end
def UU.ty{K:zZ}{N:ak->Prop}{H:Hp}{n:String}{v:V}(h:UU N H n v):Y0 K H v (.type n):=by
 rcases h with ⟨rfl,b,rfl⟩ | ⟨rfl,rfl⟩ | ⟨rfl,a,c,rfl,e,_⟩ | ⟨rfl,a,c,rfl,e,_⟩
 ·exact .bl b
 ·exact .non
 ·exact .lst e
 ·exact .dK e
def ZOs{K:zZ}{N:ak->Prop}{H:Hp}{n:String}{v:V}(h:UU N H n v):
  ∃ b,yZ K (.type n) (.type "bool")=some b/\(b=false->yZ K (.type n) (.type "int")=some false/\yZ K (.type n) (.type "str")=some false/\yZ K (.type n) (.type "tuple")=some false):=by
 rcases h with ⟨rfl,_⟩ | ⟨rfl,_⟩ | ⟨rfl,_⟩ | ⟨rfl,_⟩
 ·exact⟨true,AW,λz=>absurd z (by decide)⟩
 ·exact⟨false,by kernel_rfl,λ_=>⟨by kernel_rfl,by kernel_rfl,by kernel_rfl⟩⟩
 ·exact⟨false,by kernel_rfl,λ_=>⟨by kernel_rfl,by kernel_rfl,by kernel_rfl⟩⟩
 ·exact⟨false,by kernel_rfl,λ_=>⟨by kernel_rfl,by kernel_rfl,by kernel_rfl⟩⟩
end Tw
namespace L2
open PySem PySem.Spec PyProof.Rows
section
variable{H H2:Hp}{h h':aE}{cs fs ex:jD}
end
section
variable{cs:jD}{HL Hc H' H3:Hp}
end
def K5{P:am}{w:ax}{K:zZ}{h:jc}{d:aE}{g:Wg}{N:jr}{c:Str}{a:aF}{f:ak}{e:aj}{A:ay}{b:jx}{s:al}{H:Hp}{E:XK}:
  PassesOwn (aB (WZ g P w K h d N c a f e A b s H E).prog (WZ g P w K h d N c a f e A b s H E).w) (WZ g P w K h d N c a f e A b s H E).A (WZ g P w K h d N c a f e A b s H E).env (WZ g P w K h d N c a f e A b s H E).xe:=by
 show PassesOwn (aB P w) (A.deeper (envOfC c a s.heap.objs.size f e)) (envOfC c a s.heap.objs.size f e) _
 passes_own
def QI:Expr->Bool
 | .Starred _ _=>false
 | _=>true
def Yr{e:Expr}{b:jB}{a:Env}(h:QI e=true):aw (e::b) a=(false,aH e a)::aw b a:=by
 cases e <;> first | rfl | cases h
def ZSi{X:Cx}{e:Expr}{a:jB}{b:TE}{t:TA}(c:PE X e b)(d:PA X a t)(h:QI e=true:=by rfl):PA X (e::a) (YX b t):=ZW c d (Yr h)
def ZX{X:Cx}{e:Expr}{a:TE}(b:PE X e a)(h:QI e=true:=by rfl):PA X [e] (YX a Vr):=ZW b Zj (Yr h)
def Zl{X:Cx}{e d:Expr}{b a:TE}(f:PE X e b)(g:PE X d a)(h:QI e=true:=by rfl)(c:QI d=true:=by rfl):PA X [e,d] (YX b (YX a Vr)):=ZW f (ZX g c) (Yr h)
def QT{X:Cx}{a b c:Expr}{d e f:TE}(g:PE X a d)(i:PE X b e)(j:PE X c f)(h:[a,b,c].all QI=true:=by rfl):PA X [a,b,c] (YX d (YX e (YX f Vr))):=
 (ZW g (ZW i (ZW j Zj (Yr (zQ.mp h c (by simp)))) (Yr (zQ.mp h b (by simp)))) (Yr (zQ.mp h a (by simp))))
def VN{X:Cx}{a b c d:Expr}{e f g i:TE}(j:PE X a e)(k:PE X b f)(l:PE X c g)(m:PE X d i)(h:[a,b,c,d].all QI=true:=by rfl):PA X [a,b,c,d] (YX e (YX f (YX g (YX i Vr)))):=
 (ZW j (ZW k (ZW l (ZW m Zj (Yr (zQ.mp h d (by simp)))) (Yr (zQ.mp h c (by simp)))) (Yr (zQ.mp h b (by simp)))) (Yr (zQ.mp h a (by simp))))
def EJ{X:Cx}{a b c d e:Expr}{f g i j k:TE}(l:PE X a f)(m:PE X b g)(n:PE X c i)(o:PE X d j)(p:PE X e k)(h:[a,b,c,d,e].all QI=true:=by rfl):PA X [a,b,c,d,e] (YX f (YX g (YX i (YX j (YX k Vr))))):=
 (ZW l (ZW m (ZW n (ZW o (ZW p Zj (Yr (zQ.mp h e (by simp)))) (Yr (zQ.mp h d (by simp)))) (Yr (zQ.mp h c (by simp)))) (Yr (zQ.mp h b (by simp)))) (Yr (zQ.mp h a (by simp))))
def pa6{X:Cx}{a b c d e f:Expr}{g i j k l m:TE}(n:PE X a g)(o:PE X b i)(p:PE X c j)(q:PE X d k)(r:PE X e l)(s:PE X f m)(h:[a,b,c,d,e,f].all QI=true:=by rfl):PA X [a,b,c,d,e,f] (YX g (YX i (YX j (YX k (YX l (YX m Vr)))))):=
 (ZW n (ZW o (ZW p (ZW q (ZW r (ZW s Zj (Yr (zQ.mp h f (by simp)))) (Yr (zQ.mp h e (by simp)))) (Yr (zQ.mp h d (by simp)))) (Yr (zQ.mp h c (by simp)))) (Yr (zQ.mp h b (by simp)))) (Yr (zQ.mp h a (by simp))))
def VU(g:ju->Prop)(x C:ak)(b:jA)(h:aE):Prop:=∃ o a,h.get? x=some o/\o.cls=.ref C/\o.data=.fields a/\o.dict=b/\g a
def Pg:ju->Prop:=λa=>a[1]? = some .none
def UR:ju->Prop:=λ_=>True
def XO(g:ju->Prop)(x C:ak)(a:jA):HO:=.ext (VU g x C a)
def VU.is{g:ju->Prop}{x C:ak}{c:jA}{h:aE}(e:VU g x C c h):WD x C h:=let ⟨o,_,a,b,_⟩:=e;⟨o,a,b⟩
def Jw{P:am}{w:ax}{H:Hp}{h:aE}{g:ju->Prop}{x C:ak}{j:jA}(e:VU g x C j h):Ze P w H h x (XO g x C j):=by
 obtain⟨o,s,a,b,c,d⟩:=id e;exact⟨e,⟨o,a⟩,λq r ⟨i,f,l,m,n,p⟩ k=>⟨i,f,k i l,m,n,p⟩⟩
abbrev OL:je:=[.type "ValueError",.type "Exception",.type "BaseException",.type "object"]
def HZ:je->Bool
 | .ref _::r=>HZ r
 | l=>l==OL
def Fm(a:aj):∀{l:je},HZ l=true->PySem.refuseLoop a "__setattr__" l=pure ()
 | .ref c::r,e=>(refuseLoop_ref _ _ _ _).trans (Fm a (l:=r) e)
 | .type n::r,e=>by rw[show (Value.type n::r)=OL from beq_iff_eq.mp e];exact qC.passes a
 | [],e=>by cases e
 | .none::r,e | .bool _::r,e | .int _ _::r,e | .str _ _::r,e | .bytes _ _::r,e | .float _ _::r,e | .builtin _::r,e=>by cases(beq_iff_eq.mp e)
def EL(K:zZ)(C:ak):Bool:=(PySem.W.clsIn K C).any λa=>HZ a.mro
def E3:aj->Bool
 | .type t=>t == "type"
 | _=>false
def ZOA{v:aj}(h:E3 v=true):v=.type "type" :=by
 cases v with
 | type t=>exact congrArg Value.type (eq_of_beq h)
 | _=>cases h
def Cc:Data->Option ClassData
 | .cls c=>some c
 | _=>none
def ZMJ{d:Data}{c:ClassData}(h:Cc d=some c):d=.cls c:=by
 cases d with
 | cls c=>cases h;rfl
 | _=>cases h
def Fe:jd->Bool
 | some (.builtin m)=>m == "ValueError.__new__"
 | _=>false
def ZPb{v:jd}(h:Fe v=true):v=some (.builtin "ValueError.__new__"):=by
 cases v with
 | none=>cases h
 | some v=>
  cases v with
  | builtin m=>exact congrArg (some <| Value.builtin ·) (eq_of_beq h)
  | _=>cases h
def GG(C:ak):je->Bool
 | .ref D::_=>D==C
 | _=>false
def ZPu{C:ak}{l:je}(h:GG C l=true):l=.ref C::l.tail:=by
 cases l with
 | nil=>cases h
 | cons v r=>
  cases v with
  | ref D=>exact congrArg (Value.ref ·::r) (eq_of_beq h)
  | _=>cases h
def Os{b:Type}{n:Nat}{l:List b}(h:l.length=n+1):∃ a m,l=a::m:=by
 cases l with
 | nil=>cases h
 | cons a m=>exact⟨a,m,rfl⟩
def Cz{c:Type}{l:List c}(h:l.length=2):∃ a b,l=[a,b]:=by
 obtain⟨a,l,rfl⟩:=Os h;obtain⟨b,rfl⟩:=zEI.mp (yB.inj h);exact⟨a,b,rfl⟩
def ZPf{l:List (jd)}(h:l.length=6):∃ a b c d e f,l=[a,b,c,d,e,f]:=by
 obtain⟨a,l,rfl⟩:=Os h;obtain⟨b,l,rfl⟩:=Os (yB.inj h);obtain⟨c,l,rfl⟩:=Os (yB.inj (yB.inj h));obtain⟨d,l,rfl⟩:=Os (yB.inj (yB.inj (yB.inj h)));obtain⟨e,l,rfl⟩:=Os (yB.inj (yB.inj (yB.inj (yB.inj h))));obtain⟨f,l,rfl⟩:=Os (yB.inj (yB.inj (yB.inj (yB.inj (yB.inj h)))))
 cases l with
 | nil=>exact⟨a,b,c,d,e,f,rfl⟩
 | cons _ _=>cases h
def GF{b:Type}{p:b->Bool}{o:Option b}(h:o.any p=true):∃ a,o=some a/\p a=true:=by
 cases o with
 | none=>cases h
 | some a=>exact⟨a,rfl,h⟩
def Je(K:zZ)(C:ak)(f:ClassData->Bool):Bool:=(K.lookup C).any λo=>E3 o.cls&&(o.slots.toList.length==6&&(Fe (o.slots.toList.getD 4 none)&&(Cc o.data).any λc=>GG C c.mro&&(PySem.W.tailIn K OL c.mro.tail&&(!c.hasDel&&f c))))
inductive Po(K:zZ)(C:ak)(f:ClassData->Bool):Prop
 |mk(h e i j g k b d a l m n o p q:_)(c:je):K.lookup C=some (excClassObj h j C i e c g k b d a l m n o p q "ValueError.__new__")->PySem.W.tailIn K OL c=true->f ⟨h,e,.ref C::c,i,j,g,k,b,d,a,false⟩=true->Po K C f
def FN{K:zZ}{C:ak}{f:ClassData->Bool}(h:Je K C f=true):Po K C f:=by
 obtain⟨⟨H,l,I,⟨J⟩⟩,e,h⟩:=GF h;rw[zR,zR,zR] at h;obtain⟨n,o,p,q⟩:=h;obtain⟨⟨B,k,g,D,E,t,F,i,j,b,c⟩,m,h⟩:=GF q;rw[zR,zR,zR] at h;obtain⟨a,d,r,s⟩:=h;cases ZOA n;cases ZMJ m;obtain⟨u,w,x,y,z,A,rfl⟩:=ZPf (eq_of_beq o);cases ZPb (v:=z) p;have a:=ZPu a;dsimp only at a d;generalize g.tail=G at a d;subst a
 cases c with
 | true=>cases r
 | false=>exact⟨B,k,D,E,t,F,i,j,b,l,u,w,x,y,A,G,e,d,s⟩
def Ee(K:zZ)(C:ak):Bool:=Je K C λ_=>true
def Kt(K:zZ)(C:ak):Bool:=Je K C λc=>PySem.W.nsOkIn K c.ns&&zH K c.ns "__init__" == some none
def Bu{K:zZ}{a:aE}{g:jc}{x:Str}{C:ak}(b:K.In a)(l:g x=some (.ref C))(q:Kt K C=true):OwnCls x C OL "ValueError.__new__" g a:=by
 exists l;obtain⟨u,j,h,v,m,w,d,i,c,k,o,p,r,s,t,y,e,n,f⟩:=FN q;rw[zR] at f;exact⟨y,h,u,v,j,m,w,d,i,c,k,o,p,r,s,t,a.nsMap h,b _ _ e,.of_isNs (PySem.W.isNs_of_in b f.1),PySem.W.nsMap_none_of_in b f.1 (eq_of_beq f.2),zEN b n⟩
structure Wy(K:zZ)(C fI:ak)(f:Str):Prop where
 exc:WM K C
 made:Ee K C=true
 init:zA K (.ref C) "__init__" = some (some (.ref fI))
 fn:wE K (.ref fI)=true
 kp:yL K (.ref C)=true
 sa:zA K (.ref C) "__setattr__" = some (some (.builtin "object.__setattr__"))
 no:zA K (.ref C) f=some none
 hd:vO K C=true
 over:EL K C=true
section
variable{g:ju->Prop}{kj:js}{σ:St}{H:Hp}{a C fI:ak}{f:Str}{v:V}
def ZJy{y:V}{u:aj}{Q:Unit->al->Prop}(I:ZF X kj σ H s)(e:H a=some (XO g a C none))(c:Wy X.K C fI f)(ry:ZQ y u)(h:∀ L s',H L=none->L≠a->ZF X kj σ (upd (upd H L (.xd [(f,y)])) a (XO g a C (some L))) s'->Q () s'):aC (aB X.prog X.w) A (setAttr (.ref a) f u) Q E s:=by
 obtain⟨o,vs,N,d,i,x,Z⟩:=(I.hok a _ e).1;obtain⟨oc,od,a7,k⟩:=o;dsimp only at d i x;subst d i x;have J:sE s.heap a ⟨.ref C,none,.fields vs,k⟩ C none:=⟨N,rfl,rfl,True.intro⟩;refine PySem.W.set_plain I.kIn J c.sa ?_;have l:=qC;obtain⟨cd,S,ho⟩:=sZ c.over;have a2:yF (aB X.prog X.w) s.heap (isInstance (.ref a) (.type "object")) true:=J.type.andThen (sS I.kIn c.exc.mO);refine codeAny_call_builtin l.slot.plain l.entry (@PySem.W.check_slot (aB X.prog X.w) _ _ { s with toks:=s.toks+1 } "object.__setattr__" "object" "__setattr__" (.ref a) [.str f s.toks,u] [] _ l.kind l.split a2 (l.args (.ref a) (.str f s.toks) u) ?_);have hm:yF (aB X.prog X.w) s.heap (mroOf (.ref C)) cd.mro:=(qV I.kIn S).andThen .now;rw[PySem.W.osa_eq,PySem.refuse_eq];refine aa (aa (yF.here (s:={ s with toks:=s.toks+1 }) J.type (aa (yF.here (s:={ s with toks:=s.toks+1 }) hm ?_))));rw[Fm _ ho];refine ad (aa (yF.here (s:={ s with toks:=s.toks+1 }) J.type (aa (yF.here (s:={ s with toks:=s.toks+1 }) (sQ I.kIn c.no) (aa (ad ?_))))));obtain⟨a3,t,T⟩:=sZ c.hd;refine aa (ad (aa (aa (wpAny_loadPart N (aa (yF.here (s:={ s with toks:=s.toks+1 }) (qV I.kIn t) ?_))))));rw[T];dsimp only;have a6:s.heap.get? s.heap.objs.size=none:=uA (zY _);have i:a≠s.heap.objs.size:=yU (zN N);have p:H s.heap.objs.size=none:=I.hok.fresh (zY _);rw[aM (by simp),aM (by simp[typeHasDict])]
 have D:=zO { cls:=.type "dict",data:=.dict #[] } N;refine aa (wpAny_alloc' (aa (wpAny_update' D (ad ?_))));generalize O:((s.heap.push { cls:=.type "dict",data:=.dict #[] }).update a λo=>{ cls:=o.cls,dict:=some s.heap.objs.size,data:=o.data,slots:=o.slots })=M;have ga:M.get? a=some ⟨.ref C,some s.heap.objs.size,.fields vs,k⟩:=by
  rw[<-O];exact vM _ D rfl
 have gd:M.get? s.heap.objs.size=some { cls:=.type "dict",data:=.dict #[] }:=by
  rw[<-O];exact(Heap.get?_update_ne _ _ _ _ i.symm).trans (Heap.get?_push_at rfl rfl)
 have go:∀ b o,b≠a->s.heap.get? b=some o->M.get? b=some o:=λb o n q=>by
  rw[<-O];exact(Heap.get?_update_ne _ _ _ _ n).trans (zO _ q)
 have a0:M.Ns s.heap.objs.size (λ_=>none):=⟨_,#[],_,gd,rfl,λe he=>absurd he (by simp),λ_=>rfl⟩
 show aC _ _ (Builtin.ObjectAttr.storeInDict s.heap.objs.size (.str f s.toks) f u) _ _ _;unfold Builtin.ObjectAttr.storeInDict Builtin.ObjectAttr.newKeyGuard;refine aa (ad (aa (wpAny_nsSet1 (Heap.Ns1.of_empty a0) λP B hs=>?_)));obtain⟨oD,a5,a4,a1,U,R⟩:=B.count (Within.cons f u Within.nil);refine aa (wpAny_lookBehind a1 (by rw[U];exact pastItsLine_dict (zS R (by rw[zJ,sM,sizeLine_eq];lia))) ?_)
 have m:P.get? a=some ⟨.ref C,some s.heap.objs.size,.fields vs,k⟩:=(hs.2 a i).trans ga;have j:∀ b o,b≠a->s.heap.get? b=some o->P.get? b=some o:=λb o n q=>(hs.2 b (yU (zN q))).trans (go b o n q);have G:∀{b:ak}{o:HO},H b=some o->b≠s.heap.objs.size:=fun{b o} q z=>by rw[z,p] at q;cases q
 have na:∀{b:ak},H b=none->b≠a:=fun{b} q z=>by rw[z,e] at q;cases q
 refine ad (h s.heap.objs.size _ p i.symm (I.call' (s':={ s with heap:=P,toks:=_ }) (ch:=[]) rfl ⟨λb o q n _ _=>j b o (na n) q,λb o q n _ _=>⟨o.slots,j b o (na n) q⟩,λb o q n _=>?_,λb o q _=>?_,λb xs q=>?_,λb o u q=>?_,λb ps q=>?_⟩ (λb ob q=>?_) I.bare (λb hb=>absurd hb (by simp))))
 ·rw[ZS (na n),ZS (yU (zN q))];exact n
 ·by_cases z:b=a
  ·rw[z];exact⟨_,m⟩
  ·exact⟨o,j b o z q⟩
 ·rw[ZS (λz=>by rw[z,e] at q;cases q),ZS (G q)];exact q
 ·rw[ZS (λz=>by rw[z,e] at q;cases q),ZS (G q)];exact q
 ·exact⟨#[],by rw[ZS (λz=>by rw[z,e] at q;cases q),ZS (G q),q];simp⟩
 ·by_cases z:b=a
  ·rw[z,ZM] at q;cases q;rw[z];exact Jw ⟨_,_,m,rfl,rfl,rfl,Z⟩
  ·rw[ZS z] at q;by_cases z2:b=s.heap.objs.size
   ·rw[z2,ZM] at q;cases q;rw[z2];exists _,B;intro g;show Yl (xD g [(f,y)]) (if g=f then some u else none)
    by_cases Y:g=f
    ·rw[Y,aO rfl];simp only[xD,beq_self_eq_true];exact ry
    ·rw[aM Y];simp only[xD,beq_eq_false_iff_ne.mpr Y];exact True.intro
   ·rw[ZS z2] at q;have oc:∀{c:ak},H c=some (.own b)->c≠a:=fun{c} d z=>by rw[z,e] at d;cases d
    refine(I.hok b ob q).stay (λc u d r=>j c u ?_ r) (λc d=>?_) (λc xs d=>?_)
    ·rcases d with rfl | d
     ·exact z
     ·exact oc d
    ·rw[ZS (oc d),ZS (G d)];exact d
    ·rw[ZS (λz=>by rw[z,e] at d;cases d),ZS (G d)];exact d
def C9{b:Bool}{j:ak}{x:List (Str×V)}{Q:ja}(I:ZF X kj σ H s)(e:H a=some (XO g a C (some j)))(d:H j=some (.xd x))(c:Wy X.K C fI f)(l:x.lookup f=some v)(h:∀ u B,ZF X kj σ H B->ZQ v u->Q u B):aC (aB X.prog X.w) A (getAttr (.ref a) f b) Q E s:=by
 obtain⟨o,R,N,D,m,n,G⟩:=id (I.hok a _ e).1;obtain⟨O,r,i⟩:=I.hok j _ d;obtain⟨u,M,z⟩:=Yl.some_of (v:=v) (o:=O f) (by rw[<-l];exact i f)
 obtain⟨y,t,q⟩:=GQ r;have J:sE s.heap a o C (some y):=⟨N,D,by unfold PySem.W.notCls;rw[m],by rw[n];exact t⟩
 obtain⟨P,k,p⟩:=sZ c.hd;have L:yF (aB X.prog X.w) s.heap (Builtin.ObjectAttr.inOwnDict f (.ref a)) (some u):=PySem.W.looks_own I.kIn J k (by unfold PySem.W.ownOf;rw[p,aO rfl];show uR f y=_;rw[q,M])
 have F:yF (aB X.prog X.w) s.heap (Builtin.ObjectAttr.find (.ref a) (.ref C) f) (.value u):=by
  refine yF.andThen (sQ I.kIn c.no) (yF.andThen .now (yF.andThen .now ?_));exact yF.andThen L (yF.tag yF.now)
 refine aa (wpAny_mkText ?_);refine CJ (s:={ s with toks:=s.toks+1 }) I.kIn (I.hok a _ e).1.is c.exc F ⟨Gy z,h u _ (I.tok _) z⟩
end
section
variable{C fI:ak}{f:Str}
abbrev PH(h:aE)(C:ak)(a:je):Heap:=(h.push { cls:=.type "tuple",data:=.seq a.toArray }).push { cls:=.ref C,data:=.fields #[.ref h.objs.size,.none,.none,.none,.bool false,.none] }
def ZLx{e:je}{Q:ja}(X:K.In s.heap)(c:Wy K C fI f)(p:e.length<=ar)(h:aC (aB prog w) (A.under (.builtin "type.__call__" ⟨.ref C::e,[]⟩)) (call (.ref fI) (.ref (s.heap.objs.size+1)::e)) (λr D=>r=.none/\Q (.ref (s.heap.objs.size+1)) D) E { s with heap:=PH s.heap C e }):
  aC (aB prog w) A (call (.ref C) e) Q E s:=by
 obtain⟨a,g,d,t,B⟩:=s;have n:=c.made;obtain⟨Z,H,ns,qn,M,sn,u,G,k,I,R,S,U,V,Y,v,N,P,_⟩:=FN n;have i:a.get? C=some (excClassObj Z qn C ns H v M sn u G k I R S U V Y "ValueError.__new__"):=X _ _ N;have T:OwnTail a OL v:=zEN X P;have j:=pZ;have f1:=tc_lookup;have f2:=tc_bind (.ref C);have hT:(⟨a,g,d,t,B⟩:al).TypeIs (.ref C) "type" :=⟨_,i,rfl⟩;refine wpAny_call (codeAny_of_tree (show aC _ _ (callAny (.ref C) _) _ _ _ from ?_))
 repeat (any_goals (first | assumption | with_reducible refine wpAny_loadPart_at i ?_ | wp_step))
 refine⟨rfl,codeAny_call_builtin_at (Code.quiet_builtin _ (by decide +kernel)) entry_typeCall (wpAny_check_type_call_sub i ?_)⟩
 repeat (first | with_reducible refine wpAny_loadPart_at i ?_ | with_reducible refine wpAny_madeBy_exc i ?_ | wp_step)
 refine codeAny_call_builtin_code (Code.quiet_builtin _ j.quiet) (wpAny_check_new_subU j j.hasB T i (codeAny_exc_new_subU j j.hasB j T i ?_ p));show aC _ _ _ _ _ _;have J:(PH a C e).get? (a.objs.size+1)=some { cls:=.ref C,data:=.fields #[.ref a.objs.size,.none,.none,.none,.bool false,.none] }:=by heap_get
 have y:∀ b o,a.get? b=some o->(PH a C e).get? b=some o:=λb o q=>zO _ (zO _ q);have l:=y _ _ i;have m:(Value.ref C::v).contains (.ref C)=true:=by simp
 unfold isInstance;show aC _ _ _ _ _ ⟨PH a C e,g,d,t,B⟩
 repeat (first | with_reducible refine wpAny_loadPart_at J ?_ | wp_step)
 refine wpAny_isSubtype_exc (C:=C) (h:=PH a C e) l ?_;rw[m]
 repeat wp_step
 have x:K.In (PH a C e):=λb o q=>y b o (X b o q);show aC _ _ (typeLookup (.ref C) _) _ _ _;refine(sQ x c.init).at ?_;refine af (aa ((PySem.W.bind_fn x _ (beq_iff_eq.mp c.fn)).at ?_));refine aa (ae h (λr D O=>?_) λ_ _ z=>z);obtain⟨rfl,L⟩:=O
 wp_walk
 exact L
end
def Le(H:Hp)(a C:ak):Prop:=∃ b,H a=some (.ext b)/\∀ h,b h->WD a C h
def FS{g:ju->Prop}{H:Hp}{a C:ak}{b:jA}(e:H a=some (XO g a C b)):Le H a C:=⟨_,e,λ_ h=>h.is⟩
inductive VT(K:zZ)(d:jf)(H:Hp)(Q:VK):Prop
 |mk(a C c b:_)(_:d=[.ref a,c])(_:Le H a C)(_:WM K C)(_:Em c=true)(_:yZ K (.ref C) (cV c)=some b)(_:Q (.bl b) H)
inductive Ot(K:zZ)(f:Str)(D:Z8)(e:L2.St)(y x:V)(c:Hp):Prop
 |mk(g a C d:_)(_:x=.ref a)(_:c a=some (XO g a C none))(_:Wy K C d f)(_:∀ b,c b=none->b≠a->D.nx e (upd (upd c b (.xd [(f,y)])) a (XO g a C (some b))))
def ZRd(K:zZ)(d e:TE)(f:Str):TS:=λD a H=>e a H λy b=>d a b λx c=>Ot K f D a y x c
inductive Od(K:zZ)(f:Str)(Q:VK)(x:V)(b:Hp):Prop
 |mk(g a C c d v e:_)(_:x=.ref a)(_:b a=some (XO g a C (some c)))(_:b c=some (.xd d))(_:Wy K C e f)(_:d.lookup f=some v)(_:Q v b)
def Hx(K:zZ)(b:TE)(f:Str):TE:=λc H Q=>b c H λx a=>Od K f Q x a
def LF(K:zZ)(C c:ak)(f:Str):Sp:=λd H Q _=>Wy K C c f/\∃ a y,d=[.ref a,y]/\H a=some (XO Pg a C none)/\∀ b,H b=none->b≠a->Q .non (upd (upd H b (.xd [(f,y)])) a (XO Pg a C (some b)))
section
def LK:Wu X (.builtin "isinstance") (VT X.K):=by
 intro f s t H p n Q I r h;obtain⟨d,C,c,b,rfl,⟨v,e,k⟩,g,i,j,q⟩:=h;obtain⟨u,o,rfl,l,a⟩:=Lg r;cases(show u=Value.ref d from l);rw[Bh a i];exact xI (ZLv g) I.kIn (k _ (I.hok d _ e).1) j (λz=>nomatch z) λm=>⟨.bl b,H,I.tok m,rfl,q⟩
variable{C fI:ak}{f:Str}{e o value:Expr}{es:jB}{ta tv:TE}{t:TA}{pos pos' p:Pos}{x:Str}
def ZNu(v:PE X o ta)(B:PE X value tv)(A:swapsWith value (some (.Attribute o f pos')) pos.line X.env=pure false):PS X (.Assign [.Attribute o f pos'] value pos) (ZRd X.K ta tv f):=by
 intro b s d H D I h;refine plainObj_wpAny_Assign_Attribute (Z7 (B b s d H _ I h) λu L y i j J q=>Zz (v b L d i _ j q) λE O ⟨x,M,k,G,g,a,C,fI,r,n,c,F⟩=>?_) A;subst r;obtain rfl:E=Value.ref a:=G;exact ZJy k n c J λm N w z l=>⟨d,_,l,F m w z⟩
def Bs(w:PE X e ta)(r:attributeBase e f X.env (aH e X.env)=aH e X.env):PE X (.Attribute e f pos) (Hx X.K ta f):=by
 intro b s A H Q I h;refine GK r (Zz (w b s A H _ I h) ?_);rintro u F ⟨x,d,i,z,g,a,C,B,D,v,fI,n,k,m,c,l,q⟩;subst n;obtain rfl:u=Value.ref a:=z;exact C9 i k m c l λu E j y=>⟨v,d,j,y,q⟩
def ZF.newx{g:js}{j:St}{H:Hp}{s:al}{h':aE}{ea:ak}(I:ZF X g j H s)(d:∀ b o,s.heap.get? b=some o->h'.get? b=some o)(n:s.heap.get? ea=none)(m:VU Pg ea C none h'):ZF X g j (upd H ea (XO Pg ea C none)) { s with heap:=h' }:=by
 have l:H ea=none:=by
  cases z:H ea with
  | none=>rfl
  | some o=>
   obtain⟨A,q⟩:=I.hok.there (a:=ea) (by rw[z];exact λy=>nomatch y)
   rw[n] at q;cases q
 have i:∀{b:ak}{o:HO},H b=some o->b≠ea:=fun{b o} q z=>by rw[z,l] at q;cases q
 refine I.call' (s':={ s with heap:=h' }) (ch:=[]) rfl ⟨λb o q _ _ _=>d b o q,λb o q _ _ _=>⟨o.slots,d b o q⟩,λb o q z _=>?_,λb o q _=>⟨o,d b o q⟩,λb w q=>?_,λb o u q=>?_,λb B q=>⟨#[],?_⟩⟩ (λb v q=>?_) I.bare (λb k=>absurd k (by simp))
 ·rw[ZS (λy=>by rw[y,n] at q;cases q)];exact z
 ·rw[ZS (i q)];exact q
 ·rw[ZS (i q)];exact q
 ·rw[ZS (i q),q];simp
 ·by_cases z:b=ea
  ·rw[z,ZM] at q;cases q;rw[z];exact Jw m
  ·rw[ZS z] at q;exact(I.hok b v q).stay (λc u _ r=>d c u r) (λc h=>by rw[ZS (i h)];exact h) (λc w h=>by rw[ZS (i h)];exact h)
end
def ZJ1(f:ju->ju)(o:aI):(Obj.mapFields f o).dict=o.dict:=by
 obtain⟨c,d,a,b⟩:=o;cases a <;> rfl
def ZQ9(h B:aE)(e:ak)(cls:aj)(g:jA)(f:aj):Prop:=
 ∃ a d T b c,(h.get? e=some a/\a.cls=cls/\a.dict=g/\a.data=.fields d/\d[1]? = some (.ref T))/\B.get? T=none/\T≠e/\h.get? T=some b/\b.data=.fields c/\c[3]? = some f
def Vq(B:aE)(l:jx)(e:ak)(cls:aj)(b:jA)(a:aj)(h:aE):Prop:=B.StaysIn h/\B.get? e=none/\h.FunFrames B l/\ZQ9 h B e cls b a
def Vq.at{B h:aE}{l:jx}{e C:ak}{f:jA}{g:aj}(x:Vq B l e (.ref C) f g h):VU UR e C f h:=by
 obtain⟨_,_,_,i,j,T,k,m,⟨a,b,c,d,_⟩,_⟩:=x;exact⟨i,j,a,b,d,c,trivial⟩
section
variable{M:Model}{B:aE}{env:Env}{outer l:jx}{L e:ak}{cls:aj}{od:jA}{Q:Unit->al->Prop}
def Hw{oe:aI}{vs:ju}{first:aj}{nx:Bool}(fr:A.frames=some (env::outer))(ff:s.heap.FunFrames B (env::outer))(eL:env.frame=some L)(ge:s.heap.get? e=some oe)(sb:B.StaysIn s.heap)(eB:B.get? e=none)(dd:oe.data=.fields vs)(two:1<vs.size)(h:∀ h',Vq B (env::outer) e oe.cls oe.dict (rawInt L) h'->s.heap.UpToSlots h'->Q () { s with heap:=h' }):
  aC M A (frameOf env >>= λa=>entryPlaceOf L nx >>= λpl=>EntryCells.newEntry first a .none (rawInt L) .none pl >>= λb=>setField (.ref e) 1 b) Q E s:=by
 have en:e∉(env::outer).filterMap (·.frame):=λz=>by
  obtain⟨_,o,g1,g2⟩:=ff.mem z;rw[ge] at g1;cases g1;exact g2 vs dd
 refine aa (wpAny_frameOf_fun fr ff eL λh1 k1=>aa (wpAny_entryPlaceOf λpl kp=>?_));unfold EntryCells.newEntry newFields;refine aa (wpAny_newObj_type ?_ (kp.sizeOk5 _ _ _ _ _));have t3:([first,Value.ref L,.none,rawInt L,.none]++(if pl.isEmpty then xK 6 Value.none else pl)).toArray[3]? = some (rawInt L):=by
  first | (simp;done) | (rcases kp with rfl | ⟨_,_,_,_,_,_,_,rfl⟩ <;> simp)
 generalize ([first,Value.ref L,.none,rawInt L,.none]++(if pl.isEmpty then xK 6 Value.none else pl)).toArray=ts at t3⊢;have g1:h1.get? e=some oe:=(k1.2.1 e en).trans ge;have sb1:B.StaysIn h1:=λb o q=>(k1.2.1 b λz=>by rw[(ff.mem z).1] at q;cases q).trans (sb b o q)
 have eT:h1.objs.size≠e:=λz=>vW _ (by have:=zN g1;rw[<-z] at this;exact this)
 have g2:=zO (h:=h1) ({ cls:=.type "traceback",dict:=none,data:=.fields ts }:aI) g1;have d3:=Obj.data_mapFields dd (·.setIfInBounds 1 (Value.ref h1.objs.size));have g3:=vM (Obj.mapFields (·.setIfInBounds 1 (Value.ref h1.objs.size))) g2 (Obj.isFreed_of_fields d3);have gT:=(vA (h1.push ({ cls:=.type "traceback",dict:=none,data:=.fields ts }:aI)) (Obj.mapFields (·.setIfInBounds 1 (Value.ref h1.objs.size))) eT.symm).trans (yO h1 rfl);have stay:∀ b o,b≠e->h1.get? b=some o->((h1.push ({ cls:=.type "traceback",dict:=none,data:=.fields ts }:aI)).update e (Obj.mapFields (·.setIfInBounds 1 (Value.ref h1.objs.size)))).get? b=some o:=λb o n q=>
  (vA _ _ n.symm).trans (zO _ q)
 have notE:∀ b o,s.heap.get? b=some o->(∀ ws,o.data≠.fields ws)->b≠e:=λb o q nf z=>by
  rw[z,ge] at q;cases q;exact nf vs dd
 refine wpAny_setField g2 dd two (h _ ⟨λb o q=>stay b o (λz=>by rw[z,eB] at q;cases q) (sb1 b o q),eB,ff.of_keeps λb o q nf=>?_,_,_,h1.objs.size,_,_,⟨g3,Obj.cls_mapFields _ _,ZJ1 _ _,d3,by simp[two]⟩,sb1.fresh,eT,gT,rfl,t3⟩ λb o q nf=>?_)
 ·obtain⟨sl,z⟩:=k1.2.2 b o q;exact⟨_,stay b _ (notE b o q nf) z,rfl⟩
 ·obtain⟨sl,z⟩:=k1.2.2 b o q;exact⟨sl,stay b _ (notE b o q nf) z⟩
def LM{D:aj}(x:Vq B l e cls od D s.heap)(h:∀ j,Vq B l e cls od .none j->s.heap.UpToSlots j->Q () { s with heap:=j }):aC M A (setFlight (.ref e) none) Q E s:=by
 obtain⟨G,y,C,F,I,T,K,t,⟨p,v,w,m,u⟩,TB,k,i,g,H⟩:=x;have r:3<t.size:=(vV.mp H).1;have a:∀ b,b≠T->(s.heap.update T (Obj.mapFields (·.setIfInBounds 3 ((none:jA).elim Value.none λf=>rawInt f)))).get? b=s.heap.get? b:=λb n=>vA _ _ n.symm;have c:∀ b o,s.heap.get? b=some o->(∀ J,o.data≠.fields J)->b≠T:=λb o q d z=>by
  rw[z,i] at q;cases q;exact d t g
 unfold setFlight;refine aa (wpAny_field p m u ?_);rw[aO (show (Value.ref T != Value.none)=true by simp)]
 refine wpAny_setField i g r (h _ ⟨λb o q=>(a b λz=>by rw[z,TB] at q;cases q).trans (G b o q),y,C.of_keeps λb o q d=>⟨o,(a b (c b o q d)).trans q,rfl⟩,?_⟩ λb o q d=>⟨o.slots,(a b (c b o q d)).trans q⟩)
 exact⟨F,I,T,_,_,⟨(a e k.symm).trans p,v,w,m,u⟩,TB,k,vM _ i (Obj.isFreed_of_fields (Obj.data_mapFields g _)),Obj.data_mapFields g _,by simp[r]⟩
def BE{a:aI}{i:ju}(m:A.frames=some (env::outer))(k:s.heap.FunFrames B (env::outer))(d:env.frame=some L)(f:s.heap.get? e=some a)(n:B.StaysIn s.heap)(j:B.get? e=none)(c:a.data=.fields i)(g:i[1]? = some .none)(h:∀ b,Vq B (env::outer) e a.cls a.dict (rawInt L) b->s.heap.UpToSlots b->Q () { s with heap:=b }):aC M A (noteFrame (.ref e) env) Q E s:=by
 unfold noteFrame;simp only[d];refine aa (wpAny_field f c g ?_);rw[aM (by decide)]
 exact Hw m k d f n j c (vV.mp g).1 h
def GC(F:A.frames=some (env::outer))(k:env.frame=some L)(x:Vq B (env::outer) e cls od .none s.heap)(h:∀ f,Vq B (env::outer) e cls od (rawInt L) f->s.heap.UpToSlots f->Q () { s with heap:=f }):
  aC M A (noteFrame (.ref e) env) Q E s:=by
 obtain⟨H,y,D,N,O,T,K,r,⟨m,v,w,j,t⟩,TB,u,i,g,p⟩:=x;subst v w;have G:3<r.size:=(vV.mp p).1;have a:∀ b,b≠T->(s.heap.update T (Obj.mapFields (·.setIfInBounds 3 Value.none))).get? b=s.heap.get? b:=λb n=>vA _ _ n.symm;have c:∀ b o,s.heap.get? b=some o->(∀ J,o.data≠.fields J)->b≠T:=λb o q d z=>by
  rw[z,i] at q;cases q;exact d r g
 unfold noteFrame;simp only[k];refine aa (wpAny_field m j t ?_);rw[aO (show (Value.ref T != Value.none)=true by simp)]
 refine aa (wpAny_field i g p ?_);rw[aM (show ¬ ((Value.none==rawInt L)=true) by simp[rawInt])]
 refine aa (wpAny_setField i g G ?_);refine Hw (s:={ s with heap:=_ }) F (D.of_keeps λb o q d=>⟨o,(a b (c b o q d)).trans q,rfl⟩) k ((a e u.symm).trans m) (λb o q=>(a b λz=>by rw[z,TB] at q;cases q).trans (H b o q)) y j (vV.mp t).1 λf C I=>h f C λb o q d=>?_
 exact I b o ((a b (c b o q d)).trans q) d
def Vq.less{f:aj}{h:aE}(x:Vq B (env::outer) e cls od f h):Vq B outer e cls od f h:=by
 obtain⟨a,b,⟨_,_,c⟩,d⟩:=x;exact⟨a,b,c,d⟩
def ZIc(f:A.frames=some (env::outer))(b:env.frame=some L)(x:Vq B (env::outer) e cls od .none s.heap)(h:∀ a,Vq B outer e cls od .none a->s.heap.UpToSlots a->Q () { s with heap:=a }):aC M A (leaving env (.ref e)) Q E s:=by
 unfold leaving;exact aa (GC f b x λg c j=>LM (s:={ s with heap:=g }) c λi d k=>h i d.less (j.trans k))
def ZID{a:aI}{c:ju}(m:A.frames=some (env::outer))(k:s.heap.FunFrames B (env::outer))(g:env.frame=some L)(n:s.heap.get? e=some a)(q:B.StaysIn s.heap)(f:B.get? e=none)(d:a.data=.fields c)(u:c[1]? = some .none)(h:∀ b,Vq B outer e a.cls a.dict .none b->s.heap.UpToSlots b->Q () { s with heap:=b }):aC M A (leaving env (.ref e)) Q E s:=by
 unfold leaving;exact aa (BE m k g n q f d u λo i r=>LM (s:={ s with heap:=o }) i λp j t=>h p j.less (r.trans t))
end
def G6{a:am}{w:ax}{A:ay}{E:ja}{s:al}{c:Env}{K:zZ}{C:ak}{x:Sem aj}{Q:Flow->al->Prop}(F:A.handled=none)(H:yI K C (.type "BaseException")=some true)(G:xN K (.ref C)=some (.type "type"))(h:aC (aB a w) A x (λv b=>∃ e q,v=.ref e/\K.In b.heap/\VU Pg e C q b.heap/\E (.ref e) b) E s):aC (aB a w) A (raiseStmt c (some x) none) Q E s:=by
 unfold raiseStmt;refine aa (ae h (λv b B=>?_) λ_ _ z=>z);obtain⟨e,q,rfl,k,⟨⟨L,i,I,j⟩,r,o,l,m,n,J⟩,D⟩:=B;dsimp only at l m n;subst l m n;obtain⟨p,g,d,O,N⟩:=b;have t:yF (aB a w) p (typeOf (.ref e)) (.ref C):=WD.ty ⟨_,o,rfl⟩ _;have u:=sS (M:=aB a w) k H;have y:=zEB (M:=aB a w) k G;have f:p.get? e=some ⟨.ref C,i,.fields r,j⟩:=o;unfold excFromValue isExcClass isInstance isType raisedInstance setFlight
 repeat (first | with_reducible refine wpAny_loadPart_at f ?_ | with_reducible refine u.at ?_ | with_reducible refine t.at ?_ | with_reducible refine y.at ?_ | wp_step)
 rw[show r[1]? = some Value.none from J]
 repeat wp_step
 all_goals first | exact wpAny_raiseNew_none F D | trace_state
structure QL(P:am)(w:ax)(outer:jx)(H:Hp)(s:al)(ea:ak)(cls:aj)(od:jA)(H':Hp)(s':al):Prop where
 ex:∃ B:aE,Vq B outer ea cls od .none s'.heap/\(∀ b o,s'.heap.get? b=some o->H' b≠none->B.get? b=some o)/\(∀ b o,s.heap.get? b=some o->H b=none->b∉frs outer->B.get? b=some o)/\(∀ b o,s.heap.get? b=some o->b∉frs outer->∃ o',B.get? b=some o')
 os:s'.os=s.os
 bare:AllBare s'.gens
 un:Un (frs outer) [] H H' s.heap s'.heap
 hok:Yv P w H' s'.heap
 new:s.heap.get? ea=none
 free:H' ea=none
def XF(P:am)(w:ax):Wg:=λa H s E e f=>∃ c cls d b,e=.ref c/\QL P w a H s c cls d b f/\E cls d b
structure UV(X:Cx)(E:XK):Prop where
 stack:X.stack=X.env::X.outer
 frame:X.env.frame=some X.env.locals
 ex:X.ex=[]
 calm:X.calm=true
 xe:∀ e s',aC (aB X.prog X.w) X.A (leaving X.env e) (λ_ s''=>XF X.prog X.w X.outer X.H₀ X.s₀ E e s'') (λe' s''=>XF X.prog X.w X.outer X.H₀ X.s₀ E e' s'') s'->X.xe e s'
def VI{P:am}{w:ax}{K:zZ}{g:jc}{c:aE}{N:jr}{d:Str}{b:aF}{f:ak}{e:aj}{A:ay}{a:jx}{s:al}{H:Hp}{E:XK}:
  UV (WZ (XF P w) P w K g c N d b f e A a s H E) E:=⟨rfl,rfl,rfl,rfl,λ_ _ h=>h⟩
section
variable{kj:js}{σ:St}{H H':Hp}{s':al}{E:XK}
def UV.frs(F:UV X E):frs X.stack=X.env.locals::X.fs:=by
 rw[F.stack];show List.filterMap _ (X.env::X.outer)=_;rw[vN,F.frame];rfl
def UV.off(F:UV X E)(I:ZF X kj σ H s){b:ak}{o:aI}(q:X.s₀.heap.get? b=some o)(n:b∉L2.frs X.outer):b∉L2.frs X.stack:=λz=>by
 rw[F.frs] at z;rcases zF.mp z with z | z
 ·rw[z,I.noloc] at q;cases q
 ·exact n z
def UV.on(F:UV X E){b:ak}(n:b∈L2.frs X.outer):b∈L2.frs X.stack:=by
 rw[F.frs];exact zI _ n
def AA{B h:aE}{g:ak}(F:UV X E)(J:ZF X kj σ H s)(r:B.StaysIn h)(d:∀ b o,b≠g->s.heap.get? b=some o->b∉L2.frs X.stack->B.get? b=some o)(p:s.heap.UpToSlots h)(i:X.s₀.heap.get? g=none):
  Un (L2.frs X.outer) [] X.H₀ H X.s₀.heap h:=by
 have c:=J.base;rw[F.ex] at c;have l:∀{b:ak}{o:aI},X.s₀.heap.get? b=some o->b≠g:=λq z=>by rw[z,i] at q;cases q
 have m:∀{b:ak}{o:aI},b∈L2.frs X.stack->s.heap.get? b=some o->∀ v,o.data≠.fields v:=λa q=>JK J _ a _ q;refine⟨λb o q n a _=>r b o (d b o (l q) (c.keep b o q n a (by simp)) (F.off J q a)),λb o q n a _=>?_,c.free,λb o q _=>?_,c.tups,c.frzs,c.tbls⟩
 ·obtain⟨u,e⟩:=c.slot b o q n a (by simp)
  obtain⟨k,t⟩:=p b _ e (m (F.on a) e);exact⟨k,t⟩
 ·obtain⟨f,j⟩:=c.there b o q (by simp)
  by_cases a:b∈L2.frs X.stack
  ·obtain⟨u,e⟩:=p b f j (m a j);exact⟨_,e⟩
  ·exact⟨f,r b f (d b f (l q) j a)⟩
def ZF.untrack{a:ak}{g:aE->Prop}(I:ZF X kj σ (upd H a (.ext g)) s)(l:H a=none):ZF X kj σ H s:=by
 have v:∀{b:ak}{u:HO},H b=some u->b≠a:=fun{b u} e z=>by rw[z,l] at e;cases e
 have h:∀{b:ak},upd H a (.ext g) b=none->H b=none:=fun{b} e=>by
  by_cases z:b=a
  ·rw[z];exact l
  ·rw[ZS z] at e;exact e
 have d:∀{b:ak}{u:HO},upd H a (.ext g) b=some u->(∀ y,u≠.ext y)->H b=some u:=fun{b u} e k=>by
  by_cases z:b=a
  ·rw[z,ZM] at e;exact absurd (zG.inj e).symm (k g)
  ·rw[ZS z] at e;exact e
 refine⟨I.ok,I.os,I.bare,⟨I.base.keep,I.base.slot,λb j q n t=>h (I.base.free b j q n t),I.base.there,λb m q=>d (I.base.tups b m q) (λ_ z=>nomatch z),λb j u q=>d (I.base.frzs b j u q) (λ_ z=>nomatch z),λb w q=>?_⟩,I.loc,I.cell,h I.free,λx c e=>h (I.freeC x c e),λp i=>?_,λb u e=>?_,I.len⟩
 ·obtain⟨f,e⟩:=I.base.tbls b w q;exact⟨f,d e (λ_ z=>nomatch z)⟩
 ·obtain⟨e,n,r⟩:=I.pin p i;exact⟨e,h n,r⟩
 ·have o:upd H a (.ext g) b=some u:=by rw[ZS (v e)];exact e
  exact(I.hok b u o).stay (λ_ _ _ q=>q) (λc q=>d q (λ_ z=>nomatch z)) λc m q=>d q (λ_ z=>nomatch z)
def Gn{c C:ak}{k:jA}(F:UV X E)(J:ZF X kj σ H s)(e:X.s₀.heap.get? c=none)(m:H c=none)(K:VU Pg c C k s.heap)(D:E (.ref C) k H):X.xe (.ref c) s:=by
 obtain⟨O,P,y,r,t,u,N⟩:=K;have x:X.A.frames=some (X.env::X.outer):=by rw[J.ok.frames,F.stack]
 have w:s.heap.FunFrames (uN s.heap (c::L2.frs X.stack)) (X.env::X.outer):=by
  have:=PySem.W.funFrames_hide (as:=c::L2.frs X.stack) J.stack (λj I a G=>zI _ (sV.mpr ⟨j,I,G⟩));rw[F.stack] at this⊢;exact this
 have d:∀ b o,b≠c->s.heap.get? b=some o->b∉L2.frs X.stack->(uN s.heap (c::L2.frs X.stack)).get? b=some o:=λb o n q f=>zEG _ q (λz=>by
  rcases zF.mp z with z | z
  ·exact n z
  ·exact f z)
 have inT:∀ b o,s.heap.get? b=some o->H b≠none->(uN s.heap (c::L2.frs X.stack)).get? b=some o:=λb o q n=>d b o (λz=>n (by rw[z];exact m)) q λz=>n (J.stkFree b z)
 have v:(uN s.heap (c::L2.frs X.stack)).get? c=none:=zEC _ (by simp)
 refine F.xe _ _ (ZID x w F.frame y (λb o q=>zEO _ q) v t N λB h M=>?_);rw[r,u] at h;refine⟨c,_,k,H,rfl,⟨⟨_,h,λb o q n=>?_,λb o q n f=>?_,λb o q f=>?_⟩,J.os,J.bare,AA F J h.1 d M e,J.hok.keptT λb o q n=>h.1 b o (inT b o q n),e,m⟩,D⟩
 ·obtain⟨g,i⟩:=J.hok.there n;have L:=h.1 b g (inT b g i n);have p:B.get? b=some o:=q;rw[L] at p;rw[<-zG.inj p];exact inT b g i n
 ·have l:=J.base;rw[F.ex] at l;exact d b o (λz=>by rw[z,e] at q;cases q) (l.keep b o q n f (by simp)) (F.off J q f)
 ·obtain⟨g,i⟩:=J.base.there b o q (by rw[F.ex];simp)
  exact⟨g,d b g (λz=>by rw[z,e] at q;cases q) i (F.off J q f)⟩
def NN{D:XK}(F:UV X E)(O:∀ cls o H,D cls o H->E cls o H):Ut (XF X.prog X.w) X D:=by
 intro kj σ H s e s' I h;obtain⟨t,cls,S,H',rfl,W,q⟩:=h;obtain⟨B,M,inT,x,m⟩:=W.ex;have N:X.A.frames=some (X.env::X.outer):=by rw[I.ok.frames,F.stack]
 refine F.xe _ _ (ZIc N F.frame (by rw[<-F.stack];exact M) λv f V=>?_)
 have c:=I.base;rw[F.ex] at c;have R:∀{b:ak}{o:aI},b∈L2.frs X.stack->s.heap.get? b=some o->∀ C,o.data≠.fields C:=λa q=>JK I _ a _ q;have p:∀ b o,X.s₀.heap.get? b=some o->X.H₀ b=none->b∉L2.frs X.outer->B.get? b=some o:=λb o q n a=>x b o (c.keep b o q n a (by simp)) (c.free b o q n (by simp)) (F.off I q a)
 have i:∀ b o,s.heap.get? b=some o->b∈L2.frs X.stack->∃ r,v.get? b=some { o with slots:=r }:=λb o q a=>by
  obtain⟨r,j⟩:=W.un.slot b o q (I.stkFree b a) a (by simp)
  obtain⟨i,l⟩:=V b _ j (λC z=>R a q C z);exact⟨i,l⟩
 have u:Un (L2.frs X.outer) [] X.H₀ H' X.s₀.heap v:=by
  refine⟨λb o q n a _=>f.1 b o (p b o q n a),λb o q n a _=>?_,λb o q n _=>?_,λb o q _=>?_,λb K q=>W.un.tups b K (c.tups b K q),λb o u q=>W.un.frzs b o u (c.frzs b o u q),λb T q=>?_⟩
  ·obtain⟨r,j⟩:=c.slot b o q n a (by simp)
   obtain⟨y,L⟩:=i b _ j (F.on a);exact⟨y,L⟩
  ·obtain⟨g,d⟩:=c.there b o q (by simp)
   exact W.un.free b g d (c.free b o q n (by simp)) (by simp)
  ·obtain⟨g,d⟩:=c.there b o q (by simp)
   by_cases a:b∈L2.frs X.stack
   ·obtain⟨r,j⟩:=i b g d a;exact⟨_,j⟩
   ·obtain⟨G,l⟩:=m b g d a;exact⟨G,f.1 b G l⟩
  ·obtain⟨P,j⟩:=c.tbls b T q;obtain⟨Q,l⟩:=W.un.tbls b _ j;exact⟨P++Q,by rw[l,Array.append_assoc]⟩
 refine⟨t,cls,S,H',rfl,⟨⟨B,f,λb o k n=>?_,p,λb o k a=>?_⟩,W.os.trans I.os,W.bare,u,W.hok.keptT λb o k n=>f.1 b o (inT b o k n),?_,W.free⟩,O _ _ _ q⟩
 ·obtain⟨g,d⟩:=W.hok.there n;have U:=f.1 b g (inT b g d n);have J:v.get? b=some o:=k;rw[U] at J;rw[<-zG.inj J];exact inT b g d n
 ·obtain⟨g,d⟩:=c.there b o k (by simp)
  exact m b g d (F.off I k a)
 ·cases z:X.s₀.heap.get? t with
  | none=>rfl
  | some o=>
   obtain⟨g,d⟩:=c.there t o z (by simp)
   rw[W.new] at d;cases d
inductive QD(C:ak)(f:Str)(E:XK)(c:jf)(b:Hp):Prop
 |mk(y:_)(_:c=[y])(_:∀ a,b a=none->E (.ref C) (some a) (upd b a (.xd [(f,y)])))
def GW(C:ak)(f:Str)(E:XK)(t:TA):TS:=λ_ σ H=>t σ H λb a=>QD C f E b a
def ZKp{k:Nat}{C N:ak}{f x:Str}{Y:ao}{Q:jr}{e:Expr}{n:jB}{t:TA}{p g pos:Pos}(F:UV X E)(c:Wy X.K C N f)(ht:xN X.K (.ref C)=some (.type "type"))(T:ZI X.prog X.w X.K X.mg X.base ZZ k N Y Q (LF X.K C N f))(hr:ZT (k+1) X.A)(hg:Gl X x)(hm:X.mg x=some (.ref C))(hb:Zt X.K Y Q [])(ha:PA X (e::n) t)(O:(x==("__debug__" : Str))=false:=by decide)(he:aw (e::n) X.env=(false,aH e X.env)::aw n X.env:=by rfl)(P:(aG g (aw n X.env)).any (·.1)=false:=by rfl):
  PS X (.Raise (some (.Call (.Name x p) (e::n) [] g)) none pos) (GW C f E t):=by
 intro kj s σ H D I h;have hh:=I.ok.hd F.calm;rw[arm_exec_Raise];refine aa (ah ?_);refine G6 hh c.exc.mB ht (aa (ae ?_ (λv s3 h3=>aa (ah (ad h3))) λ_ _ z=>z));refine ag (P5 I hg hm ?_ O);refine uF (h₀:=X.base) I.ok.mod.kin c.kp (Zz (ha g kj s σ H _ I h) λus d ⟨vs,l,m,r,y,ey,q⟩=>⟨m.kIn,?_⟩) he P;subst ey;obtain⟨u,rfl,R⟩:∃ u,us=[u]/\ZQ y u:=by
  cases r with
  | cons R r0=>cases r0;exact⟨_,rfl,R⟩
 refine ZLx m.kIn c (by show 1<=ar;rw[sizeLine_eq];lia) ?_
 have kk:∀ b o,d.heap.get? b=some o->(PH d.heap C [u]).get? b=some o:=λb o q=>zO _ (zO _ q);have e1:(PH d.heap C [u]).get? (d.heap.objs.size+1)=some { cls:=.ref C,data:=.fields #[.ref d.heap.objs.size,.none,.none,.none,.bool false,.none] }:=by heap_get
 have U:d.heap.get? (d.heap.objs.size+1)=none:=uA (wG _);have h0:l (d.heap.objs.size+1)=none:=m.hok.fresh (wG _);have L:X.s₀.heap.get? (d.heap.objs.size+1)=none:=by
  cases z:X.s₀.heap.get? (d.heap.objs.size+1) with
  | none=>rfl
  | some o=>
   obtain⟨o',q'⟩:=m.base.there _ o z (by rw[F.ex];simp)
   rw[U] at q';cases q'
 have J:=m.newx (C:=C) (ea:=d.heap.objs.size+1) (h':=PH d.heap C [u]) kk U ⟨_,_,e1,rfl,rfl,rfl,rfl⟩;generalize a0:d.heap.objs.size+1=a at *;have r2:ZO [V.ref a,y] [Value.ref a,u]:=.cons rfl (.cons R .nil);have G:LF X.K C N f [V.ref a,y] (upd l a (XO Pg a C none)) (λv H2=>v=.non/\∃ i,H2=upd (upd l i (.xd [(f,y)])) a (XO Pg a C (some i))/\l i=none/\i≠a) E0:=by
  refine⟨c,_,y,rfl,ZM,λi Z B=>⟨rfl,i,?_,?_,B⟩⟩
  ·funext b
   by_cases z:b=a
   ·rw[z,ZM,ZM]
   ·rw[ZS z,ZS z];by_cases S:b=i
    ·rw[S,ZM,ZM]
    ·rw[ZS S,ZS S,ZS z]
  ·rw[ZS B] at Z;exact Z
 have hl:([Value.ref a,u]++([]:je)).length=Q.length:=by
  have e:=r2.length;rw[T.len _ _ _ _ G] at e;exact e.symm
 refine wpAny_call (codeAny_mono (T.run _ X.stack _ _ ⟨[Value.ref a,u],[]⟩ _ _ _ E0 (hr.make C [u] []) (J.env0.make C [u] []) (hb _ [Value.ref a,u] J.kIn hl) r2 G) λr s' j=>?_)
 cases r with
 | error e=>exact(XJ kj σ _ _ e s' J j)
 | ok fl=>
  cases fl with
  | ret u2=>
   obtain⟨v,H',M,rv,ev,i,eH,nd,ne⟩:=J.after j;subst ev eH;exists rv,a,some i,rfl,M.kIn,(M.hok a _ ZM).1;have hn:upd l i (.xd [(f,y)]) a=none:=by rw[ZS (Ne.symm ne)];exact h0
   exact Gn F (M.untrack hn) L hn (M.hok a _ ZM).1 (q i nd)
  | next=>exact False.elim j
  | brk=>exact False.elim j
  | cont=>exact False.elim j
end
def Fn(K:zZ)(e:ak)(i:Nat)(g:TS)(D:Z8)(h:St):XK:=λcls f d=>∃ C,cls=.ref C/\yI K C (.ref e)=some true/\∀ c,d c=none ->
 g { nx:=λa b=>D.nx (a.set i none) b,rt:=D.rt,bk:=λa b=>D.bk (a.set i none) b,ct:=λa b=>D.ct (a.set i none) b } (h.set i (some (.ref c))) (upd d c (XO UR c C f))
def D9{X:Cx}{d:js}{p:St}{H i:Hp}{s g:al}{t:ak}{u:jA}{B f:aE}{cls:aj}(I:ZF X d p H s)(W:QL X.prog X.w X.stack H s t cls u i g)(inT:∀ b o,g.heap.get? b=some o->i b≠none->B.get? b=some o)(k:∀ b o,s.heap.get? b=some o->H b=none->b∉frs X.stack->B.get? b=some o)(j:∀ b o,s.heap.get? b=some o->b∉frs X.stack->∃ h,B.get? b=some h)(m:B.StaysIn f)(v:g.heap.UpToSlots f):
  ZF X d p i { g with heap:=f }:=by
 have c:∀ b o,s.heap.get? b=some o->b∈frs X.stack->∃ l,f.get? b=some { o with slots:=l }:=λb o q a=>by
  obtain⟨l,e⟩:=W.un.slot b o q (I.stkFree b a) a (by simp)
  obtain⟨c,r⟩:=v b _ e (λx z=>JK I b a o q x z);exact⟨c,r⟩
 refine I.call' (s':={ g with heap:=f }) W.os ⟨λb o q n a _=>m b o (k b o q n a),λb o q n a _=>c b o q a,W.un.free,λb o q _=>?_,W.un.tups,W.un.frzs,W.un.tbls⟩ (W.hok.keptT λb o q n=>m b o (inT b o q n)) W.bare (λb a=>absurd a (by simp))
 by_cases a:b∈frs X.stack
 ·obtain⟨l,e⟩:=c b o q a;exact⟨_,e⟩
 ·obtain⟨h,e⟩:=j b o q a;exact⟨h,m b h e⟩
def Zf.okD{x b:Str}{g:aD}{f:ak}{n:ao}{N l:jr}{k:Nat}{m:Sp}(F:Zf K x b g f n)(S:ZA N l (Zc g))(j:∀ e H Q E,m e H Q E->e.length=l.length)(d:∀ (c:aj) (A:ay) (a:jx) (s:al) (H:Hp) (e:jf) (Q:VK) (E:XK),ZT k (A.deeper (envOfC b (Zc g) s.heap.objs.size f c))->m e H Q E ->
   let X:=(WZ (XF P w) P w K mg km N b (Zc g) f c A a s H E);∃ t,Xh X (WY g) t/\t { nx:=λ_ o=>Q .non o,rt:=Q } (Qg N e) H):ZI P w K mg km (XF P w) (k+1) f n l m:=by
 obtain⟨y,z,kV,p,B,v,c,ct,u,rfl,r,h⟩:=F.ex;exact E4 r h S j λA a s H e Q E q i=>d c A a s H e Q E q i
def Zf.kD{x a:Str}{g:aD}{f:ak}{m:ao}{N j:jr}{k:Nat}{l:Sp}(F:Zf K x a g f m)(S:ZA N j (Zc g))(b:∀ (e:aj) (A:ay) (c:jx) (s:al) (H:Hp) (d:jf) (Q:VK) (E:XK),ZT k (A.deeper (envOfC a (Zc g) s.heap.objs.size f e))->l d H Q E ->
   let X:=(WZ (XF P w) P w K mg km N a (Zc g) f e A c s H E);∃ t,Xh X (WY g) t/\t { nx:=λ_ n=>Q .non n,rt:=Q } (Qg N d) H)(i:∀ d H Q E,l d H Q E->d.length=j.length:=by intro d _ _ _ h;cases h;subst d;rfl):ZI P w K mg km (XF P w) (k+1) f m j l:=F.okD S i b
inductive Ug(a:zZ)(x y:V)(H:Hp)(Q:VK):Prop
 |mk(p b c:_)(_:x=.ref p)(_:y=.ref b)(_:ZG a H p c)(_:ZG a H b [])(_:Q (.bl (!c.isEmpty)) H)
def NU(f:X.A.units<cLine):Yd X (aA .NotEq) (Ug X.K):=by
 intro l s J H x y v u Q I C D h;obtain⟨p,b,E,rfl,rfl,c,o,q⟩:=h;cases C;cases D;obtain⟨d,z,i,F⟩:=I.list c;obtain⟨a,B,k,G⟩:=I.list o;have g:=z.length;have t:=B.length;have n:a=[]:=tT (by rw[<-t];rfl)
 subst n
 cases E with
 | nil=>
  have m:d=[]:=tT (by rw[<-g];rfl)
  subst m;exact PySem.SeqAt.RcNeAt.lists (e:=λ_=>true) i.isList k.isList rfl f (λj c _=>absurd c (by simp)) X.prog X.w X.xe _ (Yt I q (by simp))
 | cons x r=>exact PySem.SeqAt.RcNeAt.lists_lengths i.isList k.isList (by simp;intro e;subst e;simp at g) f X.prog X.w X.xe _ (Yt I q rfl)
end L2
namespace Tw
open PySem PySem.Spec L2
variable{kh ki CS CT CH CK CP CB:ak}
def Zq(i:Nat):Stmt:=PySem.Challenge.pw_twigmap_k32_values_and_rows.main.body.getD i (.Pass ⟨0,0,0,0⟩)
abbrev Jz:Stmt:=Zq 13
abbrev Lc:Stmt:=Zq 14
abbrev Mp:Stmt:=Zq 15
abbrev Ib:Stmt:=Zq 16
abbrev JU:Stmt:=Zq 17
abbrev Kz:Stmt:=Zq 18
abbrev Hj:Stmt:=Zq 19
abbrev Ls:Stmt:=Zq 20
abbrev KP:Stmt:=Zq 30
abbrev HF:Stmt:=Zq 31
abbrev JC:Stmt:=Zq 32
abbrev Jg:Stmt:=Zq 33
abbrev Jx:Stmt:=Zq 34
abbrev K8:Stmt:=Zq 35
abbrev IM:Stmt:=Zq 37
abbrev HB:Stmt:=Zq 38
abbrev JL:Stmt:=Zq 39
abbrev Kx:Stmt:=Zq 40
abbrev Lx:Stmt:=Zq 41
abbrev Jh:Stmt:=Zq 42
abbrev Ky:Stmt:=Zq 43
abbrev Kl:Stmt:=Zq 44
abbrev Km:Stmt:=Zq 45
abbrev Ij:Stmt:=Zq 46
abbrev Nm:Stmt:=Zq 47
abbrev Im:Stmt:=Zq 50
abbrev IR:Stmt:=Zq 52
abbrev KR:Stmt:=Zq 53
abbrev JD:Stmt:=Zq 54
abbrev KQ:Stmt:=Zq 55
abbrev LN:Stmt:=Zq 56
abbrev Lm:Stmt:=Zq 57
abbrev Iy:Stmt:=Zq 58
abbrev Iv:Stmt:=Zq 59
abbrev Ny:Stmt:=Zq 60
abbrev Qw:Stmt:=Zq 61
abbrev Jy:Stmt:=Zq 62
abbrev Mq:Stmt:=Zq 63
abbrev IS:Stmt:=Zq 64
abbrev Hd:Stmt:=Zq 65
abbrev ID:Stmt:=Zq 66
abbrev Ki:Stmt:=Zq 67
abbrev IG:Stmt:=Zq 68
abbrev JE:Stmt:=Zq 69
abbrev Kh:Stmt:=Zq 70
abbrev II:Stmt:=Zq 71
abbrev HY:Stmt:=Zq 72
abbrev Kv:Stmt:=Zq 73
abbrev K9:Stmt:=Zq 74
abbrev Id:Stmt:=Zq 75
abbrev JA:Stmt:=Zq 76
abbrev HG:Stmt:=Zq 77
abbrev Kc:Stmt:=Zq 78
abbrev OY:Stmt:=Zq 79
abbrev UH:Stmt:=Zq 80
structure YA(mg:jc):Prop where
 isi:mg "isinstance" = none
 bool:mg "bool" = none
 int:mg "int" = none
 str:mg "str" = none
 tuple:mg "tuple" = none
 list:mg "list" = none
 len:mg "len" = none
 all:mg "all" = none
 abs:mg "abs" = none
 max:mg "max" = none
 min:mg "min" = none
 range:mg "range" = none
 sorted:mg "sorted" = none
 ValueError:mg "ValueError" = none
 sum:mg "sum" = none
 set:mg "set" = none
 signs:∃ t,mg "MOST_SIGNS" = some (.int 40 t)
 things:∃ t,mg "MOST_THINGS" = some (.int 4 t)
 deep:∃ t,mg "MOST_DEEP" = some (.int 3 t)
 rows:∃ t,mg "MOST_ROWS" = some (.int 4 t)
 few:∃ t,mg "FEWEST_BRANCHES" = some (.int 2 t)
 most:∃ t,mg "MOST_BRANCHES" = some (.int 4 t)
 height:∃ t,mg "HEIGHT" = some (.int 0 t)
 least:∃ t,mg "LEAST" = some (.int 1 t)
 greatest:∃ t,mg "GREATEST" = some (.int 2 t)
 many:∃ t,mg "MANY" = some (.int 3 t)
def QU:ZA ["_law_well_here","_law_many","_law_found","_law_first","_law_second"] zEb (Zc KR):=Zr
def AC(F:Zf K "_law_pull" "_law_pull" KR f fd):ZI P w K mg km ZZ 1 f fd zEb Zs:=by
 refine F.ok QU (λz H Q E h=>?_) (λy A q s H z Q E G h=>?_)
 ·obtain⟨p,m,rfl,_⟩:=h;rfl
 obtain⟨p,m,rfl,W,⟨g,l⟩,k⟩:=h;obtain⟨a,b,c,d,n,i,j,r,D⟩:=W.ex;have o:=QU.nd;intro B;refine⟨_,ZN (Zv (Yc VH (Vu Zp (pv 0) ZJ (λ_ _=>rfl)) ZJ (Z9 _)) (ZR (Zd ZJ)) Zy)
  (ZN (OC (Zx Up (Vu Zp (pv 0) ZJ (λ_ _=>rfl)) ZJ) (Ic (pv 0) ZJ HI))
  (ZN (Zv (Yc OD (Vu Zp (pv 0) ZJ (λ_ _=>rfl)) ZJ (Z9 _))
   (ZN (Zi 2 o (Zx Ps (Vu Zp (pv 0) ZJ (λ_ _=>rfl)) (pv 1)))
   (ZN (OC (Zx BN (Vu Zp (pv 0) ZJ (λ_ _=>rfl)) (pv 1)) (Ic (pv 0) ZJ HI))
   (ZR (Zd (pv 2))))) Zy)
  (ZN (OC (Zx WW (Vu Zp (pv 0) ZJ (λ_ _=>rfl)) ZJ) (Ic (pv 0) ZJ HI))
  (ZN (Zi 3 o (Zx Ps (Zx Oc (Zx WW (Vu Zp (pv 0) ZJ (λ_ _=>rfl)) ZJ) (Zx WW ZJ (Zx Oc ZJ (Vu Zp (pv 0) ZJ (λ_ _=>rfl))))) ZJ))
  (ZN (Zi 4 o (Zx Ps (Zx Oc (Zx WW (Zx Lh (pv 3) ZJ) ZJ) (Zx WW (Zx Ps (pv 3) ZJ) ZJ)) ZJ))
  (ZR (Zd (Zx Ps (Zx Lh (pv 4) ZJ) (pv 1))))))))),?_⟩
 exists _,rfl,p,_,_,_,rfl,rfl,ZG.of n,rfl,rfl,_,rfl;refine Xw (λ_=>?_) (λu=>?_)
 ·exact k 0 H (wR 0) g W (ZE.refl p H)
 have C:d≠0:=λe=>u (aK (by rw[e]))
 exists _,rfl,p,_,_,_,rfl,rfl,ZG.of n,rfl,_,_,rfl,rfl,_,rfl,p,_,_,_,rfl,rfl,n,rfl;exists _,rfl,p,_,_,_,rfl,rfl,ZG.of ZM,rfl,_,_,rfl,rfl,_,rfl;refine Xw (λv=>?_) (λv=>?_)
 ·exists _,rfl,p,_,_,_,rfl,rfl,ZG.of ZM,rfl,_,rfl,_,_,rfl,rfl,g;exists _,rfl,p,_,_,_,rfl,rfl,ZG.of ZM,rfl,_,rfl,_,_,rfl,rfl,⟨g,l⟩,_,rfl,p,_,_,_,rfl,rfl,ZM,rfl;exists _,rfl;refine k (c % m) _ (vF _ ∅) (uW _ g) ⟨a,b,c / m,d-1,ZM,i,j,Int.ediv_nonneg r ∅,∅⟩ (ZE.refl p H).upd.upd
 ·exists _,rfl,p,_,_,_,rfl,rfl,ZG.of ZM,rfl,_,_,rfl,rfl,_,rfl,p,_,_,_,rfl,rfl,ZM,rfl;exists _,rfl,p,_,_,_,rfl,rfl,ZG.of ZM,rfl,_,_,rfl,rfl,_,rfl,p,_,_,_,rfl,rfl,ZG.of ZM,rfl,_,_,rfl,rfl,.inl ⟨by decide,by decide⟩,_,_,rfl,rfl,_,_,rfl,rfl,.inl ⟨∅,∅⟩,_,_,rfl,rfl,(by show (0:Int)<2147483629;decide)
  generalize t:(a+1) * (48271+7919 * (b+1)) % 2147483629=x;have I:0<=x:=by rw[<-t];exact vF _ (by decide)
  have J:x<2147483629:=by rw[<-t];exact uW _ (by decide)
  exists _,rfl,_,_,rfl,rfl,⟨by decide,by decide⟩,_,_,rfl,rfl,_,rfl,_,_,rfl,rfl,(by show (0:Int)<1009;decide),_,_,rfl,rfl,_,_,rfl,rfl,.inl ⟨∅,∅⟩,_,_,rfl,rfl,(by show (0:Int)<1000000007;decide)
  exists _,rfl,_,_,rfl,rfl,⟨by decide,by decide⟩,_,rfl,_,_,rfl,rfl,g
  exact k _ _ (vF _ ∅) (uW _ g) ⟨a,b+1,c,d-1,ZM,i,j,r,∅⟩ (ZE.refl p H).upd.upd
def US:ZA ["_law_well_here","_law_bound","_law_found","_law_j"] zEr (Zc JD):=Zr
def ZLw(F:Zf K "_law_great" "_law_great" JD f fd)(T:YA mg)(v:ZB P w K mg km 1 "_law_pull" zEb Zs):ZI P w K mg km ZZ 2 f fd zEr Zs:=by
 refine F.ok US (λG H Q E h=>?_) (λB A q s H G Q E x h=>?_)
 ·obtain⟨p,m,rfl,_⟩:=h;rfl
 obtain⟨p,m,rfl,W,g,k⟩:=h;obtain⟨a,b,c,d,C,_⟩:=W.ex;have o:=US.nd;intro J;refine⟨_,ZN (Zv (Yc OD (Vu Zp (pv 0) ZJ (λ_ _=>rfl)) ZJ (Z9 _)) (ZR (Zd (Zg v x (ZW (pv 0) (ZW (pv 1) Zj))))) Zy)
  (ZN (Zi 2 o ZJ)
  (ZN (Vo PassesOwn.never rfl (P4 rfl T.range (ZW ZJ Zj)) (Xe 3 o)
   (ZR (Zi 2 o (Zx WW (Zx Oc (pv 2) ZJ) (Zg v x (ZW (pv 0) (ZW ZJ Zj)))))))
  (ZR (Zd (Zx Ps (pv 2) (pv 1)))))),?_⟩
 exists _,rfl,p,_,_,_,rfl,rfl,ZG.of C,rfl,_,_,rfl,rfl,_,rfl;refine Xw (λ_=>?_) (λ_=>?_)
 ·exact⟨_,rfl,_,rfl,p,m,rfl,W,g,k⟩
 refine⟨8,rfl,by decide,by decide,O7 (n:=8) (λi u e=>∃(z:Int)(j:jg),u=[some (.ref p),some (.int m),some (.int z),j]/\ZH e p/\ZE p H e) ⟨0,none,rfl,W,ZE.refl p H⟩ ?_ ?_⟩
 ·rintro i u e L ⟨z,j,rfl,l,t⟩;exists _,rfl,_,_,rfl,rfl,.inr ⟨by decide,by decide⟩,_,rfl,p,62500000,rfl,l,Xn (by decide) (by decide)
  intro r I _ _ y D;exact⟨_,_,rfl,rfl,_,_,rfl,y,t.trans D⟩
 ·rintro u e ⟨z,j,rfl,l,t⟩;exists _,rfl,_,rfl,_,_,rfl,rfl,g.1;exact k _ _ (vF _ (by have:=g.1;lia)) (uW _ g.1) l t
def YW:Str:= " \"\\~!#$&'()*+,-./0123456789:;<=>?@ABCDEFGHIJKLMNOPQRSTUVWXYZ[]^_`abcdefghijklmnopqrstuvwxyz{|}"
def ZJo:YW.cps.toList.length=94:=by decide +kernel
def Cb:YW.length=94:=by decide +kernel
def ZLi:YW.cps.toList.all Us=true:=by decide +kernel
def FX{i:Int}(a:0<=i)(b:i<94):∃ c,Xt YW.cps.toList i=some c/\Us c=true:=by
 obtain⟨c,e,m⟩:=Op (xs:=YW.cps.toList) a (by rw[ZJo];exact b)
 exact⟨c,e,zQ.mp ZLi c m⟩
def X4(x:Str)(i:Nat):Prop:=x.cps.size<=i/\x.cps.toList.all Us=true
def X4.ok{x:Str}{i:Nat}(h:X4 x i)(a:i<=40):U7 x=true:=by
 unfold U7;rw[zR];exact⟨aK (zS h.1 a),h.2⟩
def X4.more{x:Str}{i c:Nat}(h:X4 x i)(a:Us c=true):X4 (x++(⟨#[c]⟩:Str)) (i+1):=by
 have e:(x++(⟨#[c]⟩:Str)).cps=x.cps++#[c]:=rfl;exists ?_
 ·rw[e,rM];exact vD h.1
 ·rw[e,wI,List.all_append,h.2];simp[a]
abbrev ZRW:jr:=["_law_well_here","_law_signs","_law_text_here","_law_few","_law_j","_law_sign"]
def QK:ZA ZRW zEg (Zc KQ):=Zr
def ZOh(F:Zf K "_law_text" "_law_text" KQ f fd)(T:YA mg)(B:ZB P w K mg km 1 "_law_pull" zEb Zs):ZI P w K mg km ZZ 2 f fd zEg VC:=by
 refine F.ok QK (λvs H Q E h=>?_) (λa2 A a1 s H vs Q E I h=>?_)
 ·obtain⟨p,rfl,_⟩:=h;rfl
 obtain⟨p,rfl,W,k⟩:=h;have o:=QK.nd;intro Xc;refine⟨_,ZN (Zi 1 o Xm) (ZN (Zi 2 o Xm)
  (ZN (Zi 3 o (Zg B I (ZW (pv 0) (ZW ZJ Zj))))
  (ZN (Vo PassesOwn.never rfl (P4 rfl T.range (ZW (Zg B I (ZW (pv 0) (ZW (Vu Zp (YG (ZW ZJ (ZW ZJ Zj))) (Zg B I (ZW (pv 0) (ZW ZJ Zj))) (λ_ _=>rfl)) Zj))) Zj)) (Xe 4 o)
   (ZN (Zi 5 o Xm)
   (ZN (Zv (Ph (Yc OD (pv 3) ZJ (Z9 _)) (Pf (Yc VH (Zg B I (ZW (pv 0) (ZW ZJ Zj))) ZJ (Z9 _)))).pt
    (ZR (Zi 5 o (Vu Ec (pv 1) (Zg B I (ZW (pv 0) (ZW (Vu Zp (YG (ZW ZJ (ZW ZJ Zj))) (Zx Lh (pv 3) ZJ) (λ_ _=>rfl)) Zj))) (λ_ _=>rfl)))) Zy)
   (ZR (Zi 2 o (Zx ZIt (pv 2) (pv 5)))))))
  (ZR (Zd (pv 2)))))),?_⟩
 exists _,rfl,p,3,rfl,W,Xn (by decide) (by decide)
 intro J H1 a3 a4 W1 s1;exists _,rfl,(by show 2<=ar;decide)
 intro l X;have O:ZH (upd H1 l (.lst [.int 4,.int 41])) p:=W1.same (ZU X _);exists _,rfl,p,2,rfl,O,Xn (by decide) (by decide)
 intro r H2 r0 r1 W2 s2;have a0:l≠p:=by
  obtain⟨xs,e⟩:=W1.some;exact(ZY e X).symm
 have a:H2 l=some (.lst [.int 4,.int 41]):=s2 l _ ZM a0;obtain⟨v,hv,Y⟩:=HJ (x:=V.int 4) (y:=V.int 41) r0 r1;have hb:∃ z:Int,v=.int z/\0<z/\z<=41:=by
  rcases Y with e | e
  ·exact⟨4,e,by decide,by decide⟩
  ·exact⟨41,e,by decide,by decide⟩
 obtain⟨z,rfl,z0,z1⟩:=hb;exists l,_,_,_,rfl,rfl,ZG.of a,hv,p,z,rfl,W2,Xn z0 ∅
 intro n H3 n0 n1 W3 s3;have sA:ZE p H H3:=(s1.trans (ZE.of (ZU X _))).trans (s2.trans s3);refine⟨n,rfl,∅,∅,O7 (n:=n.toNat) (λi σ t=>∃(x:Str)(j g:jg),σ=[some (.ref p),some (.str YW),some (.str x),some (.int J),j,g]/\X4 x i/\ZH t p/\ZE p H t)
  ⟨"",none,none,rfl,⟨by decide,by decide⟩,W3,sA⟩ ?_ ?_⟩
 ·rintro i σ t hi ⟨x,j,g,rfl,N,C,q⟩;have m:∀(c:Nat)(b:Hp),Us c=true->ZH b p->ZE p H b->∃(y:Str)(j g:jg),[some (V.ref p),some (.str YW),some (.str (x++(⟨#[c]⟩:Str))),some (.int J),some (.int (0+(i:Int))),some (.str ⟨#[c]⟩)]=[some (.ref p),some (.str YW),some (.str y),some (.int J),j,g]/\X4 y (i+1)/\ZH b p/\ZE p H b:=
   λc b G D L=>⟨_,_,_,rfl,N.more G,D,L⟩
  have d:∀ c:Nat,x.length+(⟨#[c]⟩:Str).length<=sizeLine:=λc=>by
   have h1:x.length<=i:=N.1;have h2:(⟨#[c]⟩:Str).length=1:=rfl;rw[h2];exact nn ∅
  have M:∀ b,ZH b p->ZE p H b->∃(v:Int),0<v/\v<=94/\Xt [V.int 94,V.int 5] (J / 2)=some (.int v):=λb _ _=>by
   obtain⟨v,e,h⟩:=HJ (x:=V.int 94) (y:=V.int 5) (i:=J / 2) ∅ ∅
   rcases h with rfl | rfl
   ·exact⟨94,by decide,by decide,e⟩
   ·exact⟨5,by decide,by decide,e⟩
  exists _,rfl,_,_,rfl,rfl,_,rfl;refine Xw (λ_=>?_) (λ_=>?_)
  ·refine Zw ?_;exists _,rfl,_,rfl,(by show 2<=ar;decide)
   intro Z a;obtain⟨v,v0,v1,U⟩:=M t C q;exists _,rfl,_,_,rfl,rfl,⟨by decide,by decide⟩,Z,_,_,_,rfl,rfl,ZG.of ZM,U,p,v,rfl,C.same (ZU a _),Xn v0 ∅
   intro u b u0 u1 D L;obtain⟨c,S,G⟩:=FX u0 ∅
   exists YW,_,c,rfl,rfl,(by rw[Cb];exact nn (by decide)),S
   exact⟨_,rfl,_,rfl,_,_,rfl,rfl,d c,m c b G D ((q.trans (ZE.of (ZU a _))).trans L)⟩
  ·refine⟨_,rfl,p,8,rfl,C,Xn (by decide) (by decide),λy H6 _ _ R s6=>⟨rfl,_,rfl,?_⟩⟩
   refine Xw (λ_=>?_) (λ_=>?_)
   ·exists _,rfl,_,rfl,(by show 2<=ar;decide)
    intro Z a;obtain⟨v,v0,v1,U⟩:=M H6 R (q.trans s6);exists _,rfl,_,_,rfl,rfl,⟨by decide,by decide⟩,Z,_,_,_,rfl,rfl,ZG.of ZM,U,p,v,rfl,R.same (ZU a _),Xn v0 ∅
    intro u b u0 u1 D L;obtain⟨c,S,G⟩:=FX u0 ∅
    exists YW,_,c,rfl,rfl,(by rw[Cb];exact nn (by decide)),S
    exact⟨_,rfl,_,rfl,_,_,rfl,rfl,d c,m c b G D (((q.trans s6).trans (ZE.of (ZU a _))).trans L)⟩
   ·exact⟨_,rfl,_,rfl,_,_,rfl,rfl,d 97,m 97 H6 (by decide) R (q.trans s6)⟩
 ·rintro σ t ⟨x,j,g,rfl,N,C,q⟩;exact⟨_,rfl,k x t (N.ok ∅) C q⟩
def Pz:ZA ["_law_well_here","_law_room","_law_way"] zEe (Zc LN):=Zr
def ZMo{k:Nat}:ZI P w K mg km ZZ k f fd zEe (XE 0):=by
 have c:∀ a H Q E,¬ XE 0 a H Q E:=λa H Q E h=>by
  obtain⟨p,r,_,_,d,_⟩:=h
  lia
 exact⟨λa H Q E h=>absurd h (c a H Q E),λA b s H args e a Q E _ _ _ _ h=>absurd h (c a H Q E)⟩
def ZP5{n:Nat}(F:Zf K "_law_key" "_law_key" LN f fd)(T:YA mg)(Z:ZB P w K mg km 1 "_law_pull" zEb Zs)(DG:ZB P w K mg km 2 "_law_great" zEr Zs)(DT:ZB P w K mg km 2 "_law_text" zEg VC)(DK:ZB P w K mg km (n+2) "_law_key" zEe (XE n)):ZI P w K mg km ZZ (n+3) f fd zEe (XE (n+1)):=by
 refine F.ok Pz (λvs H Q E h=>?_) (λa1 A a0 s H vs Q E hr h=>?_)
 ·obtain⟨p,r,rfl,_⟩:=h;rfl
 obtain⟨p,r,rfl,W,hn,k⟩:=h;have nd:=Pz.nd;have q:=hr.mono (show 1<=n+2 by lia)
 have L:=hr.mono (show 2<=n+2 by lia)
 intro Xc;refine⟨_,ZN (Zi 2 nd (Zg Z q (ZW (pv 0) (ZW ZJ Zj))))
  (ZN (Zv (Yc NZ (pv 2) ZJ (Z9 _)) (ZR (Zd (Zx Up (Zg Z q (ZW (pv 0) (ZW ZJ Zj))) ZJ))) Zy)
  (ZN (Zv (Yc VH (pv 2) ZJ (Z9 _)) (ZR (Zd (Zx WW (Zx Up (Zg DG L (ZW (pv 0) (ZW (Zx Up (Zx Oc ZJ (Zx MT ZJ ZJ)) ZJ) Zj))) (Zx MT ZJ ZJ)) ZJ))) Zy)
  (ZN (Zv (Ph (Yc NZ (pv 2) ZJ (Z9 _)) (Pf (Yc VH (pv 1) ZJ (Z9 _)))).pt (ZR (Zd (Zg DT L (ZW (pv 0) Zj)))) Zy)
  (ZR (Zd (X0 NH rfl T.tuple Pb (ZW (Wr [0,1] zEe rfl (P4 rfl T.range (ZW (Zg Z q (ZW (pv 0) (ZW ZJ Zj))) Zj)) (λ_ _ _ _ _=>VV)
   (λ_ _ _ _ _=>Zg DK hr (ZW (pv 1) (ZW (Zx Up (pv 2) ZJ) Zj))) ⟨rfl,.inl rfl,rfl,rfl,.inl rfl,rfl,trivial⟩) Zj))))))),?_⟩
 exists _,rfl,p,8,rfl,W,Xn (by decide) (by decide)
 intro y H1 y0 y1 S Y;exists _,rfl,_,_,rfl,rfl,_,rfl;refine Xw (λ_=>?_) (λc1=>?_)
 ·refine⟨_,rfl,p,41,rfl,S,Xn (by decide) (by decide),λu j u0 u1 d C=>⟨_,_,rfl,rfl,?_⟩⟩
  refine k (.int (u-20)) (.int (u-20)) j (ZD.int _) ?_ d (Y.trans C);rw[KT.fits];have e:(10:Nat) ^ 60 > 1000:=by decide
  exact aK ∅
 exists _,rfl,rfl,_,rfl;refine Xw (λ_=>?_) (λc2=>?_)
 ·exists _,rfl,_,_,rfl,rfl,⟨by decide,by decide,by decide⟩,_,_,rfl,rfl,.inl ⟨by decide,by decide⟩,_,_,rfl,rfl,p,_,rfl,S,Xn (by decide +kernel) (by decide +kernel)
  intro u j u0 u1 d C;exists _,_,rfl,rfl,⟨by decide,by decide,by decide⟩,_,_,rfl,rfl,_,_,rfl,rfl
  refine k _ (.int _) j (ZD.int _) ?_ d (Y.trans C);have e:((10:Int) ^ (60:Int).toNat)=((10 ^ 60:Nat):Int):=by decide +kernel
  rw[e] at u1;rw[KT.fits,e];generalize (10 ^ 60:Nat)=N at *;exact aK ∅
 have O:VC ([.ref p]++[]) H1 Q E0:=⟨p,rfl,S,λx j hx d C=>k (.str x) (.str x) j (ZD.str x) (by rw[KT.fits];exact hx) d (Y.trans C)⟩
 exists _,rfl,_,_,rfl,rfl,_,rfl;refine Xw (λ_=>?_) (λ_=>?_)
 ·exact Zw ⟨_,rfl,O⟩
 exists _,rfl,rfl,_,rfl;refine Xw (λ_=>?_) (λc3=>?_)
 ·exact⟨_,rfl,O⟩
 have r0:r≠0:=λe=>c3 (aK (by rw[e];rfl))
 refine⟨_,rfl,p,5,rfl,S,Xn (by decide) (by decide),λu j u0 u1 d C=>⟨u,rfl,∅,∅,?_⟩⟩
 have sB:ZE p H j:=Y.trans C;refine Vc (n:=u.toNat) (λi x=>x=.int (0+(i:Int))) (λD i a c=>ZH c p/\ZE p H c/\D≠p/\H D=none/\∃ G,jY c G a/\G.length=i/\fitsL G (r-1)=true) (Yq ∅)
  (λD i a c hi _=>hi) (λD i a c x m hi _ hy=>hy) (λD a c _=>zY _) (λD J=>?_) (λD i a c x eD hl hi hx hP R hR=>?_) (λD a c eD hP=>?_)
 ·have B:D≠p:=by
   obtain⟨xs,e⟩:=d.some;exact(ZY e J).symm
  have M:H D=none:=by
   cases e:H D with
   | none=>rfl
   | some o=>rw[sB D o e B] at J;cases J
  exact⟨d.same (ZU J _),sB.trans (ZE.of (ZU J _)),B,M,[],.nil,rfl,by rw[fitsL]⟩
 ·obtain⟨U,s3,B,M,G,hk,g,X⟩:=hP;have er:(r:Int)-1=((r-1:Nat):Int):=∅
  exists _,rfl,_,rfl,_,_,rfl,rfl,p,r-1,congrArg (λz=>[V.ref p,V.int z]) er,U,by lia
  intro v t m hv ht W4 s4;have I:=s4 D _ eD B;have sD:ZE D m (upd m D (.lst (a++[v]))):=(ZE.refl D m).upd;have tD:Z3 m (upd m D (.lst (a++[v]))):=sD.tups I;refine hR v m I ⟨W4.stay sD B.symm,λb o e n=>?_,B,M,G++[t],((jY.mono (s4.tupsW U) _ _ hk).append (.cons hv .nil)).mono tD _ _,by simp[g],?_⟩
  ·rw[ZS (ZY e M)];exact(s3.trans s4) b o e n
  ·rw[LB] at X⊢;rw[List.all_append,X];simp[ht]
 ·obtain⟨U,s3,B,M,G,hk,g,X⟩:=hP;refine⟨D,a,rfl,.inl ⟨ZG.of eD,λl hl=>?_⟩⟩;have sl:=ZU hl (.tup a);refine k (.ref l) (.tup G) _ (.tup ZM (hk.sm sl)) ?_ (U.same sl) (s3.trans (ZE.of sl));rw[KT.fits,X,Bool.and_true,zR];exact⟨aK ∅,aK ∅⟩
abbrev Bb:jr:=["_law_script","_law_k","_law_left","_law_cell","_law_digits"]
def Qr:ZA Bb zEv (Zc IR):=Zr
def Ax(F:Zf K "_law_well" "_law_well" IR f fd)(T:YA mg):ZI P w K mg km ZZ 1 f fd zEv (VB K):=by
 refine F.ok Qr (λvs H Q E h=>?_) (λX A L s H vs Q E hr h=>?_)
 ·obtain⟨a,g,k,rfl,_⟩:=h;rfl
 obtain⟨a,g,k,rfl,u,hn,k0,k1,q⟩:=h;have J:=Qr.nd;intro Xc;refine⟨_,ZN (Zi 2 J (Vu Zp (YG (ZW ZJ (ZW ZJ Zj))) (X0 O9 rfl T.int Q2 (ZW (VX VH (pv 1) ZJ (Z9 _)) Zj)) (λ_ _=>rfl)))
  (ZN (Zi 3 J (Vu Zp (Zx LY (X0 Qu rfl T.list Uw (ZW (pv 0) Zj)) (YG (ZW ZJ Zj))) (Zx Ps (pv 1) (Z2 (IV rfl) rfl T.max Ir (ZW ZJ (ZW (Z2 WN rfl T.len Xu (ZW (pv 0) Zj)) Zj)))) (λ_ _=>rfl)))
  (ZN (Zi 4 J (Zx Oc (Z2 K7 rfl T.abs IE (ZW (pv 3) Zj)) (X0 O9 rfl T.int Q2 (ZW (Q4 (VX ZRV (Z2 K7 rfl T.abs IE (ZW (pv 3) Zj)) (Zx MT ZJ ZJ) (Z9 _)) (OI (VX NZ (pv 1) (Z2 WN rfl T.len Xu (ZW (pv 0) Zj)) (Z9 _)))) Zj))))
  (ZR (Zd (YG (ZW (Zx Ps (pv 3) ZJ) (ZW (Zx Oc ZJ (pv 1)) (ZW (pv 4) (ZW (pv 2) Zj))))))))),?_⟩
 exists (by show 2<=ar;decide)
 intro l1 v;have O:=ZU v (.lst [V.int 240,V.int 2400]);refine⟨_,rfl,rfl,.inr ⟨_,rfl,?_⟩⟩;obtain⟨lv,t,D⟩:∃ z:Int,Xt [V.int 240,V.int 2400] (if decide (V.int k=V.int 0)=true then 1 else 0)=some (.int z)/\0<=z:=by
  split
  ·exact⟨2400,rfl,by decide⟩
  ·exact⟨240,rfl,by decide⟩
 exists l1,_,_,_,rfl,rfl,ZG.of ZM,t;exists _,rfl,a,_,rfl,.inl (O.seq u);intro S y;have Z:=O.trans (ZU y (.lst (g.map V.int)));exists (by show 1<=ar;decide)
 intro U n;have g3:=Z.trans (ZU n (.lst [V.int 0]));have I:S≠U:=ZY ZM n;exists S,U,_,_,rfl,rfl,(by rw[ZS I];exact ZM),ZM,(by rw[zX];exact nn (by show g.length+1<=1000;lia))
 intro l4 B;have p:=g3.trans (ZU B (.lst (g.map V.int++[V.int 0])));exists _,rfl,_,rfl,a,_,rfl,.inl (p.seq u),_,_,rfl;have C:(g.map V.int).length=g.length:=zX _;generalize R:(if (((g.map V.int).length:Nat):Int) > 1 then (((g.map V.int).length:Nat):Int) else 1)=M
 have M1:1<=M/\M<=(g.length:Int)+1:=by
  rw[C] at R;rw[<-R];split <;> lia
 exists _,_,rfl,rfl,by lia
 have i0:0<=k % M:=vF _ ∅
 have i1:k % M<M:=uW _ ∅
 obtain⟨Y,r,G⟩:=Op (xs:=g.map V.int++[V.int 0]) i0 (by rw[zW,zX,vB];lia)
 obtain⟨c,rfl⟩:∃ z:Int,Y=.int z:=by
  rcases yQ.mp G with m | m
  ·obtain⟨z,_,e⟩:=zM.mp m;exact⟨z,e.symm⟩
  ·exact⟨0,zB.mp m⟩
 exists l4,_,_,_,rfl,rfl,ZG.of ZM,r;have l:∀ b:Bool,0<=(if c<0 then -c else c) * (if b=true then 1 else 0):=λb=>by
  cases b
  ·simp
  ·simp;split <;> lia
 have N:∀(x:Int)(b:Bool),PB x (if b=true then 1 else 0):=λx b=>.inr (by cases b <;> exact⟨by decide,by decide⟩)
 have j:∀(z:Int)(o:Hp),0<=z->ZC H o->∀ i,o i=none->Q (.ref i) (upd o i (.lst [.int (c % 2147483647),.int (1000 * k),.int z,.int lv])):=λz o z0 W i d=>
  q i _ (W.free d) (W.trans (ZU d _)) ⟨_,_,_,_,ZM,vF _ (by decide),uW _ (by decide),z0,D⟩
 exists _,rfl,_,rfl,_,rfl,_,rfl,_,_,rfl,rfl,⟨by decide,by decide,by decide⟩,_,_,rfl,rfl,_,rfl
 refine Xw (λ_=>?_) (λ_=>?_)
 ·refine⟨_,rfl,_,rfl,a,_,rfl,.inl (p.seq u),_,_,rfl,rfl,.inr ⟨_,rfl,_,_,rfl,rfl,N _ _,?_⟩⟩;exists _,rfl,_,_,rfl,rfl,(by show (0:Int)<2147483647;decide),_,rfl,_,_,rfl,rfl,.inl ⟨by decide,by decide⟩,_,rfl,_,rfl,(by show 4<=ar;decide)
  intro i d;exact j _ _ (l _) p i d
 ·refine .inr ⟨_,rfl,_,_,rfl,rfl,N _ false,?_⟩;exists _,rfl,_,_,rfl,rfl,(by show (0:Int)<2147483647;decide),_,rfl,_,_,rfl,rfl,.inl ⟨by decide,by decide⟩,_,rfl,_,rfl,(by show 4<=ar;decide)
  intro i d;exact j _ _ (l false) p i d
def BO:ZA ["number"] ["number"] (Zc Ib):=Zr
def ZPt(F:Zf K "has_few_figures" "has_few_figures" Ib f fd)(T:YA mg):ZI P w K mg km ZZ 1 f fd ["number"] QA:=by
 refine F.ok BO (λc H Q E h=>?_) (λb A a s H c Q E g h=>?_)
 ·obtain⟨i,rfl,_⟩:=h;rfl
 obtain⟨i,rfl,q⟩:=h;intro d;exists _,ZR (Zd (VX NZ (Z2 K7 rfl T.abs IE (ZW (pv 0) Zj)) (Zx MT ZJ ZJ) (Z9 _)));exists _,rfl,_,rfl,_,_,rfl,rfl,⟨by decide,by decide,by decide⟩,_,_,rfl,rfl
 have e:=AD i;rw[<-e] at q;exact q
def ZQg:ZA ["sign"] ["sign"] (Zc JU):=Zr
def ZOy(F:Zf K "is_sign" "is_sign" JU f fd):ZI P w K mg km ZZ 1 f fd ["sign"] UC:=by
 refine F.ok ZQg (λk H Q E h=>?_) (λi A d s H k Q E m h=>?_)
 ·obtain⟨c,rfl,_⟩:=h;rfl
 obtain⟨c,rfl,q⟩:=h;intro l;exists _,ZR (Zd (ZMc D4 D4 Xm (pv 0) Xm));have g:(yE " ").cps.toList=[32]:=by decide +kernel
 have j:(yE "~").cps.toList=[126]:=by decide +kernel
 have e:=ZLI c;exists _,rfl,_,_,rfl,rfl,_,rfl;refine Xw (λb=>?_) (λb=>?_)
 ·exists _,_,rfl,rfl;have a:(!decide ([c]<[32]))=true:=by rw[<-g];exact b
  rw[a,tZ] at e;rw[<-e,<-j] at q;exact q
 ·have a:(!decide ([c]<[32]))=false:=by rw[<-g];exact Bool.eq_false_iff.mpr b
  rw[a,vS] at e;rw[<-e] at q;exact q
structure Za(K:zZ)(mg:jc)(x:Str)(st:aD)(ps:jr):Prop where
 ex:∃ f fd,Zf K x x st f fd/\Zt K fd ps []/\mg x=some (.ref f)
def Za.of{P:am}{w:ax}{K:zZ}{d:jc}{a:aE}{x:Str}{i:aD}{e:jr}{k:Nat}{g:Sp}(L:Za K d x i e)(h:∀ f c,Zf K x x i f c->ZI P w K d a ZZ k f c e g):ZB P w K d a k x e g:=by
 obtain⟨f,c,F,b,m⟩:=L.ex;exact⟨f,c,h f c F,b,F.kp,m⟩
def Mu{K:zZ}{h:aE}{p:jc}{x:Str}{e:aD}{n:jr}{f:ak}{t g:jA}{u:Array (jd)}{s kV q m o ct:aj}(X:K.In h)(G:h.Ns aq p)(a:zH K aq x=some (some (.ref f)))(l:K.lookup f=some ⟨s,t,.func (xW x x (Uf e) (WY e) (Zc e) .none kV q m g o ct),u⟩)(c:wC K o x=true)(k:yL K (.ref f)=true)(r:∀ (kV j m:aj) (g:jA) (i ct:aj) (b:je),b.length=n.length->bindArgs (xW x x (Uf e) (WY e) (Zc e) .none kV j m g i ct) ⟨b,[]⟩=pure (n.zip b):=by first | exact(λ_ _ _ _ _ _ b d=>match b,d with | [_],_=>rfl) | exact(λ_ _ _ _ _ _ b d=>match b,d with | [_,_],_=>rfl) | exact(λ_ _ _ _ _ _ b d=>match b,d with | [_,_,_],_=>rfl) | exact(λ_ _ _ _ _ _ b d=>match b,d with | [_,_,_,_],_=>rfl) | exact(λ_ _ _ _ _ _ b d=>match b,d with | [_,_,_,_,_],_=>rfl)):Za K p x e n:=
 ⟨f,_,Pc (st:=e) l c k,(Pc (st:=e) l c k).binds r,yJ X G a⟩
def Ei(T:YA mg)(L:Za K mg "_law_key" LN zEe)(b:ZB P w K mg km 1 "_law_pull" zEb Zs)(a:ZB P w K mg km 2 "_law_great" zEr Zs)(c:ZB P w K mg km 2 "_law_text" zEg VC):∀ n:Nat,ZB P w K mg km (n+2) "_law_key" zEe (XE n)
 | 0=>L.of λ_ _ _=>ZMo
 | n+1=>L.of λ_ _ F=>ZP5 F T b a c (Ei T L b a c n)
inductive Xy(n:Nat)(b:jf)(H:Hp)(Q:VK)(_:XK):Prop
 |mk(v:V)(t:TG)(N:ak->Prop)(r:Nat)(_:b=[v,.int (r:Int)])(_:Zm N H t v)(_:t.neat)(_:r<n)(_:∀ a,ZC H a->Q (.bl (t.fits r)) a)
inductive WG(b:jf)(H:Hp)(Q:VK)(_:XK):Prop
 |mk(v:V)(t:TG)(N:ak->Prop)(_:b=[v])(_:Zm N H t v)(_:t.neat)(_:∀ a,ZC H a->Q (.bl (t.fits 3)) a)
def ZOL{d:Sp}{k:Nat}{e:jr}(c:∀ a H Q E,¬ d a H Q E):ZI P w K mg km ZZ k f fd e d:=
 ⟨λa H Q E h=>absurd h (c a H Q E),λA b s H args g a Q E _ _ _ _ h=>absurd h (c a H Q E)⟩
def AE:ZA zEy zEy (Zc Mp):=Zr
def Bc{n:Nat}(F:Zf K "fits" "fits" Mp f fd)(T:YA mg)(DW:ZB P w K mg km 1 "has_few_figures" ["number"] QA)(DS:ZB P w K mg km 1 "is_sign" ["sign"] UC)(DF:ZB P w K mg km (n+1) "fits" zEy (Xy n)):ZI P w K mg km ZZ (n+2) f fd zEy (Xy (n+1)):=by
 refine F.ok AE (λp H Q E h=>?_) (λa3 A a2 s H p Q E hr h=>?_)
 ·obtain⟨v,t,N,r,rfl,_⟩:=h;rfl
 obtain⟨v,t,N,r,rfl,B,X,hn,k⟩:=h;have U:=hr.mono (show 1<=n+1 by lia)
 obtain⟨t1,m1⟩:=T.signs;obtain⟨t2,m2⟩:=T.things;intro Xc;refine⟨_,ZN (Zv (Y3 (Z2 V5 rfl T.isi VA (ZW (pv 0) (ZW (Vs (v:=.ty "bool") rfl T.bool Dv rfl) Zj)))) (ZR (Zd Xr)) Zy)
  (ZN (Zv (Y3 (Z2 V5 rfl T.isi VA (ZW (pv 0) (ZW (Vs (v:=.ty "int") rfl T.int Q2 rfl) Zj)))) (ZR (Zd (Zg DW U (ZW (pv 0) Zj)))) Zy)
  (ZN (Zv (Y3 (Z2 V5 rfl T.isi VA (ZW (pv 0) (ZW (Vs (v:=.ty "str") rfl T.str Ma rfl) Zj))))
   (ZR (Zd (Q4 (VX NS (Z2 ZFz rfl T.len Xu (ZW (pv 0) Zj)) (WP (v:=.int 40) rfl m1 ⟨_,rfl⟩) (Z9 _))
    (OI (Z2 (LH rfl) rfl T.all LG (ZW (Wr [] [] rfl (Cw (pv 0)) (λ_ _ _ _ _=>VV) (λ_ _ _ _ _=>Zg DS U (ZW (pv 0) Zj)) trivial) Zj)))))) Zy)
  (ZN (Zv (Y3 (Z2 V5 rfl T.isi VA (ZW (pv 0) (ZW (Vs (v:=.ty "tuple") rfl T.tuple Pb rfl) Zj))))
   (ZR (Zd (Q4 (VX OD (pv 1) ZJ (Z9 _)) (Q4 (VX NS (Z2 WN rfl T.len Xu (ZW (pv 0) Zj)) (WP (v:=.int 4) rfl m2 ⟨_,rfl⟩) (Z9 _))
    (OI (Z2 (LH rfl) rfl T.all LG (ZW (Wr [1] ["room"] rfl (Mm (pv 0)) (λ_ _ _ _ _=>VV) (λ_ _ _ _ _=>Zg DF hr (ZW (pv 0) (ZW (Zx Up (pv 1) ZJ) Zj))) ⟨rfl,.inl rfl,rfl,trivial⟩) Zj))))))) Zy)
  (ZR (Zd Xr))))),?_⟩
 cases t with
 | int i=>
  have ev:v=.int i:=by rw[Zm] at B;exact B
  subst ev;refine⟨_,rfl,_,_,_,_,rfl,.int i,Gb,_,rfl,Zk ?_⟩;refine⟨_,rfl,_,_,_,_,rfl,.int i,LZ,_,rfl,Zw ?_⟩;have d:=k H (ZC.refl H);rw[TG.fits] at d;exact⟨_,rfl,i,rfl,d⟩
 | str x=>
  have ev:v=.str x:=by rw[Zm] at B;exact B
  subst ev;have S:x.length<=1000:=by rw[TG.neat] at X;exact X
  refine⟨_,rfl,_,_,_,_,rfl,.str x,ZPg,_,rfl,Zk ?_⟩;refine⟨_,rfl,_,_,_,_,rfl,.str x,KB,_,rfl,Zk ?_⟩;refine⟨_,rfl,_,_,_,_,rfl,.str x,MR,_,rfl,Zw ?_⟩;exists _,rfl,x,rfl,nn S,_,_,rfl,rfl,_,rfl;refine Xw (λc=>?_) (λc=>?_)
  ·have u:x.length<=40:=by have:=of_decide_eq_true c;lia
   exists _,rfl,x,rfl;have a6:x.cps.size<=40:=u;refine Vc (n:=x.cps.size) (λi z=>∃ c,x.cps[i]? = some c/\z=.str ⟨#[c]⟩) (λD i m g=>ZC H g/\H D=none/\m=((x.cps.toList.take i).map Us).map V.bl) (Yq ∅)
    (λD i m g J _=>J) (λD i m g z Z J _ Y=>Y) (λD m g _=>rfl) (λD O=>⟨ZU O _,O,rfl⟩) (λD i m g z I hl J hz j R hR=>?_) (λD m g I j=>?_)
   ·obtain⟨c,hc,rfl⟩:=hz;obtain⟨G,L,rfl⟩:=j;exists _,rfl,c,rfl;refine hR _ g I ⟨λb o e=>by rw[ZS (ZY e L)];exact G b o e,L,?_⟩
    have a0:x.cps.toList[i]? = some c:=by simpa using hc
    rw[yM,a0];simp
   ·obtain⟨G,L,rfl⟩:=j;exists D,_,rfl,ZG.of I;have d:=k g G;have M:(x.cps.toList.take x.cps.size)=x.cps.toList:=yV (by simp)
    have C:(x.cps.toList.map Us).all id=(TG.str x).fits r:=by
     rw[TG.fits,uT];unfold U7;rw[aK u,tZ];rfl
    rw[M,C];exact d
  ·have u:¬ x.length<=40:=λz=>c (aK ∅)
   have d:=k H (ZC.refl H);rw[TG.fits] at d;unfold U7 at d;rw[aJ u,vS] at d;exact d
 | tup l=>
  rw[Zm] at B;obtain⟨a,p,rfl,C,W⟩:=B;have hl:=W.length;rw[TG.neat] at X;obtain⟨a5,a1⟩:=X;have q:Y0 K H (.ref a) (.type "tuple"):=.tup C;refine⟨_,rfl,_,_,_,_,rfl,q,Bn,_,rfl,Zk ?_⟩;refine⟨_,rfl,_,_,_,_,rfl,q,Ll,_,rfl,Zk ?_⟩;refine⟨_,rfl,_,_,_,_,rfl,q,LO,_,rfl,Zk ?_⟩;refine⟨_,rfl,_,_,_,_,rfl,q,Hl,_,rfl,Zw ?_⟩;exists _,rfl,_,_,rfl,rfl,_,rfl;refine Xw (λc1=>?_) (λc1=>?_)
  ·have r0:0<r:=by
    have:=of_decide_eq_true c1
    lia
   exists _,rfl,a,p,rfl,.inr (Zh.of C),_,_,rfl,rfl,_,rfl;refine Xw (λc2=>?_) (λc2=>?_)
   ·have l4:l.length<=4:=by
     have:=of_decide_eq_true c2
     lia
    exists _,rfl,a,rfl,⟨p,Zh.of C⟩;refine Vc (n:=p.length) (λi z=>p[i]? = some z) (λD i m g=>ZC H g/\H D=none/\m=((l.take i).map λt=>t.fits (r-1)).map V.bl) (Yq ∅)
     (λD i m g J j=>⟨p,p[i],Zh.of (j.1 _ _ C),by simp[J]⟩) (λD i m g z Z J j Y=>⟨Y.1,Y.2 p (Zh.of (j.1 _ _ C))⟩) (λD m g j=>⟨p,Zh.of (j.1 _ _ C),zY _⟩)
     (λD O=>⟨ZU O _,O,rfl⟩) (λD i m g z I a4 J hz j R hR=>?_) (λD m g I j=>?_)
    ·obtain⟨G,L,rfl⟩:=j;obtain⟨t,M,kt⟩:=W.get hz;have er:(r:Int)-1=((r-1:Nat):Int):=∅
     exists _,rfl,_,rfl,_,_,rfl,rfl,z,t,N,r-1,congrArg (λy=>[z,V.int y]) er,kt.mono (XD.same G) _ _,Fs a1 (zK M),by lia
     intro Z s4;refine hR _ Z (s4 D _ I) ⟨λb o e=>by rw[ZS (ZY e L)];exact s4 b o (G b o e),L,?_⟩
     rw[yM,M];simp
    ·obtain⟨G,L,rfl⟩:=j;exists D,_,rfl,ZG.of I;have d:=k g G;rw[TG.fits,aK r0,tZ,aK l4,tZ,Gz] at d;have M:l.take p.length=l:=yV ∅
     rw[M,uT];exact d
   ·have l4:¬ l.length<=4:=λz=>c2 (aK ∅)
    have d:=k H (ZC.refl H);rw[TG.fits,aJ l4,vS,uS] at d;exact d
  ·have r0:¬ 0<r:=λz=>c1 (aK ∅)
   have d:=k H (ZC.refl H);rw[TG.fits,aJ r0,vS] at d;exact d
 | odd n'=>
  rw[Zm] at B;have q:Y0 K H v (.type n'):=B.ty;obtain⟨b,kb,kr⟩:=ZOs (K:=K) B;have d:=k H (ZC.refl H);rw[TG.fits] at d
  cases b with
  | true=>exact⟨_,rfl,_,_,_,_,rfl,q,kb,_,rfl,Zw d⟩
  | false=>
   obtain⟨k1,k2,k3⟩:=kr rfl;refine⟨_,rfl,_,_,_,_,rfl,q,kb,_,rfl,Zk ?_⟩;refine⟨_,rfl,_,_,_,_,rfl,q,k1,_,rfl,Zk ?_⟩;refine⟨_,rfl,_,_,_,_,rfl,q,k2,_,rfl,Zk ?_⟩;refine⟨_,rfl,_,_,_,_,rfl,q,k3,_,rfl,Zk ?_⟩;exact d
def Do(T:YA mg)(L:Za K mg "fits" Mp zEy)(b:ZB P w K mg km 1 "has_few_figures" ["number"] QA)(a:ZB P w K mg km 1 "is_sign" ["sign"] UC):∀ n:Nat,ZB P w K mg km (n+1) "fits" zEy (Xy n)
 | 0=>L.of λ_ _ _=>ZOL λd H Q E h=>by obtain⟨v,t,N,r,_,_,_,c,_⟩:=h;lia
 | n+1=>L.of λ_ _ F=>Bc F T b a (Do T L b a n)
def ZNb:ZA zEx zEx (Zc Jz):=Zr
def ZMk(F:Zf K "is_key" "is_key" Jz f fd)(T:YA mg)(b:ZB P w K mg km 5 "fits" zEy (Xy 4)):ZI P w K mg km ZZ 6 f fd zEx WG:=by
 refine F.ok ZNb (λj H Q E h=>?_) (λc A a s H j Q E e h=>?_)
 ·obtain⟨v,t,N,rfl,_⟩:=h;rfl
 obtain⟨v,t,N,rfl,g,d,k⟩:=h;obtain⟨m,i⟩:=T.deep;intro l;exists _,ZR (Zd (Zg b e (ZW (pv 0) (ZW (WP (v:=.int 3) rfl i ⟨_,rfl⟩) Zj))));exact⟨_,rfl,v,t,N,3,rfl,g,d,by decide,k⟩
inductive Vy(n:Nat)(c:jf)(H:Hp)(Q:VK)(_:XK):Prop
 |mk(v:V)(t:KT)(q:Nat)(_:c=[v])(_:ZD H t v)(_:t.fits q=true)(_:t.depth<n)(_:∀(b:V)(a:Hp),ZD a t.st b->ZC H a->Q b a)
inductive XY(d:jf)(H:Hp)(Q:VK)(_:XK):Prop
 |mk(v u:V)(a b:KT)(_:d=[v,u])(_:ZD H a v)(_:ZD H b u)(_:a.fits 3=true)(_:b.fits 3=true)(_:∀ c,ZC H c->Q (.bl (a.lt b)) c)
def ZIM:ZA zFa zFa (Zc Ls):=Zr
def ZOx{k:Nat}:ZI P w K mg km ZZ k f fd zFa (Vy 0):=by
 have c:∀ a H Q E,¬ Vy 0 a H Q E:=λa H Q E h=>by
  obtain⟨v,t,q,_,_,_,d,_⟩:=h
  lia
 exact⟨λa H Q E h=>absurd h (c a H Q E),λA b s H args e a Q E _ _ _ _ h=>absurd h (c a H Q E)⟩
def ZGj{n:Nat}(F:Zf K "standing" "standing" Ls f fd)(T:YA mg)(DS:ZB P w K mg km (n+1) "standing" zFa (Vy n)):ZI P w K mg km ZZ (n+2) f fd zFa (Vy (n+1)):=by
 refine F.ok ZIM (λg H Q E h=>?_) (λa1 A a0 s H g Q E hr h=>?_)
 ·obtain⟨v,t,q,rfl,_⟩:=h;rfl
 obtain⟨v,t,q,rfl,d,hq,hn,k⟩:=h;intro Xc;refine⟨_,ZN (Zv (Y3 (Z2 V5 rfl T.isi VA (ZW (pv 0) (ZW (Vs (v:=.ty "int") rfl T.int Q2 rfl) Zj)))) (ZR (Zd (Yw (ZW ZJ (ZW (pv 0) Zj))))) Zy)
  (ZN (Zv (Y3 (Z2 V5 rfl T.isi VA (ZW (pv 0) (ZW (Vs (v:=.ty "str") rfl T.str Ma rfl) Zj)))) (ZR (Zd (Yw (ZW ZJ (ZW (pv 0) Zj))))) Zy)
  (ZR (Zd (Yw (ZW ZJ (ZW (X0 NH rfl T.tuple Pb (ZW (Wr [] [] rfl (Mm (pv 0)) (λ_ _ _ _ _=>VV) (λ_ _ _ _ _=>Zg DS hr (ZW (pv 0) Zj)) trivial) Zj)) Zj)))))),?_⟩
 cases t with
 | int i=>
  have N:v=.int i:=by rw[ZD] at d;exact d
  subst N;refine⟨_,rfl,_,_,_,_,rfl,d.ty,LZ,_,rfl,Zw ?_⟩;exists _,rfl,(by show 2<=ar;decide)
  intro p U;refine k _ _ ?_ (ZU U _);rw[KT.st];exact .tup ZM (.cons (.int 0) (.cons (.int i) .nil))
 | str x=>
  have N:v=.str x:=by rw[ZD] at d;exact d
  subst N;refine⟨_,rfl,_,_,_,_,rfl,d.ty,KB,_,rfl,Zk ?_⟩;refine⟨_,rfl,_,_,_,_,rfl,d.ty,MR,_,rfl,Zw ?_⟩;exists _,rfl,(by show 2<=ar;decide)
  intro p U;refine k _ _ ?_ (ZU U _);rw[KT.st];exact .tup ZM (.cons (.int 1) (.cons (.str x) .nil))
 | tup l=>
  have C:=d;rw[ZD] at C;obtain⟨a,g,rfl,I,G⟩:=C;have hl:=G.length;rw[KT.fits,zR,zR] at hq;obtain⟨a5,X,B⟩:=hq;have a4:l.length<=4:=of_decide_eq_true X;rw[KT.depth] at hn;refine⟨_,rfl,_,_,_,_,rfl,d.ty,Ll,_,rfl,Zk ?_⟩;refine⟨_,rfl,_,_,_,_,rfl,d.ty,LO,_,rfl,Zk ?_⟩;exists _,rfl,a,rfl,⟨g,Zh.of I⟩;refine Vc (n:=g.length) (λi z=>g[i]? = some z) (λD i m r=>ZC H r/\H D=none/\jY r ((l.take i).map KT.st) m) (Yq ∅)
   (λD i m r S j=>⟨g,g[i],Zh.of (j.1 _ _ I),by simp[S]⟩) (λD i m r z u S j hy=>⟨hy.1,hy.2 g (Zh.of (j.1 _ _ I))⟩) (λD m r j=>⟨g,Zh.of (j.1 _ _ I),zY _⟩)
   (λD hD=>⟨ZU hD _,hD,.nil⟩) (λD i m r z M a3 S hz j R hR=>?_) (λD m r M j=>?_)
  ·obtain⟨L,nD,c⟩:=j;obtain⟨t,J,kt⟩:=G.get hz;have mt:=zK J;have Y:t.fits (q-1)=true:=by
    rw[LB] at B;exact zQ.mp B t mt
   have a2:=Pr mt;exists _,rfl,z,t,q-1,rfl,kt.sm L,Y,by lia
   intro v' u k4 s4;have y:=s4 D _ M;have tD:Z3 u (upd u D (.lst (m++[v']))):=(ZE.refl D u).upd.tups y;refine hR v' u y ⟨λb o e=>by rw[ZS (ZY e nD)];exact s4 b o (L b o e),nD,?_⟩
   rw[yM,J,zE];exact((c.sm s4).append (.cons k4 .nil)).mono tD _ _
  ·obtain⟨L,nD,c⟩:=j;have J:l.take g.length=l:=yV ∅
   rw[J] at c;have Z:=c.length;rw[zX] at Z;refine⟨D,m,rfl,.inl ⟨ZG.of M,λp1 V=>?_⟩⟩;have g1:=ZU V (.tup m);exists (by show 2<=ar;decide)
   intro p2 W;have O:=ZU W (.tup [.int 2,.ref p1]);refine k _ _ ?_ ((L.trans g1).trans O);rw[KT.st,Fc];exact .tup ZM (.cons (.int 2) (.cons (.tup (O _ _ ZM) (c.sm (g1.trans O))) .nil))
def Gj(T:YA mg)(L:Za K mg "standing" Ls zFa):∀ n:Nat,ZB P w K mg km (n+1) "standing" zFa (Vy n)
 | 0=>L.of λ_ _ _=>ZOx
 | n+1=>L.of λ_ _ F=>ZGj F T (Gj T L n)
def ZN3:ZA zE0 zE0 (Zc Kz):=Zr
def ZLf(F:Zf K "ahead" "ahead" Kz f fd)(e:ZB P w K mg km 6 "standing" zFa (Vy 5)):ZI P w K mg km ZZ 7 f fd zE0 XY:=by
 refine F.ok ZN3 (λt H Q E h=>?_) (λn A d s H t Q E c h=>?_)
 ·obtain⟨v,u,a,b,rfl,_⟩:=h;rfl
 obtain⟨v,u,a,b,rfl,o,p,g,i,k⟩:=h;intro y;exists _,ZR (Zd (VX (ZPW c) (Zg e c (ZW (pv 0) Zj)) (Zg e c (ZW (pv 1) Zj)) (Z9 _)));have z:=Um a 3 g;have B:=Um b 3 i;have C:=GU a;exists _,rfl,v,a,3,rfl,o,g,by lia
 intro D x q j;exists _,rfl,u,b,3,rfl,p.sm j,i,by lia
 intro G m r l;exists a.st,b.st,q.sm l,r,En a b,by lia
 rw[Fb];exact k m (j.trans l)
mutual
def KT.wide:KT->Nat->Bool
 | .int _,_=>true
 | .str _,_=>true
 | .tup l,r=>decide (0<r)&&(decide (l.length<=200)&&wideL l (r-1))
def wideL:jp->Nat->Bool
 | [],_=>true
 | t::l,r=>t.wide r&&wideL l r
end
def LX:∀(l:jp)(r:Nat),wideL l r=l.all (·.wide r)
 | [],r=>by rw[wideL];rfl
 | t::l,r=>by rw[wideL,LX l r];rfl
mutual
def N3:∀(t:KT)(r:Nat),t.fits r=true->t.wide r=true
 | .int _,_,_=>by rw[KT.wide]
 | .str _,_,_=>by rw[KT.wide]
 | .tup l,r,h=>by
  rw[KT.fits,zR,zR] at h;rw[KT.wide,zR,zR];have:=of_decide_eq_true h.2.1;exact⟨h.1,aK ∅,wideL_of l (r-1) h.2.2⟩
def wideL_of:∀(l:jp)(r:Nat),fitsL l r=true->wideL l r=true
 | [],_,_=>by rw[wideL]
 | t::l,r,h=>by
  rw[fitsL,zR] at h;rw[wideL,zR];exact⟨N3 t r h.1,wideL_of l r h.2⟩
end
def Kj{d:Sp}{k:Nat}{e:jr}(c:∀ a H Q E,¬ d a H Q E):ZI P w K mg km ZZ k f fd e d:=
 ⟨λa H Q E h=>absurd h (c a H Q E),λA b s H args g a Q E _ _ _ _ h=>absurd h (c a H Q E)⟩
def C5:ZA zEc zEc (Zc Mq):=Zr
mutual
def KT.rk:KT->KT
 | .int i=>.tup [.int 0,.int i,.str "",.tup []]
 | .str x=>.tup [.int 1,.int 0,.str x,.tup []]
 | .tup l=>.tup [.int 2,.int 0,.str "",.tup (rkL l)]
def rkL:jp->jp
 | []=>[]
 | t::l=>t.rk::rkL l
end
def FZ:∀ l:jp,rkL l=l.map KT.rk
 | []=>by rw[rkL];rfl
 | t::l=>by rw[rkL,FZ l];rfl
mutual
def Ez:∀ a b:KT,a.rk.eqb b.rk=a.eqb b
 | .int i,.int j=>by simp[KT.rk,KT.eqb,kc]
 | .str x,.str y=>by simp[KT.rk,KT.eqb,kc]
 | .tup l,.tup m=>by simp[KT.rk,KT.eqb,kc,eqbL_rk l m]
 | .int _,.str _=>by simp[KT.rk,KT.eqb,kc]
 | .int _,.tup _=>by simp[KT.rk,KT.eqb,kc]
 | .str _,.int _=>by simp[KT.rk,KT.eqb,kc]
 | .str _,.tup _=>by simp[KT.rk,KT.eqb,kc]
 | .tup _,.int _=>by simp[KT.rk,KT.eqb,kc]
 | .tup _,.str _=>by simp[KT.rk,KT.eqb,kc]
def eqbL_rk:∀ l m:jp,kc (rkL l) (rkL m)=kc l m
 | [],[]=>by simp[rkL,kc]
 | a::l,b::m=>by simp[rkL,kc,Ez a b,eqbL_rk l m]
 | [],_::_=>by simp[rkL,kc]
 | _::_,[]=>by simp[rkL,kc]
end
mutual
def K1:∀ a b:KT,a.rk.cmp b.rk=true
 | .int i,.int j=>by simp[KT.rk,KT.eqb,KT.cmp,cmpL,kc]
 | .str x,.str y=>by simp[KT.rk,KT.eqb,KT.cmp,cmpL,kc]
 | .tup l,.tup m=>by simp[KT.rk,KT.eqb,KT.cmp,cmpL,cmpL_rk l m]
 | .int _,.str _=>by simp[KT.rk,KT.eqb,KT.cmp,cmpL]
 | .int _,.tup _=>by simp[KT.rk,KT.eqb,KT.cmp,cmpL]
 | .str _,.int _=>by simp[KT.rk,KT.eqb,KT.cmp,cmpL]
 | .str _,.tup _=>by simp[KT.rk,KT.eqb,KT.cmp,cmpL]
 | .tup _,.int _=>by simp[KT.rk,KT.eqb,KT.cmp,cmpL]
 | .tup _,.str _=>by simp[KT.rk,KT.eqb,KT.cmp,cmpL]
def cmpL_rk:∀ l m:jp,cmpL (rkL l) (rkL m)=true
 | [],_=>by simp[rkL,cmpL]
 | _::_,[]=>by simp[rkL,cmpL]
 | a::l,b::m=>by
  rw[rkL,rkL,cmpL,cmpL_rk l m,K1 a b];split <;> rfl
end
mutual
def Ig:∀ a b:KT,a.rk.plt b.rk=a.lt b
 | .int i,.int j=>by
  simp only[KT.rk,KT.eqb,KT.plt,pltL,kc,KT.lt,beq_self_eq_true,if_true];by_cases h:i=j
  ·subst h;simp
  ·simp[h]
 | .str x,.str y=>by
  simp only[KT.rk,KT.eqb,KT.plt,pltL,kc,KT.lt,beq_self_eq_true,if_true];by_cases h:x=y
  ·subst h;simp
  ·simp[h]
 | .tup l,.tup m=>by
  simp only[KT.rk,KT.eqb,KT.plt,pltL,KT.lt,beq_self_eq_true,if_true,eqbL_rk,pltL_rk l m]
  cases h:kc l m with
  | true=>rw[aO rfl,EO h]
  | false=>rw[aM zV]
 | .int _,.str _=>by simp[KT.rk,KT.eqb,KT.plt,pltL,KT.lt]
 | .int _,.tup _=>by simp[KT.rk,KT.eqb,KT.plt,pltL,KT.lt]
 | .str _,.int _=>by simp[KT.rk,KT.eqb,KT.plt,pltL,KT.lt]
 | .str _,.tup _=>by simp[KT.rk,KT.eqb,KT.plt,pltL,KT.lt]
 | .tup _,.int _=>by simp[KT.rk,KT.eqb,KT.plt,pltL,KT.lt]
 | .tup _,.str _=>by simp[KT.rk,KT.eqb,KT.plt,pltL,KT.lt]
def pltL_rk:∀ l m:jp,pltL (rkL l) (rkL m)=ltL l m
 | [],[]=>by simp[rkL,pltL,ltL]
 | [],_::_=>by simp[rkL,pltL,ltL]
 | _::_,[]=>by simp[rkL,pltL,ltL]
 | a::l,b::m=>by rw[rkL,rkL,pltL,ltL,Ez a b,pltL_rk l m,Ig a b]
end
mutual
def LW:∀ t:KT,t.rk.depth<=2 * t.depth+2
 | .int i=>by simp[KT.rk,KT.depth,ke]
 | .str x=>by simp[KT.rk,KT.depth,ke]
 | .tup l=>by
  have:=depthL_rk l;simp only[KT.rk,KT.depth,ke]
  lia
def depthL_rk:∀ l:jp,ke (rkL l)<=2 * ke l+2
 | []=>by simp[rkL,ke]
 | t::l=>by
  have a:=LW t;have b:=depthL_rk l;rw[rkL,ke,ke]
  lia
end
inductive XI(n:Nat)(c:jf)(H:Hp)(Q:VK)(_:XK):Prop
 |mk(v:V)(t:KT)(q:Nat)(_:c=[v])(_:ZD H t v)(_:t.fits q=true)(_:t.depth<n)(_:∀(b:V)(a:Hp),ZD a t.rk b->ZC H a->Q b a)
def ZQa:ZA zEn zEn (Zc Lm):=Zr
def ZOl{n:Nat}(F:Zf K "_law_rank" "_law_rank" Lm f fd)(T:YA mg)(DS:ZB P w K mg km (n+1) "_law_rank" zEn (XI n)):ZI P w K mg km ZZ (n+2) f fd zEn (XI (n+1)):=by
 refine F.ko ZQa λa4 A a3 s H j Q E hr h=>?_;obtain⟨v,t,q,rfl,d,hq,hn,k⟩:=h;intro Xc;refine⟨_,ZN (Zv (Y3 (Z2 V5 rfl T.isi VA (Zl (pv 0) (Vs (v:=.ty "int") rfl T.int Q2 rfl)))) (ZR (Zd (Yw (VN ZJ (pv 0) Xm (Yw Zj))))) Zy)
  (ZN (Zv (Y3 (Z2 V5 rfl T.isi VA (Zl (pv 0) (Vs (v:=.ty "str") rfl T.str Ma rfl)))) (ZR (Zd (Yw (VN ZJ ZJ (pv 0) (Yw Zj))))) Zy)
  (ZR (Zd (Yw (VN ZJ ZJ Xm (X0 NH rfl T.tuple Pb (ZX (Wr [] [] rfl (Mm (pv 0)) (λ_ _ _ _ _=>VV) (λ_ _ _ _ _=>Zg DS hr (ZX (pv 0))) trivial)))))))),?_⟩
 cases t with
 | int i=>
  have O:v=.int i:=by rw[ZD] at d;exact d
  subst O;refine⟨_,rfl,_,_,_,_,rfl,d.ty,LZ,_,rfl,Zw ?_⟩;refine⟨_,rfl,(by show 0<=ar;decide),λp0 V=>⟨(by show 4<=ar;decide),λp X=>?_⟩⟩
  have S:=ZU V (.tup []);have r:=ZU X (.tup [.int 0,.int i,.str "",.ref p0]);refine k _ _ ?_ (S.trans r);rw[KT.rk];exact .tup ZM (.cons (.int 0) (.cons (.int i) (.cons (.str _) (.cons (.tup (r _ _ ZM) .nil) .nil))))
 | str x=>
  have O:v=.str x:=by rw[ZD] at d;exact d
  subst O;refine⟨_,rfl,_,_,_,_,rfl,d.ty,KB,_,rfl,Zk ?_⟩;refine⟨_,rfl,_,_,_,_,rfl,d.ty,MR,_,rfl,Zw ?_⟩;refine⟨_,rfl,(by show 0<=ar;decide),λp0 V=>⟨(by show 4<=ar;decide),λp X=>?_⟩⟩
  have S:=ZU V (.tup []);have r:=ZU X (.tup [.int 1,.int 0,.str x,.ref p0]);refine k _ _ ?_ (S.trans r);rw[KT.rk];exact .tup ZM (.cons (.int 1) (.cons (.int 0) (.cons (.str x) (.cons (.tup (r _ _ ZM) .nil) .nil))))
 | tup l=>
  have G:=d;rw[ZD] at G;obtain⟨a,j,rfl,J,I⟩:=G;have hl:=I.length;rw[KT.fits,zR,zR] at hq;obtain⟨a8,a0,C⟩:=hq;have a7:l.length<=4:=of_decide_eq_true a0;rw[KT.depth] at hn;refine⟨_,rfl,_,_,_,_,rfl,d.ty,Ll,_,rfl,Zk ?_⟩;refine⟨_,rfl,_,_,_,_,rfl,d.ty,LO,_,rfl,Zk ?_⟩;exists _,rfl,a,rfl,⟨j,Zh.of J⟩;refine Vc (n:=j.length) (λi z=>j[i]? = some z) (λD i m u=>ZC H u/\H D=none/\jY u ((l.take i).map KT.rk) m) (Yq ∅)
   (λD i m u W g=>⟨j,j[i],Zh.of (g.1 _ _ J),by simp[W]⟩) (λD i m u z y W g hy=>⟨hy.1,hy.2 j (Zh.of (g.1 _ _ J))⟩) (λD m u g=>⟨j,Zh.of (g.1 _ _ J),zY _⟩)
   (λD hD=>⟨ZU hD _,hD,.nil⟩) (λD i m u z N a6 W hz g R hR=>?_) (λD m u N g=>?_)
  ·obtain⟨M,nD,c⟩:=g;obtain⟨t,L,kt⟩:=I.get hz;have mt:=zK L;have a1:t.fits (q-1)=true:=by
    rw[LB] at C;exact zQ.mp C t mt
   have a5:=Pr mt;exists _,rfl,z,t,q-1,rfl,kt.sm M,a1,by lia
   intro v' y k4 s4;have B:=s4 D _ N;have tD:Z3 y (upd y D (.lst (m++[v']))):=(ZE.refl D y).upd.tups B;refine hR v' y B ⟨λb o e=>by rw[ZS (ZY e nD)];exact s4 b o (M b o e),nD,?_⟩
   rw[yM,L,zE];exact((c.sm s4).append (.cons k4 .nil)).mono tD _ _
  ·obtain⟨M,nD,c⟩:=g;have L:l.take j.length=l:=yV ∅
   rw[L] at c;have a2:=c.length;rw[zX] at a2;refine⟨D,m,rfl,.inl ⟨ZG.of N,λp1 Y=>?_⟩⟩;have r:=ZU Y (.tup m);exists (by show 4<=ar;decide)
   intro p2 Z;have U:=ZU Z (.tup [.int 2,.int 0,.str "",.ref p1]);refine k _ _ ?_ ((M.trans r).trans U);rw[KT.rk,FZ];exact .tup ZM (.cons (.int 2) (.cons (.int 0) (.cons (.str _) (.cons (.tup (U _ _ ZM) (c.sm (r.trans U))) .nil))))
def EI(T:YA mg)(L:Za K mg "_law_rank" Lm zEn):∀ n:Nat,ZB P w K mg km (n+1) "_law_rank" zEn (XI n)
 | 0=>L.of λ_ _ _=>Kj λb H Q E h=>by obtain⟨v,t,q,_,_,_,a,_⟩:=h;lia
 | n+1=>L.of λ_ _ F=>ZOl F T (EI T L n)
end Tw
namespace Tw
open PySem PySem.Spec L2 PyProof.Rows
variable{kh ki CS CT CH CK CP CB:ak}
def Fd:Kg KT.rk:=⟨Ig,K1,3,λt=>by cases t <;> (rw[KT.rk];exact⟨_,_,rfl,rfl⟩)⟩
def Ym(c:jp):Prop:=c.Pairwise λa b=>a.lt b=true
def Dq{c:jp}(d:c.Nodup)(h:c.Pairwise λa b=>b.lt a=false):Ym c:=by
 induction c with
 | nil=>exact .nil
 | cons a c g=>
  rw[xJ] at d;rw[wT] at h;refine wT.mpr ⟨λb f=>?_,g d.2 h.2⟩
  cases q:a.lt b with
  | true=>rfl
  | false=>
   have e:=IN a b q (h.1 b f);exact absurd (e ▸ f) d.1
def Iq{k:Nat}{A:ay}(r:ZT k A):A.units+4<cLine:=by have:=r.un;lia
def LU{p D:ak}{H a:Hp}(s:ZE p H a)(w:ZH a p)(n:a D=none):H D=none:=by
 cases e:H D with
 | none=>rfl
 | some o=>
  by_cases h:D=p
  ·subst h;obtain⟨c,b⟩:=w.some;rw[n] at b;cases b
  ·rw[s D o e h] at n;cases n
inductive U8(d:jf)(H:Hp)(Q:VK)(_:XK):Prop
 |mk(p:ak)(n:Nat)(_:d=[.ref p,.int (n:Int)])(_:ZH H p)(_:n<64)(_:∀(D:ak)(c:jf)(b:jp)(a:Hp),H D=none->a D=some (.lst c)->jY a b c->(∀ t∈b,t.fits 3=true)->Ym b->b.length<=n->ZH a p->ZE p H a->Q (.ref D) a)
def Qi:ZA ["_law_well_here","_law_many","_law_found","_law_j"] zEb (Zc Iv):=Zr
def AZ(F:Zf K "_law_keys" "_law_keys" Iv f fd)(T:YA mg)(DK:ZB P w K mg km 6 "_law_key" zEe (XE 4))(DR:ZB P w K mg km 6 "_law_rank" zEn (XI 5)):
  ZI P w K mg km ZZ 9 f fd zEb U8:=by
 refine F.ko Qi λa1 A a0 s H vs Q E S h=>?_;obtain⟨p,n,rfl,hw,hn,k⟩:=h;have nd:=Qi.nd;have U:=S.mono (show 6<=8 by lia (splits:=8))
 have DS:ZB P w K mg km 6 "_law_rank" zEn (PL KT.rk):=by
  obtain⟨g,gd,FG,b,kp,m⟩:=DR.ex;exact⟨g,gd,FG.imp λvs H Q E h=>by
   obtain⟨v,t,e,a,c,d⟩:=h;have:=Um t 3 c;exact⟨v,t,3,e,a,c,by lia (splits:=8),d⟩,b,kp,m⟩
 intro Xc;refine⟨_,ZN (Zi 2 nd G9)
  (ZN (Vo PassesOwn.never rfl (P4 rfl T.range (ZX (pv 1))) (Xe 3 nd)
   (ZR (Fl (Iq S) (pv 2) (Zg DK U (Zl (pv 0) ZJ)) Xr rfl)))
  (ZR (Zd (G1 Fd LW DS S rfl T.sorted rfl (ZX (pv 2)))))),?_⟩
 intro y H1 I _ s1 N;obtain⟨a2,Y⟩:=hw.some;have C:p≠y:=ZY Y I;refine⟨_,rfl,(n:Int),rfl,by lia (splits:=8),by lia (splits:=8),O7 (n:=(n:Int).toNat) (λi σ u=>∃(l:List (KT×V×V))(o:jg),σ=[some (.ref p),some (.int (n:Int)),some (.ref y),o]/\YM w u y l/\l.length<=i/\(∀ x∈l,x.1.fits 3=true)/\ZH u p/\ZE p H u)
  ⟨[],none,rfl,N,zY _,λx X=>by simp at X,hw.same s1,ZE.of s1⟩ (λi σ u hi R=>?_) (λσ u R=>?_)⟩
 ·obtain⟨l,o,rfl,L,lx,B,j,M⟩:=R;exists _,rfl,_,rfl,p,3,rfl,j,by lia (splits:=8)
  intro v t H3 kv ft W r;have tu:=r.tupsW j;refine⟨y,l,t,rfl,L.but r tu (Ne.symm C),by lia (splits:=8),kv,Um t 3 ft,λH4 J O=>⟨_,_,rfl,O,by have:=ZMw l t v (.bl true);lia (splits:=8),λx X=>?_,W.stay J C,λb Z e nb=>?_⟩⟩
  ·have:x.1∈(U1 l t v (.bl true)).map (·.1):=List.mem_map_of_mem X;rw[Kb] at this;split at this
   ·obtain⟨z,G,e⟩:=zM.mp this;rw[<-e];exact B z G
   ·rcases yQ.mp this with q | q
    ·obtain⟨z,G,e⟩:=zM.mp q;rw[<-e];exact B z G
    ·rw[zB.mp q];exact ft
  ·exact J b Z (r b Z (M b Z e nb) nb) (ZY e I)
 ·obtain⟨l,o,rfl,L,lx,B,j,M⟩:=R;exists _,rfl,y,l,rfl,L,B,by lia (splits:=8)
  intro D ws rs H5 s5 nD hD ka pm pw;have lr:=pm.length_eq;rw[zX] at lr;refine k D ws rs H5 (LU M j nD) hD ka (λt ht=>?_) (Dq (pm.nodup_iff.mpr L.nd) pw) (by lia (splits:=8)) (j.same s5) (M.trans (ZE.of s5))
  obtain⟨z,G,e⟩:=zM.mp (pm.mem_iff.mp ht);rw[<-e];exact B z G
section
open PySem.SeqAt
open PySem.AutoSeq1 (wpAny_loadPart')
open PySem.MeetsSeq PySem.MeetsSeq2 PySem.MeetsSeq3
end
inductive YE(n:Nat)(b:jf)(H:Hp)(Q:VK)(_:XK):Prop
 |mk(v u:V)(t m:KT)(r:Nat)(_:b=[v,u])(_:ZD H t v)(_:ZD H m u)(_:m.wide r=true)(_:r<n)(_:∀ a,ZC H a->Q (.bl (t.eqb m)) a)
def ZOT{l m:jp}(h:l.length≠m.length):kc l m=false:=by
 rw[<-O0,show (l.length==m.length)=false by simp[h],uS]
def ZNh{l m:jp}(h:l.length=m.length):((yX m.length).map λj=>(l.getD j (.int 0)).eqb (m.getD j (.int 0))).all id=kc l m:=by
 rw[<-O0,h,Nat.min_self,uT];simp
def ZJK{n:Nat}(F:Zf K "_law_alike" "_law_alike" Mq f fd)(T:YA mg)(DA:ZB P w K mg km (n+1) "_law_alike" zEc (YE n)):
  ZI P w K mg km ZZ (n+2) f fd zEc (YE (n+1)):=by
 refine F.ok C5 (λg H Q E h=>?_) (λa4 A a3 s H g Q E hr h=>?_)
 ·obtain⟨v,u,t,m,r,rfl,_⟩:=h;rfl
 obtain⟨v,u,t,m,r,rfl,d,B,hf,hn,k⟩:=h;intro Xc;refine⟨_,ZN (Zv (Y3 (Z2 V5 rfl T.isi VA (ZW (pv 1) (ZW (Vs (v:=.ty "tuple") rfl T.tuple Pb rfl) Zj))))
   (ZN (Zv (PW.pt (Ph (UB (Y3 (Z2 V5 rfl T.isi VA (ZW (pv 0) (ZW (Vs (v:=.ty "tuple") rfl T.tuple Pb rfl) Zj)))))
    (Pf (Yc Eo (Z2 WN rfl T.len Xu (ZW (pv 0) Zj)) (Z2 WN rfl T.len Xu (ZW (pv 1) Zj)) (Z9 _))))) (ZR (Zd Xr)) Zy)
   (ZR (Zd (Z2 (LH rfl) rfl T.all LG (ZW (Wr [0,1] zEc rfl (P4 rfl T.range (ZW (Z2 WN rfl T.len Xu (ZW (pv 1) Zj)) Zj)) (λ_ _ _ _ _=>VV)
    (λ_ _ _ _ _=>Zg DA hr (ZW (YJ K (pv 1) (pv 0)) (ZW (YJ K (pv 2) (pv 0)) Zj))) ⟨rfl,.inl rfl,rfl,rfl,.inl rfl,rfl,trivial⟩) Zj))))) Zy)
  (ZN (Zv (Y3 (Z2 V5 rfl T.isi VA (ZW (pv 1) (ZW (Vs (v:=.ty "str") rfl T.str Ma rfl) Zj))))
   (ZR (Zd (Q4 (Z2 V5 rfl T.isi VA (ZW (pv 0) (ZW (Vs (v:=.ty "str") rfl T.str Ma rfl) Zj))) (OI (VX VH (pv 0) (pv 1) (Z9 _)))))) Zy)
  (ZR (Zd (Q4 (Z2 V5 rfl T.isi VA (ZW (pv 0) (ZW (Vs (v:=.ty "int") rfl T.int Q2 rfl) Zj)))
   (Q4 (D5 (Z2 V5 rfl T.isi VA (ZW (pv 0) (ZW (Vs (v:=.ty "bool") rfl T.bool Dv rfl) Zj)))) (OI (VX VH (pv 0) (pv 1) (Z9 _)))))))),?_⟩
 have c:=k H (ZC.refl H)
 cases m with
 | int j=>
  have Y:u=.int j:=by rw[ZD] at B;exact B
  subst Y;refine⟨_,rfl,_,_,_,_,rfl,.int j,Ej,_,rfl,Zk ?_⟩;refine⟨_,rfl,_,_,_,_,rfl,.int j,kit_is',_,rfl,Zk ?_⟩
  cases t with
  | int i=>
   have Z:v=.int i:=by rw[ZD] at d;exact d
   subst Z;refine⟨_,rfl,_,_,_,_,rfl,.int i,LZ,_,rfl,Zw ?_⟩;refine⟨_,rfl,_,_,_,_,rfl,.int i,Gb,_,rfl,_,rfl,Zw ?_⟩;exists _,rfl,_,rfl,rfl;rw[KT.eqb] at c;have e:decide (V.int i=V.int j)=(i==j):=by
    by_cases z:i=j
    ·subst z;simp
    ·simp[z]
   rw[e];exact c
  | str x=>
   rw[show (KT.str x).eqb (.int j)=false by simp[KT.eqb]] at c
   exact⟨_,rfl,_,_,_,_,rfl,d.ty,KB,_,rfl,Zk c⟩
  | tup l=>
   rw[show (KT.tup l).eqb (.int j)=false by simp[KT.eqb]] at c
   exact⟨_,rfl,_,_,_,_,rfl,d.ty,Ll,_,rfl,Zk c⟩
 | str y=>
  have Y:u=.str y:=by rw[ZD] at B;exact B
  subst Y;refine⟨_,rfl,_,_,_,_,rfl,.str y,FQ,_,rfl,Zk ?_⟩;refine⟨_,rfl,_,_,_,_,rfl,.str y,MR,_,rfl,Zw ?_⟩
  cases t with
  | int i=>
   rw[show (KT.int i).eqb (.str y)=false by simp[KT.eqb]] at c
   exact⟨_,rfl,_,_,_,_,rfl,d.ty,kit_is',_,rfl,Zk c⟩
  | str x=>
   have Z:v=.str x:=by rw[ZD] at d;exact d
   subst Z;refine⟨_,rfl,_,_,_,_,rfl,.str x,MR,_,rfl,Zw ?_⟩;exists _,rfl,_,rfl,rfl;rw[KT.eqb] at c;have e:decide (V.str x=V.str y)=(x==y):=by
    by_cases z:x=y
    ·subst z;simp
    ·simp[z]
   rw[e];exact c
  | tup l=>
   rw[show (KT.tup l).eqb (.str y)=false by simp[KT.eqb]] at c
   exact⟨_,rfl,_,_,_,_,rfl,d.ty,LO,_,rfl,Zk c⟩
 | tup m=>
  have tu:=B.ty (K:=K);rw[ZD] at B;obtain⟨b,p,rfl,X,M⟩:=B;have a1:=M.length;rw[KT.wide,zR,zR] at hf;obtain⟨f0,f1,f2⟩:=hf;have r0:=of_decide_eq_true f0;have l4:=of_decide_eq_true f1;refine⟨_,rfl,_,_,_,_,rfl,tu,Hl,_,rfl,Zw ?_⟩
  cases t with
  | int i=>
   rw[show (KT.int i).eqb (.tup m)=false by simp[KT.eqb]] at c
   exact⟨_,rfl,_,_,_,_,rfl,d.ty,Ej,_,rfl,Zw (Zw c)⟩
  | str x=>
   rw[show (KT.str x).eqb (.tup m)=false by simp[KT.eqb]] at c
   exact⟨_,rfl,_,_,_,_,rfl,d.ty,FQ,_,rfl,Zw (Zw c)⟩
  | tup l=>
  have tv:=d.ty (K:=K);rw[ZD] at d;obtain⟨a,g,rfl,ea,N⟩:=d;have hl:=N.length;rw[KT.eqb] at k c;refine⟨_,rfl,_,_,_,_,rfl,tv,Hl,_,rfl,Zk ?_⟩;exists _,rfl,a,g,rfl,.inr (Zh.of ea),_,rfl,b,p,rfl,.inr (Zh.of X),rfl,_,rfl;by_cases O:g.length=p.length
  ·refine ZRN (by rw[O]) ?_
   exists _,rfl,b,p,rfl,.inr (Zh.of X),_,rfl,by lia (splits:=8),by lia (splits:=8)
   rw[tE];refine Vc (n:=p.length) (λi x=>x=.int (0+(i:Int))) (λD i G q=>ZC H q/\H D=none/\G=((yX i).map λj=>(l.getD j (.int 0)).eqb (m.getD j (.int 0))).map V.bl) (Yq (by lia (splits:=8)))
    (λD i G q S _=>S) (λD i G q x H4 S _ hy=>hy) (λD G q _=>zY _) (λD hD=>⟨ZU hD _,hD,rfl⟩) (λD i G q x W a5 S hx hP R hR=>?_) (λD G q W hP=>?_)
   ·subst hx;obtain⟨C,nD,rfl⟩:=hP;have a0:i<g.length:=by lia (splits:=8)
    have L:g[i]? = some g[i]:=by simp[a0]
    have J:p[i]? = some p[i]:=by simp[S]
    obtain⟨t,et,kt⟩:=N.get L;obtain⟨U,I,a2⟩:=M.get J;have ft:U.wide (r-1)=true:=by rw[LX] at f2;exact zQ.mp f2 U (zK I)
    have av:Xt g (0+(i:Int))=some g[i]:=by rw[Int.zero_add];exact Xo L
    have au:Xt p (0+(i:Int))=some p[i]:=by rw[Int.zero_add];exact Xo J
    refine⟨_,rfl,_,rfl,.inr (.inl ⟨a,g,_,_,rfl,rfl,Zh.of (C _ _ ea),av,_,rfl,_,rfl,.inr (.inl ⟨b,p,_,_,rfl,rfl,Zh.of (C _ _ X),au,g[i],p[i],t,U,r-1,rfl,kt.sm C,a2.sm C,ft,by lia (splits:=8),λH4 s4=>?_⟩)⟩)⟩
    refine hR _ H4 (s4 D _ W) ⟨λb o e=>by rw[ZS (ZY e nD)];exact s4 b o (C b o e),nD,?_⟩
    rw[List.range_succ,zE,zE]
    congr 1
    show [V.bl (t.eqb U)]=[V.bl ((l.getD i (.int 0)).eqb (m.getD i (.int 0)))];rw[zT,zT,et,I];rfl
   ·obtain⟨C,nD,rfl⟩:=hP;exists D,_,rfl,ZG.of W;rw[<-a1,ZNh (by lia (splits:=8))]
    exact k q C
  ·rw[ZOT (by lia (splits:=8))] at c
   rw[aJ (λz=>O (by have:=ME z;lia (splits:=8)))]
   exact Zw c
def Da(T:YA mg)(L:Za K mg "_law_alike" Mq zEc):∀ n:Nat,ZB P w K mg km (n+1) "_law_alike" zEc (YE n)
 | 0=>L.of λ_ _ _=>Kj λb H Q E h=>by obtain⟨v,u,t,m,r,_,_,_,_,a,_⟩:=h;lia
 | n+1=>L.of λ_ _ F=>ZJK F T (Da T L n)
inductive XX(i:jf)(H:Hp)(Q:VK)(_:XK):Prop
 |mk(a b:ak)(g h:jf)(e c:jp)(_:i=[.ref a,.ref b])(_:H a=some (.lst g))(_:H b=some (.lst h))(_:jY H e g)(_:jY H c h)(_:∀ t∈c,t.wide 4=true)(_:c.length<=200)(_:∀ d,ZC H d->Q (.bl (kc e c)) d)
def Cq:ZA zEc zEc (Zc IS):=Zr
def A5(F:Zf K "_law_rows_alike" "_law_rows_alike" IS f fd)(T:YA mg)(p:ZB P w K mg km 7 "_law_alike" zEc (YE 6)):ZI P w K mg km ZZ 8 f fd zEc XX:=by
 refine F.ko Cq λr A i s H N Q E y h=>?_;obtain⟨a,b,n,o,J,L,rfl,m,u,B,C,x,c,k⟩:=h;intro M;refine⟨_,ZR (Zd (Q4 (Z2 V5 rfl T.isi VA (Zl (pv 0) (Vs (v:=.ty "list") rfl T.list Uw rfl)))
  (OI (Zg p y (Zl (X0 NH rfl T.tuple Pb (ZX (pv 0))) (X0 NH rfl T.tuple Pb (ZX (pv 1)))))))),?_⟩
 refine⟨_,rfl,_,_,_,_,rfl,.lst m,(by kernel_rfl),_,rfl,Zw ?_⟩
 refine⟨_,rfl,a,n,rfl,.inl ⟨ZG.of m,λD d=>?_⟩⟩;have j:=ZU d (.tup n);refine⟨_,rfl,b,o,rfl,.inl ⟨ZG.of (j _ _ u),λG e=>?_⟩⟩;have l:=ZU e (.tup o);have g:=j.trans l;refine⟨.ref D,.ref G,.tup J,.tup L,5,rfl,.tup (l _ _ ZM) (B.sm g),.tup ZM (C.sm g),?_,by decide,λq I=>?_⟩
 ·rw[KT.wide,zR,zR,LX];exact⟨by decide,aK c,zQ.mpr λt z=>x t z⟩
 ·rw[KT.eqb];exact k q (g.trans I)
def Ur{H:Hp}{p q:ak}(W:ZH H p)(h:H q=none):q≠p:=λz=>by
 obtain⟨a,e⟩:=W.some;rw[z,e] at h;cases h
inductive UK(b:jf)(H:Hp)(Q:VK)(_:XK):Prop
 |mk(p:ak)(_:b=[.ref p])(_:ZH H p)(_:∀(v:V)(t:KT)(a:Hp),ZD a t v->t.fits 3=true->ZH a p->ZE p H a->Q v a)
def AQ:ZA zEg zEg (Zc Hd):=Zr
def ZMN(F:Zf K "_law_value" "_law_value" Hd f fd)(z:ZB P w K mg km 1 "_law_pull" zEb Zs)(J:ZB P w K mg km 6 "_law_key" zEe (XE 4)):ZI P w K mg km ZZ 7 f fd zEg UK:=by
 refine F.ko AQ λN A y s H vs Q E C h=>?_;obtain⟨p,rfl,W,q⟩:=h;have g:=C.to 1;intro Xc;refine⟨_,ZN (Zv (Yc VH (Zg z g (Zl (pv 0) ZJ)) ZJ (Z9 _)) (ZR (Zd (Zg J C (Zl (pv 0) ZJ)))) Zy)
  (ZR (Zd (YJ K (YG (pa6 ZJ ZJ Xm (Yw (ZX ZJ)) Xm (Yw Zj))) (Zg z g (Zl (pv 0) ZJ))))),?_⟩
 refine⟨_,rfl,p,3,rfl,W,Xn (by decide) (by decide),λw0 L a0 a1 k G=>⟨rfl,_,rfl,?_⟩⟩
 refine Xw (λc=>?_) (λc=>?_)
 ·exact⟨_,rfl,p,3,rfl,k,by decide,λv t a S R b j=>q v t a S R b (G.trans j)⟩
 exists Zu;intro l X;have B:=ZU X (.tup [.int 1]);exists Zu;intro m Y;have n:=ZU Y (.tup []);exists Zu;intro d i;have o:=ZU i (.lst [.int 0,.int 1,.str "1",.ref l,.str "",.ref m]);have u:ZC L _:=(B.trans n).trans o;have x:d≠p:=Ur (k.same (B.trans n)) i;exists _,rfl,p,6,rfl,k.same u,Xn (by decide) (by decide)
 intro r a Z r1 b j;have I:=j.tupsW (k.same u);have e:ZE p H a:=(G.trans (ZE.of u)).trans j;have T:ZD a (.tup [.int 1]) (.ref l):=.tup (I _ _ (o _ _ (n _ _ ZM))) (.cons (.int 1) .nil);have U:ZD a (.tup []) (.ref m):=.tup (I _ _ (o _ _ ZM)) .nil;have O:a d=some (.lst [.int 0,.int 1,.str "1",.ref l,.str "",.ref m]):=j d _ ZM x;obtain⟨v,M,D⟩:=Op (xs:=[V.int 0,.int 1,.str "1",.ref l,.str "",.ref m]) Z r1;refine .inl ⟨d,_,_,v,rfl,rfl,ZG.of O,M,?_⟩;simp only[zF,wY,or_false] at D;rcases D with rfl | rfl | rfl | rfl | rfl | rfl
 ·exact q _ _ a (.int 0) (by decide +kernel) b e
 ·exact q _ _ a (.int 1) (by decide +kernel) b e
 ·exact q _ _ a (.str _) (by decide +kernel) b e
 ·exact q _ _ a T (by decide +kernel) b e
 ·exact q _ _ a (.str _) (by decide +kernel) b e
 ·exact q _ _ a U (by decide +kernel) b e
end Tw
namespace L2
open PySem PySem.Spec PyProof.Rows
inductive PU(b:zZ)(c:jf)(H:Hp)(Q:VK):Prop
 |mk(p:ak)(a:jt)(_:c=[.ref p])(_:ZG b H p (a.map V.int))(_:Q (.int a.sum) H)
def ZPB(g:X.calm=true):Wu X (.builtin "sum") (PU X.K):=by
 intro d s A H z y Q I r h;obtain⟨p,c,rfl,j,q⟩:=h;obtain⟨u,rfl,m⟩:=Vp r;cases m;obtain⟨k,n,l,x⟩:=I.list j;have a:=ZIn n;obtain⟨v,e⟩:=a.allInts.items;have b:=l.isList;rw[e] at b;have f:v.toList.map (·.1)=c:=by
  rw[<-nums_intItems,<-e];exact a.numsOf
 refine sum_intListG (I.ok.hd g) b λw t o i=>⟨.int c.sum,H,I.kept (t':=t) i,⟨o,?_⟩,q⟩;rw[preSum_eq,yV (by simp),f]
end L2
namespace Tw
open PySem PySem.Spec L2 PyProof.Rows
variable{kh ki CS CT CH CK CP CB:ak}
def ZPd:az "sum" = some (.builtin "sum"):=by decide +kernel
structure YV where
 h:Int
 lo:KT
 hi:KT
 m:Int
abbrev jG:=List YV
def YV.d:YV:=⟨0,.int 0,.int 0,0⟩
def YV.kt(L:YV):KT:=.tup [.int L.h,L.lo,L.hi,.int L.m]
inductive Yz(H:Hp)(L:YV)(u:V):Prop
 |mk(a c b:_)(_:u=.ref a)(_:H a=some (.tup [.int L.h,c,b,.int L.m]))(_:ZD H L.lo c)(_:ZD H L.hi b)
def Yz.mono{H d:Hp}{L:YV}{u:V}(x:Yz H L u)(m:Z3 H d):Yz d L u:=by
 obtain⟨a,c,b,e,f,g,h⟩:=x;exact⟨a,c,b,e,m _ _ f,g.mono m _ _,h.mono m _ _⟩
def Yp(H:Hp)(a:jG)(b:jf):Prop:=b.length=a.length/\∀ i u,b[i]? = some u->Yz H (a.getD i .d) u
def Yp.mono{H a:Hp}{b:jG}{c:jf}(x:Yp H b c)(m:Z3 H a):Yp a b c:=⟨x.1,λi u e=>(x.2 i u e).mono m⟩
def YV.fit(L:YV):Prop:=L.lo.fits 3=true/\L.hi.fits 3=true
def Qe(a b:YV):Bool:=(a.h==b.h)&&a.hi.lt b.lo
def La(a:jG):Bool:=(yX (a.length-1)).all λj=>Qe (a.getD j .d) (a.getD (j+1) .d)
def over(a:jG):Option YV:=if 2<=a.length/\a.length<=4/\La a=true then some ⟨(a.getD 0 .d).h+1,(a.getD 0 .d).lo,(a.getD (a.length-1) .d).hi,(a.map YV.m).sum⟩ else none
def ZLP{a:jG}(b:2<=a.length)(c:a.length<=4)(h:∀ j,j<a.length-1->Qe (a.getD j .d) (a.getD (j+1) .d)=true):over a=some ⟨(a.getD 0 .d).h+1,(a.getD 0 .d).lo,(a.getD (a.length-1) .d).hi,(a.map YV.m).sum⟩:=
 aO ⟨b,c,zQ.mpr λj e=>h j (xY.mp e)⟩
inductive QS(d:jf)(H:Hp)(Q:VK)(_:XK):Prop
 |mk(v u:V)(a b:YV)(_:d=[v,u])(_:Yz H a v)(_:Yz H b u)(_:a.fit)(_:b.fit)(_:∀ c,ZC H c->Q (.bl (Qe a b)) c)
def Aw:ZA zE4 zE4 (Zc K8):=Zr
def ZOd(F:Zf K "stand_side_by_side" "stand_side_by_side" K8 f fd)(T:YA mg)(r:ZB P w K mg km 7 "ahead" zE0 XY):ZI P w K mg km ZZ 8 f fd zE4 QS:=by
 refine F.ko Aw λB A l s H X Q E J h=>?_;obtain⟨v,u,a,b,rfl,G,I,C,D,k⟩:=h;obtain⟨U,o⟩:=T.height;obtain⟨V,N⟩:=T.least;obtain⟨W,O⟩:=T.greatest;obtain⟨p,x,c,rfl,m,L,i⟩:=G;obtain⟨q,d,y,rfl,n,j,M⟩:=I;intro S;refine⟨_,ZR (Zd (Q4 (VX VH (YJ K (pv 0) (WP (v:=.int 0) rfl o ⟨_,rfl⟩)) (YJ K (pv 1) (WP (v:=.int 0) rfl o ⟨_,rfl⟩)) (Z9 _))
  (OI (Zg r J (Zl (YJ K (pv 0) (WP (v:=.int 2) rfl O ⟨_,rfl⟩)) (YJ K (pv 1) (WP (v:=.int 1) rfl N ⟨_,rfl⟩))))))),?_⟩
 refine⟨_,rfl,.inr (.inl ⟨p,_,_,.int a.h,rfl,rfl,Zh.of m,rfl,?_⟩)⟩;refine⟨_,rfl,.inr (.inl ⟨q,_,_,.int b.h,rfl,rfl,Zh.of n,rfl,rfl,_,rfl,?_⟩)⟩;by_cases g:a.h=b.h
 ·rw[aK (by rw[g])]
  refine Zw ?_;refine⟨_,rfl,.inr (.inl ⟨p,_,_,c,rfl,rfl,Zh.of m,rfl,?_⟩)⟩;refine⟨_,rfl,.inr (.inl ⟨q,_,_,d,rfl,rfl,Zh.of n,rfl,c,d,a.hi,b.lo,rfl,i,j,C.2,D.1,λt R=>?_⟩)⟩;have e:a.hi.lt b.lo=Qe a b:=by unfold Qe;rw[g,beq_self_eq_true,tZ]
  rw[e];exact k t R
 ·rw[aJ (λz=>g (ME z))];refine Zk ?_;have e:false=Qe a b:=by unfold Qe;rw[beq_eq_false_iff_ne.mpr g,vS]
  rw[e];exact k H (ZC.refl H)
def Ch{n:Int}(h:n.natAbs<10 ^ 60)(r:Nat):(KT.int n).fits r=true:=by rw[KT.fits];exact aK h
def Lf{H:Hp}{L:YV}{u:V}(h:ZD H L.kt u):Yz H L u:=by
 unfold YV.kt at h;rw[ZD] at h;obtain⟨a,r,rfl,e,b⟩:=h;rw[jY] at b;obtain⟨p,l,rfl,c,b⟩:=b;rw[jY] at b;obtain⟨j,m,rfl,g,b⟩:=b;rw[jY] at b;obtain⟨k,n,rfl,i,b⟩:=b;rw[jY] at b;obtain⟨q,o,rfl,d,b⟩:=b;rw[jY] at b;subst b;rw[ZD] at c d;subst c d;exact⟨a,j,k,rfl,e,g,i⟩
def ZRL:YV.d.fit:=⟨Ch (n:=0) (by decide) 3,Ch (n:=0) (by decide) 3⟩
def Ek(H:Hp)(b:jp)(c:jf):Prop:=c.length=b.length/\∀ i u,c[i]? = some u->∃ a d e,u=.ref a/\H a=some (.tup [d,e])/\ZD H (b.getD i (.int 0)) d
def KA(a:jp):KT:=.tup [.int 0,a.getD 0 (.int 0),a.getD (a.length-1) (.int 0),.int a.length]
def ZN0{a:jf}{u:V}(h:a[a.length-1]? = some u):Xt a (-1)=some u:=by
 have b:a≠[]:=λz=>by rw[z] at h;simp at h
 have e:a=a.dropLast++[u]:=by
  have c:a.getLast b=u:=by
   rw[zEE];exact(yT.mp h).2
  rw[<-c,qB]
 rw[e];exact DE _ _
inductive Wj(d:jf)(H:Hp)(Q:VK)(_:XK):Prop
 |mk(l:ak)(b:jf)(c:jp)(_:d=[.ref l])(_:H l=some (.lst b))(_:Ek H c b)(_:0<b.length)(_:∀(a:Hp)(v:V),ZC H a->ZD a (KA c) v->Q v a)
def ZKv:ZA zE2 zE2 (Zc Jg):=Zr
def ZIG(F:Zf K "label_of_rows" "label_of_rows" Jg f fd)(T:YA mg):ZI P w K mg km ZZ 1 f fd zE2 Wj:=by
 refine F.ko ZKv λq A i s H L Q E I h=>?_;obtain⟨l,c,J,rfl,e,d,u,k⟩:=h;intro C;refine⟨_,ZR (Zd (Yw (VN ZJ (YJ K (YJ K (pv 0) ZJ) ZJ)
  (YJ K (YJ K (pv 0) (Q3 Qz ZJ)) ZJ) (Z2 WN rfl T.len Xu (ZX (pv 0)))))),?_⟩
 have m:c[0]? = some c[0]:=zU u;have n:c[c.length-1]? = some (c[c.length-1]'∅):=zU ∅
 obtain⟨a,o,D,r,z,x⟩:=d.2 0 _ m;obtain⟨b,bk,G,t,B,y⟩:=d.2 _ _ n;rw[r] at m;rw[t] at n;refine⟨_,rfl,.inl ⟨l,c,_,.ref a,rfl,rfl,ZG.of e,Xo (j:=0) m,.inr (.inl ⟨a,_,_,o,rfl,rfl,Zh.of z,rfl,?_⟩)⟩⟩;refine⟨_,rfl,1,rfl,.inl ⟨l,c,_,.ref b,rfl,rfl,ZG.of e,ZN0 n,.inr (.inl ⟨b,_,_,bk,rfl,rfl,Zh.of B,rfl,?_⟩)⟩⟩;exists _,rfl,l,c,rfl,.inl (ZG.of e),Zu;intro p v;have g:=ZU v (.tup [.int 0,o,bk,.int c.length]);refine k _ _ g ?_;unfold KA;rw[<-d.1];exact .tup ZM (.cons (.int _) (.cons (x.sm g) (.cons (y.sm g) (.cons (.int _) .nil))))
abbrev YT:=KT×KT
abbrev jw:=List YT
def Mh(r:YT):KT:=.tup [r.1,r.2]
def YH(a:jw):jp:=a.map Mh
def YT.fit(r:YT):Prop:=r.1.fits 3=true/\r.2.fits 3=true
structure ZP where
 h:Nat
 rows:jw
 bs:jm
abbrev jn:=List ZP
def ZP.d:ZP:=⟨0,[],[]⟩
def gd(a:jn)(i:Nat):ZP:=a.getD i .d
def YZ{a:jn}{i:Nat}(h:i<a.length):a[i]? = some (gd a i):=by
 unfold gd;rw[zT,zU h];rfl
structure WJ(ts:jn)(i:Nat)(t:ZP):Prop where
 ne:t.rows≠[]
 up:(t.rows.map (·.1)).Pairwise λa b=>a.lt b=true
 inn:∀ r∈t.rows,r.fit
 leaf:t.h=0->t.bs=[]/\t.rows.length<=4
 stem:t.h≠0->2<=t.bs.length/\t.bs.length<=4/\(∀ b∈t.bs,b<i/\(gd ts b).h+1=t.h)/\t.rows=t.bs.flatMap λb=>(gd ts b).rows
def WF(a:jn):Prop:=∀ i t,a[i]? = some t->WJ a i t
def kindOf(t:ZP):Str:=if t.h=0 then "leaf" else "stem"
def WX{H c:Hp}{a:ak}{o:HO}(s:ZC H c)(n:H a=none):ZC H (upd c a o):=λb u e=>by rw[ZS (ZY e n)];exact s b u e
abbrev iN(l:jm):jf:=l.map λb=>V.int (b:Nat)
def L0(a b:jw):YH (a++b)=YH a++YH b:=zE
def C8{a:jf}{j:Nat}{v:V}(b:1<=j)(c:j<=a.length)(h:a[a.length-j]? = some v):Xt a (-(j:Int))=some v:=by
 unfold Xt;have e:QC a.length (-(j:Int))=some (a.length-j):=by
  unfold QC;rw[aM ∅,aO ∅]
  congr 1
  lia
 rw[e];exact h
def rd:YT:=(.int 0,.int 0)
def YK(t:ZP):YV:=⟨t.h,(t.rows.getD 0 rd).1,(t.rows.getD (t.rows.length-1) rd).1,t.rows.length⟩
def Q0{H:Hp}{c:jw}{k:jf}{i:Nat}{u:V}(h:jY H (YH c) k)(e:k[i]? = some u):∃ a l m,c[i]? = some (c.getD i rd)/\u=.ref a/\H a=some (.tup [l,m])/\ZD H (c.getD i rd).1 l/\ZD H (c.getD i rd).2 m:=by
 obtain⟨t,d,g⟩:=h.get e;unfold YH at d;rw[zD] at d;obtain⟨r,j,rfl⟩:=xR.mp d;have n:c.getD i rd=r:=by rw[zT,j];rfl
 unfold Mh at g;rw[ZD] at g;obtain⟨a,z,rfl,o,b⟩:=g;rw[jY] at b;obtain⟨s,x,rfl,p,b⟩:=b;rw[jY] at b;obtain⟨v,y,rfl,q,b⟩:=b;rw[jY] at b;subst b;rw[n];exact⟨a,s,v,j,rfl,o,p,q⟩
def Yp.snoc{H:Hp}{d:jG}{a:jf}{L:YV}{u:V}(h:Yp H d a)(j:Yz H L u):Yp H (d++[L]) (a++[u]):=by
 exists by rw[zW,zW,h.1];rfl
 intro i w e;rcases yA i a.length with b | b
 ·rw[wP b] at e;have:=h.2 i w e;rw[zT] at this⊢;rw[wP (by rw[<-h.1];exact b)]
  exact this
 ·rw[xQ b] at e;have c:i-a.length=0:=by
   rcases Nat.eq_zero_or_pos (i-a.length) with z | z
   ·exact z
   ·rw[qJ (by simp;lia)] at e;cases e
  rw[c] at e;simp at e;subst e;have g:i=d.length:=by have:=h.1;lia
  rw[zT,g];simp;exact j
def inT(a:jn)(x:Int):Bool:=decide (0<=x/\x<(a.length:Int))
def IY(a:jG):Prop:=∀ j,j+1<a.length->(a.getD (j+1) .d).h=(a.getD 0 .d).h/\(a.getD j .d).hi.lt (a.getD (j+1) .d).lo=true
def QJ{c:jG}:IY c ↔ La c=true:=by
 unfold IY La Qe;rw[zQ];constructor
 ·intro h j e;have i:j<c.length-1:=xY.mp e;obtain⟨a,b⟩:=h j ∅
  rw[zR];refine⟨?_,b⟩;rw[beq_iff_eq,a]
  cases j with
  | zero=>rfl
  | succ j=>exact(h j ∅).1
 ·intro h;have g:∀ j,j<c.length->(c.getD j .d).h=(c.getD 0 .d).h:=λj=>by
   induction j with
   | zero=>intro _;rfl
   | succ j k=>
    intro e;have:=h j (xY.mpr ∅)
    rw[zR,beq_iff_eq] at this;rw[<-this.1];exact k ∅
  intro j e;have:=h j (xY.mpr ∅)
  rw[zR] at this;exact⟨g (j+1) e,this.2⟩
def HS{d:jn}{i:Nat}{t:ZP}(h:WJ d i t):(YK t).fit:=by
 have a:0<t.rows.length:=uE.mpr h.ne;have b:t.rows.getD 0 rd∈t.rows:=by rw[zT,zU a];exact xL _
 have c:t.rows.getD (t.rows.length-1) rd∈t.rows:=by rw[zT,zU (show t.rows.length-1<t.rows.length by lia)];exact xL _
 exact⟨(h.inn _ b).1,(h.inn _ c).1⟩
def XA(c:jn)(a:jm):jG:=a.map λb=>YK (gd c b)
structure ZL(P:am)(w:ax)(K:zZ)(mg:jc)(km:aE)(CX:Wg)(k:Nat)(C:ak)(m:Str)(ps:jr)(sp:Sp):Prop where
 ex:∃ f fd,QE K C m f/\ZI P w K mg km CX k f fd ps sp/\Zt K fd ps []
def XQ{X:Cx}{i:Wg}{k:Nat}{C:ak}{m:Str}{v:jr}{j:Sp}{E:XK}{o e:Expr}{d:jB}{l:TE}{t:TA}{pos a:Pos}{u:Sem Bool}(p:PE X o l)(c:V8 X.K C)(D:ZL X.prog X.w X.K X.mg X.base i k C m v j)(q:ZT k X.A)(s:Ut i X E)(n:PA X (e::d) t)(h:aw (e::d) X.env=(false,aH e X.env)::aw d X.env:=by rfl)(g:(aG pos (aw d X.env)).any (·.1)=false:=by rfl)(r:aH (.Call (.Attribute o m a) (e::d) [] pos) X.env=(do
   let ov<-aH o X.env
   standAt a.atName
   let (f,first)<-holding [ov] (getMethod ov m u)
   callWith pos f first (aG pos (aw (e::d) X.env)) (backToKw pos (keywordEach [] X.env))):=by rfl):
  PE X (.Call (.Attribute o m a) (e::d) [] pos) (LV C m j [] E l t):=by
 obtain⟨f,fd,M,F,b⟩:=D.ex;exact ZOW p c M F q b .nil s n h g r
def GB{X:Cx}{d:Wg}{k:Nat}{C:ak}{m:Str}{p:jr}{e:Sp}{E:XK}{o:Expr}{g:TE}{pos a:Pos}{n:Sem Bool}(h:PE X o g)(c:V8 X.K C)(D:ZL X.prog X.w X.K X.mg X.base d k C m p e)(i:ZT k X.A)(l:Ut d X E)(j:aH (.Call (.Attribute o m a) [] [] pos) X.env=(do
   let ov<-aH o X.env
   standAt a.atName
   let (f,first)<-holding [ov] (getMethod ov m n)
   callWith pos f first (aG pos (aw [] X.env)) (backToKw pos (keywordEach [] X.env))):=by rfl):
  PE X (.Call (.Attribute o m a) [] [] pos) (LV C m e [] E g Vr):=by
 obtain⟨f,fd,M,F,b⟩:=D.ex;exact ZLX h c M F i b .nil l j
abbrev Ks:Stmt:=VO (Zq 29) 0
abbrev K4:Stmt:=VO (Zq 49) 0
abbrev IU:Stmt:=VO (Zq 49) 1
abbrev Jq:Stmt:=VO (Zq 49) 3
abbrev IJ:Stmt:=VO (Zq 49) 7
abbrev Kd:Stmt:=VO (Zq 49) 8
abbrev Mg:Stmt:=VO (Zq 49) 12
abbrev KH:Stmt:=VO (Zq 49) 13
abbrev M9:Stmt:=VO (Zq 49) 18
structure Yh(K:zZ)(mg:jc)(kh ki:ak):Prop where
 shelf:mg "Shelf" = some (.ref kh)
 twig:mg "Twig" = some (.ref ki)
 cS:V8 K kh
 cT:V8 K ki
 nk:Z6 K kh "kept"
 nf:Z6 K kh "following"
 nl:Z6 K kh "looks"
 nth:Z6 K ki "things"
 ntg:Z6 K ki "tag"
 nab:Z6 K ki "above"
 nho:Z6 K ki "holds"
abbrev Pe(d a:ak)(n:Nat):List (Str×V):=[("kept",.ref d),("following",.int n),("looks",.ref a)]
abbrev Uz(d c:V)(a:ak)(b:Nat):List (Str×V):=[("things",d),("tag",c),("above",.ref a),("holds",.int b)]
structure Yy(kh:ak)(H:Hp)(S d lk:ak)(n:Nat)(kvs:List (Zb×V))(ls:jf):Prop where
 self:∃ dx,H S=some (.ins kh dx (Pe d lk n))
 kept:H d=some (.dK kvs)
 looks:H lk=some (.lst ls)
structure WL(ki:ak)(H:Hp)(x:ak)(th tg:V)(ab:ak)(ho:Nat)(us:jf):Prop where
 self:∃ dx,H x=some (.ins ki dx (Uz th tg ab ho))
 above:H ab=some (.lst us)
def Yy.same{kh:ak}{H b:Hp}{S d c:ak}{n:Nat}{a:List (Zb×V)}{g:jf}(h:Yy kh H S d c n a g)(s:ZC H b):Yy kh b S d c n a g:=by
 obtain⟨⟨i,e⟩,j,k⟩:=h;exact⟨⟨i,s _ _ e⟩,s _ _ j,s _ _ k⟩
def WL.same{ki:ak}{H a:Hp}{x:ak}{g d:V}{b:ak}{c:Nat}{i:jf}(h:WL ki H x g d b c i)(s:ZC H a):WL ki a x g d b c i:=by
 obtain⟨⟨j,e⟩,k⟩:=h;exact⟨⟨j,s _ _ e⟩,s _ _ k⟩
inductive Qc(ki:ak)(h:jf)(H:Hp)(Q:VK)(_:XK):Prop
 |mk(x g:ak)(e d:V)(_:h=[.ref x,e,d])(_:H x=some (.ins ki g []))(_:∀(a:Hp)(c:ak),(∀ b o,b≠x->H b=some o->a b=some o)->H c=none->WL ki a x e d c 1 []->Q .non a)
def Bl:ZA zEw zEw (Zc Ks):=Zr
def ZPa(F:Zf K "__init__" "Twig.__init__" Ks f fd)(L:Yh K mg kh ki):ZI P w K mg km ZZ 1 f fd zEw (Qc ki):=by
 refine F.ko Bl λl A j s H u Q E q h=>?_;obtain⟨x,d,t,r,rfl,m,k⟩:=h;intro p;exists _,ZN (Pd (pv 0) (pv 1) rfl) (ZN (Pd (pv 0) (pv 2) rfl) (ZN (Pd (pv 0) (YG Zj) rfl) (ZR (Pd (pv 0) ZJ rfl))));exists _,rfl,_,rfl,x,ki,d,_,rfl,m,L.cT,L.nth,yH rfl;exists _,rfl,_,rfl,x,ki,d,_,rfl,ZM,L.cT,L.ntg,yH rfl;exists Zu;intro i a;rw[Mw] at a⊢;have c:x≠i:=λz=>by rw[<-z,ZM] at a;cases a
 have g:H i=none:=by rw[ZS (Ne.symm c)] at a;exact a
 exists _,rfl,x,ki,d,_,rfl,(by rw[ZS c];exact ZM),L.cT,L.nab,yH rfl
 exists _,rfl,x,ki,d,_,rfl,ZM,L.cT,L.nho,yH rfl;refine k _ i (λb o n e=>?_) g ⟨⟨d,ZM⟩,?_⟩
 ·rw[Mw,ZS n,ZS (ZY e g),ZS n];exact e
 ·rw[Mw,ZS (Ne.symm c)];exact ZM
inductive Qa(kh:ak)(g:jf)(H:Hp)(Q:VK)(_:XK):Prop
 |mk(x e:ak)(_:g=[.ref x])(_:H x=some (.ins kh e []))(_:∀(a:Hp)(d c:ak),(∀ b o,b≠x->H b=some o->a b=some o)->H d=none->H c=none->d≠c->Yy kh a x d c 0 [] []->Q .non a)
def Ct:ZA zEs zEs (Zc K4):=Zr
def ZPX(F:Zf K "__init__" "Shelf.__init__" K4 f fd)(L:Yh K mg kh ki):ZI P w K mg km ZZ 1 f fd zEs (Qa kh):=by
 refine F.ko Ct λu A p s H B Q E y h=>?_;obtain⟨x,j,rfl,t,k⟩:=h;intro v;exists _,ZN (Pd (pv 0) Ly rfl) (ZN (Pd (pv 0) ZJ rfl) (ZR (Pd (pv 0) (YG Zj) rfl)));intro d m;have q:x≠d:=ZY t m;exists _,rfl,x,kh,j,_,rfl,(by rw[ZS q];exact t),L.cS,L.nk,yH rfl
 exists _,rfl,x,kh,j,_,rfl,ZM,L.cS,L.nf,yH rfl;exists Zu;intro g c;rw[Mw] at c⊢;have r:x≠g:=λz=>by rw[<-z,ZM] at c;cases c
 have a:upd H d (.dK []) g=none:=by rw[ZS (Ne.symm r)] at c;exact c
 have l:d≠g:=λz=>by rw[<-z,ZM] at a;cases a
 have i:H g=none:=by rw[ZS (Ne.symm l)] at a;exact a
 exists _,rfl,x,kh,j,_,rfl,(by rw[ZS r];exact ZM),L.cS,L.nl,yH rfl
 refine k _ d g (λb o n e=>?_) m i l ⟨⟨j,ZM⟩,?_,?_⟩
 ·rw[ZS n,ZS (ZY e i),ZS n,ZS (ZY e m)];exact e
 ·rw[ZS (Ne.symm q),ZS l,ZS (Ne.symm q)];exact ZM
 ·rw[ZS (Ne.symm r)];exact ZM
inductive YO(kh:ak)(g:jf)(H:Hp)(Q:VK)(_:XK):Prop
 |mk(S d c:ak)(n:Nat)(a:List (Zb×V))(e:jf)(i:Int)(b:V)(_:g=[.ref S,.int i])(_:Yy kh H S d c n a e)(_:YR a (.inl i)=some b)(_:Q b H)
def F9:ZA zEa zEa (Zc M9):=Zr
def Ao(F:Zf K "twig_of" "Shelf.twig_of" M9 f fd)(L:Yh K mg kh ki):ZI P w K mg km ZZ 1 f fd zEa (YO kh):=by
 refine F.ko F9 λl A a s H x Q E o h=>?_;obtain⟨S,d,u,n,q,v,i,b,rfl,⟨⟨c,e⟩,m,t⟩,p,k⟩:=h;have j:=PF o;intro r;exists _,ZN (Zv (WA (IW j (pv 1) (We (pv 0) rfl))) P3 Zy) (ZR (Zd (PD j (We (pv 0) rfl) (pv 1))));have g:Yk H d (.int i) (some b):=p ▸ Yk.k (k:=Sum.inl i) m;refine⟨_,rfl,_,rfl,S,kh,c,_,.ref d,rfl,e,L.cS,L.nk,rfl,d,some b,rfl,g,_,rfl,Zk ?_⟩;exact⟨_,rfl,S,kh,c,_,.ref d,rfl,e,L.cS,L.nk,rfl,_,rfl,d,b,rfl,g,k⟩
structure Ul(P:am)(w:ax)(K:zZ)(mg:jc)(km:aE)(k:Nat)(C:ak)(ps:jr)(sp:Sp):Prop where
 ex:∃ f fd,Mk K C f/\ZI P w K mg km ZZ k f fd ps sp/\Zt K fd ps []
structure VW(kh ki:ak)(H:Hp)(S d lk:ak)(n:Nat)(kvs:List (Zb×V))(ls:jf)(i:Int)(x:ak)(th tg:V)(ab:ak)(ho:Nat)(us:jf):Prop where
 sh:Yy kh H S d lk n kvs ls
 val:YR kvs (.inl i)=some (.ref x)
 tw:WL ki H x th tg ab ho us
def VW.same{kh ki:ak}{H b:Hp}{S d g:ak}{n:Nat}{a:List (Zb×V)}{j:jf}{i:Int}{x:ak}{l k:V}{c:ak}{e:Nat}{m:jf}(h:VW kh ki H S d g n a j i x l k c e m)(s:ZC H b):VW kh ki b S d g n a j i x l k c e m:=⟨h.sh.same s,h.val,h.tw.same s⟩
inductive V4(kh ki:ak)(res:V->Nat->jf->V)(l:jf)(H:Hp)(Q:VK)(_:XK):Prop
 |mk(S d h:ak)(n:Nat)(a:List (Zb×V))(j:jf)(i:Int)(x:ak)(k c:V)(g:ak)(b:Nat)(e:jf)(_:l=[.ref S,.int i])(_:VW kh ki H S d h n a j i x k c g b e)(_:Q (res c b e) H)
def ZLF:ZA zEa zEa (Zc Kd):=Zr
def ZIE(F:Zf K "outside" "Shelf.outside" Kd f fd)(L:Yh K mg kh ki)(e:ZL P w K mg km ZZ 1 kh "twig_of" zEa (YO kh)):ZI P w K mg km ZZ 2 f fd zEa (V4 kh ki λ_ a _=>.int a):=by
 refine F.ko ZLF λg A c s H B Q E o h=>?_;obtain⟨S,d,q,n,b,r,i,x,y,v,u,a,z,rfl,R,k⟩:=h;intro t;exists _,ZR (Zd (We (XQ (E:=E0) (pv 0) L.cS e o XJ (ZX (pv 1))) rfl));obtain⟨l,m⟩:=R.sh.self;obtain⟨j,p⟩:=R.tw.self;exact⟨_,rfl,S,l,_,rfl,m,rfl,_,rfl,S,d,q,n,b,r,i,.ref x,rfl,R.sh,R.val,x,ki,j,_,.int a,rfl,p,L.cT,L.nho,rfl,k⟩
def Ft:ZA zEa zEa (Zc KH):=Zr
def ZMp(F:Zf K "label" "Shelf.label" KH f fd)(L:Yh K mg kh ki)(e:ZL P w K mg km ZZ 1 kh "twig_of" zEa (YO kh)):ZI P w K mg km ZZ 2 f fd zEa (V4 kh ki λc _ _=>c):=by
 refine F.ko Ft λg A b s H B Q E o h=>?_;obtain⟨S,d,q,n,a,r,i,x,y,c,u,v,z,rfl,R,k⟩:=h;intro t;exists _,ZR (Zd (We (XQ (E:=E0) (pv 0) L.cS e o XJ (ZX (pv 1))) rfl));obtain⟨l,m⟩:=R.sh.self;obtain⟨j,p⟩:=R.tw.self;exact⟨_,rfl,S,l,_,rfl,m,rfl,_,rfl,S,d,q,n,a,r,i,.ref x,rfl,R.sh,R.val,x,ki,j,_,c,rfl,p,L.cT,L.ntg,rfl,k⟩
def Wo:ZA zFb zEa (Zc IJ):=Zr
def ZIL(F:Zf K "holders" "Shelf.holders" IJ f fd)(T:YA mg)(L:Yh K mg kh ki)(m:ZL P w K mg km ZZ 1 kh "twig_of" zEa (YO kh)):ZI P w K mg km ZZ 2 f fd zEa (V4 kh ki λ_ a e=>.int ((e.length:Nat)+(a:Nat):Int)):=by
 refine F.ko Wo λo A c s H C Q E r h=>?_;obtain⟨S,d,t,n,b,u,i,x,B,z,g,a,e,rfl,R,k⟩:=h;have v:=Wo.nd;intro y;exists _,ZN (Zi 2 v (XQ (E:=E0) (pv 0) L.cS m r XJ (ZX (pv 1)))) (ZR (Zd (Zx WW (Z2 WN rfl T.len Xu (ZX (We (pv 2) rfl))) (We (pv 2) rfl))));obtain⟨p,q⟩:=R.sh.self;obtain⟨j,l⟩:=R.tw.self;exists _,rfl,S,p,_,rfl,q,rfl,_,rfl,S,d,t,n,b,u,i,.ref x,rfl,R.sh,R.val;exact⟨_,rfl,x,ki,j,_,.ref g,rfl,l,L.cT,L.nab,rfl,g,e,rfl,.inl (ZG.of R.tw.above),_,rfl,x,ki,j,_,.int a,rfl,l,L.cT,L.nho,rfl,_,_,rfl,rfl,k⟩
inductive VE(ki:ak)(g:jf)(H:Hp)(Q:VK)(_:XK):Prop
 |mk(x:ak)(d:V)(a b:ak)(c:Nat)(e:jf)(h:Int)(i:jf)(_:g=[.ref x])(_:WL ki H x d (.ref a) b c e)(_:H a=some (.tup (.int h::i)))(_:Q (.bl (decide (h > 0))) H)
def ZPM:ZA ["twig"] ["twig"] (Zc Im):=Zr
def ZN9(F:Zf K "is_stem" "is_stem" Im f fd)(T:YA mg)(L:Yh K mg kh ki):ZI P w K mg km ZZ 1 f fd ["twig"] (VE ki):=by
 refine F.ko ZPM λc A a s H u Q E p h=>?_;obtain⟨x,r,b,n,o,t,e,y,rfl,W,g,k⟩:=h;obtain⟨q,l⟩:=T.height;obtain⟨d,i⟩:=W.self;intro m;exists _,ZR (Zd (VX OD (YJ K (We (pv 0) rfl) (WP (v:=.int 0) rfl l ⟨_,rfl⟩)) ZJ (Z9 _)));exact⟨_,rfl,x,ki,d,_,.ref b,rfl,i,L.cT,L.ntg,rfl,.inr (.inl ⟨b,_,_,.int e,rfl,rfl,Zh.of g,Xo (j:=0) rfl,_,_,rfl,rfl,k⟩)⟩
inductive Qb(kh ki:ak)(s:jf)(H:Hp)(Q:VK)(_:XK):Prop
 |mk(S d c:ak)(n:Nat)(e:List (Zb×V))(j:jf)(i:Int)(x k m l:ak)(r:Nat)(q p u:jf)(h:Int)(_:s=[.ref S,.int i])(_:VW kh ki H S d c n e j i x (.ref k) (.ref m) l r q)(_:H k=some (.lst p))(_:H m=some (.tup (.int h::u)))(_:c≠k)(_:c≠l)(_:j.length<=900)(_:∀(a:Hp)(g t:ak),(∀ b o,b≠c->H b=some o->a b=some o)->a c=some (.lst (j++[.int i]))->H g=none->a g=some (.lst p)->a t=some (.tup [.str (if h > 0 then "stem" else "leaf"),.ref g])->Q (.ref t) a)
def Wz:ZA zFb zEa (Zc Mg):=Zr
def Ar(F:Zf K "look" "Shelf.look" Mg f fd)(T:YA mg)(L:Yh K mg kh ki)(DT:ZL P w K mg km ZZ 1 kh "twig_of" zEa (YO kh))(DS:ZB P w K mg km 1 "is_stem" ["twig"] (VE ki)):ZI P w K mg km ZZ 2 f fd zEa (Qb kh ki):=by
 refine F.ko Wz λa3 A a0 s H vs Q E hr h=>?_;obtain⟨S,d,j,n,W,p,i,x,J,tg,ab,ho,as,M,xs,U,rfl,R,V,C,Y,X,a2,k⟩:=h;have nd:=Wz.nd;intro Xc;refine⟨_,ZN (Zi 2 nd (XQ (E:=E0) (pv 0) L.cS DT hr XJ (ZX (pv 1))))
  (ZN (Xl (VM yK xH xG Uh (We (pv 0) rfl) (ZX (pv 1))))
  (ZN (Zv (Y3 (Zg DS hr (ZX (pv 2)))) (ZR (Zd (Yw (Zl Xm (X0 Qu rfl T.list Uw (ZX (We (pv 2) rfl))))))) Zy)
  (ZR (Zd (Yw (Zl Xm (X0 Qu rfl T.list Uw (ZX (We (pv 2) rfl))))))))),?_⟩
 obtain⟨dx,hS⟩:=R.sh.self;obtain⟨O,hx⟩:=R.tw.self;exists _,rfl,S,dx,_,rfl,hS,rfl,_,rfl,S,d,j,n,W,p,i,.ref x,rfl,R.sh,R.val;have l:=R.sh.looks;exists _,rfl,S,kh,dx,_,.ref j,rfl,hS,L.cS,L.nl,rfl,.inl ⟨rfl,_,ZG.of l⟩,_,rfl,j,p,.int i,rfl,rfl,l,Yq ∅
 have G:∀ b o,b≠j->H b=some o->upd H j (.lst (p++[.int i])) b=some o:=λb o n e=>by rw[ZS n];exact e
 have a1:x≠j:=ZV hx l;have I:tg≠j:=ZV C l;have q:=G _ _ a1 hx;have D:=G _ _ I C;have u:=G _ _ (Ne.symm X) R.tw.above;have m:=G _ _ (Ne.symm Y) V;have v:upd H j (.lst (p++[.int i])) j=some (.lst (p++[.int i])):=ZM;have r:∀(w:Str)(c t:ak),upd H j (.lst (p++[.int i])) c=none->upd (upd H j (.lst (p++[.int i]))) c (.lst M) t=none->w=(if U > 0 then ("stem" : Str) else "leaf")->Q (.ref t) (upd (upd (upd H j (.lst (p++[.int i]))) c (.lst M)) t (.tup [.str w,.ref c])):=λw c t a B ew=>by
  have g1:=ZU a (.lst M);have g2:=ZU B (.tup [.str w,.ref c]);have g:=g1.trans g2;have Z:H c=none:=by
   cases z:H c with
   | none=>rfl
   | some o=>
    have:c≠j:=λy=>by rw[y,ZM] at a;cases a
    rw[ZS this,z] at a;cases a
  refine k _ c t (λb o n e=>g _ _ (G b o n e)) (g _ _ v) Z (g2 _ _ ZM) ?_;rw[ZM,ew]
 exists _,rfl,x,.ref J,tg,ab,ho,as,U,xs,rfl,⟨⟨O,q⟩,u⟩,D,_,rfl;by_cases N:U > 0
 ·rw[aK N];refine Zw ⟨_,rfl,x,ki,O,_,.ref J,rfl,q,L.cT,L.nth,rfl,J,M,rfl,.inl (ZG.of m),λc a=>⟨Zu,λt B=>?_⟩⟩;exact r _ c t a B (by rw[aO N])
 ·rw[aJ N];refine Zk ⟨_,rfl,x,ki,O,_,.ref J,rfl,q,L.cT,L.nth,rfl,J,M,rfl,.inl (ZG.of m),λc a=>⟨Zu,λt B=>?_⟩⟩;exact r _ c t a B (by rw[aM N])
structure XN(P:am)(w:ax)(K:zZ)(mg:jc)(km:aE)(nm:Str)(C:ak):Prop where
 ex:∃ fI fd,Wy K C fI "number" /\ ZI P w K mg km ZZ 1 fI fd zEa (LF K C fI "number")/\Zt K fd zEa []
 at_:mg nm=some (.ref C)
 ty:xN K (.ref C)=some (.type "type")
def ZKf{X:Cx}{E:XK}{g:Str}{C:ak}{e:Expr}{d:jB}{t:TA}{p a pos:Pos}(F:UV X E)(N:XN X.prog X.w X.K X.mg X.base g C)(m:ZT 2 X.A)(j:PA X (e::d) t)(l:Gl X g)(h:(g==("__debug__" : Str))=false:=by decide)(k:aw (e::d) X.env=(false,aH e X.env)::aw d X.env:=by rfl)(i:(aG a (aw d X.env)).any (·.1)=false:=by rfl):PS X (.Raise (some (.Call (.Name g p) (e::d) [] a)) none pos) (GW C "number" E t):=by
 obtain⟨n,fd,c,G,b⟩:=N.ex;exact ZKp F c N.ty G m l N.at_ b j h k i
def Uv(C:ak)(x:Int)(E:XK)(H:Hp):Prop:=∀ b a,ZC H a->a b=some (.xd [("number",.int x)])->E (.ref C) (some b) a
def Uv.go{C:ak}{x:Int}{E:XK}{H b:Hp}(r:Uv C x E H)(s:ZC H b){a:ak}(h:b a=none):E (.ref C) (some a) (upd b a (.xd [("number",.int x)])):=r a _ (s.trans (ZU h _)) ZM
def Uv.mono{C:ak}{x:Int}{E:XK}{H a:Hp}(r:Uv C x E H)(s:ZC H a):Uv C x E a:=λc b d e=>r c b (s.trans d) e
inductive Xd(kh CT:ak)(g:jf)(H:Hp)(Q:VK)(E:XK):Prop
 |mk(S d c:ak)(n:Nat)(a:List (Zb×V))(e:jf)(x:Int)(_:g=[.ref S,.int x])(_:Yy kh H S d c n a e)(_:∀ b,YR a (.inl x)=some b->Q b H)(_:YR a (.inl x)=none->Uv CT x E H)
def BL{CT:ak}(F:Zf K "twig_of" "Shelf.twig_of" M9 f fd)(L:Yh K mg kh ki)(N:XN P w K mg km "NoTwig" CT):ZI P w K mg km (XF P w) 3 f fd zEa (Xd kh CT):=by
 refine F.kD F9 λq A l s H C Q E o h=>?_;obtain⟨S,d,z,n,j,B,x,rfl,⟨⟨e,g⟩,m,y⟩,r,t⟩:=h;have p:=PF o;intro u;exists _,ZN (Zv (WA (IW p (pv 1) (We (pv 0) rfl))) (ZR (ZKf VI N o (ZX (pv 1)) rfl)) Zy) (ZR (Zd (PD p (We (pv 0) rfl) (pv 1))))
 cases b:YR j (.inl x) with
 | none=>
  have a:Yk H d (.int x) none:=b ▸ Yk.k (k:=Sum.inl x) m;refine⟨_,rfl,_,rfl,S,kh,e,_,.ref d,rfl,g,L.cS,L.nk,rfl,d,none,rfl,a,_,rfl,Zw ?_⟩;exact⟨_,rfl,_,rfl,λv i=>(t b).go (ZC.refl H) i⟩
 | some c=>
  have a:Yk H d (.int x) (some c):=b ▸ Yk.k (k:=Sum.inl x) m;refine⟨_,rfl,_,rfl,S,kh,e,_,.ref d,rfl,g,L.cS,L.nk,rfl,d,some c,rfl,a,_,rfl,Zk ?_⟩;exact⟨_,rfl,S,kh,e,_,.ref d,rfl,g,L.cS,L.nk,rfl,_,rfl,d,c,rfl,a,r c b⟩
inductive X3(kh ki CT:ak)(m:jf)(H:Hp)(Q:VK)(E:XK):Prop
 |mk(S d i:ak)(n:Nat)(b:List (Zb×V))(j:jf)(x:Int)(_:m=[.ref S,.int x])(_:Yy kh H S d i n b j)(_:∀ e,YR b (.inl x)=some e->∃(a:ak)(k c:V)(g:ak)(h:Nat)(l:jf),e=.ref a/\WL ki H a k c g h l/\Q c H)(_:YR b (.inl x)=none->Uv CT x E H)
def ZJH{CT:ak}(F:Zf K "label" "Shelf.label" KH f fd)(L:Yh K mg kh ki)(e:ZL P w K mg km (XF P w) 3 kh "twig_of" zEa (Xd kh CT)):ZI P w K mg km (XF P w) 4 f fd zEa (X3 kh ki CT):=by
 refine F.kD Ft λg A c s H I Q E l h=>?_;obtain⟨S,d,t,n,b,u,x,rfl,R,p,r⟩:=h;intro z;exists _,ZR (Zd (We (XQ (E:=E) (pv 0) L.cS e l (NN VI λ_ _ _ h=>h) (ZX (pv 1))) rfl));obtain⟨j,k⟩:=R.self;refine⟨_,rfl,S,j,_,rfl,k,rfl,_,rfl,S,d,t,n,b,u,x,rfl,R,λy m=>?_,r⟩;obtain⟨a,D,v,B,C,G,rfl,W,q⟩:=p y m;obtain⟨i,o⟩:=W.self;exact⟨a,ki,i,_,v,rfl,o,L.cT,L.ntg,rfl,q⟩
structure YB where
 x:ak
 th:ak
 tg:ak
 ab:ak
abbrev jv:=List YB
def YB.d:YB:=⟨0,0,0,0⟩
structure P6(ki:ak)(H:Hp)(ts:jn)(av:Nat->jm)(ho:Nat->Nat)(i:Nat)(a:YB):Prop where
 tw:WL ki H a.x (.ref a.th) (.ref a.tg) a.ab (ho i) (iN (av i))
 things:∃ us,H a.th=some (.lst us)/\((gd ts i).h=0->jY H (YH (gd ts i).rows) us)/\((gd ts i).h≠0->us=iN (gd ts i).bs)
 tag:Yz H (YK (gd ts i)) (.ref a.tg)
def P6.same{ki:ak}{H b:Hp}{e:jn}{c:Nat->jm}{d:Nat->Nat}{i:Nat}{a:YB}(h:P6 ki H e c d i a)(s:ZC H b):P6 ki b e c d i a:=by
 obtain⟨l,g,j,k⟩:=h.things;exact⟨h.tw.same s,⟨l,s _ _ g,λz=>(j z).sm s,k⟩,h.tag.mono (ZC.tups s)⟩
structure Ye(kh ki:ak)(H:Hp)(S d lk:ak)(ts:jn)(av:Nat->jm)(ho:Nat->Nat)(as:jv)(kvs:List (Zb×V))(ls:jf):Prop where
 sh:Yy kh H S d lk ts.length kvs ls
 keys:kvs.map (·.1)=(yX ts.length).map (λi:Nat=>(Sum.inl (i:Int):Zb))
 val:∀ i:Nat,i<ts.length->YR kvs (Sum.inl (i:Int))=some (.ref (as.getD i .d).x)
 len:as.length=ts.length
 tw:∀ i:Nat,i<ts.length->P6 ki H ts av ho i (as.getD i .d)
 own:∀ i:Nat,i<ts.length->(as.getD i .d).x≠S/\(as.getD i .d).ab≠lk/\(as.getD i .d).th≠lk/\(as.getD i .d).ab≠(as.getD i .d).th
 two:∀ i j:Nat,i<ts.length->j<ts.length->i≠j->(as.getD i .d).x≠(as.getD j .d).x/\(as.getD i .d).ab≠(as.getD j .d).ab/\(as.getD i .d).ab≠(as.getD j .d).th/\(as.getD i .d).th≠(as.getD j .d).th
def Ye.same{kh ki:ak}{H b:Hp}{S d j:ak}{l:jn}{e:Nat->jm}{g:Nat->Nat}{c:jv}{a:List (Zb×V)}{k:jf}(h:Ye kh ki H S d j l e g c a k)(s:ZC H b):Ye kh ki b S d j l e g c a k:=
 ⟨h.sh.same s,h.keys,h.val,h.len,λi m=>(h.tw i m).same s,h.own,h.two⟩
def P6.frame{ki:ak}{H b:Hp}{e:jn}{c:Nat->jm}{d:Nat->Nat}{i:Nat}{a:YB}(h:P6 ki H e c d i a)(m:Z3 H b)(r:∀ o,H a.x=some o->b a.x=some o)(q:∀ o,H a.th=some o->b a.th=some o)(p:∀ o,H a.ab=some o->b a.ab=some o):P6 ki b e c d i a:=by
 obtain⟨s,j,k,l⟩:=h.things;obtain⟨g,n⟩:=h.tw.self;exact⟨⟨⟨g,r _ n⟩,p _ h.tw.above⟩,⟨s,q _ j,λz=>(k z).mono m _ _,l⟩,h.tag.mono m⟩
def Ye.none{kh ki:ak}{H:Hp}{S d m:ak}{c:jn}{g:Nat->jm}{l:Nat->Nat}{e:jv}{a:List (Zb×V)}{n:jf}(h:Ye kh ki H S d m c g l e a n){x:Int}(b:inT c x=false):YR a (Sum.inl x)=tJ:=by
 cases z:YR a (Sum.inl x) with
 | none=>rfl
 | some v=>
  have:=F5 z;rw[h.keys] at this;obtain⟨i,k,j⟩:=zM.mp this;have o:=Sum.inl.inj j;have p:=xY.mp k;unfold inT at b;have:=of_decide_eq_false b
  lia
def J7{a:jn}{x:Int}(h:inT a x=true):∃ i:Nat,x=(i:Int)/\i<a.length:=by
 unfold inT at h;have:=of_decide_eq_true h;exact⟨x.toNat,∅,∅⟩
def Nr(a:Nat->jm)(b c:Nat):Nat->jm:=λi=>if i=b then a i++[c] else a i
def Nj(a:Nat->Nat)(b:Nat):Nat->Nat:=λi=>if i=b then a i-1 else a i
def Ye.touch{kh ki:ak}{H n:Hp}{S d I:ak}{C:jn}{j:Nat->jm}{l:Nat->Nat}{g:jv}{r:List (Zb×V)}{J:jf}(R:Ye kh ki H S d I C j l g r J){b s:Nat}(p:b<C.length)(X:∃ M,n (g.getD b .d).x=some (.ins ki M (Uz (.ref (g.getD b .d).th) (.ref (g.getD b .d).tg) (g.getD b .d).ab (l b-1))))(W:n (g.getD b .d).ab=some (.lst (iN (j b++[s]))))(k:∀ c o,c≠(g.getD b .d).x->c≠(g.getD b .d).ab->H c=some o->n c=some o):Ye kh ki n S d I C (Nr j b s) (Nj l b) g r J:=by
 obtain⟨⟨L,E⟩,B,F⟩:=R.sh;have t:=R.tw b p;obtain⟨N,a⟩:=t.tw.self;have h:=t.tw.above;obtain⟨us,D,Q,T⟩:=t.things;have m:Z3 H n:=λc xs e=>k c _ (ZV e a) (ZV e h) e;refine⟨⟨⟨L,k _ _ (R.own b p).1.symm (ZV E h) E⟩,k _ _ (ZV B a) (ZV B h) B,k _ _ (ZV F a) (R.own b p).2.1.symm F⟩,R.keys,R.val,R.len,λi v=>?_,R.own,R.two⟩;by_cases z:i=b
 ·subst z;have y:Nr j i s i=j i++[s]:=aO rfl;have A:Nj l i i=l i-1:=aO rfl;refine⟨⟨?_,?_⟩,⟨us,k _ _ (ZV D a) (R.own i v).2.2.2.symm D,λz=>(Q z).mono m _ _,T⟩,t.tag.mono m⟩
  ·rw[A];exact X
  ·rw[y];exact W
 ·have y:Nr j b s i=j i:=aM z;have A:Nj l b i=l i:=aM z;have u:=R.tw i v;obtain⟨Z,t2,t3,t4⟩:=R.two i b v p z;obtain⟨s1,s2,Y,s4⟩:=R.two b i p v (Ne.symm z);obtain⟨O,q⟩:=u.tw.self;obtain⟨vs,U,_⟩:=u.things;have G:=u.frame m (λo e=>k _ _ Z (by have:=q.symm.trans e;exact ZV q h) e) (λo e=>k _ _ (ZV U a) Y.symm e) (λo e=>k _ _ (ZV u.tw.above a) t2 e)
  refine⟨?_,G.things,G.tag⟩;rw[y,A];exact G.tw
def QG(b:jm)(c:Nat)(a:Nat->jm):Nat->jm:=λi=>if i∈b then a i++[c] else a i
def Qm(b:jm)(a:Nat->Nat):Nat->Nat:=λi=>if i∈b then a i-1 else a i
def C3{a:jm}{b c:Nat}{d:Nat->jm}(h:b∉a):Nr (QG a c d) b c=QG (a++[b]) c d:=by
 funext i
 unfold Nr QG;by_cases z:i=b
 ·subst z;rw[aO rfl,aM h,aO (by simp)]
 ·rw[aM z];by_cases y:i∈a
  ·rw[aO y,aO (by simp[y])]
  ·rw[aM y,aM (by simp[y,z])]
def ZMq{a:jm}{b:Nat}{c:Nat->Nat}(h:b∉a):Nj (Qm a c) b=Qm (a++[b]) c:=by
 funext i
 unfold Nj Qm;by_cases z:i=b
 ·subst z;rw[aO rfl,aM h,aO (by simp)]
 ·rw[aM z];by_cases y:i∈a
  ·rw[aO y,aO (by simp[y])]
  ·rw[aM y,aM (by simp[y,z])]
abbrev HQ:Stmt:=VO (Zq 49) 21
inductive WB(kh ki:ak)(q:jf)(H:Hp)(Q:VK)(_:XK):Prop
 |mk(S d m l:ak)(h:jn)(j:Nat->jm)(k:Nat->Nat)(a:jv)(g:List (Zb×V))(n:jf)(e:jm)(p:Nat)(_:q=[.ref S,.int p,.ref l])(_:Ye kh ki H S d m h j k a g n)(_:H l=some (.lst (iN e)))(_:e.Nodup)(_:∀ b∈e,b<h.length/\1<=k b/\(j b).length<=900)(_:∀ b:Nat,b<h.length->l≠(a.getD b .d).ab)(_:∀ i:Hp,(∀ c o,(∀ b:Nat,b<h.length->c≠(a.getD b .d).x/\c≠(a.getD b .d).ab)->H c=some o->i c=some o)->(∀ c,i c=none->H c=none)->Ye kh ki i S d m h (QG e p j) (Qm e k) a g n->Q .non i)
abbrev ZKo:jr:=["self","stem","branches","branch","twig"]
def X9:ZA ZKo zE5 (Zc HQ):=Zr
def Aq(F:Zf K "take_over" "Shelf.take_over" HQ f fd)(L:Yh K mg kh ki)(DT:ZL P w K mg km ZZ 1 kh "twig_of" zEa (YO kh)):ZI P w K mg km ZZ 2 f fd zE5 (WB kh ki):=by
 refine F.ko X9 λa2 A a1 s H vs Q E hr h=>?_;obtain⟨S,d,lk,l,ts,B,j,g,U,ls,p,X,rfl,R,hl,O,Z,a0,k⟩:=h;have nd:=X9.nd;intro Xc;refine⟨_,ZR (Vo PassesOwn.never rfl (X7 (pv 2)) (Xe 3 nd)
  (ZN (Zi 4 nd (XQ (E:=E0) (pv 0) L.cS DT hr XJ (ZX (pv 3))))
  (ZN (Go (pv 4) ZJ D3)
  (ZR (Xl (VM yK xH xG Uh (We (pv 4) rfl) (ZX (pv 1)))))))),?_⟩
 refine⟨_,rfl,l,rfl,⟨_,ZG.of hl⟩,Pp (K:=K) (a:=l) (xs:=iN p) (λi σ m=>∃ x y:jg,σ=[some (.ref S),some (.int X),some (.ref l),x,y]/\(∀ c o,(∀ b:Nat,b<ts.length->c≠(g.getD b .d).x/\c≠(g.getD b .d).ab)->H c=some o->m c=some o)/\(∀ c,m c=none->H c=none)/\Ye kh ki m S d lk ts (QG (p.take i) X B) (Qm (p.take i) j) g U ls)
  ⟨_,_,rfl,λc o _ e=>e,λc e=>e,(by
   have e1:QG [] X B=B:=funext λi=>aM (by simp)
   have e2:Qm [] j=j:=funext λi=>aM (by simp)
   rw[show p.take 0=[] from rfl,e1,e2];exact R)⟩ ?_ ?_ ?_⟩
 ·rintro i σ m _ ⟨x,y,rfl,T,_,R2⟩;refine ZG.of (T _ _ (λb Z=>⟨?_,a0 b Z⟩) hl);obtain⟨dx,J⟩:=(R.tw b Z).tw.self;exact ZV hl J
 ·rintro i u σ m D ⟨x,y,rfl,T,k3,R2⟩;unfold iN at D;rw[zD] at D;obtain⟨b,eb,rfl⟩:=xR.mp D;obtain⟨t,a3,a4⟩:=Z b (zK eb);have v:b∉p.take i:=λz=>by
   have hs:p=p.take i++b::p.drop (i+1):=by
    have hi:=(yT.mp eb);obtain⟨hi,e⟩:=hi;rw[<-e,<-sN hi,wX]
   rw[hs,uI] at O;exact O.2.2 b z b (by simp) rfl
  have N:Qm (p.take i) j b=j b:=aM v;have M:QG (p.take i) X B b=B b:=aM v;obtain⟨dS,hS⟩:=R2.sh.self;have Wb:=R2.tw b t;obtain⟨r,J⟩:=Wb.tw.self;have C:=Wb.tw.above;rw[N] at J;rw[M] at C;exists _,rfl,S,dS,_,rfl,hS,rfl,_,rfl,S,d,lk,ts.length,U,ls,(b:Int),.ref (g.getD b .d).x,rfl,R2.sh,R2.val b t;exists _,rfl,(g.getD b .d).x,ki,r,_,.int (j b:Nat),rfl,J,L.cT,L.nho,rfl,_,_,rfl,rfl,r,_,J,yH rfl;have eh:((j b:Nat):Int)-1=((j b-1:Nat):Int):=∅
  have G:upd m (g.getD b .d).x (.ins ki r (XB "holds" (.int (((j b:Nat):Int)-1)) (Uz (.ref (g.getD b .d).th) (.ref (g.getD b .d).tg) (g.getD b .d).ab (j b)))) (g.getD b .d).x=some (.ins ki r (Uz (.ref (g.getD b .d).th) (.ref (g.getD b .d).tg) (g.getD b .d).ab (j b-1))):=by rw[ZM,eh];rfl
  have Y:(g.getD b .d).ab≠(g.getD b .d).x:=ZV C J;have q:upd m (g.getD b .d).x (.ins ki r (XB "holds" (.int (((j b:Nat):Int)-1)) (Uz (.ref (g.getD b .d).th) (.ref (g.getD b .d).tg) (g.getD b .d).ab (j b)))) (g.getD b .d).ab=some (.lst (iN (B b))):=by rw[ZS Y];exact C
  have I:∀ c o,c≠(g.getD b .d).x->m c=some o->upd m (g.getD b .d).x (.ins ki r (XB "holds" (.int (((j b:Nat):Int)-1)) (Uz (.ref (g.getD b .d).th) (.ref (g.getD b .d).tg) (g.getD b .d).ab (j b)))) c=some o:=λc o n e=>by rw[ZS n];exact e
  have W:∀ c,upd m (g.getD b .d).x (.ins ki r (XB "holds" (.int (((j b:Nat):Int)-1)) (Uz (.ref (g.getD b .d).th) (.ref (g.getD b .d).tg) (g.getD b .d).ab (j b)))) c=none->m c=none:=λc e=>by
   by_cases z:c=(g.getD b .d).x
   ·rw[z,ZM] at e;cases e
   ·rw[ZS z] at e;exact e
  generalize upd m (g.getD b .d).x (.ins ki r (XB "holds" (.int (((j b:Nat):Int)-1)) (Uz (.ref (g.getD b .d).th) (.ref (g.getD b .d).tg) (g.getD b .d).ab (j b))))=H3 at G q I W⊢;exists _,rfl,(g.getD b .d).x,ki,r,_,.ref (g.getD b .d).ab,rfl,G,L.cT,L.nab,rfl,.inl ⟨rfl,_,ZG.of q⟩,_,rfl,(g.getD b .d).ab,_,.int X,rfl,rfl,q,Yq (by rw[show (iN (B b)).length=(B b).length from zX _];lia)
  have et:p.take (i+1)=p.take i++[b]:=by rw[yM,eb];rfl
  exists _,_,rfl,λc o hc e=>?_,λc e=>?_
  ·obtain⟨n1,n2⟩:=hc b t;rw[ZS n2];exact I _ _ n1 (T c o hc e)
  ·by_cases z:c=(g.getD b .d).ab
   ·rw[z,ZM] at e;cases e
   ·rw[ZS z] at e;exact k3 c (W c e)
  ·rw[et,<-C3 v,<-ZMq v];refine R2.touch t ⟨r,?_⟩ ?_ λc o n1 n2 e=>?_
   ·rw[ZS (Ne.symm Y),N];exact G
   ·rw[ZM,M];simp[iN]
   ·rw[ZS n2];exact I _ _ n1 e
 ·rintro σ m ⟨x,y,rfl,T,k3,R2⟩;rw[show (iN p).length=p.length from zX _,yV (zY _)] at R2;exact k m T k3 R2
def BT{X:Cx}{k:Nat}{C:ak}{x:Str}{n:jr}{g:Sp}{e:Expr}{a:jB}{t:TA}{p pos:Pos}(D:Ul X.prog X.w X.K X.mg X.base k C n g)(m:ZT (k+1) X.A)(j:Gl X x)(l:X.mg x=some (.ref C))(h:PA X (e::a) t)(c:(x==("__debug__" : Str))=false:=by decide)(i:aw (e::a) X.env=(false,aH e X.env)::aw a X.env:=by rfl)(d:(aG pos (aw a X.env)).any (·.1)=false:=by rfl):
  PE X (.Call (.Name x p) (e::a) [] pos) (Lr C g [] E0 t):=by
 obtain⟨f,fd,M,F,b⟩:=D.ex;exact ZOf M F m j l b .nil XJ h c i d
def Bm{X:Cx}{k:Nat}{C:ak}{x:Str}{h:jr}{c:Sp}{p pos:Pos}(D:Ul X.prog X.w X.K X.mg X.base k C h c)(g:ZT (k+1) X.A)(d:Gl X x)(e:X.mg x=some (.ref C))(a:(x==("__debug__" : Str))=false:=by decide):PE X (.Call (.Name x p) [] [] pos) (Lr C c [] E0 Vr):=by
 obtain⟨f,fd,M,F,b⟩:=D.ex;exact AM M F g d e b .nil XJ a
def Ql(n:Nat)(a:Nat->jm):Nat->jm:=λi=>if i=n then [] else a i
def Qn(n:Nat)(a:Nat->Nat):Nat->Nat:=λi=>if i=n then 1 else a i
def MA{a:jn}{t:ZP}{i:Nat}(h:i<a.length):gd (a++[t]) i=gd a i:=by
 unfold gd;rw[zT,wP h,<-zT]
def Kq{a:jn}{t:ZP}:gd (a++[t]) a.length=t:=by
 unfold gd;rw[zT,xQ (zY _)];simp
def IQ{b:jv}{a:YB}{i:Nat}(h:i<b.length):(b++[a]).getD i .d=b.getD i .d:=by
 rw[zT,wP h,<-zT]
def Jj{b:jv}{a:YB}:(b++[a]).getD b.length .d=a:=by
 rw[zT,xQ (zY _)];simp
def EH{kh ki:ak}{H H':Hp}{S d M:ak}{g:jn}{B:Nat->jm}{L:Nat->Nat}{n:jv}{q:List (Zb×V)}{Z:jf}(R:Ye kh ki H S d M g B L n q Z){t:ZP}{x th tg ab:ak}(O:∀ b o,b≠S->b≠d->H b=some o->H' b=some o)(nx:H x=none)(s:H th=none)(r:H ab=none)(F:ab≠th)(R':Yy kh H' S d M (g.length+1) (XR q (.inl (g.length:Int)) (.ref x)) Z)(W:WL ki H' x (.ref th) (.ref tg) ab 1 [])(Y:∃ l,H' th=some (.lst l)/\(t.h=0->jY H' (YH t.rows) l)/\(t.h≠0->l=iN t.bs))(X:Yz H' (YK t) (.ref tg)):
  Ye kh ki H' S d M (g++[t]) (Ql g.length B) (Qn g.length L) (n++[⟨x,th,tg,ab⟩]) (XR q (.inl (g.length:Int)) (.ref x)) Z:=by
 obtain⟨⟨dS,Q⟩,T,hl⟩:=R.sh;have m:Z3 H H':=λc xs e=>O c _ (ZV e Q) (ZV e T) e;have U:(g++[t]).length=g.length+1:=by simp
 have nv:YR q (Sum.inl (g.length:Int))=none:=R.none (by unfold inT;exact aJ ∅)
 have a:∀ i,i<(g++[t]).length->i<g.length\/i=g.length:=λi k=>by rw[U] at k;lia
 have el:n.length=g.length:=R.len;have A:∀ i,i<g.length->(n++[(⟨x,th,tg,ab⟩:YB)]).getD i .d=n.getD i .d:=λi k=>IQ ∅
 have D:(n++[(⟨x,th,tg,ab⟩:YB)]).getD g.length .d=⟨x,th,tg,ab⟩:=by rw[<-el];exact Jj
 have y:∀ i,i<g.length->∃ C l o,H (n.getD i .d).x=some (.ins ki C l)/\H (n.getD i .d).th=some (.lst o)/\H (n.getD i .d).ab=some (.lst (iN (B i))):=λi k=>by
  obtain⟨C,u⟩:=(R.tw i k).tw.self;obtain⟨l,p,_⟩:=(R.tw i k).things;exact⟨C,_,l,u,p,(R.tw i k).tw.above⟩
 have nS:x≠S:=(ZY Q nx).symm;have E:ab≠M:=(ZY hl r).symm;have N:th≠M:=(ZY hl s).symm;refine⟨by rw[U];exact R',?_,λi k=>?_,by simp[el],λi k=>?_,λi k=>?_,λi j k hj J=>?_⟩
 ·rw[LL _ nv,zE,R.keys,U,List.range_succ,zE];rfl
 ·rw[LC];rcases a i k with c | rfl
  ·rw[aM (λz=>by have:=Sum.inl.inj z;lia),A i c]
   exact R.val i c
  ·rw[aO rfl,D]
 ·rcases a i k with c | rfl
  ·have Wi:=R.tw i c;obtain⟨C,l,o,u,p,v⟩:=y i c;have ni:i≠g.length:=∅
   have G:=Wi.frame m (λo' e=>O _ _ (R.own i c).1 (ZV u T) e) (λo' e=>O _ _ (ZV p Q) (ZV p T) e) (λo' e=>O _ _ (ZV v Q) (ZV v T) e);rw[A i c];exists ?_,?_
   ·rw[show Ql g.length B i=B i from aM ni,show Qn g.length L i=L i from aM ni];exact G.tw
   ·rw[MA c];exact G.things
   ·rw[MA c];exact G.tag
  ·rw[D];exists ?_,?_
   ·rw[show Ql g.length B g.length=[] from aO rfl,show Qn g.length L g.length=1 from aO rfl];exact W
   ·rw[Kq];exact Y
   ·rw[Kq];exact X
 ·rcases a i k with c | rfl
  ·rw[A i c];exact R.own i c
  ·rw[D];exact⟨nS,E,N,F⟩
 ·rcases a i k with c | rfl
  ·rw[A i c];rcases a j hj with I | rfl
   ·rw[A j I];exact R.two i j c I J
   ·rw[D];obtain⟨C,l,o,u,p,v⟩:=y i c;exact⟨ZY u nx,ZY v r,ZY v s,ZY p s⟩
  ·rw[D];rcases a j hj with I | rfl
   ·rw[A j I];obtain⟨C,l,o,u,p,v⟩:=y j I;exact⟨(ZY u nx).symm,(ZY v r).symm,(ZY p r).symm,(ZY p s).symm⟩
   ·exact absurd rfl J
inductive Xi(kh ki:ak)(k:jf)(H:Hp)(Q:VK)(_:XK):Prop
 |mk(S d g:ak)(n:Nat)(a:List (Zb×V))(h:jf)(j i:V)(_:k=[.ref S,j,i])(_:Yy kh H S d g n a h)(_:a.length<=900)(_:∀(c:Hp)(x e:ak),H x=none->H e=none->(∀ b o,b≠S->b≠d->H b=some o->c b=some o)->Yy kh c S d g (n+1) (XR a (.inl (n:Int)) (.ref x)) h->WL ki c x j i e 1 []->Q (.int (n:Int)) c)
def Wh:ZA ["self","things","label","number"] zEz (Zc Jq):=Zr
def ZIr(F:Zf K "put_twig" "Shelf.put_twig" Jq f fd)(L:Yh K mg kh ki)(DM:Ul P w K mg km 1 ki zEw (Qc ki)):ZI P w K mg km ZZ 3 f fd zEz (Xi kh ki):=by
 refine F.ko Wh λa1 A Y s H vs Q E hr h=>?_;obtain⟨S,d,c,n,T,ls,th,tg,rfl,R,a0,k⟩:=h;have nd:=Wh.nd;have hu:=PF hr;intro Xc;refine⟨_,ZN (Zi 3 nd (We (pv 0) rfl)) (ZN (Pd (pv 0) (Zx WW (pv 3) ZJ) rfl)
  (ZN (Fk hu (We (pv 0) rfl) (pv 3) (BT DM hr rfl L.twig (Zl (pv 1) (pv 2))) rfl) (ZR (Zd (pv 3))))),?_⟩
 obtain⟨⟨a,y⟩,J,M⟩:=R;have Z:S≠d:=ZV y J;have Sl:S≠c:=ZV y M;have dl:d≠c:=ZV J M;exists _,rfl,S,kh,a,_,.int n,rfl,y,L.cS,L.nf,rfl;exists _,rfl,_,_,rfl,rfl,_,rfl,S,kh,a,_,rfl,y,L.cS,L.nf,yH rfl;have l:upd H S (.ins kh a (XB "following" (.int ((n:Int)+1)) (Pe d c n))) S=some (.ins kh a (Pe d c (n+1))):=ZM;have q:upd H S (.ins kh a (XB "following" (.int ((n:Int)+1)) (Pe d c n))) d=some (.dK T):=by rw[ZS (Ne.symm Z)];exact J
 have r:upd H S (.ins kh a (XB "following" (.int ((n:Int)+1)) (Pe d c n))) c=some (.lst ls):=by rw[ZS (Ne.symm Sl)];exact M
 have u:∀ b o,b≠S->H b=some o->upd H S (.ins kh a (XB "following" (.int ((n:Int)+1)) (Pe d c n))) b=some o:=λb o n e=>by rw[ZS n];exact e
 have j:∀ b,upd H S (.ins kh a (XB "following" (.int ((n:Int)+1)) (Pe d c n))) b=none->H b=none:=λb e=>by
  by_cases z:b=S
  ·rw[z,ZM] at e;cases e
  ·rw[ZS z] at e;exact e
 generalize upd H S (.ins kh a (XB "following" (.int ((n:Int)+1)) (Pe d c n)))=B at l q r u j⊢;exists _,rfl,_,rfl;intro x G nx V ne;have g1:=ZU V (.own x);have X:upd B G (.own x) x=none:=by rw[ZS (Ne.symm ne)];exact nx
 have g2:=ZU X (.ins ki G []);have g:=g1.trans g2;refine⟨x,G,th,tg,rfl,ZM,λH2 C O U W=>⟨rfl,?_⟩⟩;have v:∀ b o,B b=some o->H2 b=some o:=λb o e=>O b o (ZY e nx) (g b o e);have m:=v _ _ l;have i:=v _ _ q;have N:=v _ _ r;have p:B C=none:=g.free U;obtain⟨I,t⟩:=W.self;have xd:x≠d:=ZV t i;have D:C≠d:=ZV W.above i;exists _,rfl,S,kh,a,_,.ref d,rfl,m,L.cS,L.nk,rfl,_,rfl,d,_,rfl,Uk.k (k:=Sum.inl (n:Int)) i (Yq ∅)
 refine⟨_,rfl,k _ x C (j _ nx) (j _ p) (λb o n1 n2 e=>?_) ⟨⟨a,?_⟩,ZM,?_⟩ ⟨⟨I,?_⟩,?_⟩⟩
 ·rw[ZS n2];exact v b o (u b o n1 e)
 ·rw[ZS Z];exact m
 ·rw[ZS (Ne.symm dl)];exact N
 ·rw[ZS xd];exact t
 ·rw[ZS D];exact W.above
def ZJ7{H:Hp}{b:jw}{c:jf}(h:jY H (YH b) c):Ek H (b.map (·.1)) c:=by
 have k:c.length=b.length:=by have:=h.length;rw[<-this];exact zX _
 exists by rw[zX];exact k
 intro i u e;obtain⟨a,m,n,j,d,g,l,_⟩:=Q0 h e;exists a,m,n,d,g;rw[zT,zD,j];exact l
inductive Pq(b:jf)(H:Hp)(Q:VK)(_:XK):Prop
 |mk(v:V)(t:KT)(_:b=[v])(_:ZD H t v)(_:t.fits 3=true)(_:∀ a,ZC H a->Q v a)
def Hm:ZA zEx zEx (Zc Lc):=Zr
def ZIW(F:Zf K "checked" "checked" Lc f fd)(c:ZB P w K mg km 6 "is_key" zEx UG):ZI P w K mg km ZZ 7 f fd zEx Pq:=by
 refine F.ko Hm λe A a s H m Q E g h=>?_;obtain⟨v,t,rfl,i,b,k⟩:=h;intro l;exists _,ZN (Zv (UB (Y3 (Zg c g (ZX (pv 0))))) P3 Zy) (ZR (Zd (pv 0)));refine⟨_,rfl,v,t,3,rfl,i,b,λd j=>⟨_,rfl,?_⟩⟩;rw[b];exact Zk ⟨_,rfl,k d j⟩
inductive Wt(g:jf)(H:Hp)(Q:VK)(_:XK):Prop
 |mk(l:ak)(e:jf)(d:jw)(_:g=[.ref l])(_:H l=some (.lst e))(_:jY H (YH d) e)(_:∀ r∈d,r.fit)(_:e.length<=100)(_:∀(b:Hp)(c:ak)(a:jf),ZC H b->H c=none->b c=some (.lst a)->jY b (YH d) a->Q (.ref c) b)
def ZJS:ZA zE2 zE2 (Zc HF):=Zr
def BX(F:Zf K "own_rows" "own_rows" HF f fd)(M:ZB P w K mg km 7 "checked" zEx Pq):ZI P w K mg km ZZ 8 f fd zE2 Wt:=by
 refine F.ko ZJS λa0 A J s H vs Q E W h=>?_;obtain⟨l,r,rs,rfl,y,V,hf,T,k⟩:=h;have lk:r.length=rs.length:=by have:=V.length;rw[<-this];exact zX _
 intro Xc;refine⟨_,ZR (Zd (Wr [] [] rfl (X7 (pv 0)) (λ_ _ _ _ _=>VV)
   (λ_ _ _ _ _=>Yw (Zl (Zg M W (ZX (YJ K (pv 0) ZJ))) (Zg M W (ZX (YJ K (pv 0) ZJ))))) trivial)),?_⟩
 exists _,rfl,l,rfl,⟨r,ZG.of y⟩;refine Vc (n:=r.length) (λi z=>r[i]? = some z) (λD i t m=>ZC H m/\H D=none/\jY m (YH (rs.take i)) t) (Yq ∅)
  (λD i t m I d=>⟨r,r[i],ZG.of (d.1 _ _ y),by simp[I]⟩) (λD i t m z H4 I d X=>⟨X.1,X.2 r (ZG.of (d.1 _ _ y))⟩) (λD t m d=>⟨r,ZG.of (d.1 _ _ y),zY _⟩)
  (λD U=>⟨ZU U _,U,.nil⟩) (λD i t m z G a1 I hz d R hR=>?_) (λD t m G d=>?_)
 ·obtain⟨p,B,j⟩:=d;obtain⟨a,v,x,S,rfl,e2,Y,Z⟩:=Q0 V hz;have O:=p _ _ e2;have o:=hf _ (zK S);refine⟨_,rfl,.inr (.inl ⟨a,_,_,v,rfl,rfl,Zh.of O,rfl,v,_,rfl,Y.sm p,o.1,λH4 L=>?_⟩)⟩;refine⟨_,rfl,.inr (.inl ⟨a,_,_,x,rfl,rfl,Zh.of (L _ _ O),rfl,x,_,rfl,Z.sm (p.trans L),o.2,λN s5=>?_⟩)⟩;exists Zu;intro q hq;have g:=ZU hq (.tup [v,x]);have c:=(L.trans s5).trans g;have u:=c _ _ G;have C:Z3 (upd N q (.tup [v,x])) (upd (upd N q (.tup [v,x])) D (.lst (t++[.ref q]))):=λb xs e=>by rw[ZS (ZV e u)];exact e
  refine hR _ _ u ⟨WX (p.trans c) B,B,?_⟩;rw[yM,S,L0];refine((j.sm c).mono C _ _).append (.cons (.tup (C _ _ ZM) (.cons ?_ (.cons ?_ .nil))) .nil)
  ·exact(Y.sm (p.trans c)).mono C _ _
  ·exact(Z.sm (p.trans c)).mono C _ _
 ·obtain⟨p,B,j⟩:=d;rw[yV ∅] at j
  exact k m D t p B G j
inductive Ua(g:jf)(H:Hp)(Q:VK)(_:XK):Prop
 |mk(l:ak)(d:jf)(c:jp)(_:g=[.ref l])(_:H l=some (.lst d))(_:jY H c d)(_:∀ t∈c,t.fits 3=true)(_:d.length<=100)(_:c.Pairwise (λa b=>a.lt b=true))(_:∀ e,ZC H e->Q (.bl true) e)
def ZPD:ZA ["keys"] ["keys"] (Zc JC):=Zr
def Iz{c:Type}{R:c->c->Prop}:∀{l:List c},l.Pairwise R->∀{i j:Nat}{a b:c},i<j->l[i]? = some a->l[j]? = some b->R a b
 | [],_,_,_,_,_,_,h,_=>by simp at h
 | x::l,hp,0,j+1,a,b,_,ha,hb=>by
  simp at ha hb;subst ha;exact(wT.mp hp).1 b (zK hb)
 | x::l,hp,i+1,j+1,a,b,hij,ha,hb=>by
  simp at ha hb;exact Iz (wT.mp hp).2 ∅ ha hb
def ZNp(F:Zf K "rise" "rise" JC f fd)(T:YA mg)(S:ZB P w K mg km 7 "ahead" zE0 XY):ZI P w K mg km ZZ 8 f fd ["keys"] Ua:=by
 refine F.ko ZPD λU A y s H vs Q E hr h=>?_;obtain⟨l,c,ks,rfl,L,t,J,G,u,k⟩:=h;have lk:=t.length;intro Xc;refine⟨_,ZR (Zd (Z2 (LH rfl) rfl T.all LG (ZX (Wr [0] ["keys"] rfl (Ie rfl T.range (Zl ZJ (Z2 WN rfl T.len Xu (ZX (pv 0))))) (λ_ _ _ _ _=>VV)
  (λ_ _ _ _ _=>Zg S hr (Zl (YJ K (pv 1) (Zx Up (pv 0) ZJ)) (YJ K (pv 1) (pv 0)))) ⟨rfl,.inl rfl,rfl,trivial⟩)))),?_⟩
 exists _,rfl,l,c,rfl,.inl (ZG.of L),1,(c.length:Int),rfl,⟨by lia (splits:=8),by lia (splits:=8),by lia (splits:=8),by lia (splits:=8)⟩
 refine Vc (n:=((c.length:Int)-1).toNat) (λi x=>x=.int (1+(i:Int))) (λD i j d=>ZC H d/\H D=none/\j=(xK i true).map V.bl) (Yq (by lia (splits:=8)))
  (λD i j d q _=>q) (λD i j d x z q _ hy=>hy) (λD j d _=>zY _) (λD I=>⟨ZU I _,I,rfl⟩) (λD i j d x o Z q hx p R Y=>?_) (λD j d o p=>?_)
 ·subst hx;obtain⟨g,v,rfl⟩:=p;have r:i+1<c.length:=by lia (splits:=8)
  have N:c[i]? = some (c[i]'(by lia (splits:=8))):=zU (by lia (splits:=8))
  have O:c[i+1]? = some c[i+1]:=zU r;have X:(1:Int)+(i:Int)=((i+1:Nat):Int):=by lia (splits:=8)
  have W:(1:Int)+(i:Int)-1=((i:Nat):Int):=by lia (splits:=8)
  obtain⟨a,B,ka⟩:=t.get N;obtain⟨b,C,kb⟩:=t.get O;have m:=g _ _ L;refine⟨_,rfl,_,rfl,_,_,rfl,rfl,.inl ⟨l,c,_,_,rfl,rfl,ZG.of m,(by rw[W];exact Xo N),?_⟩⟩
  refine⟨_,rfl,_,rfl,.inl ⟨l,c,_,_,rfl,rfl,ZG.of m,(by rw[X];exact Xo O),?_⟩⟩
  exists _,_,a,b,rfl,ka.sm g,kb.sm g,J a (zK B),J b (zK C);intro z M;rw[Iz u (wN i) B C];refine Y _ z (M D _ o) ⟨WX (g.trans M) v,v,?_⟩;rw[List.replicate_succ',zE];rfl
 ·obtain⟨g,v,rfl⟩:=p;exists D,_,rfl,ZG.of o;have e:(xK ((c.length:Int)-1).toNat true).all id=true:=by simp
  rw[e];exact k d g
def X8(c:jw):Prop:=(∀ r∈c,r.fit)/\0<c.length/\c.length<=4/\(c.map (·.1)).Pairwise (λa b=>a.lt b=true)
inductive Vh(g:jf)(H:Hp)(Q:VK)(_:XK):Prop
 |mk(l:ak)(e:jf)(d:jw)(_:g=[.ref l])(_:H l=some (.lst e))(_:jY H (YH d) e)(_:X8 d)(_:∀(b:Hp)(c:ak)(a:jf),ZC H b->H c=none->b c=some (.lst a)->jY b (YH d) a->Q (.ref c) b)
def Vd:ZA ["rows","own"] zE2 (Zc KP):=Zr
def ZKj(F:Zf K "checked_rows" "checked_rows" KP f fd)(T:YA mg)(W:ZB P w K mg km 8 "own_rows" zE2 Wt)(X:ZB P w K mg km 8 "rise" ["keys"] Ua):ZI P w K mg km ZZ 9 f fd zE2 Vh:=by
 refine F.ko Vd λY A J s H vs Q E S h=>?_;obtain⟨l,V,y,rfl,hl,O,⟨N,h0,h4,I⟩,k⟩:=h;have nd:=Vd.nd;have lk:V.length=y.length:=by have:=O.length;rw[<-this];exact zX _
 obtain⟨t4,m4⟩:=T.rows;intro Xc;refine⟨_,ZN (Zi 1 nd (Zg W S (ZX (pv 0))))
  (ZN (Zv (PW.pt (Ph (UB (Eb NS NS ZJ (Z2 WN rfl T.len Xu (ZX (pv 1))) (WP (v:=.int 4) rfl m4 ⟨_,rfl⟩)))
   (Pf (UB (Y3 (Zg X S (ZX (Wr [] [] rfl (X7 (pv 1)) (λ_ _ _ _ _=>VV) (λ_ _ _ _ _=>YJ K (pv 0) ZJ) trivial)))))))) P3 Zy)
  (ZR (Zd (pv 1)))),?_⟩
 exists _,rfl,l,V,y,rfl,hl,O,N,by lia
 intro B D b s3 nD u m;have ly:b.length=y.length:=by have:=m.length;rw[<-this];exact zX _
 exists _,rfl,D,b,rfl,.inl (ZG.of u),_,_,rfl,rfl,_,rfl;rw[aK (show (1:Int)<=(b.length:Int) by lia)]
 refine Zw ⟨_,_,rfl,rfl,_,rfl,?_⟩;rw[aK (show (b.length:Int)<=4 by lia)]
 refine Zk ?_;exists _,rfl,D,rfl,⟨b,ZG.of u⟩;refine Vc (n:=b.length) (λi z=>b[i]? = some z) (λe i q g=>ZC B g/\B e=none/\jY B ((y.map (·.1)).take i) q) (Yq ∅)
  (λe i q g C d=>⟨b,b[i],ZG.of (d.1 _ _ u),by simp[C]⟩) (λe i q g z M C d U=>⟨U.1,U.2 b (ZG.of (d.1 _ _ u))⟩) (λe q g d=>⟨b,ZG.of (d.1 _ _ u),zY _⟩)
  (λe x=>⟨ZU x _,x,.nil⟩) (λe i q g z j a0 C hz d R hR=>?_) (λe q g j d=>?_)
 ·obtain⟨p,o,c⟩:=d;obtain⟨a,vk,vv,er,rfl,Z,k1,_⟩:=Q0 m hz;refine⟨_,rfl,.inr (.inl ⟨a,_,_,vk,rfl,rfl,Zh.of (p _ _ Z),rfl,?_⟩)⟩;refine hR _ g j ⟨WX p o,o,?_⟩;rw[yM,zD,er];exact c.append (.cons k1 .nil)
 ·obtain⟨p,o,c⟩:=d;rw[yV (by rw[zX];lia)] at c
  have lz:=c.length;rw[zX] at lz;refine⟨e,q,_,rfl,j,c.sm p,λt ht=>?_,∅,I,λM L=>⟨_,rfl,Zk ⟨_,rfl,k M D b ((s3.trans p).trans L) nD (L _ _ (p _ _ u)) (m.sm (p.trans L))⟩⟩⟩
  obtain⟨r,G,rfl⟩:=zM.mp ht;exact(N r G).1
def Uc(a:jw):ZP:=⟨0,a,[]⟩
inductive Yb(kh ki:ak)(q:jf)(H:Hp)(Q:VK)(_:XK):Prop
 |mk(S d m l:ak)(c:jn)(j:Nat->jm)(k:Nat->Nat)(i:jv)(e:List (Zb×V))(n p:jf)(h:jw)(_:q=[.ref S,.ref l])(_:Ye kh ki H S d m c j k i e n)(_:c.length<=900)(_:H l=some (.lst p))(_:jY H (YH h) p)(_:X8 h)(_:∀(g:Hp)(a:YB),H a.x=none->H a.th=none->H a.ab=none->(∀ b o,b≠S->b≠d->H b=some o->g b=some o)->Ye kh ki g S d m (c++[Uc h]) (Ql c.length j) (Qn c.length k) (i++[a]) (XR e (.inl (c.length:Int)) (.ref a.x)) n->Q (.int (c.length:Nat)) g)
def Wl:ZA ["self","rows","own"] zEt (Zc IU):=Zr
def Gk{kh ki:ak}{H:Hp}{S d h:ak}{b:jn}{e:Nat->jm}{g:Nat->Nat}{c:jv}{a:List (Zb×V)}{i:jf}(R:Ye kh ki H S d h b e g c a i):a.length=b.length:=by
 have:=congrArg wQ R.keys;simpa using this
def Y5(c:jn)(a:jm):jw:=a.flatMap λb=>(gd c b).rows
def Xs(b:jn)(a:jm):ZP:=⟨(gd b (a.getD 0 0)).h+1,Y5 b a,a⟩
def KK(c:jn):jm->Prop
 | a::b::r=>(YK (gd c a)).hi.lt (YK (gd c b)).lo=true/\KK c (b::r)
 | _=>True
def Et{c:jn}:∀{bs:jm},(∀ j,j+1<bs.length->((XA c bs).getD j .d).hi.lt ((XA c bs).getD (j+1) .d).lo=true)->KK c bs
 | [],_=>trivial
 | [_],_=>trivial
 | a::b::r,h=>⟨h 0 (by simp),Et (bs:=b::r) λj e=>h (j+1) (by simp at e⊢;lia)⟩
def OE{t:ZP}(a:t.rows≠[]):∃ r b,t.rows=r::b/\(YK t).lo=r.1:=by
 cases e:t.rows with
 | nil=>exact absurd e a
 | cons r b=>exact⟨r,b,rfl,by unfold YK;rw[e];rfl⟩
def Jc{t:ZP}(a:t.rows≠[]):∃ b r,t.rows=b++[r]/\(YK t).hi=r.1:=by
 rcases qS t.rows with e | ⟨b,r,e⟩
 ·exact absurd e a
 ·rw[qT] at e;exists b,r,e;unfold YK;rw[e];simp[zT]
def Ak{g:jn}{i:Nat}{t:ZP}(h:WJ g i t){x:KT}(a:x∈t.rows.map (·.1)){y:KT}(b:(YK t).hi.lt y=true):x.lt y=true:=by
 obtain⟨j,r,e,d⟩:=Jc h.ne;have c:=h.up;rw[e,zE] at c a;rw[d] at b;rcases yQ.mp a with a | a
 ·have:=(xE.mp c).2.2 x a r.1 (by simp)
  exact lt_trans' _ _ _ this b
 ·simp at a;rw[a];exact b
def ZRe{ts:jn}{bs:jm}{l:jp}(g:l.Pairwise λa b=>a.lt b=true){z:KT}(e:l.head? = some z){x:KT}(d:x.lt z=true):∀ y∈l,x.lt y=true:=by
 cases l with
 | nil=>cases e
 | cons a l=>
  simp at e;subst e;intro y c;rcases zF.mp c with rfl | c
  ·exact d
  ·exact lt_trans' _ _ _ d ((wT.mp g).1 y c)
def ER{d:jn}(i:WF d):∀{bs:jm},(∀ b∈bs,b<d.length)->KK d bs->((Y5 d bs).map (·.1)).Pairwise (λa b=>a.lt b=true)/\bs.Nodup
 | [],_,_=>⟨tH.nil,List.nodup_nil⟩
 | [a],h,_=>by
  refine⟨?_,by simp⟩
  have:=(i a _ (YZ (h a (by simp)))).up
  simpa [Y5] using this
 | a::b::r,h,hn=>by
  obtain⟨m,p⟩:=ER i (bs:=b::r) (λc q=>h c (zI _ q)) hn.2;have j:=i a _ (YZ (h a (by simp)))
  have A:=i b _ (YZ (h b (by simp)))
  obtain⟨C,D,n,o⟩:=OE A.ne;have s:((Y5 d (b::r)).map (·.1)).head? = some (YK (gd d b)).lo:=by
   rw[o];unfold Y5;rw[yN,n];rfl
  have g:∀ x∈(gd d a).rows.map (·.1),∀ y∈(Y5 d (b::r)).map (·.1),x.lt y=true:=λx u=>ZRe (ts:=d) (bs:=[]) m s (Ak j u hn.1);refine⟨?_,xJ.mpr ⟨λt=>?_,p⟩⟩
  ·have e:Y5 d (a::b::r)=(gd d a).rows++Y5 d (b::r):=by simp[Y5]
   rw[e,zE];exact xE.mpr ⟨j.up,m,g⟩
  ·obtain⟨k,B,l,_⟩:=OE j.ne;have v:k.1∈(gd d a).rows.map (·.1):=by rw[l];simp
   have z:k.1∈(Y5 d (b::r)).map (·.1):=zM.mpr ⟨k,wZ.mpr ⟨a,t,by rw[l];simp⟩,rfl⟩
   have:=g _ v _ z;rw[PR] at this;cases this
def OG{c:jn}{a:jm}{i:Nat}(b:i<a.length):(XA c a).getD i .d=YK (gd c (a.getD i 0)):=by
 unfold XA;rw[zT,zD,zU b,zT,zU b];rfl
def Dl{g:jn}(F:WF g){c:jm}(x:∀ b∈c,b<g.length){L:YV}(h:over (XA g c)=some L):
  L=YK (Xs g c)/\c.Nodup/\2<=c.length/\c.length<=4/\(∀ b∈c,(gd g b).h+1=(Xs g c).h)/\((Y5 g c).map (·.1)).Pairwise (λa b=>a.lt b=true)/\Y5 g c≠[]:=by
 unfold over at h;split at h
 case isFalse=>cases h
 case isTrue hc=>
  obtain⟨o,H,V⟩:=hc;have G:(XA g c).length=c.length:=zX _;rw[G] at o H;have p:=QJ.mpr V;unfold IY at p;rw[G] at p;have B:KK g c:=Et λj U=>(p j U).2;obtain⟨E,C⟩:=ER F x B;have T:∀ i,i<c.length->((XA g c).getD i .d).h=((XA g c).getD 0 .d).h:=λi n=>by
   cases i with
   | zero=>rfl
   | succ i=>exact(p i n).1
  have k:∀ i,i<c.length->c.getD i 0∈c:=λi n=>by rw[zT,zU n];exact xL _
  have I:=F _ _ (YZ (x _ (k 0 ∅)))
  have X:=F _ _ (YZ (x _ (k (c.length-1) ∅)))
  have A:∀ b∈c,(gd g b).h+1=(Xs g c).h:=λb y=>by
   obtain⟨i,n,e⟩:=List.getElem_of_mem y;have:=T i n;rw[OG n,OG ∅] at this
   have s:c.getD i 0=b:=by rw[zT,zU n,e];rfl
   rw[s] at this;have:=Int.ofNat.inj this;show (gd g b).h+1=(gd g (c.getD 0 0)).h+1
   lia
  have D:Y5 g c≠[]:=λz=>by
   obtain⟨r,q,e,_⟩:=OE I.ne;have:r∈Y5 g c:=wZ.mpr ⟨_,k 0 ∅,by rw[e];simp⟩
   rw[z] at this;simp at this
  refine⟨?_,C,o,H,A,E,D⟩;rw[<-zG.inj h];have v:((XA g c).getD 0 .d).lo=(YK (Xs g c)).lo:=by
   rw[OG ∅]
   obtain⟨r,q,e,u⟩:=OE I.ne;rw[u]
   cases c with
   | nil=>simp at o
   | cons b c=>
    unfold YK Xs Y5;have M:(gd g b).rows=r::q:=e;simp only[yN,M];rfl
  have t:((XA g c).getD ((XA g c).length-1) .d).hi=(YK (Xs g c)).hi:=by
   rw[G,OG ∅]
   obtain⟨q,r,e,u⟩:=Jc X.ne;rw[u];rcases qS c with z | ⟨J,b,z⟩
   ·rw[z] at o;simp at o
   ·rw[qT] at z;have O:c.getD (c.length-1) 0=b:=by rw[z];simp[zT]
    rw[O] at e;have S:Y5 g c=Y5 g J++q++[r]:=by rw[z];simp[Y5,e]
    unfold YK Xs;simp only[S];simp[zT]
  have R:((XA g c).map YV.m).sum=(YK (Xs g c)).m:=by
   have:∀ l:jm,((XA g l).map YV.m).sum=((Y5 g l).length:Int):=λl=>by
    induction l with
    | nil=>rfl
    | cons b l W=>
     have N:XA g (b::l)=YK (gd g b)::XA g l:=rfl;have s:Y5 g (b::l)=(gd g b).rows++Y5 g l:=by simp[Y5]
     rw[N,s,yR,tG,W,zW];show ((gd g b).rows.length:Int)+_=_
     lia
   exact this c
  have Q:((XA g c).getD 0 .d).h+1=(YK (Xs g c)).h:=by
   rw[OG ∅]
   show ((gd g (c.getD 0 0)).h:Int)+1=(((gd g (c.getD 0 0)).h+1:Nat):Int)
   lia
  rw[v,t,R,Q]
def WJ.ext{a:jn}{t:ZP}{i:Nat}{u:ZP}(h:WJ a i u)(q:i<=a.length):WJ (a++[t]) i u:=by
 exists h.ne,h.up,h.inn,h.leaf;intro z;obtain⟨j,k,g,m⟩:=h.stem z;have e:∀ b∈u.bs,gd (a++[t]) b=gd a b:=λb d=>MA (by have:=(g b d).1;lia)
 exists j,k,λb d=>⟨(g b d).1,by rw[e b d];exact(g b d).2⟩
 rw[m];clear j k g m;have:∀ l:jm,(∀ b∈l,gd (a++[t]) b=gd a b)->(l.flatMap λb=>(gd a b).rows)=l.flatMap λb=>(gd (a++[t]) b).rows:=λl n=>by
  induction l with
  | nil=>rfl
  | cons b l p=>rw[yN,yN,n b (by simp),p λc o=>n c (zI _ o)]
 exact this _ e
def WF.push{a:jn}{t:ZP}(d:WF a)(h:WJ a a.length t):WF (a++[t]):=λi u e=>by
 rcases yA i a.length with b | b
 ·rw[wP b] at e;exact(d i u e).ext (yG b)
 ·rw[xQ b] at e;have c:i-a.length=0:=by
   rcases Nat.eq_zero_or_pos (i-a.length) with z | z
   ·exact z
   ·rw[qJ (by simp;lia)] at e;cases e
  rw[c] at e;simp at e;subst e;have:i=a.length:=∅
  rw[this];exact h.ext (zY _)
def ZMn{c:jn}(k:WF c){d:jm}(e:∀ b∈d,b<c.length){L:YV}(h:over (XA c d)=some L):WJ c c.length (Xs c d):=by
 obtain⟨_,_,l,m,n,j,g⟩:=Dl k e h;refine⟨g,j,λr o=>?_,λz=>absurd z (by show (gd c (d.getD 0 0)).h+1≠0;lia),λ_=>⟨l,m,λb a=>⟨e b a,n b a⟩,rfl⟩⟩
 obtain⟨b,a,i⟩:=wZ.mp o;exact(k b _ (YZ (e b a))).inn r i
def ZLh{e:jn}(h:WF e){c:jm}(g:∀ b∈c,b<e.length)(i:Nat):((XA e c).getD i .d).fit:=by
 rcases yA i c.length with a | a
 ·rw[OG a];refine HS (h _ _ (YZ (g _ ?_)));rw[zT,zU a];exact xL _
 ·rw[zT,qJ (by unfold XA;rw[zX];exact a)]
  exact ZRL
abbrev Ab:jr:=["labels","at","many"]
def QW:ZA Ab ["labels"] (Zc Jx):=Zr
def Af(D:ZB P w K mg km 6 "is_key" zEx WG):ZB P w K mg km 6 "is_key" zEx UG:=by
 obtain⟨g,gd,a,b,j,m⟩:=D.ex;refine⟨g,gd,a.imp λn H Q E h=>?_,b,j,m⟩;obtain⟨v,t,q,e,i,d,k⟩:=h;exact⟨v,t.emb,λ_=>False,e,Kn t v i,JX t q d,λc l=>by rw[KW];exact k c l⟩
def ZJw{a:jG}{L:YV}(h:over a=some L):2<=a.length/\a.length<=4/\La a=true/\L=⟨(a.getD 0 .d).h+1,(a.getD 0 .d).lo,(a.getD (a.length-1) .d).hi,(a.map YV.m).sum⟩:=by
 unfold over at h;split at h
 ·rename_i z
  cases h;exact⟨z.1,z.2.1,z.2.2,rfl⟩
 ·cases h
inductive Ub(e:jf)(H:Hp)(Q:VK)(_:XK):Prop
 |mk(l:ak)(c:jf)(b:jG)(L:YV)(_:e=[.ref l])(_:H l=some (.lst c))(_:Yp H b c)(_:∀ i,(b.getD i .d).fit)(_:over b=some L)(_:∀ a v,ZC H a->ZD a L.kt v->Q v a)
def ZLU(F:Zf K "label_over" "label_over" Jx f fd)(T:YA mg)(DS:ZB P w K mg km 8 "stand_side_by_side" zE4 QS):ZI P w K mg km ZZ 9 f fd ["labels"] Ub:=by
 refine F.ko QW λc2 A a7 s H vs Q E hr h=>?_;obtain⟨l,q,r,L,rfl,hl,hk,hf,a4,k⟩:=h;obtain⟨v2,v4,vc,rfl⟩:=ZJw a4;have nd:=QW.nd;have a0:=hk.1;obtain⟨tf,mf⟩:=T.few;obtain⟨tm,mm⟩:=T.most;obtain⟨t0,m0⟩:=T.height;obtain⟨t1,m1⟩:=T.least;obtain⟨t2,m2⟩:=T.greatest;obtain⟨t3,m3⟩:=T.many;intro Xc;refine⟨_,ZN (Zv (UB (Eb NS NS (WP (v:=.int 2) rfl mf ⟨_,rfl⟩) (Z2 WN rfl T.len Xu (ZX (pv 0))) (WP (v:=.int 4) rfl mm ⟨_,rfl⟩))) P3 Zy)
  (ZN (Vo PassesOwn.never rfl (Ie rfl T.range (Zl ZJ (Z2 WN rfl T.len Xu (ZX (pv 0))))) (Xe 1 nd)
   (ZR (Zv (UB (Y3 (Zg DS hr (Zl (YJ K (pv 0) (Zx Up (pv 1) ZJ)) (YJ K (pv 0) (pv 1)))))) P3 Zy)))
  (ZN (Zi 2 nd (Z2 (ZPB rfl) rfl T.sum ZPd (ZX (Wr [] [] rfl (X7 (pv 0)) (λ_ _ _ _ _=>VV) (λ_ _ _ _ _=>YJ K (pv 0) (WP (v:=.int 3) rfl m3 ⟨_,rfl⟩)) trivial))))
  (ZR (Zd (Yw (VN (Zx WW (YJ K (YJ K (pv 0) ZJ) (WP (v:=.int 0) rfl m0 ⟨_,rfl⟩)) ZJ)
   (YJ K (YJ K (pv 0) ZJ) (WP (v:=.int 1) rfl m1 ⟨_,rfl⟩))
   (YJ K (YJ K (pv 0) (Q3 Qz ZJ)) (WP (v:=.int 2) rfl m2 ⟨_,rfl⟩))
   (pv 2))))))),?_⟩
 have O:∀(W:Hp)(i:Nat),ZC H W->i<q.length->∃(a:ak)(G C:V),q[i]? = some (.ref a)/\W a=some (.tup [.int (r.getD i .d).h,G,C,.int (r.getD i .d).m])/\ZD W (r.getD i .d).lo G/\ZD W (r.getD i .d).hi C:=λW i s' M=>by
  have hu:q[i]? = some q[i]:=zU M;obtain⟨a,G,C,e,e1,k1,k2⟩:=(hk.2 i _ hu).mono (ZC.tups s');exact⟨a,G,C,by rw[hu,e],e1,k1,k2⟩
 exists _,rfl,l,q,rfl,.inl (ZG.of hl),_,_,rfl,rfl,_,rfl;have h2:2<=q.length:=by lia (splits:=8)
 have h4:q.length<=4:=by lia (splits:=8)
 rw[aK (show (2:Int)<=(q.length:Int) by lia (splits:=8))]
 refine Zw ⟨_,_,rfl,rfl,_,rfl,?_⟩;rw[aK (show (q.length:Int)<=4 by lia (splits:=8))]
 refine Zk ?_;exists _,rfl,l,q,rfl,.inl (ZG.of hl),1,(q.length:Int),rfl,⟨by lia (splits:=8),by lia (splits:=8),by lia (splits:=8),by lia (splits:=8)⟩
 refine O7 (lo:=1) (n:=((q.length:Int)-1).toNat) (λi σ X=>∃ x:jg,σ=[some (.ref l),x,none]/\ZC H X/\∀ j,j<i->Qe (r.getD j .d) (r.getD (j+1) .d)=true) ⟨_,rfl,ZC.refl H,λj hj=>absurd hj (by lia (splits:=8))⟩ ?_ ?_
 ·rintro i σ X M ⟨x,rfl,I,a1⟩;have a2:i+1<q.length:=by lia (splits:=8)
  have ua:q[i]? = some (q[i]'(by lia (splits:=8))):=zU (by lia (splits:=8))
  have ub:q[i+1]? = some q[i+1]:=zU a2;have e1:(1:Int)+(i:Int)=((i+1:Nat):Int):=by lia (splits:=8)
  have e0:(1:Int)+(i:Int)-1=((i:Nat):Int):=by lia (splits:=8)
  have t:=I _ _ hl;refine⟨_,rfl,_,rfl,_,_,rfl,rfl,.inl ⟨l,q,_,_,rfl,rfl,ZG.of t,(by rw[e0];exact Xo ua),?_⟩⟩
  refine⟨_,rfl,_,rfl,.inl ⟨l,q,_,_,rfl,rfl,ZG.of t,(by rw[e1];exact Xo ub),?_⟩⟩
  refine⟨_,_,r.getD i .d,r.getD (i+1) .d,rfl,(hk.2 i _ ua).mono (ZC.tups I),(hk.2 (i+1) _ ub).mono (ZC.tups I),hf i,hf (i+1),λu S=>⟨_,rfl,?_⟩⟩;have hc:Qe (r.getD i .d) (r.getD (i+1) .d)=true:=zQ.mp vc i (xY.mpr (by lia (splits:=8)))
  rw[hc];refine Zk ⟨_,rfl,I.trans S,λj hj=>?_⟩;rcases yA j i with c1 | c1
  ·exact a1 j c1
  ·have:j=i:=by lia (splits:=8)
   rw[this];exact hc
 rintro σ X ⟨x,rfl,I,a1⟩;have t:=I _ _ hl;exists _,rfl,l,rfl,⟨q,ZG.of t⟩;refine Vc (n:=q.length) (λi z=>q[i]? = some z) (λD i U u=>ZC X u/\X D=none/\U=((r.map YV.m).take i).map V.int) (Yq (by lia (splits:=8)))
  (λD i U u M y=>⟨q,q[i],ZG.of (y.1 _ _ t),by simp[M]⟩) (λD i U u z H4 M y hy=>⟨hy.1,hy.2 q (ZG.of (y.1 _ _ t))⟩) (λD U u y=>⟨q,ZG.of (y.1 _ _ t),zY _⟩)
  (λD hD=>⟨ZU hD _,hD,rfl⟩) (λD i U u z eD c4 M hz y R hR=>?_) (λD U u eD y=>?_)
 ·obtain⟨S,nD,rfl⟩:=y;obtain⟨a,a9,a8,ua,ea,c5,c6⟩:=O u i (I.trans S) M;rw[ua] at hz;cases hz;refine⟨_,rfl,.inr (.inl ⟨a,_,_,.int (r.getD i .d).m,rfl,rfl,Zh.of ea,rfl,?_⟩)⟩;refine hR _ u eD ⟨λb o e=>by rw[ZS (ZY e nD)];exact S b o e,nD,?_⟩
  have eg:(r.map YV.m)[i]? = some (r.getD i .d).m:=by
   rw[zD,zT,zU (show i<r.length by lia (splits:=8))]
   rfl
  rw[yM,eg,zE];rfl
 ·obtain⟨S,nD,rfl⟩:=y;rw[yV (by rw[zX];lia (splits:=8))] at eD
  exists D,r.map YV.m,rfl,ZG.of eD;have B:=I.trans S;have N:=B _ _ hl;obtain⟨c,Z,c3,uc,ec,a6,c8⟩:=O u 0 B (by lia (splits:=8))
  obtain⟨b,c0,Y,ub,eb,c7,a5⟩:=O u (q.length-1) B (by lia (splits:=8))
  have J:Xt q (-1)=some (.ref b):=by
   have e:q=q.dropLast++[.ref b]:=by
    have a3:q≠[]:=λz=>by rw[z] at h2;simp at h2
    have hg:q.getLast a3=.ref b:=by
     rw[zEE];have:=(yT.mp ub).2;exact this
    rw[<-hg,qB]
   rw[e];exact DE _ _
  refine⟨_,rfl,.inl ⟨l,q,_,.ref c,rfl,rfl,ZG.of N,Xo (j:=0) uc,.inr (.inl ⟨c,_,_,.int (r.getD 0 .d).h,rfl,rfl,Zh.of ec,rfl,_,_,rfl,rfl,?_⟩)⟩⟩;refine⟨_,rfl,.inl ⟨l,q,_,.ref c,rfl,rfl,ZG.of N,Xo (j:=0) uc,.inr (.inl ⟨c,_,_,Z,rfl,rfl,Zh.of ec,rfl,?_⟩)⟩⟩;refine⟨_,rfl,1,rfl,.inl ⟨l,q,_,.ref b,rfl,rfl,ZG.of N,J,.inr (.inl ⟨b,_,_,Y,rfl,rfl,Zh.of eb,rfl,?_⟩)⟩⟩;exists _,rfl,Zu;intro p hp;have g:=ZU hp (.tup [.int ((r.getD 0 .d).h+1),Z,Y,.int (r.map YV.m).sum]);refine k _ _ (B.trans g) ?_;rw[<-a0];exact .tup ZM (.cons (.int _) (.cons (a6.sm g) (.cons (a5.sm g) (.cons (.int _) .nil))))
abbrev HN:Stmt:=VO (Zq 49) 19
abbrev Jp:Stmt:=VO (Zq 49) 20
abbrev JB:Stmt:=VO (Zq 49) 2
inductive Xq(kh ki:ak)(o:jf)(H:Hp)(Q:VK)(_:XK):Prop
 |mk(S d m l:ak)(g:jn)(j:Nat->jm)(k:Nat->Nat)(i:jv)(e:List (Zb×V))(n:jf)(c:jm)(_:o=[.ref S,.ref l])(_:Ye kh ki H S d m g j k i e n)(_:H l=some (.lst (iN c)))(_:∀ b∈c,b<g.length)(_:c.length<=100)(_:∀(D:ak)(h:jf)(a:Hp),ZC H a->H D=none->a D=some (.lst h)->Yp a (XA g c) h->Q (.ref D) a)
def ZIF:ZA zEj zEj (Zc HN):=Zr
def O5{a:jm}{i:Nat}{z:V}(h:(iN a)[i]? = some z):∃ b,a[i]? = some b/\z=.int (b:Nat):=by
 unfold iN at h;rw[zD] at h;obtain⟨b,e,rfl⟩:=xR.mp h;exact⟨b,e,rfl⟩
def A9(F:Zf K "labels_of" "Shelf.labels_of" HN f fd)(L:Yh K mg kh ki)(T:ZL P w K mg km ZZ 2 kh "label" zEa (V4 kh ki λtg _ _=>tg)):ZI P w K mg km ZZ 3 f fd zEj (Xq kh ki):=by
 refine F.ko ZIF λV A I s H vs Q E hr h=>?_;obtain⟨S,d,lk,l,q,av,ho,U,G,ls,j,rfl,R,v,Z,M,k⟩:=h;have li:(iN j).length=j.length:=zX _;intro Xc;exists _,ZR (Zd (Wr [0] zEs rfl (X7 (pv 1)) (λ_ _ _ _ _=>VV) (λ_ _ _ _ _=>XQ (E:=E0) (pv 1) L.cS T hr XJ (ZX (pv 0))) ⟨rfl,.inl rfl,rfl,trivial⟩));exists _,rfl,l,rfl,⟨_,ZG.of v⟩;refine Vc (n:=(iN j).length) (λi z=>(iN j)[i]? = some z) (λD i o a=>ZC H a/\H D=none/\Yp a (XA q (j.take i)) o) (Yq ∅)
  (λD i o a C g=>⟨_,(iN j)[i],ZG.of (g.1 _ _ v),zU C⟩) (λD i o a z H4 C g O=>⟨O.1,O.2 _ (ZG.of (g.1 _ _ v))⟩) (λD o a g=>⟨_,ZG.of (g.1 _ _ v),zY _⟩)
  (λD N=>⟨ZU N _,N,rfl,λi u e=>by simp at e⟩) (λD i o a z r a0 C hz g RR B=>?_) (λD us a r g=>?_)
 ·obtain⟨y,x,t⟩:=g;obtain⟨b,J,rfl⟩:=O5 hz;have m:=Z b (zK J);have p:=R.same y;obtain⟨W,Y⟩:=p.sh.self;exists _,rfl,S,W,_,rfl,Y,rfl,_,rfl,S,d,lk,q.length,G,ls,(b:Int),_,_,_,_,_,_,rfl,⟨p.sh,p.val b m,(p.tw b m).tw⟩;refine B _ a r ⟨WX y x,x,?_⟩;have tD:Z3 a (upd a D (.lst (o++[.ref (U.getD b .d).tg]))):=λc xs e=>by rw[ZS (ZV e r)];exact e
  rw[yM,J];have X:XA q (j.take i++(some b).toList)=XA q (j.take i)++[YK (gd q b)]:=by unfold XA;simp
  rw[X];exact(t.snoc (p.tw b m).tag).mono tD
 ·obtain⟨y,x,t⟩:=g;rw[yV ∅] at t
  exact k D us a y x r t
inductive Yf(kh ki:ak)(q:jf)(H:Hp)(Q:VK)(_:XK):Prop
 |mk(S l:ak)(e:jt)(_:q=[.ref S,.ref l])(_:H l=some (.lst (e.map V.int)))(_:∃ h b,H S=some (.ins kh h b)/\b.lookup (yE "outside")=none)(_:∀ n∈e,∃(d i:ak)(m:Nat)(a:List (Zb×V))(j:jf)(x:ak)(o k:V)(g:ak)(c:Nat)(p:jf),VW kh ki H S d i m a j n x o k g c p/\1<=c)(_:Q .non H)
def Xp:ZA ["self","numbers","number"] zEj (Zc Jp):=Zr
def Cn(F:Zf K "check_held" "Shelf.check_held" Jp f fd)(L:Yh K mg kh ki)(r:ZL P w K mg km ZZ 2 kh "outside" zEa (V4 kh ki λ_ j _=>.int j)):ZI P w K mg km ZZ 3 f fd zEj (Yf kh ki):=by
 refine F.ko Xp λv A p s H vs Q E I h=>?_;obtain⟨S,l,O,rfl,q,⟨y,Z,D,g⟩,G,k⟩:=h;have N:=Xp.nd;intro Y;refine⟨_,ZR (Vo PassesOwn.never rfl (X7 (pv 1)) (Xe 2 N)
  (ZR (Zv (Yc VH (XQ (E:=E0) (pv 0) L.cS r I XJ (ZX (pv 2))) ZJ (Z9 _)) P3 Zy))),?_⟩
 refine⟨_,rfl,l,rfl,⟨_,ZG.of q⟩,Pp (K:=K) (a:=l) (xs:=O.map V.int) (λi e c=>∃ x:jg,e=[some (.ref S),some (.ref l),x]/\c=H) ⟨_,rfl,rfl⟩ (λi e c _ C=>by obtain⟨_,_,rfl⟩:=C;exact ZG.of q) ?_ ?_⟩
 ·rintro i u e c b ⟨x,rfl,rfl⟩;rw[zD] at b;obtain⟨n,B,rfl⟩:=xR.mp b;obtain⟨d,J,m,o,M,X,U,T,t,j,W,R,h1⟩:=G n (zK B);exists _,rfl,S,y,_,rfl,D,g,_,rfl,S,d,J,m,o,M,n,X,U,T,t,j,W,rfl,R,rfl,_,rfl;rw[aJ (λz=>by have:=ME z;lia)]
  exact Zk ⟨_,rfl,rfl⟩
 ·rintro e c ⟨x,rfl,rfl⟩;exact k
inductive YN(kh ki:ak)(r:jf)(H:Hp)(Q:VK)(_:XK):Prop
 |mk(S d n l:ak)(e:jn)(k:Nat->jm)(m:Nat->Nat)(i:jv)(h:List (Zb×V))(p:jf)(g:jm)(q:YV)(_:r=[.ref S,.ref l])(_:Ye kh ki H S d n e k m i h p)(_:WF e)(_:e.length<=800)(_:∀ b∈g,b<e.length/\1<=m b/\(k b).length<=800)(_:H l=some (.lst (iN g)))(_:over (XA e g)=some q)(_:∀(j:Hp)(a:YB),H a.x=none->H a.th=none->H a.ab=none->(∀ c o,c≠S->c≠d->(∀ b:Nat,b<e.length->c≠(i.getD b .d).x/\c≠(i.getD b .d).ab)->H c=some o->j c=some o)->Ye kh ki j S d n (e++[Xs e g]) (QG g e.length (Ql e.length k)) (Qm g (Qn e.length m)) (i++[a]) (XR h (.inl (e.length:Int)) (.ref a.x)) p->Q (.int (e.length:Nat)) j)
abbrev ZLb:jr:=["self","numbers","branches","label","number"]
def Ww:ZA ZLb zEj (Zc JB):=Zr
def Az(a:jm):iN a=(a.map λb:Nat=>(b:Int)).map V.int:=by unfold iN;rw[xO];rfl
def ZGh(F:Zf K "put_stem" "Shelf.put_stem" JB f fd)(T:YA mg)(L:Yh K mg kh ki)(DL:ZL P w K mg km ZZ 3 kh "labels_of" zEj (Xq kh ki))(DO:ZB P w K mg km 9 "label_over" ["labels"] Ub)(DC:ZL P w K mg km ZZ 3 kh "check_held" zEj (Yf kh ki))(DT:ZL P w K mg km ZZ 3 kh "put_twig" zEz (Xi kh ki))(DK:ZL P w K mg km ZZ 2 kh "take_over" zE5 (WB kh ki)):
  ZI P w K mg km ZZ 10 f fd zEj (YN kh ki):=by
 refine F.ko Ww λc3 A c0 s H vs Q E hr h=>?_;obtain⟨S,d,X,l,a,av,ho,M,G,Y,i,Lb,rfl,R,hw,c2,B,hl,O,q3⟩:=h;have W:∀ b∈i,b<a.length:=λb h=>(B b h).1;have nd:=Ww.nd;have C:=hr.mono (show 3<=9 by lia)
 have a8:=hr.mono (show 2<=9 by lia)
 obtain⟨eL,a7,c4,c5,c6,c9,c7⟩:=Dl hw W O;intro Xc;refine⟨_,ZN (Zi 2 nd (X0 Qu rfl T.list Uw (ZX (pv 1))))
  (ZN (Zi 3 nd (Zg DO hr (ZX (XQ (E:=E0) (pv 0) L.cS DL C XJ (ZX (pv 2))))))
  (ZN (Xl (XQ (E:=E0) (pv 0) L.cS DC C XJ (ZX (pv 2))))
  (ZN (Zi 4 nd (XQ (E:=E0) (pv 0) L.cS DT C XJ (Zl (pv 2) (pv 3))))
  (ZN (Xl (XQ (E:=E0) (pv 0) L.cS DK a8 XJ (Zl (pv 4) (pv 2))))
  (ZR (Zd (pv 4))))))),?_⟩
 exists _,rfl,l,iN i,rfl,.inl (ZG.of hl);intro D Z;have g1:=ZU Z (.lst (iN i));have y:upd H D (.lst (iN i)) D=some (.lst (iN i)):=ZM;generalize upd H D (.lst (iN i))=H1 at g1 y⊢;have R1:=R.same g1;obtain⟨a0,a4⟩:=R1.sh.self;exists _,rfl,S,a0,_,rfl,a4,rfl,_,rfl,S,d,X,D,a,av,ho,M,G,Y,i,rfl,R1,y,W,by lia
 intro D2 us H2 s2 e0 a3 a6;have c1:=g1.trans s2;exists D2,us,XA a i,Lb,rfl,a3,a6,ZLh hw W,O;intro H3 v s3 kv;subst eL;have g:=c1.trans s3;have r:=R.same g;obtain⟨u,m⟩:=r.sh.self;have k:H3 D=some (.lst (iN i)):=s3 _ _ (s2 _ _ y);exists _,rfl,S,u,_,rfl,m,rfl,_,rfl,S,D,i.map (λb:Nat=>(b:Int)),rfl,by rw[<-Az];exact k,⟨u,_,m,rfl⟩,λn hn=>?_
 ·obtain⟨b,j,rfl⟩:=zM.mp hn;have p:=B b j;exact⟨d,X,a.length,G,Y,_,_,_,_,_,_,⟨r.sh,r.val b p.1,(r.tw b p.1).tw⟩,p.2.1⟩
 have kl:=Lf kv;obtain⟨I,e3,e2,rfl,c8,_,_⟩:=kl;have a9:=Lf kv;exists _,rfl,S,u,_,rfl,m,rfl,_,rfl,_,rfl,S,d,X,a.length,G,Y,.ref D,.ref I,rfl,r.sh,by rw[Gk R];lia
 intro H5 x J nx q V R5 W5;have U:Z3 H3 H5:=λb ys e=>V b _ (ZV e m) (ZV e r.sh.kept) e;have N:H5 D=some (.lst (iN i)):=V _ _ (ZV k m) (ZV k r.sh.kept) k;have PP:=EH (t:=Xs a i) (x:=x) (th:=D) (tg:=I) (ab:=J) R (H':=H5) (λb o n1 n2 e=>V b o n1 n2 (g b o e)) (g.free nx) Z (g.free q) (ZY k q).symm R5 W5
  ⟨iN i,N,λz=>absurd z (by show (gd a (i.getD 0 0)).h+1≠0;lia),λ_=>rfl⟩ (a9.mono U)
 obtain⟨a1,a5⟩:=R5.self;have el:M.length=a.length:=R.len;have aL:∀ b,b<a.length->(M++[(⟨x,D,I,J⟩:YB)]).getD b .d=M.getD b .d:=λb W=>IQ ∅
 have aN:(M++[(⟨x,D,I,J⟩:YB)]).getD a.length .d=⟨x,D,I,J⟩:=by rw[<-el];exact Jj
 have en:(a++[Xs a i]).length=a.length+1:=by simp
 refine⟨_,rfl,S,a1,_,rfl,a5,rfl,_,rfl,_,rfl,S,d,X,D,_,_,_,_,_,Y,i,a.length,rfl,PP,N,a7,λb j=>?_,λb j=>?_,λH6 a2 e1 R6=>⟨_,rfl,?_⟩⟩
 ·have p:=B b j;have nb:b≠a.length:=∅
  exists by lia,?_
  ·rw[show Qn a.length ho b=ho b from aM nb];exact p.2.1
  ·rw[show Ql a.length av b=av b from aM nb];lia
 ·rw[en] at j;rcases yA b a.length with c | c
  ·rw[aL b c];exact(ZY (R.tw b c).tw.above Z).symm
  ·have:b=a.length:=∅
   rw[this,aN];exact ZY k q
 ·refine q3 H6 ⟨x,D,I,J⟩ (g.free nx) Z (g.free q) (λc o n1 n2 n3 e=>?_) R6;refine a2 c o (λb j=>?_) (V c o n1 n2 (g c o e));rw[en] at j;rcases yA b a.length with z | z
  ·rw[aL b z];exact n3 b z
  ·have:b=a.length:=∅
   rw[this,aN];exact⟨ZY e (g.free nx),ZY e (g.free q)⟩
def ZLq(a:jw):(YK (Uc a)).kt=KA (a.map (·.1)):=by
 have b:(a.map (·.1)).length=a.length:=zX _;have c:(a.map (·.1)).getD 0 (.int 0)=(a.getD 0 rd).1:=by
  rw[zT,zT,zD];cases a[0]? <;> rfl
 have d:(a.map (·.1)).getD (a.length-1) (.int 0)=(a.getD (a.length-1) rd).1:=by
  rw[zT,zT,zD];cases a[a.length-1]? <;> rfl
 unfold KA YK Uc YV.kt;rw[b,c,d];rfl
inductive XG(kh ki:ak)(q:jf)(H:Hp)(Q:VK)(_:XK):Prop
 |mk(S d j l:ak)(n:Nat)(c:List (Zb×V))(k p:jf)(g:jw)(_:q=[.ref S,.ref l])(_:Yy kh H S d j n c k)(_:c.length<=900)(_:H l=some (.lst p))(_:jY H (YH g) p)(_:X8 g)(_:∀(a:Hp)(x h m i:ak),H x=none->H h=none->H i=none->i≠h->(∀ b o,b≠S->b≠d->H b=some o->a b=some o)->Yy kh a S d j (n+1) (XR c (.inl (n:Int)) (.ref x)) k->WL ki a x (.ref h) (.ref m) i 1 []->(∃ e,a h=some (.lst e)/\jY a (YH g) e)->Yz a (YK (Uc g)) (.ref m)->Q (.int (n:Nat)) a)
def ZGq(F:Zf K "put_leaf" "Shelf.put_leaf" IU f fd)(L:Yh K mg kh ki)(W:ZB P w K mg km 9 "checked_rows" zE2 Vh)(X:ZB P w K mg km 1 "label_of_rows" zE2 Wj)(Y:ZL P w K mg km ZZ 3 kh "put_twig" zEz (Xi kh ki)):
  ZI P w K mg km ZZ 10 f fd zEt (XG kh ki):=by
 refine F.ko Wl λa0 A N s H vs Q E B h=>?_;obtain⟨S,d,lk,l,n,J,ls,us,O,rfl,R,q,hl,hk,G,k⟩:=h;have nd:=Wl.nd;have C:=B.mono (show 1<=9 by lia)
 have D:=B.mono (show 3<=9 by lia)
 intro Xc;refine⟨_,ZN (Zi 2 nd (Zg W B (ZX (pv 1))))
  (ZR (Zd (XQ (E:=E0) (pv 0) L.cS Y D XJ (Zl (pv 2) (Zg X C (ZX (pv 2))))))),?_⟩
 exists _,rfl,l,us,O,rfl,hl,hk,G;intro H1 t g U M p j;have R1:=R.same U;obtain⟨dx,hS⟩:=R1.self;have lu:g.length=O.length:=by have:=j.length;rw[<-this];exact zX _
 exists _,rfl,S,dx,_,rfl,hS,rfl,_,rfl,_,rfl,t,g,O.map (·.1),rfl,p,ZJ7 j,by rw[lu];exact G.2.1
 intro Z v T kv;rw[<-ZLq] at kv;have I:=Lf kv;obtain⟨V,a4,a3,rfl,a2,_,_⟩:=I;have I:=Lf kv;have c:=U.trans T;have R2:=R.same c;exists S,d,lk,n,J,ls,.ref t,.ref V,rfl,R2,q;intro u x ab nx r y R3 W3;obtain⟨a1,m⟩:=R2.self;have i:Z3 Z u:=λb ys e=>y b _ (ZV e m) (ZV e R2.kept) e;have a:=T _ _ p;have z:u t=some (.lst g):=y _ _ (ZV a m) (ZV a R2.kept) a;exact k u x t V ab (c.free nx) M (c.free r) (ZY a r).symm (λb o n1 n2 e=>y b o n1 n2 (c b o e)) R3 W3 ⟨g,z,j.mono (λb xs e=>i b xs (T _ _ e)) _ _⟩ (I.mono i)
def ZIX(D:ZL P w K mg km ZZ 10 kh "put_leaf" zEt (XG kh ki)):ZL P w K mg km ZZ 10 kh "put_leaf" zEt (Yb kh ki):=by
 obtain⟨g,gd,M,s,b⟩:=D.ex;refine⟨g,gd,M,s.imp λY H Q E h=>?_,b⟩;obtain⟨S,d,I,l,O,V,X,U,o,J,T,r,e,R,c,F,C,G,k⟩:=h;exists S,d,I,l,O.length,o,J,T,r,e,R.sh,by rw[Gk R];exact c,F,C,G
 intro u x N L y nx j i a q v W n m;obtain⟨p,A,B⟩:=n;exact k u ⟨x,N,L,y⟩ nx j i q (EH (t:=Uc r) R q nx j i a v W ⟨p,A,λ_=>B,λz=>absurd rfl z⟩ m)
abbrev Kf:Stmt:=VO (Zq 49) 5
abbrev IC:Stmt:=VO (Zq 49) 6
structure OT(kh ki:ak)(H:Hp)(S d lk:ak)(n:Nat)(kvs:List (Zb×V))(ls:jf)(i:Int)(x:ak)(th:V)(tg ab:ak)(ho:Nat):Prop where
 rd:VW kh ki H S d lk n kvs ls i x th (.ref tg) ab ho []
 tag:∃ xs,H tg=some (.tup (.int 0::xs))
inductive Qh(kh ki:ak)(j:jf)(H:Hp)(Q:VK)(_:XK):Prop
 |mk(S d c:ak)(n:Nat)(a:List (Zb×V))(e:jf)(i:Int)(x:ak)(h:V)(g b:ak)(_:j=[.ref S,.int i])(_:OT kh ki H S d c n a e i x h g b 0)(_:Q .non (upd H d (.dK (Qy a (.inl i)))))
def Qj:ZA ["self","number","twig","branch"] zEa (Zc IC):=Zr
def ZOV(F:Zf K "drop_unheld" "Shelf.drop_unheld" IC f fd)(L:Yh K mg kh ki)(z:ZL P w K mg km ZZ 2 kh "holders" zEa (V4 kh ki λ_ G N=>.int ((N.length:Nat)+(G:Nat):Int)))(B:ZB P w K mg km 1 "is_stem" ["twig"] (VE ki)):ZI P w K mg km ZZ 3 f fd zEa (Qh kh ki):=by
 refine F.ko Qj λC A l s H U Q E r h=>?_;obtain⟨S,d,I,n,a,J,i,x,y,v,m,rfl,R,k⟩:=h;have M:=Qj.nd;have j:=r.to 1;intro T;refine⟨_,ZN (Zv (Yc OD (XQ (E:=E0) (pv 0) L.cS z r XJ (ZX (pv 1))) ZJ (Z9 _)) P3 Zy)
  (ZN (Zi 2 M (AB (We (pv 0) rfl) (pv 1) ⟨rfl,rfl,rfl,rfl⟩))
  (ZR (Zv (Y3 (Zg B j (ZX (pv 2)))) P3 Zy))),?_⟩
 obtain⟨p,q⟩:=R.rd.sh.self;obtain⟨O,t⟩:=R.tag;refine⟨_,rfl,S,p,_,rfl,q,rfl,_,rfl,S,d,I,n,a,J,i,x,y,.ref v,m,0,[],rfl,R.rd,_,_,rfl,rfl,_,rfl,Zk ?_⟩;have c:=R.rd.sh.kept;exists _,rfl,S,kh,p,_,.ref d,rfl,q,L.cS,L.nk,rfl,d,rfl,.inl ⟨a,Rd.of c⟩,_,rfl,a,.inl i,.ref x,c,rfl,R.rd.val;obtain⟨D,u⟩:=R.rd.tw.self;have g:∀ b o,b≠d->H b=some o->upd H d (.dK (Qy a (.inl i))) b=some o:=λb o n e=>by rw[ZS n];exact e
 refine⟨_,rfl,x,y,v,m,0,[],0,O,rfl,⟨⟨D,g _ _ (ZV u c) u⟩,g _ _ (ZV R.rd.tw.above c) R.rd.tw.above⟩,g _ _ (ZV t c) t,_,rfl,Zk k⟩
inductive Ud(kh ki:ak)(l:jf)(H:Hp)(Q:VK)(_:XK):Prop
 |mk(S d g:ak)(n:Nat)(a:List (Zb×V))(h:jf)(i:Int)(x:ak)(k:V)(j e:ak)(_:l=[.ref S,.int i])(_:OT kh ki H S d g n a h i x k j e 1)(_:x≠S)(_:∀ c,(∀ b o,b≠x->b≠d->H b=some o->c b=some o)->c d=some (.dK (Qy a (.inl i)))->Q .non c)
def UO:ZA zFb zEa (Zc Kf):=Zr
def ZMD(F:Zf K "let_go" "Shelf.let_go" Kf f fd)(L:Yh K mg kh ki)(X:ZL P w K mg km ZZ 3 kh "check_held" zEj (Yf kh ki))(Z:ZL P w K mg km ZZ 1 kh "twig_of" zEa (YO kh))(Y:ZL P w K mg km ZZ 3 kh "drop_unheld" zEa (Qh kh ki)):
  ZI P w K mg km ZZ 4 f fd zEa (Ud kh ki):=by
 refine F.ko UO λa0 A U s H vs Q E O h=>?_;obtain⟨S,d,M,n,j,N,i,x,v,u,p,rfl,R,xS,k⟩:=h;have nd:=UO.nd;have T:=O.to 1;intro Xc;refine⟨_,ZN (Xl (XQ (E:=E0) (pv 0) L.cS X O XJ (ZX (YG (ZX (pv 1))))))
  (ZN (Zi 2 nd (XQ (E:=E0) (pv 0) L.cS Z T XJ (ZX (pv 1))))
  (ZN (Go (pv 2) ZJ D3)
  (ZR (Xl (XQ (E:=E0) (pv 0) L.cS Y O XJ (ZX (pv 1))))))),?_⟩
 obtain⟨z,V⟩:=R.rd.sh.self;exists _,rfl,S,z,_,rfl,V,rfl,_,rfl,Zu;intro l nl;have g:=ZU nl (.lst [.int i]);have W:=ZM (H:=H) (a:=l) (o:=.lst [.int i]);generalize upd H l (.lst [.int i])=J at g W⊢;have t:=g _ _ V;have c:=R.rd.same g;exists S,l,[i],rfl,W,⟨z,_,t,rfl⟩,λm hm=>?_
 ·rw[zB.mp hm];exact⟨d,M,n,j,N,x,v,.ref u,p,1,[],c,zY _⟩
 exists _,rfl,S,z,_,rfl,t,rfl,_,rfl,S,d,M,n,j,N,i,.ref x,rfl,c.sh,c.val;obtain⟨q,y⟩:=c.tw.self;obtain⟨xs,ht⟩:=R.tag;have G:=g _ _ ht;exists _,rfl,x,ki,q,_,.int (1:Nat),rfl,y,L.cT,L.nho,rfl,_,_,rfl,rfl,q,_,y,yH rfl;have I:upd J x (.ins ki q (XB "holds" (.int (((1:Nat):Int)-1)) (Uz v (.ref u) p 1))) x=some (.ins ki q (Uz v (.ref u) p 0)):=by rw[ZM];rfl
 have r:∀ b o,b≠x->J b=some o->upd J x (.ins ki q (XB "holds" (.int (((1:Nat):Int)-1)) (Uz v (.ref u) p 1))) b=some o:=λb o n e=>by rw[ZS n];exact e
 generalize upd J x (.ins ki q (XB "holds" (.int (((1:Nat):Int)-1)) (Uz v (.ref u) p 1)))=H2 at I r⊢;have C:=c.sh.kept;have D:=c.sh.looks;have B:=r _ _ (Ne.symm xS) t;have R2:OT kh ki H2 S d M n j N i x v u p 0:=⟨⟨⟨⟨z,B⟩,r _ _ (ZV C y) C,r _ _ (ZV D y) D⟩,c.val,⟨⟨q,I⟩,r _ _ (ZV c.tw.above y) c.tw.above⟩⟩,⟨xs,r _ _ (ZV G y) G⟩⟩;exists _,rfl,S,z,_,rfl,B,rfl,_,rfl,S,d,M,n,j,N,i,x,v,u,p,rfl,R2;exact k _ (λb o n1 n2 e=>by rw[ZS n2];exact r _ _ n1 (g _ _ e)) ZM
structure YL where
 S:ak
 d:ak
 ts:jn
 av:Nat->jm
 ho:Nat->Nat
 as:jv
 kvs:List (Zb×V)
structure Z1(kh ki:ak)(H:Hp)(X:YL)(lk:ak)(c:Nat)(ls:jf):Prop where
 sh:Yy kh H X.S X.d lk c X.kvs ls
 keys:X.kvs.map (·.1)=(yX X.ts.length).map (λi:Nat=>(Sum.inl (i:Int):Zb))
 val:∀ i:Nat,i<X.ts.length->YR X.kvs (Sum.inl (i:Int))=some (.ref (X.as.getD i .d).x)
 tw:∀ i:Nat,i<X.ts.length->P6 ki H X.ts X.av X.ho i (X.as.getD i .d)
 own:∀ i:Nat,i<X.ts.length->(X.as.getD i .d).x≠X.S/\(X.as.getD i .d).ab≠lk/\(X.as.getD i .d).th≠lk
 le:X.ts.length<=c
def M8{H f:Hp}{p:ak}(w:ZH H p)(h:∀ o,H p=zG o->f p=zG o):ZH f p:=by
 obtain⟨a,b,c,d,e,r⟩:=w.ex;exact⟨a,b,c,d,h _ e,r⟩
section
variable{kh ki:ak}{H H':Hp}{X:YL}{lk lk':ak}{c c':Nat}{ls ls':jf}
def Ye.q{S d:ak}{e:jn}{g:Nat->jm}{h:Nat->Nat}{f:jv}{a:List (Zb×V)}(R:Ye kh ki H S d lk e g h f a ls):Z1 kh ki H ⟨S,d,e,g,h,f,a⟩ lk e.length ls:=
 ⟨R.sh,R.keys,R.val,R.tw,λi b=>⟨(R.own i b).1,(R.own i b).2.1,(R.own i b).2.2.1⟩,zY _⟩
def Z1.frame(R:Z1 kh ki H X lk c ls)(r:Yy kh H' X.S X.d lk' c' X.kvs ls')(f:∀ b o,b≠X.S->b≠X.d->b≠lk->H b=some o->H' b=some o)(j:∀ i:Nat,i<X.ts.length->(X.as.getD i .d).ab≠lk'/\(X.as.getD i .d).th≠lk')(q:X.ts.length<=c'):Z1 kh ki H' X lk' c' ls':=by
 obtain⟨⟨s,h⟩,g,m⟩:=R.sh;refine⟨r,R.keys,R.val,λi a=>?_,λi a=>⟨(R.own i a).1,j i a⟩,q⟩;have W:=R.tw i a;obtain⟨t,n⟩:=W.tw.self;obtain⟨u,k,_⟩:=W.things;have l:=W.tw.above;have o:=R.own i a;exact W.frame (λb v e=>f b _ (ZV e h) (ZV e g) (ZV e m) e)
  (λp e=>f _ _ o.1 (ZV n g) (ZV n m) e)
  (λp e=>f _ _ (ZV k h) (ZV k g) o.2.2 e)
  (λp e=>f _ _ (ZV l h) (ZV l g) o.2.1 e)
def Z1.same(R:Z1 kh ki H X lk c ls)(s:ZC H H'):Z1 kh ki H' X lk c ls:=R.frame (R.sh.same s) (λb o _ _ _ e=>s b o e) (λi a=>(R.own i a).2) R.le
def N9(X:YL)(lk b:ak):Prop:=b=X.S\/b=X.d\/b=lk
def Z1.but(R:Z1 kh ki H X lk c ls){p:ak}(s:ZE p H H')(f:¬ N9 X lk p)(a:∀ i:Nat,i<X.ts.length->(X.as.getD i .d).x≠p/\(X.as.getD i .d).ab≠p/\(X.as.getD i .d).th≠p)(t:Z3 H H'):Z1 kh ki H' X lk c ls:=by
 obtain⟨⟨g,h⟩,j,k⟩:=R.sh;refine⟨⟨⟨g,s _ _ h λz=>f (.inl z.symm)⟩,s _ _ j λz=>f (.inr (.inl z.symm)),s _ _ k λz=>f (.inr (.inr z.symm))⟩,R.keys,R.val,λi b=>?_,R.own,R.le⟩;exact(R.tw i b).frame t (λo e=>s _ _ e (a i b).1) (λo e=>s _ _ e (a i b).2.2) (λo e=>s _ _ e (a i b).2.1)
def Z1.rd(R:Z1 kh ki H X lk c ls){i:Nat}(a:i<X.ts.length):VW kh ki H X.S X.d lk c X.kvs ls (i:Int) (X.as.getD i .d).x (.ref (X.as.getD i .d).th) (.ref (X.as.getD i .d).tg) (X.as.getD i .d).ab (X.ho i) (iN (X.av i)):=⟨R.sh,R.val i a,(R.tw i a).tw⟩
def Z1.none(R:Z1 kh ki H X lk c ls){x:Int}(a:inT X.ts x=false):YR X.kvs (Sum.inl x)=tJ:=by
 cases z:YR X.kvs (Sum.inl x) with
 | none=>rfl
 | some v=>
  have:=F5 z;rw[R.keys] at this;obtain⟨i,d,b⟩:=zM.mp this;have e:=Sum.inl.inj b;have f:=xY.mp d;unfold inT at a;have:=of_decide_eq_false a
  lia
def Z1.klen(R:Z1 kh ki H X lk c ls):X.kvs.length=X.ts.length:=by
 have:=congrArg wQ R.keys;simpa using this
end
def ZLt(t:ZP):(if ((t.h:Nat):Int) > 0 then ("stem" : Str) else "leaf")=kindOf t:=by
 unfold kindOf;by_cases h:t.h=0
 ·rw[aO h,aM ∅]
 ·rw[aM h,aO ∅]
inductive XU(kh ki:ak)(k:jf)(H:Hp)(Q:VK)(_:XK):Prop
 |mk(X:YL)(d:ak)(c:Nat)(e:jf)(i:Nat)(_:k=[.ref X.S,.int (i:Int)])(_:Z1 kh ki H X d c e)(_:i<X.ts.length)(_:e.length<=900)(_:∀(a:Hp)(j l:ak)(g:jf),(∀ b o,b≠d->H b=some o->a b=some o)->Z1 kh ki a X d c (e++[.int (i:Int)])->a j=some (.tup [.str (kindOf (gd X.ts i)),.ref l])->H l=none->a l=some (.lst g)->((gd X.ts i).h=0->jY a (YH (gd X.ts i).rows) g)->((gd X.ts i).h≠0->g=iN (gd X.ts i).bs)->Q (.ref j) a)
def ZOX(D:ZL P w K mg km ZZ 2 kh "look" zEa (Qb kh ki)):ZL P w K mg km ZZ 2 kh "look" zEa (XU kh ki):=by
 obtain⟨g,r,M,F,b⟩:=D.ex;refine⟨g,r,M,F.imp λvs H Q E h=>?_,b⟩;obtain⟨X,V,c,Y,i,e,R,s,U,k⟩:=h;have W:=R.tw i s;obtain⟨C,O,Z,u2⟩:=W.things;obtain⟨a,a1,a0,I,N,k1,k2⟩:=W.tag;cases I;have o:=R.own i s;exists X.S,X.d,V,c,X.kvs,Y,i,_,_,_,_,_,_,C,_,_,e,R.rd s,O,N,Ne.symm o.2.2,Ne.symm o.2.1,U;intro y T t p v x u q;have l:=R.sh.looks;have m:Z3 H y:=λb xs e=>p b _ (ZV e l) e;obtain⟨⟨G,A⟩,B,_⟩:=R.sh;have J:(if (YK (gd X.ts i)).h > 0 then ("stem" : Str) else "leaf")=kindOf (gd X.ts i):=ZLt _
 rw[J] at q;exact k y t T C p (R.frame ⟨⟨G,p _ _ (ZV A l) A⟩,p _ _ (ZV B l) B,v⟩ (λb o _ _ n e=>p b o n e) (λj L=>(R.own j L).2) R.le) q x u (λz=>(Z z).mono m _ _) u2
inductive WH(kh ki:ak)(e:jf)(H:Hp)(Q:VK)(_:XK):Prop
 |mk(X:YL)(a:ak)(c:Nat)(b:jf)(i:Nat)(_:e=[.ref X.S,.int (i:Int)])(_:Z1 kh ki H X a c b)(_:i<X.ts.length)(_:Q (.ref (X.as.getD i .d).tg) H)
def BV(D:ZL P w K mg km ZZ 2 kh "label" zEa (V4 kh ki λo _ _=>o)):ZL P w K mg km ZZ 2 kh "label" zEa (WH kh ki):=by
 obtain⟨g,a,M,j,b⟩:=D.ex;refine⟨g,a,M,j.imp λp H Q E h=>?_,b⟩;obtain⟨X,m,c,n,i,e,R,l,k⟩:=h;exact⟨X.S,X.d,m,c,X.kvs,n,i,_,_,_,_,_,_,e,R.rd l,k⟩
abbrev HK:Stmt:=VO (Zq 49) 15
abbrev Iw:Stmt:=VO (Zq 49) 14
inductive Xj(kh ki:ak)(h:jf)(H:Hp)(Q:VK)(_:XK):Prop
 |mk(X:YL)(e:ak)(c:Nat)(g:jf)(_:h=[.ref X.S])(_:Z1 kh ki H X e c g)(_:∀(d:Hp)(a:ak),H a=none->(∀ b o,b≠X.S->H b=some o->d b=some o)->Z1 kh ki d X a c []->Q .non d)
def ZLl:ZA zEs zEs (Zc HK):=Zr
def ZJQ(F:Zf K "forget" "Shelf.forget" HK f fd)(L:Yh K mg kh ki):ZI P w K mg km ZZ 1 f fd zEs (Xj kh ki):=by
 refine F.ko ZLl λv A p s H J Q E D h=>?_;obtain⟨X,B,c,G,rfl,R,k⟩:=h;intro C;exists _,ZR (Pd (pv 0) (YG Zj) rfl);exists Zu;intro j a;have q:=ZU a (.lst []);obtain⟨⟨l,g⟩,r,z⟩:=R.sh;have y:=q _ _ g;exists _,rfl,X.S,kh,l,_,rfl,y,L.cS,L.nl,yH rfl;have u:X.S≠j:=ZY g a;have m:∀ b o,b≠X.S->H b=some o->upd (upd H j (.lst [])) X.S (.ins kh l (XB "looks" (.ref j) (Pe X.d B c))) b=some o:=λb o n e=>by rw[ZS n];exact q _ _ e
 refine k _ j a m (R.frame ⟨⟨l,ZM⟩,m _ _ (ZV r g) r,(by rw[ZS (Ne.symm u)];exact ZM)⟩ (λb o n _ _ e=>m b o n e) (λi t=>?_) R.le)
 obtain⟨I,x,_⟩:=(R.tw i t).things;exact⟨ZY (R.tw i t).tw.above a,ZY x a⟩
inductive Xk(kh ki:ak)(d:jf)(H:Hp)(Q:VK)(_:XK):Prop
 |mk(X:YL)(b:ak)(c:Nat)(a:jf)(_:d=[.ref X.S])(_:Z1 kh ki H X b c a)(_:∀ p,H p=none->Q (.ref p) (upd H p (.lst a)))
def ZMv:ZA zEs zEs (Zc Iw):=Zr
def Cu(F:Zf K "looked" "Shelf.looked" Iw f fd)(T:YA mg)(L:Yh K mg kh ki):ZI P w K mg km ZZ 1 f fd zEs (Xk kh ki):=by
 refine F.ko ZMv λe A b s H o Q E n h=>?_;obtain⟨X,d,c,j,rfl,R,k⟩:=h;intro l;exists _,ZR (Zd (X0 Qu rfl T.list Uw (ZX (We (pv 0) rfl))));obtain⟨⟨g,i⟩,m,a⟩:=R.sh;exact⟨_,rfl,X.S,kh,g,_,.ref d,rfl,i,L.cS,L.nl,rfl,d,j,rfl,.inl (ZG.of a),k⟩
inductive X5(kh ki:ak)(j:jf)(H:Hp)(Q:VK)(_:XK):Prop
 |mk(p:ak)(X:YL)(e:ak)(c:Nat)(h:jf)(_:j=[.ref p,.ref X.S])(_:ZH H p)(_:Z1 kh ki H X e c h)(_:X.ts.length<=900)(_:p≠e)(_:∀ i:Nat,i<X.ts.length->(X.as.getD i .d).ab≠p/\(X.as.getD i .d).th≠p)(_:∀(a:Hp)(g:Int),(∀ b o,b≠p->b≠X.S->b≠X.d->H b=some o->a b=some o)->ZH a p->Z1 kh ki a X e (c+1) h->inT X.ts g=false->Q (.int g) a)
def QN:ZA ["_law_well_here","_law_shelf","_law_number"] zEm (Zc JE):=Zr
def ZPw:X8 [(.int 0,.int 0)]:=⟨λr a=>by rw[zB.mp a];exact⟨by decide +kernel,by decide +kernel⟩,by decide,by decide,zED _ _⟩
def BJ{b:List (Zb×V)}{k:Zb}{v:V}(h:YR b k=none):Qy (XR b k v) k=b:=by
 have e:k∉b.map (·.1):=ZL9 h;rw[LL v h];unfold Qy;rw[vY];have c:b.filter (λkv=>decide (kv.1≠k))=b:=qZ.mpr λa d=>aK λz=>e (zM.mpr ⟨a,d,z⟩);rw[c];simp
def ZNz(F:Zf K "_law_gone" "_law_gone" JE f fd)(L:Yh K mg kh ki)(DP:ZB P w K mg km 1 "_law_pull" zEb Zs)(DL:ZL P w K mg km ZZ 10 kh "put_leaf" zEt (XG kh ki))(DG:ZL P w K mg km ZZ 4 kh "let_go" zEa (Ud kh ki)):
  ZI P w K mg km ZZ 11 f fd zEm (X5 kh ki):=by
 refine F.ko QN λa9 A a5 s H vs Q E hr h=>?_;obtain⟨p,X,lk,c,ls,rfl,W,R,l9,a7,a6,k⟩:=h;have nd:=QN.nd;have N:=hr.to 1;have a2:=hr.to 4;intro Xc;refine⟨_,ZN (Zi 2 nd (XQ (E:=E0) (pv 1) L.cS DL hr XJ (ZX (YG (ZX (Yw (Zl ZJ ZJ)))))))
  (ZN (Xl (XQ (E:=E0) (pv 1) L.cS DG a2 XJ (ZX (pv 2))))
  (ZR (Zd (YJ K (YG (QT (pv 2) (Q3 Qz ZJ) (Zx WW (Zx WW (pv 2) ZJ) (Zg DP N (Zl (pv 0) ZJ))))) (Zg DP N (Zl (pv 0) ZJ)))))),?_⟩
 obtain⟨⟨dx,hS⟩,hd,c0⟩:=R.sh;obtain⟨pw,hp⟩:=W.some;refine⟨_,rfl,X.S,dx,_,rfl,hS,rfl,Zu,λD n0=>⟨Zu,λl nl=>?_⟩⟩;have g0:=ZU n0 (.tup [.int 0,.int 0]);have g1:=ZU nl (.lst [.ref D]);have g:=g0.trans g1;have et:=g1 _ _ (ZM (H:=H) (a:=D) (o:=.tup [.int 0,.int 0]));have el:=ZM (H:=upd H D (.tup [.int 0,.int 0])) (a:=l) (o:=.lst [.ref D]);generalize upd (upd H D (.tup [.int 0,.int 0])) l (.lst [.ref D])=H1 at g et el⊢;have R1:=R.same g;exists X.S,X.d,lk,l,c,X.kvs,ls,[.ref D],[(.int 0,.int 0)],rfl,R1.sh,by rw[R.klen];exact l9,el,.cons (.tup et (.cons (.int 0) (.cons (.int 0) .nil))) .nil,ZPw
 intro H2 x th tg ab nx c2 c1 a8 fr t W2 _ a3;have nv:YR X.kvs (Sum.inl (c:Int))=none:=R.none (by unfold inT;exact aJ (by have:=R.le;lia))
 obtain⟨a,c4,c3,ea,O,_,_⟩:=a3;cases ea;obtain⟨I,B⟩:=t.self;have xS:x≠X.S:=(ZY (g _ _ hS) nx).symm;have ev:YR (XR X.kvs (Sum.inl (c:Int)) (.ref x)) (Sum.inl (c:Int))=some (.ref x):=by rw[LC,aO rfl]
 exists _,rfl,X.S,I,_,rfl,B,rfl,_,rfl,X.S,X.d,lk,c+1,XR X.kvs (Sum.inl (c:Int)) (.ref x),ls,(c:Int),x,.ref th,tg,ab,rfl,⟨⟨t,ev,W2⟩,_,O⟩,xS;intro Y y J;rw[BJ nv] at J;obtain⟨dt,a4⟩:=W2.self;have n:=t.looks;have m:∀ b o,b≠X.S->b≠X.d->H b=some o->Y b=some o:=λb o T G e=>y b o (ZY (g _ _ e) nx) G (fr b o T G (g b o e));have a1:=y _ _ (Ne.symm xS) (ZV B t.kept) B;have M:=y _ _ (ZV n a4) (ZV n t.kept) n;have R3:Z1 kh ki Y X lk (c+1) ls:=R.frame ⟨⟨I,a1⟩,J,M⟩ (λb o T G _ e=>m b o T G e) (λi Z=>(R.own i Z).2) (by have:=R.le;lia)
 have pS:p≠X.S:=ZV hp hS;have pd:p≠X.d:=ZV hp hd;have W3:ZH Y p:=M8 W λo e=>m _ _ pS pd e;have hN:¬ N9 X lk p:=by
  rintro(z | z | z)
  ·exact pS z
  ·exact pd z
  ·exact a7 z
 have U:∀ i:Nat,i<X.ts.length->(X.as.getD i .d).x≠p/\(X.as.getD i .d).ab≠p/\(X.as.getD i .d).th≠p:=λi Z=>by
  obtain⟨dy,hy⟩:=(R.tw i Z).tw.self;exact⟨ZV hy hp,a6 i Z⟩
 refine⟨_,rfl,1,rfl,_,rfl,_,_,rfl,rfl,_,rfl,p,1000,rfl,W3,Xn (by decide) (by decide),λr H4 r0 r1 W4 s4=>⟨_,_,rfl,rfl,Zu,λq nq=>?_⟩⟩
 have g5:=ZU nq (.lst [.int (c:Int),.int (-1),.int ((c:Int)+1+r)]);have eq:=ZM (H:=H4) (a:=q) (o:=.lst [.int (c:Int),.int (-1),.int ((c:Int)+1+r)]);have qp:q≠p:=Ur W4 nq;generalize upd H4 q (.lst [.int (c:Int),.int (-1),.int ((c:Int)+1+r)])=H5 at g5 eq⊢;exists _,rfl,p,3,rfl,W4.same g5,Xn (by decide) (by decide)
 intro j H6 j0 j1 W6 s6;have a0:=s6 _ _ eq qp;obtain⟨v,av,mv⟩:=Op (xs:=[V.int (c:Int),.int (-1),.int ((c:Int)+1+r)]) j0 j1;have C:ZE p Y H6:=(s4.trans (ZE.of g5)).trans s6;have R6:=R3.but C hN U (C.tupsW W3);have u:∀ z:Int,inT X.ts z=false->Q (.int z) H6:=λz hz=>k H6 z (λb o n0 T G e=>C b o (m b o T G e) n0) W6 R6 hz;have lc:=R.le;refine .inl ⟨q,_,_,v,rfl,rfl,ZG.of a0,av,?_⟩;simp only[zF,wY,or_false] at mv;rcases mv with rfl | rfl | rfl
 ·exact u _ (by unfold inT;exact aJ ∅)
 ·exact u _ (by unfold inT;exact aJ ∅)
 ·exact u _ (by unfold inT;exact aJ ∅)
end Tw
namespace L2
open PySem PySem.Spec PyProof.Rows
section
variable{σ:St}{H:Hp}{ix:jm}{te:TE}{Q:VK}
def Ng{J:It}{n:Nat}{w:TT}(f:Nat->V->Prop)(c:Nat->Bool)(d:ak->Nat->jf->Hp->Prop)(M:n<ar)(s:∀ D i a H,i<n->d D i a H->J.go i H)(F:∀ D i a H x k,i<n->d D i a H->J.yld i H x k->k=H/\f i x)(g:∀ D a H,d D n a H->J.stop n H)(B:∀ D,H D=none->d D 0 [] (upd H D (.lst [])))(j:∀ D i a H x,H D=some (.lst a)->i<n->f i x->d D i a H->∀ R:Bool->Hp->Prop,(∀ h,h D=some (.lst a)->d D i a h->R (c i) h)->w (MS σ ix x) H R)(q:∀ D i a H x,H D=some (.lst a)->i<n->f i x->c i=true->d D i a H->∀ R:VK,(∀ y l,l D=some (.lst a)->d D (i+1) (a++[y]) (upd l D (.lst (a++[y])))->R y l)->te (MS σ ix x) H R)(G:∀ D i a H,H D=some (.lst a)->i<n->c i=false->d D i a H->d D (i+1) a H)(r:∀ D a H,H D=some (.lst a)->d D n a H->Q (.ref D) H):V9 J σ ix w te H Q:=by
 intro D C;exists λi m H=>m=n-i/\i<=n/\∃ a,H D=some (.lst a)/\a.length<=i/\d D i a H,⟨n,rfl,zL _,[],ZM,zY _,B D C⟩;rintro i m H ⟨rfl,L,a,e,E,p⟩;by_cases b:i<n
 ·refine .inr ⟨s D i a H b p,λx k y=>?_⟩;obtain⟨rfl,u⟩:=F D i a H x k b p y;refine j D i a _ x e b u p _ λh o v=>?_
  cases t:c i with
  | true=>
   rw[aO rfl];refine q D i a h x o b u t v _ λy l A I=>?_;exact⟨a,n-(i+1),A,∅,∅,rfl,b,a++[y],ZM,by rw[zW,vB];lia,I⟩
  | false=>
   rw[aM zV];exact⟨n-(i+1),∅,rfl,b,a,o,Nat.le_succ_of_le E,G D i a h o b t v⟩
 ·have z:i=n:=∅
  subst z;exact .inl ⟨g D a H p,r D a H e p⟩
end
end L2
namespace Tw
open PySem PySem.Spec L2 PyProof.Rows
variable{kh ki CS CT CH CK CP CB:ak}
def JG(c:jp):Prop:=c.Pairwise λa b=>b.lt a=false
def Hn{d:jp}(h:JG d){i j:Nat}{a b:KT}(l:i<=j)(e:d[i]? = some a)(g:d[j]? = some b):b.lt a=false:=by
 obtain⟨k,rfl⟩:=yT.mp e;obtain⟨m,rfl⟩:=yT.mp g;rcases yA i j with c | c
 ·exact tU.mp h i j k m c
 ·have:i=j:=∅
  subst this;exact PR _
def MV(a:jp)(t:KT):Nat:=(a.filter λx=>x.lt t).length
def ZPL{ts:jp}{t:KT}{m:Nat}(o:m<=ts.length)(l:∀ i a,i<m->ts[i]? = some a->a.lt t=true)(n:∀ i a,m<=i->ts[i]? = some a->a.lt t=false):MV ts t=m:=by
 unfold MV;have e:ts=ts.take m++ts.drop m:=(wX m ts).symm;rw[e,vY,zW];have h:(ts.take m).filter (λx=>x.lt t)=ts.take m:=qZ.mpr λa c=>by
  obtain⟨i,d⟩:=tS c;have b:i<m:=by
   have:=(yT.mp d).1;rw[xX] at this
   lia
  rw[sW,aO b] at d;exact l i a b d
 have k:(ts.drop m).filter (λx=>x.lt t)=[]:=qH.mpr λa c=>by
  obtain⟨j,g⟩:=tS c;rw[sX] at g;rw[n (m+j) a (xB _ _) g];exact zV
 rw[h,k,xX];simp
 lia
inductive UQ(K:zZ)(d:jf)(H:Hp)(Q:VK)(_:XK):Prop
 |mk(l:ak)(b:jf)(a:jp)(v:V)(t:KT)(_:d=[.ref l,v])(_:ZG K H l b)(_:jY H a b)(_:∀ t∈a,t.fits 3=true)(_:b.length<=100)(_:JG a)(_:ZD H t v)(_:t.fits 3=true)(_:∀ c,ZC H c->Q (.int (MV a t:Nat)) c)
abbrev B0:jr:=["keys","key","low","high","middle"]
def UZ:ZA B0 ["keys","key"] (Zc Hj):=Zr
def ZMY(F:Zf K "place_in" "place_in" Hj f fd)(T:YA mg)(DA:ZB P w K mg km 7 "ahead" zE0 XY):ZI P w K mg km ZZ 8 f fd ["keys","key"] (UQ K):=by
 refine F.ko UZ λa0 A J s H vs Q E hr h=>?_;obtain⟨l,n,p,v,t,rfl,X,W,hf,R,S,hv,ht,q⟩:=h;have C:=UZ.nd;have Y:=W.length;intro Xc;refine⟨_,ZN (Zi 2 C ZJ)
  (ZN (Zi 3 C (Z2 WN rfl T.len Xu (ZX (pv 0))))
  (ZN (Pj PassesOwn.never (Yc NZ (pv 2) (pv 3) (Z9 _))
   (ZN (Zi 4 C (Zx Lh (Zx WW (pv 2) (pv 3)) ZJ))
   (ZR (Zv (Y3 (Zg DA hr (Zl (YJ K (pv 0) (pv 4)) (pv 1))))
    (ZR (Zi 2 C (Zx WW (pv 4) ZJ))) (ZR (Zi 3 C (pv 4)))))))
  (ZR (Zd (pv 2))))),?_⟩
 exists _,rfl,l,n,rfl,.inl X;refine⟨λm σ D=>∃(g e:Nat)(x:jg),σ=[some (.ref l),some v,some (.int (g:Int)),some (.int (e:Int)),x]/\ZC H D/\g<=e/\e<=p.length/\m=e-g/\(∀ i a,i<g->p[i]? = some a->a.lt t=true)/\(∀ i a,e<=i->p[i]? = some a->a.lt t=false),
  ⟨_,0,n.length,none,rfl,ZC.refl H,zL _,∅,rfl,λi a e=>absurd e ∅,λi a e u=>?_⟩,?_⟩
 ·have:=(yT.mp u).1
  lia
 rintro m σ H1 ⟨g,e,x,rfl,r,h1,h2,rfl,N,O⟩;exists _,rfl,_,rfl,_,_,rfl,rfl,_,rfl;refine Xw (λc=>?_) (λc=>?_)
 ·have a2:(g:Int)<(e:Int):=of_decide_eq_true c;exists λM D=>∃ Z,Z<e-g/\∃(k d:Nat)(x:jg),M=[some (.ref l),some v,some (.int (k:Int)),some (.int (d:Int)),x]/\ZC H D/\k<=d/\d<=p.length/\Z=d-k/\(∀ i a,i<k->p[i]? = some a->a.lt t=true)/\(∀ i a,d<=i->p[i]? = some a->a.lt t=false),λ_ _ h=>h;exists _,rfl,_,rfl,_,_,rfl,rfl,_,_,rfl,rfl,⟨∅,by decide⟩
  obtain⟨b,em,j,y⟩:∃ b:Nat,((g:Int)+(e:Int)) / 2=(b:Int)/\g<=b/\b<e:=⟨((g+e) / 2:Nat),∅,∅,∅⟩
  show P9 4 (V.int (((g:Int)+(e:Int)) / 2)) _ _ _;rw[em];have G:b<n.length:=∅
  have B:n[b]? = some n[b]:=by simp[G]
  obtain⟨L,o,I⟩:=W.get B;refine⟨_,rfl,_,rfl,.inl ⟨l,n,_,n[b],rfl,rfl,r.seq X,Xo B,_,rfl,n[b],v,L,t,rfl,I.sm r,hv.sm r,hf L (zK o),ht,λH2 s2=>⟨_,rfl,?_⟩⟩⟩
  cases U:L.lt t with
  | true=>
   refine Zw ⟨_,rfl,_,_,rfl,rfl,e-(b+1),uG (wJ j y) (Nat.lt_succ_of_le j),b+1,e,_,rfl,r.trans s2,∅,h2,rfl,λi a d u=>?_,O⟩
   exact ZLW (Hn S (show i<=b by lia) u o) U
  | false=>
   refine Zk ⟨_,rfl,b-g,qY j y,g,b,_,rfl,r.trans s2,j,∅,rfl,N,λi a d u=>?_⟩
   exact le_trans' U (Hn S d o u)
 ·have a1:¬ (g:Int)<(e:Int):=λz=>c (aK z);exists _,rfl;rw[<-ZPL (ts:=p) (t:=t) (m:=g) ∅ N λi a d=>O i a ∅]
  exact q H1 r
def XS(a:jn)(k:KT)(i:Nat):Nat:=if (gd a i).h=0 then MV ((gd a i).rows.map (·.1)) k else ((gd a i).bs.filter λb=>!k.lt (YK (gd a b)).lo).length-1
def Wn(a:jn)(k:KT)(i:Nat):Nat:=(gd a i).bs.getD (XS a k i) 0
def VP(a:jn)(k:KT):Nat->Nat->jO
 | 0,i=>[(i,XS a k i)]
 | n+1,i=>(i,XS a k i)::VP a k n (Wn a k i)
def LJ(a:jn)(k:KT):∀ n i,(VP a k n i).length=n+1
 | 0,_=>rfl
 | n+1,i=>by rw[VP,zJ,LJ]
def Eu{a:jn}(e:WF a){i:Nat}(d:i<a.length)(c:(gd a i).h≠0)(k:KT):XS a k i<(gd a i).bs.length:=by
 have:=(e i _ (YZ d)).stem c;unfold XS;rw[aM c];have l:=vC (λb=>!k.lt (YK (gd a b)).lo) (gd a i).bs
 lia
def Ou{a:jn}(d:WF a){i:Nat}(c:i<a.length)(b:(gd a i).h≠0)(k:KT):Wn a k i<i/\(gd a (Wn a k i)).h+1=(gd a i).h/\(gd a i).bs[XS a k i]? = some (Wn a k i):=by
 have f:=Eu d c b k;have g:=(d i _ (YZ c)).stem b;have e:(gd a i).bs[XS a k i]? = some (Wn a k i):=by
  unfold Wn;rw[zT,zU f];rfl
 have:=g.2.2.1 _ (zK e);exact⟨this.1,this.2,e⟩
inductive YI(N:ak->Prop)(H:Hp)(t:ZP)(u:V):Prop
 |mk(b l a:_)(_:u=.ref b)(_:H b=some (.tup [.str (kindOf t),.ref l]))(_:H l=some (.lst a))(_:¬ N l)(_:t.h=0->jY H (YH t.rows) a)(_:t.h≠0->a=iN t.bs)
def YI.off{N:ak->Prop}{H a:Hp}{t:ZP}{u:V}(h:YI N H t u)(c:∀ b o,¬ N b->H b=some o->a b=some o)(m:Z3 H a):YI N a t u:=by
 obtain⟨j,l,k,e,d,f,n,g,i⟩:=h;exact⟨j,l,k,e,m _ _ d,c _ _ n f,n,λz=>(g z).mono m _ _,i⟩
def YI.same{N:ak->Prop}{H a:Hp}{t:ZP}{u:V}(h:YI N H t u)(s:ZC H a):YI N a t u:=h.off (λb o _ e=>s b o e) (ZC.tups s)
def Gx{t:ZP}(h:t.h=0):kindOf t = "leaf" :=aO h
def Db{t:ZP}(h:t.h≠0):kindOf t = "stem" :=aM h
def EG(t:ZP):decide (V.str (kindOf t)=V.str "leaf")=decide (t.h=0):=by
 by_cases h:t.h=0
 ·rw[Gx h,aK rfl,aK h]
 ·rw[Db h,aJ h];decide +kernel
def ZQF{c:jn}(e:WF c){i:Nat}(d:i<c.length):JG ((gd c i).rows.map (·.1)):=(e i _ (YZ d)).up.imp fun{a b} q=>Nz _ _ q
inductive YD(a:jf)(H:Hp)(Q:VK)(_:XK):Prop
 |mk(N:ak->Prop)(t:ZP)(u:V)(_:a=[u])(_:YI N H t u)(_:Q (.bl (decide (t.h=0))) H)
def ZMi:ZA zE6 zE6 (Zc Ij):=Zr
def ZKt(F:Zf K "is_leaf" "is_leaf" Ij f fd):ZI P w K mg km ZZ 1 f fd zE6 YD:=by
 refine F.ko ZMi λb A a s H m Q E g h=>?_;obtain⟨i,t,u,rfl,⟨d,l,j,rfl,c,_⟩,k⟩:=h;intro e;exists _,ZR (Zd (VX VH (Y9 K (pv 0) ZJ) Xm (Z9 _)));exists _,rfl,d,_,_,.str (kindOf t),rfl,rfl,Zh.of c,rfl,rfl;rw[EG];exact k
inductive WE(a:jf)(H:Hp)(Q:VK)(_:XK):Prop
 |mk(N:ak->Prop)(t:ZP)(u:V)(n:Nat)(_:a=[u,.int (n:Int)])(_:YI N H t u)(_:t.h=0->Q .non H)(_:t.h≠0->∃ b,t.bs[n]? = some b/\Q (.int (b:Nat)) H)
def ZIa:ZA zFc zFc (Zc Km):=Zr
def ZGN(F:Zf K "branch_at" "branch_at" Km f fd)(d:ZB P w K mg km 1 "is_leaf" zE6 YD):ZI P w K mg km ZZ 2 f fd zFc WE:=by
 refine F.ko ZIa λe A a s H D Q E o h=>?_;obtain⟨v,t,u,n,rfl,c,p,r⟩:=h;intro y;exists _,ZN (Zv (Y3 (Zg d o (ZX (pv 0)))) (ZR (Zd O1)) Zy) (ZR (Zd (YJ K (Y9 K (pv 0) ZJ) (pv 1))));exists _,rfl,v,t,u,rfl,c,_,rfl;obtain⟨x,l,C,rfl,j,k,B,z,m⟩:=c;by_cases h:t.h=0
 ·rw[aK h];exact Zw (p h)
 ·rw[aJ h];obtain⟨b,g,q⟩:=r h;have i:=m h;subst i;refine Zk ⟨_,rfl,x,_,_,.ref l,rfl,rfl,Zh.of j,rfl,_,rfl,.inl ⟨l,_,_,.int (b:Nat),rfl,rfl,ZG.of k,Xo (by unfold iN;rw[zD,g];rfl),q⟩⟩
inductive Vb(kh ki:ak)(e:jf)(H:Hp)(Q:VK)(_:XK):Prop
 |mk(X:YL)(b:ak)(c:Nat)(d:jf)(i:Nat)(u v:V)(k:KT)(N:ak->Prop)(_:e=[.ref X.S,u,v])(_:Z1 kh ki H X b c d)(_:WF X.ts)(_:i<X.ts.length)(_:YI N H (gd X.ts i) u)(_:ZD H k v)(_:k.fits 3=true)(_:∀ a,ZC H a->Q (.int (XS X.ts k i:Nat)) a)
def Vg:ZA ["shelf","found","key","begun"] zE8 (Zc Kl):=Zr
def OB{a:Type}(p:a->Bool){l:List a}{i:Nat}{b:a}(e:l[i]? = some b):(l.take (i+1)).filter p=(l.take i).filter p++(if p b=true then [b] else []):=by
 rw[yM,e,Option.toList_some,vY]
 congr 1
 rw[vR];cases p b <;> rfl
def AI(F:Zf K "place_within" "place_within" Kl f fd)(T:YA mg)(L:Yh K mg kh ki)(DL:ZB P w K mg km 1 "is_leaf" zE6 YD)(DP:ZB P w K mg km 8 "place_in" ["keys","key"] (UQ K))(DA:ZB P w K mg km 7 "ahead" zE0 XY)(DB:ZL P w K mg km ZZ 2 kh "label" zEa (WH kh ki)):
  ZI P w K mg km ZZ 9 f fd zE8 (Vb kh ki):=by
 refine F.ko Vg λc0 A a9 s H vs Q E hr h=>?_;obtain⟨X,lk,c,ls,i,u,v,k,N,rfl,R,hw,hi,hf,hv,fk,q⟩:=h;have nd:=Vg.nd;have a4:=hr.to 1;have a5:=hr.to 2;have a6:=hr.to 7;obtain⟨t1,m1⟩:=T.least;intro Xc;refine⟨_,ZN (Zv (Y3 (Zg DL a4 (ZX (pv 1)))) (ZR (Zd (Zg DP hr (Zl (Wr [] [] rfl (X7 (Y9 K (pv 1) ZJ)) (λ_ _ _ _ _=>VV) (λ_ _ _ _ _=>Y9 K (pv 0) ZJ) trivial) (pv 2))))) Zy)
  (ZN (K2 (i:=3) [2,0] ["key","shelf"] nd rfl rfl rfl (X7 (Y9 K (pv 1) ZJ)) (λ_ _ _ _ _=>NY (UB (Y3 (Zg DA a6 (Zl (pv 1) (Y9 K (XQ (E:=E0) (pv 2) L.cS DB a5 XJ (ZX (pv 0))) (WP (v:=.int 1) rfl m1 ⟨_,rfl⟩))))))) (λ_ _ _ _ _=>pv 0) ⟨rfl,.inl rfl,rfl,rfl,.inl rfl,rfl,trivial⟩)
  (ZR (Zd (Z2 (IV rfl) rfl T.max Ir (Zl (Zx Up (Z2 WN rfl T.len Xu (ZX (pv 3))) ZJ) ZJ))))),?_⟩
 exists _,rfl,N,gd X.ts i,u,rfl,hf,_,rfl;obtain⟨tp,l,p,rfl,h1,I,n1,h3,h4⟩:=hf;have ok:=hw i _ (YZ hi);by_cases h:(gd X.ts i).h=0
 ·rw[aK h];have kr:=h3 h;have lr:p.length=(gd X.ts i).rows.length:=by have:=kr.length;rw[<-this];exact zX _
  have l4:=(ok.leaf h).2;refine Zw ⟨_,rfl,tp,_,_,.ref l,rfl,rfl,Zh.of h1,rfl,l,rfl,⟨p,ZG.of I⟩,Vc (n:=p.length) (λi z=>p[i]? = some z) (λD j g m=>ZC H m/\H D=none/\jY H (((gd X.ts i).rows.map (·.1)).take j) g) (Yq ∅)
   (λD j g m G d=>⟨p,p[j],ZG.of (d.1 _ _ I),by simp[G]⟩) (λD j g m z W G d Z=>⟨Z.1,Z.2 p (ZG.of (d.1 _ _ I))⟩) (λD g m d=>⟨p,ZG.of (d.1 _ _ I),zY _⟩)
   (λD Y=>⟨ZU Y _,Y,.nil⟩) (λD j g m z C c1 G V d RR a1=>?_) (λD g m C d=>?_)⟩
  ·obtain⟨o,y,x⟩:=d;obtain⟨a,vk,vv,er,rfl,ea,k1,k2⟩:=Q0 kr V;refine⟨_,rfl,a,_,_,vk,rfl,rfl,Zh.of (o _ _ ea),rfl,a1 _ m C ⟨WX o y,y,?_⟩⟩;rw[yM,zD,er];exact x.append (.cons k1 .nil)
  ·obtain⟨o,y,x⟩:=d;rw[yV (by rw[zX];lia)] at x
   have a7:=x.length;rw[zX] at a7;refine⟨_,rfl,D,g,_,v,k,rfl,ZG.of C,x.sm o,λt ht=>?_,∅,ZQF hw hi,hv.sm o,fk,λW s4=>?_⟩
   ·obtain⟨r,a3,rfl⟩:=zM.mp ht;exact(ok.inn r a3).1
   ·have e:XS X.ts k i=MV ((gd X.ts i).rows.map (·.1)) k:=aO h;rw[<-e];exact q W (o.trans s4)
 ·rw[aJ h];have eu:=h4 h;have ob:=ok.stem h;have lu:p.length=(gd X.ts i).bs.length:=by rw[eu];exact zX _
  refine Zk ⟨_,rfl,tp,_,_,.ref l,rfl,rfl,Zh.of h1,rfl,l,rfl,⟨p,ZG.of I⟩,Ng (n:=p.length) (λi z=>p[i]? = some z) (λj=>!k.lt (YK (gd X.ts ((gd X.ts i).bs.getD j 0))).lo) (λD j g m=>ZC H m/\H D=none/\g.length=(((gd X.ts i).bs.take j).filter λb=>!k.lt (YK (gd X.ts b)).lo).length) (Yq ∅)
   (λD j g m G d=>⟨p,p[j],ZG.of (d.1 _ _ I),by simp[G]⟩) (λD j g m z W G d Z=>⟨Z.1,Z.2 p (ZG.of (d.1 _ _ I))⟩) (λD g m d=>⟨p,ZG.of (d.1 _ _ I),zY _⟩)
   (λD Y=>⟨ZU Y _,Y,rfl⟩) (λD j g m z C G V d B hB=>?_) (λD j g m z C G V hk d B hB=>?_) (λD j g m C G hk d=>?_) (λD g m C d=>?_)⟩
  ·obtain⟨o,y,J⟩:=d;rw[eu] at V;obtain⟨b,M,rfl⟩:=O5 V;have O:(gd X.ts i).bs.getD j 0=b:=by rw[zT,M];rfl
   have hb:=ob.2.2.1 b (zK M);have U:b<X.ts.length:=∅
   have R3:=R.same o;obtain⟨dx,hS⟩:=R3.sh.self;obtain⟨a,a0,c2,ea,ht,k1,k2⟩:=(R3.tw b U).tag;cases ea;have a8:=hw b _ (YZ U);refine⟨_,rfl,_,rfl,X.S,dx,_,rfl,hS,rfl,_,rfl,X,lk,c,ls,b,rfl,R3,U,_,_,_,a0,rfl,rfl,Zh.of ht,rfl,v,a0,k,(YK (gd X.ts b)).lo,rfl,hv.sm o,k1,fk,(HS a8).1,λW s4=>⟨_,rfl,?_⟩⟩;have:=hB W (s4 _ _ C) ⟨o.trans s4,y,J⟩;rw[O] at this;exact this
  ·obtain⟨o,y,J⟩:=d;rw[eu] at V;obtain⟨b,M,rfl⟩:=O5 V;have O:(gd X.ts i).bs.getD j 0=b:=by rw[zT,M];rfl
   rw[O] at hk;refine⟨_,rfl,hB _ m C ⟨WX o y,y,?_⟩⟩;rw[OB _ M,aO hk,zW,zW,J];rfl
  ·obtain⟨o,y,J⟩:=d;have a2:j<(gd X.ts i).bs.length:=∅
   have M:(gd X.ts i).bs[j]? = some ((gd X.ts i).bs.getD j 0):=by rw[zT,zU a2];rfl
   exists o,y;rw[OB _ M,aM (by rw[hk];exact zV),yS]
   exact J
  ·obtain⟨o,y,J⟩:=d;rw[yV ∅] at J
   exists _,rfl,D,g,rfl,.inl (ZG.of C),_,_,rfl,rfl,_,_,rfl;have e:XS X.ts k i=g.length-1:=by rw[J];exact aM h
   have e2:(if (0:Int) > ((g.length:Nat):Int)-1 then (0:Int) else ((g.length:Nat):Int)-1)=((XS X.ts k i:Nat):Int):=by
    rw[e];split <;> lia
   have:=q m o;rw[<-e2] at this;exact this
end Tw
namespace L2
open PySem PySem.Spec PyProof.Rows
section
variable{M:Model}
end
section
variable{kj:js}{σ:St}{H:Hp}{E E1:XK}
end
section
variable{M:Model}{B:aE}{env:Env}{outer l:jx}{L e:ak}{cls:aj}{od:jA}{Q:Unit->al->Prop}
end
section
variable{kj:js}{σ:St}{H:Hp}{E E1:XK}
end
section
variable{E:XK}
def A4{x:Str}{C:ak}{R c pos:Pos}(F:UV X E)(O:OwnCls x C [.type "ValueError",.type "Exception",.type "BaseException",.type "object"] "ValueError.__new__" X.mg X.base)(P:yL X.K (.ref C)=true)(Q:yI X.K C (.type "BaseException")=some true)(M:xN X.K (.ref C)=some (.type "type"))(G:Gl X x)(j:(x==("__debug__" : Str))=false:=by decide):
  PS X (.Raise (some (.Call (.Name x R) [] [] c)) none pos) (λ_ _ H=>E (.ref C) none H):=by
 intro p s σ H D I h;have L:=I.ok.hd F.calm;rw[arm_exec_Raise];refine aa (ah ?_);refine G6 L Q M (aa (ae ?_ (λv s3 w=>aa (ah (ad w))) λ_ _ z=>z));have i:=pZ;obtain⟨tl,N,nm,q,Y,m,sn,U,V,r,Z,k0,k1,k2,k3,k5,mN,A,B,k,T⟩:=O.obj;refine ag (P5 I G O.bound ?_ j);refine qW I.kIn P ?_;obtain⟨hp,g,d,tk,os⟩:=s;refine wpAny_call_exc_subU (rest:=[]) i i.hasB i (T.keeps I.bk) (I.bk _ _ A) (B.keeps I.bk) k (λu b e=>?_) (zL _);obtain⟨tt,t,e2,e3⟩:=e.there;have J:=I.newx (C:=C) (ea:=b) (h':=u) e.keeps e.new ⟨_,_,t,rfl,rfl,rfl,rfl⟩;have n:H b=none:=by
  cases z:H b with
  | none=>rfl
  | some o=>
   obtain⟨S,l⟩:=I.hok.there (a:=b) (by rw[z];exact λy=>nomatch y)
   have:=e.new;rw[l] at this;cases this
 have f:X.s₀.heap.get? b=none:=by
  cases z:X.s₀.heap.get? b with
  | none=>rfl
  | some o=>
   obtain⟨S,l⟩:=I.base.there b o z (by rw[F.ex];simp)
   have:=e.new;rw[l] at this;cases this
 exact⟨b,none,rfl,J.kIn,(J.hok b _ ZM).1,Gn F (J.untrack n) f n (J.hok b _ ZM).1 h⟩
end
end L2
namespace Tw
open PySem PySem.Spec L2 PyProof.Rows
variable{kh ki CS CT CH CK CP CB:ak}
def U5(N:ak->Prop)(H:Hp)(o:jJ)(v:V):Prop:=match o with
 | some t=>ZD H t v/\t.fits 3=true
 | none=>∃ g:TG,Zm N H g v/\g.neat/\g.fits 3=false
def U5.mono{N:ak->Prop}{H a:Hp}{v:V}{o:jJ}(h:U5 N H o v)(m:XD N H a):U5 N a o v:=by
 cases o with
 | some t=>exact⟨h.1.mono m.tup,h.2⟩
 | none=>
  obtain⟨g,b,c,d⟩:=h;exact⟨g,b.mono m,c,d⟩
def U5.tg{N:ak->Prop}{H:Hp}{v:V}{o:jJ}(h:U5 N H o v):∃ g:TG,Zm N H g v/\g.neat/\g.fits 3=o.isSome:=by
 cases o with
 | some t=>exact⟨t.emb,Kn t v h.1,JX t 3 h.2,by rw[KW];exact h.2⟩
 | none=>exact h
structure Yu(P:am)(w:ax)(K:zZ)(mg:jc)(km:aE)(k:Nat)(x:Str)(ps:jr)(sp:Sp):Prop where
 ex:∃ f fd,ZI P w K mg km (XF P w) k f fd ps sp/\Zt K fd ps []/\yL K (.ref f)=true/\mg x=some (.ref f)
def Za.ofD{P:am}{w:ax}{K:zZ}{mg:jc}{km:aE}{x:Str}{d:aD}{a:jr}{k:Nat}{c:Sp}(L:Za K mg x d a)(h:∀ f fd,Zf K x x d f fd->ZI P w K mg km (XF P w) k f fd a c):Yu P w K mg km k x a c:=by
 obtain⟨f,fd,F,b,m⟩:=L.ex;exact⟨f,fd,h f fd F,b,F.kp,m⟩
def U4{X:Cx}{E:XK}{k:Nat}{x:Str}{r:jr}{g:Sp}{e:Expr}{a:jB}{t:TA}{p pos:Pos}(F:UV X E)(D:Yu X.prog X.w X.K X.mg X.base k x r g)(o:ZT k X.A)(j:PA X (e::a) t)(n:Gl X x:=by rfl)(c:(x==("__debug__" : Str))=false:=by decide)(l:aw (e::a) X.env=(false,aH e X.env)::aw a X.env:=by rfl)(d:(aG pos (aw a X.env)).any (·.1)=false:=by rfl):
  PE X (.Call (.Name x p) (e::a) [] pos) (M2 g [] E t):=by
 obtain⟨f,fd,i,b,q,m⟩:=D.ex;exact IH i o n m q b .nil (NN F λ_ _ _ h=>h) j c l d
abbrev OL:je:=[.type "ValueError",.type "Exception",.type "BaseException",.type "object"]
structure EB(K:zZ)(mg:jc)(CK:ak):Prop where
 at_:mg "NoKey" = some (.ref CK)
 exk:Kt K CK=true
 kp:yL K (.ref CK)=true
 mB:yI K CK (.type "BaseException")=some true
 ty:xN K (.ref CK)=some (.type "type")
def Zo:jy->V
 | none=>.non
 | some x=>.int x
def WO(a:jn)(k:KT):jq->jO
 | none=>[]
 | some i=>VP a k (gd a i).h i
def Zn:jq->jy
 | none=>none
 | some i=>some (i:Int)
inductive XH(N:ak->Prop)(H:Hp)(b:jn)(p:Nat×Nat)(u:V):Prop
 |mk(t a:_)(_:u=.ref t)(_:H t=some (.tup [.int (p.1:Int),.int (p.2:Int),a]))(_:YI N H (gd b p.1) a)
def XH.off{N:ak->Prop}{H a:Hp}{c:jn}{p:Nat×Nat}{u:V}(h:XH N H c p u)(d:∀ b o,¬ N b->H b=some o->a b=some o)(m:Z3 H a):XH N a c p u:=by
 obtain⟨t,f,e,g,i⟩:=h;exact⟨t,f,e,m _ _ g,YI.off i d m⟩
def Pa(a:jn):jy->Bool
 | none=>true
 | some x=>inT a x
inductive XM(CK:ak)(b:jf)(H:Hp)(Q:VK)(E:XK):Prop
 |mk(v:V)(N:ak->Prop)(o:jJ)(_:b=[v])(_:U5 N H o v)(_:o.isSome=true->∀ a,ZC H a->Q v a)(_:o=none->∀ a,ZC H a->E (.ref CK) none a)
def ZGR(F:Zf K "checked" "checked" Lc f fd)(a:K.In km)(L:EB K mg CK)(e:ZB P w K mg km 6 "is_key" zEx WG):ZI P w K mg km (XF P w) 7 f fd zEx (XM CK):=by
 refine F.kD Hm λi A b s H u Q E k h=>?_;obtain⟨v,N,o,rfl,l,m,n⟩:=h;intro r;exists _,ZN (Zv (UB (Y3 (Zg e k (ZX (pv 0))))) (ZR (A4 VI (Bu a L.at_ L.exk) L.kp L.mB L.ty rfl)) Zy) (ZR (Zd (pv 0)));obtain⟨g,q,p,j⟩:=l.tg;refine⟨_,rfl,v,g,N,rfl,q,p,λc d=>⟨_,rfl,?_⟩⟩;rw[j]
 cases o with
 | some t=>exact Zk ⟨_,rfl,m rfl c d⟩
 | none=>exact Zw (n rfl c d)
inductive XZ(kh ki CT CK:ak)(e:jf)(H:Hp)(Q:VK)(E:XK):Prop
 |mk(X:YL)(b:ak)(c:Nat)(d:jf)(r:jy)(v:V)(N:ak->Prop)(o:jJ)(_:e=[.ref X.S,Zo r,v])(_:Z1 kh ki H X b c d)(_:U5 N H o v)(_:∀ x,r=some x->inT X.ts x=false->Uv CT x E H)(_:Pa X.ts r=true->o=none->∀ a,ZC H a->E (.ref CK) none a)(_:Pa X.ts r=true->o.isSome=true->∀ a,ZC H a->Q .non a)
def ZF3:ZA zEk zEk (Zc Ky):=Zr
def Am(F:Zf K "check_asked" "check_asked" Ky f fd)(L:Yh K mg kh ki)(t:ZL P w K mg km (XF P w) 4 kh "label" zEa (X3 kh ki CT))(q:Yu P w K mg km 7 "checked" zEx (XM CK)):ZI P w K mg km (XF P w) 8 f fd zEk (XZ kh ki CT CK):=by
 refine F.kD ZF3 λy A m s H V Q E p h=>?_;obtain⟨X,M,c,O,r,v,N,o,rfl,R,D,G,I,J⟩:=h;have l:=p.to 4;intro T;refine⟨_,ZN (Zv (WA (OF (pv 1))) (ZR (Xl (XQ (E:=E) (pv 0) L.cS t l (NN VI λ_ _ _ h=>h) (ZX (pv 1))))) Zy)
  (ZR (Xl (U4 VI q p (ZX (pv 2))))),?_⟩
 have b:Pa X.ts r=true->XM CK ([v]++[]) H (λ_ u=>Q .non u) E:=λg=>⟨v,N,o,rfl,D,λz k n=>J g z k n,λz k n=>I g z k n⟩
 cases r with
 | none=>
  refine⟨_,rfl,_,rfl,Zk ⟨_,rfl,b rfl⟩⟩
 | some x=>
  refine⟨_,rfl,_,rfl,Zw ?_⟩;obtain⟨B,C⟩:=R.sh.self;refine⟨_,rfl,X.S,B,_,rfl,C,rfl,_,rfl,X.S,X.d,M,c,X.kvs,O,x,rfl,R.sh,λU e=>?_,λe=>?_⟩
  ·have j:inT X.ts x=true:=by
    cases z:inT X.ts x with
    | true=>rfl
    | false=>rw[R.none z] at e;cases e
   obtain⟨i,rfl,a⟩:=J7 j;rw[R.val i a] at e;cases e;exact⟨_,_,_,_,_,_,rfl,(R.tw i a).tw,_,rfl,b j⟩
  ·have j:inT X.ts x=false:=by
    cases z:inT X.ts x with
    | false=>rfl
    | true=>
     obtain⟨i,rfl,a⟩:=J7 z;rw[R.val i a] at e;cases e
   exact G x rfl j
structure MF(kh ki CT CK:ak)(H:Hp)(X:YL)(lk:ak)(c:Nat)(ls:jf)(r:jy)(v:V)(o:jJ)(E:XK):Prop where
 sh:Z1 kh ki H X lk c ls
 wf:WF X.ts
 low:∀ i,i<X.ts.length->(gd X.ts i).h<=60
 few:ls.length<=500
 key:∃ N,U5 N H o v
 no1:∀ x,r=some x->inT X.ts x=false->Uv CT x E H
 no2:Pa X.ts r=true->o=none->∀ H',ZC H H'->E (.ref CK) none H'
def Pw(p:jO):jf:=p.map λs=>V.int (s.1:Int)
inductive UX(kh ki CT CK:ak)(j:jf)(H:Hp)(Q:VK)(E:XK):Prop
 |mk(X:YL)(d:ak)(c:Nat)(g:jf)(r:jy)(v:V)(o:jJ)(_:j=[.ref X.S,Zo r,v])(_:MF kh ki CT CK H X d c g r v o E)(_:∀(k:KT)(e:jq),o=some k->r=Zn e->(∀ i,e=some i->i<X.ts.length)->∀(a:Hp)(D:ak)(h:jf),(∀ b o,b≠d->H b=some o->a b=some o)->Z1 kh ki a X d c (g++Pw (WO X.ts k e))->H D=none->D≠d->a D=some (.lst h)->Paired (XH (λb=>b=d\/b=D) a X.ts) (WO X.ts k e) h->Q (.ref D) a)
abbrev ZQU:jr:=["shelf","root","key","steps","number","found","at"]
def UT:ZA ZQU zEk (Zc Jh):=Zr
def Bx{b:jn}{r:jy}(h:Pa b r=true):∃ a,r=Zn a/\∀ i,a=some i->i<b.length:=by
 cases r with
 | none=>exact⟨none,rfl,λi h=>by cases h⟩
 | some x=>
  obtain⟨i,rfl,c⟩:=J7 h;exact⟨some i,rfl,λj h=>by cases h;exact c⟩
def Bj(b:jn)(a:jq):Nat:=match a with | none=>0 | some j=>(gd b j).h+1
inductive CA(kh ki:ak)(H:Hp)(X:YL)(lk:ak)(c:Nat)(ls:jf)(rn:jq)(v:V)(k:KT)(D:ak):Nat->L2.St->Hp->Prop
 |mk{cur:jq}{pre:jO}{us:jf}{x5 x6:jg}{H':Hp}:(∀ j,cur=some j->j<X.ts.length)->WO X.ts k rn=pre++WO X.ts k cur->(∀ b o,b≠lk->H b=some o->H' b=some o)->Z1 kh ki H' X lk c (ls++Pw pre)->H' D=some (.lst us)->Paired (XH (λb=>b=lk\/b=D) H' X.ts) pre us ->
  CA kh ki H X lk c ls rn v k D (Bj X.ts cur) [some (.ref X.S),some (Zo (Zn rn)),some v,some (.ref D),some (Zo (Zn cur)),x5,x6] H'
def ZMt(F:Zf K "steps_to" "steps_to" Jh f fd)(L:Yh K mg kh ki)(DC:Yu P w K mg km 8 "check_asked" zEk (XZ kh ki CT CK))(DL:ZL P w K mg km ZZ 2 kh "look" zEa (XU kh ki))(DP:ZB P w K mg km 9 "place_within" zE8 (Vb kh ki))(DB:ZB P w K mg km 2 "branch_at" zFc WE):
  ZI P w K mg km (XF P w) 10 f fd zEk (UX kh ki CT CK):=by
 refine F.kD UT λe0 A c8 s H vs Q E hr h=>?_;obtain⟨X,u,c,ls,r,v,o,rfl,y,q⟩:=h;have nd:=UT.nd;have a4:=hr.to 2;have c3:=hr.to 8;intro Xc;refine⟨_,ZN (Xl (U4 VI DC c3 (QT (pv 0) (pv 1) (pv 2))))
  (ZN (Zi 3 nd (YG Zj))
  (ZN (Zi 4 nd (pv 1))
  (ZN (Pj K5 (WA (OF (pv 4)))
   (ZN (Zi 5 nd (XQ (E:=E0) (pv 0) L.cS DL a4 XJ (ZX (pv 4))))
   (ZN (Zi 6 nd (Zg DP hr (QT (pv 0) (pv 5) (pv 2))))
   (ZN (Xl (VM yK xH xG Uh (pv 3) (ZX (Yw (QT (pv 4) (pv 6) (pv 5))))))
   (ZR (Zi 4 nd (Zg DB a4 (Zl (pv 5) (pv 6)))))))))
  (ZR (Zd (pv 3)))))),?_⟩
 obtain⟨N,hv⟩:=y.key;exists _,rfl,_,rfl,_,rfl,X,u,c,ls,r,v,N,o,rfl,y.sh,hv,y.no1,y.no2;intro gr go H1 s1;obtain⟨rn,rfl,U⟩:=Bx gr;obtain⟨k,rfl⟩:=sO.mp go;obtain⟨kv,fk⟩:=hv;have R1:=y.sh.same s1;exists Zu;intro D Z;have gD:=ZU Z (.lst []);have eD:=ZM (H:=H1) (a:=D) (o:=.lst []);have a7:H D=none:=s1.free Z;have R:D≠u:=(ZY R1.sh.looks Z).symm;have R2:=R1.same gD;have s2:=s1.trans gD;generalize upd H1 D (.lst [])=H2 at gD eD R2 s2⊢;exists _,rfl;have hw:=y.wf;exists CA kh ki H X u c ls rn v k D,⟨_,.mk (cur:=rn) U rfl (λb o _ e=>s2 b o e) (by rw[show Pw []=[] from rfl,yS];exact R2) eD .nil⟩
 rintro _ _ H3 (@⟨a8,g,I,x5,x6,_,a2,p,fr,R3,T,Y⟩)
 cases a8 with
 | none=>
  refine⟨_,rfl,_,rfl,Zk ?_⟩;have e':WO X.ts k rn=g:=by rw[p];exact yS _
  exact⟨_,rfl,q k rn rfl rfl U H3 D I fr (by rw[e'];exact R3) a7 R T (by rw[e'];exact Y)⟩
 | some j=>
  have hj:=a2 j rfl;have e4:=y.low j hj;have c9:g.length+((gd X.ts j).h+1)<=61:=by
   have e:=congrArg wQ p;rw[zW] at e;have e1:(WO X.ts k (some j)).length=(gd X.ts j).h+1:=LJ _ _ _ _;have e2:(WO X.ts k rn).length<=61:=by
    cases rn with
    | none=>exact zL _
    | some i=>
     have:(WO X.ts k (some i)).length=(gd X.ts i).h+1:=LJ _ _ _ _;have:=y.low i (U i rfl)
     lia
   lia
  have e3:=y.few;have lw:(Pw g).length=g.length:=zX _;have e5:=Paired.length Y;refine⟨_,rfl,_,rfl,Zw ⟨_,λ_ _ z=>z,?_⟩⟩;obtain⟨dx,hS⟩:=R3.sh.self;exists _,rfl,X.S,dx,_,rfl,hS,rfl,_,rfl,X,u,c,_,j,rfl,R3,hj,by rw[zW];lia
  intro H4 B l ws G R4 a5 nl hl w1 w2;have M:=R3.sh.looks;have a6:Z3 H3 H4:=λb xs e=>G b _ (ZV e M) e;have c5:l≠u:=(ZY M nl).symm;have lD:l≠D:=λz=>by rw[z,T] at nl;cases nl
  have lN:¬ (l=u\/l=D):=λz=>z.elim c5 lD;have c2:YI (λb=>b=u\/b=D) H4 (gd X.ts j) (.ref B):=⟨B,l,ws,rfl,a5,hl,lN,w1,w2⟩;have c6:Z3 H H3:=λb xs e=>fr b _ (ZV e y.sh.sh.looks) e;have c4:=(kv.mono c6 _ _).mono a6 _ _;exists _,rfl,_,rfl,_,rfl,X,u,c,_,j,.ref B,v,k,_,rfl,R4,hw,hj,c2,c4,fk;intro H5 s5;have a0:=s5 _ _ (G _ _ R T);exists _,rfl,.inl ⟨rfl,_,ZG.of a0⟩,_,rfl,_,rfl,_,rfl,Zu;intro t nt;have g6:=ZU nt (.tup [Zo (Zn (some j)),.int ((XS X.ts k j:Nat):Int),.ref B]);have et:=ZM (H:=H5) (a:=t) (o:=.tup [Zo (Zn (some j)),.int ((XS X.ts k j:Nat):Int),.ref B]);have m:=s5.trans g6;generalize upd H5 t (.tup [Zo (Zn (some j)),.int ((XS X.ts k j:Nat):Int),.ref B])=J at g6 et m⊢;have C:=g6 _ _ a0;exists D,I,.ref t,rfl,rfl,C,nn ∅
  have sD:ZE D J (upd J D (.lst (I++[.ref t]))):=(ZE.refl D J).upd;have tD:=sD.tups C;have R6:=R4.same m;have ND:¬ N9 X u D:=by
   obtain⟨⟨dS,c0⟩,c1,_⟩:=R6.sh;rintro(z | z | z)
   ·exact ZV C c0 (by intro z;cases z) z
   ·exact ZV C c1 (by intro z;cases z) z
   ·exact R z
  have oD:∀ i:Nat,i<X.ts.length->(X.as.getD i .d).x≠D/\(X.as.getD i .d).ab≠D/\(X.as.getD i .d).th≠D:=λi hi=>by
   have W:=R1.tw i hi;obtain⟨dy,hy⟩:=W.tw.self;obtain⟨e6,e1,_⟩:=W.things;exact⟨ZY hy Z,ZY W.tw.above Z,ZY e1 Z⟩
  have R7:=R6.but sD ND oD tD;have a9:∀ b o,b≠u->H3 b=some o->b≠D->upd J D (.lst (I++[.ref t])) b=some o:=λb o n e nb=>by rw[ZS nb];exact m _ _ (G b o n e)
  have c7:Z3 H3 (upd J D (.lst (I++[.ref t]))):=λb xs e=>tD b xs (m _ _ (a6 b xs e));have a3:YI (λb=>b=u\/b=D) (upd J D (.lst (I++[.ref t]))) (gd X.ts j) (.ref B):=by
   exact⟨B,l,ws,rfl,tD _ _ (m _ _ a5),by rw[ZS lD];exact m _ _ hl,lN,λz=>((w1 z).sm m).mono tD _ _,w2⟩
  have O:Paired (XH (λb=>b=u\/b=D) (upd J D (.lst (I++[.ref t]))) X.ts) (g++[(j,XS X.ts k j)]) (I++[.ref t]):=by
   refine Md (a:=(j,XS X.ts k j)) ⟨t,.ref B,rfl,tD _ _ et,a3⟩ (Paired.mapP Y λ_ _ z=>XH.off z (λb o n e=>a9 b o (λz=>n (.inl z)) e λz=>n (.inr z)) c7)
  have ew:ls++Pw g++[V.int (j:Int)]=ls++Pw (g++[(j,XS X.ts k j)]):=by unfold Pw;simp
  rw[ew] at R7;have a1:∀ b o,b≠u->H b=some o->upd J D (.lst (I++[.ref t])) b=some o:=λb o n e=>by rw[ZS (ZY e a7)];exact m _ _ (G b o n (fr b o n e))
  refine⟨_,rfl,_,rfl,_,gd X.ts j,.ref B,XS X.ts k j,rfl,a3,λh0=>?_,λh0=>?_⟩
  ·refine⟨_,uU _,.mk (cur:=none) (λi z=>by cases z) ?_ a1 R7 ZM O⟩
   rw[p];show g++VP X.ts k (gd X.ts j).h j=_;rw[h0];exact(yS _).symm
  ·obtain⟨n1,n2,n3⟩:=Ou hw hj h0 k;refine⟨Wn X.ts k j,n3,_,Nat.succ_lt_succ ∅,.mk (cur:=some (Wn X.ts k j)) (λi z=>by cases z;lia) ?_ a1 R7 ZM O⟩
   rw[p];show g++VP X.ts k (gd X.ts j).h j=_;rw[<-n2,xU];rfl
def Cf{i:Wg}{j k:Nat}{g:jr}{q d:Sp}(F:ZI P w K mg km ZZ j f fd g q)(G:ZI P w K mg km i k f fd g d)(h:j<=k):ZI P w K mg km i k f fd g (λb H Q E=>q b H Q E\/d b H Q E):=by
 exists λb H Q E z=>z.elim (F.len b H Q E) (G.len b H Q E);intro A a s H args t b Q E n m l p z;rcases z with z | z
 ·refine codeAny_mono (F.run A a s H args t b Q E (n.mono h) m l p z) λr v c=>?_
  cases r with
  | ok o=>
   cases o with
   | ret u=>exact c
   | _=>exact c.elim
  | error e=>exact c.elim
 ·exact G.run A a s H args t b Q E n m l p z
inductive Yi(kh CT:ak):Sp
 |mk{H:Hp}{Q:VK}{E:XK}{S d b:ak}{n:Nat}{a:List (Zb×V)}{c:jf}{x:Int}:Yy kh H S d b n a c->YR a (.inl x)=none->Uv CT x E H->Yi kh CT [.ref S,.int x] H Q E
def ZLK(F:Zf K "look" "Shelf.look" Mg f fd)(T:YA mg)(L:Yh K mg kh ki)(i:ZL P w K mg km (XF P w) 3 kh "twig_of" zEa (Xd kh CT))(g:ZB P w K mg km 1 "is_stem" ["twig"] (VE ki)):ZI P w K mg km (XF P w) 4 f fd zEa (Yi kh CT):=by
 refine F.okD Wz (λt H Q E h=>(by cases h;rfl)) (λj A c s H t Q E e h=>?_)
 obtain⟨R,o,k⟩:=h;rename_i S d p n b q x
 have r:=Wz.nd;have a:=e.to 1;intro u;refine⟨_,ZN (Zi 2 r (XQ (E:=E) (pv 0) L.cS i e (NN VI λ_ _ _ h=>h) (ZX (pv 1))))
  (ZN (Xl (VM yK xH xG Uh (We (pv 0) rfl) (ZX (pv 1))))
  (ZN (Zv (Y3 (Zg g a (ZX (pv 2)))) (ZR (Zd (Yw (Zl Xm (X0 Qu rfl T.list Uw (ZX (We (pv 2) rfl))))))) Zy)
  (ZR (Zd (Yw (Zl Xm (X0 Qu rfl T.list Uw (ZX (We (pv 2) rfl))))))))),?_⟩
 obtain⟨l,m⟩:=R.self;exact⟨_,rfl,S,l,_,rfl,m,rfl,_,rfl,S,d,p,n,b,q,x,rfl,R,(λv z=>(by rw[o] at z;cases z)),λ_=>k⟩
def UM(b:Sp)(kh CT:ak):Sp:=λa H Q E=>b a H Q E\/Yi kh CT a H Q E
def YS(a:jn):Nat->Nat->jm
 | 0,i=>[i]
 | n+1,i=>i::(gd a i).bs.flatMap (YS a n)
def Z4(a:jn):jq->jm
 | none=>[]
 | some i=>YS a (gd a i).h i
inductive RcAt(N:ak->Prop)(H:Hp)(b:jn)(i:Nat)(u:V):Prop
 |mk(t a:_)(_:u=.ref t)(_:H t=some (.tup [.int (i:Int),a]))(_:YI N H (gd b i) a)
def RcAt.off{N:ak->Prop}{H a:Hp}{c:jn}{i:Nat}{u:V}(h:RcAt N H c i u)(d:∀ b o,¬ N b->H b=some o->a b=some o)(m:Z3 H a):RcAt N a c i u:=by
 obtain⟨t,f,e,g,j⟩:=h;exact⟨t,f,e,m _ _ g,j.off d m⟩
def ZPN{c d:Type}{F:c->d->Prop}{l a:List c}{m b:List d}(h:Paired F l m)(g:Paired F a b):Paired F (l++a) (m++b):=by
 induction h with
 | nil=>exact g
 | cons r _ e=>exact .cons r e
def Pm(H:Hp)(a D b:ak):Prop:=b=a\/H b≠none\/b=D
inductive Z0(n:Nat)(kh ki:ak):Sp
 |mk{H:Hp}{Q:VK}{E:XK}(X:YL)(d:ak)(c:Nat)(e:jf)(r:jq):Z1 kh ki H X d c e->WF X.ts->(∀ i,r=some i->i<X.ts.length/\(gd X.ts i).h<=n)->e.length+(Z4 X.ts r).length<=900 ->
  (∀(a:Hp)(D:ak)(g:jf),(∀ b o,b≠d->H b=some o->a b=some o)->Z1 kh ki a X d c (e++iN (Z4 X.ts r))->H D=none->D≠d->a D=some (.lst g)->Paired (RcAt (Pm H d D) a X.ts) (Z4 X.ts r) g->Q (.ref D) a)->Z0 n kh ki [.ref X.S,Zo (Zn r)] H Q E
inductive Fx(kh ki:ak)(X:YL)(d:ak)(c:Nat)(e:jf)(i m:Nat)(g D l:ak)(H:Hp)(j:Nat)(k:L2.St)(a:Hp):Prop
 |mk(h:jf)(n:jg):k=[some (.ref X.S),some (Zo (Zn (some i))),some (.ref g),some (.ref D),n]->(∀ b o,b≠d->H b=some o->a b=some o)->Z1 kh ki a X d c (e++iN (i::((gd X.ts i).bs.take j).flatMap (YS X.ts m)))->a D=some (.lst h)->Paired (RcAt (Pm H d D) a X.ts) (i::((gd X.ts i).bs.take j).flatMap (YS X.ts m)) h->a l=some (.lst (iN (gd X.ts i).bs))->Fx kh ki X d c e i m g D l H j k a
abbrev AV:jr:=["shelf","root","found","twigs","branch"]
def X2:ZA AV zEd (Zc Nm):=Zr
def FF{n:Nat}(F:Zf K "reached" "reached" Nm f fd)(L:Yh K mg kh ki)(DL:ZL P w K mg km ZZ 2 kh "look" zEa (XU kh ki))(DI:ZB P w K mg km 1 "is_leaf" zE6 YD)(DR:ZB P w K mg km (n+3) "reached" zEd (λvs H Q E=>∃ m,m<n/\Z0 m kh ki vs H Q E)):ZI P w K mg km ZZ (n+4) f fd zEd (Z0 n kh ki):=by
 refine F.ok X2 (λvs H Q E h=>(by cases h;rfl)) (λe9 A c8 s H vs Q E hr h=>?_)
 obtain⟨X,C,c,ls,r,R,hw,c5,a1,q⟩:=h;have nd:=X2.nd;have c6:=hr.mono (show 1<=n+3 by lia)
 have c7:=hr.mono (show 2<=n+3 by lia)
 intro Xc;refine⟨_,ZN (Zv (WA (Lo (pv 1))) (ZR (Zd (YG Zj))) Zy)
  (ZN (Zi 2 nd (XQ (E:=E0) (pv 0) L.cS DL c7 XJ (ZX (pv 1))))
  (ZN (Zi 3 nd (YG (ZX (Yw (Zl (pv 1) (pv 2))))))
  (ZN (Zv (UB (Y3 (Zg DI c6 (ZX (pv 2))))) (ZR (Vo PassesOwn.never rfl (X7 (Y9 K (pv 2) ZJ)) (Xe 4 nd)
   (ZR (Xl (VM yK uZ uY Jn (pv 3) (ZX (Zg DR hr (Zl (pv 0) (pv 4))))))))) Zy)
  (ZR (Zd (pv 3)))))),?_⟩
 cases r with
 | none=>
  refine⟨_,rfl,_,rfl,Zw ?_⟩;exists Zu;intro D W;have gD:=ZU W (.lst []);exact q _ D [] (λb o _ e=>gD b o e) (by rw[show Z4 X.ts none=[] from rfl,show iN []=[] from rfl,yS];exact R.same gD) W (ZY R.sh.looks W).symm ZM .nil
 | some i=>
  refine⟨_,rfl,_,rfl,Zk ?_⟩;obtain⟨hi,hn⟩:=c5 i rfl;obtain⟨⟨dS,hS⟩,c2,_⟩:=id R.sh;have l1:1<=(Z4 X.ts (some i)).length:=by
   show 1<=(YS X.ts (gd X.ts i).h i).length
   cases(gd X.ts i).h with
   | zero=>exact zY _
   | succ n=>exact vD (zL _)
  exists _,rfl,X.S,dS,_,rfl,hS,rfl,_,rfl,X,C,c,ls,i,rfl,R,hi,by lia
  intro H1 J l c9 a3 R1 a6 nl hl k1 k2;exists _,rfl,_,rfl,Zu;intro t nt;have g1:=ZU nt (.tup [Zo (Zn (some i)),.ref J]);have et:upd H1 t (.tup [Zo (Zn (some i)),.ref J]) t=some (.tup [.int (i:Int),.ref J]):=ZM;generalize upd H1 t (.tup [Zo (Zn (some i)),.ref J])=H2 at g1 et⊢;exists Zu;intro D W;have g2:=ZU W (.lst [.ref t]);have eD:=ZM (H:=H2) (a:=D) (o:=.lst [.ref t]);generalize upd H2 D (.lst [.ref t])=H3 at g2 eD⊢;have g:=g1.trans g2;have c4:=R.sh.looks;have a9:l≠C:=λz=>by rw[z,c4] at nl;cases nl
  have V:H1 D=none:=g1.free W;have v:D≠C:=λz=>by rw[z,R1.sh.looks] at V;cases V
  have U:H D=none:=by
   cases z:H D with
   | none=>rfl
   | some o=>rw[a3 D o v z] at V;cases V
  have a8:l≠D:=λz=>by rw[<-z,hl] at V;cases V
  have nO:¬ Pm H C D l:=λz=>by
   rcases z with z | z | z
   ·exact a9 z
   ·exact z nl
   ·exact a8 z
  have FA:YI (Pm H C D) H3 (gd X.ts i) (.ref J):=⟨J,l,c9,rfl,g _ _ a6,g _ _ hl,nO,λz=>(k1 z).sm g,k2⟩;have RA:RcAt (Pm H C D) H3 X.ts i (.ref t):=⟨t,.ref J,rfl,g2 _ _ et,FA⟩;have a4:∀ b o,b≠C->H b=some o->H3 b=some o:=λb o z e=>g _ _ (a3 b o z e);have R3:=R1.same g;exists _,rfl,_,gd X.ts i,_,rfl,FA,_,rfl;by_cases h0:(gd X.ts i).h=0
  ·rw[aK h0];have ep:Z4 X.ts (some i)=[i]:=by
    show YS X.ts (gd X.ts i).h i=_;rw[h0];rfl
   rw[ep] at q;exact Zk ⟨_,rfl,q H3 D _ a4 R3 U v eD (.cons RA .nil)⟩
  rw[aJ h0];obtain⟨m,em⟩:∃ m,(gd X.ts i).h=m+1:=⟨(gd X.ts i).h-1,∅⟩
  have ep:Z4 X.ts (some i)=i::(gd X.ts i).bs.flatMap (YS X.ts m):=by
   show YS X.ts (gd X.ts i).h i=_;rw[em];rfl
  rw[ep] at q a1;have eu:=k2 h0;subst eu;have hs:=(hw i _ (YZ hi)).stem h0;refine Zw ⟨_,rfl,J,_,_,.ref l,rfl,rfl,Zh.of (g _ _ a6),rfl,l,rfl,⟨_,ZG.of (g _ _ hl)⟩,Pp (K:=K) (a:=l) (xs:=iN (gd X.ts i).bs) (Fx kh ki X C c ls i m J D l H) ⟨_,_,rfl,a4,R3,eD,.cons RA .nil,g _ _ hl⟩ (λj σ H' _ hP=>by obtain⟨_,_,_,_,_,_,_,h⟩:=hP;exact ZG.of h) ?_ ?_⟩
  ·rintro j u σ H4 hu ⟨M,x4,rfl,G,R4,d,B,a5⟩;unfold iN at hu;rw[zD] at hu;obtain⟨b,hb,rfl⟩:=xR.mp hu;obtain⟨i1,i0⟩:=hs.2.2.1 b (zK hb);have eb:Z4 X.ts (some b)=YS X.ts m b:=by
    show YS X.ts (gd X.ts b).h b=_;rw[show (gd X.ts b).h=m by lia]
   have c1:(gd X.ts i).bs.take (j+1)=(gd X.ts i).bs.take j++[b]:=by rw[yM,hb];rfl
   have ef:((gd X.ts i).bs.take (j+1)).flatMap (YS X.ts m)=((gd X.ts i).bs.take j).flatMap (YS X.ts m)++YS X.ts m b:=by rw[c1,xT];simp
   have lf:(((gd X.ts i).bs.take (j+1)).flatMap (YS X.ts m)).length<=((gd X.ts i).bs.flatMap (YS X.ts m)).length:=by
    conv=>rhs;rw[<-wX (j+1) (gd X.ts i).bs,xT,zW]
    exact xB _ _
   have a2:=a1;rw[ef,zW] at lf;simp only[zJ] at a2;have l4:=Paired.length B;simp only[zJ] at l4;refine⟨_,rfl,.inl ⟨rfl,_,ZG.of d⟩,_,rfl,_,rfl,m,∅,.mk X C c _ (some b) R4 hw (λy hy=>by cases hy;exact⟨∅,∅⟩) ?_ λZ D2 k N R5 a7 e0 c0 T=>?_⟩
   ·rw[eb,zW];unfold iN;simp only[zX,zJ]
    lia
   rw[eb] at R5 T;have l5:=Paired.length T;have a0:=N _ _ v d;have c3:=N _ _ a9 a5;have e8:D2≠D:=λz=>by rw[z,d] at a7;cases a7
   exists D,D2,M,k,rfl,rfl,a0,c0,nn ∅
   have O:∀ b o,b≠C->b≠D->H4 b=some o->upd Z D (.lst (M++k)) b=some o:=λb o z1 z2 e=>by rw[ZS z2];exact N b o z1 e
   have t4:Z3 H4 (upd Z D (.lst (M++k))):=λb xs e=>O b _ (ZV e R4.sh.looks) (ZV e d) e;have t5:Z3 Z (upd Z D (.lst (M++k))):=λb xs e=>by rw[ZS (ZV e a0)];exact e
   have Y:∀ b o,H b=some o->b≠D:=λb o e=>ZY e U;have R6:=R5.but (p:=D) (H':=upd Z D (.lst (M++k))) (λb o e z=>by rw[ZS z];exact e) (λz=>by
    rcases z with z | z | z
    ·exact Y _ _ hS z.symm
    ·exact Y _ _ c2 z.symm
    ·exact v z) (λy hy=>by
     obtain⟨dx,hx⟩:=(R.tw y hy).tw.self;obtain⟨vs,e1,_⟩:=(R.tw y hy).things;exact⟨Y _ _ hx,Y _ _ (R.tw y hy).tw.above,Y _ _ e1⟩) t5
   refine⟨M++k,_,rfl,λb o z e=>O b o z (Y _ _ e) (G b o z e),?_,ZM,?_,by rw[ZS a8];exact c3⟩
   ·rw[ef,<-uL];unfold iN at R6⊢;rw[zE,<-xU];exact R6
   ·rw[ef,<-uL];refine ZPN (Paired.mapP B λy u h=>h.off (λb o z e=>O b o (λy=>z (.inl y)) (λy=>z (.inr (.inr y))) e) t4) (Paired.mapP T λy u h=>?_);obtain⟨t',fv,e1,e2,tq,lq,vq,e3,e4,e5,I,e6,e7⟩:=h;have lD:lq≠D:=λz=>I (.inr (.inl (by rw[z,d];intro y;cases y)))
    refine⟨t',fv,e1,t5 _ _ e2,tq,lq,vq,e3,t5 _ _ e4,by rw[ZS lD];exact e5,λz=>?_,λz=>(e6 z).mono t5 _ _,e7⟩
    rcases z with z | z | z
    ·exact I (.inl z)
    ·refine I (.inr (.inl λy=>?_))
     cases x:H lq with
     | none=>exact z x
     | some o=>rw[G lq o (λy=>I (.inl y)) x] at y;cases y
    ·exact lD z
  ·rintro σ H4 ⟨M,x4,rfl,G,R4,d,B,a5⟩;have el:(gd X.ts i).bs.take (iN (gd X.ts i).bs).length=(gd X.ts i).bs:=by unfold iN;rw[zX,List.take_length]
   rw[el] at R4 B;exact⟨_,rfl,q H4 D M G R4 U v d B⟩
def Z0.mono{m n:Nat}{d:jf}{H:Hp}{Q:VK}{E:XK}(h:Z0 m kh ki d H Q E)(g:m<=n):Z0 n kh ki d H Q E:=by
 obtain⟨X,k,c,l,r,R,j,a,b,q⟩:=h;exact⟨X,k,c,l,r,R,j,λi e=>⟨(a i e).1,zS (a i e).2 g⟩,b,q⟩
def HD(a:Za K mg "reached" Nm zEd)(L:Yh K mg kh ki)(d:ZL P w K mg km ZZ 2 kh "look" zEa (XU kh ki))(c:ZB P w K mg km 1 "is_leaf" zE6 YD):∀ n:Nat,ZB P w K mg km (n+3) "reached" zEd (λb H Q E=>∃ m,m<n/\Z0 m kh ki b H Q E)
 | 0=>a.of λ_ _ _=>Kj λb H Q E h=>by obtain⟨m,e,_⟩:=h;lia
 | n+1=>a.of λ_ _ F=>(FF F L d c (HD a L d c n)).imp λb H Q E h=>by
  obtain⟨m,e,h⟩:=h;exact h.mono ∅
end Tw
namespace L2
open PySem PySem.Spec PyProof.Rows
abbrev kI:Ko:=⟨oneType',λp=>numOf p.1,λp=>∃ n t,p.1=.int n t⟩
def Bq:@KoOk kI prog w A s:=@KoOk.mk kI _ _ _ _ fun{E p q Q} e f h=>by
 obtain⟨⟨a,t,c⟩,b,u,d⟩:=And.intro e f;show aC (aB prog w) A (keyLt' oneType' p.1 q.1) Q E s;have h:Q (decide (numOf p.1<numOf q.1)) s:=h;rw[keyLt'_oneType,c,d];rw[c,d] at h;exact oneLt_int h
def ZEc{a:ak}{b:je}{t:jt}{n:Nat}{P:PySem.Fin->al->Prop}(i:s.heap.get? a=some (seqObj "list" b.toArray n))(g:IntsAre b t)(H:b.length<1000)(h:∀ (f:ju) (d:jt),IntsAre f.toList d->d.Perm t->d.Pairwise (· <= ·)->P (.done (.ret .none)) { s with heap:=sortedHeap s.heap a b f }):aC (aB prog w) A (Builtin.«list.sort» { pos:=[.ref a] }) P E s:=by
 rcases yA b.length 64 with c | c
 ·exact list_sort_tree i g c h
 have q:b.length<=sizeLine:=yG (Yq ∅)
 rw[list_sort_plain];refine aa (listItems_at i rfl (aa (listUpdate_at i rfl ?_ (by rw[zP];exact q) (zL _))))
 obtain⟨m,e⟩:∃ m,(s.heap.update a (Obj.mapSeq λ_=>(#[]:ju))).get? a=some (seqObj "list" #[] m):=⟨_,get?_update_seq i λ_=>#[]⟩;refine aa (seqEpoch_at e rfl (aa (wpAny_newTuple (aa (wpAny_newList (af ?_) (zL _))) (by show b.length<=_;exact q))))
 have u:(((s.heap.update a (Obj.mapSeq λ_=>(#[]:ju))).push (seqObj "tuple" b.toArray 0)).push (seqObj "list" #[] 0)).get? a=some (seqObj "list" #[] m):=zO _ (zO _ e);dsimp only;rw[aM (by rw[zP];lia),aM (by rw[zP];lia)]
 obtain⟨k,l,rest,v⟩:∃ k l rest,b=k::l::rest:=by
  match b,c with
  | k::l::rest,_=>exact⟨k,l,rest,rfl⟩
 have D:keyKind' b.toArray=pure oneType':=by
  subst v;exact keyKind_ints g
 rw[D];refine aa (ad ?_);have F:(pairsOf b).size=b.length:=pairsOf_size b;have:=Bq (prog:=prog) (w:=w) (A:=A) (s:={ s with heap:=((s.heap.update a (Obj.mapSeq λ_=>(#[]:ju))).push (seqObj "tuple" b.toArray 0)).push (seqObj "list" #[] 0) });refine aa (Zz (GL (κ:=kI) (a₀:=pairsOf b) (st:=SortSt.mk' oneType' (pairsOf b) #[] 7 none) (Q:=λ_ z=>(jR z).Perm (pairsOf b)/\failedOf z=none/\PyProof.Rows.SortedTo (jR z) (pairsOf b).size) g.intKeys (@TB.mk kI _ _ _ (.refl _) rfl rfl rfl) ∅ λz j o p=>⟨j,o,p⟩) λr G x=>?_)
 obtain⟨⟨⟩,z⟩:=r;obtain⟨rfl,j,o,p⟩:=x;obtain⟨d,y,B,C⟩:=sorted_out g j p;dsimp only;refine aa (seqEpoch_at u rfl (aa (listUpdate_at u rfl ?_ (zL _) (by rw[Array.size_map,j.size_eq,F];lia))))
 rw[o];simp only[bne_self_eq_false,wU,if_false];exact ad (h _ d y B C)
def ZIh{l:ak}{b:je}{f:jt}{Q:ja}(n:s.heap.IsList l b.toArray)(k:IntsAre b f)(p:b.length<1000)(h:∀ (c:ju) (a:jt),IntsAre c.toList a->a.Perm f->a.Pairwise (· <= ·)->Q (.ref (s.heap.objs.size+1)) { s with heap:=sortedAll s.heap b c }):aC (aB prog w) A (call (.builtin "sorted") [.ref l]) Q E s:=by
 have d:b.length<=sizeLine:=yG (Yq ∅)
 refine Calls.call_function_entry kind_sorted plain_sorted entry_sorted (args_sorted1 _) (?_);unfold Builtin.«sorted»;refine aa (m:=checkCount "sorted" 1 1 _) (ad (aa (collect_list n (aa (wpAny_newList ?_ (hsz:=d))) (hsz:=d))));have e:((s.heap.push (seqObj "list" #[] 0)).update s.heap.objs.size (Obj.mapSeq (· ++ b.toArray))).objs.size=s.heap.objs.size+1:=by rw[Heap.size_update,size_push']
 have o:(((s.heap.push (seqObj "list" #[] 0)).update s.heap.objs.size (Obj.mapSeq (· ++ b.toArray))).push (seqObj "list" b.toArray 0)).get? (s.heap.objs.size+1)=some (seqObj "list" b.toArray 0):=by
  rw[<-e];exact yO _ rfl
 show aC (aB prog w) _ _ _ _ { s with heap:=((s.heap.push (seqObj "list" #[] 0)).update s.heap.objs.size (Obj.mapSeq (· ++ b.toArray))).push (seqObj "list" b.toArray 0) };rw[e];exact aa (af (wpAny_call_entry slot_list_sort ⟨_,o,rfl⟩ entry_list_sort (ZEc o k p λc a g i j=>⟨_,rfl,ad ⟨_,rfl,h c a g i j⟩⟩) (args_list_sort _)))
inductive QQ(K:zZ):jf->Hp->VK->Prop
 |mk{H:Hp}{Q:VK}(a:ak)(ns:jt):ZG K H a (ns.map V.int)->ns.length<1000->(∀(p:ak)(ns':jt),H p=none->ns'.Perm ns->ns'.Pairwise (· <= ·)->Q (.ref p) (upd H p (.lst (ns'.map V.int))))->QQ K [.ref a] H Q
def KN:Wu X (.builtin "sorted") (QQ X.K):=by
 intro k s D H C B Q I r h;obtain⟨a,j,t,y,q⟩:=h;obtain⟨u,rfl,w⟩:=Vp r;cases w;obtain⟨f,l,p,z⟩:=I.list t;have x:f.length=j.length:=by have:=l.length;simpa using this.symm
 refine ZIh p.isList (Ip l) ∅ λg d m i n=>?_
 obtain⟨c,v⟩:=sortedAll_at s.heap f g;have A:d.length=j.length:=i.length_eq;exact⟨.ref (s.heap.objs.size+1),_,I.laid (a:=s.heap.objs.size+1) (o:=.lst (d.map V.int)) (t':=s.toks) (λb o e=>sortedAll_old e) (wG _) ⟨by rw[zX];exact yG (Yq ∅),g.toList,c,Fo m,v⟩,rfl,q _ d (I.hok.fresh (wG _)) i n⟩
end L2
namespace Tw
open PySem PySem.Spec L2 PyProof.Rows
variable{kh ki CS CT CH CK CP CB:ak}
def ZLu{X:Cx}{w:ax}{o i:Expr}{pos:Pos}{a b:TE}(g:X.A.units+5<cLine)(d:PE X o a)(c:PE X i b)(e:LI i)(h:X.w=w:=by rfl):PE X (.Subscript o i pos) (G8 w a b):=by
 subst h;exact ZN6 g d c e
def GD:∀{a b:jp},Ym a->Ym b->(∀ k,k∈a ↔ k∈b)->a=b
 | [],[],_,_,_=>rfl
 | [],y::b,_,_,h=>by simp at h;exact absurd rfl (h y).1
 | x::a,[],_,_,h=>by simp at h;exact absurd rfl (h x).1
 | x::a,y::b,ha,hb,h=>by
  have c:=wT.mp ha;have d:=wT.mp hb;have e:x=y:=by
   rcases zF.mp ((h x).mp (zC ..)) with e | q
   ·exact e
   rcases zF.mp ((h y).mpr (zC ..)) with e | l
   ·exact e.symm
   have j:=d.1 x q;have i:=c.1 y l;rw[Nz _ _ j] at i;cases i
  subst e;have:a=b:=GD c.2 d.2 λk=>by
   constructor
   ·intro g;rcases zF.mp ((h k).mp (zI _ g)) with e | q
    ·have:=c.1 k g;rw[e,PR] at this;cases this
    ·exact q
   ·intro g;rcases zF.mp ((h k).mpr (zI _ g)) with e | q
    ·have:=d.1 k g;rw[e,PR] at this;cases this
    ·exact q
  rw[this]
def As{c:jp}(h:Ym c):c.Nodup:=h.imp fun{a b} q e=>by rw[e,PR] at q;cases q
structure WI(w:ax)(H:Hp)(D:ak)(rs:jw)(xs:List (KT×V×V)):Prop where
 dk:YM w H D xs
 rows:Paired (fun(r:YT)(x:KT×V×V)=>x.1=r.1/\ZD H r.2 x.2.2) rs xs
def WI.keys{w:ax}{H:Hp}{D:ak}{b:jw}{c:List (KT×V×V)}(h:WI w H D b c):c.map (·.1)=b.map (·.1):=by
 have:=h.rows;clear h
 induction this with
 | nil=>rfl
 | cons a t d=>rw[yR,yR,a.1,d]
def WI.but{w:ax}{H H':Hp}{D p:ak}{a:jw}{b:List (KT×V×V)}(h:WI w H D a b)(s:ZE p H H')(t:Z3 H H')(n:D≠p):WI w H' D a b:=⟨h.dk.but s t n,Paired.mapP h.rows λ_ _ z=>⟨z.1,z.2.mono t _ _⟩⟩
def WI.same{w:ax}{H a:Hp}{D:ak}{b:jw}{c:List (KT×V×V)}(h:WI w H D b c)(s:ZC H a):WI w a D b c:=⟨h.dk.same s,Paired.mapP h.rows λ_ _ z=>⟨z.1,z.2.sm s⟩⟩
def ZO3{w:ax}{H a:Hp}{d:ak}{f:List (KT×V×V)}(c:YM w H d f)(s:ZE d H a):Z3 H a:=λb i e=>by
 obtain⟨g,h,_⟩:=c.ex;exact s b _ e (ZV e h (by unfold NO;intro z;cases z))
inductive Vn(w:ax)(c:jf)(H:Hp)(Q:VK)(_:XK):Prop
 |mk(p:ak)(m:Int)(_:c=[.ref p,.int m])(_:ZH H p)(_:0<m)(_:m<=61)(_:∀(D:ak)(b:jw)(d:List (KT×V×V))(a:Hp),H D=none->WI w a D b d->(∀ r∈b,r.fit)->Ym (b.map (·.1))->b.length<=60->ZH a p->ZE p H a->Q (.ref D) a)
abbrev ZN5:jr:=["_law_well_here","_law_most","_law_keys_here","_law_model","_law_spot"]
def Vf:ZA ZN5 zE1 (Zc Ki):=Zr
inductive GrL(p:ak)(m:Int)(c D:ak)(w:ax)(d:jp)(H:Hp)(e:jf)(i:Nat)(j:L2.St)(a:Hp):Prop
 |mk(b:jw)(h:List (KT×V×V))(g:jg)(_:j=[some (.ref p),some (.int m),some (.ref c),some (.ref D),g])(_:WI w a D b h)(_:b.map (·.1)=d.take i)(_:∀ r∈b,r.fit)(_:ZH a p)(_:ZE p H a)(_:a c=some (.lst e))(_:jY a d e)
def ZJZ(F:Zf K "_law_ground" "_law_ground" Ki f fd)(DP:ZB P w K mg km 1 "_law_pull" zEb Zs)(DK:ZB P w K mg km 9 "_law_keys" zEb U8)(DV:ZB P w K mg km 7 "_law_value" zEg UK):ZI P w K mg km ZZ 10 f fd zE1 (Vn w):=by
 refine F.ko Vf λa6 A a4 s H N Q E q h=>?_;obtain⟨p,m,rfl,W,m0,a7,k⟩:=h;have nd:=Vf.nd;have a2:=q.to 1;have a3:=q.to 7;have Iq:=ZT.key q (n:=4) (by decide)
 intro Xc;refine⟨_,ZN (Zi 2 nd (Zg DK q (Zl (pv 0) (Zg DP a2 (Zl (pv 0) (pv 1))))))
  (ZN (Zi 3 nd G9)
  (ZN (Vo PassesOwn.never rfl (X7 (pv 2)) (Xe 4 nd)
   (ZR (Fl Iq (pv 3) (pv 4) (Zg DV a3 (ZX (pv 0))) rfl)))
  (ZR (Zd (pv 3))))),?_⟩
 exists _,rfl,_,rfl,_,rfl,p,m,rfl,W,Xn ∅ ∅
 intro n H1 n0 n1 W1 s1;have en:n=((n.toNat:Nat):Int):=∅
 exists p,n.toNat,congrArg (λy=>[V.ref p,V.int y]) en,W1,by lia
 intro x N ts H2 nK hK kK fK rK lK W2 s2;have pK:x≠p:=Ur W1 nK;have M:=s1.trans s2;intro D H3 T a8 U a0;have W3:=W2.same U;have C:=U _ _ hK;have Dp:D≠p:=Ur W2 T;have Z:D≠x:=λz=>by rw[z,hK] at T;cases T
 have J:H D=none:=LU M W2 T;have a5:=M.trans (ZE.of U);have lv:=kK.length;refine⟨_,rfl,x,rfl,⟨N,ZG.of C⟩,Pp (K:=K) (a:=x) (xs:=N) (GrL p m x D w ts H N)
  ⟨[],[],_,rfl,⟨a0,.nil⟩,rfl,λr q=>by simp at q,W3,a5,C,kK.sm U⟩ (λi σ H' _ hP=>by obtain⟨_,_,_,_,_,_,_,_,_,h,_⟩:=hP;exact ZG.of h) ?_ ?_⟩
 ·rintro i u σ H4 hu ⟨L,l,x4,rfl,dr,d,fr,O,s4,G,g⟩;have hi:i<N.length:=(yT.mp hu).1;obtain⟨t,R,kt⟩:=g.get hu;exists _,rfl,p,rfl,O;intro v vt H5 kv fv W5 X;have t5:=X.tupsW O;have c:=dr.but X t5 Dp;have lx:=Paired.length c.rows;have I:L.length=(ts.take i).length:=by rw[<-d,zX]
  rw[xX] at I;exists _,rfl,_,rfl,D,l,t,rfl,c.dk,∅,kt.mono t5 _ _,Um _ 3 (fK t (zK R))
  intro H6 Y B;have t6:=ZO3 c.dk Y;have hn:t∉l.map (·.1):=by
   rw[c.keys,d];intro z;obtain⟨j,S⟩:=tS z;rw[sW] at S;split at S
   ·have:=(rP ∅ (As rK)).mp (S.trans R.symm)
    lia
   ·cases S
  have ep:U1 l t u v=l++[(t,u,v)]:=by
   unfold U1;rw[aM λz=>hn (X1.mp z)]
  rw[ep] at B;refine⟨L++[(t,vt)],l++[(t,u,v)],_,rfl,⟨B,Md (a:=((t,vt):YT)) ⟨rfl,kv.mono t6 _ _⟩ (Paired.mapP c.rows λ_ _ z=>⟨z.1,z.2.mono t6 _ _⟩)⟩,?_,λr a1=>?_,W5.stay Y (Ne.symm Dp),λb o e n=>Y b o (X b o (s4 b o e n) n) (ZY e J),Y _ _ (X _ _ G pK) (Ne.symm Z),(g.mono t5 _ _).mono t6 _ _⟩
  ·rw[zE,d,yM,R];rfl
  ·rcases yQ.mp a1 with z | z
   ·exact fr r z
   ·rw[zB.mp z];exact⟨fK t (zK R),fv⟩
 ·rintro σ H4 ⟨L,l,x4,rfl,dr,d,fr,O,s4,G,g⟩;rw[yV ∅] at d
  have I:L.length=ts.length:=by rw[<-d,zX]
  exact⟨_,rfl,k D L l H4 J dr fr (by rw[d];exact rK) ∅ O s4⟩
inductive Vk(w:ax)(d:jf)(H:Hp)(Q:VK)(_:XK):Prop
 |mk(D:ak)(a:jw)(e:List (KT×V×V))(_:d=[.ref D])(_:WI w H D a e)(_:∀ r∈a,r.fit)(_:Ym (a.map (·.1)))(_:a.length<=60)(_:∀(l:ak)(c:jf)(b:Hp),ZC H b->H l=none->b l=some (.lst c)->jY b (YH a) c->Q (.ref l) b)
def ZMP:ZA zE9 zE9 (Zc Iy):=Zr
def BF(F:Zf K "_law_sorted" "_law_sorted" Iy f fd)(T:YA mg)(DR:ZB P w K mg km 6 "_law_rank" zEn (XI 5)):ZI P w K mg km ZZ 9 f fd zE9 (Vk w):=by
 refine F.ko ZMP λa4 A a2 s H vs Q E hr h=>?_;obtain⟨D,rs,u,rfl,C,fr,a3,a6,k⟩:=h;have a1:=ZT.key hr (n:=5) (by decide)
 have DS:ZB P w K mg km 6 "_law_rank" zEn (PL KT.rk):=by
  obtain⟨g,gd,FG,b,kp,m⟩:=DR.ex;exact⟨g,gd,FG.imp λvs H Q E h=>by
   obtain⟨v,t,e,a,c,d⟩:=h;have:=Um t 3 c;exact⟨v,t,3,e,a,c,∅,d⟩,b,kp,m⟩
 intro Xc;exists _,ZR (Zd (Wr [0] zE9 rfl (X7 (G1 Fd LW DS hr rfl T.sorted rfl (ZX (pv 0)))) (λ_ _ _ _ _=>VV) (λ_ _ _ _ _=>Yw (Zl (pv 0) (ZLu (w:=w) a1 (pv 1) (pv 0) (λ_ _=>rfl)))) ⟨rfl,.inl rfl,rfl,trivial⟩));have lx:=Paired.length C.rows;have ek:=C.keys;have kf:∀ x∈u,x.1.fits 3=true:=λx hx=>by
  have:x.1∈rs.map (·.1):=by rw[<-ek];exact zM.mpr ⟨x,hx,rfl⟩
  obtain⟨r,a0,e⟩:=zM.mp this;rw[<-e];exact(fr r a0).1
 exists _,rfl,D,u,rfl,C.dk,kf,by lia
 intro S B ts H1 s1 nS O ka pm pw;have N:ts=rs.map (·.1):=GD (Dq (pm.nodup_iff.mpr C.dk.nd) pw) a3 λt=>by rw[pm.mem_iff,ek]
 subst N;have V:=C.same s1;have lw:=ka.length;rw[zX] at lw;refine⟨S,rfl,⟨B,ZG.of O⟩,Vc (n:=B.length) (λi z=>B[i]? = some z) (λE i y j=>ZC H1 j/\H1 E=none/\jY j ((YH rs).take i) y) (Yq ∅)
  (λE i y j Z l=>⟨B,B[i],ZG.of (l.1 _ _ O),by simp[Z]⟩) (λE i y j z H4 Z l hy=>⟨hy.1,hy.2 B (ZG.of (l.1 _ _ O))⟩) (λE y j l=>⟨B,ZG.of (l.1 _ _ O),zY _⟩)
  (λE hE=>⟨ZU hE _,hE,.nil⟩) (λE i y j z W a5 Z hz l RR Y=>?_) (λE y j W l=>?_)⟩
 ·obtain⟨G,R,p⟩:=l;obtain⟨t,N,kt⟩:=ka.get hz;rw[zD] at N;obtain⟨r,X,rfl⟩:=xR.mp N;have M:u[i]? = some (u[i]'∅):=zU ∅
  have I:=V.same G;obtain⟨r',L,e1,e2⟩:=Paired.ixR I.rows M;rw[X] at L;cases L;have hv:=CI C.dk.nd M;rw[e1] at hv;have ff:=(fr r (zK X)).1;exists _,rfl,_,rfl,_,rfl,D,u,r.1,_,rfl,I.dk,kt.sm G,Um _ 3 ff,hv,Zu;intro q nq;have g:=ZU nq (.tup [z,(u[i]'∅).2.2])
  have eq:=ZM (H:=j) (a:=q) (o:=.tup [z,(u[i]'∅).2.2])
  have J:=g _ _ W;refine Y _ _ J ⟨WX (G.trans g) R,R,?_⟩;have U:Z3 (upd j q (.tup [z,(u[i]'∅).2.2])) (upd (upd j q (.tup [z,(u[i]'∅).2.2])) E (.lst (y++[.ref q]))):=(ZE.refl E _).upd.tups J
  unfold YH;rw[yM,zD,X];refine((p.sm g).mono U _ _).append (.cons (.tup (U _ _ eq) (.cons ?_ (.cons ?_ .nil))) .nil)
  ·exact(kt.sm (G.trans g)).mono U _ _
  ·exact(e2.sm g).mono U _ _
 ·obtain⟨G,R,p⟩:=l;rw[yV (by unfold YH;rw[zX];lia)] at p
  exact k E y j (s1.trans G) (s1.free R) W p
def Iu:∀(n:Nat)(l:jm),l.Nodup->(∀ x∈l,x<n)->l.length<=n
 | 0,[],_,_=>zY _
 | 0,x::_,_,h=>absurd (h x (zC ..)) ∅
 | n+1,l,d,h=>by
  have b:=Iu n (l.erase n) (d.erase n) λx a=>by
   have:=h x (List.mem_of_mem_erase a);have e:x≠n:=λz=>by
    rw[z] at a;exact(List.Nodup.not_mem_erase d) a
   lia
  by_cases c:n∈l
  ·rw[List.length_erase_of_mem c] at b
   lia
  ·rw[List.erase_of_not_mem c] at b
   lia
inductive Uq(H:Hp)(t:ZP)(v:V):Prop
 |mk(b u a:_)(_:v=.ref b)(_:H b=some (.tup [.str (kindOf t),.ref u]))(_:H u=some (.tup a))(_:t.h=0->jY H (YH t.rows) a)(_:t.h≠0->a=iN t.bs)
def Uq.mono{H a:Hp}{t:ZP}{v:V}(h:Uq H t v)(m:Z3 H a):Uq a t v:=by
 obtain⟨g,u,i,e,b,c,d,f⟩:=h;exact⟨g,u,i,e,m _ _ b,m _ _ c,λz=>(d z).mono m _ _,f⟩
structure XV(ts:jn)(H:Hp)(kvs:List (Zb×V))(F:jm):Prop where
 nd:F.Nodup
 lt:∀ j∈F,j<ts.length
 no:∀ j:Nat,j∉F->YR kvs (Sum.inl (j:Int))=none
 yes:∀ j:Nat,j∈F->∃ v,YR kvs (Sum.inl (j:Int))=some v/\Uq H (gd ts j) v
 len:kvs.length=F.length
 ks:kvs.map (·.1)=F.map λj:Nat=>(Sum.inl (j:Int):Zb)
def XV.mono{c:jn}{H b:Hp}{a:List (Zb×V)}{F:jm}(h:XV c H a F)(m:Z3 H b):XV c b a F:=⟨h.nd,h.lt,h.no,λj d=>by
 obtain⟨v,e,r⟩:=h.yes j d;exact⟨v,e,r.mono m⟩,h.len,h.ks⟩
def XV.put{e:jn}{H:Hp}{d:List (Zb×V)}{F:jm}(h:XV e H d F){j:Nat}(l:j<e.length)(f:j∉F){v:V}(m:Uq H (gd e j) v):XV e H (XR d (Sum.inl (j:Int)) v) (F++[j]):=by
 refine⟨?_,λi c=>?_,λi c=>?_,λi c=>?_,?_,by rw[LL v (h.no j f),zE,zE,h.ks];rfl⟩
 ·rw[uI];exact⟨h.nd,by simp,λa g b k=>by rw[zB.mp k];exact λz=>f (z ▸ g)⟩
 ·rcases yQ.mp c with z | z
  ·exact h.lt i z
  ·rw[zB.mp z];exact l
 ·have n:i∉F:=λz=>c (wS _ z);have o:i≠j:=λz=>c (yC _ (by rw[z];exact zB.mpr rfl))
  rw[LC,aM λz=>o (by have:=Sum.inl.inj z;lia)]
  exact h.no i n
 ·rw[LC];by_cases z:i=j
  ·subst z;exact⟨v,aO rfl,m⟩
  ·rw[aM λy=>z (by have:=Sum.inl.inj y;lia)]
   exact h.yes i ((yQ.mp c).elim id λy=>absurd (zB.mp y) z)
 ·rw[LL v (h.no j f),zW,zW,h.len];rfl
def IO(a:jn)(F:jm)(T:List (jq)):Prop:=∀ j∈F,∀ b∈(gd a j).bs,b∈F\/some b∈T
abbrev XC(l:List (jq)):jf:=l.map λx=>Zo (Zn x)
def LD(a:jn):jq->Nat
 | none=>1
 | some j=>5 ^ (gd a j).h
def Ov(a:jn)(l:List (jq)):Nat:=(l.map (LD a)).sum
def JZ{a:jn}{l:List (jq)}{x:jq}:Ov a l<Ov a (l++[x]):=by
 unfold Ov;rw[zE,sF];have:0<LD a x:=by
  cases x with
  | none=>exact Nat.one_pos
  | some j=>exact Nat.pow_pos (by decide)
 simp only[yR,vJ,tG,List.sum_nil,tO]
 lia
def ZLO{a:jn}{l:List (jq)}{b:Nat}(n:WF a)(k:b<a.length)(m:(gd a b).h≠0):Ov a (l++(gd a b).bs.map some)<Ov a (l++[some b]):=by
 obtain⟨q,i,j,_⟩:=(n b _ (YZ k)).stem m;have e:∀(d:jm),(∀ c∈d,(gd a c).h+1=(gd a b).h)->((d.map some).map (LD a)).sum=d.length * 5 ^ ((gd a b).h-1):=by
  intro d
  induction d with
  | nil=>intro _;simp
  | cons c d p=>
   intro h;have f:=h c (zC ..);rw[yR,yR,tG,p λx o=>h x (zI _ o),zJ,Nat.succ_mul];show 5 ^ (gd a c).h+_=_;rw[show (gd a c).h=(gd a b).h-1 by lia]
   lia
 unfold Ov;rw[zE,sF,zE,sF,e _ λc f=>(j c f).2];have g:LD a (some b)=5 * 5 ^ ((gd a b).h-1):=by
  show 5 ^ (gd a b).h=_;have:(gd a b).h=((gd a b).h-1)+1:=∅
  rw[this,Nat.pow_succ,Nat.mul_comm];simp
 have pos:0<5 ^ ((gd a b).h-1):=Nat.pow_pos (by decide)
 simp only[yR,vJ,tG,List.sum_nil,tO];rw[g];have:(gd a b).bs.length * 5 ^ ((gd a b).h-1)<=4 * 5 ^ ((gd a b).h-1):=Nat.mul_le_mul_right _ i
 lia
inductive Ws(kh ki:ak)(l:jf)(H:Hp)(Q:VK)(_:XK):Prop
 |mk(X:YL)(h:ak)(c:Nat)(j:jf)(k:jq)(d:ak)(_:l=[.ref X.S,Zo (Zn k),.ref d])(_:Z1 kh ki H X h c j)(_:WF X.ts)(_:X.ts.length<=240)(_:j.length<=500)(_:∀ i,k=some i->i<X.ts.length)(_:H d=some (.dK []))(_:d≠X.d)(_:∀(a:Hp)(e:List (Zb×V))(F:jm)(g:jf),(∀ b o,b≠h->b≠d->H b=some o->a b=some o)->Z1 kh ki a X h c g->g.length<=j.length+X.ts.length->a d=some (.dK e)->XV X.ts a e F->IO X.ts F []->(∀ i,k=some i->i∈F)->Q (.ref d) a)
abbrev ZL8:jr:=["_law_shelf","_law_root","_law_found","_law_todo","_law_number","_law_kind","_law_what"]
def Wk:ZA ZL8 zEq (Zc Jy):=Zr
structure Xg(kh ki:ak)(H H':Hp)(X:YL)(lk:ak)(c:Nat)(ls:jf)(d ta:ak)(todo:List (jq))(F:jm)(kvs:List (Zb×V))(ls':jf):Prop where
 fr:∀ b o,b≠lk->b≠d->H b=some o->H' b=some o
 sh:Z1 kh ki H' X lk c ls'
 len:ls'.length=ls.length+F.length
 hd:H' d=some (.dK kvs)
 rcd:XV X.ts H' kvs F
 hta:H' ta=some (.lst (XC todo))
 nta:H ta=none
 tl:ta≠lk
 tw:∀ i:Nat,i<X.ts.length->(X.as.getD i .d).ab≠ta/\(X.as.getD i .d).th≠ta
section
variable{H H' H'':Hp}{X:YL}{lk:ak}{c:Nat}{ls ls':jf}{d ta:ak}{todo todo':List (jq)}{F:jm}{kvs:List (Zb×V)}
def Xg.same(r:Xg kh ki H H' X lk c ls d ta todo F kvs ls')(s:ZC H' H''):Xg kh ki H H'' X lk c ls d ta todo F kvs ls':=
 ⟨λb o a g e=>s b o (r.fr b o a g e),r.sh.same s,r.len,s _ _ r.hd,r.rcd.mono (ZC.tups s),s _ _ r.hta,r.nta,r.tl,r.tw⟩
def Xg.pop(r:Xg kh ki H H' X lk c ls d ta todo F kvs ls'):Xg kh ki H (upd H' ta (.lst (XC todo'))) X lk c ls d ta todo' F kvs ls':=by
 have s:ZE ta H' (upd H' ta (.lst (XC todo'))):=(ZE.refl ta H').upd;have t:=s.tups r.hta;obtain⟨⟨m,g⟩,h,p⟩:=r.sh.sh;have N:¬ N9 X lk ta:=by
  rintro(z | z | z)
  ·exact ZV r.hta g (by intro z;cases z) z
  ·exact ZV r.hta h (by intro z;cases z) z
  ·exact r.tl z
 refine⟨λb o k l e=>by rw[ZS (ZY e r.nta)];exact r.fr b o k l e,r.sh.but s N (λi a=>?_) t,r.len,s _ _ r.hd (ZV r.hd r.hta),r.rcd.mono t,ZM,r.nta,r.tl,r.tw⟩
 obtain⟨n,j⟩:=(r.sh.tw i a).tw.self;exact⟨ZV j r.hta,r.tw i a⟩
def Xg.anew(r:Xg kh ki H H' X lk c ls d ta todo F kvs ls'){q:ak}(a:H' q=none)(n:H lk≠none)(l:H d≠none):Xg kh ki H (upd H' q (.lst (XC todo'))) X lk c ls d q todo' F kvs ls':=by
 have g:=ZU a (.lst (XC todo'));have h:=r.same g;have b:q≠lk:=(ZY r.sh.sh.looks a).symm;have m:q≠d:=(ZY r.hd a).symm;refine⟨h.fr,h.sh,h.len,h.hd,h.rcd,ZM,?_,b,λi j=>?_⟩
 ·cases e:H q with
  | none=>rfl
  | some o=>rw[r.fr q o b m e] at a;cases a
 ·obtain⟨p,k,_⟩:=(r.sh.tw i j).things;exact⟨ZY (r.sh.tw i j).tw.above a,ZY k a⟩
end
def Mx(t:ZP):decide (V.str (kindOf t)=V.str "stem")=decide (t.h≠0):=by
 by_cases h:t.h=0
 ·rw[Gx h,aJ (show ¬ t.h≠0 from λz=>z h)];decide +kernel
 ·rw[Db h,aK rfl,aK h]
inductive ReL(X:YL)(g:jq)(d kh ki:ak)(H:Hp)(k:ak)(c:Nat)(l:jf)(m:Nat)(q:L2.St)(j:Hp):Prop
 |mk(h:ak)(a:List (jq))(F:jm)(b:List (Zb×V))(e:jf)(n o p:jg)(_:q=[some (.ref X.S),some (Zo (Zn g)),some (.ref d),some (.ref h),n,o,p])(_:m=Ov X.ts a)(_:Xg kh ki H j X k c l d h a F b e)(_:IO X.ts F a)(_:∀ i,g=some i->i∈F\/some i∈a)(_:∀ i,some i∈a->i<X.ts.length)(_:a.length<=1+4 * F.length)
def ZIN(F0:Zf K "_law_reached" "_law_reached" Jy f fd)(T:YA mg)(L:Yh K mg kh ki)(DL:ZL P w K mg km ZZ 2 kh "look" zEa (XU kh ki)):ZI P w K mg km ZZ 3 f fd zEq (Ws kh ki):=by
 refine F0.ko Wk λi2 A e6 s H vs Q E hr h=>?_;obtain⟨X,lk,c,ls,rn,d,rfl,R,hw,i1,i0,e3,hd,c3,k⟩:=h;have nd:=Wk.nd;have hu:=PF hr;intro Xc;refine⟨_,ZN (Zi 3 nd (YG (ZX (pv 1))))
  (ZN (Pj PassesOwn.never (Yc (NU hr.units0) (pv 3) (YG Zj) (Z9 _))
   (ZN (Zi 4 nd (EU yK pY pW Dx (pv 3)))
   (ZR (Zv (PW.pt (NX (WA (OF (pv 4))) (Nb (WA (IW hu (pv 4) (pv 2))))))
    (ZN (OC (XQ (E:=E0) (pv 0) L.cS DL hr XJ (ZX (pv 4))) (Mb rfl (QX (Xe 5 nd) (QX (Xe 6 nd) MX))))
    (ZN (Fk hu (pv 2) (pv 4) (Yw (Zl (pv 5) (X0 NH rfl T.tuple Pb (ZX (pv 6))))) rfl)
    (ZR (Zv (Yc VH (pv 5) Xm (Z9 _)) (ZR (Zi 3 nd (Zx LY (pv 3) (X0 Qu rfl T.list Uw (ZX (pv 6)))))) Zy)))) Zy))))
  (ZR (Zd (pv 2)))),?_⟩
 have O:=R.sh.looks;have a5:d≠lk:=ZV hd O;have c2:H lk≠none:=by rw[O];exact λz=>nomatch z
 have c4:H d≠none:=by rw[hd];exact λz=>nomatch z
 exists _,rfl,Zu;intro G U;have g0:=ZU U (.lst [Zo (Zn rn)]);have I0:Xg kh ki H (upd H G (.lst [Zo (Zn rn)])) X lk c ls d G [rn] [] [] ls:=by
  exists λb o _ _ e=>g0 b o e,R.same g0,rfl,g0 _ _ hd,⟨.nil,λj J=>by simp at J,λj _=>rfl,λj J=>by simp at J,rfl,rfl⟩,ZM,U,(ZY O U).symm
  intro i g;obtain⟨M,e1,_⟩:=(R.tw i g).things;exact⟨ZY (R.tw i g).tw.above U,ZY e1 U⟩
 refine⟨ReL X rn d kh ki H lk c ls,
  ⟨_,G,[rn],[],[],ls,none,none,none,rfl,rfl,I0,λj J=>by simp at J,λi g=>.inr (by rw[g];exact zB.mpr rfl),λi g=>e3 i (zB.mp g).symm,zY _⟩,?_⟩
 rintro m σ H1 ⟨G,a3,F,p,I,x4,x5,x6,rfl,rfl,r1,Z,D,c1,a7⟩;have lF:=Iu X.ts.length F r1.rcd.nd r1.rcd.lt;exists _,rfl,Zu;intro e0 c9;have ge:=ZU c9 (.lst []);have Y:=r1.same ge;exists G,e0,XC a3,rfl,rfl,ZG.of Y.hta,ZG.of ZM,_,rfl;generalize upd H1 e0 (.lst [])=H2 at Y⊢;rcases qS a3 with z | ⟨rest,x,z⟩
 ·subst z;refine Zk ⟨_,rfl,k H2 p F I Y.fr Y.sh (by rw[Y.len];lia) Y.hd Y.rcd Z λi g=>(D i g).elim id λz=>by simp at z⟩
 rw[qT] at z;subst z;have c5:(!(XC (rest++[x])).isEmpty)=true:=by simp[XC]
 rw[c5];have eT:XC (rest++[x])=XC rest++[Zo (Zn x)]:=by simp[XC]
 refine Zw ⟨_,λ_ _ z=>z,?_⟩;exists _,rfl,.inl ⟨rfl,_,ZG.of Y.hta⟩,G,XC (rest++[x]),Zo (Zn x),rfl,rfl,Y.hta,by rw[eT];simp
 have n:Xg kh ki H (upd H2 G (.lst (XC (rest++[x])).dropLast)) X lk c ls d G rest F p I:=by
  rw[eT,List.dropLast_concat];exact Y.pop
 generalize upd H2 G (.lst (XC (rest++[x])).dropLast)=H3 at n⊢;rw[zW] at a7;have e8:rest.length+1<=1+4 * F.length:=a7;have C:∀ i,some i∈rest->i<X.ts.length:=λi g=>c1 i (wS _ g)
 cases x with
 | none=>
  refine⟨_,rfl,_,rfl,Zk (Zk ?_)⟩;refine⟨_,JZ,G,rest,F,p,I,_,_,_,rfl,rfl,n,λj J b B=>(Z j J b B).imp id λz=>?_,λi g=>(D i g).imp id λz=>?_,C,∅⟩
  ·exact(yQ.mp z).elim id λy=>by simp at y
  ·exact(yQ.mp z).elim id λy=>by simp at y
 | some j=>
  have J:=c1 j (by simp)
  refine⟨_,rfl,_,rfl,Zw ?_⟩;by_cases hF:j∈F
  ·obtain⟨v,ev,_⟩:=n.rcd.yes j hF;have hg:Yk H3 d (.int (j:Int)) (some v):=ev ▸ Yk.k (k:=Sum.inl (j:Int)) n.hd;refine⟨_,rfl,_,rfl,d,some v,rfl,hg,_,rfl,Zk ?_⟩;refine⟨_,JZ,G,rest,F,p,I,_,_,_,rfl,rfl,n,λi g b B=>?_,λi g=>?_,C,∅⟩
   ·rcases Z i g b B with z | z
    ·exact .inl z
    ·rcases yQ.mp z with y | y
     ·exact .inr y
     ·have:=zG.inj (zB.mp y);exact .inl (this ▸ hF)
   ·rcases D i g with z | z
    ·exact .inl z
    ·rcases yQ.mp z with y | y
     ·exact .inr y
     ·have:=zG.inj (zB.mp y);exact .inl (this ▸ hF)
  ·have ev:=n.rcd.no j hF;have hg:Yk H3 d (.int (j:Int)) none:=ev ▸ Yk.k (k:=Sum.inl (j:Int)) n.hd;refine⟨_,rfl,_,rfl,d,none,rfl,hg,_,rfl,Zw ?_⟩;obtain⟨dx,hS⟩:=n.sh.sh.self;have ll:=n.len;exists _,rfl,X.S,dx,_,rfl,hS,rfl,_,rfl,X,lk,c,I,j,rfl,n.sh,J,by lia
   intro H4 tp l M a0 R4 e4 nl hl w1 w2;have c7:=n.hd;have e5:Z3 H3 H4:=λb xs e=>a0 b _ (ZV e n.sh.sh.looks) e;have c8:=a0 _ _ a5 c7;have c0:=a0 _ _ n.tl n.hta;exists tp,_,rfl,Zh.of e4,rfl,_,_,rfl,_,_,rfl,rfl;refine⟨_,rfl,_,rfl,l,M,rfl,.inl ⟨ZG.of hl,λu nu=>⟨Zu,λt nt=>?_⟩⟩⟩;have g5:=ZU nu (.tup M);have g6:=ZU nt (.tup [.str (kindOf (gd X.ts j)),.ref u]);have q:=g5.trans g6;have eu:=g6 _ _ (ZM (H:=H4) (a:=u) (o:=.tup M));have et:=ZM (H:=upd H4 u (.tup M)) (a:=t) (o:=.tup [.str (kindOf (gd X.ts j)),.ref u]);generalize upd (upd H4 u (.tup M)) t (.tup [.str (kindOf (gd X.ts j)),.ref u])=H6 at q eu et⊢;have r:=q _ _ c8;have a2:=q _ _ c0;have a9:=q _ _ hl;have R6:=R4.same q;have i4:=n.rcd.len;exists _,rfl,_,rfl,d,_,rfl,Uk.k (k:=Sum.inl (j:Int)) r (Yq ∅)
   have rv:Uq H6 (gd X.ts j) (.ref t):=⟨t,u,M,rfl,et,eu,λz=>(w1 z).sm q,w2⟩;have e7:=(((n.rcd.mono e5).mono (ZC.tups q)).put J hF rv);have sx:ZE d H6 (upd H6 d (.dK (XR p (Sum.inl (j:Int)) (.ref t)))):=(ZE.refl d H6).upd;have a4:Z3 H6 (upd H6 d (.dK (XR p (Sum.inl (j:Int)) (.ref t)))):=λb xs e=>sx b _ e (ZV e r);have a8:=ZM (H:=H6) (a:=d) (o:=.dK (XR p (Sum.inl (j:Int)) (.ref t)));generalize upd H6 d (.dK (XR p (Sum.inl (j:Int)) (.ref t)))=H7 at sx a4 a8⊢;have N:¬ N9 X lk d:=by
    obtain⟨⟨dS,c6⟩,_,_⟩:=R6.sh;rintro(z | z | z)
    ·exact ZV r c6 (by intro z;cases z) z
    ·exact c3 z
    ·exact a5 z
   have r7:Xg kh ki H H7 X lk c ls d G rest (F++[j]) (XR p (Sum.inl (j:Int)) (.ref t)) (I++[.int (j:Int)]):=by
    refine⟨λb o n1 n2 e=>sx b o (q b o (a0 b o n1 (n.fr b o n1 n2 e))) n2,R6.but sx N (λi g=>?_) a4,by rw[zW,zW,ll];rfl,a8,e7.mono a4,sx _ _ a2 (ZV a2 r),n.nta,n.tl,n.tw⟩
    have W:=R6.tw i g;obtain⟨dy,hy⟩:=W.tw.self;obtain⟨i7,e1,_⟩:=W.things;exact⟨ZV hy r,ZV W.tw.above r,ZV e1 r⟩
   have e2:=sx _ _ a9 (ZV a9 r);have a1:∀ i∈F,∀ b∈(gd X.ts i).bs,b∈F++[j]\/some b∈rest:=λi g b B=>by
    rcases Z i g b B with z | z
    ·exact .inl (wS _ z)
    ·rcases yQ.mp z with y | y
     ·exact .inr y
     ·exact .inl (yC _ (zB.mpr (zG.inj (zB.mp y))))
   have V:∀ i,rn=some i->i∈F++[j]\/some i∈rest:=λi g=>by
    rcases D i g with z | z
    ·exact .inl (wS _ z)
    ·rcases yQ.mp z with y | y
     ·exact .inr y
     ·exact .inl (yC _ (zB.mpr (zG.inj (zB.mp y))))
   have i3:(F++[j]).length=F.length+1:=by rw[zW];rfl
   have ok:=hw j _ (YZ J);exists _,rfl,rfl,_,rfl;rw[Mx];by_cases h0:(gd X.ts j).h=0
   ·rw[aJ (show ¬ (gd X.ts j).h≠0 from λz=>z h0)];refine Zk ⟨_,JZ,G,rest,F++[j],_,_,_,_,_,rfl,rfl,r7,λi g b B=>?_,V,C,∅⟩
    rcases yQ.mp g with z | z
    ·exact a1 i z b B
    ·rw[zB.mp z,(ok.leaf h0).1] at B;simp at B
   ·rw[aK (show (gd X.ts j).h≠0 from h0)];obtain⟨b2,b4,b3,_⟩:=ok.stem h0;have a6:=w2 h0;have i6:M.length=(gd X.ts j).bs.length:=by rw[a6];exact zX _
    have i5:(XC rest).length=rest.length:=zX _;refine Zw ⟨_,rfl,_,rfl,l,M,rfl,.inl (ZG.of e2),λq1 n1=>?_⟩;have g8:=ZU n1 (.lst M);have r8:=r7.same g8;exists G,q1,XC rest,M,rfl,rfl,r8.hta,ZM,nn ∅
    intro q2 n2;have e9:XC rest++M=XC (rest++(gd X.ts j).bs.map some):=by
     rw[a6];simp[XC,iN,Zo,Zn]
    rw[e9];refine⟨_,ZLO hw J h0,q2,rest++(gd X.ts j).bs.map some,F++[j],_,_,_,_,_,rfl,rfl,r8.anew n2 c2 c4,λi g b B=>?_,λi g=>(V i g).imp id λz=>wS _ z,λi g=>?_,by rw[zW,zX];lia⟩
    ·rcases yQ.mp g with z | z
     ·exact(a1 i z b B).imp id λy=>wS _ y
     ·rw[zB.mp z] at B;exact .inr (yC _ (zM.mpr ⟨b,B,rfl⟩))
    ·rcases yQ.mp g with z | z
     ·exact C i z
     ·obtain⟨b,B,e⟩:=zM.mp z;cases e;have:=(b3 i B).1
      lia
structure Y7(ts:jn)(H:Hp)(d:ak)(kvs:List (Zb×V))(F:jm):Prop where
 hd:H d=some (.dK kvs)
 rcd:XV ts H kvs F
 clo:IO ts F []
 wf:WF ts
def Y7.same{c:jn}{H b:Hp}{d:ak}{a:List (Zb×V)}{F:jm}(r:Y7 c H d a F)(s:ZC H b):Y7 c b d a F:=⟨s _ _ r.hd,r.rcd.mono (ZC.tups s),r.clo,r.wf⟩
def Y7.get{a:jn}{H:Hp}{d:ak}{e:List (Zb×V)}{F:jm}(r:Y7 a H d e F){j:Nat}(o:j∈F):∃ c u b,Yk H d (.int (j:Int)) (some (.ref c))/\H c=some (.tup [.str (kindOf (gd a j)),.ref u])/\H u=some (.tup b)/\((gd a j).h=0->jY H (YH (gd a j).rows) b)/\((gd a j).h≠0->b=iN (gd a j).bs):=by
 obtain⟨v,g,c,u,b,rfl,i,l,m,n⟩:=r.rcd.yes j o;exact⟨c,u,b,g ▸ Yk.k (k:=Sum.inl (j:Int)) r.hd,i,l,m,n⟩
def Y7.sub{c:jn}{H:Hp}{d:ak}{a:List (Zb×V)}{F:jm}(r:Y7 c H d a F){j b:Nat}(g:j∈F)(e:b∈(gd c j).bs):b∈F:=(r.clo j g b e).elim id λz=>by simp at z
def ZNs{c:jn}(f:WF c){j:Nat}(s:j<c.length)(p:(gd c j).h≠0):(gd c j).bs.Pairwise λa b=>(YK (gd c a)).lo.lt (YK (gd c b)).lo=true:=by
 have i:=f j _ (YZ s);obtain⟨t,u,l,o⟩:=i.stem p;have k:=i.up;rw[o,rZ,sR] at k;have g:∀ b∈(gd c j).bs,(YK (gd c b)).lo∈(gd c b).rows.map (·.1):=λb d=>by
  have e:b<c.length:=by have:=(l b d).1;lia
  obtain⟨r,v,m,n⟩:=OE (f b _ (YZ e)).ne;rw[m,n];exact zC ..
 have:=k.2;exact this.imp_of_mem fun{a b} q d h=>h _ (g a q) _ (g b d)
end Tw
namespace L2
open PySem PySem.Spec PyProof.Rows
end L2
namespace Tw
open PySem PySem.Spec L2 PyProof.Rows
variable{kh ki CS CT CH CK CP CB:ak}
def ZOK(a:jf)(n s:Nat)(b:n<=a.length):Qx a (some (n:Int)) (some ((n:Int)+(s:Int)))=(a.drop n).take s:=by
 unfold Qx;have e:((n:Int)+(s:Int))=((n+s:Nat):Int):=∅
 rw[e,HT.sIx_nat,HT.sIx_nat,sI b,List.take_eq_take_min (i:=s),wL];rw[<-Nat.sub_min_sub_right,tW]
def Ms{z:Int}{k m:Nat}(h:z<=k):min z.toNat m<=k:=zS (Nat.min_le_left _ _) (Int.toNat_le.mpr h)
def KM{z:Int}{k m:Nat}(h:(k:Int)<=z)(g:k<=m):k<=min z.toNat m:=Nat.le_min.mpr ⟨(Int.le_toNat (wH (sY _) h)).mpr h,g⟩
def K3{L n:Nat}{y:Int}(h:¬(L:Int)-(n:Int)-y=1)(g:0<=y):L-(n+y.toNat)≠1:=∅
def ZPv{a b c:Int}(h:c<=a)(g:c<=b):c<=if a<b then a else b:=by split <;> assumption
def Bw{a b c:Int}(g:b<=c):(if a<b then a else b)<=c:=by
 split
 ·exact wH (wF ‹_›) g
 ·exact g
def ite_le'{a b:Int}:(if a<b then a else b)<=a:=by
 split
 ·exact wR _
 ·exact uV.mp ‹_›
inductive Yj(N:ak->Prop)(H:Hp)(b:jf)(u:V):Prop
 |mk(a:_)(_:u=.ref a)(_:H a=some (.lst b))(_:¬ N a)
def Yj.go{N:ak->Prop}{H c:Hp}{f:jf}{u:V}(h:Yj N H f u)(k:∀ b o,H b=some o->¬ N b->c b=some o):Yj N c f u:=by
 obtain⟨a,e,g,d⟩:=h;exact⟨a,e,k _ _ g d,d⟩
def NB(H:Hp)(p D b:ak):Prop:=b=p\/b=D\/H b≠none
def NW(a:Bool)(n:Nat):Prop:=(if a=true then 2 else 1)<=n/\n<=4
structure YU(H H':Hp)(p l D:ak)(us:jf)(stem:Bool)(pl:jf)(pss:List (jf))(n:Nat):Prop where
 w:ZH H' p
 sx:ZE p H H'
 hl:H' l=some (.lst us)
 hD:H' D=some (.lst pl)
 nD:H D=none
 lp:l≠p
 lD:l≠D
 Dp:D≠p
 parts:Paired (Yj (NB H p D) H') pss pl
 flat:pss.flatten=us.take n
 size:∀ ps∈pss,NW stem ps.length
 few:pl.length<=n
def YU.go{H f c:Hp}{p l D:ak}{h:jf}{a:Bool}{g:jf}{d:List (jf)}{n:Nat}(r:YU H f p l D h a g d n)(s:ZE p f c)(w:ZH c p):YU H c p l D h a g d n:=
 ⟨w,r.sx.trans s,s _ _ r.hl r.lp,s _ _ r.hD r.Dp,r.nD,r.lp,r.lD,r.Dp,Paired.mapP r.parts λ_ _ z=>Yj.go z λb o e n=>s b o e λz=>n (.inl z),r.flat,r.size,r.few⟩
abbrev EM:jr:=["_law_well_here","_law_things","_law_few","_law_stem","_law_parts","_law_at","_law_size"]
def Qp:ZA EM zEl (Zc Ny):=Zr
def Dg:Option aD->jF
 | some (.While _ b _ _)=>b
 | _=>[]
def HH:List Stmt:=Dg ((WY Ny)[2]?)
section
variable{cdv:aj}{outer:jx}{Hs:Hp}{E:XK}
def Cr(T:YA mg):∃ t,Xh (WZ ZZ P w K mg km EM "_law_cut" (Zc Ny) f cdv A outer s Hs E).nox (HH.drop 2) t/\∀(G:Z8)(H u:Hp)(p l D:ak)(h v:jf)(c:Bool)(J:Int)(q:List (jf))(n d:Nat),
  YU H u p l D h c v q n->n<h.length->h.length<=100->1<=d->d<=4->NW c (min d (h.length-n)) ->
   (∀ Q x S,YU H S p l D h c Q x (n+d)->G.nx [some (.ref p),some (.ref l),some (.int J),some (.bl c),some (.ref D),some (.int ((n+d:Nat):Int)),some (.int (d:Int))] S) ->
    t G [some (.ref p),some (.ref l),some (.int J),some (.bl c),some (.ref D),some (.int (n:Int)),some (.int (d:Int))] u:=by
 have nd:=Qp.nd;refine⟨_,ZN (Xl (VM yK xH xG Uh (pv 4) (ZX (X0 Qu rfl T.list Uw (ZX (ED ZNa (pv 1) (JH (pv 5)) (JH (Zx WW (pv 5) (pv 6)))))))))
  (ZR (Zi 5 nd (Zx WW (pv 5) (pv 6)))),λG H u p l D h v c J q n d r hn Z s1 s4 N I=>?_⟩
 exists _,rfl,.inl ⟨rfl,_,ZG.of r.hD⟩,_,rfl,_,rfl,_,rfl,_,rfl,_,rfl,_,_,rfl,rfl,_,rfl,l,h,rfl,ZG.of r.hl;intro R n1;rw[ZOK h n d ∅] at *
 have L:=ZU n1 (.lst ((h.drop n).take d));have W:=ZM (H:=u) (a:=R) (o:=.lst ((h.drop n).take d));generalize upd u R (.lst ((h.drop n).take d))=U at L W⊢;exists R,_,rfl,.inl (ZG.of W);intro j n2;have Y:=ZU n2 (.lst ((h.drop n).take d));have X:=ZM (H:=U) (a:=j) (o:=.lst ((h.drop n).take d));have g:=L.trans Y;have i:u j=none:=L.free n2;generalize upd U j (.lst ((h.drop n).take d))=C at Y X g⊢;have B:=YU.go r (ZE.of g) (r.w.same g);have M:=B.hD;have a0:=r.few;exists D,v,.ref j,rfl,rfl,M,nn ∅
 exists _,rfl,_,rfl,_,_,rfl,rfl;have y:¬ NB H p D j:=by
  rintro(z | z | z)
  ·exact Ur r.w i z
  ·rw[z,r.hD] at i;cases i
  ·exact z (LU r.sx r.w i)
 have sD:ZE D C (upd C D (.lst (v++[.ref j]))):=(ZE.refl D C).upd;have e:((n:Int)+(d:Int))=((n+d:Nat):Int):=∅
 have m:((h.drop n).take d).length=min d (h.length-n):=by rw[xX,wL]
 have k:=I (v++[.ref j]) (q++[(h.drop n).take d]) (upd C D (.lst (v++[.ref j]))) ⟨B.w.stay sD (Ne.symm r.Dp),λb o e n=>by rw[ZS (ZY e r.nD)];exact B.sx b o e n,by rw[ZS r.lD];exact B.hl,ZM,r.nD,r.lp,r.lD,r.Dp,Md ⟨j,rfl,by rw[ZS (λz=>y (.inr (.inl z)))];exact X,y⟩ (Paired.mapP B.parts λ_ _ z=>Yj.go z λb o e n=>sD b o e λz=>n (.inr (.inl z))),by rw[List.flatten_append,r.flat,List.take_add];simp,λps O=>?_,by simp;lia⟩
 ·rw[<-e] at k;exact k
 ·rcases yQ.mp O with z | z
  ·exact r.size ps z
  ·rw[zB.mp z,m];exact N
inductive QM(i:jf)(H:Hp)(Q:VK)(_:XK):Prop
 |mk(p l:ak)(d:jf)(e:Int)(a:Bool)(_:i=[.ref p,.ref l,.int e,.bl a])(_:ZH H p)(_:H l=some (.lst d))(_:l≠p)(_:0<=e)(_:e<4)(_:d.length<=100)(_:a=true->d.length≠1)(_:∀(D:ak)(g:jf)(b:List (jf))(c:Hp),H D=none->c D=some (.lst g)->Paired (Yj (NB H p D) c) b g->b.flatten=d->(∀ h∈b,NW a h.length)->g.length<=104->ZH c p->ZE p H c->Q (.ref D) c)
def FE{q:ak}{a b c d i:Int}(k:0<=i)(l:i<4)(g e:Int)(n:g<=a/\a<=e)(o:g<=b/\b<=e)(p:g<=c/\c<=e)(r:g<=d/\d<=e):∃ m:Int,Xt [V.int a,.int b,.int c,.int d] i=some (.int m)/\g<=m/\m<=e:=by
 obtain⟨v,h,j⟩:=Op (xs:=[V.int a,.int b,.int c,.int d]) k l;simp only[zF,wY,or_false] at j;rcases j with rfl | rfl | rfl | rfl
 ·exact⟨a,h,n⟩
 ·exact⟨b,h,o⟩
 ·exact⟨c,h,p⟩
 ·exact⟨d,h,r⟩
inductive DU(p l:ak)(e:Int)(a:Bool)(D:ak)(c:jf)(H:Hp)(m:Nat)(i:L2.St)(d:Hp):Prop
 |mk(g:jf)(b:List (jf))(n:Nat)(h:jg)(_:i=[some (.ref p),some (.ref l),some (.int e),some (.bl a),some (.ref D),some (.int (n:Int)),h])(_:m=c.length-n)(_:YU H d p l D c a g b n)(_:(a=true->c.length-n≠1))(_:n<=103)
def ZPn(F0:Zf K "_law_cut" "_law_cut" Ny f fd)(T:YA mg)(DP:ZB P w K mg km 1 "_law_pull" zEb Zs):ZI P w K mg km ZZ 2 f fd zEl QM:=by
 refine F0.ko Qp λcdv A outer s H vs Q E hr h=>?_;obtain⟨p,l,g,X,e,rfl,W,hl,lp,f0,f4,J,a3,k⟩:=h;have L:=Qp.nd;obtain⟨t,ht,hk⟩:=Cr (P:=P) (w:=w) (K:=K) (km:=km) (f:=f) (cdv:=cdv) (A:=A) (outer:=outer) (s:=s) (Hs:=H) (E:=E) T;intro Xc;refine⟨_,ZN (Zi 4 L (YG Zj))
  (ZN (Zi 5 L ZJ)
  (ZN (Pj PassesOwn.never (Yc NZ (pv 5) (Z2 WN rfl T.len Xu (ZX (pv 1))) (Z9 _))
   (ZN (Zi 6 L (Zx WW ZJ (Zg DP hr (Zl (pv 0) (YJ K (YG (VN ZJ ZJ ZJ ZJ)) (pv 2))))))
   (ZN (Zv (Y3 (pv 3))
    (ZN (Zi 6 L (Z2 (Fg rfl) rfl T.min G5 (Zl (Zx WW ZJ (Zg DP hr (Zl (pv 0) (YJ K (YG (VN ZJ ZJ ZJ ZJ)) (pv 2))))) (Zx Up (Z2 WN rfl T.len Xu (ZX (pv 1))) (pv 5)))))
    (ZR (Zv (Yc VH (Zx Up (Zx Up (Z2 WN rfl T.len Xu (ZX (pv 1))) (pv 5)) (pv 6)) ZJ (Z9 _))
     (ZR (Zi 6 L (YJ K (YG (Zl (Zx Up (pv 6) ZJ) (Zx WW (pv 6) ZJ))) (X0 O9 rfl T.int Q2 (ZX (VX VH (pv 6) ZJ (Z9 _))))))) Zy))) Zy) ht)))
  (ZR (Zd (pv 4))))),?_⟩
 exists Zu;intro D nD;have Y:=ZU nD (.lst []);have eD:=ZM (H:=H) (a:=D) (o:=.lst []);generalize upd H D (.lst [])=H1 at Y eD⊢;have I0:YU H H1 p l D g e [] [] 0:=⟨W.same Y,ZE.of Y,Y _ _ hl,eD,nD,lp,ZY hl nD,Ur W nD,.nil,rfl,λps h=>by simp at h,zY _⟩
 exists DU p l X e D g H,⟨_,[],[],0,none,rfl,rfl,I0,a3,zL _⟩;rintro m σ H2 ⟨pl,x,n,x6,rfl,rfl,r,v,a7⟩;exists _,rfl,_,rfl,l,g,rfl,.inl (ZG.of r.hl),_,_,rfl,rfl,_,rfl;rcases yA n g.length with F | F
 ·rw[aK (show (n:Int)<(g.length:Int) by lia)]
  refine Zw ⟨_,λ_ _ z=>z,?_⟩;have Z:∀{U:Z8}{B:Hp}(z:Int),YU H B p l D g e pl x n->1<=z->z<=4->NW e (min z.toNat (g.length-n))->(e=true->g.length-(n+z.toNat)≠1)->(∀ S H',(∃ m',m'<g.length-n/\DU p l X e D g H m' S H')->U.nx S H') ->
    t U [some (.ref p),some (.ref l),some (.int X),some (.bl e),some (.ref D),some (.int (n:Int)),some (.int z)] B:=fun{U B} z N z1 z4 G I a2=>by
   obtain⟨R,rfl⟩:∃ R:Nat,z=(R:Int):=⟨z.toNat,∅⟩
   rw[tE] at G I;exact hk U H B p l D g pl e X x n R N F J ∅ ∅ G λa6 M H' r'=>a2 _ _ ⟨g.length-(n+R),uG F ∅,a6,M,n+R,_,rfl,rfl,r',I,∅⟩
  exists _,rfl,Zu;intro q nq;have gq:=ZU nq (.lst [.int 4,.int 1,.int 2,.int 4]);have eq:=ZM (H:=H2) (a:=q) (o:=.lst [.int 4,.int 1,.int 2,.int 4]);have N:=YU.go r (ZE.of gq) (r.w.same gq);generalize upd H2 q (.lst [.int 4,.int 1,.int 2,.int 4])=B at gq eq N⊢;obtain⟨m1,a0,a9,c0⟩:=FE (q:=q) (a:=4) (b:=1) (c:=2) (d:=4) f0 f4 1 4 (by decide) (by decide) (by decide) (by decide)
  refine⟨_,rfl,.inl ⟨q,_,_,_,rfl,rfl,ZG.of eq,a0,p,m1,rfl,N.w,Xn ∅ ∅,λz1 H4 c3 c4 W4 s4=>⟨_,_,rfl,rfl,?_⟩⟩⟩
  have r4:=YU.go N s4 W4;exists _,rfl,_,rfl
  cases e with
  | false=>
   refine Zk (Z (1+z1) r4 ∅ ∅ ⟨KM (k:=1) ∅ (Nat.sub_pos_of_lt F),Ms (k:=4) ∅⟩ (λz=>by cases z) λ_ _ z=>z)
  | true=>
   have a8:=v rfl;have r2:(2:Int)<=((g.length:Nat):Int)-(n:Int):=∅
   have R2:2<=g.length-n:=∅
   refine Zw ⟨_,rfl,Zu,λq2 a4=>?_⟩;have j:=ZU a4 (.lst [.int 3,.int 1,.int 3,.int 2]);have C:=ZM (H:=H4) (a:=q2) (o:=.lst [.int 3,.int 1,.int 3,.int 2]);have r5:=YU.go r4 (ZE.of j) (r4.w.same j);generalize upd H4 q2 (.lst [.int 3,.int 1,.int 3,.int 2])=H5 at j C r5⊢;obtain⟨m2,a1,c1,c2⟩:=FE (q:=q2) (a:=3) (b:=1) (c:=3) (d:=2) f0 f4 1 3 (by decide) (by decide) (by decide) (by decide)
   refine⟨_,rfl,.inl ⟨q2,_,_,_,rfl,rfl,ZG.of C,a1,p,m2,rfl,r5.w,Xn ∅ ∅,λz2 H6 c5 c6 W6 s6=>⟨_,_,rfl,rfl,?_⟩⟩⟩
   have O:=YU.go r5 s6 W6;exists _,rfl,l,g,rfl,.inl (ZG.of O.hl),_,rfl,_,_,rfl,rfl,_,_,rfl;obtain⟨y,ey,y1,y2,y3⟩:∃ y:Int,(if ((g.length:Nat):Int)-(n:Int)<2+z2 then ((g.length:Nat):Int)-(n:Int) else 2+z2)=y/\2<=y/\y<=4/\y<=((g.length:Nat):Int)-(n:Int):=⟨_,rfl,ZPv r2 ∅,Bw ∅,ite_le'⟩
   rw[ey];exists _,rfl,l,g,rfl,.inl (ZG.of O.hl),_,rfl,_,_,rfl,rfl,_,rfl,_,_,rfl,rfl,rfl,_,rfl;by_cases hy:((g.length:Nat):Int)-(n:Int)-y=1
   ·rw[aK (congrArg V.int hy)];refine Zw ⟨_,rfl,_,_,rfl,rfl,_,rfl,_,_,rfl,rfl,Zu,λq3 a5=>?_⟩;have u:=ZU a5 (.lst [.int (y-1),.int (y+1)]);have i:=ZM (H:=H6) (a:=q3) (o:=.lst [.int (y-1),.int (y+1)]);have r7:=YU.go O (ZE.of u) (O.w.same u);generalize upd H6 q3 (.lst [.int (y-1),.int (y+1)])=H7 at u i r7⊢;refine⟨_,rfl,rfl,.inr ⟨_,rfl,?_⟩⟩;by_cases h2:y=2
    ·subst h2;refine .inl ⟨q3,_,_,.int (2+1),rfl,rfl,ZG.of i,rfl,?_⟩;exact Z (2+1) r7 ∅ ∅ ⟨KM (k:=2) (by decide) R2,Ms (k:=4) (by decide)⟩ (λ_=>K3 ∅ (by decide)) λ_ _ z=>z
    ·have ed:decide (V.int y=V.int 2)=false:=aJ λz=>h2 (ME z);rw[ed];refine .inl ⟨q3,_,_,.int (y-1),rfl,rfl,ZG.of i,rfl,?_⟩;exact Z (y-1) r7 ∅ ∅ ⟨KM (k:=2) ∅ R2,Ms (k:=4) ∅⟩ (λ_=>K3 ∅ ∅) λ_ _ z=>z
   ·rw[aJ (λz=>hy (ME z))];exact Zk (Z y O ∅ ∅ ⟨KM (k:=2) y1 R2,Ms (k:=4) y2⟩ (λ_=>K3 hy ∅) λ_ _ z=>z)
 ·rw[aJ (show ¬ (n:Int)<(g.length:Int) by lia)]
  have fl:=r.flat;rw[yV F] at fl;have:=r.few;exact Zk ⟨_,rfl,k D pl x H2 r.nD r.hD r.parts fl r.size ∅ r.w r.sx⟩
end
inductive UL(n:jf)(H:Hp)(Q:VK)(_:XK):Prop
 |mk(L i j l m:ak)(g h a b:jf)(c d:jw)(_:n=[.ref L])(_:H L=some (.lst [.ref i,.ref j]))(_:H i=some (.tup (.ref l::g)))(_:H j=some (.tup (.ref m::h)))(_:H l=some (.lst a))(_:H m=some (.lst b))(_:jY H (YH c) a)(_:jY H (YH d) b)(_:a.length<=100)(_:b.length<=100)(_:∀(D:ak)(k:jf)(e:Hp),ZC H e->H D=none->e D=some (.lst k)->jY e ((c++d).map (·.1)) k->Q (.ref D) e)
def ZO2:ZA zE7 zE7 (Zc II):=Zr
def Ac(X:Zf K "_law_known" "_law_known" II f fd):ZI P w K mg km ZZ 1 f fd zE7 UL:=by
 refine X.ko ZO2 λY A M s H vs Q E hr h=>?_;obtain⟨L,N,O,V,W,a1,a2,b,d,m,p,rfl,S,G,I,h1,h2,k1,k2,l1,l2,q⟩:=h;intro Xc;exists _,ZR (Zd (Wr [] [] rfl (X7 (Zx LY (Y9 K (YJ K (pv 0) ZJ) ZJ) (Y9 K (YJ K (pv 0) ZJ) ZJ))) (λ_ _ _ _ _=>VV) (λ_ _ _ _ _=>Y9 K (pv 0) ZJ) trivial));refine⟨_,rfl,.inl ⟨L,_,_,.ref N,rfl,rfl,ZG.of S,rfl,N,_,_,.ref V,rfl,rfl,Zh.of G,Xo (j:=0) rfl,?_⟩⟩;refine⟨_,rfl,.inl ⟨L,_,_,.ref O,rfl,rfl,ZG.of S,rfl,O,_,_,.ref W,rfl,rfl,Zh.of I,Xo (j:=0) rfl,?_⟩⟩;exists V,W,b,d,rfl,rfl,h1,h2,nn ∅
 intro c nc;have g:=ZU nc (.lst (b++d));have u:=ZM (H:=H) (a:=c) (o:=.lst (b++d));generalize upd H c (.lst (b++d))=x at g u⊢;have y:jY x (YH (m++p)) (b++d):=by
  rw[L0];exact(k1.sm g).append (k2.sm g)
 have lu:(b++d).length<=200:=by rw[zW];lia
 have U:(b++d).length=(m++p).length:=by have:=y.length;rw[<-this];exact zX _
 generalize b++d=r at u y lu U;generalize m++p=rs at y U q;refine⟨c,rfl,⟨r,ZG.of u⟩,Vc (n:=r.length) (λi z=>r[i]? = some z) (λD i t l=>ZC x l/\x D=none/\jY x ((rs.map (·.1)).take i) t) (Yq ∅)
  (λD i t l J e=>⟨r,r[i],ZG.of (e.1 _ _ u),by simp[J]⟩) (λD i t l z H4 J e T=>⟨T.1,T.2 r (ZG.of (e.1 _ _ u))⟩) (λD t l e=>⟨r,ZG.of (e.1 _ _ u),zY _⟩)
  (λD R=>⟨ZU R _,R,.nil⟩) (λD i t l z C a0 J hz e RR F=>?_) (λD t l C e=>?_)⟩
 ·obtain⟨v,B,k⟩:=e;obtain⟨a,vk,vv,er,rfl,ea,Z,e2⟩:=Q0 y hz;refine⟨_,rfl,a,_,_,vk,rfl,rfl,Zh.of (v _ _ ea),rfl,F _ l C ⟨WX v B,B,?_⟩⟩;rw[yM,zD,er];exact k.append (.cons Z .nil)
 ·obtain⟨v,B,k⟩:=e;rw[yV (by rw[zX];lia)] at k
  exact q D t l (g.trans v) (g.free B) C (k.sm v)
structure Ox(kh ki:ak)(H:Hp)(X:YL)(lk:ak)(c:Nat)(ls:jf)(r:jq):Prop where
 sh:Z1 kh ki H X lk c ls
 wf:WF X.ts
 low:∀ i,r=some i->i<X.ts.length/\(gd X.ts i).h<=60
 few:ls.length+(Z4 X.ts r).length<=900
structure P7(kh ki:ak)(H H':Hp)(X:YL)(lk:ak)(c:Nat)(ls:jf)(r:jq)(D:ak):Prop where
 fr:∀ b o,b≠lk->H b=some o->H' b=some o
 sh:Z1 kh ki H' X lk c (ls++iN (Z4 X.ts r))
 free:H D=none
 ne:D≠lk
def Ox.reach{H:Hp}{X:YL}{b:ak}{c:Nat}{e:jf}{r:jq}(h:Ox kh ki H X b c e r){Q:VK}{E:XK}(q:∀ (a:Hp) (D:ak) (d:jf),P7 kh ki H a X b c e r D->a D=some (.lst d)->Paired (RcAt (Pm H b D) a X.ts) (Z4 X.ts r) d->Q (.ref D) a):Z0 60 kh ki [.ref X.S,Zo (Zn r)] H Q E:=
 .mk X b c e r h.sh h.wf h.low h.few λa D d g i j k l m=>q a D d ⟨g,i,j,k⟩ l m
def P7.same{H g d:Hp}{X:YL}{i:ak}{c:Nat}{j:jf}{r:jq}{D a:ak}(h:P7 kh ki H g X i c j r D)(s:ZC g d)(n:g a=none):P7 kh ki H d X i c j r a:=by
 have k:a≠i:=λz=>by rw[z,h.sh.sh.looks] at n;cases n
 refine⟨λb o z e=>s _ _ (h.fr b o z e),h.sh.same s,?_,k⟩
 cases x:H a with
 | none=>rfl
 | some o=>rw[h.fr a o k x] at n;cases n
inductive Y2(kh ki:ak):Sp
 |mk{H:Hp}{Q:VK}{E:XK}(X:YL)(d:ak)(c:Nat)(e:jf)(r:jq):Ox kh ki H X d c e r->(∀(a:Hp)(D:ak)(b:jt),P7 kh ki H a X d c e r D->a D=some (.lst (b.map V.int))->b.Perm ((Z4 X.ts r).map λj:Nat=>(j:Int))->b.Pairwise (· <= ·)->Q (.ref D) a)->Y2 kh ki [.ref X.S,Zo (Zn r)] H Q E
def ZKl:ZA zEd zEd (Zc JL):=Zr
def ZIj(F:Zf K "twigs_of" "twigs_of" JL f fd)(T:YA mg)(O:Yu P w K mg km 65 "reached" zEd (UM (Z0 60 kh ki) kh CT)):ZI P w K mg km (XF P w) 66 f fd zEd (UM (Y2 kh ki) kh CT):=by
 refine F.okD ZKl (λvs H Q E h=>(by rcases h with h | h <;> cases h <;> rfl)) (λS A C s H vs Q E hr h=>?_)
 intro Xc;exists _,ZR (Zd (Z2 KN rfl T.sorted KI (ZX (Wr [] [] rfl (X7 (U4 VI O hr (Zl (pv 0) (pv 1)))) (λ_ _ _ _ _=>VV) (λ_ _ _ _ _=>Y9 K (pv 0) ZJ) trivial))));rcases h with ⟨X,lk,c,ls,r,R,q⟩ | ⟨R,hv,k⟩
 case inr=>exact⟨_,rfl,_,rfl,.inr (.mk R hv k)⟩
 refine⟨_,rfl,_,rfl,.inl (R.reach λG N g L d a=>?_)⟩;have lp:=Paired.length a;have Z:=R.few;refine⟨N,rfl,⟨g,ZG.of d⟩,Vc (n:=g.length) (λi z=>g[i]? = some z) (λD i l b=>ZC G b/\G D=none/\l=iN ((Z4 X.ts r).take i)) (Yq ∅)
  (λD i l b x a=>⟨g,g[i],ZG.of (a.1 _ _ d),by simp[x]⟩) (λD i l b z H4 x a I=>⟨I.1,I.2 g (ZG.of (a.1 _ _ d))⟩) (λD l b a=>⟨g,ZG.of (a.1 _ _ d),zY _⟩)
  (λD d=>⟨ZU d _,d,rfl⟩) (λD i l b z m a0 x hz e RR v=>?_) (λD l b m e=>?_)⟩
 ·obtain⟨u,o,rfl⟩:=e;obtain⟨y,Y,t,fv,rfl,W,_⟩:=Paired.ixR a hz;refine⟨_,rfl,t,_,_,.int (y:Int),rfl,rfl,Zh.of (u _ _ W),rfl,v _ b m ⟨WX u o,o,?_⟩⟩;rw[yM,Y];unfold iN;rw[zE];rfl
 ·obtain⟨u,o,rfl⟩:=e;rw[yV ∅] at m
  have U:iN (Z4 X.ts r)=((Z4 X.ts r).map λj:Nat=>(j:Int)).map V.int:=by
   unfold iN;rw[xO];rfl
  rw[U] at m;exists D,_,ZG.of m,by rw[zX];lia
  intro p B J hp hs;have M:=L.same u o;exact q _ p B (M.same (ZU J _) J) ZM hp hs
def VJ(a:jn)(j:Nat):Bool:=decide ((gd a j).h=0)
inductive Yo(kh ki:ak):Sp
 |mk{H:Hp}{Q:VK}{E:XK}(X:YL)(b:ak)(c:Nat)(d:jf)(r:jq):Ox kh ki H X b c d r->(∀(a:Hp)(D:ak),P7 kh ki H a X b c d r D->a D=some (.lst (iN ((Z4 X.ts r).filter (VJ X.ts))))->Q (.ref D) a)->Yo kh ki [.ref X.S,Zo (Zn r)] H Q E
def Bf:ZA zEd zEd (Zc Kx):=Zr
def BA(F:Zf K "leaves_of" "leaves_of" Kx f fd)(DI:ZB P w K mg km 1 "is_leaf" zE6 YD)(DR:Yu P w K mg km 65 "reached" zEd (UM (Z0 60 kh ki) kh CT)):ZI P w K mg km (XF P w) 66 f fd zEd (UM (Yo kh ki) kh CT):=by
 refine F.okD Bf (λvs H Q E h=>(by rcases h with h | h <;> cases h <;> rfl)) (λa0 A U s H vs Q E hr h=>?_)
 have S:=hr.to 1;intro Xc;exists _,ZR (Zd (Wr [] [] rfl (X7 (U4 VI DR hr (Zl (pv 0) (pv 1)))) (λ_ _ _ _ _=>NY (Y3 (Zg DI S (ZX (Y9 K (pv 0) ZJ))))) (λ_ _ _ _ _=>Y9 K (pv 0) ZJ) trivial));rcases h with ⟨X,lk,c,ls,r,R,q⟩ | ⟨R,hv,k⟩
 case inr=>exact⟨_,rfl,_,rfl,.inr (.mk R hv k)⟩
 refine⟨_,rfl,_,rfl,.inl (R.reach λI W m B1 v g=>?_)⟩;have lp:=Paired.length g;have a1:=R.few;have x:∀{j:Nat}{z:V},m[j]? = some z->∃ y t e,(Z4 X.ts r)[j]? = some y/\(Z4 X.ts r).getD j 0=y/\z=.ref t/\I t=some (.tup [.int (y:Int),e])/\YI (Pm H lk W) I (gd X.ts y) e:=λG=>by
  obtain⟨y,u,t,e,e1,C,J⟩:=Paired.ixR g G;exact⟨y,t,e,u,by rw[zT,u];rfl,e1,C,J⟩
 refine⟨W,rfl,⟨m,ZG.of v⟩,Ng (n:=m.length) (λi z=>m[i]? = some z) (λj=>VJ X.ts ((Z4 X.ts r).getD j 0)) (λD i o b=>ZC I b/\I D=none/\o=iN (((Z4 X.ts r).take i).filter (VJ X.ts))) (Yq ∅)
  (λD i o b Y g=>⟨m,m[i],ZG.of (g.1 _ _ v),by simp[Y]⟩) (λD i o b z H4 Y g hy=>⟨hy.1,hy.2 m (ZG.of (g.1 _ _ v))⟩) (λD o b g=>⟨m,ZG.of (g.1 _ _ v),zY _⟩)
  (λD v=>⟨ZU v _,v,rfl⟩) (λD j o b z p Z G a B N=>?_) (λD j o b z p Z G L a B N=>?_) (λD j o b p Z L a=>?_) (λD o b p a=>?_)⟩
 ·obtain⟨d,l,T⟩:=a;obtain⟨y,t,e,u,M,rfl,C,J⟩:=x G;exists _,rfl,t,_,_,e,rfl,rfl,Zh.of (d _ _ C),rfl,_,gd X.ts y,e,rfl,J.same d;have:=N b p ⟨d,l,T⟩;rw[M] at this;exact⟨_,rfl,this⟩
 ·obtain⟨d,l,rfl⟩:=a;obtain⟨y,t,e,u,M,rfl,C,J⟩:=x G;rw[M] at L;refine⟨_,rfl,t,_,_,.int (y:Int),rfl,rfl,Zh.of (d _ _ C),rfl,N _ b p ⟨WX d l,l,?_⟩⟩;rw[OB _ u,aO L];unfold iN;rw[zE];rfl
 ·obtain⟨d,l,T⟩:=a;have O:j<(Z4 X.ts r).length:=∅
  have u:(Z4 X.ts r)[j]? = some ((Z4 X.ts r).getD j 0):=by rw[zT,zU O];rfl
  exists d,l;rw[OB _ u,aM (by rw[L];exact zV),yS]
  exact T
 ·obtain⟨d,l,rfl⟩:=a;rw[yV ∅] at p
  exact q _ D (B1.same d l) p
def UE(a:jn):jq->Int
 | none=> -1
 | some i=>((gd a i).h:Nat)
inductive Yg(kh ki:ak):Sp
 |mk{H:Hp}{Q:VK}{E:XK}(X:YL)(a:ak)(c:Nat)(b:jf)(r:jq):Z1 kh ki H X a c b->(∀ i,r=some i->i<X.ts.length)->Q (.int (UE X.ts r)) H->Yg kh ki [.ref X.S,Zo (Zn r)] H Q E
def F1:ZA zEd zEd (Zc Lx):=Zr
def ZGl(F:Zf K "height_of" "height_of" Lx f fd)(T:YA mg)(L:Yh K mg kh ki)(k:ZL P w K mg km ZZ 2 kh "label" zEa (WH kh ki)):ZI P w K mg km ZZ 3 f fd zEd (Yg kh ki):=by
 refine F.ok F1 (λC H Q E h=>(by cases h;rfl)) (λl A g s H C Q E p h=>?_)
 obtain⟨X,u,c,x,r,R,b,q⟩:=h;obtain⟨J,y⟩:=T.height;intro D;refine⟨_,ZN (Zv (WA (Lo (pv 1))) (ZR (Zd (Q3 Qz ZJ))) Zy)
  (ZR (Zd (Y9 K (XQ (E:=E0) (pv 0) L.cS k p XJ (ZX (pv 1))) (WP (v:=.int 0) rfl y ⟨_,rfl⟩)))),?_⟩
 cases r with
 | none=>exact⟨_,rfl,_,rfl,Zw ⟨_,rfl,q⟩⟩
 | some i=>
  have j:=b i rfl;obtain⟨m,o⟩:=R.sh.self;obtain⟨a,B,z,n,t,G,I⟩:=(R.tw i j).tag;have e:V.ref (X.as.getD i .d).tg=.ref a:=n;refine⟨_,rfl,_,rfl,Zk ⟨_,rfl,X.S,m,_,rfl,o,rfl,_,rfl,X,u,c,x,i,rfl,R,j,?_⟩⟩;rw[e];exact⟨_,_,_,_,rfl,rfl,Zh.of t,rfl,q⟩
def Vv(a:jn)(l:jm):jw:=(l.filter (VJ a)).flatMap λj=>(gd a j).rows
def Dm(a:jn)(l:jm)(y:Nat):Vv a (l++[y])=Vv a l++if VJ a y then (gd a y).rows else []:=by
 unfold Vv;rw[vY,xT]
 congr 1
 cases h:VJ a y <;> simp[h]
def Cy{n:Nat}(h:n<=4000):n<=sizeLine:=zS h (by decide)
inductive Xb(kh ki:ak):Sp
 |mk{H:Hp}{Q:VK}{E:XK}(X:YL)(b:ak)(c:Nat)(d:jf)(r:jq):Ox kh ki H X b c d r->(∀ j∈Z4 X.ts r,j<X.ts.length)->(∀(a:Hp)(D:ak)(e:jf),P7 kh ki H a X b c d r D->a D=some (.lst e)->jY a (YH (Vv X.ts (Z4 X.ts r))) e->Q (.ref D) a)->Xb kh ki [.ref X.S,Zo (Zn r)] H Q E
abbrev ZOq:jr:=["shelf","root","rows","twig"]
def Ve:ZA ZOq zEd (Zc HB):=Zr
inductive FM(X:YL)(r:jq)(D:ak)(c:Hp)(j:Nat)(d:L2.St)(a:Hp):Prop
 |mk(b:jf)(e:jg):d=[some (.ref X.S),some (Zo (Zn r)),some (.ref D),e]->a D=some (.lst b)->jY a (YH (Vv X.ts ((Z4 X.ts r).take j))) b->b.length<=4 * j->ZE D c a->FM X r D c j d a
def ZJn(F:Zf K "rows_of" "rows_of" HB f fd)(DI:ZB P w K mg km 1 "is_leaf" zE6 YD)(DR:Yu P w K mg km 65 "reached" zEd (UM (Z0 60 kh ki) kh CT)):ZI P w K mg km (XF P w) 66 f fd zEd (UM (Xb kh ki) kh CT):=by
 refine F.okD Ve (λvs H Q E h=>(by rcases h with h | h <;> cases h <;> rfl)) (λa2 A a1 s H vs Q E hr h=>?_)
 have nd:=Ve.nd;have Z:=hr.to 1;intro Xc;refine⟨_,ZN (Zi 2 nd (YG Zj))
  (ZN (Vo K5 rfl (X7 (U4 VI DR hr (Zl (pv 0) (pv 1)))) (Xe 3 nd)
   (ZR (Zv (Y3 (Zg DI Z (ZX (Y9 K (pv 3) ZJ))))
    (ZR (Xl (VM yK uZ uY Jn (pv 2) (ZX (Y9 K (Y9 K (pv 3) ZJ) ZJ))))) Zy)))
  (ZR (Zd (pv 2)))),?_⟩
 exists Zu;intro D i;have I:=ZU i (.lst []);rcases h with ⟨X,lk,c,ls,r,R,a0,q⟩ | ⟨R,hv,k⟩
 case inr=>exact⟨_,rfl,_,rfl,.inr (.mk (R.same I) hv (k.mono I))⟩
 have T:=ZM (H:=H) (a:=D) (o:=.lst []);generalize upd H D (.lst [])=H1 at I T⊢;have R1:Ox kh ki H1 X lk c ls r:=⟨R.sh.same I,R.wf,R.low,R.few⟩;refine⟨_,rfl,_,rfl,.inl (R1.reach λS O us N J U=>?_)⟩;have lp:=Paired.length U;have a3:=R.few;have m:D≠lk:=(ZY R.sh.sh.looks i).symm;have v:=N.fr D _ m T;have W:O≠D:=λz=>by have:=N.free;rw[z,T] at this;cases this
 refine⟨O,rfl,⟨us,ZG.of J⟩,Pp (K:=K) (a:=O) (xs:=us) (FM X r D S) ⟨[],_,rfl,v,.nil,zL _,λb o e _=>e⟩ (λj σ H' _ U=>by obtain⟨_,_,_,_,_,_,h⟩:=U;exact ZG.of (h _ _ J W)) ?_ ?_⟩
 ·rintro j u σ n hu ⟨C,x3,rfl,d,g,l4,l⟩;obtain⟨y,ey,t,fv,rfl,et,FA⟩:=Paired.ixR U hu;have hj:j<us.length:=(yT.mp hu).1;have M:Z3 S n:=λb xs e=>l _ _ e (ZV e v);have L:=a0 y (zK ey);have ok:=R.wf y _ (YZ L);have fD:∀ b o,¬ (Pm H1 lk O) b->S b=some o->n b=some o:=λb o z e=>l b o e λx=>z (.inr (.inl (by rw[x,T];intro x;cases x)))
  have F4:=FA.off fD M;have G:(Z4 X.ts r).take (j+1)=(Z4 X.ts r).take j++[y]:=by rw[yM,ey];rfl
  exists _,rfl,t,_,_,fv,rfl,rfl,Zh.of (M _ _ et),rfl,_,gd X.ts y,fv,rfl,F4,_,rfl;obtain⟨tq,lq,V,rfl,e4,e5,a5,e6,e7⟩:=F4;by_cases B:(gd X.ts y).h=0
  ·rw[aK B];have kq:=e6 B;have lv:V.length=(gd X.ts y).rows.length:=by have:=kq.length;rw[<-this];exact zX _
   have a4:=(ok.leaf B).2;refine Zw ⟨_,rfl,.inl ⟨rfl,_,ZG.of d⟩,_,rfl,t,_,_,.ref tq,rfl,rfl,Zh.of (M _ _ et),rfl,tq,_,_,.ref lq,rfl,rfl,Zh.of e4,rfl,D,lq,C,V,rfl,rfl,d,e5,Cy ∅,?_⟩
   have t5:Z3 n (upd n D (.lst (C++V))):=λb xs e=>by rw[ZS (ZV e d)];exact e
   refine⟨C++V,_,rfl,ZM,?_,by rw[zW];lia,λb o e z=>by rw[ZS z];exact l b o e z⟩
   rw[G,Dm,aO (show VJ X.ts y=true from aK B),L0];exact(g.mono t5 _ _).append (kq.mono t5 _ _)
  ·rw[aJ B];refine Zk ⟨C,_,rfl,d,?_,∅,l⟩
   rw[G,Dm,aM (by unfold VJ;rw[aJ B];exact zV),yS]
   exact g
 ·rintro σ n ⟨C,x3,rfl,d,g,l4,l⟩;rw[yV ∅] at g
  refine⟨_,rfl,q n D C ⟨λb o z e=>l _ _ (N.fr b o z (I _ _ e)) (ZY e i),?_,i,m⟩ d g⟩;have M:Z3 S n:=λb xs e=>l _ _ e (ZV e v);obtain⟨⟨dS,hS⟩,Y,_⟩:=id R.sh.sh;refine N.sh.but (p:=D) l (λz=>?_) (λy L=>?_) M
  ·rcases z with z | z | z
   ·exact ZY hS i z.symm
   ·exact ZY Y i z.symm
   ·exact m z
  ·obtain⟨dx,hx⟩:=(R.sh.tw y L).tw.self;obtain⟨vs,e1,_⟩:=(R.sh.tw y L).things;exact⟨ZY hx i,ZY (R.sh.tw y L).tw.above i,ZY e1 i⟩
section
variable{ts:jn}
def Nw(e:WF ts):∀(n i:Nat),i<ts.length->(gd ts i).h=n->∀ j∈YS ts n i,j<ts.length/\j<=i
 | 0,i,a,_,j,c=>by
  have:j=i:=by simpa [YS] using c
  subst this;exact⟨a,zY _⟩
 | n+1,i,a,m,j,c=>by
  have g:=(e i _ (YZ a)).stem ∅
  rw[YS] at c;rcases zF.mp c with z | z
  ·subst z;exact⟨a,zY _⟩
  ·obtain⟨b,f,d⟩:=wZ.mp z;obtain⟨k,l⟩:=g.2.2.1 b f;have:=Nw e n b ∅ ∅ j d
   lia
def B4(l:jm)(g:Nat->jm):Vv ts (l.flatMap g)=l.flatMap λb=>Vv ts (g b):=by
 induction l with
 | nil=>rfl
 | cons a l c=>
  rw[yN,yN,<-c];unfold Vv;rw[vY,xT]
def Io(f:WF ts):∀(n i:Nat),i<ts.length->(gd ts i).h=n->Vv ts (YS ts n i)=(gd ts i).rows
 | 0,i,a,c=>by
  unfold Vv;rw[YS,vR,aO (show VJ ts i=true from aK c)];simp
 | n+1,i,a,c=>by
  have d:=(f i _ (YZ a)).stem ∅
  have e:Vv ts (YS ts (n+1) i)=Vv ts ((gd ts i).bs.flatMap (YS ts n)):=by
   unfold Vv;rw[YS,vR,aM (by unfold VJ;rw[aJ ∅];exact zV)]
  rw[e,B4,d.2.2.2,wM,wM]
  congr 1
  refine uC λb g=>?_;obtain⟨j,k⟩:=d.2.2.1 b g;exact Io f n b ∅ ∅
end
def Fj{c e f:Type}{g:c->List e}{r:c->List f}:∀{l:List c},(∀ b∈l,(g b).length+1<=2 * (r b).length)->(l.flatMap g).length+l.length<=2 * (l.flatMap r).length
 | [],_=>zY _
 | a::l,h=>by
  have i:=h a (zC ..);have j:=Fj λb d=>h b (zI _ d);rw[yN,yN,zW,zW,zJ]
  lia
section
variable{ts:jn}
def EZ(d:WF ts):∀(n i:Nat),i<ts.length->(gd ts i).h=n->(YS ts n i).length+1<=2 * (gd ts i).rows.length
 | 0,i,a,_=>by
  have:=uE.mpr (d i _ (YZ a)).ne;show 1+1<=_
  lia
 | n+1,i,a,k=>by
  have c:=(d i _ (YZ a)).stem ∅
  have e:=Fj (g:=YS ts n) (r:=λb=>(gd ts b).rows) λb f=>by
   have:=c.2.2.1 b f;exact EZ d n b ∅ ∅
  have j:=c.1;rw[<-c.2.2.2] at e;rw[YS,zJ]
  lia
def HR(k:WF ts):∀(n i:Nat),i<ts.length->(gd ts i).h=n->∀ j∈YS ts n i,∀ r∈(gd ts j).rows,r∈(gd ts i).rows
 | 0,i,f,_,j,a,r,c=>by
  have:j=i:=by simpa [YS] using a
  subst this;exact c
 | n+1,i,f,l,j,a,r,c=>by
  have g:=(k i _ (YZ f)).stem ∅
  rw[YS] at a;rcases zF.mp a with z | z
  ·subst z;exact c
  ·obtain⟨b,e,d⟩:=wZ.mp z;have:=g.2.2.1 b e;rw[g.2.2.2];exact wZ.mpr ⟨b,e,HR k n b ∅ ∅ j d r c⟩
def G7(e:WF ts):∀(n i:Nat),i<ts.length->(gd ts i).h=n->(YS ts n i).Nodup
 | 0,i,j,_=>xJ.mpr ⟨wY,.nil⟩
 | n+1,i,j,u=>by
  have o:=e i _ (YZ j);have k:=o.stem ∅
  have d:∀ b∈(gd ts i).bs,b<ts.length/\b<i/\(gd ts b).h=n:=λb c=>by
   have:=k.2.2.1 b c
   lia
  have p:=o.up;rw[k.2.2.2,rZ,sR] at p;rw[YS];refine xJ.mpr ⟨λz=>?_,sR.mpr ⟨λb c=>G7 e n b (d b c).1 (d b c).2.2,p.2.imp_of_mem fun{a b} f c h x l y t z=>?_⟩⟩
  ·obtain⟨b,c,s⟩:=wZ.mp z;have:=(Nw e n b (d b c).1 (d b c).2.2 i s).2;have:=(d b c).2.1
   lia
  ·subst z;have g:=(Nw e n a (d a f).1 (d a f).2.2 x l).1;obtain⟨r,v,q⟩:=pP (e x _ (YZ g)).ne;have m:r∈(gd ts x).rows:=by rw[q];exact zC ..
   have:=h _ (zM.mpr ⟨r,HR e n a (d a f).1 (d a f).2.2 x l r m,rfl⟩) _ (zM.mpr ⟨r,HR e n b (d b c).1 (d b c).2.2 x t r m,rfl⟩);rw[PR] at this;cases this
def Ef{F:jm}(a:∀ j∈F,∀ b∈(gd ts j).bs,b∈F):∀(n i:Nat),i∈F->∀ j∈YS ts n i,j∈F
 | 0,i,c,j,d=>by
  have:j=i:=by simpa [YS] using d
  subst this;exact c
 | n+1,i,c,j,d=>by
  rw[YS] at d;rcases zF.mp d with z | z
  ·subst z;exact c
  ·obtain⟨b,f,e⟩:=wZ.mp z;exact Ef a n b (a i c b f) j e
def HA(g:WF ts){j:Nat}(e:j<ts.length)(c:(gd ts j).h≠0):Z4 ts (some j)=j::(gd ts j).bs.flatMap λb=>Z4 ts (some b):=by
 have f:=(g j _ (YZ e)).stem c;obtain⟨m,a⟩:∃ m,(gd ts j).h=m+1:=⟨(gd ts j).h-1,∅⟩
 show YS ts (gd ts j).h j=_;rw[a,YS,wM,wM]
 congr 2
 refine uC λb d=>?_;show _=YS ts (gd ts b).h b;rw[show (gd ts b).h=m by have:=(f.2.2.1 b d).2;lia]
def G2{j:Nat}(a:(gd ts j).h=0):Z4 ts (some j)=[j]:=by
 show YS ts (gd ts j).h j=_;rw[a];rfl
def ZO6(b:WF ts){a:jq}(h:∀ i,a=some i->i<ts.length):(Z4 ts a).Nodup:=by
 cases a with
 | none=>exact .nil
 | some i=>exact G7 b _ i (h i rfl) rfl
def Lz(c:WF ts){a:jq}(h:∀ i,a=some i->i<ts.length/\(gd ts i).rows.length<=60):(Z4 ts a).length<=119:=by
 cases a with
 | none=>exact zL _
 | some i=>
  obtain⟨b,d⟩:=h i rfl;have:=EZ c _ i b rfl;show (YS ts (gd ts i).h i).length<=119
  lia
def Ev{F:jm}(a:∀ j∈F,∀ b∈(gd ts j).bs,b∈F){rn:jq}(h:∀ i,rn=some i->i∈F):∀ j∈Z4 ts rn,j∈F:=by
 cases rn with
 | none=>intro j c;cases c
 | some i=>exact Ef a _ i (h i rfl)
def FT(d:WF ts)(k:KT):∀(n i:Nat),i<ts.length->(gd ts i).h=n->((VP ts k n i).map (·.1)).Nodup/\∀ j∈(VP ts k n i).map (·.1),j<=i/\j∈YS ts n i
 | 0,i,c,_=>by
  rw[VP,YS];exact⟨xJ.mpr ⟨wY,.nil⟩,λj a=>by rw[zB.mp a];exact⟨zY _,zB.mpr rfl⟩⟩
 | n+1,i,c,m=>by
  obtain⟨o,p,g⟩:=Ou d c ∅ k
  obtain⟨e,b⟩:=FT d k n (Wn ts k i) ∅ ∅
  rw[VP,YS,yR];refine⟨xJ.mpr ⟨λz=>?_,e⟩,λj a=>?_⟩
  ·have:=(b _ z).1
   lia
  ·rcases zF.mp a with z | z
   ·subst z;exact⟨zY _,zC ..⟩
   ·obtain⟨l,f⟩:=b j z;exact⟨∅,zI _ (wZ.mpr ⟨_,zK g,f⟩)⟩
def B8(e:WF ts)(k:KT){a:jq}(h:∀ i,a=some i->i<ts.length):((WO ts k a).map (·.1)).Nodup/\∀ j∈(WO ts k a).map (·.1),j∈Z4 ts a:=by
 cases a with
 | none=>exact⟨.nil,λj b=>by cases b⟩
 | some i=>
  obtain⟨c,d⟩:=FT e k _ i (h i rfl) rfl;exact⟨c,λj b=>(d j b).2⟩
def Cm(c:WF ts){b:Nat}(d:b<ts.length):∃ l f,(Z4 ts (some b)).filter (VJ ts)=l::f/\(gd ts l).h=0/\l∈Z4 ts (some b)/\((gd ts l).rows.getD 0 rd).1=(YK (gd ts b)).lo:=by
 have e:=Io c _ b d rfl;have n:=(c b _ (YZ d)).ne
 cases a:(YS ts (gd ts b).h b).filter (VJ ts) with
 | nil=>
  unfold Vv at e;rw[a] at e;exact absurd e.symm n
 | cons l f=>
  have m:l∈(YS ts (gd ts b).h b).filter (VJ ts):=by rw[a];exact zC ..
  obtain⟨g,k⟩:=wB.mp m;have i:=(Nw c _ b d rfl l g).1;exists l,f,a,of_decide_eq_true k,g;unfold Vv at e;rw[a,yN] at e;show _=((gd ts b).rows.getD 0 rd).1;rw[<-e]
  cases j:(gd ts l).rows with
  | nil=>exact absurd j (c l _ (YZ i)).ne
  | cons r o=>rfl
end
end Tw
namespace L2
open PySem PySem.Spec PyProof.Rows
def ZRp(K:zZ)(b:ak)(e:Sp)(t:TA)(i:Nat)(f:TS):TS:=λD a H=>t a H λg c=>e (g++[]) c (λ_ d=>D.nx a d) (Fn K b i f D a)
def ZOR{X:Cx}{k:Nat}{f CB:ak}{fd:ao}{ps:jr}{sp:Sp}{x y n:Str}{p l P py ph pos:Pos}{e:Expr}{es:jB}{t:TA}{i:Nat}{j:aD}{b:jF}{ts:TS}(F:ZI X.prog X.w X.K X.mg X.base (XF X.prog X.w) k f fd ps sp)(hr:ZT k X.A)(hg:Gl X x)(hm:X.mg x=some (.ref f))(hk:yL X.K (.ref f)=true)(hb:Zt X.K fd ps [])(ha:∀ E',PA (X.wish E') (e::es) t)(a2:X.stack=X.env::X.outer)(c1:X.env.frame=some X.env.locals)(c0:X.ex=[])(hy:Gl X y)(c5:X.mg y=some (.ref CB))(hN:X.N.Nodup)(hi:X.N[i]? = some n)(hn:X.env.scope.names.lookup n=some .local)(ht:xN X.K (.ref CB)=some (.type "type"))(hB:yI X.K CB (.type "BaseException")=some true)(hs:∀ g E',Xh (X.held g E') (j::b) ts)(a8:(x==("__debug__" : Str))=false:=by decide)(a9:(y==("__debug__" : Str))=false:=by decide)(he:aw (e::es) X.env=(false,aH e X.env)::aw es X.env:=by rfl)(c3:(aG l (aw es X.env)).any (·.1)=false:=by rfl)(c4:swapsWith (.Call (.Name x p) (e::es) [] l) none P.line X.env=pure false:=by rfl):
  PS X (.Try [.Expr (.Call (.Name x p) (e::es) [] l) P] [.ExceptHandler (some (.Name y py)) (some n) (j::b) ph] [] [] pos) (ZRp X.K CB sp t i ts):=by
 intro a s σ H D I h;refine wpAny_Try_except ?_;have c2:X.A.frames=some (X.env::X.outer):=by rw[I.ok.frames,a2]
 have V:∀(H1:Hp)(Z:al)(G:aj)(E:al),ZF X a σ H1 Z->XF X.prog X.w X.stack H1 Z (Fn X.K CB i ts D σ) G E ->
   aC (aB X.prog X.w) X.A (noteFrame G X.env) (λ_ L=>aC (aB X.prog X.w) X.A (setFlight G none) (λ_ M=>aC (aB X.prog X.w) X.A (handleBy G X.env [.ExceptHandler (some (.Name y py)) (some n) (j::b) ph]) (SP X a D) X.xe M) X.xe L) X.xe E:=by
  intro H1 Z G E d hx;obtain⟨g,cls,od,H',rfl,W,C,rfl,mC,q⟩:=hx;obtain⟨B,fl,inT,a4,a3⟩:=W.ex;have a7:Vq B (X.env::X.outer) g (.ref C) od .none E.heap:=by rw[<-a2];exact fl
  refine GC c2 c1 a7 λh4 U a5=>?_;refine LM (s:={ E with heap:=h4 }) U λh5 T a6=>?_;have J5:ZF X a σ H' { E with heap:=h5 }:=D9 d W inT a4 a3 T.1 (a5.trans a6);refine wpAny_handleBy_cons (codeAny_handlers_test ?_) (by intro q;cases q)
  refine P5 (J5.held g (λ_ _=>False)) hy c5 ?_ a9;refine ZGz (s:={ E with heap:=h5 }) J5.kIn T.at.is ht hB mC ?_;refine codeAny_handlers_suite_as ?_;refine LM (s:={ E with heap:=h5 }) T λh6 a1 c6=>?_;have J6:ZF X a σ H' { E with heap:=h6 }:=D9 d W inT a4 a3 a1.1 ((a5.trans a6).trans c6);have n0:X.s₀.heap.get? g=none:=by
   cases z:X.s₀.heap.get? g with
   | none=>rfl
   | some o=>
    obtain⟨o',q'⟩:=d.base.there g o z (by rw[c0];simp)
    rw[W.new] at q';cases q'
  have n1:g≠X.env.locals:=λz=>by
   obtain⟨m,⟨o,_,_,O,_⟩,_⟩:=d.loc;rw[<-z,W.new] at O;cases O
  have n2:∀ x c,X.env.cells.lookup x=some c->c≠g:=λx c e z=>by
   obtain⟨v,o,O,_⟩:=d.cell x c e;rw[z,W.new] at O;cases O
  have n3:∀ p∈X.pn++a,p.1≠g:=λp hp z=>by
   have O:=(d.pin p hp).1;rw[z,W.new] at O;cases O
  have K6:ZF X a σ (upd H' g (XO UR g C od)) { E with heap:=h6 }:=J6.track n0 n1 n2 n3 W.free (Jw a1.at);refine HC K6 hN hi (.inl hn) (v:=.ref g) rfl (λs7 I7=>?_) (.inr hn);refine ae (hs g _ a s7 _ _ _ (I7.held g _) (q g W.free)) (λfl s8 h8=>?_) λ_ _ z=>z
  cases fl with
  | next=>
   obtain⟨a0,Q,S,Y⟩:=h8;exact(S.unheld d.ok).goes hN hi hn λs9 R=>⟨_,Q,R,Y⟩
  | brk=>
   obtain⟨a0,Q,S,Y⟩:=h8;exact(S.unheld d.ok).goes hN hi hn λs9 R=>⟨_,Q,R,Y⟩
  | cont=>
   obtain⟨a0,Q,S,Y⟩:=h8;exact(S.unheld d.ok).goes hN hi hn λs9 R=>⟨_,Q,R,Y⟩
  | ret u=>
   obtain⟨v8,a0,Q,S,r8,Y⟩:=h8;exact(S.unheld d.ok).goes hN hi hn λs9 R=>⟨v8,_,Q,R,r8,Y⟩
 refine wpAny_execs_cons (wpAny_Expr_any ?_ I.quiet c4);have I':=I.wish (λG E=>aC (aB X.prog X.w) X.A (noteFrame G X.env) (λ_ L=>aC (aB X.prog X.w) X.A (setFlight G none) (λ_ M=>aC (aB X.prog X.w) X.A (handleBy G X.env [.ExceptHandler (some (.Name y py)) (some n) (j::b) ph]) (SP X a D) X.xe M) X.xe L) X.xe E);refine ag (P5 I hg hm ?_ a8);refine uF (h₀:=X.base) I.ok.mod.kin hk (Z7 (ha _ l a s σ H _ I' h) λus Z vs H1 d r q=>⟨d.kIn,?_⟩) he c3;have r2:ZO (vs++[]) (us++[]):=r.append .nil;have hl:(us++[]).length=ps.length:=by rw[<-r2.length];exact F.len _ _ _ _ q
 refine wpAny_call (codeAny_mono (F.run X.A X.stack Z H1 ⟨us,[]⟩ (us++[]) (vs++[]) _ _ hr d.env0 (hb Z us d.kIn hl) r2 q) λrr E hq=>?_)
 cases rr with
 | error G=>exact V H1 Z G E d.unwish hq
 | ok fl=>
  cases fl with
  | ret u=>
   obtain⟨v,H2,J,rv,q2⟩:=d.unwish.after hq;exact wpAny_execs_nil (wpAny_execs_nil ⟨σ,H2,J,q2⟩)
  | next=>exact False.elim hq
  | brk=>exact False.elim hq
  | cont=>exact False.elim hq
def ZMu(G:X.A.units<cLine):Yd X (aA .Eq) (λx y H Q=>∃(p b:ak)(a d:List Bool),x=.ref p/\y=.ref b/\ZG X.K H p (a.map V.bl)/\ZG X.K H b (d.map V.bl)/\a.length=d.length/\Q (.bl ((yX a.length).all λj=>a.getD j false==d.getD j false)) H):=by
 intro m s σ H x y v u Q I T U h;obtain⟨p,b,a,d,rfl,rfl,D,E,W,q⟩:=h;cases T;cases U;obtain⟨f,n,R,Y⟩:=I.list D;obtain⟨c,o,S,Z⟩:=I.list E;have N:=n.length;have O:=o.length;rw[zX] at N O;have P:f.toArray.size=a.length:=by simp;lia
 refine PySem.SeqAt.eq_listAt (e:=λj=>a.getD j false==d.getD j false) R.isList S.isList (by simp;lia) G (λj B C=>?_) (Yt I q (by rw[P]))
 have F:j<a.length:=∅
 have g:j<d.length:=∅
 have J:(a.map V.bl)[j]? = some (.bl (a.getD j false)):=by rw[zD,zT,zU F];rfl
 have i:(d.map V.bl)[j]? = some (.bl (d.getD j false)):=by rw[zD,zT,zU g];rfl
 obtain⟨k,w,r⟩:=n.get J;obtain⟨l,z,t⟩:=o.get i;have L:f.toArray[j]=k:=by
  have:f.toArray[j]? = some k:=by simpa using w
  rw[xV B] at this;exact zG.inj this
 have M:c.toArray[j]=l:=by
  have:c.toArray[j]? = some l:=by simpa using z
  rw[xV C] at this;exact zG.inj this
 rw[L,M];obtain rfl:k=.bool _:=r;obtain rfl:l=.bool _:=t;exact PySem.SeqAt.EqAt.bool_bool _ _
def NV:V->Bool
 | .int _=>true
 | .str _=>true
 | .bl _=>true
 | _=>false
def ZJ2{A:ay}{s:al}{v:V}{a b:aj}(h:NV v=true)(c:ZQ v a)(d:ZQ v b):PySem.SeqAt.EqAt A s a b true:=by
 cases v with
 | int i=>
  obtain⟨e,rfl⟩:=c;obtain⟨f,rfl⟩:=d;have:=PySem.SeqAt.EqAt.int_int (A:=A) (s:=s) i e i f
  rwa [show (i==i)=true by simp] at this
 | str x=>
  obtain⟨e,rfl⟩:=c;obtain⟨f,rfl⟩:=d;have:=PySem.SeqAt.EqAt.str_str (A:=A) (s:=s) x e x f
  rwa [show (x==x)=true by simp] at this
 | bl x=>
  obtain rfl:a=.bool x:=c;obtain rfl:b=.bool x:=d;exact PySem.SeqAt.EqAt.same _
 | _=>cases h
def ZLa{kj:js}{σ:St}{H:Hp}{s:al}{c:jf}{b a:je}(p:∀ v∈c,NV v=true)(g:ZO c b)(t:ZO c a)(j:Nat)(d:j<b.toArray.size)(o:j<a.toArray.size):PySem.SeqAt.EqAt X.A.in1 s b.toArray[j] a.toArray[j] true:=by
 have u:=g.length;have e:j<c.length:=by simp at d;lia
 have f:c[j]? = some c[j]:=zU e;obtain⟨h,m,k⟩:=g.get f;obtain⟨i,n,l⟩:=t.get f;have q:b.toArray[j]=h:=by
  have:b.toArray[j]? = some h:=by simpa using m
  rw[xV d] at this;exact zG.inj this
 have r:a.toArray[j]=i:=by
  have:a.toArray[j]? = some i:=by simpa using n
  rw[xV o] at this;exact zG.inj this
 rw[q,r];exact ZJ2 (p _ (xL e)) k l
inductive Nl(K:zZ)(b:Bool)(x y:V)(H:Hp)(Q:VK):Prop
 |mk(p q:ak)(a:jf)(_:x=.ref p)(_:y=.ref q)(_:Zh K H p a)(_:Zh K H q a)(_:∀ v∈a,NV v=true)(_:Q (.bl b) H)
def GX(n:X.A.units<cLine):Yd X (aA .NotEq) (Nl X.K false):=by
 intro a s C H x y v u Q I z B h;obtain⟨p,b,F,rfl,rfl,k,l,m,q⟩:=h;cases z;cases B;obtain⟨o,d,r,G⟩:=I.tuple k;obtain⟨c,f,t,J⟩:=I.tuple l;have D:=d.length;have E:=f.length;exact PySem.SeqAt.RcNeAt.tuples (e:=λ_=>true) r t n (λj g i=>ZLa (X:=X) (kj:=a) (σ:=C) (H:=H) m d f j g i) X.prog X.w X.xe _ (Yt I q (by simp;lia))
end L2
namespace Tw
open PySem PySem.Spec L2 PyProof.Rows
variable{kh ki CS CT CH CK CP CB:ak}
inductive VF(d:zZ)(x y:V)(H:Hp)(Q:VK):Prop
 |mk(p:ak)(c:jf)(a:jp)(k:KT)(_:y=.ref p)(_:ZG d H p c)(_:jY H a c)(_:ZD H k x)(_:∀ t∈a,t.fits 3=true)(_:∀ b,Q (.bl b) H)
def Bo{D:Nat}(C:ZT D X.A):Yd X (aA .NotIn) (VF X.K):=by
 intro l s V H x y v u Q I L M h;obtain⟨p,m,S,k,rfl,B,E,G,z,q⟩:=h;cases M;obtain⟨a,r,J,P⟩:=I.list B;have U:=C.un;have w:∀ y,y∈a.toArray->∃ b,PySem.SeqAt.EqAt X.A.in1 s y v b:=λy c=>by
  have d:y∈a:=by simpa using c
  obtain⟨j,g⟩:=tS d;have R:=r.length;have O:=(yT.mp g).1;have i:m[j]? = some (m[j]'∅):=zU ∅
  obtain⟨T,e,n⟩:=r.get i;rw[g] at e;cases e;obtain⟨t,o,F⟩:=E.get i;have N:=Um t 3 (z t (zK o));exact⟨_,OV t.depth t k X.A.in1 y v (zY _) (Vt I _ _ _ F n) (Vt I _ _ _ G L) (by show X.A.units+1+_<_;lia)⟩
 refine PySem.SeqAt.notIn_listAt (λy=>@ite _ (PySem.SeqAt.EqAt X.A.in1 s y v true) (Classical.propDecidable _) true false) J.isList (λy c=>?_) ⟨.bl _,H,I,rfl,q _⟩;obtain⟨b,f⟩:=w y c;by_cases h:PySem.SeqAt.EqAt X.A.in1 s y v true
 ·rw[aO h];exact h
 ·rw[aM h]
  cases b with
  | true=>exact absurd f h
  | false=>exact f
inductive WK(i:jf)(H:Hp)(Q:VK)(_:XK):Prop
 |mk(p d:ak)(g:jf)(h:jp)(_:i=[.ref p,.ref d])(_:ZH H p)(_:H d=some (.lst g))(_:jY H h g)(_:∀ t∈h,t.fits 3=true)(_:d≠p)(_:g.length<=300)(_:∀(v:V)(t:KT)(a:jf)(e:jp)(c:Hp),ZD c t v->t.fits 3=true->c d=some (.lst a)->jY c e a->(∀ t∈e,t.fits 3=true)->a.length<=g.length+1->ZH c p->(∀ b o,b≠p->b≠d->H b=some o->c b=some o)->Q v c)
def Vi:ZA ["_law_well_here","_law_known_here","_law_spot"] zEo (Zc ID):=Zr
def ZLA(F0:Zf K "_law_any_key" "_law_any_key" ID f fd)(T:YA mg)(DP:ZB P w K mg km 1 "_law_pull" zEb Zs)(DK:ZB P w K mg km 6 "_law_key" zEe (XE 4)):ZI P w K mg km ZZ 7 f fd zEo WK:=by
 refine F0.ko Vi λa9 A a6 s H vs Q E hr h=>?_;obtain⟨p,k,u,U,rfl,W,hk,kk,I,N,a8,q⟩:=h;have nd:=Vi.nd;have L:=hr.to 1;intro Xc;refine⟨_,ZN (Zv (PW.pt (NX (Yc (NU hr.units0) (pv 1) (YG Zj) (Z9 _)) (Nb (Yc OD (Zg DP L (Zl (pv 0) ZJ)) ZJ (Z9 _))))) (ZR (Zd (YJ K (pv 1) (Zg DP L (Zl (pv 0) (Z2 WN rfl T.len Xu (ZX (pv 1)))))))) Zy)
  (ZN (Zi 2 nd (Zg DK hr (Zl (pv 0) ZJ)))
  (ZN (Zv (Yc (Bo hr) (pv 2) (pv 1) rfl) (ZR (Xl (VM yK xH xG Uh (pv 1) (ZX (pv 2))))) Zy)
  (ZR (Zd (pv 2))))),?_⟩
 exists _,rfl,Zu;intro e0 a5;have m:=ZU a5 (.lst []);exists k,e0,u,rfl,rfl,ZG.of (m _ _ hk),ZG.of ZM,_,rfl;have n:=m _ _ hk;have G:=W.same m;generalize upd H e0 (.lst [])=X at m n G⊢;have B:∀{Y:Hp},ZE p X Y->ZH Y p->∀(R:V->Hp->Prop),(∀ v t a,ZD a t v->t.fits 3=true->ZH a p->ZE p X a->R v a)->XE 4 [V.ref p,V.int 3] Y R E0:=λS Z R hR=>⟨p,3,rfl,Z,by decide,λv t a kv l g d=>hR v t a kv l g (S.trans d)⟩
 have x:∀{v:V}{t:KT}{a:Hp},ZD a t v->t.fits 3=true->ZH a p->ZE p X a->Q v a:=fun{v t a} kv l g d=>q v t u U a kv l (d _ _ n N) ((kk.sm m).mono (d.tupsW G) _ _) I ∅ g λb o n1 _ e=>d b o (m b o e) n1
 have C:∀{v:V}{t:KT}{a:Hp},ZD a t v->t.fits 3=true->ZH a p->ZE p X a->a k=some (.lst u)/\jY a U u/\(Q v a)/\Q v (upd a k (.lst (u++[v]))):=fun{v t a} kv l g d=>by
  have r:=d _ _ n N;have M:=(kk.sm m).mono (d.tupsW G) _ _;have sK:ZE k a (upd a k (.lst (u++[v]))):=(ZE.refl k a).upd;have tK:=sK.tups r;refine⟨r,M,x kv l g d,q v t (u++[v]) (U++[t]) _ (kv.mono tK _ _) l ZM ((M.mono tK _ _).append (.cons (kv.mono tK _ _) .nil)) (λz hz=>?_) (by simp) (g.stay sK (Ne.symm N)) λb o n1 n2 e=>by rw[ZS n2];exact d b o (m b o e) n1⟩
  rcases yQ.mp hz with y | y
  ·exact I z y
  ·rw[zB.mp y];exact l
 have a0:u.length<1000:=∅
 cases u with
 | nil=>
  refine Zk (Zk ⟨_,rfl,B (ZE.refl _ _) G _ λv t a kv l g d=>?_⟩);obtain⟨D,a2,a3,a4⟩:=C kv l g d;refine⟨_,rfl,_,rfl,k,_,U,t,rfl,ZG.of D,a2,kv,I,λb=>⟨_,rfl,?_⟩⟩
  cases b with
  | true=>exact Zw ⟨_,rfl,.inl ⟨rfl,_,ZG.of D⟩,_,rfl,k,_,v,rfl,rfl,D,nn ∅,_,rfl,a4⟩
  | false=>exact Zk ⟨_,rfl,a3⟩
 | cons u0 a7=>
  refine Zw ⟨_,rfl,p,3,rfl,G,Xn (by decide) (by decide),λz Y z0 z1 Z S=>⟨_,_,rfl,rfl,_,rfl,Xw (λc=>?_) (λc=>?_)⟩⟩
  ·have J:=S _ _ n N;exists _,rfl,_,rfl,_,rfl,k,_,rfl,.inl (ZG.of J),p,_,rfl,Z,Xn (by simp <;> lia) (by simp at a0⊢ <;> lia)
   intro j a j0 j1 g d;obtain⟨v,av,mv⟩:=Op (xs:=u0::a7) j0 j1;have r:=d _ _ J N;obtain⟨i,hi⟩:=tS mv;have O:=S.trans d;obtain⟨t,et,kt⟩:=((kk.sm m).mono (O.tupsW G) _ _).get hi;exact .inl ⟨k,_,_,v,rfl,rfl,ZG.of r,av,x kt (I t (zK et)) g O⟩
  ·refine⟨_,rfl,B S Z _ λv t a kv l g d=>?_⟩;obtain⟨D,a2,a3,a4⟩:=C kv l g d;refine⟨_,rfl,_,rfl,k,_,U,t,rfl,ZG.of D,a2,kv,I,λb=>⟨_,rfl,?_⟩⟩
   cases b with
   | true=>exact Zw ⟨_,rfl,.inl ⟨rfl,_,ZG.of D⟩,_,rfl,k,_,v,rfl,rfl,D,nn ∅,_,rfl,a4⟩
   | false=>exact Zk ⟨_,rfl,a3⟩
def Ym.sub{l m:jp}(h:Ym m)(s:l.Sublist m):Ym l:=tH.sublist s h
def Jf(b:jn):∀ a:List (jm),Y5 b a.flatten=a.flatMap λc=>Y5 b c
 | []=>rfl
 | c::a=>by
  rw[vQ,yN,<-Jf b a];unfold Y5;rw[xT]
def ZKz{c:jn}(l:WF c){a:jm}{h:Nat}(i:∀ b∈a,b<c.length/\(gd c b).h=h)(w:2<=a.length)(x:a.length<=4)(s:Ym ((Y5 c a).map (·.1))):∃ L,over (XA c a)=some L:=by
 have z:(XA c a).length=a.length:=zX _;have d:=s;unfold Ym Y5 at d;rw[rZ,sR] at d;refine⟨_,ZLP ∅ ∅ λj y=>?_⟩
 have m:j<a.length:=∅
 have n:j+1<a.length:=∅
 rw[OG m,OG n];have e:a[j]? = some (a.getD j 0):=by rw[zT,zU m];rfl
 have f:a[j+1]? = some (a.getD (j+1) 0):=by rw[zT,zU n];rfl
 have g:=i _ (zK e);have k:=i _ (zK f);have t:=Iz d.2 (wN j) e f;obtain⟨u,A,o,q⟩:=Jc (l _ _ (YZ g.1)).ne;obtain⟨B,v,p,r⟩:=OE (l _ _ (YZ k.1)).ne;unfold Qe;rw[zR];exists ?_
 ·show (((gd c (a.getD j 0)).h:Int)==((gd c (a.getD (j+1) 0)).h:Int))=true;rw[g.2,k.2];simp
 ·rw[q,r];refine t _ ?_ _ ?_
  ·rw[o,zE];exact yC _ (zB.mpr rfl)
  ·rw[p];exact zC ..
def C4{b a:jw}(e:∀ r∈b,r.fit)(f:Ym (b.map (·.1)))(c:a.Sublist b)(g:1<=a.length)(d:a.length<=4):X8 a:=⟨λr h=>e r (c.subset h),∅,d,Ym.sub f (c.map _)⟩
def AL{c:Type}{a:List (List c)}{b:List c}(h:b∈a):b.Sublist a.flatten:=qD h
def ZME{b:jn}{a:jw}(g:X8 a):WJ b b.length (Uc a):=
 ⟨λz=>by have:=g.2.1;rw[show (Uc a).rows=a from rfl] at z;rw[z] at this;simp at this,g.2.2.2,g.1,λ_=>⟨rfl,g.2.2.1⟩,λz=>absurd rfl z⟩
def Uu(t:ZP):Prop:=t.h<=60/\t.rows.length<=60
def YQ{b:Type}(a:Bool)(l:List b):List b:=if a=true then l.reverse else l
def Nd{b:Type}(a:Bool)(l:List b):(YQ a l).length=l.length:=by cases a <;> simp[YQ]
def CY{b:Type}(a:Bool)(l:List b):YQ a (YQ a l)=l:=by cases a <;> simp[YQ]
def Mc{b c:Type}(f:b->c)(a:Bool)(l:List b):(YQ a l).map f=YQ a (l.map f):=by cases a <;> simp[YQ]
def YC{b:Type}{a:Bool}{l:List b}{x:b}:x∈YQ a l ↔ x∈l:=by cases a <;> simp[YQ]
def ZH9{a:Bool}{l:jm}(h:l.Nodup):(YQ a l).Nodup:=by
 cases a
 ·exact h
 ·exact(uH l).nodup_iff.mpr h
def HX{c d:Type}{F:c->d->Prop}(b:Bool){l:List c}{m:List d}(h:Paired F l m):Paired F (YQ b l) (YQ b m):=by
 cases b
 ·exact h
 ·show Paired F l.reverse m.reverse
  induction h with
  | nil=>exact .nil
  | cons a _ e=>rw[List.reverse_cons,List.reverse_cons];exact Md a e
def ZDr{a:Bool}{b:List (jm)}(h:b.flatten.Nodup):(YQ a b).flatten.Nodup:=by
 cases a
 ·exact h
 ·show b.reverse.flatten.Nodup;have:b.flatten.Perm b.reverse.flatten:=(uH b).symm.flatten;exact this.nodup_iff.mp h
def IP{a L:jn}{i:Nat}(h:i<a.length):gd (a++L) i=gd a i:=by
 unfold gd;rw[zT,wP h,<-zT]
def ZIR(a L:jn):(xP a.length L.length).map (λb=>(gd (a++L) b).rows)=L.map (·.rows):=by
 refine sL (by simp) λi e c=>?_
 have d:i<L.length:=by simpa using c
 rw[List.getElem_map,List.getElem_map,List.getElem_range'];unfold gd;rw[zT,xQ ∅,show a.length+1 * i-a.length=i by lia,zU d]
 rfl
def ZOg{a L:jn}{b:Nat}(h:b∈xP a.length L.length):gd (a++L) b∈L:=by
 rw[List.mem_range'_1] at h;unfold gd;rw[zT,xQ h.1,zU (show b-a.length<L.length by lia)]
 exact xL _
def ZKs(b L:jn)(a:Bool):Y5 (b++L) (YQ a (xP b.length L.length))=((YQ a L).map (·.rows)).flatten:=by
 unfold Y5;rw[wM,Mc,ZIR,Mc]
def Fw{c d:Type}(f:c->d):∀(a:List (List d))(l:List c),a.flatten=l.map f->∃ b:List (List c),a=b.map (List.map f)/\b.flatten=l
 | [],l,h=>⟨[],rfl,by
  have:l.map f=[]:=h.symm;rw[List.map_eq_nil_iff.mp this];rfl⟩
 | n::a,l,h=>by
  rw[vQ] at h;obtain⟨k,m,rfl,i,j⟩:=List.map_eq_append_iff.mp h.symm;obtain⟨b,e,g⟩:=Fw f a m j.symm;exact⟨k::b,by rw[yR,i,<-e],by rw[vQ,g]⟩
def G3{H:Hp}:∀(a:List (jf))(d:jw),jY H (YH d) a.flatten->∃ b:List (jw),b.flatten=d/\Paired (λq c=>jY H (YH q) c) b a
 | [],d,h=>⟨[],by
  have:=h.length;unfold YH at this;rw[zX] at this;exact(qP.mp this).symm,.nil⟩
 | c::a,d,h=>by
  rw[vQ] at h;have e:=h.take c.length;have f:=h.drop c.length;rw[List.take_left'  rfl] at e;rw[List.drop_left' rfl] at f;unfold YH at e f;rw[<-List.map_take] at e;rw[<-List.map_drop] at f;obtain⟨b,g,i⟩:=G3 a _ f;exact⟨d.take c.length::b,by rw[vQ,g,wX],.cons e i⟩
def M7{c:Type}{n:Nat}:∀(a:List (List c)),(∀ q∈a,n<=q.length)->n * a.length<=a.flatten.length
 | [],_=>by simp
 | q::a,h=>by
  have:=M7 a λx b=>h x (zI _ b);have d:=h q zC;rw[vQ,zW,zJ,Nat.mul_add]
  lia
section
variable{kh ki:ak}{N N2:ak->Prop}{H0 H H':Hp}{S d lk:ak}{ls:jf}{jj ts ts':jn}{av av':Nat->jm}{ho ho':Nat->Nat}{jk as as':jv}{kvs kvs':List (Zb×V)}
def Ye.but(R:Ye kh ki H S d lk ts av ho as kvs ls){c:ak}{o:jf}(s:ZE c H H')(b:H c=some (.lst o))(g:c≠lk)(a:∀ i:Nat,i<ts.length->(as.getD i .d).ab≠c/\(as.getD i .d).th≠c):Ye kh ki H' S d lk ts av ho as kvs ls:=by
 have t:=s.tups b;obtain⟨⟨k,h⟩,j,l⟩:=R.sh;refine⟨⟨⟨k,s _ _ h (ZV h b)⟩,s _ _ j (ZV j b),s _ _ l (Ne.symm g)⟩,R.keys,R.val,R.len,λi f=>?_,R.own,R.two⟩;obtain⟨n,m⟩:=(R.tw i f).tw.self;exact(R.tw i f).frame t (λo e=>s _ _ e (ZV m b)) (λo e=>s _ _ e (a i f).2) (λo e=>s _ _ e (a i f).1)
structure YY(kh ki:ak)(N:ak->Prop)(H0 H:Hp)(S d lk:ak)(ls:jf)(jj:jn)(jk:jv)(ts:jn)(av:Nat->jm)(ho:Nat->Nat)(as:jv)(kvs:List (Zb×V)):Prop where
 sh:Ye kh ki H S d lk ts av ho as kvs ls
 wf:WF ts
 hs:∀ i,i<ts.length->Uu (gd ts i)
 fr:∀ c o,¬ N c->c≠S->c≠d->(∀ b:Nat,b<jj.length->c≠(jk.getD b .d).x/\c≠(jk.getD b .d).ab)->H0 c=some o->H c=some o
 gr:∀ c,H c=none->H0 c=none
 le:jj.length<=ts.length
 old:∀ i,i<jj.length->as.getD i .d=jk.getD i .d/\gd ts i=gd jj i
 new:∀ i,jj.length<=i->i<ts.length->H0 (as.getD i .d).x=none/\H0 (as.getD i .d).th=none/\H0 (as.getD i .d).ab=none
def YY.refl(R:Ye kh ki H S d lk ts av ho as kvs ls)(f:WF ts)(b:∀ i,i<ts.length->Uu (gd ts i)):YY kh ki N H H S d lk ls ts as ts av ho as kvs:=
 ⟨R,f,b,λc o _ _ _ _ e=>e,λc e=>e,zY _,λi _=>⟨rfl,rfl⟩,λi g a=>absurd a ∅⟩
def YY.off(r:YY kh ki N H0 H S d lk ls jj jk ts av ho as kvs){c:ak}{o:HO}(e:H0 c=some o)(h:∀ b:Nat,b<jj.length->c≠(jk.getD b .d).x/\c≠(jk.getD b .d).ab)(b:Nat)(a:b<ts.length):c≠(as.getD b .d).x/\c≠(as.getD b .d).ab:=by
 rcases yA b jj.length with z | z
 ·rw[(r.old b z).1];exact h b z
 ·obtain⟨f,_,g⟩:=r.new b z a;exact⟨ZY e f,ZY e g⟩
def YY.push(r:YY kh ki N H0 H S d lk ls jj jk ts av ho as kvs){t:ZP}{a:YB}(E:WJ ts ts.length t)(h:Uu t)(nx:H a.x=none)(l:H a.th=none)(k:H a.ab=none)(p:∀ c o,c≠S->c≠d->(∀ b:Nat,b<ts.length->c≠(as.getD b .d).x/\c≠(as.getD b .d).ab)->H c=some o->H' c=some o)(f:Ye kh ki H' S d lk (ts++[t]) av' ho' (as++[a]) kvs' ls):YY kh ki N H0 H' S d lk ls jj jk (ts++[t]) av' ho' (as++[a]) kvs':=by
 have w:as.length=ts.length:=r.sh.len;have I:(ts++[t]).length=ts.length+1:=by simp
 have g:∀ i,i<ts.length->(as++[a]).getD i .d=as.getD i .d:=λi j=>IQ ∅
 have v:(as++[a]).getD ts.length .d=a:=by rw[<-w];exact Jj
 have K:=r.le;refine⟨f,WF.push r.wf E,λi j=>?_,λc o D q s u e=>p c o q s (r.off e u) (r.fr c o D q s u e),λc e=>r.gr c ?_,∅,λi j=>?_,λi y J=>?_⟩
 ·rcases yA i ts.length with z | z
  ·rw[MA z];exact r.hs i z
  ·have:i=ts.length:=∅
   rw[this,Kq];exact h
 ·cases z:H c with
  | none=>rfl
  | some o=>
   exfalso
   by_cases m:c=S
   ·obtain⟨F,A⟩:=f.sh.self;rw[m,A] at e;cases e
   by_cases n:c=d
   ·rw[n,f.sh.kept] at e;cases e
   have:∀ b:Nat,b<ts.length->c≠(as.getD b .d).x/\c≠(as.getD b .d).ab:=λb B=>by
    have W:=f.tw b ∅
    rw[g b B] at W;obtain⟨G,C⟩:=W.tw.self;exact⟨(ZY C e).symm,(ZY W.tw.above e).symm⟩
   rw[p c o m n this z] at e;cases e
 ·rw[g i ∅,MA ∅];exact r.old i j
 ·rcases yA i ts.length with z | z
  ·rw[g i z];exact r.new i y z
  ·have:i=ts.length:=∅
   rw[this,v];exact⟨r.gr _ nx,r.gr _ l,r.gr _ k⟩
structure Wm(H0:Hp)(lk:ak)(jj:jn)(jk:jv)(c:ak):Prop where
 at_:∃ o,H0 c=some (.lst o)
 lk:c≠lk
 own:∀ i:Nat,i<jj.length->(jk.getD i .d).ab≠c/\(jk.getD i .d).th≠c
def YY.own(r:YY kh ki N H0 H S d lk ls jj jk ts av ho as kvs){c:ak}(a:Wm H0 lk jj jk c)(i:Nat)(b:i<ts.length):(as.getD i .d).ab≠c/\(as.getD i .d).th≠c:=by
 rcases yA i jj.length with z | z
 ·rw[(r.old i z).1];exact a.own i z
 ·obtain⟨_,f,g⟩:=r.new i z b;obtain⟨o,e⟩:=a.at_;exact⟨(ZY e g).symm,(ZY e f).symm⟩
def YY.but(r:YY kh ki N H0 H S d lk ls jj jk ts av ho as kvs){c:ak}{o n:jf}(f:Wm H0 lk jj jk c)(i:N c)(j:H c=some (.lst o))(s:ZE c H H')(a:H' c=some (.lst n)):YY kh ki N H0 H' S d lk ls jj jk ts av ho as kvs:=
 ⟨r.sh.but s j f.lk (r.own f),r.wf,r.hs,λb u h k l m e=>s _ _ (r.fr b u h k l m e) λz=>h (z ▸ i),λb e=>r.gr b (by
  cases z:H b with
  | none=>rfl
  | some u=>
   exfalso
   by_cases g:b=c
   ·rw[g,a] at e;cases e
   ·rw[s _ _ z g] at e;cases e),r.le,r.old,r.new⟩
def YY.same(r:YY kh ki N H0 H S d lk ls jj jk ts av ho as kvs)(s:ZC H H'):YY kh ki N H0 H' S d lk ls jj jk ts av ho as kvs:=
 ⟨r.sh.same s,r.wf,r.hs,λb u a c f g e=>s _ _ (r.fr b u a c f g e),λb e=>r.gr b (s.free e),r.le,r.old,r.new⟩
def YY.trans(r:YY kh ki N H0 H S d lk ls jj jk ts av ho as kvs)(q:YY kh ki N2 H H' S d lk ls ts as ts' av' ho' as' kvs')(m:∀ c,N2 c->H0 c=none\/N c):YY kh ki N H0 H' S d lk ls jj jk ts' av' ho' as' kvs':=by
 have u:=r.le;have v:=q.le;refine⟨q.sh,q.wf,q.hs,λc o a b f g e=>q.fr c o (λz=>(m c z).elim (λy=>by rw[y] at e;cases e) a) b f (r.off e g) (r.fr c o a b f g e),λc e=>r.gr c (q.gr c e),∅,λi n=>?_,λi k l=>?_⟩
 ·obtain⟨h,j⟩:=q.old i ∅
  rw[h,j];exact r.old i n
 ·rcases yA i ts.length with z | z
  ·rw[(q.old i z).1];exact r.new i k z
  ·obtain⟨p,s,t⟩:=q.new i z l;exact⟨r.gr _ p,r.gr _ s,r.gr _ t⟩
def YY.tups(r:YY kh ki N H0 H S d lk ls jj jk ts av ho as kvs)(a:Ye kh ki H0 S d lk jj av' ho' jk kvs' ls)(h:∀ c,N c->∃ o,H0 c=some (.lst o)):Z3 H0 H:=λc p e=>by
 obtain⟨⟨l,i⟩,j,n⟩:=a.sh;refine r.fr c _ (λz=>?_) (ZV e i) (ZV e j) (λb f=>?_) e
 ·obtain⟨o,g⟩:=h c z;rw[g] at e;cases e
 ·obtain⟨m,k⟩:=(a.tw b f).tw.self;exact⟨ZV e k,ZV e (a.tw b f).tw.above⟩
def NL(a:Ye kh ki H S d lk ts av ho as kvs ls){c:ak}(n:H c=none){o:jf}(e:H' c=some (.lst o)):Wm H' lk ts as c:=
 ⟨⟨o,e⟩,(ZY a.sh.looks n).symm,λi b=>by
  obtain⟨g,f,_⟩:=(a.tw i b).things;exact⟨ZY (a.tw i b).tw.above n,ZY f n⟩⟩
end
end Tw
namespace L2
open PySem PySem.Spec PyProof.Rows
def GT:∀{e:jf}{d:je}(i:Nat),ZO e d->(e[i]? = none/\d[i]? = none)\/∃ x u,e[i]? = some x/\d[i]? = some u/\ZQ x u
 | _,_,i,.nil=>.inl ⟨by simp,by simp⟩
 | _,_,0,.cons r t=>.inr ⟨_,_,rfl,rfl,r⟩
 | _,_,i+1,.cons r t=>by
  rcases GT i t with ⟨a,b⟩ | ⟨x,u,a,b,c⟩
  ·exact .inl ⟨by simpa using a,by simpa using b⟩
  ·exact .inr ⟨x,u,by simpa using a,by simpa using b,c⟩
def Mr{f:jf}{e:je}(r:ZO f e):∀ d:jm,ZO (d.filterMap (f[·]?)) (d.filterMap (e[·]?))
 | []=>.nil
 | i::d=>by
  rw[vN,vN];rcases GT i r with ⟨a,b⟩ | ⟨x,u,a,b,c⟩
  ·rw[a,b];exact Mr r d
  ·rw[a,b];exact .cons c (Mr r d)
def A3{c:Type}:∀(l r:List c),(yX l.length).filterMap ((l++r)[·]?)=l:=by
 intro l
 induction l with
 | nil=>intro r;rfl
 | cons a l b=>
  intro r;rw[zJ,zEH,vN,rJ];show a::List.filterMap (λi=>(l++r)[i]?) (yX l.length)=a::l;rw[b]
def GM(n:Nat):sliceRange ((n:Int)-1) (-1) (-1)=(yX n).reverse:=by
 unfold sliceRange;have e:(if (-1:Int) > 0 then if ((n:Int)-1) < -1 then (-1-((n:Int)-1) + -1-1) / -1 else 0 else if ((n:Int)-1) > -1 then (((n:Int)-1) - -1 - -1-1) / - -1 else 0).toNat=n:=by
  rw[aM (by decide)]
  by_cases h:0<n
  ·rw[aO ∅,show (- -1:Int)=1 from rfl,tP];lia
  ·rw[aM ∅];lia
 simp only[e];refine sL (by simp) λi a b=>?_
 simp at a;simp
 lia
def Jd{a:Type}(l:List a):(sliceRange ((l.length:Int)-1) (-1) (-1)).filterMap (l[·]?)=l.reverse:=by
 rw[GM,List.filterMap_reverse];have:=A3 l [];rw[yS] at this;rw[this]
inductive Oe(K:zZ)(Q:VK)(x y:V)(b:Hp):Prop
 |mk(a c:_)(_:x=.ref a)(_:y=.int (-1))(_:ZG K b a c)(_:∀ p,b p=none->Q (.ref p) (upd b p (.lst c.reverse)))
def ZRY(K:zZ)(e d:TE):TE:=λa H Q=>e a H λx b=>d a b λy c=>Oe K Q x y c
def CW{e l:Expr}{z t:TE}{p pos:Pos}(L:PE X e z)(J:PE X l t):PE X (.Subscript e (.Slice none none (some l) p) pos) (ZRY X.K z t):=by
 intro c s j H Q I h;refine Subscript_ (Z7 (L c s j H _ I h) λv U x C E S P=>?_);refine wpAny_Slice ?_;rw[evalPart_none];refine ad (ad ?_);rw[evalPart_some];refine Z7 (J c U j C _ E P) λu f y D F T R=>?_;obtain⟨a,i,rfl,rfl,M,q⟩:=R;cases S;obtain⟨m,rfl⟩:=T;have k:ZF X c j D { f with heap:=f.heap.push { cls:=.type "slice",data:=.fields #[.none,.none,.int (-1) m] } }:=F.kept (t':=f.toks) λb N q=>zO _ q;obtain⟨d,r,n,V⟩:=k.list M;have g:=r.length;show aC (aB X.prog X.w) X.A (subscriptTail e (.Slice none none (some l) p) (.ref a) (.ref f.heap.objs.size)) (EP X c j Q) X.xe { f with heap:=f.heap.push { cls:=.type "slice",data:=.fields #[.none,.none,.int (-1) m] } };refine tail_any (ops:=[.ref a,.ref f.heap.objs.size]) n.isList.typeIs slot_list_getitem.lookup ?_ (by with_unfolding_all rfl)
 refine wpAny_getItem_list_slice n.isList (qR.new ..) .none .none (.int (-1) m) (by simp) ?_ (by rw[zP] <;> lia)
 have O:slicePick d.toArray none none (some (-1))=((sliceRange ((d.length:Int)-1) (-1) (-1)).filterMap (d[·]?)).toArray:=by
  unfold slicePick;simp[sliceBounds]
 rw[O];have B:=Mr r (sliceRange ((d.length:Int)-1) (-1) (-1));have G:(sliceRange ((d.length:Int)-1) (-1) (-1)).filterMap (i[·]?)=i.reverse:=by rw[<-g];exact Jd i
 rw[G] at B;refine⟨.ref _,_,k.laid (t':=f.toks) (o:=.lst i.reverse) (λb N q=>zO _ q) (zY _) ?_,rfl,q _ (k.hok.fresh (zY _))⟩;exact⟨by rw[uD];lia,_,0,B,yO _ rfl⟩
end L2
namespace Tw
open PySem PySem.Spec L2 PyProof.Rows
variable{kh ki CS CT CH CK CP CB:ak}
abbrev Mt:jr:=["_law_well_here","_law_shelf","_law_rows","_law_few","_law_back","_law_level","_law_stem","_law_numbers","_law_parts","_law_part"]
def Xv:ZA Mt zEp (Zc Qw):=Zr
def Ju:Option aD->jF
 | some (.For _ _ b _ _)=>b
 | _=>[]
def Gv:List Stmt:=Dg ((WY Qw)[4]?)
def Dz:List Stmt:=Ju (Gv[2]?)
section
variable{cdv:aj}{outer:jx}{Hs:Hp}{E:XK}{kh ki:ak}
def ZSI(L:Yh K mg kh ki)(hr:ZT 10 (A.deeper (envOfC "_law_plant" (Zc Qw) s.heap.objs.size f cdv)))(DS:ZL P w K mg km ZZ 10 kh "put_stem" zEj (YN kh ki))(DL:ZL P w K mg km ZZ 10 kh "put_leaf" zEt (Yb kh ki)):
  ∃ t,Xh (WZ ZZ P w K mg km Mt "_law_plant" (Zc Qw) f cdv A outer s Hs E).nox Dz t /\
  (∀(I:Z8)(B H:Hp)(S d v g q:ak)(U W X Y Z x8:jg)(l i:jn)(k J:jv)(y:Nat->jm)(z:Nat->Nat)(n:List (Zb×V))(D x us:jf)(rs:jw),
   YY kh ki (· = g) B H S d v D l k i y z J n->i.length<=700->Wm B v l k g->H g=some (.lst x)->x.length<=200->H q=some (.lst us)->jY H (YH rs) us->X8 rs ->
   (∀ p M u,YY kh ki (· = g) B p S d v D l k (i++[Uc rs]) (Ql i.length y) (Qn i.length z) M u->p g=some (.lst (x++[.int (i.length:Nat)]))->I.nx [U,some (.ref S),W,X,Y,Z,some (.bl false),some (.ref g),x8,some (.ref q)] p) ->
   t I [U,some (.ref S),W,X,Y,Z,some (.bl false),some (.ref g),x8,some (.ref q)] H) /\
  (∀(I:Z8)(B H:Hp)(S d v g q:ak)(U W X Y Z x8:jg)(l i:jn)(k J:jv)(y:Nat->jm)(z:Nat->Nat)(n:List (Zb×V))(D x:jf)(C:jm)(Lb:YV),
   YY kh ki (· = g) B H S d v D l k i y z J n->i.length<=700->Wm B v l k g->H g=some (.lst x)->x.length<=200->H q=some (.lst (iN C))->(∀ b∈C,b<i.length/\z b=1/\y b=[])->over (XA i C)=some Lb->Uu (Xs i C) ->
   (∀ p M u,YY kh ki (· = g) B p S d v D l k (i++[Xs i C]) (QG C i.length (Ql i.length y)) (Qm C (Qn i.length z)) M u->p g=some (.lst (x++[.int (i.length:Nat)]))->I.nx [U,some (.ref S),W,X,Y,Z,some (.bl true),some (.ref g),x8,some (.ref q)] p) ->
   t I [U,some (.ref S),W,X,Y,Z,some (.bl true),some (.ref g),x8,some (.ref q)] H):=by
 have nd:=Xv.nd;refine⟨_,ZR (Zv (Y3 (pv 6))
  (ZR (Xl (VM yK xH xG Uh (pv 7) (ZX (XQ (E:=E0) (pv 1) L.cS DS hr XJ (ZX (pv 9)))))))
  (ZR (Xl (VM yK xH xG Uh (pv 7) (ZX (XQ (E:=E0) (pv 1) L.cS DL hr XJ (ZX (pv 9)))))))),
  λI B H S d v g q U W X Y Z x8 l i k J y z n D x us rs r t7 ap j l2 hq hk G N=>?_,λI B H S d v g q U W X Y Z x8 l i k J y z n D x C Lb r t7 ap j l2 hq O a0 a1 N=>?_⟩
 ·obtain⟨dS,hS⟩:=r.sh.sh.self;refine⟨_,rfl,_,rfl,Zk ⟨_,rfl,.inl ⟨rfl,_,ZG.of j⟩,_,rfl,S,dS,_,rfl,hS,rfl,_,rfl,S,d,v,q,i,y,z,J,n,D,us,rs,rfl,r.sh,∅,hq,hk,G,λp a nx T Q fr R'=>?_⟩⟩
  have r':=r.push (ZME G) ⟨zL _,zS G.2.2.1 (by decide)⟩ nx T Q (λc o n1 n2 _ e=>fr c o n1 n2 e) R'
  have R:g≠S:=ZV j hS;have m:=fr _ _ R (ZV j r.sh.sh.kept) j;exists g,x,_,rfl,rfl,m,Yq ∅
  exact N _ _ _ (r'.but ap rfl m (ZE.upd (ZE.refl g p)) ZM) ZM
 ·obtain⟨dS,hS⟩:=r.sh.sh.self;refine⟨_,rfl,_,rfl,Zw ⟨_,rfl,.inl ⟨rfl,_,ZG.of j⟩,_,rfl,S,dS,_,rfl,hS,rfl,_,rfl,S,d,v,q,i,y,z,J,n,D,C,Lb,rfl,r.sh,r.wf,∅,λb h=>⟨(O b h).1,by rw[(O b h).2.1];exact zY _,by rw[(O b h).2.2];exact zL _⟩,hq,a0,λp a nx T Q fr R'=>?_⟩⟩
  have r':=r.push (ZMn r.wf (λb h=>(O b h).1) a0) a1 nx T Q fr R';have R:g≠S:=ZV j hS;have ow:=r.own ap;have m:=fr _ _ R (ZV j r.sh.sh.kept) (λb O=>by
   obtain⟨dx,hx⟩:=(r.sh.tw b O).tw.self;exact⟨ZV j hx,(ow b O).1.symm⟩) j
  exists g,x,_,rfl,rfl,m,Yq ∅
  exact N _ _ _ (r'.but ap rfl m (ZE.upd (ZE.refl g p)) ZM) ZM
end
structure LR(ts:jn)(av:Nat->jm)(ho:Nat->Nat)(ns:jm)(h:Nat)(rs:jw):Prop where
 nd:ns.Nodup
 at_:∀ b∈ns,b<ts.length/\(gd ts b).h=h/\ho b=1/\av b=[]
 rows:Y5 ts ns=rs
def Lw(c e:ak)(l:Hp)(S d o:ak)(p:jf)(a:jn)(f:jv)(k:ak)(m:jn)(q:List (jm))(i:Nat)(H:Hp):Prop:=
 ∃(g:Nat->jm)(h:Nat->Nat)(n:jv)(j:List (Zb×V)),YY c e (· = k) l H S d o p a f (a++m.take i) g h n j/\H k=some (.lst (iN (xP a.length i)))/\(∀ b,a.length<=b->b<a.length+i->h b=1/\g b=[])/\∀ b∈(q.drop i).flatten,h b=1/\g b=[]
def EA(n i:Nat):iN (xP n i)++[V.int ((n+i:Nat):Int)]=iN (xP n (i+1)):=by
 rw[List.range'_1_concat];simp[iN]
def FJ{a:Type}{l:List a}{i:Nat}{x:a}(h:l[i]? = some x):l.take (i+1)=l.take i++[x]:=by rw[yM,h];rfl
def ZO4{a:Type}{l:List a}{i:Nat}{x:a}(h:l[i]? = some x):l.drop i=x::l.drop (i+1):=by
 obtain⟨b,e⟩:=yT.mp h;rw[<-e,<-sN b]
def ZKr{c L:jn}{a:jm}(d:∀ b∈a,b<c.length)(f:0<a.length):Xs (c++L) a=Xs c a/\XA (c++L) a=XA c a:=by
 have e:a.getD 0 0∈a:=by rw[zT,zU f];exact xL _
 exists ?_
 ·unfold Xs Y5;rw[IP (d _ e)]
  congr 1
  rw[wM,wM]
  congr 1
  exact uC λb h=>by rw[IP (d b h)]
 ·unfold XA;exact uC λb h=>by rw[IP (d b h)]
def Hy{a:Type}{l m:List a}{i:Nat}(h:i<=m.length):(l++m.take i).length=l.length+i:=by simp;lia
section
variable{cdv:aj}{outer:jx}{Hs:Hp}{E:XK}{kh ki:ak}
def ZSZ(L:Yh K mg kh ki)(hr:ZT 10 (A.deeper (envOfC "_law_plant" (Zc Qw) s.heap.objs.size f cdv)))(DS:ZL P w K mg km ZZ 10 kh "put_stem" zEj (YN kh ki))(DL:ZL P w K mg km ZZ 10 kh "put_leaf" zEt (Yb kh ki)):
  ∃ t,Xh (WZ ZZ P w K mg km Mt "_law_plant" (Zc Qw) f cdv A outer s Hs E).nox Dz t /\
  ∀(Ha C:Hp)(S d U J:ak)(g:jn)(k:jv)(O:Nat->jm)(R:Nat->Nat)(m:List (Zb×V))(X us pl:jf)(l:List (jf))(Z:jw)(hN:Nat)(p a:Bool)(N:ak->Prop),
   Ye kh ki Ha S d U g O R k m X->Ye kh ki C S d U g O R k m X->Wm C U g k J->Ha J≠none->WF g->(∀ i,i<g.length->Uu (gd g i))->(∀ b,¬ N b->Ha b=none)->g.length<=600->us.length<=60->Z.length<=60->hN<=60 ->
   Paired (Yj N C) l pl->l.flatten=us->(∀ Y∈l,NW p Y.length)->(∀ r∈Z,r.fit)->Ym (Z.map (·.1))->C J=some (.lst []) ->
   ((p=false/\jY C (YH Z) us/\hN=0)\/(p=true/\∃ ns h,us=iN ns/\LR g O R ns h Z/\hN=h+1)) ->
   ∃(Ts:jn)(qs:List (jm)),Ts.length=pl.length/\(∀ t∈Ts,t.h=hN)/\((YQ a Ts).map (·.rows)).flatten=Z/\Lw kh ki C S d U X g k J Ts qs 0 C /\
    ∀ i u,(YQ a pl)[i]? = some u->∀(D0:Z8)(H:Hp)(x0 x2 x3 x4 x5 x8:jg),Lw kh ki C S d U X g k J Ts qs i H->(∀ H',Lw kh ki C S d U X g k J Ts qs (i+1) H'->D0.nx [x0,some (.ref S),x2,x3,x4,x5,some (.bl p),some (.ref J),x8,some u] H') ->
     t D0 [x0,some (.ref S),x2,x3,x4,x5,some (.bl p),some (.ref J),x8,some u] H:=by
 obtain⟨t,ht,a6,a9⟩:=ZSI (P:=P) (w:=w) (K:=K) (mg:=mg) (km:=km) (f:=f) (cdv:=cdv) (A:=A) (outer:=outer) (s:=s) (Hs:=Hs) (E:=E) L hr DS DL;exists t,ht;intro Ha C S d U J g k O R m X us pl l Z hN p a N Ra R1 ap i0 hw hs e5 t6 i4 i1 e3 c3 Q F frs c9 a7 e7;have a0:∀{q:ak}{o:HO}{H:Hp}{ts:jn}{O:Nat->jm}{R:Nat->Nat}{as:jv}{m:List (Zb×V)},¬ N q->C q=some o->YY kh ki (· = J) C H S d U X g k ts O R as m->H q=some o:=fun{q o H ts O R as m} W e r=>by
  have W:=e5 q W;obtain⟨⟨dS,hS⟩,hd,_⟩:=Ra.sh;refine r.fr q o (λz=>i0 (z ▸ W)) (ZY hS W).symm (ZY hd W).symm (λb B=>?_) e;obtain⟨dx,hx⟩:=(Ra.tw b B).tw.self;exact⟨(ZY hx W).symm,(ZY (Ra.tw b B).tw.above W).symm⟩
 have i3:∀{H:Hp}{ts:jn}{O:Nat->jm}{R:Nat->Nat}{as:jv}{m:List (Zb×V)},YY kh ki (· = J) C H S d U X g k ts O R as m->Z3 C H:=λr=>r.tups R1 λc z=>⟨[],by rw[z];exact a7⟩
 have e8:pl.length=l.length:=c3.length.symm;rcases e7 with ⟨rfl,hk,rfl⟩ | ⟨rfl,ns,h,rfl,lv,rfl⟩
 ·rw[<-Q] at hk;obtain⟨j,e1,e2⟩:=G3 l Z hk;have lq:j.length=l.length:=e2.length;have a4:=M7 (n:=1) l λY h=>(F Y h).1;rw[Q] at a4;exists YQ a (j.map Uc),[],by rw[Nd,zX];lia,λx hx=>?_,?_,?_
  ·obtain⟨q,_,rfl⟩:=zM.mp (YC.mp hx);rfl
  ·rw[CY,xO,<-e1]
   congr 1
   exact List.map_id' j
  ·refine⟨O,R,k,m,?_,a7,λb h1 h2=>absurd h2 ∅,λb B=>by simp at B⟩
   rw[wD,yS];exact YY.refl R1 hw hs
  ·intro i u hu D0 H x0 x2 x3 x4 x5 x8 hJ a5;obtain⟨a3,a8,a2,T,r,hn,hh,_⟩:=hJ;obtain⟨Y,ep,q,rfl,M,W⟩:=Paired.ixR (HX a c3) hu;obtain⟨rq,er,kq⟩:=Paired.ixR (HX a e2) ep;have mq:rq∈j:=YC.mp (zK er);have mp:Y∈l:=YC.mp (zK ep);have c7:rq.length=Y.length:=by
    have:=kq.length;unfold YH at this
    rwa [zX] at this
   have i2:rq.Sublist Z:=e1 ▸ AL mq;have G:X8 rq:=C4 frs c9 i2 (by have:=(F Y mp).1;rw[c7];exact this) (by have:=(F Y mp).2;rw[c7];exact this)
   have eT:(YQ a (j.map Uc))[i]? = some (Uc rq):=by rw[<-Mc,zD,er];rfl
   have hi:i<(YQ a (j.map Uc)).length:=(yT.mp eT).1;have ll:(YQ a (j.map Uc)).length=l.length:=by rw[Nd,zX];lia
   have el:(g++(YQ a (j.map Uc)).take i).length=g.length+i:=Hy ∅
   refine a6 D0 C H S d U J q x0 x2 x3 x4 x5 x8 g _ k a2 a3 a8 T X _ Y rq r (by rw[el];lia) ap hn (by simp[iN];lia) (a0 W M r) (kq.mono (i3 r) _ _) G λH' c4 c0 r' D=>?_
   rw[xU,<-FJ eT] at r';rw[el] at r' D;rw[EA] at D;refine a5 H' ⟨_,_,_,_,r',D,λb b1 b2=>?_,λb B=>by simp at B⟩
   unfold Qn Ql;by_cases z:b=g.length+i
   ·rw[aO z,aO z];exact⟨rfl,rfl⟩
   ·rw[aM z,aM z];exact hh b b1 ∅
 ·obtain⟨j,e1,e2⟩:=Fw (λb:Nat=>V.int (b:Nat)) l ns Q;subst e1;have sz:∀ q∈j,2<=q.length/\q.length<=4:=λq M=>by
   have:=F (iN q) (zM.mpr ⟨q,M,rfl⟩);unfold NW iN at this;rw[zX] at this;exact this
  have a4:=M7 (n:=2) j λq h=>(sz q h).1;have i5:(iN ns).length=ns.length:=zX _;rw[e2] at a4;have I:∀ q∈j,∀ b∈q,b∈ns:=λq M b B=>by rw[<-e2];exact rX.mpr ⟨q,M,B⟩
  have c8:(YQ a j).flatten.Nodup:=ZDr (by rw[e2];exact lv.nd)
  exists YQ a (j.map (Xs g)),YQ a j,by rw[Nd,zX,e8,zX],λx hx=>?_,?_,?_
  ·obtain⟨q,M,rfl⟩:=zM.mp (YC.mp hx);have h2:=(sz q M).1;have m0:q.getD 0 0∈q:=by rw[zT,zU (show 0<q.length by lia)];exact xL _
   show (gd g (q.getD 0 0)).h+1=h+1;rw[(lv.at_ _ (I q M _ m0)).2.1]
  ·rw[CY,xO,<-lv.rows,<-e2,Jf,wM];rfl
  ·refine⟨O,R,k,m,?_,a7,λb h1 h2=>absurd h2 ∅,λb B=>?_⟩
   ·rw[wD,yS];exact YY.refl R1 hw hs
   ·rw[qQ] at B;obtain⟨q,M,B⟩:=rX.mp B;exact(lv.at_ b (I q (YC.mp M) b B)).2.2
  ·intro i u hu D0 H x0 x2 x3 x4 x5 x8 hJ a5;obtain⟨a3,a8,a2,T,r,hn,hh,c6⟩:=hJ;obtain⟨Y,ep,q,rfl,M,W⟩:=Paired.ixR (HX a c3) hu;rw[<-Mc,zD] at ep;obtain⟨v,eb,rfl⟩:=xR.mp ep;have mq:v∈j:=YC.mp (zK eb);have B:∀ b∈v,b<g.length:=λb h=>(lv.at_ b (I v mq b h)).1;obtain⟨b2,b4⟩:=sz v mq;obtain⟨sT,lT⟩:=ZKr (L:=(YQ a (j.map (Xs g))).take i) B ∅
   have a1:(Y5 g v).Sublist Z:=by
    rw[<-lv.rows,<-e2,Jf,wM];exact qD (zM.mpr ⟨v,mq,rfl⟩)
   have e0:Ym ((Y5 g v).map (·.1)):=Ym.sub c9 (a1.map _);obtain⟨Lb,e4⟩:=ZKz hw (h:=h) (λb y=>⟨B b y,(lv.at_ b (I v mq b y)).2.1⟩) b2 b4 e0;have eT:(YQ a (j.map (Xs g)))[i]? = some (Xs g v):=by rw[<-Mc,zD,eb];rfl
   have hi:i<(YQ a (j.map (Xs g))).length:=(yT.mp eT).1;have ll:(YQ a (j.map (Xs g))).length=j.length:=by rw[Nd,zX]
   have el:(g++(YQ a (j.map (Xs g))).take i).length=g.length+i:=Hy ∅
   have ed:((YQ a j).drop i).flatten=v++((YQ a j).drop (i+1)).flatten:=by rw[ZO4 eb,vQ]
   have e9:(v++((YQ a j).drop (i+1)).flatten).Nodup:=by
    rw[<-ed];have e:(YQ a j).flatten=((YQ a j).take i).flatten++((YQ a j).drop i).flatten:=by rw[<-List.flatten_append,wX]
    rw[e] at c8;exact(uI.mp c8).2.1
   have m0:v.getD 0 0∈v:=by rw[zT,zU (show 0<v.length by lia)];exact xL _
   refine a9 D0 C H S d U J q x0 x2 x3 x4 x5 x8 g _ k a2 a3 a8 T X _ v Lb r (by rw[el];lia) ap hn (by simp[iN];lia) (a0 W M r) (λb y=>⟨by rw[el];have:=B b y;lia,c6 b (by rw[ed];exact wS _ y)⟩) (by rw[lT];exact e4) (by rw[sT];refine⟨?_,zS a1.length_le i1⟩;show (gd g (v.getD 0 0)).h+1<=60;rw[(lv.at_ _ (I v mq _ m0)).2.1];exact e3) λH' c4 c0 r' D=>?_
   rw[sT,xU,<-FJ eT] at r';rw[el] at r' D;rw[EA] at D;refine a5 H' ⟨_,_,_,_,r',D,λb c1 c2=>?_,λb y=>?_⟩
   ·have nb:b∉v:=λz=>by have:=B b z;lia
    unfold Qm QG Qn Ql;rw[aM nb,aM nb];by_cases z:b=g.length+i
    ·rw[aO z,aO z];exact⟨rfl,rfl⟩
    ·rw[aM z,aM z];exact hh b c1 ∅
   ·have nb:b∉v:=λz=>(uI.mp e9).2.2 b z b y rfl;have bl:b<g.length:=by
     obtain⟨q',e6,c5⟩:=rX.mp y;exact(lv.at_ b (I q' (YC.mp (List.mem_of_mem_drop e6)) b c5)).1
    unfold Qm QG Qn Ql;rw[aM nb,aM nb,aM ∅,aM ∅]
    exact c6 b (by rw[ed];exact yC _ y)
end
def HV(x y:V)(a:Bool):Xt [x,y] (if a=true then 1 else 0)=some (if a=true then y else x):=by
 cases a
 ·exact Xo (j:=0) rfl
 ·exact Xo (j:=1) rfl
section
variable{cdv:aj}{outer:jx}{Hs:Hp}{E:XK}{kh ki:ak}
def ZSg(T:YA mg)(L:Yh K mg kh ki)(hr:ZT 10 (A.deeper (envOfC "_law_plant" (Zc Qw) s.heap.objs.size f cdv)))(DC:ZB P w K mg km 2 "_law_cut" zEl QM)(DS:ZL P w K mg km ZZ 10 kh "put_stem" zEj (YN kh ki))(DL:ZL P w K mg km ZZ 10 kh "put_leaf" zEt (Yb kh ki)):
  ∃ t,Xh (WZ ZZ P w K mg km Mt "_law_plant" (Zc Qw) f cdv A outer s Hs E).nox Gv t /\
  ∀(D0:Z8)(H:Hp)(p S d O lv:ak)(fw:Int)(g k:Bool)(x2 x7 x8 x9:jg)(l:jn)(C:jv)(av:Nat->jm)(ho:Nat->Nat)(B:List (Zb×V))(ls U:jf)(rs:jw)(hN:Nat),
   ZH H p->Ye kh ki H S d O l av ho C B ls->Wm H O l C p->WF l->(∀ i,i<l.length->Uu (gd l i))->l.length<=600->0<=fw->fw<4->H lv=some (.lst U)->lv≠p->U.length<=60->rs.length<=60->hN<=60->(∀ r∈rs,r.fit)->Ym (rs.map (·.1)) ->
   ((k=false/\jY H (YH rs) U/\hN=0)\/(k=true/\U.length≠1/\∃ ns h,U=iN ns/\LR l av ho ns h rs/\hN=h+1)) ->
   (∀(H':Hp)(M:jn)(F:Nat->jm)(J:Nat->Nat)(y:jv)(x:List (Zb×V))(a4:ak)(Z:jm)(y7 y8 y9:jg),YY kh ki (· = p) H H' S d O ls l C M F J y x->ZH H' p->H' a4=some (.lst (iN Z))->a4≠p->LR M F J Z hN rs->M.length=l.length+Z.length->(if k=true then 2 else 1) * Z.length<=U.length ->
    D0.nx [some (.ref p),some (.ref S),x2,some (.int fw),some (.bl g),some (.ref a4),some (.bl true),y7,y8,y9] H') ->
   t D0 [some (.ref p),some (.ref S),x2,some (.int fw),some (.bl g),some (.ref lv),some (.bl k),x7,x8,x9] H:=by
 have nd:=Xv.nd;obtain⟨t,ht,hJ⟩:=ZSZ (P:=P) (w:=w) (K:=K) (mg:=mg) (km:=km) (f:=f) (cdv:=cdv) (A:=A) (outer:=outer) (s:=s) (Hs:=Hs) (E:=E) L hr DS DL;have e7:=hr.to 2;refine⟨_,ZN (Zi 7 nd (YG Zj))
  (ZN (Zi 8 nd (Zg DC e7 (VN (pv 0) (pv 5) (pv 3) (pv 6))))
  (ZN (Vo PassesOwn.never rfl (X7 (YJ K (YG (Zl (pv 8) (CW (pv 8) (Q3 Qz ZJ)))) (X0 O9 rfl T.int Q2 (ZX (pv 4))))) (Xe 9 nd) ht)
  (ZN (Zi 5 nd (YJ K (YG (Zl (pv 7) (CW (pv 7) (Q3 Qz ZJ)))) (X0 O9 rfl T.int Q2 (ZX (pv 4)))))
  (ZR (Zi 6 nd Xr))))),?_⟩
 intro D0 H p S d O lv fw g k x2 x7 x8 x9 l C av ho B ls U rs hN W R a3 hw hs t6 f0 f4 e4 i0 e9 i1 e2 frs i2 c6 e1;exists Zu;intro v Y;have g1:=ZU Y (.lst []);have G:=ZM (H:=H) (a:=v) (o:=.lst []);generalize upd H v (.lst [])=Ha at g1 G⊢;have Wa:=W.same g1;refine⟨_,rfl,_,rfl,_,rfl,_,rfl,p,lv,U,fw,k,rfl,Wa,g1 _ _ e4,i0,f0,f4,∅,λz=>?_,λD Q a6 Hb nD hD c8 a0 a2 i4 Wb a7=>?_⟩
 ·rcases c6 with ⟨z',_⟩ | ⟨_,z',_⟩
  ·rw[z] at z';cases z'
  ·exact z'
 have i6:D≠v:=λz=>by rw[z,G] at nD;cases nD
 refine⟨_,rfl,_,rfl,1,rfl,D,Q,rfl,rfl,ZG.of hD,λq1 n1=>⟨Zu,λq2 n2=>?_⟩⟩;have g2:=ZU n1 (.lst Q.reverse);have g3:=ZU n2 (.lst [.ref D,.ref q1]);have c0:=g3 _ _ (ZM (H:=Hb) (a:=q1) (o:=.lst Q.reverse));have c1:=ZM (H:=upd Hb q1 (.lst Q.reverse)) (a:=q2) (o:=.lst [.ref D,.ref q1]);have q:=g2.trans g3;generalize upd (upd Hb q1 (.lst Q.reverse)) q2 (.lst [.ref D,.ref q1])=H1 at q c0 c1⊢;refine⟨_,rfl,.inr ⟨g,rfl,.inl ⟨q2,_,_,_,rfl,rfl,ZG.of c1,HV _ _ _,?_⟩⟩⟩;have hI:∃ I,(if g=true then V.ref q1 else V.ref D)=.ref I/\H1 I=some (.lst (YQ g Q))/\Ha I=none:=by
  cases g
  ·exact⟨D,rfl,q _ _ hD,nD⟩
  ·exact⟨q1,rfl,c0,LU a7 Wb n1⟩
 obtain⟨I,eI,c5,nI⟩:=hI;rw[eI];have Ra:=R.same g1;obtain⟨pw,hp⟩:=W.some;have e5:=g1 _ _ hp;obtain⟨i9,e6⟩:=Wb.some;have rA:YY kh ki (· = p) H Ha S d O ls l C l av ho C B:=(YY.refl R hw hs).same g1;have rB:=rA.but a3 rfl e5 a7 e6;have rC:=rB.same q;have a5:v≠p:=Ur W Y;have a1:=q _ _ (a7 _ _ G a5);have e0:Wm H1 O l C v:=NL R Y a1;have c9:Z3 H H1:=rC.tups R λc z=>by rw[z];exact a3.at_
 obtain⟨m,qs,lT,hT,rT,J0,i3⟩:=hJ Ha H1 S d O v l C av ho B ls U Q a6 rs hN k g (NB Ha p D) Ra rC.sh e0 (by rw[G];exact λz=>nomatch z) hw hs (λb nb=>by
   cases z:Ha b with
   | none=>rfl
   | some o=>exact absurd (.inr (.inr (by rw[z];exact λz=>nomatch z))) nb) t6 e9 i1 e2 (Paired.mapP c8 λ_ _ z=>Yj.go z λb o e n=>q b o e) a0 a2 frs i2 a1 (c6.imp (λ⟨a,b,c⟩=>⟨a,b.mono c9 _ _,c⟩) λ⟨a,_,c⟩=>⟨a,c⟩)
 have a8:∀{H:Hp}{M:jn}{av:Nat->jm}{ho:Nat->Nat}{y:jv}{B:List (Zb×V)},YY kh ki (· = v) H1 H S d O ls l C M av ho y B->H I=some (.lst (YQ g Q)):=λr=>by
  obtain⟨⟨dS,hS⟩,hd,_⟩:=Ra.sh;refine r.fr I _ (ZY G nI).symm (ZY hS nI).symm (ZY hd nI).symm (λb N=>?_) c5;obtain⟨dx,hx⟩:=(Ra.tw b N).tw.self;exact⟨(ZY hx nI).symm,(ZY (Ra.tw b N).tw.above nI).symm⟩
 have c7:(YQ g Q).length=m.length:=by rw[Nd,lT]
 refine⟨I,rfl,⟨_,ZG.of c5⟩,Pp (K:=K) (a:=I) (xs:=YQ g Q) (λi σ H'=>∃ a9:jg,σ=[some (.ref p),some (.ref S),x2,some (.int fw),some (.bl g),some (.ref lv),some (.bl k),some (.ref v),some (.ref D),a9]/\Lw kh ki H1 S d O ls l C v m qs i H')
  ⟨_,rfl,J0⟩ (λi σ H' _ hP=>by obtain⟨_,_,_,_,_,_,r,_⟩:=hP;exact ZG.of (a8 r)) ?_ ?_⟩
 ·rintro i u σ H2 hu ⟨a9,rfl,j⟩;exact i3 i u hu _ H2 _ _ _ _ _ _ j λH' j'=>⟨_,rfl,j'⟩
 ·rintro σ H2 ⟨a9,rfl,j⟩;rw[c7] at j;obtain⟨F,J,y,x,r,hn,hh,_⟩:=j;rw[yV (zY _)] at r;have c4:(if k=true then 2 else 1) * m.length<=U.length:=by
   have:=M7 (n:=if k=true then 2 else 1) a6 λps h=>(a2 ps h).1
   rw[a0] at this;have e:m.length=a6.length:=by rw[lT];exact c8.length.symm
   rw[e];exact this
  have i5:m.length<=60:=by
   split at c4 <;> lia
  refine⟨_,rfl,_,rfl,1,rfl,v,_,rfl,rfl,ZG.of hn,λq3 n3=>⟨Zu,λq4 n4=>?_⟩⟩;have g4:=ZU n3 (.lst (iN (xP l.length m.length)).reverse);have g5:=ZU n4 (.lst [.ref v,.ref q3]);have c2:=g5 _ _ (ZM (H:=H2) (a:=q3) (o:=.lst (iN (xP l.length m.length)).reverse));have c3:=ZM (H:=upd H2 q3 (.lst (iN (xP l.length m.length)).reverse)) (a:=q4) (o:=.lst [.ref v,.ref q3]);have X:=g4.trans g5;generalize upd (upd H2 q3 (.lst (iN (xP l.length m.length)).reverse)) q4 (.lst [.ref v,.ref q3])=H3 at X c2 c3⊢;refine⟨_,rfl,.inr ⟨g,rfl,.inl ⟨q4,_,_,_,rfl,rfl,ZG.of c3,HV _ _ _,?_⟩⟩⟩;obtain⟨⟨dS,hS⟩,hd,_⟩:=R.sh;obtain⟨i8,i7⟩:=(Wb.same q).some;have W2:ZH H2 p:=M8 (Wb.same q) λo e=>r.fr p o (Ne.symm a5) (ZV hp hS) (ZV hp hd) (λb N=>by
   obtain⟨dx,hx⟩:=(R.tw b N).tw.self;exact⟨ZV hp hx,(a3.own b N).1.symm⟩) e
  have hL:∃ l',(if g=true then V.ref q3 else V.ref v)=.ref l'/\H3 l'=some (.lst (iN (YQ g (xP l.length m.length))))/\l'≠p:=by
   cases g
   ·exact⟨v,rfl,X _ _ hn,a5⟩
   ·refine⟨q3,rfl,?_,Ur W2 n3⟩;rw[c2];unfold iN YQ;rw[aO rfl,rY]
  obtain⟨l',el,e3,e8⟩:=hL;rw[el];have rF:YY kh ki (· = p) H H3 S d O ls l C (l++m) F J y x:=(rC.trans r λc z=>.inl (by rw[z];exact Y)).same X
  have ln:(YQ g (xP l.length m.length)).length=m.length:=by rw[Nd,List.length_range']
  refine e1 H3 (l++m) F J y x l' (YQ g (xP l.length m.length)) _ _ _ rF (W2.same X) e3 e8 ⟨ZH9 (List.nodup_range'),λb N=>?_,?_⟩ (by rw[ln,zW]) (by rw[ln];exact c4)
  ·have N:=YC.mp N;have h1:=List.mem_range'_1.mp N;refine⟨by rw[zW];lia,hT _ (ZOg N),hh b h1.1 h1.2⟩
  ·rw[ZKs];exact rT
end
inductive UN(kh ki:ak)(x:jf)(H:Hp)(Q:VK)(_:XK):Prop
 |mk(p S d o l:ak)(a:jn)(u:Nat->jm)(v:Nat->Nat)(h:jv)(n:List (Zb×V))(q t:jf)(e:jw)(_:x=[.ref p,.ref S,.ref l])(_:ZH H p)(_:Ye kh ki H S d o a u v h n q)(_:Wm H o a h p)(_:WF a)(_:∀ i,i<a.length->Uu (gd a i))(_:a.length<=400)(_:H l=some (.lst t))(_:l≠p)(_:jY H (YH e) t)(_:∀ r∈e,r.fit)(_:Ym (e.map (·.1)))(_:e.length<=60)(_:∀(g:Hp)(b:jn)(k:Nat->jm)(m:Nat->Nat)(j:jv)(c:List (Zb×V))(s:jq),YY kh ki (· = p) H g S d o q a h b k m j c->ZH g p->b.length<=a.length+120->(∀ i,s=some i->i<b.length)->Q (Zo (Zn s)) g)
inductive Hk(kh ki:ak)(H:Hp)(p S d s:ak)(t:jf)(l:jn)(r:jv)(q:jw)(a:Bool)(m:Nat)(o:ak)(c:jf)(e:Hp):Prop
 |mk(b:jn)(g:Nat->jm)(i:Nat->Nat)(n:jv)(j:List (Zb×V)):YY kh ki (· = p) H e S d s t l r b g i n j->ZH e p->e o=some (.lst c)->o≠p->c.length<=60 ->
  ((a=false/\m=c.length+1/\jY e (YH q) c/\b.length=l.length)\/(a=true/\m=c.length/\∃ k h,c=iN k/\LR b g i k h q/\h+k.length<=61/\b.length+k.length<=l.length+120))->Hk kh ki H p S d s t l r q a m o c e
inductive JV(kh ki:ak)(H:Hp)(p S l d lk:ak)(fw:Int)(back:Bool)(ls:jf)(ts:jn)(as:jv)(rs:jw)(m:Nat):L2.St->Hp->Prop
 |mk{stem:Bool}{lv:ak}{us:jf}{x7 x8 x9:jg}{H':Hp}:Hk kh ki H p S d lk ls ts as rs stem m lv us H'->JV kh ki H p S l d lk fw back ls ts as rs m [some (.ref p),some (.ref S),some (.ref l),some (.int fw),some (.bl back),some (.ref lv),some (.bl stem),x7,x8,x9] H'
def ZLV(F0:Zf K "_law_plant" "_law_plant" Qw f fd)(T:YA mg)(L:Yh K mg kh ki)(DP:ZB P w K mg km 1 "_law_pull" zEb Zs)(DC:ZB P w K mg km 2 "_law_cut" zEl QM)(DS:ZL P w K mg km ZZ 10 kh "put_stem" zEj (YN kh ki))(DL:ZL P w K mg km ZZ 10 kh "put_leaf" zEt (Yb kh ki)):
  ZI P w K mg km ZZ 11 f fd zEp (UN kh ki):=by
 refine F0.ko Xv λe5 A c0 s H vs Q E hr h=>?_;obtain⟨p,S,d,lk,l,ts,av,ho,as,c8,ls,b,rs,rfl,W,R,a4,hw,hs,t4,hl,lp,hk,frs,e3,e2,k⟩:=h;have nd:=Xv.nd;have c7:=hr.to 1;obtain⟨t,ht,hW⟩:=ZSg (P:=P) (w:=w) (K:=K) (mg:=mg) (km:=km) (f:=f) (cdv:=e5) (A:=A) (outer:=c0) (s:=s) (Hs:=H) (E:=E) T L hr DC DS DL;intro Xc;refine⟨_,ZN (Zi 3 nd (Zg DP c7 (Zl (pv 0) ZJ)))
  (ZN (Zi 4 nd (VX VH (Zg DP c7 (Zl (pv 0) ZJ)) ZJ (Z9 _)))
  (ZN (Zi 5 nd (X0 Qu rfl T.list Uw (ZX (pv 2))))
  (ZN (Zi 6 nd Xr)
  (ZN (Pj PassesOwn.never (PW.pt (Ph (Yc OD (Z2 WN rfl T.len Xu (ZX (pv 5))) ZJ (Z9 _)) (Pf (PW.pt (NX (Yc (NU hr.units0) (pv 5) (YG Zj) (Z9 _)) (Nb (UB (Y3 (pv 6))))))))) ht)
  (ZR (Zd (YJ K (Zx LY (pv 5) (YG (ZX O1))) ZJ))))))),?_⟩
 obtain⟨⟨dS,hS⟩,hd,_⟩:=R.sh;obtain⟨pw,hp⟩:=W.some;exists _,rfl,p,4,rfl,W,Xn (by decide) (by decide)
 intro fw H1 f0 f4 W1 s1;exists _,rfl,p,2,rfl,W1,Xn (by decide) (by decide)
 intro bk H2 b0 b1 W2 s2;have c2:=s1.trans s2;obtain⟨i9,e9⟩:=W2.some;have r0:YY kh ki (· = p) H H2 S d lk ls ts as ts av ho as c8:=(YY.refl R hw hs).but a4 rfl hp c2 e9;have i5:=c2.tupsW W;exists rfl;exists _,rfl,l,b,rfl,.inl (ZG.of (c2 _ _ hl lp));intro G e1;have g3:=ZU e1 (.lst b);have c5:=ZM (H:=H2) (a:=G) (o:=.lst b);generalize upd H2 G (.lst b)=H3 at g3 c5⊢;generalize decide (V.int bk=V.int 1)=x;have i8:b.length=rs.length:=by
  have:=hk.length;unfold YH at this;rw[zX] at this;exact this.symm
 have I0:Hk kh ki H p S d lk ls ts as rs false (b.length+1) G b H3:=⟨ts,av,ho,as,c8,r0.same g3,W2.same g3,c5,Ur W2 e1,∅,.inl ⟨rfl,rfl,(hk.mono i5 _ _).sm g3,rfl⟩⟩
 exists JV kh ki H p S l d lk fw x ls ts as rs,⟨_,⟨I0⟩⟩;rintro m _ H4 (@⟨B,G,b,x7,x8,x9,_,C,Z,a0,I,F,r,W4,a7,e0,c9,cs⟩);have X:∀{y:Hp},ZC H4 y->YY kh ki (· = p) H y S d lk ls ts as C Z a0 I F/\ZH y p/\y G=some (.lst b):=λg=>⟨r.same g,W4.same g,g _ _ a7⟩;have go:∀{Y:Z8}{y:Hp},ZC H4 y->(B=true->2<=b.length)->(∀ e4 H',(∃ m',m'<m/\JV kh ki H p S l d lk fw x ls ts as rs m' e4 H')->Y.nx e4 H') ->
   t Y [some (.ref p),some (.ref S),some (.ref l),some (.int fw),some (.bl x),some (.ref G),some (.bl B),x7,x8,x9] y:=fun{Y y} g h2 c6=>by
  obtain⟨U,W5,D⟩:=X g;obtain⟨i4,i0⟩:=W5.some;have c4:Wm y lk C I p:=⟨⟨i4,i0⟩,a4.lk,U.own a4⟩;have t5:Z3 H4 y:=ZC.tups g;rcases cs with ⟨rfl,rfl,e8,lt⟩ | ⟨rfl,rfl,ns,h,rfl,a1,i6,a3⟩
  ·refine hW Y y p S d lk G fw x false _ x7 x8 x9 C I Z a0 F ls b rs 0 W5 U.sh c4 U.wf U.hs ∅ f0 f4 D e0 c9 e2 (zL _) frs e3 (.inl ⟨rfl,e8.mono t5 _ _,rfl⟩) λH' c3 a6 a8 a5 N i2 v y7 y8 y9 r6 W6 M O a9 e6 J=>?_
   have J:1 * v.length<=b.length:=J;have ln:(iN v).length=v.length:=zX _;exact c6 _ _ ⟨(iN v).length,∅,.mk ⟨c3,a6,a8,a5,N,U.trans r6 (λc z=>.inr z),W6,M,O,∅,.inr ⟨rfl,rfl,v,0,rfl,a9,∅,∅⟩⟩⟩
  ·have ln:(iN ns).length=ns.length:=zX _;have h2:=h2 rfl;refine hW Y y p S d lk G fw x true _ x7 x8 x9 C I Z a0 F ls (iN ns) rs (h+1) W5 U.sh c4 U.wf U.hs ∅ f0 f4 D e0 c9 e2 ∅ frs e3 (.inr ⟨rfl,∅,ns,h,rfl,a1,rfl⟩) λH' c3 a6 a8 a5 N i2 v y7 y8 y9 r6 W6 M O a9 e6 J=>?_
   have J:2 * v.length<=(iN ns).length:=J;have i7:(iN v).length=v.length:=zX _;exact c6 _ _ ⟨(iN v).length,∅,.mk ⟨c3,a6,a8,a5,N,U.trans r6 (λc z=>.inr z),W6,M,O,∅,.inr ⟨rfl,rfl,v,h+1,rfl,a9,∅,∅⟩⟩⟩
 have a2:∀{y:Hp}{Y:Z8},Y.rt=Q->ZC H4 y->b.length<=1->(B=false->b=[])->Dn (Px (M0 K) (Px MM (OO 5) (EV (YX (tC V.non) Vr))) (tC (V.int 0))) Y [some (.ref p),some (.ref S),some (.ref l),some (.int fw),some (.bl x),some (.ref G),some (.bl B),x7,x8,x9] y:=fun{y Y} eD g h1 h0=>by
  obtain⟨U,W5,D⟩:=X g;exists _,rfl,Zu;intro q nq;have g6:=ZU nq (.lst [.non]);exists G,q,b,[.non],rfl,rfl,g6 _ _ D,ZM,yG (Yq (n:=b.length+1) ∅)
  intro q' i3;have g7:=ZU i3 (.lst (b++[.non]));obtain⟨rn,e7,i1⟩:∃ rn:jq,(b++[V.non])[0]? = some (Zo (Zn rn))/\∀ i,rn=some i->i<C.length:=by
   rcases cs with ⟨z,_⟩ | ⟨_,_,ns,h,rfl,a1,_⟩
   ·rw[h0 z];exact⟨none,rfl,λi e=>by cases e⟩
   ·cases ns with
    | nil=>exact⟨none,rfl,λi e=>by cases e⟩
    | cons n ns=>exact⟨some n,rfl,λi e=>by cases e;exact(a1.at_ n zC).1⟩
  refine .inl ⟨q',b++[.non],0,_,rfl,rfl,ZG.of ZM,Xo (j:=0) e7,?_⟩;rw[eD];have a3:C.length<=ts.length+120:=by
   rcases cs with ⟨_,_,_,z⟩ | ⟨_,_,ns,h,rfl,a1,_,z⟩ <;> lia
  exact k _ C Z a0 I F rn (U.same (g6.trans g7)) (W5.same (g6.trans g7)) a3 i1
 exists _,rfl,G,b,rfl,.inl (ZG.of a7),_,_,rfl,rfl,_,rfl;rcases yA 1 b.length with c1 | c1
 ·rw[aK (show (1:Int)<((b.length:Nat):Int) by lia)]
  exact Zw (Zw ⟨_,λ_ _ z=>z,go (ZC.refl _) (λ_=>c1) λ_ _ z=>z⟩)
 ·rw[aJ (show ¬ (1:Int)<((b.length:Nat):Int) by lia)]
  refine Zk ⟨_,rfl,Zu,λq nq=>?_⟩;have g5:=ZU nq (.lst []);have eq:=ZM (H:=H4) (a:=q) (o:=.lst []);generalize upd H4 q (.lst [])=y at g5 eq⊢;exists G,q,b,rfl,rfl,ZG.of (g5 _ _ a7),ZG.of eq,_,rfl
  cases b with
  | nil=>exact Zk (Zk (a2 rfl g5 c1 λ_=>rfl))
  | cons u b=>
   refine Zw ⟨_,rfl,_,rfl,?_⟩
   cases B with
   | false=>exact Zw ⟨_,λ_ _ z=>z,go g5 (λz=>by cases z) λ_ _ z=>z⟩
   | true=>exact Zk (a2 rfl g5 c1 λz=>by cases z)
structure Va where
 T:ak
 r:ak
 d:ak
 rn:jq
 us:jf
 rs:jw
 kv:List (Zb×V)
 F:jm
structure XL(ts:jn)(H:Hp)(t:Va):Prop where
 tp:H t.T=some (.tup [.ref t.r,Zo (Zn t.rn),.ref t.d])
 rl:H t.r=some (.lst t.us)
 ks:jY H (YH t.rs) t.us
 fit:∀ x∈t.rs,x.fit
 len:t.rs.length<=60
 rcd:Y7 ts H t.d t.kv t.F
 rt:∀ i,t.rn=some i->i∈t.F
def XL.go{b:jn}{H a:Hp}{t:Va}(h:XL b H t)(m:Z3 H a)(e:∀ o,H t.r=some o->a t.r=some o)(c:∀ o,H t.d=some o->a t.d=some o):XL b a t:=
 ⟨m _ _ h.tp,e _ h.rl,h.ks.mono m _ _,h.fit,h.len,⟨c _ h.rcd.hd,h.rcd.rcd.mono m,h.rcd.clo,h.rcd.wf⟩,h.rt⟩
def XL.grow{e a:jn}{H:Hp}{t:Va}(h:XL e H t)(g:e.length<=a.length)(d:∀ i,i<e.length->gd a i=gd e i)(k:WF a):XL a H t:=
 ⟨h.tp,h.rl,h.ks,h.fit,h.len,⟨h.rcd.hd,⟨h.rcd.rcd.nd,λj c=>yW (h.rcd.rcd.lt j c) g,h.rcd.rcd.no,λj c=>by rw[d j (h.rcd.rcd.lt j c)];exact h.rcd.rcd.yes j c,h.rcd.rcd.len,h.rcd.rcd.ks⟩,λj c b f=>by rw[d j (h.rcd.rcd.lt j c)] at f;exact h.rcd.clo j c b f,k⟩,h.rt⟩
def Ye.back{a b:ak}{H k:Hp}{S d j:ak}{f:jn}{h:Nat->jm}{i:Nat->Nat}{g:jv}{c:List (Zb×V)}{l e:jf}(R:Ye a b H S d j f h i g c l)(Q:Z1 a b k ⟨S,d,f,h,i,g,c⟩ j f.length e):Ye a b k S d j f h i g c e:=
 ⟨Q.sh,R.keys,R.val,R.len,Q.tw,R.own,R.two⟩
def Wm.same{H b:Hp}{f c:ak}{g:jn}{d:jv}(a:Wm H f g d c)(s:ZC H b):Wm b f g d c:=by
 obtain⟨o,e⟩:=a.at_;exact⟨⟨o,s _ _ e⟩,a.lk,a.own⟩
def YY.keep{g h:ak}{N:ak->Prop}{j H:Hp}{S d k:ak}{u:jf}{f v:jn}{w m:Nat->jm}{z n:Nat->Nat}{a q:jv}{p i:List (Zb×V)}(r:YY g h N j H S d k u f a v w z q p)(R:Ye g h j S d k f m n a i u){c:ak}{o:jf}(l:Wm j k f a c)(B:¬ N c)(e:j c=some (.lst o)):H c=some (.lst o)/\Wm H k v q c:=by
 obtain⟨⟨C,x⟩,y,_⟩:=R.sh;have s:=r.fr c _ B (ZV e x) (ZV e y) (λb t=>by
  obtain⟨D,A⟩:=(R.tw b t).tw.self;exact⟨ZV e A,(l.own b t).1.symm⟩) e
 exact⟨s,⟨_,s⟩,l.lk,r.own l⟩
structure On(kh ki:ak)(H0 H:Hp)(S d lk L:ak)(ts:jn)(av:Nat->jm)(ho:Nat->Nat)(as:jv)(kvs:List (Zb×V))(ls:jf)(TL:List Va):Prop where
 pla:YY kh ki (λ_=>False) H0 H S d lk ls [] [] ts av ho as kvs
 hL:H L=some (.lst (TL.map λt=>V.ref t.T))
 aL:Wm H lk ts as L
 nL:H0 L=none
 trs:∀ t∈TL,XL ts H t/\Wm H lk ts as t.r/\t.r≠L/\t.d≠d
inductive UJ(K:zZ)(kh ki:ak)(p:jf)(H:Hp)(Q:VK)(_:XK):Prop
 |mk(b:Hp)(a S d h:ak)(k:jt)(c:Nat->jm)(e:Nat->Nat)(_:p=[.ref a,.ref S])(_:ZG K b a (k.map V.int))(_:k.length<=63)(_:ZC b H)(_:b S=none)(_:b d=none)(_:b h=none)(_:Ye kh ki H S d h [] c e [] [] [])(_:∀(i:Hp)(L:ak)(l:jn)(c:Nat->jm)(e:Nat->Nat)(m:jv)(g:List (Zb×V))(j:jf)(n o:Va),On kh ki b i S d h L l c e m g j [n,o]->l.length<=240->j.length<=480->Q (.ref L) i)
abbrev ZPl:jr:=["_law_script","_law_shelf","_law_trees_here","_law_k","_law_well_here","_law_rows","_law_root"]
def UI:ZA ZPl zE3 (Zc Kh):=Zr
inductive TrL(a S L kh ki:ak)(j:Hp)(d n:ak)(i:Nat)(s:L2.St)(h:Hp):Prop
 |mk(g:jn)(l:Nat->jm)(m:Nat->Nat)(k:jv)(b:List (Zb×V))(e:jf)(c:List Va)(o p q r:jg)(_:s=[some (.ref a),some (.ref S),some (.ref L),o,p,q,r])(_:On kh ki j h S d n L g l m k b e c)(_:c.length=i)(_:g.length<=120 * i)(_:e.length<=240 * i)
def ZMA(F0:Zf K "_law_trees" "_law_trees" Kh f fd)(T:YA mg)(DW:ZB P w K mg km 1 "_law_well" zEv (VB K))(DG:ZB P w K mg km 10 "_law_ground" zE1 (Vn w))(DS:ZB P w K mg km 9 "_law_sorted" zE9 (Vk w))(DP:ZB P w K mg km 11 "_law_plant" zEp (UN kh ki))(DR:ZB P w K mg km 3 "_law_reached" zEq (Ws kh ki)):
  ZI P w K mg km ZZ 12 f fd zE3 (UJ K kh ki):=by
 refine F0.ko UI λcdv A outer s H vs Q E hr h=>?_;obtain⟨H0,a,S,d,lk,ns,av,ho,rfl,hSq,hn,s0,nS,ndd,nlk,R,k⟩:=h;have nd:=UI.nd;have hr1:=hr.to 1;have hr3:=hr.to 3;have hr9:=hr.to 9;have hr10:=hr.to 10;intro Xc;refine⟨_,ZN (Zi 2 nd (YG Zj))
  (ZN (Vo PassesOwn.never rfl (P4 rfl T.range (ZX ZJ)) (Xe 3 nd)
   (ZN (Zi 4 nd (Zg DW hr1 (Zl (pv 0) (pv 3))))
   (ZN (Zi 5 nd (Zg DS hr9 (ZX (Zg DG hr10 (Zl (pv 4) (YJ K (YG (Zl ZJ ZJ)) (pv 3)))))))
   (ZN (Zi 6 nd (Zg DP hr (QT (pv 4) (pv 1) (pv 5))))
   (ZR (Xl (VM yK xH xG Uh (pv 2) (ZX (Yw (QT (pv 5) (pv 6) (Zg DR hr3 (QT (pv 1) (pv 6) Ly))))))))))))
  (ZR (Zd (pv 2)))),?_⟩
 exists Zu;intro L nL;have gL:=ZU nL (.lst []);have eL:=ZM (H:=H) (a:=L) (o:=.lst []);generalize upd H L (.lst [])=H1 at gL eL⊢;have RL:=R.same gL;have wf0:WF []:=λi t e=>by simp at e
 have I0:On kh ki H0 H1 S d lk L [] av ho [] [] [] []:=⟨⟨RL,wf0,λi hi=>absurd hi (xM _),λc o _ _ _ _ e=>gL _ _ (s0 _ _ e),λc e=>s0.free (gL.free e),zY _,λi hi=>absurd hi (xM _),λi _ hi=>absurd hi (xM _)⟩,eL,NL R nL eL,s0.free nL,λt ht=>by simp at ht⟩
 refine⟨2,rfl,by decide,by decide,O7 (n:=2) (TrL a S L kh ki H0 d lk)
  ⟨_,_,_,_,_,_,[],_,_,_,_,rfl,I0,rfl,zL _,zL _⟩ ?_ ?_⟩
 ·rintro i σ H2 hi ⟨ts,av,ho,as,kvs,ls,TL,x3,x4,x5,x6,rfl,r,lTL,l120,l200⟩;have s02:ZC H0 H2:=λb o e=>r.pla.fr b o (λz=>z) (ZY e nS) (ZY e ndd) (λj hj=>absurd hj (xM _)) e;exists _,rfl,_,rfl,a,ns,_,rfl,s02.seq hSq,hn,by lia (splits:=8),by lia (splits:=8)
  intro p H3 np s3 W3;obtain⟨mv,emv,hmv⟩:=HJ (x:=V.int 61) (y:=V.int 21) (i:=(0:Int)+(i:Int)) (by lia (splits:=8)) (by lia (splits:=8))
  exists _,rfl,Zu;intro q nq;have gq:=ZU nq (.lst [.int 61,.int 21]);have eq:=ZM (H:=H3) (a:=q) (o:=.lst [.int 61,.int 21]);generalize upd H3 q (.lst [.int 61,.int 21])=H4 at gq eq⊢;obtain⟨m,rfl,m0,m61⟩:∃ m:Int,mv=.int m/\0<m/\m<=61:=by
   rcases hmv with rfl | rfl
   ·exact⟨61,rfl,by decide,by decide⟩
   ·exact⟨21,rfl,by decide,by decide⟩
  have W4:=W3.same gq;refine⟨_,rfl,.inl ⟨q,_,_,_,rfl,rfl,ZG.of eq,emv,p,m,rfl,W4,m0,m61,λD rs xs H5 nD dr frs ris r60 W5 s5=>?_⟩⟩;exists D,rs,xs,rfl,dr,frs,ris,r60;intro l us H6 s6 nl hl kl;have s24:ZC H2 H4:=s3.trans gq;have R2:=r.pla.sh;have R4:=R2.same s24;obtain⟨pw4,hp4⟩:=W4.some;have ap4:Wm H4 lk ts as p:=NL R2 np hp4;have R5:=R4.but s5 hp4 ap4.lk ap4.own;have R6:=R5.same s6;have W6:=W5.same s6;obtain⟨pw6,hp6⟩:=W6.some;have ap6:Wm H6 lk ts as p:=NL R2 np hp6;have lp:l≠p:=Ur W5 nl;have g26:ZC H2 H6:=λb o e=>s6 b o (s5 b o (s24 b o e) (ZY e np));exists _,rfl,_,rfl,_,rfl,p,S,d,lk,l,ts,av,ho,as,kvs,ls,us,rs,rfl,W6,R6,ap6,r.pla.wf,r.pla.hs,by lia (splits:=8),hl,lp,kl,frs,ris,r60
  intro H7 ts7 av7 ho7 as7 kvs7 rn r7 W7 l7 hrn;have apl:Wm H6 lk ts as l:=NL R5 nl hl;have Lp:L≠p:=ZY r.hL np;obtain⟨hL7,aL7⟩:=r7.keep R6 (r.aL.same g26) Lp (g26 _ _ r.hL);obtain⟨hl7,al7⟩:=r7.keep R6 apl lp hl;have t67:Z3 H6 H7:=r7.tups R6 λc z=>by rw[z];exact⟨_,hp6⟩
  exists _,rfl,.inl ⟨rfl,_,ZG.of hL7⟩,_,rfl,_,rfl,_,rfl,_,rfl;intro dd ndd';have gd8:=ZU ndd' (.dK []);have ed8:=ZM (H:=H7) (a:=dd) (o:=.dK []);generalize upd H7 dd (.dK [])=H8 at gd8 ed8⊢;have R8:=r7.sh.same gd8;have ddd:dd≠d:=(ZY r7.sh.sh.kept ndd').symm;refine⟨⟨S,d,ts7,av7,ho7,as7,kvs7⟩,lk,ts7.length,ls,rn,dd,rfl,R8.q,r7.wf,by show ts7.length<=240;lia (splits:=8),by lia (splits:=8),hrn,ed8,ddd,λH9 kv F ls9 fr9 Q9 ll9 hdd9 rec9 clo9 rt9=>⟨Zu,λTt nT=>?_⟩⟩
  have gT:=ZU nT (.tup [.ref l,Zo (Zn rn),.ref dd]);have eT:=ZM (H:=H9) (a:=Tt) (o:=.tup [.ref l,Zo (Zn rn),.ref dd]);generalize upd H9 Tt (.tup [.ref l,Zo (Zn rn),.ref dd])=H10 at gT eT⊢;have lk8:=R8.sh.looks;have f810:∀ b o,b≠lk->b≠dd->H8 b=some o->H10 b=some o:=λb o n1 n2 e=>gT b o (fr9 b o n1 n2 e);have t810:Z3 H8 H10:=λb o e=>f810 b _ (ZV e lk8) (ZV e ed8) e;have f710:∀ b o,b≠lk->H7 b=some o->H10 b=some o:=λb o n1 e=>f810 b o n1 (ZY e ndd') (gd8 b o e);have t710:Z3 H7 H10:=λb o e=>t810 b o (gd8 b _ e);have R10:Ye kh ki H10 S d lk ts7 av7 ho7 as7 kvs7 ls9:=(R8.back Q9).same gT;have hL10:=f710 _ _ aL7.lk hL7;have hl10:=f710 _ _ al7.lk hl7;exists L,_,_,rfl,rfl,hL10,Yq (by rw[zX];lia (splits:=8))
  have sx:ZE L H10 (upd H10 L (.lst ((TL.map λt=>V.ref t.T)++[.ref Tt]))):=(ZE.refl L H10).upd;have t11:Z3 H10 (upd H10 L (.lst ((TL.map λt=>V.ref t.T)++[.ref Tt]))):=sx.tups hL10;have eL11:=ZM (H:=H10) (a:=L) (o:=.lst ((TL.map λt=>V.ref t.T)++[.ref Tt]));generalize upd H10 L (.lst ((TL.map λt=>V.ref t.T)++[.ref Tt]))=H11 at sx t11 eL11⊢;have R11:=R10.but sx hL10 aL7.lk aL7.own;have lL:l≠L:=λz=>by rw[z,s5 _ _ (s24 _ _ r.hL) Lp] at nl;cases nl
  have np0:H0 p=none:=s02.free np;obtain⟨⟨dS6,hS6⟩,hd6,_⟩:=R6.sh;have f011:ZC H0 H11:=λb o e=>sx b o (f710 b o (ZY e nlk) (r7.fr b o (ZY e np0) (ZY e nS) (ZY e ndd) (λj hj=>by
   obtain⟨n1,_,n3⟩:=r.pla.new j (zL _) hj;exact⟨ZY e n1,ZY e n3⟩) (g26 b o (s02 b o e)))) (ZY e r.nL)
  have t211:Z3 H2 H11:=λb o e=>t11 b o (t710 b o (t67 b o (ZC.tups g26 b o e)));have hl11:=sx _ _ hl10 lL;exists ts7,av7,ho7,as7,kvs7,ls9,TL++[⟨Tt,l,dd,rn,us,rs,kv,F⟩],_,_,_,_,rfl,⟨⟨R11,r7.wf,r7.hs,λc o _ _ _ _ e=>f011 c o e,λc e=>f011.free e,zL _,λj hj=>absurd hj (xM _),λj _ hj=>?_⟩,?_,⟨⟨_,eL11⟩,aL7.lk,aL7.own⟩,r.nL,λt ht=>?_⟩,?_,by lia (splits:=8)
  ·rcases yA j ts.length with z | z
   ·rw[(r7.old j z).1];exact r.pla.new j (zL _) z
   ·obtain⟨n1,n2,n3⟩:=r7.new j z hj;exact⟨s02.free (g26.free n1),s02.free (g26.free n2),s02.free (g26.free n3)⟩
  ·rw[zE];exact eL11
  ·rcases yQ.mp ht with z | z
   ·obtain⟨a1,a2,a3,a4⟩:=r.trs t z;have rp:t.r≠p:=ZY a1.rl np;obtain⟨k7,ap7⟩:=r7.keep R6 (a2.same g26) rp (g26 _ _ a1.rl);have k11:=sx _ _ (f710 _ _ ap7.lk k7) a3;have d6:=g26 _ _ a1.rcd.hd;have d7:=r7.fr t.d _ (ZY a1.rcd.hd np) (ZV d6 hS6) a4 (λb hb=>by
     obtain⟨dx,hx⟩:=(R6.tw b hb).tw.self;exact⟨ZV d6 hx,ZV d6 (R6.tw b hb).tw.above⟩) d6
    have d11:=sx _ _ (f710 _ _ (ZV d7 r7.sh.sh.looks) d7) (ZV a1.rcd.hd r.hL);exact⟨(a1.go t211 (λo e=>by rw[a1.rl] at e;cases e;exact k11) (λo e=>by rw[a1.rcd.hd] at e;cases e;exact d11)).grow r7.le (λj hj=>(r7.old j hj).2) r7.wf,⟨⟨_,k11⟩,ap7.lk,ap7.own⟩,a3,a4⟩
   ·rw[zB.mp z];exact⟨⟨t11 _ _ eT,hl11,((kl.mono t67 _ _).mono t710 _ _).mono t11 _ _,frs,r60,⟨sx _ _ (gT _ _ hdd9) (ZV hdd9 (fr9 _ _ aL7.lk (ZY hL7 ndd') (gd8 _ _ hL7))),(rec9.mono (ZC.tups gT)).mono t11,clo9,r7.wf⟩,rt9⟩,⟨⟨_,hl11⟩,al7.lk,al7.own⟩,lL,ddd⟩
  ·rw[zW,lTL];rfl
  ·have ll9:ls9.length<=ls.length+ts7.length:=ll9
   lia (splits:=8)
 ·rintro σ H2 ⟨ts,av,ho,as,kvs,ls,TL,x3,x4,x5,x6,rfl,r,lTL,l120,l200⟩;obtain⟨t1,t2,rfl⟩:∃ t1 t2,TL=[t1,t2]:=by
   match TL,lTL with
   | [t1,t2],_=>exact⟨t1,t2,rfl⟩
  exact⟨_,rfl,k H2 L ts av ho as kvs ls t1 t2 r (by lia (splits:=8)) (by lia (splits:=8))⟩
def Cj(l:ak)(a:ju)(n:Nat)(b:ak)(c:ju)(m:Nat)(e:jA)(k:Array (jd))(o:¬(!a.isEmpty&&Builtin.List.listTooLong (a.size+c.size))=true)(g:a.size<=ar)(i:a.size+c.size<=ar+1):
  Meets (Builtin.«list.extend» ⟨[.ref l,.ref b],[]⟩) (λ_ R s=>s.heap.get? l=some { cls:=.type "list",data:=.seq a n }/\s.heap.get? b=some { cls:=.type "tuple",dict:=e,data:=.seq c m,slots:=k }/\R (.ok (.ret Value.none)) { s with heap:=s.heap.update l (Obj.mapSeq λx=>x++c) }):=by
 refine .of_wp λ_ _ _ R s h=>?_;obtain⟨r,t,u,v,w⟩:=s;obtain⟨d,f,h⟩:=h;have p:=AutoSeq1.sub_tuple_list;have q:=AutoSeq1.sub_tuple_tuple;have j:(a++c).size<=ar+1:=by rw[rM];exact i
 wp_walk using (wpAny_updateSeq d rfl (hz:=g) (_hz':=j)),AutoSeq1.wpAny_loadPart' d,AutoSeq1.wpAny_loadPart' f
 exact⟨_,rfl,h⟩
inductive N8(x:V)(d:jf)(H:Hp)(Q:VK):Prop
 |mk(l b a c:_)(_:x=.ref l)(_:d=[.ref b])(_:H l=some (.lst a))(_:H b=some (.tup c))(_:a.length+c.length<=1000)(_:Q .non (upd H l (.lst (a++c))))
def JQ:LQ X "list.extend" N8:=by
 intro m s T H x O v N Q I D C h;obtain⟨l,b,P,S,rfl,rfl,k,t,G,q⟩:=h;cases D;obtain⟨u,rfl,B⟩:=C.one;cases B;obtain⟨z,c,n,r,E,e⟩:=I.lstM k;obtain⟨a,o,⟨⟨M,y,A,j⟩,p,f,w,g⟩,R⟩:=I.tuple (Zh.of t);dsimp only at f g;subst f g;have K:=o.length;have J:=r.length;have L:ar=16777216:=by decide
 have i:c.toArray.size+a.toArray.size<=sizeLine:=by rw[zP,zP];lia
 have d:¬ (!c.toArray.isEmpty&&Builtin.List.listTooLong (c.toArray.size+a.toArray.size))=true:=by
  rw[Hv i,uS];exact zV
 refine call_meets F.slot_list_extend ⟨_,e,rfl⟩ F.entry_list_extend (F.args_list_extend_2 _ _) (Cj l c.toArray n b a.toArray w y j d (by rw[zP];lia) ∅) ⟨e,p,?_⟩
 refine⟨.non,_,I.lset (its':=c++a) k e (by simp) (r.append o) ?_,rfl,q⟩
 rw[zW]
 lia
end Tw
namespace L2
open PySem PySem.Spec PyProof.Rows
def B9(a:ju):((yX a.size).filterMap fun(m:Nat)=>a[(((a.size:Int)-1)+(m:Int) * -1).toNat]?)=a.toList.reverse:=by
 have e:=Jd a.toList;unfold sliceRange at e;have c:(if (-1:Int) > 0 then if ((a.toList.length:Int)-1) < -1 then (-1-((a.toList.length:Int)-1) + -1-1) / -1 else 0 else if ((a.toList.length:Int)-1) > -1 then (((a.toList.length:Int)-1) - -1 - -1-1) / - -1 else 0).toNat=a.size:=by
  rw[yP,aM (by decide)]
  by_cases h:0<a.size
  ·rw[aO ∅,show (- -1:Int)=1 from rfl,tP];lia
  ·rw[aM ∅];lia
 simp only[c] at e;rw[rJ,yP] at e;rw[<-e]
 congr 1
 funext m
 rw[show (m:Int) * -1 = -1 * (m:Int) by lia]
 exact(yY ..).symm
def ZFb{c:ak}{n:Nat}{Q:Int×Int×Nat->al->Prop}{t:Nat}(g:s.heap.IsSliceOf c .none .none (.int (-1) t))(h:Q ((n:Int)-1,-1,n) s):aC (aB prog w) A (Builtin.Slice.sliceApplied (.ref c) (pure (n:Int))) Q E s:=by
 obtain⟨i,b,f,a⟩:=id g;unfold Builtin.Slice.sliceApplied Builtin.Slice.sliceFields;refine aa (aa (wpAny_field b a (x:=.none) rfl (aa (wpAny_field b a (x:=.none) rfl (aa (wpAny_field b a (x:=.int (-1) t) rfl (ad ?_)))))));refine aa (HT.slicePart_ (.int (-1) t) ?_);show aC _ _ (if ((-1:Int)==0)=true then _ else _) _ _ s
 rw[aM (by decide)]
 refine aa (HT.slicePart_ .none (aa (HT.slicePart_ .none (aa (ad ?_)))));have d:Builtin.Slice.sliceAdjust none none (-1) (n:Int)=((n:Int)-1,-1):=rfl;show aC _ _ (match Builtin.Slice.sliceAdjust none none (-1) (n:Int) with | (lo,hi)=>pure (lo,(-1:Int),Builtin.Slice.slicePlaces lo hi (-1))) _ _ s
 rw[d];have e:Builtin.Slice.slicePlaces ((n:Int)-1) (-1) (-1)=n:=by
  unfold Builtin.Slice.slicePlaces;rw[aM (by decide),show (- -1:Int)=1 from rfl,tP]
  split <;> lia
 show aC _ _ (pure ((n:Int)-1,(-1:Int),Builtin.Slice.slicePlaces ((n:Int)-1) (-1) (-1))) _ _ s;rw[e];exact ad h
def ZCY{t j:ak}{a:ju}{k:Nat}{Q:ja}(c:IsTup s.heap t a)(l:s.heap.IsSliceOf j .none .none (.int (-1) k))(h:Q (.ref s.heap.objs.size) { s with heap:=s.heap.push { cls:=.type "tuple",data:=.seq a.toList.reverse.toArray } })(i:a.size<=ar):aC (aB prog w) A (getItem (.ref t) (.ref j)) Q E s:=by
 have b:sizeOk (.seq a.toList.reverse.toArray):=by
  show a.toList.reverse.toArray.size<=ar;rw[zP,uD,yP];exact i
 obtain⟨o,g,e,n⟩:=id l;have d:s.TypeIs (.ref j) "slice" :=⟨o,g,e⟩;unfold getItem
 try with_reducible refine af ?_
 first | refine aa (ad ?_) | skip
 refine aa (wpAny_sequenceKey c.typeIs (by decide) ?_)
 refine aa (wpAny_callSpecial?_slot (name:=yE "__getitem__") c.typeIs slot_tuple_getitem (wpAny_call_entry slot_tuple_getitem c.typeIs entry_tuple_getitem ?_ (args_tuple_getitem _ _)));show aC _ _ (Builtin.Tuple.tupleItemsOf (.ref t) >>= _) _ _ s;refine aa (tupleItemsOf_ c ?_);refine aa (wpAny_typeOf d ?_);rw[aO (by decide)]
 refine aa (ZFb l ?_);have f:¬ ((((a.size:Int)-1)==0&&(-1:Int)==1&&a.size==a.size)=true):=by
  intro q;rw[zR,zR] at q;exact absurd q.1.2 (by decide)
 show aC _ _ (if (((a.size:Int)-1)==0&&(-1:Int)==1&&a.size==a.size)=true then _ else _) _ _ s
 rw[aM f,B9]
 first
  | exact aa (m:=Builtin.Tuple.tupleExact _) (wpAny_newObj_type (ad ⟨_,rfl,ad h⟩) b)
  | exact aa (m:=Builtin.Tuple.tupleExact _) (wpAny_newObj_type (aa (ad (ad ⟨_,rfl,ad h⟩))) b)
  | exact aa (aa (m:=Builtin.Tuple.tupleExact _) (wpAny_newObj_type (ad (ad ⟨_,rfl,ad h⟩)) b))
  | exact aa (aa (m:=Builtin.Tuple.tupleExact _) (wpAny_newObj_type (ad ⟨_,rfl,ad h⟩) b))
inductive OP(K:zZ)(Q:VK)(x y:V)(b:Hp):Prop
 |mk(a c:_)(_:x=.ref a)(_:y=.int (-1))(_:Zh K b a c)(_:∀ p,b p=none->Q (.ref p) (upd b p (.tup c.reverse)))
def ZQx(K:zZ)(e d:TE):TE:=λa H Q=>e a H λx b=>d a b λy c=>OP K Q x y c
def ZOP{e m:Expr}{C B:TE}{z pos:Pos}(N:PE X e C)(M:PE X m B):PE X (.Subscript e (.Slice none none (some m) z) pos) (ZQx X.K C B):=by
 intro c s j H Q I h;refine Subscript_ (Z7 (N c s j H _ I h) λv V x F J T R=>?_);refine wpAny_Slice ?_;rw[evalPart_none];refine ad (ad ?_);rw[evalPart_some];refine Z7 (M c V j F _ J R) λu d y G L U S=>?_;obtain⟨a,E,rfl,rfl,O,q⟩:=S;cases T;obtain⟨D,rfl⟩:=U;have k:ZF X c j G { d with heap:=d.heap.push { cls:=.type "slice",data:=.fields #[.none,.none,.int (-1) D] } }:=L.kept (t':=d.toks) λb P q=>zO _ q;obtain⟨i,r,t,Y⟩:=k.tuple O;have g:=r.length;show aC (aB X.prog X.w) X.A (subscriptTail e (.Slice none none (some m) z) (.ref a) (.ref d.heap.objs.size)) (EP X c j Q) X.xe { d with heap:=d.heap.push { cls:=.type "slice",data:=.fields #[.none,.none,.int (-1) D] } };refine tail_any (ops:=[.ref a,.ref d.heap.objs.size]) t.typeIs slot_tuple_getitem.lookup ?_ (by with_unfolding_all rfl)
 refine ZCY t (qR.new ..) ?_ (by rw[zP] <;> lia)
 have n:=Mr r (yX i.length).reverse;have p:∀{W:Type}(l:List W),(yX l.length).reverse.filterMap (l[·]?)=l.reverse:=λl=>by rw[<-GM];exact Jd l
 rw[p i] at n;have f:=p E;rw[g] at f;rw[f] at n;refine⟨.ref _,_,k.laid (t':=d.toks) (o:=.tup E.reverse) (λb P q=>zO _ q) (zY _) ?_,rfl,q _ (k.hok.fresh (zY _))⟩;exact⟨by rw[uD];lia,_,n,IsTup.new _ _⟩
end L2
namespace Tw
open PySem PySem.Spec L2 PyProof.Rows
variable{kh ki CS CT CH CK CP CB:ak}
def Wq(a:jn)(o:jq):jm:=(Z4 a o).filter (VJ a)
def pX(a:jn):jq->jm
 | none=>[0]
 | some i=>Z4 a (some i)
def Lq(a:jn)(o:jq):0<(pX a o).length:=by
 cases o with
 | none=>exact Nat.one_pos
 | some i=>
  show 0<(YS a (gd a i).h i).length
  cases(gd a i).h with
  | zero=>exact Nat.one_pos
  | succ n=>exact uU _
def HE(a:jn):∀ l:List (jq),l.length<=(l.flatMap (pX a)).length
 | []=>zY _
 | o::l=>by
  have:=HE a l;have:=Lq a o;rw[yN,zW,zJ]
  lia
def ZOQ{a:jn}(d:WF a){j:Nat}(c:j<a.length)(b:(gd a j).h≠0):Wq a (some j)=((gd a j).bs.map some).flatMap (Wq a):=by
 unfold Wq;rw[HA d c b,vR,aM (by unfold VJ;rw[aJ b];exact zV),List.filter_flatMap,List.flatMap_map]
def Au{a:jn}{j:Nat}(b:(gd a j).h=0):Wq a (some j)=[j]:=by
 unfold Wq;rw[G2 b,vR,aO (show VJ a j=true from aK b)];rfl
inductive UY:Sp
 |mk{H:Hp}{Q:VK}{E:XK}(e:jn)(d:ak)(c:List (Zb×V))(F:jm)(a:jq):Y7 e H d c F->(∀ i,a=some i->i∈F)->(Z4 e a).length<=200->(∀(b:Hp)(D:ak),ZC H b->H D=none->b D=some (.lst (iN (Wq e a)))->Q (.ref D) b)->UY [.ref d,Zo (Zn a)] H Q E
abbrev BR:jr:=["_law_record","_law_root","_law_found","_law_todo","_law_number"]
def Pu:ZA BR zEf (Zc K9):=Zr
inductive MH(b:jn)(d:ak)(c:jq)(D e:ak)(F:jm)(H:Hp)(m:Nat)(h:L2.St)(a:Hp):Prop
 |mk(T:List (jq))(g:jm)(j:jg):h=[some (.ref d),some (Zo (Zn c)),some (.ref D),some (.ref e),j]->m=(T.flatMap (pX b)).length->m<=200->g++T.flatMap (Wq b)=Wq b c->(∀ i,some i∈T->i∈F)->ZC H a->a D=some (.lst (iN g))->a e=some (.lst (XC T.reverse))->MH b d c D e F H m h a
def ZPE(F0:Zf K "_law_leaves" "_law_leaves" K9 f fd):ZI P w K mg km ZZ 1 f fd zEf (UY):=by
 refine F0.ok Pu (λvs H Q E h=>(by cases h;rfl)) (λa6 A a5 s H vs Q E hr h=>?_)
 obtain⟨g,d,a7,F,B,R,a3,X,k⟩:=h;have nd:=Pu.nd;have hu:=PF hr;intro Xc;refine⟨_,ZN (Zi 2 nd (YG Zj))
  (ZN (Zi 3 nd (YG (ZX (pv 1))))
  (ZN (Pj PassesOwn.never (Yc (NU hr.units0) (pv 3) (YG Zj) (Z9 _))
   (ZN (Zi 4 nd (EU yK pY pW Dx (pv 3)))
   (ZR (Zv (PW.pt (NX (WA (OF (pv 4))) (Nb (Yc VH (Y9 K (PD hu (pv 0) (pv 4)) ZJ) Xm (Z9 _)))))
    (ZR (Xl (VM yK xH xG Uh (pv 2) (ZX (pv 4)))))
    (ZR (Zv (WA (OF (pv 4))) (ZR (Xl (VM yK uZ uY JQ (pv 3) (ZX (ZOP (Y9 K (PD hu (pv 0) (pv 4)) ZJ) (Q3 Qz ZJ)))))) Zy))))))
  (ZR (Zd (pv 2))))),?_⟩
 have a2:=R.rcd.lt;have hw:=R.wf;exists Zu;intro D nD;have gD:=ZU nD (.lst []);have eD:=ZM (H:=H) (a:=D) (o:=.lst []);generalize upd H D (.lst [])=H1 at gD eD⊢;exists _,rfl,Zu;intro n I;have g1:=ZU I (.lst [Zo (Zn B)]);have ep:=ZM (H:=H1) (a:=n) (o:=.lst [Zo (Zn B)]);have G:D≠n:=ZY eD I;generalize upd H1 n (.lst [Zo (Zn B)])=H2 at g1 ep⊢;have y:H n=none:=gD.free I;have O:([B].flatMap (pX g)).length<=200:=by
  rw[yN,uK,yS]
  cases B with
  | none=>exact(by decide:1<=200)
  | some i=>exact X
 exists MH g d B D n F H,⟨_,[B],[],_,rfl,rfl,O,by rw[uQ,yN,uK,yS],λi S=>a3 i (zB.mp S).symm,gD.trans g1,g1 _ _ eD,ep⟩
 rintro m σ H3 ⟨T,M,x4,rfl,rfl,C,c,W,Y,p,l⟩;exists _,rfl,Zu;intro e0 a1;have ge:=ZU a1 (.lst []);exists n,e0,XC T.reverse,rfl,rfl,ZG.of (ge _ _ l),ZG.of ZM,_,rfl
 replace Y:=Y.trans ge
 replace p:=ge _ _ p
 replace l:=ge _ _ l
 generalize upd H3 e0 (.lst [])=L at Y p l⊢
 cases T with
 | nil=>
  rw[uK,yS] at c;subst c;exact Zk ⟨_,rfl,k L D Y nD p⟩
 | cons x T=>
  have eT:XC (x::T).reverse=XC T.reverse++[Zo (Zn x)]:=by simp[XC]
  have a0:(!(XC (x::T).reverse).isEmpty)=true:=by rw[eT];simp
  rw[a0];refine Zw ⟨_,λ_ _ z=>z,?_⟩;exists _,rfl,.inl ⟨rfl,_,ZG.of l⟩,n,_,Zo (Zn x),rfl,rfl,l,by rw[eT];simp
  rw[eT,List.dropLast_concat];have Z:ZC H (upd L n (.lst (XC T.reverse))):=WX Y y;have t:=ZM (H:=L) (a:=n) (o:=.lst (XC T.reverse));have r:upd L n (.lst (XC T.reverse)) D=some (.lst (iN M)):=by rw[ZS G];exact p
  generalize upd L n (.lst (XC T.reverse))=H5 at Z t r⊢;rw[yN] at c C;have px:=Lq g x;rw[zW] at C;have R5:=R.same Z;have a9:M.length<=200:=by
   have e:=congrArg wQ c;rw[zW] at e;have:=vC (VJ g) (Z4 g B);unfold Wq at e
   lia
  have v:∀ i,some i∈T->i∈F:=λi S=>W i (zI _ S)
  cases x with
  | none=>
   refine⟨_,rfl,_,rfl,Zk (Zk ⟨_,rfl,_,rfl,Zk ⟨_,?_,T,M,_,rfl,rfl,∅,c,v,Z,r,t⟩⟩)⟩
   rw[yN,zW]
   lia
  | some j=>
   have hj:=W j (zC ..);have U:=a2 j hj;obtain⟨tp,u,us,hg,V,a4,w1,w2⟩:=R5.get hj;refine⟨_,rfl,_,rfl,Zw ?_⟩;exists _,rfl,_,rfl,d,.ref tp,rfl,hg,tp,_,_,_,rfl,rfl,Zh.of V,rfl,rfl,_,rfl;rw[EG];by_cases J:(gd g j).h=0
   ·rw[aK J];rw[Au J] at c;refine Zw ⟨_,rfl,.inl ⟨rfl,_,ZG.of r⟩,_,rfl,D,_,_,rfl,rfl,r,nn (by unfold iN;rw[zX];lia),?_⟩
    refine⟨_,?_,T,M++[j],_,rfl,rfl,∅,by rw[xU];exact c,v,WX Z nD,?_,by rw[ZS G.symm];exact t⟩
    ·rw[yN,zW]
     lia
    ·rw[ZM];unfold iN;rw[zE];rfl
   ·rw[aJ J];have eu:=w2 J;subst eu;have N:pX g (some j)=j::((gd g j).bs.map some).flatMap (pX g):=by
     show Z4 g (some j)=_;rw[HA hw U J,List.flatMap_map];rfl
    have lb:=HE g ((gd g j).bs.map some);have lT:=HE g T;rw[N,zJ] at C;rw[zX] at lb;have lr:(XC T.reverse).length=T.length:=by unfold XC;rw[zX,uD]
    have a8:(iN (gd g j).bs).reverse.length=(gd g j).bs.length:=by unfold iN;rw[uD,zX]
    refine Zk ⟨_,rfl,_,rfl,Zw ⟨_,rfl,.inl ⟨rfl,_,ZG.of t⟩,_,rfl,_,rfl,d,.ref tp,rfl,hg,tp,_,_,_,rfl,rfl,Zh.of V,rfl,_,rfl,u,_,rfl,rfl,Zh.of a4,λq nq=>?_⟩⟩;have gq:=ZU nq (.tup (iN (gd g j).bs).reverse);exists n,q,_,_,rfl,rfl,gq _ _ t,ZM,by lia
    exists _,?_,(gd g j).bs.map some++T,M,_,rfl,rfl,?_,?_,λi S=>?_,WX (Z.trans gq) y,by rw[ZS G];exact gq _ _ r
    ·rw[xT,yN,zW,zW,N,zJ]
     lia
    ·rw[xT,zW]
     lia
    ·rw[xT,<-ZOQ hw U J];exact c
    ·rcases yQ.mp S with z | z
     ·obtain⟨b,hb,e⟩:=zM.mp z;cases e;exact R.sub hj hb
     ·exact v i z
    ·rw[ZM,List.reverse_append];unfold XC iN;rw[zE,<-rY,<-rY,xO];rfl
inductive Qo:Sp
 |mk{H:Hp}{Q:VK}{E:XK}(e:jn)(d:ak)(a:List (Zb×V))(F:jm)(b:jq):Y7 e H d a F->(∀ i,b=some i->i∈F)->(∀(c:Hp),ZC H c->Q (.int (UE e b)) c)->Qo [.ref d,Zo (Zn b)] H Q E
abbrev C6:jr:=["_law_record","_law_root","_law_height_here","_law_number","_law_kind","_law_what"]
def P0:ZA C6 zEf (Zc Id):=Zr
def N6(a:jn):jq->Nat
 | none=>0
 | some i=>(gd a i).h+1
def ZQ7(a:jn)(o:jq):UE a o=(N6 a o:Int)-1:=by
 cases o with
 | none=>rfl
 | some i=>show (((gd a i).h:Nat):Int)=(((gd a i).h+1:Nat):Int)-1;lia
inductive Oj(b:jn)(d:ak)(c:jq)(F:jm)(H:Hp)(m:Nat)(g:L2.St)(e:Hp):Prop
 |mk(a:jq)(n:Int)(h j:jg):g=[some (.ref d),some (Zo (Zn c)),some (.int n),some (Zo (Zn a)),h,j]->m=N6 b a->n+(N6 b a:Int)=UE b c->(∀ i,a=some i->i∈F)->ZC H e->Oj b d c F H m g e
def ZPO(X:Zf K "_law_height" "_law_height" Id f fd)(T:YA mg):ZI P w K mg km ZZ 1 f fd zEf (Qo):=by
 refine X.ok P0 (λvs H Q E h=>(by cases h;rfl)) (λZ A M s H vs Q E hr h=>?_)
 obtain⟨a,d,a0,F,r,R,D,k⟩:=h;have g:=P0.nd;have hu:=PF hr;intro Xc;refine⟨_,ZN (Zi 2 g (Q3 Qz ZJ))
  (ZN (Zi 3 g (pv 1))
  (ZN (Pj PassesOwn.never (WA (OF (pv 3)))
   (ZN (OC (PD hu (pv 0) (pv 3)) (Mb rfl (QX (Xe 4 g) (QX (Xe 5 g) MX))))
   (ZN (Zi 2 g (Zx WW (pv 2) ZJ))
   (ZR (Zi 3 g (YJ K (YG (Zl O1 (Y9 K (pv 5) ZJ))) (X0 O9 rfl T.int Q2 (ZX (VX VH (pv 4) Xm (Z9 _))))))))))
  (ZR (Zd (pv 2))))),?_⟩
 have C:=R.rcd.lt;have hw:=R.wf;exists _,rfl,_,rfl;exists Oj a d r F H,⟨_,r,_,_,_,rfl,rfl,by rw[ZQ7];lia,D,ZC.refl H⟩
 rintro m σ Y ⟨v,n,x4,x5,rfl,rfl,q,L,t⟩
 cases v with
 | none=>
  have e:n=UE a r:=by rw[<-q];exact(Int.add_zero n).symm
  subst e;exact⟨_,rfl,_,rfl,Zk ⟨_,rfl,k Y t⟩⟩
 | some j=>
  have y:=L j rfl;have B:=C j y;have U:=hw j _ (YZ B);obtain⟨V,u,W,hg,I,J,w1,w2⟩:=(R.same t).get y;refine⟨_,rfl,_,rfl,Zw ⟨_,λ_ _ z=>z,?_⟩⟩;exists _,rfl,_,rfl,d,.ref V,rfl,hg,V,_,rfl,Zh.of I,rfl,_,_,rfl,_,_,rfl,rfl;exists _,rfl,_,_,rfl,rfl;obtain⟨x,ex,hx⟩:∃ x,W[0]? = some x/\((gd a j).h≠0->∃ b,x=Zo (Zn (some b))/\b∈F/\(gd a b).h+1=(gd a j).h):=by
   by_cases c:(gd a j).h=0
   ·have S:=(w1 c).length;have:=uE.mpr U.ne;unfold YH at S;rw[zX] at S;exact⟨_,zU ∅,λz=>absurd c z⟩
   ·have G:=U.stem c
    cases o:(gd a j).bs with
    | nil=>rw[o] at G;exact absurd G.1 (by decide)
    | cons b l=>
     have m:b∈(gd a j).bs:=by rw[o];exact zC ..
     rw[w2 c,o];exact⟨_,rfl,λ_=>⟨b,rfl,R.sub y m,(G.2.2.1 b m).2⟩⟩
  exists _,rfl,u,W,_,x,rfl,rfl,Zh.of J,Xo (j:=0) ex,Zu;intro p np;have N:=ZU np (.lst [.non,x]);refine⟨_,rfl,rfl,.inr ⟨_,rfl,.inl ⟨p,_,_,_,rfl,rfl,ZG.of ZM,HV _ _ _,?_⟩⟩⟩;have O:n+(((gd a j).h+1:Nat):Int)=UE a r:=q;rw[Mx];by_cases c:(gd a j).h=0
  ·rw[aJ (show ¬ (gd a j).h≠0 from λz=>z c)];exact⟨0,uU _,none,_,_,_,rfl,rfl,by show n+1+0=_;lia,(λi z=>nomatch z),t.trans N⟩
  ·rw[aK (show (gd a j).h≠0 from c)];obtain⟨b,rfl,o,eb⟩:=hx c;exact⟨(gd a b).h+1,(show (gd a b).h+1<(gd a j).h+1 by lia),some b,_,_,_,rfl,rfl,by show n+1+(((gd a b).h+1:Nat):Int)=_;lia,λi z=>by cases z;exact o,t.trans N⟩
def pS(a:jn)(i:Nat):jm:=Z4 a (some i)
def Gc(a:jn):∀ l:jm,l.length<=(l.flatMap (pS a)).length
 | []=>zY _
 | o::l=>by
  have:=Gc a l;have:0<(pS a o).length:=Lq a (some o);rw[yN,zW,zJ]
  lia
structure Nq(ts:jn)(F:jm)(rn:jq)(pre rest:jm):Prop where
 pm:(pre++rest.flatMap (pS ts)).Perm (Z4 ts rn)
 inn:∀ j∈rest,j∈F
def Nq.few{b:jn}{F:jm}{c:jq}{a rest:jm}(h:Nq b F c a rest):(a++rest).length<=(Z4 b c).length:=by
 have e:=h.pm.length_eq;have:=Gc b rest;rw[zW] at e⊢
 lia
inductive W0:Sp
 |mk{H:Hp}{Q:VK}{E:XK}(g:jn)(d:ak)(e:List (Zb×V))(F:jm)(b:jq):Y7 g H d e F->(∀ i,b=some i->i∈F)->(Z4 g b).length<=200->(∀(c:Hp)(D:ak)(a:jm),ZC H c->H D=none->c D=some (.lst (iN a))->a.Perm (Z4 g b)->Q (.ref D) c)->W0 [.ref d,Zo (Zn b)] H Q E
abbrev ZPy:jr:=["_law_record","_law_root","_law_found","_law_at","_law_kind","_law_what"]
def UF:ZA ZPy zEf (Zc HG):=Zr
inductive CV(g:jn)(d:ak)(e:jq)(D:ak)(F:jm)(H:Hp)(m:Nat)(h:L2.St)(c:Hp):Prop
 |mk(b rest:jm)(a:Nat)(i j:jg):h=[some (.ref d),some (Zo (Zn e)),some (.ref D),some (.int ((a:Nat):Int)),i,j]->a=b.length->m=(rest.flatMap (pS g)).length->Nq g F e b rest->c D=some (.lst (iN (b++rest)))->ZC H c->CV g d e D F H m h c
def ZMF(F0:Zf K "_law_below" "_law_below" HG f fd)(T:YA mg):ZI P w K mg km ZZ 1 f fd zEf (W0):=by
 refine F0.ok UF (λvs H Q E h=>(by cases h;rfl)) (λa5 A a3 s H vs Q E hr h=>?_)
 obtain⟨c,d,a7,F,e,R,a0,a4,k⟩:=h;have M:=UF.nd;have hu:=PF hr;intro Xc;refine⟨_,ZN (K2 (i:=2) [] [] M rfl rfl rfl (X7 (YG (ZX (pv 1)))) (λ_ _ _ _ _=>NY (WA (OF (pv 0)))) (λ_ _ _ _ _=>pv 0) trivial)
  (ZN (Zi 3 M ZJ)
  (ZN (Pj PassesOwn.never (WA (Aa (pv 3) (Z2 WN rfl T.len Xu (ZX (pv 2)))))
   (ZN (OC (PD hu (pv 0) (YJ K (pv 2) (pv 3))) (Mb rfl (QX (Xe 4 M) (QX (Xe 5 M) MX))))
   (ZN (Zv (Yc VH (pv 4) Xm (Z9 _)) (ZR (Xl (VM yK uZ uY JQ (pv 2) (ZX (pv 5))))) Zy)
   (ZR (Zi 3 M (Zx WW (pv 3) ZJ))))))
  (ZR (Zd (pv 2))))),?_⟩
 have Z:=R.rcd.lt;have hw:=R.wf;exists _,rfl,Zu;intro p np;have U:=ZU np (.lst [Zo (Zn e)]);have C:=ZM (H:=H) (a:=p) (o:=.lst [Zo (Zn e)]);generalize upd H p (.lst [Zo (Zn e)])=H1 at U C⊢;refine⟨p,rfl,⟨_,ZG.of C⟩,Ng (n:=1) (λi z=>[Zo (Zn e)][i]? = some z) (λ_=>e.isSome) (λD j x q=>ZC H1 q/\H1 D=none/\x=if j=0 then [] else iN e.toList) (Yq (by decide))
  (λD j x q l g=>⟨_,_,ZG.of (g.1 _ _ C),zU (by simpa using l)⟩) (λD j x q z H4 l g hy=>⟨hy.1,hy.2 _ (ZG.of (g.1 _ _ C))⟩) (λD x q g=>⟨_,ZG.of (g.1 _ _ C),zY _⟩)
  (λD r=>⟨ZU r _,r,rfl⟩) (λD j x q z t l hz g B O=>?_) (λD j x q z t l hz Y g B O=>?_) (λD j x q t l Y g=>?_) (λD x q t g=>?_)⟩
 ·have:j=0:=∅
  subst this;cases hz
  cases e with
  | none=>exact⟨_,rfl,_,rfl,O q t g⟩
  | some i=>exact⟨_,rfl,_,rfl,O q t g⟩
 ·have:j=0:=∅
  subst this;cases hz;obtain⟨N,y,rfl⟩:=g
  cases e with
  | none=>cases Y
  | some i=>exact⟨_,rfl,O _ q t ⟨WX N y,y,rfl⟩⟩
 ·have:j=0:=∅
  subst this;obtain⟨N,y,rfl⟩:=g
  cases e with
  | none=>exact⟨N,y,rfl⟩
  | some i=>cases Y
 obtain⟨N,y,rfl⟩:=g;have t:q D=some (.lst (iN e.toList)):=t;have L:H D=none:=U.free y;have I0:Nq c F e [] e.toList:=by
  cases e with
  | none=>exact⟨.nil,λj l=>by cases l⟩
  | some i=>exact⟨by rw[uQ];show ([i].flatMap (pS c)).Perm _;rw[yN,uK,yS];exact .refl _,λj l=>by rw[zB.mp l];exact a0 i rfl⟩
 exists CV c d e D F H,⟨_,[],_,0,none,none,rfl,rfl,rfl,I0,t,U.trans N⟩;rintro m σ H4 ⟨b,rest,_,x4,x5,rfl,rfl,rfl,I,r,S⟩;have a6:=I.few;have lf:(iN (b++rest)).length=b.length+rest.length:=by unfold iN;rw[zX,zW]
 exists _,rfl,_,rfl,D,_,rfl,.inl (ZG.of r),_,_,rfl,rfl,_,rfl;show if decide (((b.length:Nat):Int)<(((iN (b++rest)).length:Nat):Int))=true then _ else _
 cases rest with
 | nil=>
  rw[aJ (show ¬ ((b.length:Nat):Int)<(((iN (b++[])).length:Nat):Int) by rw[lf];show ¬ (_<((b.length+0:Nat):Int));lia)]
  have v:=I.pm;rw[uK,yS] at v;rw[yS] at r;exact Zk ⟨_,rfl,k H4 D b S L r v⟩
 | cons j rest=>
  rw[zJ] at lf;rw[aK (show ((b.length:Nat):Int)<(((iN (b++j::rest)).length:Nat):Int) by lia)]
  have ej:(b++j::rest)[b.length]? = some j:=by rw[xQ (zY _),Nat.sub_self];rfl
  have ev:(iN (b++j::rest))[b.length]? = some (V.int (j:Nat)):=by unfold iN;rw[zD,ej];rfl
  have l:=I.inn j (zC ..);have X:=Z j l;obtain⟨tp,u,us,hg,a1,a2,w1,w2⟩:=(R.same S).get l;have px:0<(pS c j).length:=Lq c (some j);refine Zw ⟨_,λ_ _ z=>z,?_⟩;refine⟨_,rfl,_,rfl,_,rfl,.inl ⟨D,_,_,_,rfl,rfl,ZG.of r,Xo ev,d,.ref tp,rfl,hg,tp,_,rfl,Zh.of a1,rfl,_,_,rfl,_,_,rfl,rfl,?_⟩⟩;exists _,rfl,rfl,_,rfl;rw[Mx];have v:=I.pm;rw[yN] at v;by_cases J:(gd c j).h=0
  ·rw[aJ (show ¬ (gd c j).h≠0 from λz=>z J)];rw[show pS c j=[j] from G2 J] at v;refine Zk ⟨_,rfl,_,_,rfl,rfl,_,?_,b++[j],rest,b.length+1,_,_,rfl,?_,rfl,⟨by rw[xU];exact v,λi W=>I.inn i (zI _ W)⟩,by rw[xU];exact r,S⟩
   ·rw[yN,zW]
    lia
   ·rw[zW];rfl
  ·rw[aK (show (gd c j).h≠0 from J)];have eu:=w2 J;subst eu;have es:pS c j=j::(gd c j).bs.flatMap (pS c):=HA hw X J;rw[es] at v;have I':Nq c F e (b++[j]) (rest++(gd c j).bs):=by
    refine⟨?_,λi W=>(yQ.mp W).elim (λz=>I.inn i (zI _ z)) λz=>R.sub l z⟩;refine wO.trans ?_ v;rw[xU,xT];exact wO.append_left b (wO.cons j (zEP (l₁:=rest.flatMap (pS c))))
   have G:=I'.few;have lb:(iN (gd c j).bs).length=(gd c j).bs.length:=zX _;simp only[zW,zJ,sM] at G;refine Zw ⟨_,rfl,.inl ⟨rfl,_,ZG.of r⟩,_,rfl,D,u,_,_,rfl,rfl,r,a2,∅,?_⟩
   refine⟨_,rfl,_,_,rfl,rfl,_,?_,b++[j],rest++(gd c j).bs,b.length+1,_,_,rfl,?_,rfl,I',?_,WX S L⟩
   ·rw[yN,xT,zW,zW,es,zJ]
    lia
   ·rw[zW];rfl
   ·rw[ZM];unfold iN;rw[<-zE]
    congr 3
    simp
def BK{s:al}(a b:KT)(A:ay)(v u:aj)(x:ZK s.heap a v)(y:ZK s.heap b u)(M:A.units+a.depth<cLine):SeqAt.RcAt A s v u (a.eqb b):=by
 have f:A.units<cLine:=∅
 cases a with
 | int i=>
  rw[ZK] at x;obtain⟨t,rfl⟩:=x
  cases b with
  | int j=>rw[ZK] at y;obtain⟨g,rfl⟩:=y;rw[KT.eqb];exact SeqAt.RcAt.int_int i t j g
  | str z=>rw[ZK] at y;obtain⟨g,rfl⟩:=y;rw[show (KT.int i).eqb (.str z)=false by simp[KT.eqb]];exact SeqAt.RcAt.int_str i t z g
  | tup m=>rw[ZK] at y;obtain⟨p,d,rfl,h,_⟩:=y;rw[show (KT.int i).eqb (.tup m)=false by simp[KT.eqb]];exact SeqAt.RcAt.int_tuple i t h f
 | str w=>
  rw[ZK] at x;obtain⟨t,rfl⟩:=x
  cases b with
  | int j=>rw[ZK] at y;obtain⟨g,rfl⟩:=y;rw[show (KT.str w).eqb (.int j)=false by simp[KT.eqb]];exact SeqAt.RcAt.str_int w t j g
  | str z=>rw[ZK] at y;obtain⟨g,rfl⟩:=y;rw[KT.eqb];exact SeqAt.RcAt.str_str w t z g
  | tup m=>rw[ZK] at y;obtain⟨p,d,rfl,h,_⟩:=y;rw[show (KT.str w).eqb (.tup m)=false by simp[KT.eqb]];exact SeqAt.RcAt.str_tuple w t h f
 | tup l=>
  rw[ZK] at x;obtain⟨p,d,rfl,r,C⟩:=x;rw[KT.depth] at M
  cases b with
  | int j=>rw[ZK] at y;obtain⟨g,rfl⟩:=y;rw[show (KT.tup l).eqb (.int j)=false by simp[KT.eqb]];exact SeqAt.RcAt.tuple_int j g r f
  | str z=>rw[ZK] at y;obtain⟨g,rfl⟩:=y;rw[show (KT.tup l).eqb (.str z)=false by simp[KT.eqb]];exact SeqAt.RcAt.tuple_str z g r f
  | tup m=>
   rw[ZK] at y;obtain⟨q,c,rfl,h,D⟩:=y;have P:=C.length;have Q:=D.length;have E:=SeqAt.RcAt.tuples (A:=A) (s:=s) (e:=λj=>(l.getD j (.int 0)).eqb (m.getD j (.int 0))) r h f (λj K L=>by
    have n:j<d.length:=by simpa using K
    have o:j<c.length:=by simpa using L
    obtain⟨k,B,N⟩:=C.get (j:=j) (u:=d[j]) (by simp[n])
    obtain⟨F,G,O⟩:=D.get (j:=j) (u:=c[j]) (by simp[o])
    have R:=Pr (zK B);have I:l.getD j (.int 0)=k:=by rw[zT,B];rfl
    have J:m.getD j (.int 0)=F:=by rw[zT,G];rfl
    have:=OV k.depth k F A.in1 d[j] c[j] (zY _) N O (by show A.units+1+k.depth<cLine;lia)
    show SeqAt.EqAt A.in1 s _ _ ((l.getD j (.int 0)).eqb (m.getD j (.int 0)));rw[I,J];simpa using this)
   have H:((yX (min d.toArray.size c.toArray.size)).all (λj=>(l.getD j (.int 0)).eqb (m.getD j (.int 0)))&&d.toArray.size==c.toArray.size)=(KT.tup l).eqb (.tup m):=by
    rw[zP,zP,<-P,<-Q,KT.eqb];exact O0 l m
   rw[H] at E;exact E
inductive Me:V->V->Hp->VK->Prop
 |mk{x y:V}{H:Hp}{Q:VK}(a b:KT):ZD H a x->ZD H b y->a.depth<=200->Q (.bl (a.eqb b)) H->Me x y H Q
def ZPj{k:Nat}(g:ZT k X.A):Yd X (aA .Eq) Me:=by
 intro c s l H x y v u Q I i j h;obtain⟨a,b,d,e,f,q⟩:=h;exact BK a b X.A v u (Vt I a x v d i) (Vt I b y u e j) (ZT.key g f) X.prog X.w X.xe _ ⟨.bl _,H,I,rfl,q⟩
def D7{a:jn}(f:WF a)(k:KT):∀(n i:Nat),i<a.length->(gd a i).h=n->∃ j c r,VP a k n i=r++[(j,c)]/\j<a.length/\(gd a j).h=0
 | 0,i,b,d=>⟨i,_,[],rfl,b,d⟩
 | n+1,i,b,d=>by
  obtain⟨m,o,_⟩:=Ou f b ∅ k
  obtain⟨j,c,r,e,g,l⟩:=D7 f k n (Wn a k i) ∅ ∅
  exact⟨j,c,(i,XS a k i)::r,by rw[VP,e];rfl,g,l⟩
def WV(a:jw)(k:KT):jp:=(a.filter λr=>r.1.eqb k).map (·.2)
def MW(a:jn)(k:KT)(b:jq):jp:=match (WO a k b).getLast? with
 | none=>[]
 | some p=>WV (gd a p.1).rows k
inductive Y4(kh ki CT CK:ak):Sp
 |mk{H:Hp}{Q:VK}{E:XK}(X:YL)(d:ak)(c:Nat)(g:jf)(r:jy)(v:V)(o:jJ):MF kh ki CT CK H X d c g r v o E ->
  (∀(k:KT)(e:jq),o=some k->r=Zn e->(∀ i,e=some i->i<X.ts.length)->∀(a:Hp)(D:ak)(h:jf),(∀ b o,b≠d->H b=some o->a b=some o)->Z1 kh ki a X d c (g++Pw (WO X.ts k e))->H D=none->D≠d->a D=some (.lst h)->jY a (MW X.ts k e) h->Q (.ref D) a)->Y4 kh ki CT CK [.ref X.S,Zo r,v] H Q E
abbrev ZMO:jr:=["shelf","root","key","steps","rows"]
def Wp:ZA ZMO zEk (Zc IM):=Zr
def ZIo(F:Zf K "value_of" "value_of" IM f fd)(DS:Yu P w K mg km 10 "steps_to" zEk (UX kh ki CT CK)):ZI P w K mg km (XF P w) 11 f fd zEk (Y4 kh ki CT CK):=by
 refine F.okD Wp (λvs H Q E h=>(by cases h;rfl)) (λa3 A a1 s H vs Q E hr h=>?_)
 obtain⟨X,lk,c,ls,r,v,o,O,q⟩:=h;have nd:=Wp.nd;intro Xc;refine⟨_,ZN (Zi 3 nd (U4 VI DS hr (QT (pv 0) (pv 1) (pv 2))))
  (ZN (Zv (Yc (ZJ4 hr.units0) (pv 3) (YG Zj) (Z9 _)) (ZR (Zd (YG Zj))) Zy)
  (ZN (Zi 4 nd (Y9 K (Y9 K (YJ K (pv 3) (Q3 Qz ZJ)) ZJ) ZJ))
  (ZR (Zd (Wr [2] zFa rfl (X7 (pv 4)) (λ_ _ _ _ _=>NY (Yc (ZPj hr) (Y9 K (pv 0) ZJ) (pv 1) (Z9 _))) (λ_ _ _ _ _=>Y9 K (pv 0) ZJ) ⟨rfl,.inl rfl,rfl,trivial⟩))))),?_⟩
 exists _,rfl,_,rfl,_,rfl,X,lk,c,ls,r,v,o,rfl,O;intro k rn ek er M Z S J Y R1 nS a2 hS C;exists _,rfl,Zu;intro b nb;have g:=ZU nb (.lst []);have eb:=ZM (H:=Z) (a:=b) (o:=.lst []);generalize upd Z b (.lst [])=V at g eb⊢;have I:∀{D:ak},Z D=none->H D=none/\D≠lk:=fun{D} d=>by
  have z:D≠lk:=λz=>by rw[z,R1.sh.looks] at d;cases d
  refine⟨?_,z⟩
  cases e:H D with
  | none=>rfl
  | some o'=>rw[Y _ _ z e] at d;cases d
 exists S,b,J,rfl,rfl,ZG.of (g _ _ hS),ZG.of eb,_,rfl
 cases rn with
 | none=>
  have e0:J=[]:=by
   cases C;rfl
  subst e0;refine Zw ⟨Zu,λD d=>?_⟩;have g2:=ZU d (.lst []);obtain⟨f1,f2⟩:=I (g.free d);exact q k none ek er M _ D [] (λb o z e=>g2 _ _ (g _ _ (Y b o z e))) ((R1.same g).same g2) f1 f2 ZM .nil
 | some i=>
  have hi:=M i rfl;obtain⟨j,pl,rr,ew,hj,h0⟩:=D7 O.wf k _ i hi rfl;have T:WO X.ts k (some i)=rr++[(j,pl)]:=ew;have es:MW X.ts k (some i)=WV (gd X.ts j).rows k:=by
   unfold MW;rw[T,List.getLast?_append];rfl
  rw[T] at C;have ln:=Paired.length C;rw[zW,vB] at ln;have hu:J[J.length-1]? = some (J[J.length-1]'∅):=zU _
  obtain⟨p,ep,t,fv,et,ht,FA⟩:=Paired.ixR C hu;have e1:p=(j,pl):=by
   rw[<-ln,Nat.add_sub_cancel,xQ (zY _),Nat.sub_self] at ep;exact(zG.inj ep).symm
  subst e1;rw[et] at hu;have ne:J.isEmpty=false:=by
   cases J with
   | nil=>simp at ln
   | cons _ _=>rfl
  rw[ne];obtain⟨tq,lq,L,rfl,e4,W,a4,e6,e7⟩:=FA.same g;have kr:=e6 h0;have lv:L.length=(gd X.ts j).rows.length:=by have:=kr.length;rw[<-this];exact zX _
  have l4:=((O.wf j _ (YZ hj)).leaf h0).2;refine Zk ⟨_,rfl,_,rfl,.inl ⟨S,_,_,.ref t,rfl,rfl,ZG.of (g _ _ hS),C8 (j:=1) (zY _) ∅ hu,t,_,_,.ref tq,rfl,rfl,Zh.of (g _ _ ht),rfl,tq,_,_,.ref lq,rfl,rfl,Zh.of e4,rfl,?_⟩⟩
  obtain⟨N,hv⟩:=O.key;subst ek;obtain⟨kv,fk⟩:=hv;have t2:Z3 H V:=λb xs e=>g _ _ (Y b _ (ZV e O.sh.sh.looks) e);have VR:=kv.mono t2 _ _;refine⟨_,rfl,lq,rfl,⟨L,ZG.of W⟩,Ng (n:=L.length) (λi z=>L[i]? = some z) (λn=>((gd X.ts j).rows.getD n rd).1.eqb k) (λD n G u=>ZC V u/\V D=none/\jY V (WV ((gd X.ts j).rows.take n) k) G) (Yq ∅)
   (λD n G u U l=>⟨L,L[n],ZG.of (l.1 _ _ W),by simp[U]⟩) (λD n G u z H4 U l hy=>⟨hy.1,hy.2 L (ZG.of (l.1 _ _ W))⟩) (λD G u l=>⟨L,ZG.of (l.1 _ _ W),zY _⟩)
   (λD hD=>⟨ZU hD _,hD,.nil⟩) (λD n G u z R U hz l B hB=>?_) (λD n G u z R U hz hk l B hB=>?_) (λD n G u R U hk l=>?_) (λD G u R l=>?_)⟩
  ·obtain⟨m,d,y⟩:=l;obtain⟨a,vk,vv,x,rfl,ea,c1,c2⟩:=Q0 kr hz;have a0:=((O.wf j _ (YZ hj)).inn _ (zK x)).1;exact⟨_,rfl,a,_,_,vk,rfl,rfl,Zh.of (m _ _ ea),rfl,_,rfl,.mk _ _ (c1.sm m) (VR.sm m) (zS (Um _ 3 a0) (by decide)) ⟨_,rfl,hB u R ⟨m,d,y⟩⟩⟩
  ·obtain⟨m,d,y⟩:=l;obtain⟨a,vk,vv,x,rfl,ea,c1,c2⟩:=Q0 kr hz;refine⟨_,rfl,a,_,_,vv,rfl,rfl,Zh.of (m _ _ ea),rfl,hB _ u R ⟨WX m d,d,?_⟩⟩;unfold WV at y⊢;rw[OB _ x,aO hk,zE];exact y.append (.cons c2 .nil)
  ·obtain⟨m,d,y⟩:=l;have x:(gd X.ts j).rows[n]? = some ((gd X.ts j).rows.getD n rd):=by rw[zT,zU ∅];rfl
   exists m,d;unfold WV at y⊢;rw[OB _ x,aM (by rw[hk];exact zV),yS]
   exact y
  ·obtain⟨m,d,y⟩:=l;rw[yV ∅,<-es] at y
   obtain⟨f1,f2⟩:=I (g.free d);exact q k (some i) rfl er M u D G (λb o z e=>m _ _ (g _ _ (Y b o z e))) ((R1.same g).same m) f1 f2 R (y.sm m)
def ZIU{g:Type}{p:g->Bool}{A C:List g}{b:g}(h:((A++b::C).filter p).length-1=A.length)(k:∀ c∈C,p c=true->p b=true/\∀ a∈A,p a=true):(A≠[]->p b=true)/\∀ c∈C,p c=false:=by
 have i:∀ c∈C,p c=false:=λc d=>by
  cases e:p c with
  | false=>rfl
  | true=>
   obtain⟨l,f⟩:=k c d e;rw[vY,List.filter_cons_of_pos l,zW,zJ,qZ.mpr f] at h;have:0<(C.filter p).length:=List.length_pos_of_mem (wB.mpr ⟨d,e⟩)
   lia
 refine⟨λf=>?_,i⟩
 cases e:p b with
 | true=>rfl
 | false=>
  have j:C.filter p=[]:=qH.mpr λc d=>by rw[i c d];exact zV
  rw[vY,List.filter_cons_of_neg (by rw[e];exact zV),j,yS] at h
  have:=vC p A;have:0<A.length:=uE.mpr f
  lia
section
variable{ts:jn}
def F7(m:WF ts){i:Nat}(l:i<ts.length)(f:(gd ts i).h≠0)(k:KT):∃ A C,(gd ts i).bs=A++Wn ts k i::C/\(A≠[]->k.lt (YK (gd ts (Wn ts k i))).lo=false)/\∀ c∈C,k.lt (YK (gd ts c)).lo=true:=by
 obtain⟨F,G,w⟩:=Ou m l f k;have u:=Eu m l f k;have p:=ZNs m l f;have d:(gd ts i).bs=(gd ts i).bs.take (XS ts k i)++Wn ts k i::(gd ts i).bs.drop (XS ts k i+1):=by
  obtain⟨t,e⟩:=yT.mp w;exact(wX (XS ts k i) _).symm.trans (by rw[sN t,e])
 have v:((gd ts i).bs.take (XS ts k i)).length=XS ts k i:=by rw[xX];lia
 have j:((gd ts i).bs.filter λb=>!k.lt (YK (gd ts b)).lo).length-1=XS ts k i:=(aM f).symm;rw[d,xE] at p;rw[<-v] at j
 conv at j=>lhs;rw[d]
 obtain⟨_,E,n⟩:=p;have o:=(wT.mp E).1;have r:∀{x y:Nat},(YK (gd ts x)).lo.lt (YK (gd ts y)).lo=true->(!k.lt (YK (gd ts y)).lo)=true->(!k.lt (YK (gd ts x)).lo)=true:=fun{x y} h q=>by
  cases e:k.lt (YK (gd ts x)).lo with
  | false=>rfl
  | true=>rw[lt_trans' _ _ _ e h] at q;cases q
 obtain⟨B,D⟩:=ZIU j λc g q=>⟨r (o c g) q,λa s=>r (n a s c (zI _ g)) q⟩;exact⟨_,_,d,λz=>by simpa using B z,λc g=>by simpa using D c g⟩
def P2(ts:jn)(k:KT)(a:Nat)(l:jm):Nat:=l.foldl (λa b=>if (!k.lt (YK (gd ts b)).lo)=true then b else a) a
def Ia{k:KT}:∀{l:jm}{a:Nat},(∀ c∈l,k.lt (YK (gd ts c)).lo=true)->P2 ts k a l=a
 | [],_,_=>rfl
 | c::l,a,h=>by
  unfold P2;rw[tF,aM (by rw[h c (zC ..)];exact zV)]
  exact Ia λx b=>h x (zI _ b)
def ZMT(m:WF ts){i:Nat}(j:i<ts.length)(f:(gd ts i).h≠0)(k:KT){b:Nat}{l:jm}(e:(gd ts i).bs=b::l):P2 ts k b l=Wn ts k i:=by
 obtain⟨A,C,c,g,d⟩:=F7 m j f k;rw[e] at c
 cases A with
 | nil=>
  cases c;exact Ia d
 | cons a A=>
  rw[uL] at c;obtain⟨rfl,rfl⟩:=List.cons.inj c;have:=g (λz=>nomatch z);unfold P2;rw[List.foldl_append,tF,aO (by rw[this];rfl)]
  exact Ia d
def ZLT{i:Nat}{t:ZP}(b:WJ ts i t){y:KT}(a:y∈t.rows.map (·.1)):y.lt (YK t).lo=false:=by
 obtain⟨r,f,d,e⟩:=OE b.ne;have c:=b.up;rw[d,yR] at c a;rw[e];rcases zF.mp a with z | z
 ·rw[z];exact PR _
 ·exact Nz _ _ ((wT.mp c).1 y z)
def Ga(a b:jw)(k:KT):WV (a++b) k=WV a k++WV b k:=by unfold WV;rw[vY,zE]
def Dh{rs:jw}{k:KT}(h:∀ r∈rs,r.1≠k):WV rs k=[]:=by
 unfold WV;rw[qH.mpr λr a z=>h r a (QZ _ _ z)];rfl
def ZI8(d:WF ts){i:Nat}(l:i<ts.length)(g:(gd ts i).h≠0)(k:KT):WV (gd ts i).rows k=WV (gd ts (Wn ts k i)).rows k:=by
 obtain⟨A,C,f,v,w⟩:=F7 d l g k;have o:=d i _ (YZ l);obtain⟨B,D,s,m⟩:=o.stem g;have p:=o.up;have x:Wn ts k i<ts.length:=by have:=(Ou d l g k).1;lia
 rw[m,f,xT,yN,zE,xE] at p;rw[m,f,xT,yN,Ga,Ga,Dh,Dh (rs:=C.flatMap _),uQ,yS]
 ·intro r a z;obtain⟨c,b,a⟩:=wZ.mp a;have j:c<ts.length:=by
   have:=(s c (by rw[f];exact yC _ (zI _ b))).1
   lia
  have e:=ZLT (d c _ (YZ j)) (zM.mpr ⟨r,a,rfl⟩);rw[z,w c b] at e;cases e
 ·intro r a z;obtain⟨c,b,_⟩:=wZ.mp a;have e:=v (λy=>by rw[y] at b;cases b)
  obtain⟨q,E,t,u⟩:=OE (d _ _ (YZ x)).ne;have n:=p.2.2 _ (zM.mpr ⟨r,a,rfl⟩) q.1 (zM.mpr ⟨q,wS _ (by rw[t];exact zC ..),rfl⟩)
  rw[z,<-u,e] at n;cases n
def Dc(b:WF ts)(k:KT):∀(n i:Nat),i<ts.length->(gd ts i).h=n->∃ j c r,VP ts k n i=r++[(j,c)]/\WV (gd ts j).rows k=WV (gd ts i).rows k
 | 0,i,a,f=>⟨i,_,[],rfl,rfl⟩
 | n+1,i,a,f=>by
  obtain⟨g,l,_⟩:=Ou b a ∅ k
  obtain⟨j,c,r,e,d⟩:=Dc b k n (Wn ts k i) ∅ ∅
  exact⟨j,c,(i,XS ts k i)::r,by rw[VP,e];rfl,by rw[d,ZI8 b a ∅]⟩
def WR(ts:jn):jq->jw
 | none=>[]
 | some i=>(gd ts i).rows
def CO(b:WF ts){a:jq}(h:∀ i,a=some i->i<ts.length):Vv ts (Z4 ts a)=WR ts a:=by
 cases a with
 | none=>rfl
 | some i=>exact Io b _ i (h i rfl) rfl
def ZRv(c:WF ts)(k:KT){a:jq}(h:∀ i,a=some i->i<ts.length):MW ts k a=WV (WR ts a) k:=by
 cases a with
 | none=>rfl
 | some i=>
  obtain⟨j,d,r,e,b⟩:=Dc c k _ i (h i rfl) rfl;unfold MW;rw[show WO ts k (some i)=r++[(j,d)] from e,List.getLast?_append];exact b
end
inductive Xa(b:jn)(k:KT)(a:jq)(H:Hp)(D d e f g:ak):Prop
 |mk(i h:jf)(c:jt)(_:H D=some (.lst [.ref d,.ref e,.ref f,.ref g,.int (UE b a)]))(_:H d=some (.lst i))(_:jY H (WV (WR b a) k) i)(_:H e=some (.lst h))(_:jY H (YH (WR b a)) h)(_:H f=some (.lst (c.map V.int)))(_:c.Perm ((Z4 b a).map λj:Nat=>(j:Int)))(_:c.Pairwise (· <= ·))(_:H g=some (.lst (iN (Wq b a))))
def Xa.off{j:jn}{k:KT}{i:jq}{H c:Hp}{D d e f g:ak}(h:Xa j k i H D d e f g)(a:∀ b∈[D,d,e,f,g],∀ o,H b=some o->c b=some o)(m:Z3 H c):Xa j k i c D d e f g:=by
 obtain⟨y,x,w,l,n,p,q,r,s,t,u,v⟩:=h;exact⟨y,x,w,a _ (by simp) _ l,a _ (by simp) _ n,p.mono m _ _,a _ (by simp) _ q,r.mono m _ _,a _ (by simp) _ s,t,u,a _ (by simp) _ v⟩
inductive V1:Sp
 |mk{H:Hp}{Q:VK}{E:XK}(c:jn)(d:ak)(g:List (Zb×V))(F:jm)(a:jq)(v:V)(k:KT):Y7 c H d g F->(∀ i,a=some i->i∈F)->(Z4 c a).length<=200->(WR c a).length<=60->ZD H k v->k.fits 3=true->(∀(e:Hp)(D h j l m:ak),ZC H e->(∀ b∈[D,h,j,l,m],H b=none)->Xa c k a e D h j l m->Q (.ref D) e)->V1 [.ref d,Zo (Zn a),v] H Q E
abbrev ZRj:jr:=["_law_record","_law_root","_law_spot","_law_leaves_here","_law_rows","_law_number","_law_reached_here","_law_side"]
def QY:ZA ZRj zEh (Zc JA):=Zr
inductive Fi(c:jn)(d:ak)(b:jq)(v:V)(D R:ak)(H:Hp)(i:Nat)(g:L2.St)(a:Hp):Prop
 |mk(e:jf)(h k l:jg):g=[some (.ref d),some (Zo (Zn b)),some v,some (.ref D),some (.ref R),h,k,l]->a D=some (.lst (iN (Wq c b)))->a R=some (.lst e)->jY a (YH (((Wq c b).take i).flatMap λj=>(gd c j).rows)) e->ZC H a->Fi c d b v D R H i g a
def ZKX{a b:Type}(g:a->List b)(l:List a)(i:Nat):((l.take i).flatMap g).length<=(l.flatMap g).length:=by
 conv=>rhs;rw[<-wX i l,xT,zW]
 exact xB _ _
def ZOB(F0:Zf K "_law_due" "_law_due" JA f fd)(T:YA mg)(DV:ZB P w K mg km 1 "_law_leaves" zEf (UY))(DB:ZB P w K mg km 1 "_law_below" zEf (W0))(DH:ZB P w K mg km 1 "_law_height" zEf (Qo))(DA:ZB P w K mg km 7 "_law_alike" zEc (YE 6)):ZI P w K mg km ZZ 8 f fd zEh (V1):=by
 refine F0.ok QY (λvs H Q E h=>(by cases h;rfl)) (λc6 A c3 s H vs Q E hr h=>?_)
 obtain⟨c,d,a0,F,g,v,k,R,G,S,c8,hv,fk,q⟩:=h;have nd:=QY.nd;have hu:=PF hr;have Y:=hr.to 1;intro Xc;refine⟨_,ZN (Zi 3 nd (Zg DV Y (Zl (pv 0) (pv 1))))
  (ZN (Zi 4 nd (YG Zj))
  (ZN (Vo PassesOwn.never rfl (X7 (pv 3)) (Xe 5 nd) (ZR (Xl (VM yK uZ uY JQ (pv 4) (ZX (Y9 K (PD hu (pv 0) (pv 5)) ZJ))))))
  (ZN (Zi 6 nd (Z2 KN rfl T.sorted KI (ZX (Zg DB Y (Zl (pv 0) (pv 1))))))
  (ZN (K2 (i:=7) [2] zEn nd rfl rfl rfl (X7 (pv 4)) (λ_ _ _ _ _=>NY (Y3 (Zg DA hr (Zl (Y9 K (pv 0) ZJ) (pv 1))))) (λ_ _ _ _ _=>Y9 K (pv 0) ZJ) ⟨rfl,.inl rfl,rfl,trivial⟩)
  (ZR (Zd (YG (EJ (pv 7) (pv 4) (pv 6) (pv 3) (Zg DH Y (Zl (pv 0) (pv 1))))))))))),?_⟩
 have a7:=R.rcd.lt;have hw:=R.wf;have a3:∀ i,g=some i->i<c.length:=λi e=>a7 i (G i e);have a6:∀ j∈F,∀ b∈(gd c j).bs,b∈F:=λj hj b hb=>R.sub hj hb;have c0:=Ev a6 G;have er:(Wq c g).flatMap (λj=>(gd c j).rows)=WR c g:=CO hw a3;have c7:∀ r∈WR c g,r.fit:=by
  cases g with
  | none=>intro r hr;cases hr
  | some i=>exact(hw i _ (YZ (a3 i rfl))).inn
 refine⟨_,rfl,_,rfl,.mk c d a0 F g R G S λH1 D s1 nD eD=>?_⟩;exists Zu;intro r nr;have g1:=ZU nr (.lst []);have eR:=ZM (H:=H1) (a:=r) (o:=.lst []);have Dr:D≠r:=ZY eD nr;generalize upd H1 r (.lst [])=H2 at g1 eR⊢;have a2:H r=none:=s1.free nr;refine⟨_,rfl,D,rfl,⟨_,ZG.of (g1 _ _ eD)⟩,Pp (K:=K) (a:=D) (xs:=iN (Wq c g)) (Fi c d g v D r H) ⟨[],_,_,_,rfl,g1 _ _ eD,eR,.nil,s1.trans g1⟩ (λi σ H' _ l=>by obtain⟨_,_,_,_,_,h,_⟩:=l;exact ZG.of h) ?_ ?_⟩
 ·rintro i u σ H3 hz ⟨p,x5,x6,x7,rfl,X,x,ks,s3⟩;obtain⟨j,ej,rfl⟩:=O5 hz;have mj:=zK ej;obtain⟨m1,m2⟩:=wB.mp mj;have hj:=c0 j m1;have h0:(gd c j).h=0:=of_decide_eq_true m2;obtain⟨tp,u,us,hg,a8,a9,w1,w2⟩:=(R.same s3).get hj;have ku:=w1 h0;have st:((Wq c g).take (i+1)).flatMap (λj=>(gd c j).rows)=((Wq c g).take i).flatMap (λj=>(gd c j).rows)++(gd c j).rows:=by
   rw[yM,ej,xT];simp
  have lr:=ZKX (λj=>(gd c j).rows) (Wq c g) (i+1);rw[er,st,zW] at lr;have lk:=ks.length;have lu:=ku.length;unfold YH at lk lu;rw[zX] at lk lu;exists _,rfl,.inl ⟨rfl,_,ZG.of x⟩,_,rfl,_,rfl,d,.ref tp,rfl,hg,tp,_,_,_,rfl,rfl,Zh.of a8,rfl,r,u,p,us,rfl,rfl,x,a9,by lia
  have sx:ZE r H3 (upd H3 r (.lst (p++us))):=(ZE.refl r H3).upd;have tx:=sx.tups x;refine⟨p++us,_,_,_,rfl,by rw[ZS Dr];exact X,ZM,?_,WX s3 a2⟩
  rw[st,L0];exact(ks.mono tx _ _).append (ku.mono tx _ _)
 ·rintro σ H3 ⟨W,x5,x6,x7,rfl,X,x,ks,s3⟩;rw[yV (by unfold iN;rw[zX];exact zY _),er] at ks
  have lk:=ks.length;unfold YH at lk;rw[zX] at lk;refine⟨_,rfl,_,rfl,.mk c d a0 F g (R.same s3) G S λH4 B C s4 nB eB pm=>?_⟩;have a4:=s3.trans s4;have lf:=pm.length_eq;have en:iN C=(C.map λj:Nat=>(j:Int)).map V.int:=by
   unfold iN;rw[xO];rfl
  rw[en] at eB;exists B,_,ZG.of eB,by rw[zX];lia
  intro N ns nN hp hs;have gN:=ZU nN (.lst (ns.map V.int));have eN:=ZM (H:=H4) (a:=N) (o:=.lst (ns.map V.int));generalize upd H4 N (.lst (ns.map V.int))=H5 at gN eN⊢;have I:=a4.trans gN;have a1:=s4.trans gN;have y:=a1 _ _ x;have Z:=ks.sm a1;refine⟨_,rfl,r,rfl,⟨W,ZG.of y⟩,Ng (n:=W.length) (λi z=>W[i]? = some z) (λn=>((WR c g).getD n rd).1.eqb k) (λE n p M=>ZC H5 M/\H5 E=none/\jY H5 (WV ((WR c g).take n) k) p) (Yq ∅)
   (λE n p M hn l=>⟨W,W[n],ZG.of (l.1 _ _ y),by simp[hn]⟩) (λE n p M z H7 hn l hy=>⟨hy.1,hy.2 W (ZG.of (l.1 _ _ y))⟩) (λE p M l=>⟨W,ZG.of (l.1 _ _ y),zY _⟩)
   (λE hE=>⟨ZU hE _,hE,.nil⟩) (λE n p M z eE hn hz l B hB=>?_) (λE n p M z eE hn hz hk l B hB=>?_) (λE n p M eE hn hk l=>?_) (λE p M eE l=>?_)⟩
  ·obtain⟨t,U,J⟩:=l;obtain⟨a,vk,vv,O,rfl,ea,c1,c2⟩:=Q0 Z hz;refine⟨_,rfl,a,_,_,vk,rfl,rfl,Zh.of (t _ _ ea),rfl,_,rfl,_,_,_,k,3,rfl,c1.sm t,(hv.sm I).sm t,N3 k 3 fk,by decide,λH7 s7=>⟨_,rfl,hB H7 (s7 _ _ eE) ⟨t.trans s7,U,J⟩⟩⟩
  ·obtain⟨t,U,J⟩:=l;obtain⟨a,vk,vv,O,rfl,ea,c1,c2⟩:=Q0 Z hz;refine⟨_,rfl,a,_,_,vv,rfl,rfl,Zh.of (t _ _ ea),rfl,hB _ M eE ⟨WX t U,U,?_⟩⟩;unfold WV at J⊢;rw[OB _ O,aO hk,zE];exact J.append (.cons c2 .nil)
  ·obtain⟨t,U,J⟩:=l;have O:(WR c g)[n]? = some ((WR c g).getD n rd):=by rw[zT,zU ∅];rfl
   exists t,U;unfold WV at J⊢;rw[OB _ O,aM (by rw[hk];exact zV),yS]
   exact J
  ·obtain⟨t,U,J⟩:=l;rw[yV ∅] at J
   have c4:=I.trans t;refine⟨_,rfl,_,rfl,_,rfl,_,rfl,_,rfl,_,rfl,.mk c d a0 F g (R.same c4) G λH7 s7=>?_⟩;have a5:=t.trans s7;exists Zu;intro L nL;have gL:=ZU nL (.lst [.ref E,.ref r,.ref N,.ref D,.int (UE c g)]);have m:=a5.trans gL;have c5:=I.trans m;refine q _ L E r N D c5 (λb hb=>?_) ⟨p,W,ns,ZM,gL _ _ (s7 _ _ eE),J.sm m,m _ _ y,Z.sm m,m _ _ eN,hp.trans (pm.map _),hs,m _ _ (a1 _ _ X)⟩;simp only[zF,wY,or_false] at hb;rcases hb with z | z | z | z | z <;> subst z
   ·exact(I.trans a5).free nL
   ·exact I.free U
   ·exact a2
   ·exact a4.free nN
   ·exact nD
inductive Jt(x y:V)(H:Hp)(Q:VK):Prop
 |mk(a b:_)(_:ZD H a x)(_:ZD H b y)(_:a.cmp b=true)(_:a.depth<=200)(_:Q (.bl (!b.plt a)) H)
def ZPI{k:Nat}(i:ZT k X.A):Yd X (aA .LtE) Jt:=by
 intro c s m H x y v u Q I j l h;obtain⟨a,b,d,e,f,g,q⟩:=h;exact Jr true a.depth a b X.A v u (zY _) (Vt I a x v d j) (Vt I b y u e l) f (ZT.key i g) X.prog X.w X.xe _ ⟨.bl _,H,I,rfl,q⟩
inductive Qd:Sp
 |mk{H:Hp}{Q:VK}{E:XK}(g:jn)(d:ak)(b:List (Zb×V))(F:jm)(e:jq)(v:V)(k:KT):Y7 g H d b F->(∀ i,e=some i->i∈F)->(∀ j∈F,Uu (gd g j))->ZD H k v->k.fits 3=true->(∀(a:Hp)(D:ak)(c:jt),ZC H a->H D=none->a D=some (.lst (c.map V.int))->c.Perm (((WO g k e).map (·.1)).map λj:Nat=>(j:Int))->c.Pairwise (· <= ·)->Q (.ref D) a)->Qd [.ref d,Zo (Zn e),v] H Q E
abbrev BM:jr:=["_law_record","_law_root","_law_spot","_law_found","_law_number","_law_kind","_law_what","_law_branch","_law_least"]
def P1:ZA BM zEh (Zc Kc):=Zr
inductive FU(c:jn)(d:ak)(g:jq)(v:V)(k:KT)(D:ak)(F:jm)(H:Hp)(m:Nat)(h:L2.St)(e:Hp):Prop
 |mk(a:jq)(b:jO)(j l n o:jg):h=[some (.ref d),some (Zo (Zn g)),some v,some (.ref D),some (Zo (Zn a)),j,l,n,o]->m=N6 c a->WO c k g=b++WO c k a->(∀ i,a=some i->i∈F)->ZC H e->e D=some (.lst (iN (b.map (·.1))))->FU c d g v k D F H m h e
inductive Fu(e:jn)(d:ak)(c:jq)(v:V)(k:KT)(D t:ak)(g h:jg)(b:Nat)(l:jm)(H:Hp)(i:Nat)(j:L2.St)(a:Hp):Prop
 |mk(m n:jg):j=[some (.ref d),some (Zo (Zn c)),some v,some (.ref D),some (Zo (Zn (some (P2 e k b (l.take i))))),g,h,m,n]->a t=some (.tup (iN l))->ZC H a->Fu e d c v k D t g h b l H i j a
def Bp(F0:Zf K "_law_on_way" "_law_on_way" Kc f fd)(T:YA mg)(DV:ZB P w K mg km 1 "_law_leaves" zEf (UY))(DR:ZB P w K mg km 6 "_law_rank" zEn (XI 5)):ZI P w K mg km ZZ 7 f fd zEh (Qd):=by
 refine F0.ok P1 (λvs H Q E h=>(by cases h;rfl)) (λi1 A e7 s H vs Q E hr h=>?_)
 obtain⟨n,d,e6,F,U,v,k,R,a2,a6,hv,fk,q⟩:=h;have C:=P1.nd;have hu:=PF hr;have c7:=hr.to 1;intro Xc;refine⟨_,ZN (Zi 3 C (YG Zj))
  (ZN (Zi 4 C (pv 1))
  (ZN (Pj PassesOwn.never (WA (OF (pv 4)))
   (ZN (Xl (VM yK xH xG Uh (pv 3) (ZX (pv 4))))
   (ZN (OC (PD hu (pv 0) (pv 4)) (Mb rfl (QX (Xe 5 C) (QX (Xe 6 C) MX))))
   (ZN (Zi 4 C O1)
   (ZR (Zv (Yc VH (pv 5) Xm (Z9 _))
    (ZN (Zi 4 C (Y9 K (pv 6) ZJ))
    (ZR (Vo PassesOwn.never rfl (Mm (ED B2 (pv 6) (JH ZJ) AG)) (Xe 7 C)
     (ZN (Zi 8 C (Y9 K (Y9 K (Y9 K (PD hu (pv 0) (YJ K (Zg DV c7 (Zl (pv 0) (pv 7))) ZJ)) ZJ) ZJ) ZJ))
     (ZR (Zv (Yc (ZPI hr) (Zg DR hr (ZX (pv 8))) (Zg DR hr (ZX (pv 2))) (Z9 _)) (ZR (Zi 4 C (pv 7))) Zy)))))) Zy))))))
  (ZR (Zd (Z2 KN rfl T.sorted KI (ZX (pv 3))))))),?_⟩
 have M:=R.rcd.lt;have N:=R.wf;have dk:=Um k 3 fk;have lw:(WO n k U).length<=61:=by
  cases U with
  | none=>exact zL _
  | some i=>
   show (VP n k (gd n i).h i).length<=61;rw[LJ];have:=(a6 i (a2 i rfl)).1
   lia
 exists Zu;intro D nD;have gD:=ZU nD (.lst []);have eD:=ZM (H:=H) (a:=D) (o:=.lst []);generalize upd H D (.lst [])=H1 at gD eD⊢;exists _,rfl;exists FU n d U v k D F H,⟨_,U,[],_,_,_,_,rfl,rfl,rfl,a2,gD,eD⟩;rintro m σ H2 ⟨c0,r,x5,x6,x7,x8,rfl,rfl,x,e4,s2,B⟩;have i0:r.length<=61:=by
  have e:=congrArg wQ x;rw[zW] at e
  lia
 cases c0 with
 | none=>
  have e':WO n k U=r:=by rw[x];exact yS _
  rw[e'] at q;have en:iN (r.map (·.1))=((r.map (·.1)).map λj:Nat=>(j:Int)).map V.int:=by
   unfold iN;rw[xO (g:=V.int)];rfl
  rw[en] at B;refine⟨_,rfl,_,rfl,Zk ⟨_,rfl,D,_,ZG.of B,by rw[zX,zX];lia,λp ns np hp hs=>?_⟩⟩
  exact q _ p ns (s2.trans (ZU np _)) (s2.free np) ZM hp hs
 | some j=>
  have S:=e4 j rfl;have L:=M j S;have ok:=N j _ (YZ L);have i3:(iN (r.map (·.1))).length=r.length:=by unfold iN;rw[zX,zX]
  refine⟨_,rfl,_,rfl,Zw ⟨_,λ_ _ z=>z,?_⟩⟩;exists _,rfl,.inl ⟨rfl,_,ZG.of B⟩,_,rfl,D,_,_,rfl,rfl,B,nn ∅
  have G:upd H2 D (.lst (iN (r.map (·.1))++[Zo (Zn (some j))])) D=some (.lst (iN ((r++[(j,XS n k j)]).map (·.1)))):=by
   rw[ZM];unfold iN;rw[zE,zE];rfl
  have s3:ZC H (upd H2 D (.lst (iN (r.map (·.1))++[Zo (Zn (some j))]))):=WX s2 nD;generalize upd H2 D (.lst (iN (r.map (·.1))++[Zo (Zn (some j))]))=H3 at G s3⊢;have R3:=R.same s3;obtain⟨tp,u,us,hg,c8,a4,w1,w2⟩:=R3.get S;exists _,rfl,_,rfl,d,.ref tp,rfl,hg,tp,_,rfl,Zh.of c8,rfl,_,_,rfl,_,_,rfl,rfl;exists _,rfl,rfl,_,rfl;rw[Mx];by_cases I:(gd n j).h=0
  ·rw[aJ (show ¬ (gd n j).h≠0 from λz=>z I)];refine Zk ⟨0,uU _,none,r++[(j,XS n k j)],_,_,_,_,rfl,rfl,?_,(λi z=>nomatch z),s3,G⟩;rw[x];show r++VP n k (gd n j).h j=_;rw[I];exact(yS _).symm
  ·rw[aK (show (gd n j).h≠0 from I)];have eu:=w2 I;subst eu;obtain⟨b2,b4,b3,er⟩:=ok.stem I;obtain⟨b,l,O⟩:∃ b l,(gd n j).bs=b::l:=pP (λz=>by rw[z] at b2;exact absurd b2 (by decide))
   have a5:(iN (gd n j).bs).length=l.length+1:=by rw[O];unfold iN;rw[zX,zJ]
   have l1:1<=l.length:=by rw[O,zJ] at b2;lia
   have e0:(iN (gd n j).bs)[0]? = some (Zo (Zn (some b))):=by rw[O];rfl
   have si:HT.sIx (iN (gd n j).bs).length 0 (some 1)=1:=by
    have:=HT.sIx_nat (iN (gd n j).bs).length 0 1;rw[a5] at this⊢;rw[show (1:Int)=((1:Nat):Int) from rfl,this]
    lia
   have ec:Qx (iN (gd n j).bs) (some 1) none=iN l:=by
    unfold Qx;rw[si,HT.sIx_none,a5,O];show (iN l).take (l.length+1-1)=iN l;rw[yV];unfold iN;rw[zX];exact zY _
   refine Zw ⟨_,rfl,u,_,_,_,rfl,rfl,Zh.of a4,Xo (j:=0) e0,?_⟩;exists _,rfl,_,rfl,u,_,rfl,Zh.of a4,(λz=>by rw[si] at z;exact absurd z.1 (by decide))
   intro t nt;rw[ec];have a1:=ZU nt (.tup (iN l));have et:=ZM (H:=H3) (a:=t) (o:=.tup (iN l));generalize upd H3 t (.tup (iN l))=H4 at a1 et⊢;refine⟨t,rfl,⟨_,Zh.of et⟩,ZO0 (K:=K) (a:=t) (xs:=iN l) (Fu n d U v k D t _ _ b l H3) ⟨_,_,rfl,et,a1⟩ (λi σ H' _ hP=>by obtain⟨_,_,_,h,_⟩:=hP;exact Zh.of h) ?_ ?_⟩
   ·rintro i z σ H5 hz ⟨x7,x8,rfl,Z,W⟩;obtain⟨c,Y,rfl⟩:=O5 hz;have mc:c∈(gd n j).bs:=by rw[O];exact zI _ (zK Y)
    have hc:=R.sub S mc;have J:=M c hc;have R5:=R3.same W;have lp:(Z4 n (some c)).length<=119:=Lz N λi e=>by cases e;exact⟨J,(a6 c hc).2⟩
    obtain⟨y,yl,ey,e2,my,c4⟩:=Cm N J;have hy:y∈F:=Ev (rn:=some c) (λj S b hb=>R.sub S hb) (λi e=>by cases e;exact hc) y my
    refine⟨_,rfl,_,rfl,_,rfl,.mk n d e6 F (some c) R5 (λi e=>by cases e;exact hc) ∅ λH6 V6 s6 nV eV=>?_⟩
    have R6:=R5.same s6;obtain⟨a8,u6,a9,c6,a3,c9,e9,i4⟩:=R6.get hy;have k6:=e9 e2;have e1:(iN (Wq n (some c)))[0]? = some (.int (y:Nat)):=by
     show (iN ((Z4 n (some c)).filter (VJ n)))[0]? = _;rw[ey];rfl
    have e3:=M y hy;have ny:=(N y _ (YZ e3)).ne;have lk:=k6.length;unfold YH at lk;rw[zX] at lk;have:0<a9.length:=by rw[<-lk];exact uE.mpr ny
    obtain⟨a,vk,vv,i2,c3,c5,c1,c2⟩:=Q0 k6 (zU this);have X:a9[0]? = some (.ref a):=by rw[zU this,c3]
    rw[c4] at c1;have fb:=(HS (N c _ (YZ J))).1;have df:=Um _ 3 fb;refine .inl ⟨V6,_,_,_,rfl,rfl,ZG.of eV,Xo (j:=0) e1,d,.ref a8,rfl,c6,a8,_,_,_,rfl,rfl,Zh.of a3,rfl,u6,_,_,_,rfl,rfl,Zh.of c9,Xo (j:=0) X,a,_,_,vk,rfl,rfl,Zh.of c5,rfl,?_⟩;exists _,rfl,vk,_,3,rfl,c1,fb,by lia
    intro v1 H7 e5 s7;have e8:=s3.trans (W.trans (s6.trans s7));exists _,rfl,v,k,3,rfl,hv.sm e8,fk,by lia
    intro v2 H8 VR s8;have d1:=LW (YK (gd n c)).lo;exists _,_,e5.sm s8,VR,K1 _ _,∅,_,rfl
    rw[Ig];have a7:=W.trans (s6.trans (s7.trans s8));have st:P2 n k b (l.take (i+1))=if (!k.lt (YK (gd n c)).lo)=true then c else P2 n k b (l.take i):=by
     rw[yM,Y];unfold P2;rw[List.foldl_append];rfl
    have a0:=(s6.trans (s7.trans s8)) _ _ Z;generalize (!k.lt (YK (gd n c)).lo)=p at st⊢
    cases p with
    | true=>exact Zw ⟨_,rfl,_,_,by rw[st];rfl,a0,a7⟩
    | false=>exact Zk ⟨_,_,by rw[st];rfl,a0,a7⟩
   ·rintro σ H5 ⟨x7,x8,rfl,Z,W⟩;rw[yV (by unfold iN;rw[zX];exact zY _),ZMT N L I k O]
    obtain⟨n1,n2,n3⟩:=Ou N L I k;refine⟨N6 n (some (Wn n k j)),(show (gd n (Wn n k j)).h+1<(gd n j).h+1 by lia),some (Wn n k j),r++[(j,XS n k j)],_,_,_,_,rfl,rfl,?_,λi z=>by cases z;exact R.sub S (zK n3),s3.trans W,W _ _ G⟩
    rw[x];show r++VP n k (gd n j).h j=_;rw[<-n2,xU];rfl
def ZJb{t:Sp}(F:Zf K "reached" "reached" Nm f fd)(L:Yh K mg kh ki)(j:ZL P w K mg km (XF P w) 4 kh "look" zEa (Yi kh CT))(i:ZB P w K mg km 1 "is_leaf" zE6 YD)(l:ZB P w K mg km 64 "reached" zEd t):ZI P w K mg km (XF P w) 65 f fd zEd (Yi kh CT):=by
 refine F.okD X2 (λu H Q E h=>(by cases h;rfl)) (λm A g s H u Q E a h=>?_)
 obtain⟨R,q,k⟩:=h;rename_i S d y n r z x
 have e:=X2.nd;have b:=a.to 1;have c:=a.to 4;intro v;refine⟨_,ZN (Zv (WA (Lo (pv 1))) (ZR (Zd (YG Zj))) Zy)
  (ZN (Zi 2 e (XQ (E:=E) (pv 0) L.cS j c (NN VI λ_ _ _ h=>h) (ZX (pv 1))))
  (ZN (Zi 3 e (YG (ZX (Yw (Zl (pv 1) (pv 2))))))
  (ZN (Zv (UB (Y3 (Zg i b (ZX (pv 2))))) (ZR (Vo K5 rfl (X7 (Y9 K (pv 2) ZJ)) (Xe 4 e)
   (ZR (Xl (VM yK uZ uY Jn (pv 3) (ZX (Zg l a (Zl (pv 0) (pv 4))))))))) Zy)
  (ZR (Zd (pv 3)))))),?_⟩
 obtain⟨o,p⟩:=R.self;exact⟨_,rfl,_,rfl,Zk ⟨_,rfl,S,o,_,rfl,p,rfl,_,rfl,.mk R q k⟩⟩
def ZFh(F:Zf K "height_of" "height_of" Lx f fd)(T:YA mg)(L:Yh K mg kh ki)(c:ZL P w K mg km (XF P w) 4 kh "label" zEa (X3 kh ki CT)):ZI P w K mg km (XF P w) 5 f fd zEd (Yi kh CT):=by
 refine F.okD F1 (λq H Q E h=>(by cases h;rfl)) (λe A b s H q Q E j h=>?_)
 obtain⟨R,l,k⟩:=h;rename_i S d m n a o x
 obtain⟨t,p⟩:=T.height;intro r;refine⟨_,ZN (Zv (WA (Lo (pv 1))) (ZR (Zd (Q3 Qz ZJ))) Zy)
  (ZR (Zd (Y9 K (XQ (E:=E) (pv 0) L.cS c j (NN VI λ_ _ _ h=>h) (ZX (pv 1))) (WP (v:=.int 0) rfl p ⟨_,rfl⟩)))),?_⟩
 obtain⟨g,i⟩:=R.self;exact⟨_,rfl,_,rfl,Zk ⟨_,rfl,S,g,_,rfl,i,rfl,_,rfl,S,d,m,n,a,o,x,rfl,R,(λu z=>(by rw[l] at z;cases z)),λ_=>k⟩⟩
def ZEi:az "ValueError" = some (.type "ValueError"):=by decide +kernel
def BI{X:Cx}{K:zZ}{e:Expr}{a:TE}{f:Str}{pos:Pos}(d:PE X e a)(c:attributeBase e f X.env (aH e X.env)=aH e X.env)(b:X.K=K:=by rfl):PE X (.Attribute e f pos) (Hx K a f):=by
 subst b;exact Bs d c
def IF(K:zZ):R2:=λx y H Q=>∃(p b:ak)(a c:List Bool),x=.ref p/\y=.ref b/\ZG K H p (a.map V.bl)/\ZG K H b (c.map V.bl)/\a.length=c.length/\Q (.bl ((yX a.length).all λj=>a.getD j false==c.getD j false)) H
def Hr{X:Cx}{K:zZ}(b:X.A.units<cLine)(a:X.K=K:=by rfl):Yd X (aA .Eq) (IF K):=by
 subst a;exact ZMu b
def Jb{b:jn}{a:jq}(h:∀ i,a=some i->i<b.length):Pa b (Zn a)=true:=by
 cases a with
 | none=>rfl
 | some i=>exact aK ⟨∅,by have:=h i rfl;lia⟩
structure Cl(K:zZ)(mg:jc)(CB CT CK CP:ak):Prop where
 base:mg "TwigError" = some (.ref CB)
 n1:mg "NoTwig" = some (.ref CT)
 n2:mg "NoKey" = some (.ref CK)
 n3:mg "NoPlace" = some (.ref CP)
 ty:xN K (.ref CB)=some (.type "type")
 mB:yI K CB (.type "BaseException")=some true
 subT:yI K CT (.ref CB)=some true
 subK:yI K CK (.ref CB)=some true
 xk:WM K CK
 tt:yZ K (.ref CT) (.ref CT)=some true
 tk:yZ K (.ref CT) (.ref CK)=some false
 tp:yZ K (.ref CT) (.ref CP)=some false
 tv:yZ K (.ref CT) (.type "ValueError")=some true
 kt:yZ K (.ref CK) (.ref CT)=some false
 kk:yZ K (.ref CK) (.ref CK)=some true
 kp:yZ K (.ref CK) (.ref CP)=some false
 kv:yZ K (.ref CK) (.type "ValueError")=some true
inductive Xf(kh ki CT CK:ak)(b:jf)(H:Hp)(Q:VK)(E:XK):Prop
 |mk(a:Int)(S r x:V)(_:b=[.int a,S,r,x])(_:a=0->Y4 kh ki CT CK [S,r,x] H Q E)(_:a=1->UM (Xb kh ki) kh CT [S,r] H Q E)(_:a=2->UM (Y2 kh ki) kh CT [S,r] H Q E)(_:a=3->UM (Yo kh ki) kh CT [S,r] H Q E)(_:a≠0->a≠1->a≠2->a≠3->UM (Yg kh ki) kh CT [S,r] H Q E)
abbrev Uy:jr:=zEu
def ZQB:ZA Uy Uy (Zc HY):=Zr
def ZN2(k:Zf K "_law_told" "_law_told" HY f fd)(d:Yu P w K mg km 11 "value_of" zEk (Y4 kh ki CT CK))(e:Yu P w K mg km 66 "rows_of" zEd (UM (Xb kh ki) kh CT))(g:Yu P w K mg km 66 "twigs_of" zEd (UM (Y2 kh ki) kh CT))(i:Yu P w K mg km 66 "leaves_of" zEd (UM (Yo kh ki) kh CT))(j:Yu P w K mg km 5 "height_of" zEd (UM (Yg kh ki) kh CT)):ZI P w K mg km (XF P w) 67 f fd Uy (Xf kh ki CT CK):=by
 refine k.kD ZQB λp A b s H B Q E a h=>?_;obtain⟨C,S,r,x,rfl,q,t,u,v,y⟩:=h;intro z;refine⟨_,ZN (Zv (WA (OX (pv 0) ZJ)) (ZR (Zd (U4 VI d (a.mono (by decide)) (QT (pv 1) (pv 2) (pv 3))))) Zy)
  (ZN (Zv (WA (OX (pv 0) ZJ)) (ZR (Zd (U4 VI e a (Zl (pv 1) (pv 2))))) Zy)
  (ZN (Zv (WA (OX (pv 0) ZJ)) (ZR (Zd (U4 VI g a (Zl (pv 1) (pv 2))))) Zy)
  (ZN (Zv (WA (OX (pv 0) ZJ)) (ZR (Zd (U4 VI i a (Zl (pv 1) (pv 2))))) Zy)
  (ZR (Zd (U4 VI j (a.mono (by decide)) (Zl (pv 1) (pv 2)))))))),?_⟩
 refine⟨_,rfl,_,_,rfl,rfl,_,rfl,Xw (λc=>?_) (λl=>?_)⟩
 ·exact⟨_,rfl,_,rfl,_,rfl,q (by simpa using c)⟩
 refine⟨_,rfl,_,_,rfl,rfl,_,rfl,Xw (λc=>?_) (λm=>?_)⟩
 ·exact⟨_,rfl,_,rfl,t (by simpa using c)⟩
 refine⟨_,rfl,_,_,rfl,rfl,_,rfl,Xw (λc=>?_) (λn=>?_)⟩
 ·exact⟨_,rfl,_,rfl,u (by simpa using c)⟩
 refine⟨_,rfl,_,_,rfl,rfl,_,rfl,Xw (λc=>?_) (λo=>?_)⟩
 ·exact⟨_,rfl,_,rfl,v (by simpa using c)⟩
 exact⟨_,rfl,_,rfl,y (by simpa using l) (by simpa using m) (by simpa using n) (by simpa using o)⟩
inductive Ya(kh ki:ak)(g:jf)(H:Hp)(Q:VK)(E:XK):Prop
 |mk(X:YL)(e:ak)(c:Nat)(d:jf)(b:Int)(r:jy)(v:V)(N:ak->Prop)(o:jJ)(_:g=[.int b,.ref X.S,Zo r,v])(_:Z1 kh ki H X e c d)(_:WF X.ts)(_:∀ i,i<X.ts.length->(gd X.ts i).h<=60)(_:d.length<=500)(_:U5 N H o v)
  (_:(b=0/\o=none)\/∃ x,r=some x/\inT X.ts x=false)
  (_:∀ x,r=some x->inT X.ts x=false->∀ a t,ZC H a->a t=some (.tup [.str "twig",.int x])->Q (.ref t) a) (_:Pa X.ts r=true->b=0->∀ a t,ZC H a->a t=some (.tup [.str "spot",.bl true])->Q (.ref t) a)
abbrev ZMQ:jr:=["_law_way","_law_shelf","_law_root","_law_spot","e","_law_some"]
def Wv:ZA ZMQ Uy (Zc Kv):=Zr
def At(F0:Zf K "_law_refusal" "_law_refusal" Kv f fd)(T:YA mg)(NT:XN P w K mg km "NoTwig" CT)(L:Cl K mg CB CT CK CP)(DW:Yu P w K mg km 67 "_law_told" Uy (Xf kh ki CT CK)):ZI P w K mg km ZZ 68 f fd Uy (Ya kh ki):=by
 refine F0.ko Wv λa4 A a3 s H vs Q E hr h=>?_;obtain⟨X,lk,c,ls,wy,r,v,N0,o,rfl,R,hw,a1,Z,hv,D,k1,k3⟩:=h;have nd:=Wv.nd;have hu:=hr.units0;obtain⟨g,a6,FC,bC,kC,mC⟩:=DW.ex;obtain⟨fT,a5,F,_,_⟩:=NT.ex;intro Xc;refine⟨_,ZN (ZOR (i:=4) FC hr rfl mC kC bC (λE'=>VN (pv 0) (pv 1) (pv 2) (pv 3)) rfl rfl rfl rfl L.base nd rfl rfl L.ty L.mB
   (λb E'=>ZN (Zi 5 nd (YG (VN (Z2 (r:=VT K) LK rfl T.isi VA (Zl (pv 4) (WP (v:=.ref CT) rfl L.n1 rfl))) (Z2 (r:=VT K) LK rfl T.isi VA (Zl (pv 4) (WP (v:=.ref CK) rfl L.n2 rfl)))
     (Z2 (r:=VT K) LK rfl T.isi VA (Zl (pv 4) (WP (v:=.ref CP) rfl L.n3 rfl))) (D5 (Z2 (r:=VT K) LK rfl T.isi VA (Zl (pv 4) (Vs (v:=.ty "ValueError") rfl T.ValueError ZEi rfl)))))))
    (ZN (Zv (Yc (r:=IF K) (Hr hu) (pv 5) (YG (VN Xr Xr Xr Xr)) (Z9 _)) (ZR (Zd (Yw (Zl Xm (BI (pv 4) (by rfl)))))) Zy)
    (ZR (Zd (Yw (Zl Xm (VX (r:=IF K) (Hr hu) (pv 5) (YG (VN Xr Xr Xr Xr)) (Z9 _)))))))))
  (ZR (Zd (Yw (ZX Xm)))),?_⟩
 have Y:∀{O:jq},r=Zn O->(∀ i,O=some i->i<X.ts.length)->∀ x,r=some x->inT X.ts x=false->False:=fun{O} e h x j d=>by
  have:=Jb h;rw[<-e,j] at this;rw[show inT X.ts x=true from this] at d;cases d
 have l:∀{x:Int},r=some x->inT X.ts x=false->∀{Q1:VK}{U:XK},Uv CT x U H->Yi kh CT [.ref X.S,Zo r] H Q1 U:=fun{x} j d {Q1 U} t=>by
  subst j;exact .mk R.sh (R.none d) t
 refine⟨_,rfl,_,rfl,_,rfl,_,rfl,(fun(I:∀ x,r=some x->inT X.ts x=false->Uv CT x _ H)=>⟨wy,_,_,_,rfl,λw0=>.mk X lk c ls r v o ⟨R,hw,a1,Z,⟨N0,hv⟩,I,λgr on p s1=>⟨CK,rfl,L.subK,λb u=>?_⟩⟩ λk O ek er a0=>?_,λw1=>.inr ?_,λw1=>.inr ?_,λw1=>.inr ?_,λw0 w1 w2 w3=>.inr ?_⟩) λx j d C p s1 W=>⟨CT,rfl,L.subT,λb u=>?_⟩⟩
 ·have N:=ZU u (XO UR b CK none);have J:upd p b (XO UR b CK none) b=some (XO UR b CK none):=ZM;have m:Le (upd p b (XO UR b CK none)) b CK:=FS J;have B:=s1.trans N;exists _,rfl,b,CK,_,false,rfl,m,L.xk,rfl,L.kt,_,rfl,b,CK,_,true,rfl,m,L.xk,rfl,L.kk,_,rfl,b,CK,_,false,rfl,m,L.xk,rfl,L.kp,_,rfl,b,CK,_,true,rfl,m,L.xk,rfl,L.kv,_,rfl,Zu;intro q nq;have G:=ZU nq (.lst ([false,true,false,false].map V.bl));have M:=ZM (H:=upd p b (XO UR b CK none)) (a:=q) (o:=.lst ([false,true,false,false].map V.bl));exists _,rfl,Zu;intro q2 y;have n:=ZU y (.lst ([true,false,false,false].map V.bl));exists q,q2,[false,true,false,false],[true,false,false,false],rfl,rfl,ZG.of (n _ _ M),ZG.of ZM,rfl,_,rfl;refine Zk ⟨_,rfl,Zu,λq4 a2=>?_⟩;have g6:=ZU a2 (.lst ([false,true,false,false].map V.bl));exists q,q4,[false,true,false,false],[false,true,false,false],rfl,rfl,ZG.of (g6 _ _ (n _ _ M)),ZG.of ZM,rfl,Zu;intro t nt;exact k3 gr w0 _ t ((((B.trans G).trans n).trans g6).trans (ZU nt _)) ZM
 ·rcases D with ⟨_,z⟩ | ⟨x,j,d⟩
  ·rw[z] at ek;cases ek
  ·exact(Y er a0 x j d).elim
 ·rcases D with ⟨z,_⟩ | ⟨x,j,d⟩
  ·lia
  ·exact l j d (I x j d)
 ·rcases D with ⟨z,_⟩ | ⟨x,j,d⟩
  ·lia
  ·exact l j d (I x j d)
 ·rcases D with ⟨z,_⟩ | ⟨x,j,d⟩
  ·lia
  ·exact l j d (I x j d)
 ·rcases D with ⟨z,_⟩ | ⟨x,j,d⟩
  ·exact absurd z w0
  ·exact l j d (I x j d)
 ·have N:=ZU u (XO UR b CT (some C));have J:upd p b (XO UR b CT (some C)) b=some (XO UR b CT (some C)):=ZM;have m:Le (upd p b (XO UR b CT (some C))) b CT:=FS J;have B:=s1.trans N;exists _,rfl,b,CT,_,true,rfl,m,F.exc,rfl,L.tt,_,rfl,b,CT,_,false,rfl,m,F.exc,rfl,L.tk,_,rfl,b,CT,_,false,rfl,m,F.exc,rfl,L.tp,_,rfl,b,CT,_,true,rfl,m,F.exc,rfl,L.tv,_,rfl,Zu;intro q nq;have G:=ZU nq (.lst ([true,false,false,false].map V.bl));have M:=ZM (H:=upd p b (XO UR b CT (some C))) (a:=q) (o:=.lst ([true,false,false,false].map V.bl));exists _,rfl,Zu;intro q2 y;have n:=ZU y (.lst ([true,false,false,false].map V.bl));exists q,q2,[true,false,false,false],[true,false,false,false],rfl,rfl,ZG.of (n _ _ M),ZG.of ZM,rfl,_,rfl;refine Zw ⟨_,rfl,UR,b,CT,C,_,_,fT,rfl,n _ _ (G _ _ J),n _ _ (G _ _ (N _ _ W)),F,rfl,Zu,λt nt=>?_⟩;exact k1 x j d _ t (((B.trans G).trans n).trans (ZU nt _)) ZM
def NR(b:jn)(k:KT)(a:jq)(c:jt):Nat->jp
 | 0=>WV (WR b a) k
 | 1=>YH (WR b a)
 | 2=>c.map .int
 | 3=>(Wq b a).map λj:Nat=>.int (j:Int)
 | _=>[]
def Na{H:Hp}:∀ a:jt,jY H (a.map .int) (a.map V.int)
 | []=>.nil
 | n::a=>.cons (.int n) (Na a)
def Gr{H:Hp}(l:jm):jY H (l.map λj:Nat=>.int (j:Int)) (iN l):=by
 have:=Na (H:=H) (l.map λj:Nat=>(j:Int));rw[xO,xO] at this;exact this
def ZLk{a b:jq}(h:Zn a=Zn b):a=b:=by
 cases a with
 | none=>
  cases b with
  | none=>rfl
  | some b=>cases h
 | some a=>
  cases b with
  | none=>cases h
  | some b=>
   have e:(a:Int)=(b:Int):=zG.inj h;have:a=b:=∅
   rw[this]
inductive Om(a d:ak)(X:YL)(k:KT)(f:jq)(i:jt)(g:Nat)(H:Hp)(h:ak)(c:Nat)(e:Hp)(u:V):Prop
 |mk(m:jm):(∀ b o,b≠h->H b=some o->e b=some o)->Z1 a d e X h c (iN m)->m.Nodup->(∀ j∈m,j∈Z4 X.ts f)->(g=0->m=(WO X.ts k f).map (·.1))->(g=4->m=[]/\u=.int (UE X.ts f))->(g≠4->∃ D l,u=.ref D/\H D=none/\D≠h/\e D=some (.lst l)/\jY e (NR X.ts k f i g) l)->Om a d X k f i g H h c e u
def ZOi{h l N M:ak}{H:Hp}{X:YL}{n:ak}{c:Nat}{f:jq}{v:V}{k:KT}{y:jt}(R:Z1 h l H X n c [])(r:WF X.ts)(w:∀ i,i<X.ts.length->Uu (gd X.ts i))(d:∀ i,f=some i->i<X.ts.length)(hv:ZD H k v)(U:k.fits 3=true)(pm:y.Perm ((Z4 X.ts f).map λj:Nat=>(j:Int)))(sr:y.Pairwise (· <= ·)){m:Nat}(h4:m<=4){Q:VK}(q:∀ g u,Om h l X k f y m H n c g u->Q u g):Xf h l N M [.int (m:Int),.ref X.S,Zo (Zn f),v] H Q E0:=by
 have lp:=Lz r λi e=>⟨d i e,(w i (d i e)).2⟩;have E:Ox h l H X n c [] f:=⟨R,r,λi e=>⟨d i e,(w i (d i e)).1⟩,by rw[sM];lia⟩
 have nd:=ZO6 r d;have rest:∀{g:Hp}{D:ak}{A:jf},P7 h l H g X n c [] f D->g D=some (.lst A)->jY g (NR X.ts k f y m) A->m≠0->m≠4->Om h l X k f y m H n c g (.ref D):=fun{g D A} B p t n0 n4=>
  ⟨Z4 X.ts f,B.fr,by have:=B.sh;rw[uQ] at this;exact this,nd,λj s=>s,λz=>absurd z n0,λz=>absurd z n4,λ_=>⟨D,A,rfl,B.free,B.ne,p,t⟩⟩
 have F:∀ j∈Z4 X.ts f,j<X.ts.length:=by
  cases f with
  | none=>intro j s;cases s
  | some i=>exact λj s=>(Nw r _ i (d i rfl) rfl j s).1
 obtain rfl | rfl | rfl | rfl | rfl:m=0\/m=1\/m=2\/m=3\/m=4:=∅
 ·refine .mk _ _ _ _ rfl (λ_=>.mk X n c [] (Zn f) v (some k) ⟨R,r,λi hi=>(w i hi).1,zL _,⟨λ_=>False,hv,U⟩,λx T L=>?_,λ_ z=>nomatch z⟩ λk' a1 O P a0 g D A W K nD C p t=>?_) (λe=>absurd e (by decide)) (λe=>absurd e (by decide)) (λe=>absurd e (by decide)) (λe=>absurd rfl e)
  ·have:=Jb d;rw[T] at this;rw[show inT X.ts x=true from this] at L;cases L
  ·cases O;have:=ZLk P;subst this;obtain⟨w1,w2⟩:=B8 r k d;rw[ZRv r k d] at t;refine q g (.ref D) ⟨(WO X.ts k f).map (·.1),W,?_,w1,w2,λ_=>rfl,λz=>absurd z (by decide),λ_=>⟨D,A,rfl,nD,C,p,t⟩⟩
   rw[uQ] at K;unfold iN;rw[xO];exact K
 ·refine .mk _ _ _ _ rfl (λe=>absurd e (by decide)) (λ_=>.inl (.mk X n c [] f E F λg D ws B p t=>q g _ (rest B p ?_ (by decide) (by decide)))) (λe=>absurd e (by decide)) (λe=>absurd e (by decide)) (λ_ e=>absurd rfl e)
  rw[CO r d] at t;exact t
 ·refine .mk _ _ _ _ rfl (λe=>absurd e (by decide)) (λe=>absurd e (by decide)) (λ_=>.inl (.mk X n c [] f E λg D G B p I J=>q g _ (rest B p ?_ (by decide) (by decide)))) (λe=>absurd e (by decide)) (λ_ _ e=>absurd rfl e)
  have e:G=y:=wO.eq_of_pairwise (le:=λa b:Int=>a<=b) (λa b _ _ Y Z=>Int.le_antisymm Y Z) J sr (I.trans pm.symm);rw[e];exact Na y
 ·exact .mk _ _ _ _ rfl (λe=>absurd e (by decide)) (λe=>absurd e (by decide)) (λe=>absurd e (by decide)) (λ_=>.inl (.mk X n c [] f E λg D B p=>q g _ (rest B p (Gr _) (by decide) (by decide)))) (λ_ _ _ e=>absurd rfl e)
 ·exact .mk _ _ _ _ rfl (λe=>absurd e (by decide)) (λe=>absurd e (by decide)) (λe=>absurd e (by decide)) (λe=>absurd e (by decide)) λ_ _ _ _=>.inl (.mk X n c [] f R d (q H _ ⟨[],λb o _ e=>e,R,.nil,(λj s=>by cases s),λz=>absurd z (by decide),λ_=>⟨rfl,rfl⟩,λz=>absurd rfl z⟩))
end Tw
namespace L2
open PySem
def P8(a:jK):Prop:=∀ i k x y:Nat,i<k->a[i]? = some x->a[k]? = some y->x<y
def Wx{e:jK}:P8 e ↔ e.toList.Pairwise (· < ·):=by
 rw[tU];constructor
 ·intro h i k a b l;exact h i k _ _ l (by rw[<-yY];exact zU a) (by rw[<-yY];exact zU b)
 ·intro h i k x y l c d;rw[<-yY] at c d;obtain⟨a,rfl⟩:=yT.mp c;obtain⟨b,rfl⟩:=yT.mp d;exact h i k a b l
def Jl{d:jK}{j:Nat}(o:P8 d):∀(f g c:Nat),c-g<=f->g<=c->c<=d.size->(∀ i x,i<g->d[i]? = some x->x<j)->(∀ i x,c<=i->d[i]? = some x->j<=x) ->
  SetTable.below.go d j f g c<=d.size/\(∀ i x,i<SetTable.below.go d j f g c->d[i]? = some x->x<j)/\∀ i x,SetTable.below.go d j f g c<=i->d[i]? = some x->j<=x
 | 0,g,c,p,w,l,a,b=>by
  have e:c=g:=∅
  subst e;exact⟨l,a,b⟩
 | f+1,g,c,p,w,l,a,b=>by
  unfold SetTable.below.go;by_cases h:g<c
  ·rw[aO h];obtain⟨m,u,s,t⟩:∃ m,(g+c) / 2=m/\g<=m/\m<c:=⟨_,rfl,∅,∅⟩
   rw[u];have r:m<d.size:=yW t l;have n:d[m]? = some d[m]:=xV r;have v:d.getD m j=d[m]:=by simp[r]
   dsimp only;rw[v];by_cases q:d[m]<j
   ·rw[aO q];refine Jl o f _ _ (zS (rE (vD s) c) (Nat.sub_le_sub_right p 1)) t l (λi x c k=>?_) b;rcases rL (rV c) with z | z
    ·exact tN (o _ _ _ _ z k n) q
    ·subst z;rw[n] at k;cases k;exact q
   ·rw[aM q];refine Jl o f _ _ (rV (yW (qY s t) p)) s (yG r) a (λi x c k=>?_);rcases rL c with z | z
    ·have:=o _ _ _ _ z n k;lia
    ·subst z;rw[n] at k;cases k;lia
  ·rw[aM h];have e:c=g:=∅
   subst e;exact⟨l,a,b⟩
def FY{a:jK}(b:P8 a)(j:Nat):SetTable.below a j<=a.size/\(∀ i x,i<SetTable.below a j->a[i]? = some x->x<j)/\∀ i x,SetTable.below a j<=i->a[i]? = some x->j<=x:=
 Jl b _ _ _ ∅ (zL _) (zY _) (λi x h _=>absurd h (xM _)) (λi x h e=>by rw[zEF h] at e;cases e)
def ZKb{d:jK}(g:P8 d){i x:Nat}(e:d[i]? = some x):SetTable.below d x=i:=by
 obtain⟨a,b,c⟩:=FY g x;rcases Nat.lt_trichotomy (SetTable.below d x) i with z | z | z
 ·have j:i<d.size:=by obtain⟨h,_⟩:=vV.mp e;exact h
  have f:SetTable.below d x<d.size:=∅
  have:=c _ _ (zY _) (xV f);have:=g _ _ _ _ z (xV f) e
  lia
 ·exact z
 ·have:=b i x z e
  lia
def ZOZ{t:SetTable}{j:Nat}(l:P8 t.place)(n:∀ i:Nat,t.place[i]? ≠ some j):P8 (t.put j).1.place:=by
 obtain⟨a,b,c⟩:=FY l j;have d:=Wx.mp l;rw[Wx];show (SetTable.insertAt t.place (SetTable.below t.place j) j).toList.Pairwise (· < ·);rw[SetTable.toList_insertAt];generalize SetTable.below t.place j=p at a b c;have h:∀ x∈t.place.toList.take p,x<j:=λx g=>by
  obtain⟨i,e⟩:=vL.mp g;rw[sW] at e;split at e
  ·rename_i m
   exact b i x m (by rw[<-yY];exact e)
  ·cases e
 have k:∀ y∈t.place.toList.drop p,j<y:=λy f=>by
  obtain⟨i,e⟩:=vL.mp f;rw[sX,yY] at e;have:=c _ _ (xB p i) e;rcases rL this with z | z
  ·exact z
  ·subst z;exact absurd e (n _)
 refine xE.mpr ⟨d.sublist (List.take_sublist _ _),wT.mpr ⟨k,d.sublist (List.drop_sublist _ _)⟩,λx g y f=>?_⟩;rcases zF.mp f with rfl | f
 ·exact h x g
 ·exact tN (h x g) (k y f)
def Dt(t:SetTable)(p:SetTable.Probe):(t.advance p).dummy=p.dummy:=by
 unfold SetTable.advance;split <;> rfl
def Ja{t:SetTable}{g:Nat->Int}{h:Int}:∀(f:Nat)(p:SetTable.Probe)(j:Nat)(d:jq),(∀ d,p.dummy=some d->t.slot d=.dummy)->SetTable.probe.go t g h f p=some (.empty j d)->∀ i,t.slot (d.getD j)≠.live i
 | 0,p,j,d,_,e=>by unfold SetTable.probe.go at e;cases e
 | f+1,p,j,d,c,e=>by
  unfold SetTable.probe.go at e
  cases b:t.slot p.j with
  | empty=>
   rw[b] at e;injection e with e;injection e with e1 e2;subst e1 e2;intro i z
   cases a:p.dummy with
   | none=>rw[a] at z;rw[rN,b] at z;cases z
   | some q=>rw[a] at z;rw[Option.getD_some,c q a] at z;cases z
  | dummy=>
   rw[b] at e;exact Ja f _ j d (λq a=>by rw[Dt] at a;injection a with a;subst a;exact b) e
  | live k=>
   rw[b] at e;dsimp only at e;split at e
   ·injection e with e;cases e
   ·exact Ja f _ j d (λq a=>by rw[Dt] at a;exact c q a) e
def ZKM{t:SetTable}{h:Int}{a:Nat}{b:Bool}(e:t.freeSlot h=some (a,b)):∀ i,t.slot a≠.live i:=by
 unfold SetTable.freeSlot at e;split at e
 ·rename_i j d c
  injection e with e;injection e with e1 _;subst e1;exact Ja _ _ j d (λq f=>by cases f) c
 ·cases e
def ZMK{t:SetTable}{j:Nat}(a:P8 t.place)(h:∀ i,t.slot j≠.live i):∀ i:Nat,t.place[i]? ≠ some j:=λi e=>by
 refine h i ?_;unfold SetTable.slot;rw[ZKb a e];simp[e]
def QH(l:Bool)(t:SetTable):Prop:=t.led=l/\P8 t.place
def Mo{l:Bool}{t:SetTable}(h:QH l t)(n:Nat):QH l (t.standIn n):=⟨h.1,λi k x y g e f=>by
 show x<y;have a:(Array.range n)[i]? = some x:=e;have b:(Array.range n)[k]? = some y:=f;obtain⟨_,c⟩:=vV.mp a;obtain⟨_,d⟩:=vV.mp b;rw[Array.getElem_range] at c d
 lia⟩
def ZN8{l:Bool}{t:SetTable}{h:Int}{a:Nat}{b:Bool}(k:QH l t)(e:t.freeSlot h=some (a,b)):QH l (t.put a).1:=⟨k.1,ZOZ k.2 (ZMK k.2 (ZKM e))⟩
def ZOm{l:Bool}{t:SetTable}(k:QH l t)(a:jM)(h:Int)(x:aj):QH l (layNew t a h x).2.1:=by
 unfold layNew;split
 ·rename_i c b e
  have:=ZN8 k e;show QH l ((t.put c).1.orStandIn _);unfold SetTable.orStandIn;split
  ·exact this
  ·exact Mo this _
 ·exact Mo k _
def ZLc{l:Bool}{c d f:Nat}{g:Bool}{k:Array Int}{t:SetTable}{o:jK}(e:SetTable.laid c d f l g k=some (t,o)):QH l t:=by
 unfold SetTable.laid at e
 cases i:SetTable.layClean c k with
 | none=>rw[i] at e;cases e
 | some r=>
  rw[i] at e;injection e with e;injection e with e1 _;subst e1;refine⟨rfl,Wx.mpr ?_⟩;show (((yX (c+1)).filterMap λj=>(r.getD j none).map (j,·)).map (·.1)).Pairwise (· < ·);rw[rO,List.pairwise_filterMap];refine List.pairwise_lt_range.imp fun{a b} h p m q n=>?_;obtain⟨_,_,rfl⟩:=xR.mp m;obtain⟨_,_,rfl⟩:=xR.mp n;exact h
def Bz{l:Bool}{t:SetTable}(k:QH l t)(a:jM)(n:Nat):QH l (relayAll t a n).2.1:=by
 unfold relayAll;split
 ·rename_i d c e
  dsimp only;split
  ·have b:t.led=l:=k.1;unfold SetTable.relaid at e;rw[b] at e;exact ZLc e
  ·exact Mo k _
 ·exact Mo k _
def iv:aj->Int
 | .int i _=>i
 | _=>0
def U3(w:ax):Bool:=w.params.followText "set-order"
structure Vl(prog:am)(w:ax)(es:jM)(t:SetTable)(ms:jt):Prop where
 el:ElemsOf (intKind prog w) es.toList
 pm:(es.toList.map λe=>iv e.2).Perm ms
 sz:es.size<scanBound
 ft:t.fits es.size=true
 ld:QH (!U3 w) t
def Y6(prog:am)(w:ax)(h:aE)(a:ak)(d:jt):Prop:=∃ o b c t,h.get? a=some o/\o.ExactSet/\o.data=.set b c t/\Vl prog w b t d
def Vl.len{a:jM}{t:SetTable}{b:jt}(h:Vl prog w a t b):a.size=b.length:=by
 have:=h.pm.length_eq;simpa using this
def ZPF{l:List (Int×aj)}(h:ElemsOf (intKind prog w) l){e:Int×aj}(i:e∈l):∃ c,e=(hashInt (iv e.2),.int (iv e.2) c):=by
 obtain⟨⟨k,g,d⟩,_⟩:=h e i;obtain⟨c,f⟩:=Value.isInt_shape (show Value.isInt k e.2=true from g);obtain⟨a,b⟩:=e;dsimp only at d f;subst f;exact⟨c,by rw[d];rfl⟩
def Vl.mem{c:jM}{t:SetTable}{d:jt}(h:Vl prog w c t d)(k:Int):decide (k∈d)=true ↔ ∃ e∈c.toList,(intKind prog w).is k e.2=true:=by
 rw[decide_eq_true_eq,<-h.pm.mem_iff,zM];constructor
 ·rintro⟨e,a,rfl⟩;obtain⟨g,b⟩:=ZPF h.el a;exact⟨e,a,by rw[b];exact intKind_is _ _ _ _⟩
 ·rintro⟨e,a,f⟩;obtain⟨g,b⟩:=Value.isInt_shape (show Value.isInt k e.2=true from f);exact⟨e,a,by rw[b];rfl⟩
def Y6.at{h b:aE}{a:ak}{c:jt}(x:Y6 prog w h a c)(k:∀ o,h.get? a=some o->b.get? a=some o):Y6 prog w b a c:=by
 obtain⟨o,e,d,t,f,r⟩:=x;exact⟨o,e,d,t,k _ f,r⟩
def Y6.perm{h:aE}{a:ak}{c b:jt}(x:Y6 prog w h a c)(p:c.Perm b):Y6 prog w h a b:=by
 obtain⟨o,e,d,t,g,i,f,D⟩:=x;exact⟨o,e,d,t,g,i,f,D.el,D.pm.trans p,D.sz,D.ft,D.ld⟩
def Dj{h:aE}{a:ak}{o:aI}{i:jM}{d:Nat}{t:SetTable}(k:h.get? a=some o)(e:o.ExactSet)(j:o.data=.set i d t){b:jM}{c:SetTable}{f:jt}(D:Vl prog w b c f):
  (h.update a (Obj.putSet b c)).get? a=some { o with data:=.set b (d+1) c }/\Y6 prog w (h.update a (Obj.putSet b c)) a f:=by
 have g:=(SetOf_store (knd:=intKind prog w) k e j D.el D.mem D.sz D.ft).1;exact⟨g,_,b,d+1,c,g,e,rfl,D⟩
def ZOc{a:ak}{m:jt}{x:Int}{j:Tok}{Q:Bool->al->Prop}(hS:Y6 prog w s.heap a m)(hx:x∉m)(hm:m.length+1<scanBound)(h:∀ H,yD a s.heap H->Y6 prog w H a (m++[x])->Q true { s with heap:=H }):aC (aB prog w) A (setAddHashed a (.int x j) (hashInt x)) Q E s:=by
 obtain⟨o,i,ep,t,y,n,v,D⟩:=hS;have V:(intKind prog w).is x (.int x j)=true:=intKind_is _ _ _ _;have K:i.toList.findIdx? (λe=>(intKind prog w).is x e.2)=none:=List.findIdx?_eq_none_iff.mpr λe he=>by
  cases q:(intKind prog w).is x e.2 with
  | false=>rfl
  | true=>exact absurd (of_decide_eq_true ((D.mem x).mpr ⟨e,he,q⟩)) hx
 unfold setAddHashed setAddHashedIn;refine af (aa (wpAny_setState_of y v D.ft ?_));dsimp only;rw[byScan_of (knd:=intKind prog w) rfl D.sz D.el];simp only[↓reduceIte];unfold setAddByScan;refine aa (aa (ai (aa ?_)));refine wpAny_setScan_of (knd:=intKind prog w) V y v D.ft D.el ?_;rw[K];dsimp only;have T:∀(b:Bool){d:al}{C:Unit->al->Prop},C () d->aC (aB prog w) A (match b with | true=>rule "set.scan.the-table-gave-way" | false=>pure ()) C E d:=λb d C U=>by
  cases b
  ·exact ad U
  ·exact ai U
 have l:=layNew_perm t i (hashInt x) (.int x j);have I:=layNew_fits t i (hashInt x) (.int x j);have J:=ZOm D.ld i (hashInt x) (.int x j);show aC _ _ (match layNew t i (hashInt x) (.int x j) with | (i,t,wasDummy,gave)=>_) _ _ _
 generalize layNew t i (hashInt x) (.int x j)=N at l I J;obtain⟨c,B,wd,Z⟩:=N;dsimp only at l I J⊢;rw[vP] at l;have O:Vl prog w c B (m++[x]):=⟨(D.el.push V rfl).perm l,(l.map _).trans (by rw[zE];exact D.pm.append_right _),by
  have:=l.length_eq;rw[zW,yP,yP,D.len] at this;simp only[vB] at this
  lia,I,J⟩
 have g:∀(f:SetTable),Vl prog w c f (m++[x])->aC (aB prog w) A (do
    storeSet a c f
    if (!wd&&f.tooFull)=true then do
      (match (relayAll f c (SetTable.grown c.size)).2.2 with | true=>rule "set.scan.the-table-gave-way" | false=>pure ())
      storeSet a (relayAll f c (SetTable.grown c.size)).1 (relayAll f c (SetTable.grown c.size)).2.1
      pure (some true)
     else pure (some true)) (fun(r:jL) M=>r=some true/\Q true M) E s:=λf k=>by
  refine aa (wpAny_storeSet_of y v ?_ (fits_of_scanBound k.sz));obtain⟨S,X⟩:=Dj y n v k;have P:=yD.update s.heap a (Obj.putSet c f);refine wpAny_ite ?_;split
  ·have u:=relayAll_perm f c (SetTable.grown c.size);have G:=relayAll_fits f c (SetTable.grown c.size);have L:=Bz k.ld c (SetTable.grown c.size);generalize relayAll f c (SetTable.grown c.size)=R at u G L⊢;obtain⟨F,t3,Y⟩:=R;dsimp only at u G L⊢;have W:F.size<scanBound:=by have:=u.length_eq;rw[yP,yP] at this;have:=k.sz;lia
   refine aa (T Y (aa (wpAny_storeSet_of S rfl ?_ (fits_of_scanBound W))));exact ad ⟨rfl,h _ (P.trans (yD.update _ a _)) (Dj S n rfl ⟨k.el.perm u,(u.map _).trans k.pm,W,G,L⟩).2⟩
  ·exact ad ⟨rfl,h _ P X⟩
 refine aa (T Z ?_);by_cases p:B.plain=true
 ·rw[aO p];refine aa ?_;rw[hashByValue_scannable 8 rfl];refine ad ?_;exact ae (g B O) (λr M z=>by obtain⟨rfl,q⟩:=z;exact ad q) λ_ _ z=>z
 ·rw[aM p];refine aa (ad ?_);exact ae (g B O) (λr M z=>by obtain⟨rfl,q⟩:=z;exact ad q) λ_ _ z=>z
section
variable{α:Type}{M:Model}
end
section
variable{α:Type}{M:Model}
def ZNr{s:al}{Q:Bool->al->Prop}(h:Q (U3 w) s):aC (aB prog w) A setsByText Q E s:=by
 unfold setsByText;exact aa (wpAny_askSetting (ad h))
end
end L2
namespace L2
open PySem PyProof.Rows
def CN:∀{b:je}{a:jt}{i:Nat}{n:Int},IntsAre b a->a[i]? = some n->∃ t,b[i]? = some (.int n t)
 | _,_,_,_,.nil,e=>by simp at e
 | _,_,0,_,.cons m t _,e=>by simp at e;subst e;exact⟨t,rfl⟩
 | _,_,i+1,n,.cons _ _ r,e=>by
  obtain⟨t,q⟩:=CN (i:=i) (n:=n) r (by simpa using e)
  exact⟨t,by simpa using q⟩
def ZMs{R:Result->al->Prop}{d a l:ak}{h₀:aE}{items:ju}{ns:jt}(V:A.handled=none)(N:IntsAre items.toList ns)(K:ns.Nodup)(hb:ns.length+1<scanBound)(x:l≠a)(v:l≠d)(f:a≠d)(O:h₀.IsList l items)(W:∀ G c,(∀ b o,b≠a->b≠d->h₀.get? b=some o->G.get? b=some o)->Y6 prog w G d ns->R (.ok (.ret .none)) { s with heap:=G,toks:=c }):
  ∀(n i:Nat)(h:aE)(c:Nat),n=items.size-i->i<=items.size->h.IsListIter a l i->Y6 prog w h d (ns.take i)->(∀ b o,b≠a->b≠d->h₀.get? b=some o->h.get? b=some o) ->
   codeAny (aB prog w) A (.builtin "set.update.loop" ⟨[.ref d,.ref a],[]⟩) R { s with heap:=h,toks:=c }:=by
 have Z:ns.length=items.size:=by have:=IntsAre.length N;simpa using this.symm
 intro n
 induction n with
 | zero=>
  intro i h c hn X g D B;have J:i=items.size:=∅
  have k:h.IsList l items:=by obtain⟨o,y,r⟩:=O;exact⟨o,B _ _ x v y,r⟩
  refine codeAny_builtin F.entry_set_update_loop ?_;rw[Around.under_plainId F.plain_set_update_loop _];show aC _ A.in1 (pyNext (.ref a) >>= _) _ _ _;refine aa (wpAny_pyNext_list_end (s:={ s with heap:=h,toks:=c }) V g k (by rw[J];simp) λH m=>?_)
  refine ad (W H c (λb o P n2 e=>m b o P (B b o P n2 e)) ?_);rw[yV ∅] at D
  exact D.at λo e=>m d o (Ne.symm f) e
 | succ n ih=>
  intro i h c hn X g D B;have a0:i<items.size:=∅
  have k:h.IsList l items:=by obtain⟨o,y,r⟩:=O;exact⟨o,B _ _ x v y,r⟩
  have L:ns[i]? = some ns[i]:=zU ∅
  obtain⟨t,m⟩:=CN N L;rw[yY] at m;refine codeAny_builtin F.entry_set_update_loop ?_;rw[Around.under_plainId F.plain_set_update_loop _];show aC _ A.in1 (pyNext (.ref a) >>= _) _ _ _;refine aa (wpAny_pyNext_list_item (s:={ s with heap:=h,toks:=c }) g k m λH q Q=>?_);have I:=D.at λo e=>(Q.2 d (Ne.symm f)).trans e;have hx:ns[i]∉ns.take i:=λz=>by
   obtain⟨j,e⟩:=vL.mp z;rw[sW] at e;split at e
   ·rename_i Y
    obtain⟨q1,q2⟩:=yT.mp e;exact tU.mp K j i q1 ∅ Y q2
   ·cases e
  refine aa (af ?_);unfold setAdd;refine af (aa (wpAny_pyHash_int ?_));refine ZOc (s:={ s with heap:=H,toks:=c+1 }) I hx (by rw[xX];lia) λM C p=>?_
  have U:ns.take (i+1)=ns.take i++[ns[i]]:=by rw[yM,L];rfl
  rw[<-U] at p;have u:M.IsListIter a l (i+1):=by
   obtain⟨o,y,r⟩:=q;exact⟨o,(C.2 a f).trans y,r⟩
  exact ad ⟨plainId_quiet F.plain_set_update_loop _,ih (i+1) M (c+1) ∅ ∅ u p λb o S T e=>(C.2 b T).trans ((Q.2 b S).trans (B b o S T e))⟩
def ZI9(h:aE):Y6 prog w (h.push { cls:=.type "set",dict:=none,data:=.set #[] 0 (.fresh 0 0 (!U3 w)) }) h.objs.size []:=
 ⟨_,#[],0,_,yO _ rfl,⟨rfl,rfl,rfl⟩,rfl,⟨λe b=>by simp at b,by simp,by decide,by rfl,rfl,λi k x y _ a _=>by simp[SetTable.fresh] at a⟩⟩
def ZL2{Q:ja}(h:Q (.ref s.heap.objs.size) { s with heap:=s.heap.push { cls:=.type "set",dict:=none,data:=.set #[] 0 (.fresh 0 0 (!U3 w)) } }):aC (aB prog w) A (newSet (.type "set")) Q E s:=by
 unfold newSet;refine aa (ZNr ?_);dsimp only;simp only[newObj];exact aa (wpAny_alloc (ad h))
def BY(v:aj){Q₁:ja}(h:Q₁ (.ref s.heap.objs.size) { s with heap:=s.heap.push { cls:=.type "set",dict:=none,data:=.set #[] 0 (.fresh 0 0 (!U3 w)) } }):
  codeAny (aB prog w) A (.call (.builtin "set.__new__") ⟨[.type "set",v],[]⟩) (wants Q₁ E) s:=by
 refine codeAny_of_tree ?_;show aC _ A.in1 (do checkBuiltinCall "set.__new__" ⟨[.type "set",v],[]⟩;again (.builtin "set.__new__" ⟨[.type "set",v],[]⟩)) _ _ s
 refine aa (wpAny_of_eq (F.newCall_set_1 v) (ad ⟨plainId_quiet F.plain_set_new _,codeAny_builtin F.entry_set_new ?_⟩));rw[Around.under_plainId F.plain_set_new _];unfold Builtin.«set.__new__»;refine aa (aa ?_);refine ad ?_;dsimp only;rw[aM (by decide)]
 refine aa (wpAny_of_eq (show isSubtype (.type "set") (.type "set")=pure true by rw[isSubtype_type];kernel_rfl) ?_)
 rw[aM (by decide)]
 exact ad (aa (ZL2 (ad h)))
def ZKW{Q:ja}{l:ak}{a:ju}{n:Nat}{p:jt}(K:A.handled=none)(G:s.heap.get? l=some { cls:=.type "list",data:=.seq a n })(L:IntsAre a.toList p)(z:p.Nodup)(N:p.length+1<scanBound)(h:∀ t P,(∀ b o,s.heap.get? b=some o->t.get? b=some o)->Y6 prog w t s.heap.objs.size p->Q (.ref s.heap.objs.size) { s with heap:=t,toks:=P }):aC (aB prog w) A (call (.type "set") [.ref l]) Q E s:=by
 have Z:=F.called_set.made;have z2:=F.called_set.sub;have z3:=F.called_set.notType;have z4:=F.called_set.canCreate;have z5:=F.typeCall_set_1 (.ref l);obtain⟨c,W,z6⟩:=F.called_set.mro;have k:=ZI9 (prog:=prog) (w:=w) s.heap;have y:(s.heap.push { cls:=.type "set",dict:=none,data:=.set #[] 0 (.fresh 0 0 (!U3 w)) }).get? l=some { cls:=.type "list",data:=.seq a n }:=zO _ G;have m:l<s.heap.objs.size:=zN G;have I:(s.heap.push { cls:=.type "set",dict:=none,data:=.set #[] 0 (.fresh 0 0 (!U3 w)) }).get? s.heap.objs.size=some { cls:=.type "set",dict:=none,data:=.set #[] 0 (.fresh 0 0 (!U3 w)) }:=yO _ rfl;refine wpAny_call (codeAny_of_tree ?_);show aC _ _ (callAny (.type "set") _) _ _ _;refine ad ⟨Code.quiet_builtin _ (by decide +kernel),codeAny_builtin F.entry_type_call ?_⟩
 rw[Around.under_plain (weight_type_call_type "set" [.ref l] []) rfl]
 repeat (any_goals (first | assumption | wp_step))
 refine codeAny_mono (BY (.ref l) (E:=E) (Q₁:=λv g=>v=.ref s.heap.objs.size/\g={ s with heap:=s.heap.push { cls:=.type "set",dict:=none,data:=.set #[] 0 (.fresh 0 0 (!U3 w)) } }) ⟨rfl,rfl⟩) λr g B=>?_;rcases r with _ | H
 ·exact B
 cases H with
 | ret v=>
  obtain⟨rfl,rfl⟩:=B;have M:Shared.TypeIs { s with heap:=s.heap.push { cls:=.type "set",dict:=none,data:=.set #[] 0 (.fresh 0 0 (!U3 w)) } } (.ref s.heap.objs.size) "set" :=⟨_,I,rfl⟩;have X:=F.called_set.init.lookup;have Y:=F.called_set.init.bind (.ref s.heap.objs.size)
  repeat (any_goals (first | assumption | wp_step))
  refine codeAny_mono (codeAny_call_builtin (R:=wants (λr i=>r=.none/\Q (.ref s.heap.objs.size) i) E) F.called_set.init.plain F.entry_set_init (check_set_init_1 M ?_)) λq i f=>?_
  ·have S:=F.sub_list_set;have T:=F.sub_list_frozenset;have U:(Value.type "list" == Value.type "dict")=false:=by decide
   unfold Builtin.«set.__init__» noKeywords Builtin.Frozenset.updateFrom;generalize u:pyIter=PI
   wp_walk
   subst u;have D:Heap.IsList (s.heap.push { cls:=.type "set",dict:=none,data:=.set #[] 0 (.fresh 0 0 (!U3 w)) }) l a:=⟨_,y,rfl,_,rfl⟩;refine wpAny_pyIter_list D ?_;refine aa (wpAny_runValue ?_);refine ZMs (d:=s.heap.objs.size) (l:=l) (items:=a) (ns:=p) (h₀:=(s.heap.push { cls:=.type "set",dict:=none,data:=.set #[] 0 (.fresh 0 0 (!U3 w)) }).push { cls:=.type "list_iterator",data:=.fields #[.ref l,.int 0 0] }) (by simp[K]) L z N ?_ (yU m) ?_ (D.push _) (λJ C O x=>?_) _ 0 _ _ rfl (zL _) ⟨_,yO _ rfl,rfl,rfl⟩ ((k.at λo e=>zO _ e).perm (by simp)) (λb o _ _ e=>e)
   ·rw[vH];exact yU (rS m)
   ·rw[vH];exact tM (wN _)
   ·refine ad (ad ⟨rfl,h J C (λb o e=>O b o ?_ (yU (zN e)) (zO _ (zO _ e))) x⟩);rw[vH];exact yU (rS (zN e))
  ·rcases q with _ | j
   ·exact f
   cases j with
   | ret r=>
    obtain⟨rfl,V⟩:=f
    repeat (any_goals (first | assumption | wp_step))
   | _=>exact f.elim
 | _=>exact B.elim
end L2
namespace L2
open PySem PySem.Spec PyProof.Rows
def Py(P:am)(w:ax)(p:ak)(a:jt):HO:=.ext λh=>Y6 P w h p a
def ZQE{P:am}{w:ax}{H:Hp}{h:aE}{p:ak}{a:jt}(x:Y6 P w h p a):Ze P w H h p (Py P w p a):=by
 refine⟨x,?_,λb c y k=>y.at k⟩;obtain⟨o,_,_,_,g,_⟩:=x;exact⟨o,g⟩
section
variable{kj:js}{σ:St}{H:Hp}
def ZQA(I:ZF X kj σ H s){a:ak}{b:jt}(h:H a=some (Py X.prog X.w a b)):Y6 X.prog X.w s.heap a b:=(I.hok a _ h).1
def ZPs:az "set" = some (.type "set"):=by decide +kernel
def BC{n:Nat}(h:n<1000):n+1<scanBound:=by unfold scanBound;lia
inductive Vx(P:am)(w:ax)(c:jf)(H:Hp)(Q:VK):Prop
 |mk(a:ak)(b:jt)(_:c=[.ref a])(_:H a=some (.lst (b.map V.int)))(_:b.Nodup)(_:b.length<1000)(_:∀ p,H p=none->Q (.ref p) (upd H p (Py P w p b)))
def B5(d:X.calm=true):Wu X (.type "set") (Vx X.prog X.w):=by
 intro kj s σ H x v Q I r h;obtain⟨a,k,rfl,c,j,f,q⟩:=h;obtain⟨u,rfl,l⟩:=Vp r;cases l;obtain⟨z,g,n,m,_,e⟩:=I.lstM c;refine ZKW (I.ok.hd d) e (by simpa using Ip m) j (BC f) λt p i b=>?_
 exact⟨.ref s.heap.objs.size,_,I.laid (a:=s.heap.objs.size) (o:=Py X.prog X.w s.heap.objs.size k) (t':=p) i (zY _) (ZQE b),rfl,q _ (I.hok.fresh (zY _))⟩
end
section
variable{T:String}{r d:ak}{n:Nat}{P:Nat->aj->Prop}{OK:aE->Prop}
end
end L2
namespace Tw
open PySem PySem.Spec L2 PyProof.Rows
inductive QP(d:zZ)(x y:V)(H:Hp)(Q:VK):Prop
 |mk(a b:ak)(f g:jf)(c e:jp)(_:x=.ref a)(_:y=.ref b)(_:ZG d H a f)(_:ZG d H b g)(_:jY H c f)(_:jY H e g)(_:∀ t∈c,t.depth<=3)(_:Q (.bl (!kc c e)) H)
def FD{k:Nat}(Y:ZT k X.A):Yd X (aA .NotEq) (QP X.K):=by
 intro E s σ H x y v u Q I rx ry h;obtain⟨a,b,xs,ys,f,g,rfl,rfl,U,V,z,B,W,q⟩:=h;cases rx;cases ry;obtain⟨d,F,C,z1⟩:=I.list U;obtain⟨c,G,D,z2⟩:=I.list V;have l1:=F.length;have l2:=G.length;have m1:=z.length;have m2:=B.length;have un:=Y.un;by_cases p:d.length=c.length
 ·refine PySem.SeqAt.RcNeAt.lists (e:=λj=>(f.getD j (.int 0)).eqb (g.getD j (.int 0))) C.isList D.isList (by simpa using p) ∅ (λj n o=>?_) X.prog X.w X.xe _ ⟨.bl _,H,I,rfl,?_⟩
  ·have r:j<xs.length:=by simp at n;lia
   have t:j<ys.length:=by simp at o;lia
   obtain⟨l,m,M⟩:=z.get (zU r);obtain⟨t2,R,N⟩:=B.get (zU t);obtain⟨J,S,O⟩:=F.get (zU r);obtain⟨L,T,P⟩:=G.get (zU t);have Z:d.toArray[j]=J:=by
    have:d.toArray[j]? = some J:=by simpa using S
    rw[xV n] at this;exact zG.inj this
   have q2:c.toArray[j]=L:=by
    have:c.toArray[j]? = some L:=by simpa using T
    rw[xV o] at this;exact zG.inj this
   rw[Z,q2,zT,zT,m,R];have dp:=W l (zK m);exact OV l.depth l t2 _ _ _ (zY _) (Vt I _ _ _ M O) (Vt I _ _ _ N P) (by show X.A.units+1+_<_;lia)
  ·have e:=O0 f g;have i:min f.length g.length=d.toArray.size:=by simp;lia
   rw[i,show (f.length==g.length)=true by simp;lia,Bool.and_true] at e
   rw[e];exact q
 ·refine PySem.SeqAt.RcNeAt.lists_lengths C.isList D.isList (by simpa using p) ∅ X.prog X.w X.xe _ ⟨.bl _,H,I,rfl,?_⟩
  have e:=O0 f g;rw[show (f.length==g.length)=false by simp;lia,uS] at e
  rw[<-e] at q;exact q
end Tw
namespace L2
open PySem PySem.Spec PyProof.Rows
def ZQ6{n:Nat}(h:n<1000):((n:Nat):Int)<2 ^ 63:=Int.lt_trans (Int.ofNat_lt.mpr h) (by decide)
inductive OA(P:am)(w:ax)(c:jf)(H:Hp)(Q:VK):Prop
 |mk(a b:_)(_:c=[V.ref a])(_:H a=some (Py P w a b))(_:b.length<1000)(_:Q (.int b.length) H)
def ZJx{X:Cx}{P:am}{w:ax}(d:X.prog=P:=by rfl)(k:X.w=w:=by rfl):Wu X (.builtin "len") (OA P w):=by
 subst d k;intro c s z H y x Q I r h;obtain⟨a,m,rfl,f,i,q⟩:=h;obtain⟨u,rfl,n⟩:=Vp r;cases n;obtain⟨o,v,p,t,j,l,g,D⟩:=ZQA I f;have e:=D.len;refine call_len_set j l g D.ft (ZQ6 (by rw[e];exact i)) ?_
 exact⟨.int m.length,H,I.kept (t':=s.toks+1+1) (λb o q=>q),⟨_,by rw[e]⟩,q⟩
def ZJX{X:Cx}{P:am}{w:ax}(b:X.calm=true)(a:X.prog=P:=by rfl)(c:X.w=w:=by rfl):Wu X (.type "set") (Vx P w):=by
 subst a c;exact B5 b
def ZJC{X:Cx}{K:zZ}(a:X.K=K:=by rfl):Yd X (aA .NotIn) (JS K true):=by
 subst a;exact ZFR
def ZOu{a:jt}{n:Int}(h:n∈a):IK (.int n) (a.map V.int)=true:=uM.mpr ⟨_,zM.mpr ⟨n,h,rfl⟩,aK rfl⟩
def AH(b:jt):(b.map V.int).all PN=true:=zQ.mpr λv a=>by
 obtain⟨n,_,rfl⟩:=zM.mp a;rfl
def pa9{X:Cx}{a b c d e f g i j:Expr}{k l m n o p q r s:TE}(t:PE X a k)(u:PE X b l)(v:PE X c m)(w:PE X d n)(x:PE X e o)(y:PE X f p)(z:PE X g q)(A:PE X i r)(B:PE X j s)(h:[a,b,c,d,e,f,g,i,j].all QI=true:=by rfl):PA X [a,b,c,d,e,f,g,i,j] (YX k (YX l (YX m (YX n (YX o (YX p (YX q (YX r (YX s Vr))))))))):=
 (ZW t (ZW u (ZW v (ZW w (ZW x (ZW y (ZW z (ZW A (ZW B Zj (Yr (zQ.mp h j (by simp)))) (Yr (zQ.mp h i (by simp)))) (Yr (zQ.mp h g (by simp)))) (Yr (zQ.mp h f (by simp)))) (Yr (zQ.mp h e (by simp)))) (Yr (zQ.mp h d (by simp)))) (Yr (zQ.mp h c (by simp)))) (Yr (zQ.mp h b (by simp)))) (Yr (zQ.mp h a (by simp))))
end L2
namespace Tw
open PySem PySem.Spec L2 PyProof.Rows
variable{kh ki CS CT CH CK CP CB:ak}
def By{X:Cx}:Ut (XF X.prog X.w) X E0:=λ_ _ _ _ _ _ _ h=>by
 obtain⟨_,_,_,_,_,_,q⟩:=h;exact q.elim
def ZL6{X:Cx}{k:Nat}{x:Str}{q:jr}{g:Sp}{e:Expr}{a:jB}{t:TA}{p pos:Pos}(D:Yu X.prog X.w X.K X.mg X.base k x q g)(n:ZT k X.A)(i:PA X (e::a) t)(l:Gl X x:=by rfl)(c:(x==("__debug__" : Str))=false:=by decide)(j:aw (e::a) X.env=(false,aH e X.env)::aw a X.env:=by rfl)(d:(aG pos (aw a X.env)).any (·.1)=false:=by rfl):
  PE X (.Call (.Name x p) (e::a) [] pos) (M2 g [] E0 t):=by
 obtain⟨f,r,h,b,o,m⟩:=D.ex;exact IH h n l m o b .nil By i c j d
def Gi:∀(t:KT)(r:Nat),t.wide r=true->t.wide (r+1)=true
 | .int _,_,_=>by rw[KT.wide]
 | .str _,_,_=>by rw[KT.wide]
 | .tup l,r,h=>by
  rw[KT.wide,zR,zR] at h⊢;have a:=of_decide_eq_true h.1;have:=wide_upL l (r-1) h.2.2;rw[show r-1+1=r+1-1 by lia] at this
  exact⟨aK ∅,h.2.1,this⟩
where wide_upL:∀(l:jp)(r:Nat),wideL l r=true->wideL l (r+1)=true
 | [],_,_=>by rw[wideL]
 | t::l,r,h=>by
  rw[wideL,zR] at h⊢;exact⟨Gi t r h.1,wide_upL l r h.2⟩
def ZLm{r:YT}(h:r.fit):(Mh r).wide 4=true:=by
 unfold Mh;rw[KT.wide,LX];have a:=N3 _ _ h.1;have b:=N3 _ _ h.2;simp[a,b]
def ZL0{d:jn}{k:KT}{c:jq}{f:jt}(h:∀ r∈WR d c,r.fit)(e:Nat):∀ t∈NR d k c f e,t.wide 4=true:=λt a=>by
 match e,a with
 | 0,a=>
  obtain⟨r,b,rfl⟩:=zM.mp a;exact Gi _ _ (N3 _ _ (h r (wB.mp b).1).2)
 | 1,a=>
  obtain⟨r,b,rfl⟩:=zM.mp a;exact ZLm (h r b)
 | 2,a=>
  obtain⟨r,b,rfl⟩:=zM.mp a;rw[KT.wide]
 | 3,a=>
  obtain⟨r,b,rfl⟩:=zM.mp a;rw[KT.wide]
 | n+4,a=>exact absurd a wY
def FL{b:jn}{k:KT}{a:jq}{c:jt}(e:(WR b a).length<=60)(f:c.length<=119)(g:(Z4 b a).length<=119)(d:Nat):(NR b k a c d).length<=200:=by
 match d with
 | 0=>
  show (((WR b a).filter _).map _).length<=_;rw[zX];exact zS (vC _ _) ∅
 | 1=>
  show ((WR b a).map _).length<=_;rw[zX]
  lia
 | 2=>
  show (c.map _).length<=_;rw[zX]
  lia
 | 3=>
  show ((Wq b a).map _).length<=_;rw[zX];exact zS (vC _ _) ∅
 | n+4=>exact zL _
def Xa.get{f:jn}{k:KT}{e:jq}{H:Hp}{D g i d l:ak}(h:Xa f k e H D g i d l):∃ c:jt,c.Perm ((Z4 f e).map λj:Nat=>(j:Int))/\c.Pairwise (· <= ·)/\H d=some (.lst (c.map V.int))/\H D=some (.lst [.ref g,.ref i,.ref d,.ref l,.int (UE f e)])/\∀ b:Nat,b<4->∃ a m,Xt [V.ref g,.ref i,.ref d,.ref l,.int (UE f e)] (b:Int)=some (V.ref a)/\H a=some (.lst m)/\jY H (NR f k e c b) m:=by
 obtain⟨m,x,c,o,p,q,r,s,n,t,u,v⟩:=h;exists c,t,u,n,o;intro b w;obtain rfl | rfl | rfl | rfl:b=0\/b=1\/b=2\/b=3:=∅
 ·exact⟨g,m,rfl,p,q⟩
 ·exact⟨i,x,rfl,r,s⟩
 ·exact⟨d,_,rfl,n,Na c⟩
 ·exact⟨l,_,rfl,v,Gr _⟩
def ZNe{a b:ak}{i H:Hp}{X:YL}{g:ak}{c:Nat}{h j:jf}{D:ak}{r k:jf}(d:Z1 a b i X g c h)(n:i D=none)(R:Z1 a b H X g c j)(m:H D=some (.lst r)):Z1 a b (upd H D (.lst k)) X g c j:=by
 obtain⟨⟨t,o⟩,e,p⟩:=id d.sh;have s:ZE D H (upd H D (.lst k)):=(ZE.refl D H).upd;refine R.but s (λz=>?_) (λy f=>?_) (s.tups m)
 ·rcases z with z | z | z
  ·exact ZY o n z.symm
  ·exact ZY e n z.symm
  ·exact ZY p n z.symm
 ·obtain⟨u,q⟩:=(d.tw y f).tw.self;obtain⟨v,l,_⟩:=(d.tw y f).things;exact⟨ZY q n,ZY (d.tw y f).tw.above n,ZY l n⟩
inductive XW(kh ki:ak):Sp
 |mk{H:Hp}{Q:VK}{E:XK}(X:YL)(j:ak)(c:Nat)(m:jf)(l:jq)(d:ak)(h:List (Zb×V))(F:jm)(v:V)(k:KT):Z1 kh ki H X j c m->Y7 X.ts H d h F->(∀ i,l=some i->i∈F)->(∀ i,i<X.ts.length->Uu (gd X.ts i))->ZD H k v->k.fits 3=true ->
  (∀(g:Hp)(a:ak)(e:jf),(∀ b o,b≠j->b≠X.S->H b=some o->g b=some o)->Z1 kh ki g X a c e->(a=j\/H a=none)->e.length<=200->Q (.bl true) g)->XW kh ki [.ref X.S,.ref d,Zo (Zn l),v] H Q E
abbrev GZ:jr:=["_law_shelf","_law_record","_law_root","_law_spot","_law_due_here","_law_way_there","_law_way","_law_told_here","_law_looked"]
def Xz:ZA GZ zEi (Zc OY):=Zr
abbrev O4:jf:=[.int 0,.int 1,.int 2,.int 3,.int 4,.int 3,.int 2,.int 1,.int 0]
inductive Dk(kh ki:ak)(X:YL)(j:ak)(c:Nat)(d:ak)(k:jq)(v:V)(D W:ak)(h:Hp)(i:Nat)(l:L2.St)(g:Hp):Prop
 |mk(a:ak)(e:jf)(m n p:jg):l=[some (.ref X.S),some (.ref d),some (Zo (Zn k)),some v,some (.ref D),some (.ref W),m,n,p]->(∀ b o,b≠j->b≠X.S->h b=some o->g b=some o)->Z1 kh ki g X a c e->(a=j\/h a=none)->(i≠0->e.length<=200)->Dk kh ki X j c d k v D W h i l g
abbrev FW(P:am)(w:ax)(K:zZ)(mg:jc)(km:aE)(f:ak)(b:aj)(A:ay)(a:jx)(s:al)(c:Hp)(E:XK):Cx:=(WZ ZZ P w K mg km GZ "_law_asked" (Zc OY) f b A a s c E).nox
def EC:List Stmt:=Ju ((WY OY)[2]?)
def FP{g e l:jt}(c:g.Perm l)(d:g.Pairwise (· <= ·))(h:e.Perm l)(i:e.Pairwise (· <= ·)):g=e:=wO.eq_of_pairwise (le:=λa b:Int=>a<=b) (λa b _ _ c d=>Int.le_antisymm c d) d i (c.trans h.symm)
def ZPU{cdv:aj}{A:ay}{outer:jx}{s:al}{Hs:Hp}{E:XK}(Z:ZT 67 (A.deeper (envOfC "_law_asked" (Zc OY) s.heap.objs.size f cdv)))(T:YA mg)(DA:ZB P w K mg km 7 "_law_alike" zEc (YE 6))(DL:ZB P w K mg km 8 "_law_rows_alike" zEc XX):
  ∃ t,Xh (FW P w K mg km f cdv A outer s Hs E) (EC.drop 5) t/\∀(Q:Z8)(O H:Hp)(X:YL)(B:ak)(c:Nat)(G:jf)(m:jm)(h:jq)(k:KT)(J:jt)(D a0 a1 a2 a3 C:ak)(d:Nat)(u:V)(x0 x1 x2 x3 x5:jg),Z1 kh ki O X B c G->Z1 kh ki H X B c (iN m)->Xa X.ts k h H D a0 a1 a2 a3->H C=some (.lst (iN m))->J.Perm ((Z4 X.ts h).map λj:Nat=>(j:Int))->J.Pairwise (· <= ·)->(∀ r∈WR X.ts h,r.fit)->(WR X.ts h).length<=60->(Z4 X.ts h).length<=119->d<=4->(d=4->m=[]/\u=.int (UE X.ts h))->(d≠4->∃ l N,u=.ref l/\O l=none/\H l=some (.lst N)/\jY H (NR X.ts k h J d) N) ->
   (∀ p,(∀ b o,O b≠none->H b=some o->p b=some o)->Z1 kh ki p X B c (iN m)->Q.nx [x0,x1,x2,x3,some (.ref D),x5,some (.int (d:Int)),some u,some (.ref C)] p) ->
    t Q [x0,x1,x2,x3,some (.ref D),x5,some (.int (d:Int)),some u,some (.ref C)] H:=by
 have nd:=Xz.nd;have hu:=Z.units0;have a4:=Z.to 7;have a5:=Z.to 8;refine⟨_,ZR (Zv (WA (OX (pv 6) ZJ))
    (ZR (Zv (PW.pt (Ph (Yc (NU hu) (pv 8) (YG Zj) (Z9 _)) (Pf (UB (Y3 (Zg DA a4 (Zl (pv 7) (YJ K (pv 4) ZJ)))))))) (ZR (Zd Xr)) Zy))
    (ZR (Zv (UB (Y3 (Zg DL a5 (Zl (pv 7) (YJ K (pv 4) (pv 6)))))) (ZR (Zd Xr)) (ZR (Xl (VM yK xH xG Uh (pv 7) (ZX ZJ))))))),?_⟩
 intro Q O H X B c G m h k J D a0 a1 a2 a3 C d u x0 x1 x2 x3 x5 R1 R v Y pm sr M L lp h4 z4 z1 x;refine⟨_,rfl,_,_,rfl,rfl,_,rfl,Xw (λU=>?_) (λU=>?_)⟩
 ·have w4:d=4:=by have:=of_decide_eq_true U;lia
  obtain⟨rfl,rfl⟩:=z4 w4;exists _,rfl,Zu;intro e0 a6;have g:=ZU a6 (.lst []);refine⟨C,e0,_,rfl,rfl,ZG.of (g _ _ Y),ZG.of ZM,_,rfl,Zk ?_⟩;obtain⟨_,_,_,_,W,_⟩:=(v.off (λb _ o e=>g b o e) (ZC.tups g)).get;refine⟨_,rfl,_,rfl,.inl ⟨D,_,_,_,rfl,rfl,ZG.of W,rfl,_,_,.int (UE X.ts h),.int (UE X.ts h),0,rfl,.int _,.int _,by rw[KT.wide],by decide,λp q=>?_⟩⟩
  rw[QF];exact⟨_,rfl,Zk (x p (λb o _ e=>q _ _ (g b o e)) ((R.same g).same q))⟩
 ·have w4:d≠4:=λz=>U (aK ∅)
  obtain⟨l,N,rfl,I,y,ks⟩:=z1 w4;obtain⟨a9,a7,a8,_,W,S⟩:=v.get;cases FP a7 a8 pm sr;obtain⟨a,zs,ea,ha,kz⟩:=S d ∅
  have ln:J.length<=119:=by rw[pm.length_eq,zX];exact lp
  refine⟨_,rfl,_,rfl,_,rfl,.inl ⟨D,_,_,_,rfl,rfl,ZG.of W,ea,l,a,N,zs,_,_,rfl,y,ha,ks,kz,ZL0 M d,FL L ln lp d,λp q=>?_⟩⟩;rw[eqbL_self];have B:=ks.length;have ld:=FL (k:=k) L ln lp d;have i:=q _ _ y;refine⟨_,rfl,Zk ⟨_,rfl,.inl ⟨rfl,_,ZG.of i⟩,l,N,_,rfl,rfl,i,nn ∅,x _ (λb o n e=>by rw[ZS (λz=>n (by rw[z];exact I))];exact q b o e) (ZNe R1 I (R.same q) i)⟩⟩
def ZOG{cdv:aj}{A:ay}{outer:jx}{s:al}{Hs:Hp}{E:XK}(J:ZT 67 (A.deeper (envOfC "_law_asked" (Zc OY) s.heap.objs.size f cdv)))(T:YA mg)(L:Yh K mg kh ki)(DF:ZL P w K mg km ZZ 1 kh "forget" zEs (Xj kh ki))(DT:Yu P w K mg km 67 "_law_told" Uy (Xf kh ki CT CK))(DK:ZL P w K mg km ZZ 1 kh "looked" zEs (Xk kh ki))(DA:ZB P w K mg km 7 "_law_alike" zEc (YE 6))(DL:ZB P w K mg km 8 "_law_rows_alike" zEc XX):
  ∃ t,Xh (FW P w K mg km f cdv A outer s Hs E) EC t/\∀(D0:Z8)(H:Hp)(X:YL)(lk:ak)(c:Nat)(ls:jf)(x:jq)(d:ak)(v:V)(k:KT)(D a0 a1 a2 a3 W:ak)(wn:jt)(wy:Nat)(x7 x8:jg),Z1 kh ki H X lk c ls->WF X.ts->(∀ i,i<X.ts.length->Uu (gd X.ts i))->(∀ i,x=some i->i<X.ts.length)->ZD H k v->k.fits 3=true->Xa X.ts k x H D a0 a1 a2 a3->H W=some (.lst (wn.map V.int))->wn.Perm (((WO X.ts k x).map (·.1)).map λj:Nat=>(j:Int))->wn.Pairwise (· <= ·)->wy<=4 ->
   (∀(H':Hp)(c2:ak)(c3:jf)(y7 y8:jg),(∀ b o,b≠X.S->H b=some o->H' b=some o)->Z1 kh ki H' X c2 c c3->H c2=none->c3.length<=200->D0.nx [some (.ref X.S),some (.ref d),some (Zo (Zn x)),some v,some (.ref D),some (.ref W),some (.int (wy:Int)),y7,y8] H') ->
    t D0 [some (.ref X.S),some (.ref d),some (Zo (Zn x)),some v,some (.ref D),some (.ref W),some (.int (wy:Int)),x7,x8] H:=by
 have nd:=Xz.nd;have hu:=J.units0;have a9:=J.to 1;have l5:=J.to 7;have l6:=J.to 8;obtain⟨t,ht,e6⟩:=ZPU (P:=P) (w:=w) (K:=K) (mg:=mg) (km:=km) (f:=f) (kh:=kh) (ki:=ki) (cdv:=cdv) (A:=A) (outer:=outer) (s:=s) (Hs:=Hs) (E:=E) J T DA DL;refine⟨_,ZN (Xl (GB (E:=E0) (pv 0) L.cS DF a9 XJ))
   (ZN (Zi 7 nd (ZL6 DT J (VN (pv 6) (pv 0) (pv 2) (pv 3))))
   (ZN (Zi 8 nd (GB (E:=E0) (pv 0) L.cS DK a9 XJ))
   (ZN (Zv (PW.pt (Ph (Yc Eo (Z2 (r:=OA P w) ZJx rfl T.len Xu (ZX (X0 (r:=Vx P w) (ZJX rfl) rfl T.set ZPs (ZX (pv 8))))) (Z2 WN rfl T.len Xu (ZX (pv 8))) (Z9 _))
     (Pf (Yc (NU hu) (Wr [4] ["_law_due_here"] rfl (X7 (pv 8)) (λ_ _ _ _ _=>NY (Yc (r:=JS K true) ZJC (pv 0) (YJ K (pv 1) ZJ) rfl)) (λ_ _ _ _ _=>pv 0) ⟨rfl,.inl rfl,rfl,trivial⟩) (YG Zj) (Z9 _))))) (ZR (Zd Xr)) Zy)
   (ZN (Zv (PW.pt (NX (WA (OX (pv 6) ZJ)) (Nb (Yc (FD J) (Z2 KN rfl T.sorted KI (ZX (pv 8))) (pv 5) (Z9 _))))) (ZR (Zd Xr)) Zy)
   ht)))),?_⟩
 intro D0 H X lk c ls x d v k D a0 a1 a2 a3 W wn wy x7 x8 R hw a4 C hv fk Y hW l0 l2 h4 e8;obtain⟨dx,hS⟩:=R.sh.self;exists _,rfl,X.S,dx,_,rfl,hS,rfl,X,lk,c,ls,rfl,R;intro H1 M U Z R1;have l3:Z3 H H1:=λb xs e=>Z b _ (ZV e hS) e;obtain⟨ns,pm,sr,_,_,_⟩:=Y.get;exists _,rfl,_,rfl,_,rfl,_,rfl;show Xf kh ki CT CK _ _ _ _;refine ZOi R1 hw a4 C (hv.mono l3 _ _) fk pm sr h4 λH2 u td=>?_;obtain⟨m,e9,R2,c4,c1,z0,z4,z1⟩:=td;have lp:=Lz hw λi e=>⟨C i e,(a4 i (C i e)).2⟩;have lm:m.length<=119:=zS (List.Nodup.length_le_of_subset c4 c1) lp;obtain⟨e7,i0⟩:=R2.sh.self;exists _,rfl,X.S,e7,_,rfl,i0,rfl,X,M,c,_,rfl,R2;intro Q i7;have g3:=ZU i7 (.lst (iN m));have I:=ZM (H:=H2) (a:=Q) (o:=.lst (iN m));have R3:=R2.same g3;generalize upd H2 Q (.lst (iN m))=H3 at g3 I R3⊢;have en:iN m=(m.map λj:Nat=>(j:Int)).map V.int:=by
  unfold iN;rw[xO];rfl
 have y:=I;rw[en] at y;have i5:(m.map λj:Nat=>(j:Int)).Nodup:=tH.map _ (λa b h z=>h ∅) c4
 have li:(m.map λj:Nat=>(j:Int)).length=m.length:=zX _;have N:∀{b:ak}{o:HO},b≠X.S->H b=some o->H3 b=some o/\b≠M:=fun{b o} n e=>by
  have n1:=ZY e U;exact⟨g3 _ _ (e9 b o n1 (Z b o n e)),n1⟩
 have l4:Z3 H H3:=λb xs e=>(N (ZV e hS) e).1;have lS:∀{b:ak}{zs:jf},H b=some (.lst zs)->b≠X.S:=λe=>ZV e hS;have O:Xa X.ts k x H3 D a0 a1 a2 a3:=Y.off (λb hb o e=>by
  obtain⟨F,ws,c5,h1,h2,h3,h4,h5,h6,h7,h8,h9⟩:=Y;simp only[zF,wY,or_false] at hb;rcases hb with z | z | z | z | z <;> subst z <;> exact(N (lS (by assumption)) e).1) l4
 have i1:=(N (lS hW) hW).1;exists _,rfl,Q,_,rfl,y,i5,by lia
 intro se i8;have g4:=ZU i8 (Py P w se (m.map λj:Nat=>(j:Int)));have a8:=ZM (H:=H3) (a:=se) (o:=Py P w se (m.map λj:Nat=>(j:Int)));generalize upd H3 se (Py P w se (m.map λj:Nat=>(j:Int)))=H4 at g4 a8⊢;have l:=g4 _ _ I;exists se,_,rfl,a8,∅,_,rfl,Q,_,rfl,.inl (ZG.of l),rfl,_,rfl
 rw[show (iN m).length=(m.map λj:Nat=>(j:Int)).length by rw[en,zX],aK rfl]
 refine Zk ?_;have a5:=O.off (λb _ o e=>g4 b o e) (ZC.tups g4);refine⟨_,rfl,Q,rfl,⟨_,ZG.of l⟩,Ng (n:=(iN m).length) (λi z=>(iN m)[i]? = some z) (λ_=>false) (λE i F G=>ZC H4 G/\H4 E=none/\F=[]) (Yq (by unfold iN;rw[zX];lia))
  (λE i F G hi q=>⟨iN m,_,ZG.of (q.1 _ _ l),zU hi⟩) (λE i F G z H7 hi q hy=>⟨hy.1,hy.2 _ (ZG.of (q.1 _ _ l))⟩) (λE F G q=>⟨iN m,ZG.of (q.1 _ _ l),zY _⟩)
  (λE hE=>⟨ZU hE _,hE,rfl⟩) (λE i F G z eE hi hz q B hB=>?_) (λE i F G z eE hi hz hk q B hB=>nomatch hk) (λE i F G eE hi hk q=>q) (λE F G eE q=>?_)⟩
 ·obtain⟨j,ej,rfl⟩:=O5 hz;obtain⟨c5,i9,_,i3,hD,_⟩:=(a5.off (λb _ o e=>q.1 b o e) (ZC.tups q.1)).get;have mj:((j:Nat):Int)∈c5:=i9.symm.subset (zM.mpr ⟨j,c1 j (zK ej),rfl⟩);refine⟨_,rfl,_,rfl,.inl ⟨D,_,_,_,rfl,rfl,ZG.of hD,rfl,a2,_,rfl,.inl (ZG.of i3),rfl,AH _,_,rfl,?_⟩⟩;rw[aO rfl,ZOu mj];exact hB G eE q
 obtain⟨s6,nE,rfl⟩:=q;exists Zu;intro e0 i6;have g7:=ZU i6 (.lst []);refine⟨E,e0,[],rfl,rfl,ZG.of (g7 _ _ eE),ZG.of ZM,_,rfl,Zk ?_⟩;have g:=(g4.trans s6).trans g7;generalize upd G e0 (.lst [])=H7 at g⊢;have c8:=g3.trans g;have a7:=g _ _ y;have a6:=O.off (λb _ o e=>g b o e) (ZC.tups g);have i2:=g _ _ i1;have R7:=R3.same g;have c6:∀ b o,b≠X.S->H b=some o->H7 b=some o:=λb o n e=>g b o (N n e).1;have i4:(iN m).length<=200:=by unfold iN;rw[zX];lia
 have l7:=ZC.tups c8;have c7:∀ r∈WR X.ts x,r.fit:=by
  cases x with
  | none=>intro r J;cases J
  | some i=>exact(hw i _ (YZ (C i rfl))).inn
 have l1:(WR X.ts x).length<=60:=by
  cases x with
  | none=>exact zL _
  | some i=>exact(a4 i (C i rfl)).2
 have go:∀{H8:Hp},ZC H7 H8->t D0 [some (.ref X.S),some (.ref d),some (Zo (Zn x)),some v,some (.ref D),some (.ref W),some (.int (wy:Int)),some u,some (.ref Q)] H8:=fun{H8} s8=>by
  have c9:=c8.trans s8;refine e6 D0 H1 H8 X M c [] m x k ns D a0 a1 a2 a3 Q wy u _ _ _ _ _ R1 (R7.same s8) (a6.off (λb _ o e=>s8 b o e) (ZC.tups s8)) ((g.trans s8) _ _ I) pm sr c7 l1 lp h4 z4 (λz=>?_) λH' fr R'=>e8 H' M (iN m) _ _ (λb o n e=>fr b o (by rw[Z b o n e];exact λz=>nomatch z) (s8 b o (c6 b o n e))) R' U i4
  obtain⟨D',F,e1,e2,e3,e4,e5⟩:=z1 z;exact⟨D',F,e1,e2,c9 _ _ e4,e5.sm c9⟩
 by_cases w0:wy=0
 ·subst w0;refine⟨_,rfl,_,_,rfl,rfl,_,rfl,Zw ?_⟩;exists _,rfl,Q,_,ZG.of a7,by lia
  intro p ms np hp hs;have g8:=ZU np (.lst (ms.map V.int));have e:=z0 rfl;rw[e] at hp;cases FP hp hs l0 l2;have sm:∀ t∈wn.map KT.int,t.depth<=3:=λt ht=>by
   obtain⟨n,hn,rfl⟩:=zM.mp ht;rw[KT.depth];decide
  exists _,rfl,p,W,_,_,_,_,rfl,rfl,ZG.of ZM,ZG.of (g8 _ _ i2),Na wn,Na wn,sm,_,rfl;rw[eqbL_self];exact Zk (go g8)
 ·refine⟨_,rfl,_,_,rfl,rfl,_,rfl,Xw (λc0=>absurd (of_decide_eq_true c0) ∅) λ_=>?_⟩
  exact Zk (go (ZC.refl H7))
def ZLo(F0:Zf K "_law_asked" "_law_asked" OY f fd)(T:YA mg)(L:Yh K mg kh ki)(DD:ZB P w K mg km 8 "_law_due" zEh (V1))(DW:ZB P w K mg km 7 "_law_on_way" zEh (Qd))(DF:ZL P w K mg km ZZ 1 kh "forget" zEs (Xj kh ki))(DT:Yu P w K mg km 67 "_law_told" Uy (Xf kh ki CT CK))(DK:ZL P w K mg km ZZ 1 kh "looked" zEs (Xk kh ki))(DA:ZB P w K mg km 7 "_law_alike" zEc (YE 6))(DL:ZB P w K mg km 8 "_law_rows_alike" zEc XX):
  ZI P w K mg km ZZ 68 f fd zEi (XW kh ki):=by
 refine F0.ok Xz (λvs H Q E h=>(by cases h;rfl)) (λa9 A U s H vs Q E hr h=>?_)
 obtain⟨X,lk,c,ls,V,d,a6,F,v,k,R,RD,J,x,hv,fk,q⟩:=h;have nd:=Xz.nd;have c3:=hr.to 7;have c4:=hr.to 8;obtain⟨t,ht,a8⟩:=ZOG (P:=P) (w:=w) (K:=K) (mg:=mg) (km:=km) (f:=f) (cdv:=a9) (A:=A) (outer:=U) (s:=s) (Hs:=H) (E:=E) hr T L DF DT DK DA DL;intro Xc;refine⟨_,ZN (N1 (i:=4) nd rfl (Or.inr rfl) (Zg DD c4 (QT (pv 1) (pv 2) (pv 3))))
  (ZN (Zi 5 nd (Zg DW c3 (QT (pv 1) (pv 2) (pv 3))))
  (ZN (Vo PassesOwn.never rfl (X7 (YG (pa9 ZJ ZJ ZJ ZJ ZJ ZJ ZJ ZJ ZJ))) (Xe 6 nd) ht)
  (ZR (Zd Xr)))),?_⟩
 have a5:=RD.rcd.lt;have hw:=RD.wf;have C:∀ i,V=some i->i<X.ts.length:=λi e=>a5 i (J i e);have lp:=Lz hw λi e=>⟨C i e,(x i (C i e)).2⟩;have c9:(WR X.ts V).length<=60:=by
  cases V with
  | none=>exact zL _
  | some i=>exact(x i (C i rfl)).2
 refine⟨_,rfl,_,rfl,_,rfl,.mk X.ts d a6 F V v k RD J ∅ c9 hv fk λH1 D a0 a1 a2 a3 s1 nw c0=>?_⟩
 refine⟨_,rfl,_,rfl,_,rfl,.mk X.ts d a6 F V v k (RD.same s1) J (λj hj=>x j (a5 j hj)) (hv.sm s1) fk λH2 W wn s2 nW hW c8 e0=>?_⟩;exists Zu;intro l nl;have gl:=ZU nl (.lst O4);have el:upd H2 l (.lst O4) l=some (.lst O4):=ZM;have G:=s2.trans gl;have g:=s1.trans G;have a4:=gl _ _ hW;generalize upd H2 l (.lst O4)=Y at gl el G g a4⊢;have Z:=c0.off (λb _ o e=>G b o e) (ZC.tups G);obtain⟨⟨dS,hS⟩,_,hl⟩:=id R.sh;have frs:∀{b:ak},H b=none->b≠lk/\b≠X.S:=λn=>⟨(ZY hl n).symm,(ZY hS n).symm⟩;have c7:H l=none:=(s1.trans s2).free nl;have c6:H W=none:=s1.free nW;have O:∀{b:ak}{o:HO}{H':Hp},(∀ b o,b≠lk->b≠X.S->Y b=some o->H' b=some o)->H b=none->Y b=some o->H' b=some o:=λp n e=>p _ _ (frs n).1 (frs n).2 e;refine⟨l,rfl,⟨_,ZG.of el⟩,Pp (K:=K) (a:=l) (xs:=O4) (Dk kh ki X lk c d V v D W Y) ⟨lk,ls,_,_,_,rfl,λb o _ _ e=>e,R.same g,.inl rfl,λz=>absurd rfl z⟩ (λi σ H' _ hP=>?_) ?_ ?_⟩
 ·obtain⟨_,_,_,_,_,_,p,_⟩:=hP;exact ZG.of (O p c7 el)
 ·rintro i u σ H4 hu ⟨M,N,x6,x7,x8,rfl,p,R4,I,_⟩;obtain⟨wy,rfl,h4⟩:∃ wy:Nat,u=.int (wy:Int)/\wy<=4:=by
   have m:=zK hu;simp only[O4,zF,wY,or_false] at m;rcases m with z | z | z | z | z | z | z | z | z <;> subst z
   ·exact⟨0,rfl,by decide⟩
   ·exact⟨1,rfl,by decide⟩
   ·exact⟨2,rfl,by decide⟩
   ·exact⟨3,rfl,by decide⟩
   ·exact⟨4,rfl,by decide⟩
   ·exact⟨3,rfl,by decide⟩
   ·exact⟨2,rfl,by decide⟩
   ·exact⟨1,rfl,by decide⟩
   ·exact⟨0,rfl,by decide⟩
  have a7:Z3 Y H4:=λb xs e=>p b _ (ZV e (R.same g).sh.looks) (by obtain⟨_,z⟩:=(R.same g).sh.self;exact ZV e z) e
  refine a8 _ H4 X M c N V d v k D a0 a1 a2 a3 W wn wy _ _ R4 hw x C ((hv.sm g).mono a7 _ _) fk (Z.off (λb hb o e=>O p (nw b hb) e) a7) (O p c6 a4) c8 e0 h4 λH' r c5 y7 y8 c1 R' B l'=>⟨r,c5,_,_,_,rfl,λb o n1 n2 e=>c1 b o n2 (p b o n1 n2 e),R',?_,λ_=>l'⟩;by_cases z:r=lk
  ·exact .inl z
  ·right
   cases e:Y r with
   | none=>rfl
   | some o=>
    by_cases y:r=X.S
    ·obtain⟨_,c2⟩:=R4.sh.self;rw[y,c2] at B;cases B
    ·rw[p _ _ z y e] at B;cases B
 ·rintro σ H4 ⟨M,N,x6,x7,x8,rfl,p,R4,I,l4⟩;exact q H4 M N (λb o n1 n2 e=>p b o n1 n2 (g b o e)) R4 (I.imp id λz=>g.free z) (l4 (by decide))
def Al{X:Cx}{a b c d e g i j:Expr}{k l m n o p q r:TE}(s:PE X a k)(t:PE X b l)(u:PE X c m)(v:PE X d n)(x:PE X e o)(y:PE X g p)(z:PE X i q)(A:PE X j r)(h:[a,b,c,d,e,g,i,j].all QI=true:=by rfl):
  PA X [a,b,c,d,e,g,i,j] (YX k (YX l (YX m (YX n (YX o (YX p (YX q (YX r Vr)))))))):=
 (ZW s (ZW t (ZW u (ZW v (ZW x (ZW y (ZW z (ZW A Zj (Yr (zQ.mp h j (by simp)))) (Yr (zQ.mp h i (by simp)))) (Yr (zQ.mp h g (by simp)))) (Yr (zQ.mp h e (by simp)))) (Yr (zQ.mp h d (by simp)))) (Yr (zQ.mp h c (by simp)))) (Yr (zQ.mp h b (by simp)))) (Yr (zQ.mp h a (by simp))))
def EY:(PX "a" 41).length=41:=by decide +kernel
def ZPP:U7 (yE "\n")=false:=by decide +kernel
inductive VQ(c:jf)(H:Hp)(Q:VK)(_:XK):Prop
 |mk(p:ak)(_:c=[.ref p])(_:ZH H p)(_:∀(v:V)(a:Hp),U5 (λb=>b=p\/H b≠none) a none v->ZH a p->ZE p H a->Q v a)
def ZRb:ZA zEg zEg (Zc IG):=Zr
def ZQD(F:Zf K "_law_bad" "_law_bad" IG f fd)(DP:ZB P w K mg km 1 "_law_pull" zEb Zs):ZI P w K mg km ZZ 2 f fd zEg VQ:=by
 refine F.ko ZRb λa0 A G s H vs Q E hr h=>?_;obtain⟨p,rfl,W,q⟩:=h;intro Xc;refine⟨_,ZR (Zd (YJ K (YG (Al Xr O1 (YG (ZX ZJ)) (Zx MT ZJ ZJ) (Zx ZIA Xm ZJ) (Yw (EJ ZJ ZJ ZJ ZJ ZJ)) (Yw (ZX Xm))
  (Yw (ZX (Yw (ZX (Yw (ZX (Yw Zj))))))))) (Zg DP hr (Zl (pv 0) ZJ)))),?_⟩
 exists Zu;intro c D;have g1:=ZU D (.lst [.int 1]);exists _,_,rfl,rfl,⟨by decide,by decide,by decide⟩,_,_,rfl,rfl,by decide +kernel,by decide,by decide,Zu
 intro g n2;have g2:=ZU n2 (.tup [.int 1,.int 2,.int 3,.int 4,.int 5]);exists Zu;intro i n3;have g3:=ZU n3 (.tup [.str (yE "\n")]);exists Zu;intro l n4;have g4:=ZU n4 (.tup []);exists Zu;intro m n5;have g5:=ZU n5 (.tup [.ref l]);exists Zu;intro n n6;have g6:=ZU n6 (.tup [.ref m]);exists Zu;intro k n7;have g7:=ZU n7 (.tup [.ref n]);exists Zu;intro d n8;have g8:=ZU n8 (.lst [.bl true,.non,.ref c,.int ((10:Int) ^ (60:Int).toNat),.str (PX "a" 41),.ref g,.ref i,.ref k]);have Y:=g7.trans g8;have X:=g6.trans Y;have U:=g5.trans X;have S:=g4.trans U;have R:=g3.trans S;have O:=g2.trans R;have N:=g1.trans O;have b7:=((((((g1.trans g2).trans g3).trans g4).trans g5).trans g6).trans g7);have e1:=O _ _ (ZM (a:=c) (o:=.lst [.int 1]));have e2:=R _ _ (ZM (a:=g) (o:=.tup [.int 1,.int 2,.int 3,.int 4,.int 5]));have e3:=S _ _ (ZM (a:=i) (o:=.tup [.str (yE "\n")]));have e4:=U _ _ (ZM (a:=l) (o:=.tup []));have e5:=X _ _ (ZM (a:=m) (o:=.tup [.ref l]));have e6:=Y _ _ (ZM (a:=n) (o:=.tup [.ref m]));have e7:=g8 _ _ (ZM (a:=k) (o:=.tup [.ref n]));have dp:d≠p:=Ur (W.same b7) n8;have J:c≠p:=Ur W D;have I:=W.same N;have Z:upd (upd (upd (upd (upd (upd (upd (upd H c (.lst [.int 1])) g (.tup [.int 1,.int 2,.int 3,.int 4,.int 5])) i (.tup [.str (yE "\n")])) l (.tup [])) m (.tup [.ref l])) n (.tup [.ref m])) k (.tup [.ref n])) d (.lst [.bl true,.non,.ref c,.int ((10:Int) ^ (60:Int).toNat),.str (PX "a" 41),.ref g,.ref i,.ref k]) d=some (.lst [.bl true,.non,.ref c,.int ((10:Int) ^ (60:Int).toNat),.str (PX "a" 41),.ref g,.ref i,.ref k]):=ZM;generalize upd (upd (upd (upd (upd (upd (upd (upd H c (.lst [.int 1])) g (.tup [.int 1,.int 2,.int 3,.int 4,.int 5])) i (.tup [.str (yE "\n")])) l (.tup [])) m (.tup [.ref l])) n (.tup [.ref m])) k (.tup [.ref n])) d (.lst [.bl true,.non,.ref c,.int ((10:Int) ^ (60:Int).toNat),.str (PX "a" 41),.ref g,.ref i,.ref k])=H1 at *;exists _,rfl,p,8,rfl,I,Xn (by decide) (by decide)
 intro j x j0 j1 W2 u;obtain⟨v,L,C⟩:=Op (xs:=[V.bl true,.non,.ref c,.int ((10:Int) ^ (60:Int).toNat),.str (PX "a" 41),.ref g,.ref i,.ref k]) j0 j1;have t:=u.tupsW I;refine .inl ⟨d,_,_,v,rfl,rfl,ZG.of (u _ _ Z dp),L,?_⟩;have B:U5 (λb=>b=p\/H b≠none) x none v->Q v x:=λh=>q v x h W2 ((ZE.of N).trans u);refine B ?_;have r:(10:Int) ^ 60<=(10:Int) ^ (60:Int).toNat:=by decide +kernel
 clear L Z;generalize (10:Int) ^ (60:Int).toNat=M at C r;simp only[zF,wY,or_false] at C;rcases C with rfl | rfl | rfl | rfl | rfl | rfl | rfl | rfl
 ·exact⟨.odd "bool",by rw[Zm];exact .inl ⟨rfl,true,rfl⟩,by rw[TG.neat];trivial,by rw[TG.fits]⟩
 ·exact⟨.odd "NoneType",by rw[Zm];exact .inr (.inl ⟨rfl,rfl⟩),by rw[TG.neat];trivial,by rw[TG.fits]⟩
 ·exact⟨.odd "list",by rw[Zm];exact .inr (.inr (.inl ⟨rfl,c,_,rfl,u _ _ e1 J,λz=>z.elim J λy=>y D⟩)),by rw[TG.neat];trivial,by rw[TG.fits]⟩
 ·exists .int M,by rw[Zm],by rw[TG.neat];trivial
  rw[TG.fits];refine aJ λz=>?_;have e:((10:Int) ^ 60)=((10 ^ 60:Nat):Int):=by decide +kernel
  rw[e] at r;generalize (10 ^ 60:Nat)=T at *
  lia
 ·exists .str _,by rw[Zm],by rw[TG.neat,EY];decide
  rw[TG.fits];unfold U7;rw[EY];rfl
 ·exists .tup [.int 1,.int 2,.int 3,.int 4,.int 5],?_,?_
  ·rw[Zm];exact⟨g,_,rfl,t _ _ e2,by simp[kg,Zm]⟩
  ·simp[TG.neat,neatL]
  ·simp[TG.fits]
 ·exists .tup [.str (yE "\n")],?_,?_
  ·rw[Zm];exact⟨i,_,rfl,t _ _ e3,by simp[kg,Zm]⟩
  ·rw[TG.neat];exact⟨by decide,by rw[neatL,neatL,TG.neat];exact⟨by decide +kernel,trivial⟩⟩
  ·rw[TG.fits,gfitsL,TG.fits,ZPP];rfl
 ·exists .tup [.tup [.tup [.tup []]]],?_,?_
  ·rw[Zm];exists k,_,rfl,t _ _ e7;rw[kg];refine⟨_,_,rfl,?_,by rw[kg]⟩
   rw[Zm];exists n,_,rfl,t _ _ e6;rw[kg];refine⟨_,_,rfl,?_,by rw[kg]⟩
   rw[Zm];exists m,_,rfl,t _ _ e5;rw[kg];refine⟨_,_,rfl,?_,by rw[kg]⟩
   rw[Zm];exact⟨l,_,rfl,t _ _ e4,by rw[kg]⟩
  ·simp[TG.neat,neatL]
  ·simp[TG.fits,gfitsL]
end Tw
namespace L2
open PySem PySem.Spec PyProof.Rows
inductive PZ(x y:V)(H:Hp)(Q:VK):Prop
 |mk(a b:ak)(c:List (Zb×V))(_:x=.ref a)(_:y=.ref b)(_:H a=some (.dK c))(_:H b=some (.dK []))(_:Q (.bl (!c.isEmpty)) H)
def BU(t:X.A.units<cLine):Yd X (aA .NotEq) (PZ):=by
 intro m s F H x y v u Q I z B h;obtain⟨a,b,k,rfl,rfl,o,p,q⟩:=h;cases z;cases B;obtain⟨D,g,j,f,c⟩:=Nh I.hok o;obtain⟨E,i,C,VR,d⟩:=Nh I.hok p;have l:=KV.length f;have w:=KV.length VR;have n:C=[]:=qP.mp w.symm;subst n;refine PySem.W.keq_ne (r:=true) g i c d t (λe=>?_) ⟨.bl (!k.isEmpty),H,I,?_,q⟩
 ·have:j=[]:=qP.mp e;subst this;exact .nil
 ·show Value.bool _=Value.bool _
  congr 1
  cases k with
  | nil=>cases j with
   | nil=>rfl
   | cons _ _=>simp at l
  | cons _ _=>cases j with
   | nil=>simp at l
   | cons _ _=>rfl
end L2
namespace Tw
open PySem PySem.Spec L2 PyProof.Rows
variable{kh ki CS CT CH CK CP CB:ak}
section
variable{kh ki:ak}{H H':Hp}{X:YL}{lk:ak}{c:Nat}{ls:jf}
def Z1.off(R:Z1 kh ki H X lk c ls){p q:ak}{w x:jf}(g:H p=some (.lst w))(h:H q=some (.lst x))(a:∀ b o,b≠p->b≠q->H b=some o->H' b=some o)(l:p≠lk)(m:q≠lk)(r:∀ i:Nat,i<X.ts.length->(X.as.getD i .d).ab≠p/\(X.as.getD i .d).th≠p)(s:∀ i:Nat,i<X.ts.length->(X.as.getD i .d).ab≠q/\(X.as.getD i .d).th≠q):Z1 kh ki H' X lk c ls:=by
 have t:Z3 H H':=λb o e=>a b _ (ZV e g) (ZV e h) e;obtain⟨⟨u,j⟩,k,v⟩:=R.sh;refine⟨⟨⟨u,a _ _ (ZV j g) (ZV j h) j⟩,a _ _ (ZV k g) (ZV k h) k,a _ _ (Ne.symm l) (Ne.symm m) v⟩,R.keys,R.val,λi f=>?_,R.own,R.le⟩;obtain⟨y,n⟩:=(R.tw i f).tw.self;exact(R.tw i f).frame t (λo e=>a _ _ (ZV n g) (ZV n h) e) (λo e=>a _ _ (r i f).2 (s i f).2 e) (λo e=>a _ _ (r i f).1 (s i f).1 e)
end
structure Y1(ts:jn)(H:Hp)(t:Va):Prop where
 tp:H t.T=some (.tup [.ref t.r,Zo (Zn t.rn),.ref t.d])
 rcd:Y7 ts H t.d t.kv t.F
 rt:∀ i,t.rn=some i->i∈t.F
def Y1.go{b:jn}{H a:Hp}{t:Va}(h:Y1 b H t)(m:Z3 H a)(c:∀ o,H t.d=some o->a t.d=some o):Y1 b a t:=
 ⟨m _ _ h.tp,⟨c _ h.rcd.hd,h.rcd.rcd.mono m,h.rcd.clo,h.rcd.wf⟩,h.rt⟩
structure Nu(kh ki:ak)(H0:Hp)(X:YL)(L kn:ak)(t1 t2:Va):Prop where
 nS:H0 X.S=none
 nd:H0 X.d=none
 nkn:H0 kn=none
 Lkn:L≠kn
 D1:t1.d≠X.d
 D2:t2.d≠X.d
 okn:∀ i:Nat,i<X.ts.length->(X.as.getD i .d).ab≠kn/\(X.as.getD i .d).th≠kn
 wf:WF X.ts
 low:∀ i,i<X.ts.length->Uu (gd X.ts i)
 len:X.ts.length<=240
structure UP(kh ki:ak)(H0 H:Hp)(X:YL)(lk:ak)(c:Nat)(ls:jf)(L kn:ak)(t1 t2:Va)(us:jf)(kts:jp):Prop where
 sh:Z1 kh ki H X lk c ls
 s0:ZC H0 H
 nlk:H0 lk=none
 hL:H L=some (.lst [.ref t1.T,.ref t2.T])
 Llk:L≠lk
 tr1:Y1 X.ts H t1
 tr2:Y1 X.ts H t2
 hk:H kn=some (.lst us)
 ks:jY H kts us
 fit:∀ t∈kts,t.fits 3=true
 klk:kn≠lk
section
variable{kh ki:ak}{H0 H H':Hp}{X:YL}{lk lk':ak}{c c':Nat}{ls ls':jf}{L kn:ak}{t1 t2:Va}{us:jf}{kts:jp}{p:ak}
abbrev Fr(X:YL)(lk p:ak)(H H':Hp):Prop:=∀ b o,b≠lk->b≠p->b≠X.S->b≠X.d->H b=some o->H' b=some o
def UP.tups(j:UP kh ki H0 H X lk c ls L kn t1 t2 us kts){o:jf}(h:H p=some (.lst o))(a:Fr X lk p H H'):Z3 H H':=λb k e=>by
 obtain⟨⟨i,d⟩,f,g⟩:=id j.sh.sh;exact a b _ (ZV e g) (ZV e h) (ZV e d) (ZV e f) e
def UP.step(C:Nu kh ki H0 X L kn t1 t2)(j:UP kh ki H0 H X lk c ls L kn t1 t2 us kts){o:jf}(l:H p=some (.lst o))(A:H0 p=none)(r:L≠p)(v:kn≠p)(g:Fr X lk p H H')(B:Z1 kh ki H' X lk' c' ls')(q:lk'=lk\/H lk'=none):UP kh ki H0 H' X lk' c' ls' L kn t1 t2 us kts:=by
 obtain⟨⟨D,k⟩,s,u⟩:=id j.sh.sh;have f:∀{b:ak}{o:jf},H b=some (.lst o)->b≠lk->b≠p->H' b=some (.lst o):=fun{b o} e w x=>g b _ w x (ZV e k) (ZV e s) e;have t:=j.tups l g;have m:∀{b:ak}{o:HO},H b=some o->b≠lk->b≠lk':=fun{b o} e n z=>q.elim (λy=>n (z.trans y)) λy=>by rw[<-z,e] at y;cases y
 have i:∀{t:Va},Y1 X.ts H t->t.d≠X.d->Y1 X.ts H' t:=fun{i} h n=>h.go t λo e=>by
  have a:=h.rcd.hd;rw[a] at e;cases e;exact g _ _ (ZV a u) (ZV a l) (ZV a k) n a
 exact⟨B,λb o e=>g b o (ZY e j.nlk) (ZY e A) (ZY e C.nS) (ZY e C.nd) (j.s0 b o e),q.elim (λy=>by rw[y];exact j.nlk) λy=>j.s0.free y,f j.hL j.Llk r,m j.hL j.Llk,i j.tr1 C.D1,i j.tr2 C.D2,f j.hk j.klk v,j.ks.mono t _ _,j.fit,m j.hk j.klk⟩
end
def Z1.well{a f:ak}{H k:Hp}{X:YL}{j p:ak}{c:Nat}{m:jf}(R:Z1 a f H X j c m)(W:ZH H p)(h:p≠j)(g:∀ i:Nat,i<X.ts.length->(X.as.getD i .d).ab≠p/\(X.as.getD i .d).th≠p)(s:ZE p H k):Z1 a f k X j c m:=by
 obtain⟨q,l⟩:=W.some;exact R.off l l (λb o n _ e=>s b o e n) h h g g
def JW:List Stmt:=Ju ((WY UH)[3]?)
abbrev DX:jr:=["_law_script","_law_shelf","_law_trees_here","_law_known_here","_law_k","_law_well_here","_law_rows","_law_root","_law_record","_law_spot","_law_bad_here","_law_gone_here"]
def VZ:ZA DX zFd (Zc UH):=Zr
def GY{a b:V}(d:NV a=true)(e:NV b=true):∀ v∈[a,b],NV v=true:=λv c=>by
 simp only[zF,wY,or_false] at c;rcases c with rfl | rfl <;> assumption
def O8(g:Int):KT:=.tup [.str "twig",.int g]
def ZLd(g:Int):(O8 g).depth<=3:=by
 unfold O8;simp[KT.depth,ke]
def CU{H:Hp}{g:Int}{n:Nat}{a:jf}{t D:ak}(h:jY H (xK n (O8 g)) a)(c:H D=some (.lst a))(d:H t=some (.tup [.str "twig",.int g])):jY (upd H D (.lst (a++[.ref t]))) (xK (n+1) (O8 g)) (a++[.ref t]):=by
 have b:Z3 H (upd H D (.lst (a++[.ref t]))):=((ZE.refl D H).upd).tups c;rw[List.replicate_succ'];exact(h.mono b _ _).append (.cons (.tup (b _ _ d) (.cons (.str _) (.cons (.int _) .nil))) .nil)
abbrev Il(P:am)(w:ax)(K:zZ)(e:jc)(b:aE)(f:ak)(c:aj)(A:ay)(a:jx)(s:al)(d:Hp)(E:XK):Cx:=(WZ ZZ P w K e b DX "law" (Zc UH) f c A a s d E).nox
section
variable{cdv:aj}{outer:jx}{Hs:Hp}{E:XK}{kh ki:ak}
def tlB(T:YA mg)(hr:ZT 69 (A.deeper (envOfC "law" (Zc UH) s.heap.objs.size f cdv)))(DB:ZB P w K mg km 2 "_law_bad" zEg VQ)(DG:ZB P w K mg km 11 "_law_gone" zEm (X5 kh ki))(DR:ZB P w K mg km 68 "_law_refusal" Uy (Ya kh ki)):
  ∃ t,Xh (Il P w K mg km f cdv A outer s Hs E) (JW.drop 5) t/\∀(D0:Z8)(H0 H:Hp)(X:YL)(F:ak)(c:Nat)(G:jf)(L kn:ak)(t1 t2:Va)(us:jf)(U:jp)(p:ak)(rn:jq)(x0 x2 x3 x4 x6 x8 x9 c0 c1:jg),
   UP kh ki H0 H X F c G L kn t1 t2 us U->Nu kh ki H0 X L kn t1 t2->G.length<=500->ZH H p->H0 p=none->L≠p->kn≠p->p≠F->(∀ i:Nat,i<X.ts.length->(X.as.getD i .d).ab≠p/\(X.as.getD i .d).th≠p)->(∀ i,rn=some i->i<X.ts.length) ->
   (∀(H':Hp)(c8 c9:jg),UP kh ki H0 H' X F (c+1) G L kn t1 t2 us U->D0.nx [x0,some (.ref X.S),x2,x3,x4,some (.ref p),x6,some (Zo (Zn rn)),x8,x9,c8,c9] H') ->
    t D0 [x0,some (.ref X.S),x2,x3,x4,some (.ref p),x6,some (Zo (Zn rn)),x8,x9,c0,c1] H:=by
 have nd:=VZ.nd;have hu:=hr.units0;have c4:=hr.to 2;have a6:=hr.to 11;have l:=hr.to 68;refine⟨_,ZN (N1 (i:=10) nd rfl (Or.inr rfl) (Zg DB c4 (ZX (pv 5))))
  (ZN (N1 (i:=11) nd rfl (Or.inr rfl) (Zg DG a6 (Zl (pv 5) (pv 1))))
  (ZN (Zv (Yc (FD hr) (Wr [1,11,10] ["_law_shelf","_law_gone_here","_law_bad_here"] rfl (P4 rfl T.range (ZX ZJ)) (λ_ _ _ _ _=>VV) (λ_ _ _ _ _=>Zg DR l (VN (pv 0) (pv 1) (pv 2) (pv 3))) ⟨rfl,.inl rfl,rfl,rfl,.inl rfl,rfl,rfl,.inl rfl,rfl,trivial⟩)
    (Wr [11] ["_law_gone_here"] rfl (P4 rfl T.range (ZX ZJ)) (λ_ _ _ _ _=>VV) (λ_ _ _ _ _=>Yw (Zl Xm (pv 1))) ⟨rfl,.inl rfl,rfl,trivial⟩) (Z9 _)) (ZR (Zd Xr)) Zy)
  (ZR (Zv (PW.pt (Ph (Yc (GX hu) (Zg DR l (VN ZJ (pv 1) (pv 7) (pv 10))) (Yw (Zl Xm Xr)) (Z9 _)) (Pf (Yc (GX hu) (Zg DR l (VN ZJ (pv 1) O1 (pv 10))) (Yw (Zl Xm Xr)) (Z9 _))))) (ZR (Zd Xr)) Zy)))),?_⟩
 intro D0 H0 H X F c G L kn t1 t2 us U p rn x0 x2 x3 x4 x6 x8 x9 c0 c1 j C I W np Lp kp a8 a7 c5 c2;obtain⟨pw,hp⟩:=W.some;obtain⟨⟨dS,hS⟩,hd,hl⟩:=id j.sh.sh;exists _,rfl,p,rfl,W;intro b H1 hb W1 s1;have R1:=j.sh.well W a8 a7 s1;have j1:=j.step C hp np Lp kp (λb o _ n _ _ e=>s1 b o e n) R1 (.inl rfl);obtain⟨e1,a5⟩:=W1.some;have t9:X.ts.length<=900:=by have:=C.len;lia
 exists _,rfl,_,rfl,p,X,F,c,G,rfl,W1,R1,t9,a8,a7;intro H2 g J W2 R2 hg;have j2:=j1.step C a5 np Lp kp (λb o _ a2 a3 a4 e=>J b o a2 a3 a4 e) R2 (.inl rfl);have c7:=j1.tups (H':=H2) a5 (λb o _ a2 a3 a4 e=>J b o a2 a3 a4 e);obtain⟨e2,c3⟩:=W2.some;have c6:XD (λb=>b=p\/H b≠none) H1 H2:=⟨c7,λa o e n=>J a o (λz=>n (.inl z)) (λz=>n (.inr (by rw[z,hS];exact λy=>nomatch y))) (λz=>n (.inr (by rw[z,hd];exact λy=>nomatch y))) e⟩
 have O:=hb.mono c6;have Y:∀ i,i<X.ts.length->(gd X.ts i).h<=60:=λi v=>(C.low i v).1;have a0:Pa X.ts (some g)=true->False:=λz=>by rw[show Pa X.ts (some g)=inT X.ts g from rfl,hg] at z;cases z
 refine⟨_,rfl,by decide,by decide,Vc (n:=5) (λi x=>x=.int (0+(i:Int))) (λE i m k=>ZC H2 k/\H2 E=none/\jY k (xK i (O8 g)) m) (Yq (by decide)) (λE i m k v _=>v) (λE i m k x D v _ hy=>hy) (λE m k _=>zY _) (λE hE=>⟨ZU hE _,hE,.nil⟩) (λE i m k x eE hl v Q M RR N=>?_) (λE m k eE M=>?_)⟩
 ·obtain⟨s3,nE,ks⟩:=M;subst Q;refine⟨_,rfl,_,rfl,_,rfl,_,rfl,.mk X F (c+1) G _ (some g) b _ none rfl (R2.same s3) C.wf Y I (O.mono (XD.same s3)) (.inr ⟨g,rfl,hg⟩) (λx ex Q D t q e4=>?_) (λz=>(a0 z).elim)⟩;cases ex;exact N (.ref t) D (q _ _ eE) ⟨WX (s3.trans q) nE,nE,CU (ks.sm q) (q _ _ eE) e4⟩
 obtain⟨s3,nE,ks⟩:=M;refine⟨_,rfl,by decide,by decide,Vc (n:=5) (λi x=>x=.int (0+(i:Int))) (λE i m D=>ZC k D/\k E=none/\jY D (xK i (O8 g)) m) (Yq (by decide)) (λE i m k v _=>v) (λE i m k x D v _ hy=>hy) (λE m k _=>zY _) (λE hE=>⟨ZU hE _,hE,.nil⟩) (λE2 i e0 D x r hl v Q M RR N=>?_) (λE2 e0 D r M=>?_)⟩
 ·obtain⟨q,Z,R⟩:=M;exists _,rfl,Zu;intro t nt;have u:=ZU nt (.tup [.str "twig",.int g]);exact N (.ref t) _ (u _ _ r) ⟨WX (q.trans u) Z,Z,CU (R.mono (ZC.tups u) _ _) (u _ _ r) ZM⟩
 obtain⟨q,Z,R⟩:=M;exists E,E2,_,_,_,_,rfl,rfl,ZG.of (q _ _ eE),ZG.of r,ks.sm q,R,(λt ht=>by rw[List.eq_of_mem_replicate ht];exact ZLd g),_,rfl
 rw[eqbL_self];have a1:=s3.trans q;refine Zk ⟨_,rfl,_,rfl,_,rfl,.mk X F (c+1) G 0 (Zn rn) b _ none rfl (R2.same a1) C.wf Y I (O.mono (XD.same a1)) (.inl ⟨rfl,rfl⟩) (λx ex Q=>?_) (λ_ _ H5 t5 s5 e5=>?_)⟩
 ·have:=Jb c5;rw[ex] at this;rw[show inT X.ts x=true from this] at Q;cases Q
 refine⟨Zu,λq6 n6=>⟨t5,q6,_,rfl,rfl,Zh.of (ZU n6 _ _ _ e5),Zh.of ZM,GY rfl rfl,_,rfl,Zk ?_⟩⟩;have B:=a1.trans (s5.trans (ZU n6 (.tup [.str "spot",.bl true])));generalize upd H5 q6 (.tup [.str "spot",.bl true])=H6 at B⊢;refine⟨_,rfl,_,rfl,.mk X F (c+1) G 0 none b _ none rfl (R2.same B) C.wf Y I (O.mono (XD.same B)) (.inl ⟨rfl,rfl⟩) (λx ex Q=>nomatch ex) (λ_ _ H7 t7 s7 e7=>?_)⟩;refine⟨Zu,λq8 n8=>⟨t7,q8,_,rfl,rfl,Zh.of (ZU n8 _ _ _ e7),Zh.of ZM,GY rfl rfl,_,rfl,Zk ?_⟩⟩;have a9:=B.trans (s7.trans (ZU n8 (.tup [.str "spot",.bl true])));exact c2 _ _ _ (j2.step C c3 np Lp kp (λb o _ _ _ _ e=>a9 b o e) (R2.same a9) (.inl rfl))
end
inductive LaL(b d:ak)(k:Hp)(X:YL)(L h a:ak)(n o:Va)(i:Nat)(v:L2.St)(H:Hp):Prop
 |mk(p q r s t u f g:jg)(l:ak)(c:Nat)(m j:jf)(e:jp)(_:v=[some (.ref a),some (.ref X.S),some (.ref L),some (.ref h),p,q,r,s,t,u,f,g])(_:UP b d k H X l c m L h n o j e)(_:j.length<=120+i)
section
variable{cdv:aj}{outer:jx}{Hs:Hp}{E:XK}
def tlC(T:YA mg)(hr:ZT 69 (A.deeper (envOfC "law" (Zc UH) s.heap.objs.size f cdv)))(DA:ZB P w K mg km 68 "_law_asked" zEi (XW kh ki))(DB:ZB P w K mg km 2 "_law_bad" zEg VQ)(DG:ZB P w K mg km 11 "_law_gone" zEm (X5 kh ki))(DR:ZB P w K mg km 68 "_law_refusal" Uy (Ya kh ki)):
  ∃ t,Xh (Il P w K mg km f cdv A outer s Hs E) (JW.drop 4) t/\∀(D0:Z8)(B H:Hp)(X:YL)(lk:ak)(c:Nat)(ls:jf)(L G:ak)(t1 t2 n:Va)(us:jf)(h:jp)(p:ak)(I:jq)(v:V)(k:KT)(x0 x2 x3 x4 x6 a4 a5:jg),
   UP kh ki B H X lk c ls L G t1 t2 us h->Nu kh ki B X L G t1 t2->ZH H p->B p=none->L≠p->G≠p->p≠lk->(∀ i:Nat,i<X.ts.length->(X.as.getD i .d).ab≠p/\(X.as.getD i .d).th≠p)->Y1 X.ts H n->(∀ i,I=some i->i∈n.F)->ZD H k v->k.fits 3=true ->
   (∀(H':Hp)(a8:ak)(a9:jf)(u x:jg),UP kh ki B H' X a8 (c+1) a9 L G t1 t2 us h->D0.nx [x0,some (.ref X.S),x2,x3,x4,some (.ref p),x6,some (Zo (Zn I)),some (.ref n.d),some v,u,x] H') ->
    t D0 [x0,some (.ref X.S),x2,x3,x4,some (.ref p),x6,some (Zo (Zn I)),some (.ref n.d),some v,a4,a5] H:=by
 have nd:=VZ.nd;have l:=hr.to 68;obtain⟨t,ht,a3⟩:=tlB (P:=P) (w:=w) (K:=K) (mg:=mg) (km:=km) (f:=f) (cdv:=cdv) (A:=A) (outer:=outer) (s:=s) (Hs:=Hs) (E:=E) T hr DB DG DR;exists _,ZN (Zv (PW.pt (Ph (UB (Y3 (Zg DA l (VN (pv 1) (pv 8) (pv 7) (pv 9))))) (Pf (UB (Y3 (Zg DA l (VN (pv 1) Ly O1 (pv 9)))))))) (ZR (Zd Xr)) Zy) ht;intro D0 B H X lk c ls L G t1 t2 n us h p I v k x0 x2 x3 x4 x6 a4 a5 j C W np Lp kp r c2 tq R kv fk a6;obtain⟨pw,N⟩:=W.some;obtain⟨⟨dS,hS⟩,hd,hl⟩:=id j.sh.sh;have pS:p≠X.S:=ZV N hS;refine⟨_,rfl,_,rfl,_,rfl,_,rfl,.mk X lk c ls I n.d n.kv n.F v k j.sh tq.rcd R C.low kv fk λH1 U c0 g R1 a0 l1=>⟨_,rfl,Zk ⟨_,rfl,λdd c1=>⟨_,rfl,?_⟩⟩⟩⟩;have j1:=j.step C N np Lp kp (λb o Z _ n2 _ e=>g b o Z n2 e) R1 a0;have O:=g _ _ r pS N;have W1:=M8 W λo e=>g _ _ r pS e;have m:p≠U:=λz=>a0.elim (λy=>r (z.trans y)) λy=>by rw[<-z,N] at y;cases y
 have a7:=kv.mono (j.tups N (λb o Z _ n2 _ e=>g b o Z n2 e)) _ _;have D:=ZU c1 (.dK []);have e2:=ZM (H:=H1) (a:=dd) (o:=.dK []);generalize upd H1 dd (.dK [])=H2 at D e2⊢;have j2:=j1.step C O np Lp kp (λb o _ _ _ _ e=>D b o e) (R1.same D) (.inl rfl);have c3:Y7 X.ts H2 dd [] []:=⟨e2,⟨.nil,λj M=>by simp at M,λj _=>rfl,λj M=>by simp at M,rfl,rfl⟩,λj M=>by simp at M,C.wf⟩
 have Q:=D _ _ O;have W2:=W1.same D;refine .mk X U c c0 none dd [] [] v k j2.sh c3 (λi e=>nomatch e) C.low (a7.sm D) fk λH3 q Y J R3 a1 l3=>⟨_,rfl,Zk ?_⟩;have j3:=j2.step C Q np Lp kp (λb o Z _ n2 _ e=>J b o Z n2 e) R3 a1;have W3:=M8 W2 λo e=>J _ _ m pS e;have a2:p≠q:=λz=>a1.elim (λy=>m (z.trans y)) λy=>by rw[<-z,Q] at y;cases y
 exact a3 D0 B H3 X q c Y L G t1 t2 us h p I _ _ _ _ _ _ _ _ _ j3 C ∅ W3 np Lp kp a2 c2 (λi hi=>tq.rcd.rcd.lt i (R i hi)) λH' u x j'=>a6 H' q Y u x j'
def tlA(T:YA mg)(hr:ZT 69 (A.deeper (envOfC "law" (Zc UH) s.heap.objs.size f cdv)))(DW:ZB P w K mg km 1 "_law_well" zEv (VB K))(DP:ZB P w K mg km 1 "_law_pull" zEb Zs)(DY:ZB P w K mg km 7 "_law_any_key" zEo WK)(DA:ZB P w K mg km 68 "_law_asked" zEi (XW kh ki))(DB:ZB P w K mg km 2 "_law_bad" zEg VQ)(DG:ZB P w K mg km 11 "_law_gone" zEm (X5 kh ki))(DR:ZB P w K mg km 68 "_law_refusal" Uy (Ya kh ki)):
  ∃ t,Xh (Il P w K mg km f cdv A outer s Hs E) JW t/\∀(D0:Z8)(Q H:Hp)(X:YL)(lk:ak)(c:Nat)(ls:jf)(L m:ak)(N O:Va)(us:jf)(a0:jp)(a:ak)(ns:jt)(n:Int)(x5 x6 x7 x8 x9 x y:jg),
   UP kh ki Q H X lk c ls L m N O us a0->Nu kh ki Q X L m N O->us.length<=200->ZG K H a (ns.map V.int)->ns.length<=63->0<=n->n<=1000 ->
   (∀(H':Hp)(y5 y6 y7 y8 y9 a8 a9:jg)(a1:ak)(a2 a6:jf)(c4:jp),UP kh ki Q H' X a1 (c+1) a2 L m N O a6 c4->a6.length<=us.length+1->D0.nx [some (.ref a),some (.ref X.S),some (.ref L),some (.ref m),some (.int n),y5,y6,y7,y8,y9,a8,a9] H') ->
    t D0 [some (.ref a),some (.ref X.S),some (.ref L),some (.ref m),some (.int n),x5,x6,x7,x8,x9,x,y] H:=by
 have nd:=VZ.nd;have I:=hr.to 1;have e9:=hr.to 7;obtain⟨t,ht,c8⟩:=tlC (P:=P) (w:=w) (K:=K) (mg:=mg) (km:=km) (f:=f) (cdv:=cdv) (A:=A) (outer:=outer) (s:=s) (Hs:=Hs) (E:=E) T hr DA DB DG DR;refine⟨_,ZN (Zi 5 nd (Zg DW I (Zl (pv 0) (pv 4))))
   (ZN (OC (YJ K (pv 2) (Zg DP I (Zl (pv 5) ZJ))) (Mb rfl (QX (Xe 6 nd) (QX (Xe 7 nd) (QX (Xe 8 nd) MX)))))
   (ZN (Zi 9 nd (Zg DY e9 (Zl (pv 5) (pv 3))))
   (ZN (Zv (PW.pt (NX (Yc (BU hr.units0) (pv 8) Ly (Z9 _)) (Nb (WA (OX (Zg DP I (Zl (pv 5) ZJ)) ZJ)))))
    (ZR (Zi 7 nd (YJ K (X0 (BS rfl) rfl T.list Uw (ZX (pv 8))) (Zg DP I (Zl (pv 5) (Z2 AF rfl T.len Xu (ZX (pv 8)))))))) Zy) ht))),?_⟩
 intro D0 Q H X lk c ls L m N O us a0 a ns n x5 x6 x7 x8 x9 x y j C l2 e4 hn n0 n1 e3;exists _,rfl,_,rfl,a,ns,_,rfl,e4,hn,n0,n1;intro p H5 np s5 W5;have Lp:L≠p:=ZY j.hL np;have kp:m≠p:=ZY j.hk np;have a4:p≠lk:=(ZY j.sh.sh.looks np).symm;have a3:Q p=none:=j.s0.free np;have op:∀ i:Nat,i<X.ts.length->(X.as.getD i .d).ab≠p/\(X.as.getD i .d).th≠p:=λi hi=>by
  obtain⟨a6,e1,_⟩:=(j.sh.tw i hi).things;exact⟨ZY (j.sh.tw i hi).tw.above np,ZY e1 np⟩
 exists _,rfl,_,rfl,p,2,rfl,W5,Xn (by decide) (by decide)
 intro r H6 r0 r2 W6 s6;have B:ZC H H6:=λb o e=>s6 b o (s5 b o e) (ZY e np);obtain⟨g,tq,l3,e7⟩:∃ g,Y1 X.ts H g/\g.d≠X.d/\Xt [V.ref N.T,.ref O.T] r=some (.ref g.T):=by
  have:r=0\/r=1:=∅
  rcases this with rfl | rfl
  ·exact⟨N,j.tr1,C.D1,Xo (j:=0) rfl⟩
  ·exact⟨O,j.tr2,C.D2,Xo (j:=1) rfl⟩
 refine .inl ⟨L,_,r,_,rfl,rfl,ZG.of (B _ _ j.hL),e7,g.T,_,rfl,Zh.of (B _ _ tq.tp),rfl,_,_,rfl,_,_,rfl,_,_,rfl,rfl,?_⟩;obtain⟨i8,Y⟩:=W6.some;have G:=B _ _ j.hk;exists _,rfl,_,rfl,p,m,us,a0,rfl,W6,G,j.ks.sm B,j.fit,kp,by lia
 intro v kt a7 u R kv fk e5 i1 c1 i2 W7 l;obtain⟨i9,Z⟩:=W7.some;have c7:=(j.sh.same B).off Y G l a4 j.klk op C.okn;have i4:Z3 H6 R:=λb o e=>l b _ (ZV e Y) (ZV e G) e;have a5:∀{t:Va},Y1 X.ts H t->Y1 X.ts R t:=fun{t} h=>(h.go (ZC.tups B) (λo e=>B _ _ e)).go i4 λo e=>by
  have e6:=B _ _ h.rcd.hd;exact l _ _ (ZV e6 Y) (ZV e6 G) e
 have j7:UP kh ki Q R X lk c ls L m N O a7 u:=⟨c7,λb o e=>l b o (ZY e a3) (ZY e C.nkn) (B b o (j.s0 b o e)),j.nlk,l _ _ Lp C.Lkn (B _ _ j.hL),j.Llk,a5 j.tr1,a5 j.tr2,e5,i1,c1,j.klk⟩;have k:=a5 tq;have c2:=k.rcd.hd;have dp:g.d≠p:=ZV c2 Z;have lF:=Iu _ _ k.rcd.rcd.nd k.rcd.rcd.lt;have i7:=k.rcd.rcd.len;have i5:=C.len;have go:∀(U:Hp)(rn:jq)(x6 x y:jg),(∀ i,rn=some i->i∈g.F)->ZE p R U->ZH U p->t D0 [some (.ref a),some (.ref X.S),some (.ref L),some (.ref m),some (.int n),some (.ref p),x6,some (Zo (Zn rn)),some (.ref g.d),some v,x,y] U:=λU rn x6 x y i0 s8 W8=>by
  have t8:=s8.tups Z;refine c8 D0 Q U X lk c ls L m N O g a7 u p rn v kt _ _ _ _ _ _ _ (j7.step C Z a3 Lp kp (λb o _ n _ _ e=>s8 b o e n) (c7.well W7 a4 op s8) (.inl rfl)) C W8 a3 Lp kp a4 op (k.go t8 λo e=>s8 _ _ e dp) i0 (kv.mono t8 _ _) fk λH' a1 a2 a8 a9 j'=>e3 H' _ _ _ _ _ a8 a9 a1 a2 a7 u j' i2
 exists _,rfl;intro e0 i3;have g8:=ZU i3 (.dK []);have W8:=W7.same g8;have e8:=ZM (H:=R) (a:=e0) (o:=.dK []);have W:=g8 _ _ c2;generalize upd R e0 (.dK [])=U at g8 W8 e8 W⊢;exists g.d,e0,g.kv,rfl,rfl,W,e8,_,rfl
 cases ek:g.kv.isEmpty with
 | true=>exact Zk (Zk (go U g.rn _ _ _ tq.rt (λb o e _=>g8 b o e) W8))
 | false=>
  refine Zw ⟨_,rfl,p,2,rfl,W8,Xn (by decide) (by decide),λr' H9 l0 l1 W9 s9=>?_⟩
  have c6:ZE p R H9:=λb o e n=>s9 b o (g8 b o e) n;have c3:=s9 _ _ W dp;refine⟨_,_,rfl,rfl,_,rfl,Xw (λc=>?_) (λc=>?_)⟩
  ·exists _,rfl,g.d,g.kv,g.F.map λj:Nat=>(j:Int),rfl,c3,by rw[k.rcd.rcd.ks,xO];rfl,by rw[zX];lia
   intro q nq;have D:=ZU nq (.lst ((g.F.map λj:Nat=>(j:Int)).map V.int));have c0:=W9.same D;have M:=D _ _ c3;have J:=ZM (H:=H9) (a:=q) (o:=.lst ((g.F.map λj:Nat=>(j:Int)).map V.int));generalize upd H9 q (.lst ((g.F.map λj:Nat=>(j:Int)).map V.int))=i6 at D c0 M J⊢;have k0:0<g.kv.length:=by
    cases z:g.kv with
    | nil=>rw[z] at ek;cases ek
    | cons _ _=>exact uU _
   exists _,rfl,_,rfl,g.d,g.kv,rfl,M,p,_,rfl,c0,Xn ∅ (by rw[Int.natAbs_natCast];lia)
   intro z c9 z0 z1 e2 c5;have qp:q≠p:=Ur W9 nq;obtain⟨n,rfl⟩:=zEL z0;have hz:n<g.F.length:=∅
   have ez:Xt ((g.F.map λj:Nat=>(j:Int)).map V.int) (n:Int)=some (.int ((g.F[n]:Nat):Int)):=Xo (by rw[zD,zD,zU hz];rfl)
   exact .inl ⟨q,_,_,_,rfl,rfl,ZG.of (c5 _ _ J qp),ez,go c9 (some g.F[n]) _ _ _ (λi e=>by cases e;exact xL _) (λb o e n=>c5 b o (D b o (c6 b o e n)) n) e2⟩
  ·exact go H9 g.rn _ _ _ tq.rt c6 W9
end
def ZQR(F0:Zf K "law" "law" UH f fd)(T:YA mg)(L:Yh K mg kh ki)(DI:Ul P w K mg km 1 kh zEs (Qa kh))(DW:ZB P w K mg km 1 "_law_well" zEv (VB K))(DP:ZB P w K mg km 1 "_law_pull" zEb Zs)(DT:ZB P w K mg km 12 "_law_trees" zE3 (UJ K kh ki))(DK:ZB P w K mg km 1 "_law_known" zE7 UL)(DY:ZB P w K mg km 7 "_law_any_key" zEo WK)(DA:ZB P w K mg km 68 "_law_asked" zEi (XW kh ki))(DB:ZB P w K mg km 2 "_law_bad" zEg VQ)(DG:ZB P w K mg km 11 "_law_gone" zEm (X5 kh ki))(DR:ZB P w K mg km 68 "_law_refusal" Uy (Ya kh ki)):
  ZI P w K mg km ZZ 70 f fd zFd (UW K):=by
 refine F0.ko VZ λa8 A I s H vs Q E hr h=>?_;obtain⟨a,G,rfl,D,hn,k⟩:=h;have nd:=VZ.nd;have c0:=hr.to 1;have c1:=hr.to 2;have R:=hr.to 12;obtain⟨t,ht,a7⟩:=tlA (P:=P) (w:=w) (K:=K) (mg:=mg) (km:=km) (f:=f) (cdv:=a8) (A:=A) (outer:=I) (s:=s) (Hs:=H) (E:=E) T hr DW DP DY DA DB DG DR;intro Xc;refine⟨_,ZN (N1 (i:=1) nd rfl (Or.inr rfl) (Bm DI c1 rfl L.shelf))
  (ZN (Zi 2 nd (Zg DT R (Zl (pv 0) (pv 1))))
  (ZN (Zi 3 nd (Zg DK c0 (ZX (pv 2))))
  (ZN (Vo PassesOwn.never rfl (Ie rfl T.range (Zl ZJ (Z2 (IV rfl) rfl T.max Ir (Zl ZJ (Z2 (Fg rfl) rfl T.min G5 (Zl (Z2 WN rfl T.len Xu (ZX (pv 0))) ZJ)))))) (Xe 4 nd) ht)
  (ZR (Zd Xr))))),?_⟩
 intro S e nS ne z1;have U:ZC H (upd (upd H e (.own S)) S (.ins kh e [])):=λb o q=>by
  rw[ZS (ZY q nS),ZS (ZY q ne)];exact q
 refine⟨S,e,rfl,ZM,λH1 d lk a9 a4 y e1 R1=>⟨rfl,?_⟩⟩;have c5:ZC H H1:=λb o q=>a9 b o (ZY q nS) (U b o q);have RP:Ye kh ki H1 S d lk [] (λ_=>[]) (λ_=>0) [] [] []:=⟨R1,rfl,λi v=>absurd v (xM _),rfl,λi v=>absurd v (xM _),λi v=>absurd v (xM _),λi _ v=>absurd v (xM _)⟩;exists _,rfl,_,rfl,H,a,S,d,lk,G,_,_,rfl,D,hn,c5,nS,U.free a4,U.free y,RP;intro H2 N ts av ho as F ls g l r a0 c9;obtain⟨m,A1,_,D1⟩:=r.trs g (by simp)
 obtain⟨p,A2,_,D2⟩:=r.trs l (by simp)
 have B:H2 N=some (.lst [.ref g.T,.ref l.T]):=r.hL;have e3:g.us.length=g.rs.length:=by have:=m.ks.length;unfold YH at this;rw[zX] at this;exact this.symm
 have e4:l.us.length=l.rs.length:=by have:=p.ks.length;unfold YH at this;rw[zX] at this;exact this.symm
 have w1:=m.len;have w2:=p.len;exists _,rfl,N,g.T,l.T,g.r,l.r,_,_,g.us,l.us,g.rs,l.rs,rfl,B,m.tp,p.tp,m.rl,p.rl,m.ks,p.ks,∅,by lia
 intro kn ks H3 J u O W;have R2:=r.pla.sh;have e2:ks.length=g.rs.length+l.rs.length:=by
  have:=W.length;rw[zX,zW] at this;exact this.symm
 have a3:H d=none:=U.free a4;have a5:ZC H H2:=λb o e=>r.pla.fr b o (λz=>z) (ZY e nS) (ZY e a3) (λj hj=>absurd hj (xM _)) e;have a6:=a5.trans J;have C:Nu kh ki H ⟨S,d,ts,av,ho,as,F⟩ N kn g l:=⟨nS,a3,a5.free u,ZY B u,D1,D2,(NL R2 u O).own,r.pla.wf,r.pla.hs,a0⟩;obtain⟨M,eM,M3,e0⟩:∃ M:Int,(if (if (63:Int)<((G.map V.int).length:Int) then (63:Int) else ((G.map V.int).length:Int)) > 5 then (if (63:Int)<((G.map V.int).length:Int) then (63:Int) else ((G.map V.int).length:Int)) else 5)=M/\5<=M/\M<=63:=by
  exists _,rfl,?_
  ·(repeat' split) <;> lia
  ·(repeat' split) <;> lia
 exists _,rfl,a,G.map V.int,rfl,.inl (a6.seq D),_,_,rfl,_,_,rfl,2,M,congrArg (λz=>[V.int 2,V.int z]) eM,⟨∅,∅,∅,∅⟩
 clear eM;have J0:UP kh ki H H3 ⟨S,d,ts,av,ho,as,F⟩ lk ts.length ls N kn g l ks ((g.rs++l.rs).map (·.1)):=⟨(R2.same J).q,a6,U.free y,J _ _ B,r.aL.lk,⟨ZC.tups J _ _ m.tp,m.rcd.same J,m.rt⟩,⟨ZC.tups J _ _ p.tp,p.rcd.same J,p.rt⟩,O,W,λt ht=>by
  obtain⟨x,hx,rfl⟩:=zM.mp ht;exact(yQ.mp hx).elim (λz=>(m.fit x z).1) (λz=>(p.fit x z).1),(ZY R2.sh.looks u).symm⟩
 generalize hX:(⟨S,d,ts,av,ho,as,F⟩:YL)=X at C J0;have eS:X.S=S:=by rw[<-hX]
 refine O7 (lo:=2) (n:=(M-2).toNat) (LaL kh ki H X N kn a g l) ⟨_,_,_,_,_,_,_,_,lk,_,ls,ks,_,by rw[eS];rfl,J0,∅⟩ ?_ ?_
 ·rintro i σ H4 v ⟨x4,x5,x6,x7,x8,x9,c7,c8,a1,c,a2,us,Y,rfl,j,c4⟩;exact a7 _ H H4 X a1 c a2 N kn g l us Y a G _ _ _ _ _ _ _ _ j C ∅ (j.s0.seq D) hn ∅ ∅ λH' y5 y6 y7 y8 y9 e6 e7 c2 c3 c6 Z j' e5=>⟨_,_,_,_,_,_,_,_,c2,_,c3,c6,Z,rfl,j',∅⟩
 ·rintro σ H4 ⟨x4,x5,x6,x7,x8,x9,c7,c8,a1,c,a2,us,Y,rfl,j,c4⟩;exact k H4
end Tw
namespace L2
open PySem PySem.Spec
def xC(K:zZ)(C:ak):Bool:=
 (zA K (.ref C) "__getattribute__" == some (some (.builtin "BaseException.__getattribute__")))&&((zA K (.ref C) "__getattr__" == some none)&&((yI K C (.type "BaseException")==some true)&&((yI K C (.type "object")==some true) &&
 ((zA K (.ref C) "__class__" == some (some (.builtin "object.__class__")))&&((PySem.W.specialIn K (.builtin "object.__class__") "__get__" == some (some (.builtin "getset_descriptor.__get__")))&&(PySem.W.takesIn K (.builtin "object.__class__")==some true))))))
def EX{K:zZ}{C:ak}(h:xC K C=true):WM K C:=by
 unfold xC at h;simp only[zR,beq_iff_eq] at h;obtain⟨a,b,c,d,e,f,g⟩:=h;exact⟨a,b,c,d,e,f,g⟩
def xF(K:zZ)(C a:ak)(f:Str):Bool:=
 xC K C&&(Ee K C&&((zA K (.ref C) "__init__" == some (some (.ref a)))&&(wE K (.ref a)&&(yL K (.ref C)&&((zA K (.ref C) "__setattr__" == some (some (.builtin "object.__setattr__"))) &&
 ((zA K (.ref C) f==some none)&&(vO K C&&EL K C)))))))
def ZQw{K:zZ}{C k:ak}{f:Str}(h:xF K C k f=true):Wy K C k f:=by
 unfold xF at h;simp only[zR,beq_iff_eq] at h;obtain⟨a,b,c,d,e,f,g,i,j⟩:=h;exact⟨EX a,b,c,d,e,f,g,i,j⟩
def Ka(K:zZ)(a:jD)(b:je):Bool:=
 (yX a.length).all λk=>xC K (a.getD k 0)&&((yX a.length).all (λj=>yZ K (.ref (a.getD k 0)) (.ref (a.getD j 0))==some (k==j))&&b.all λv=>yZ K (.ref (a.getD k 0)) v==some true)
def Dw{K:zZ}{a:jD}{c:je}(h:Ka K a c=true){k:Nat}(e:k<a.length):WM K (a.getD k 0)/\(∀ j,j<a.length->yZ K (.ref (a.getD k 0)) (.ref (a.getD j 0))=some (k==j))/\∀ v∈c,yZ K (.ref (a.getD k 0)) v=some true:=by
 have b:=zQ.mp h k (xY.mpr e);simp only[zR] at b;exact⟨EX b.1,λj d=>beq_iff_eq.mp (zQ.mp b.2.1 j (xY.mpr d)),λv f=>beq_iff_eq.mp (zQ.mp b.2.2 v f)⟩
end L2
namespace Tw
open PySem PySem.Spec L2 PyProof.Rows
variable{kh ki CS CT CH CK CP CB:ak}
abbrev OS:Stmt:=VO (Zq 6) 0
def ZJR:ZA zEa zEa (Zc OS):=Zr
def Av{C:ak}(F:Zf K "__init__" "NoTwig.__init__" OS f fd):ZI P w K mg km ZZ 1 f fd zEa (LF K C f "number"):=by
 refine F.ok ZJR (λg H Q E h=>(by obtain⟨_,_,_,rfl,_⟩:=h;rfl)) (λb A a s H g Q E i h=>?_)
 obtain⟨c,d,y,rfl,e,k⟩:=h;exact⟨_,ZR (ZNu (pv 0) (pv 1) rfl),⟨_,rfl,_,rfl,Pg,d,_,_,rfl,e,c,k⟩⟩
def ZRq{a d c e:ak}(h:Ka K [d,c,e] [.type "ValueError"]=true)(b:mg "TwigError" = some (.ref a))(n:mg "NoTwig" = some (.ref d))(o:mg "NoKey" = some (.ref c))(p:mg "NoPlace" = some (.ref e))(t:xN K (.ref a)=some (.type "type"))(m:yI K a (.type "BaseException")=some true)(r:yI K d (.ref a)=some true)(q:yI K c (.ref a)=some true):Cl K mg a d c e:=by
 obtain⟨_,i,s⟩:=Dw h (k:=0) (by simp)
 obtain⟨j,g,l⟩:=Dw h (k:=1) (by simp)
 exact⟨b,n,o,p,t,m,r,q,j,i 0 (by simp),i 1 (by simp),i 2 (by simp),s _ (by simp),g 0 (by simp),g 1 (by simp),g 2 (by simp),l _ (by simp)⟩
structure Z5(K:zZ)(C:ak)(m q:Str)(st:aD)(ps:jr):Prop where
 ex:∃ f fd,QE K C m f/\Zf K m q st f fd/\Zt K fd ps []
def Z5.of{P:am}{w:ax}{K:zZ}{g:jc}{a:aE}{e:Wg}{C:ak}{m q:Str}{j:aD}{d:jr}{k:Nat}{i:Sp}(L:Z5 K C m q j d)(h:∀ f c,Zf K m q j f c->ZI P w K g a e k f c d i):ZL P w K g a e k C m d i:=by
 obtain⟨f,c,M,F,b⟩:=L.ex;exact⟨f,c,M,h f c F,b⟩
def N5{K:zZ}{C f:ak}{m q:Str}{d:aD}{j:jr}{t e:jA}{u:Array (jd)}{s kV o i n ct:aj}(v:zA K (.ref C) m=some (some (.ref f)))(l:K.lookup f=some ⟨s,t,.func (xW m q (Uf d) (WY d) (Zc d) .none kV o i e n ct),u⟩)(p:wE K (.ref f)=true)(c:wC K n q=true)(k:yL K (.ref f)=true)(r:∀ (kV h i:aj) (e:jA) (g ct:aj) (a:je),a.length=j.length->bindArgs (xW m q (Uf d) (WY d) (Zc d) .none kV h i e g ct) ⟨a,[]⟩=pure (j.zip a):=by first | exact(λ_ _ _ _ _ _ a b=>match a,b with | [_],_=>rfl) | exact(λ_ _ _ _ _ _ a b=>match a,b with | [_,_],_=>rfl) | exact(λ_ _ _ _ _ _ a b=>match a,b with | [_,_,_],_=>rfl) | exact(λ_ _ _ _ _ _ a b=>match a,b with | [_,_,_,_],_=>rfl) | exact(λ_ _ _ _ _ _ a b=>match a,b with | [_,_,_,_,_],_=>rfl)):Z5 K C m q d j:=
 ⟨f,_,⟨v,p,k⟩,Pc (st:=d) l c k,(Pc (st:=d) l c k).binds r⟩
structure U9(K:zZ)(C:ak)(q:Str)(st:aD)(ps:jr):Prop where
 ex:∃ f fd,zA K (.ref C) "__init__" = some (some (.ref f))/\wE K (.ref f)=true/\Zf K "__init__" q st f fd/\Zt K fd ps []
def MQ{K:zZ}{C f:ak}{q:Str}{d:aD}{j:jr}{s e:jA}{t:Array (jd)}{r kV n i m ct:aj}(v:zA K (.ref C) "__init__" = some (some (.ref f)))(l:K.lookup f=some ⟨r,s,.func (xW "__init__" q (Uf d) (WY d) (Zc d) .none kV n i e m ct),t⟩)(o:wE K (.ref f)=true)(c:wC K m q=true)(k:yL K (.ref f)=true)(p:∀ (kV h i:aj) (e:jA) (g ct:aj) (a:je),a.length=j.length->bindArgs (xW "__init__" q (Uf d) (WY d) (Zc d) .none kV h i e g ct) ⟨a,[]⟩=pure (j.zip a):=by first | exact(λ_ _ _ _ _ _ a b=>match a,b with | [_],_=>rfl) | exact(λ_ _ _ _ _ _ a b=>match a,b with | [_,_],_=>rfl) | exact(λ_ _ _ _ _ _ a b=>match a,b with | [_,_,_],_=>rfl) | exact(λ_ _ _ _ _ _ a b=>match a,b with | [_,_,_,_],_=>rfl) | exact(λ_ _ _ _ _ _ a b=>match a,b with | [_,_,_,_,_],_=>rfl)):U9 K C q d j:=
 ⟨f,_,v,o,Pc (st:=d) l c k,(Pc (st:=d) l c k).binds p⟩
def IB{l:rR}{w:ax}{K:zZ}{h:aE}{mg:jc}{fa f55 CB CK CT CP kh ki jN:ak}(X:K.In h)(G:h.Ns aq mg)(hfa:mg "law" = some (.ref fa)){od55 an55:jA}{sl55:Array (jd)}{oc55 kV55 dc55 pm55 cd55 ct55:aj}{t1 t2 t3 t4 t5 t6 t7 t8 t9 t10:Tok}(L1:Za K mg "is_key" Jz zEx)(L2:Za K mg "checked" Lc zEx)(L3:Za K mg "fits" Mp zEy)(L4:Za K mg "has_few_figures" Ib ["number"])(L5:Za K mg "is_sign" JU ["sign"])(L6:Za K mg "ahead" Kz zE0)(L7:Za K mg "place_in" Hj ["keys","key"])(L8:Za K mg "standing" Ls zFa)(L9:Za K mg "checked_rows" KP zE2)(L10:Za K mg "own_rows" HF zE2)(L11:Za K mg "rise" JC ["keys"])(L12:Za K mg "label_of_rows" Jg zE2)(L13:Za K mg "label_over" Jx ["labels"])(L14:Za K mg "stand_side_by_side" K8 zE4)(L15:Za K mg "value_of" IM zEk)(L16:Za K mg "rows_of" HB zEd)(L17:Za K mg "twigs_of" JL zEd)(L18:Za K mg "leaves_of" Kx zEd)(L19:Za K mg "height_of" Lx zEd)(L20:Za K mg "steps_to" Jh zEk)(L21:Za K mg "check_asked" Ky zEk)(L22:Za K mg "place_within" Kl zE8)(L23:Za K mg "branch_at" Km zFc)(L24:Za K mg "is_leaf" Ij zE6)(L25:Za K mg "reached" Nm zEd)(L26:Za K mg "is_stem" Im ["twig"])(L27:Za K mg "_law_well" IR zEv)(L28:Za K mg "_law_pull" KR zEb)(L29:Za K mg "_law_great" JD zEr)(L30:Za K mg "_law_text" KQ zEg)(L31:Za K mg "_law_key" LN zEe)(L32:Za K mg "_law_rank" Lm zEn)(L33:Za K mg "_law_sorted" Iy zE9)(L34:Za K mg "_law_keys" Iv zEb)(L35:Za K mg "_law_cut" Ny zEl)(L36:Za K mg "_law_plant" Qw zEp)(L37:Za K mg "_law_reached" Jy zEq)(L38:Za K mg "_law_alike" Mq zEc)(L39:Za K mg "_law_rows_alike" IS zEc)(L40:Za K mg "_law_value" Hd zEg)(L41:Za K mg "_law_any_key" ID zEo)(L42:Za K mg "_law_ground" Ki zE1)(L43:Za K mg "_law_bad" IG zEg)(L44:Za K mg "_law_gone" JE zEm)(L45:Za K mg "_law_trees" Kh zE3)(L46:Za K mg "_law_known" II zE7)(L47:Za K mg "_law_told" HY zEu)(L48:Za K mg "_law_refusal" Kv zEu)(L49:Za K mg "_law_leaves" K9 zEf)(L50:Za K mg "_law_height" Id zEf)(L51:Za K mg "_law_due" JA zEh)(L52:Za K mg "_law_below" HG zEf)(L53:Za K mg "_law_on_way" Kc zEh)(L54:Za K mg "_law_asked" OY zEi)(a55:zH K aq "law" = some (some (.ref f55)))(l55:K.lookup f55=some ⟨oc55,od55,.func (xW "law" "law" (Uf UH) (WY UH) (Zc UH) .none kV55 dc55 pm55 an55 cd55 ct55),sl55⟩)(c55:wC K cd55 "law" = true)(k55:yL K (.ref f55)=true)(z1:zH K aq "isinstance" = some none)(z2:zH K aq "bool" = some none)(z3:zH K aq "int" = some none)(z4:zH K aq "str" = some none)(z5:zH K aq "tuple" = some none)(z6:zH K aq "list" = some none)(z7:zH K aq "len" = some none)(z8:zH K aq "all" = some none)(z9:zH K aq "abs" = some none)(z10:zH K aq "max" = some none)(z11:zH K aq "min" = some none)(z12:zH K aq "range" = some none)(z13:zH K aq "sorted" = some none)(z14:zH K aq "ValueError" = some none)(z15:zH K aq "sum" = some none)(z16:zH K aq "set" = some none)(m1_:zH K aq "MOST_SIGNS" = some (some (.int 40 t1)))(m2_:zH K aq "MOST_THINGS" = some (some (.int 4 t2)))(m3_:zH K aq "MOST_DEEP" = some (some (.int 3 t3)))(m4_:zH K aq "MOST_ROWS" = some (some (.int 4 t4)))(m5_:zH K aq "FEWEST_BRANCHES" = some (some (.int 2 t5)))(m6_:zH K aq "MOST_BRANCHES" = some (some (.int 4 t6)))(m7_:zH K aq "HEIGHT" = some (some (.int 0 t7)))(m8_:zH K aq "LEAST" = some (some (.int 1 t8)))(m9_:zH K aq "GREATEST" = some (some (.int 2 t9)))(m10_:zH K aq "MANY" = some (some (.int 3 t10)))(IjS:U9 K kh "Shelf.__init__" K4 zEs)(IjT:U9 K ki "Twig.__init__" Ks zEw){ocjN kVjN dcjN pmjN cdjN ctjN:aj}{odjN anjN:jA}{sljN:Array (jd)}(iljN:K.lookup jN=some ⟨ocjN,odjN,.func (xW "__init__" "NoTwig.__init__" (Uf OS) (WY OS) (Zc OS) .none kVjN dcjN pmjN anjN cdjN ctjN),sljN⟩)(icjN:wC K cdjN "NoTwig.__init__" = true)(ikjN:yL K (.ref jN)=true)(Mm1:Z5 K kh "put_leaf" "Shelf.put_leaf" IU zEt)(Mm2:Z5 K kh "put_stem" "Shelf.put_stem" JB zEj)(Mm3:Z5 K kh "put_twig" "Shelf.put_twig" Jq zEz)(Mm4:Z5 K kh "holders" "Shelf.holders" IJ zEa)(Mm5:Z5 K kh "outside" "Shelf.outside" Kd zEa)(Mm6:Z5 K kh "let_go" "Shelf.let_go" Kf zEa)(Mm7:Z5 K kh "look" "Shelf.look" Mg zEa)(Mm8:Z5 K kh "label" "Shelf.label" KH zEa)(Mm9:Z5 K kh "forget" "Shelf.forget" HK zEs)(Mm10:Z5 K kh "looked" "Shelf.looked" Iw zEs)(Mm11:Z5 K kh "drop_unheld" "Shelf.drop_unheld" IC zEa)(Mm12:Z5 K kh "twig_of" "Shelf.twig_of" M9 zEa)(Mm13:Z5 K kh "labels_of" "Shelf.labels_of" HN zEj)(Mm14:Z5 K kh "check_held" "Shelf.check_held" Jp zEj)(Mm15:Z5 K kh "take_over" "Shelf.take_over" HQ zE5)(xCB:zH K aq "TwigError" = some (some (.ref CB)))(xCK:zH K aq "NoKey" = some (some (.ref CK)))(xCT:zH K aq "NoTwig" = some (some (.ref CT)))(xCP:zH K aq "NoPlace" = some (some (.ref CP)))(xCSh:zH K aq "Shelf" = some (some (.ref kh)))(xCTw:zH K aq "Twig" = some (some (.ref ki)))(vjN:zA K (.ref CT) "__init__" = some (some (.ref jN)))(mkCSh:sJ K kh=true)(kpCSh:yL K (.ref kh)=true)(pgCSh:uX K kh Str.empty=true)(hdCSh:vO K kh=true)(poCSh:sU K kh=true)(saCSh:zA K (.ref kh) "__setattr__" = some (some (.builtin "object.__setattr__")))(mkCTw:sJ K ki=true)(kpCTw:yL K (.ref ki)=true)(pgCTw:uX K ki Str.empty=true)(hdCTw:vO K ki=true)(poCTw:sU K ki=true)(saCTw:zA K (.ref ki) "__setattr__" = some (some (.builtin "object.__setattr__")))(na_kept:zA K (.ref kh) "kept" = some none)(na_following:zA K (.ref kh) "following" = some none)(na_looks:zA K (.ref kh) "looks" = some none)(na_things:zA K (.ref ki) "things" = some none)(na_tag:zA K (.ref ki) "tag" = some none)(na_above:zA K (.ref ki) "above" = some none)(na_holds:zA K (.ref ki) "holds" = some none)(tyB:xN K (.ref CB)=some (.type "type"))(mB:yI K CB (.type "BaseException")=some true)(kitx:Ka K [CT,CK,CP] [.type "ValueError"]=true)(wCT:xF K CT jN "number" = true)(tyCT:xN K (.ref CT)=some (.type "type"))(sbCT:yI K CT (.ref CB)=some true)(sbCK:yI K CK (.ref CB)=some true)(exCK:Kt K CK=true)(kpCK:yL K (.ref CK)=true)(mBCK:yI K CK (.type "BaseException")=some true)(tyCK:xN K (.ref CK)=some (.type "type")):
  ∃ i:ao,(∀(s:al)(v:aj),BindsTo s i ⟨[v],[]⟩ [("_law_script",v)])/\∀ c:aE,K.In c->c.Ns aq mg->ZI l.prog w K mg c ZZ 70 fa i zFd (UW K):=by
 have e:=hfa.symm.trans (yJ X G a55);cases e;have T:YA mg:=⟨xZ X G z1,xZ X G z2,xZ X G z3,xZ X G z4,xZ X G z5,xZ X G z6,xZ X G z7,xZ X G z8,xZ X G z9,xZ X G z10,xZ X G z11,xZ X G z12,xZ X G z13,xZ X G z14,xZ X G z15,xZ X G z16,⟨_,yJ X G m1_⟩,⟨_,yJ X G m2_⟩,⟨_,yJ X G m3_⟩,⟨_,yJ X G m4_⟩,⟨_,yJ X G m5_⟩,⟨_,yJ X G m6_⟩,⟨_,yJ X G m7_⟩,⟨_,yJ X G m8_⟩,⟨_,yJ X G m9_⟩,⟨_,yJ X G m10_⟩⟩;exists xW "law" "law" (Uf UH) (WY UH) (Zc UH) .none kV55 dc55 pm55 an55 cd55 ct55,λs v=>.of_eq rfl;intro c kb _;have O:∀{x:Str}{y:aD}{p:jr}{k:Nat}{u:Sp},Za K mg x y p->(∀ f i,Zf K x x y f i->ZI l.prog w K mg c ZZ k f i p u)->ZB l.prog w K mg c k x p u:=λL h=>L.of h;have r:∀{x:Str}{y:aD}{p:jr}{k:Nat}{u:Sp},Za K mg x y p->(∀ f i,Zf K x x y f i->ZI l.prog w K mg c (XF l.prog w) k f i p u)->Yu l.prog w K mg c k x p u:=λL h=>L.ofD h;have d:∀{CX:Wg}{m q:Str}{y:aD}{p:jr}{k:Nat}{u:Sp},Z5 K kh m q y p->(∀ f i,Zf K m q y f i->ZI l.prog w K mg c CX k f i p u)->ZL l.prog w K mg c CX k kh m p u:=λL h=>L.of h;have a0:Cl K mg CB CT CK CP:=ZRq kitx (yJ X G xCB) (yJ X G xCT) (yJ X G xCK) (yJ X G xCP) tyB mB sbCT sbCK;have a:Yh K mg kh ki:=⟨(yJ X G xCSh),(yJ X G xCTw),⟨pgCSh,hdCSh,poCSh,saCSh⟩,⟨pgCTw,hdCTw,poCTw,saCTw⟩,na_kept,na_following,na_looks,na_things,na_tag,na_above,na_holds⟩;have Z:XN l.prog w K mg c "NoTwig" CT:=⟨⟨jN,_,ZQw wCT,Av (Pc (st:=OS) iljN icjN ikjN),(Pc (st:=OS) iljN icjN ikjN).binds λ_ _ _ _ _ _ us hl=>by obtain⟨_,_,rfl⟩:=Cz hl;rfl⟩,(yJ X G xCT),tyCT⟩
 have m4:EB K mg CK:=⟨(yJ X G xCK),exCK,kpCK,mBCK,tyCK⟩;have e2:Ul l.prog w K mg c 1 kh zEs (Qa kh):=by obtain⟨f,i,v,fn,F,b⟩:=IjS.ex;exact⟨f,i,⟨mkCSh,v,fn,kpCSh⟩,ZPX F a,b⟩
 have e3:Ul l.prog w K mg c 1 ki zEw (Qc ki):=by obtain⟨f,i,v,fn,F,b⟩:=IjT.ex;exact⟨f,i,⟨mkCTw,v,fn,kpCTw⟩,ZPa F a,b⟩
 have j:=d Mm12 λ_ _ F=>Ao F a;have m0:=d Mm5 λ_ _ F=>ZIE F a j;have R:=d Mm8 λ_ _ F=>ZMp F a j;have l4:=d Mm4 λ_ _ F=>ZIL F T a j;have l3:=d Mm9 λ_ _ F=>ZJQ F a;have l6:=d Mm10 λ_ _ F=>Cu F T a;have A:=O L26 λ_ _ F=>ZN9 F T a;have l8:=d Mm7 λ_ _ F=>Ar F T a j A;have o:=ZOX l8;have M:=BV R;have V:=d Mm3 λ_ _ F=>ZIr F a e3;have m3:=d Mm15 λ_ _ F=>Aq F a j;have Y:=d Mm12 λ_ _ F=>BL F a Z;have S:=d Mm8 λ_ _ F=>ZJH F a Y;have l9:=d Mm13 λ_ _ F=>A9 F a R;have N:=d Mm14 λ_ _ F=>Cn F a m0;have l2:=d Mm11 λ_ _ F=>ZOV F a l4 A;have l5:=d Mm6 λ_ _ F=>ZMD F a N j l2;have n:=O L28 λ_ _ F=>AC F;have DW:=O L27 λ_ _ F=>Ax F T;have DG:=O L29 λ_ _ F=>ZLw F T n;have DT:=O L30 λ_ _ F=>ZOh F T n;have DN:=O L4 λ_ _ F=>ZPt F T;have i5:=O L5 λ_ _ F=>ZOy F;have D:=O L1 λ_ _ F=>ZMk F T (Do T L3 DN i5 4);have c7:=Af D;have DC:=O L2 λ_ _ F=>ZIW F c7;have i9:ZB l.prog w K mg c 6 "standing" zFa (Vy 5):=Gj T L8 5;have t:=O L6 λ_ _ F=>ZLf F i9;have i4:=O L11 λ_ _ F=>ZNp F T t;have e6:=O L10 λ_ _ F=>BX F DC;have a8:=O L9 λ_ _ F=>ZKj F T e6 i4;have e0:=O L12 λ_ _ F=>ZIG F T;have U:=d Mm1 λ_ _ F=>ZGq F a a8 e0 V;have m1:=ZIX U;have i6:=O L14 λ_ _ F=>ZOd F T t;have e5:=O L13 λ_ _ F=>ZLU F T i6;have m2:=d Mm2 λ_ _ F=>ZGh F T a l9 e5 N V m3;have e7:=O L7 λ_ _ F=>ZMY F T t;have g:=O L24 λ_ _ F=>ZKt F;have a3:=O L23 λ_ _ F=>ZGN F g;have e9:=O L22 λ_ _ F=>AI F T a g e7 t M;have a7:=r L2 λ_ _ F=>ZGR F kb m4 D;have a6:=r L21 λ_ _ F=>Am F a S a7;have i8:=r L20 λ_ _ F=>ZMt F a a6 o e9 a3;have l1:=r L15 λ_ _ F=>ZIo F i8;have l7:=d Mm7 λ_ _ F=>ZLK F T a Y A;have i1:ZB l.prog w K mg c 64 "reached" zEd (λvs H Q E=>∃ m,m<61/\Z0 m kh ki vs H Q E):=HD L25 a o g 61;have C:=r L25 λ_ _ F=>Cf (FF F a o g (HD L25 a o g 60)) (ZJb F a l7 g i1) (by decide)
 have c3:=r L16 λ_ _ F=>ZJn F g C;have c4:=r L17 λ_ _ F=>ZIj F T C;have c2:=r L18 λ_ _ F=>BA F g C;have c1:=r L19 λ_ _ F=>Cf (ZGl F T a M) (ZFh F T a S) (by decide)
 have DK:ZB l.prog w K mg c 6 "_law_key" zEe (XE 4):=Ei T L31 n DG DT 4;have B:ZB l.prog w K mg c 6 "_law_rank" zEn (XI 5):=EI T L32 5;have i7:=O L33 λ_ _ F=>BF F T B;have c9:=O L34 λ_ _ F=>AZ F T DK B;have a9:=O L35 λ_ _ F=>ZPn F T n;have e8:=O L36 λ_ _ F=>ZLV F T a n a9 m2 m1;have i2:=O L37 λ_ _ F=>ZIN F T a o;have z:=Da (P:=l.prog) (w:=w) (km:=c) T L38 6;have i0:=O L39 λ_ _ F=>A5 F T z;have DV:=O L40 λ_ _ F=>ZMN F n DK;have a1:=O L41 λ_ _ F=>ZLA F T n DK;have c6:=O L42 λ_ _ F=>ZJZ F n c9 DV;have a4:=O L43 λ_ _ F=>ZQD F n;have c5:=O L44 λ_ _ F=>ZNz F a n U l5;have l0:=O L45 λ_ _ F=>ZMA F T DW c6 i7 e8 i2;have c8:=O L46 λ_ _ F=>Ac F;have I:=O L49 λ_ _ F=>ZPE F;have e1:=O L50 λ_ _ F=>ZPO F T;have a5:=O L52 λ_ _ F=>ZMF F T;have c0:=O L51 λ_ _ F=>ZOB F T I a5 e1 z;have e4:=O L53 λ_ _ F=>Bp F T I B;have J:=r L47 λ_ _ F=>ZN2 F l1 c3 c4 c2 c1;have i3:=O L48 λ_ _ F=>At F T Z a0 J;have a2:=O L54 λ_ _ F=>ZLo F T a c0 e4 l3 J l6 z i0;exact ZQR (Pc (st:=UH) l55 c55 k55) T a e2 DW n l0 c8 a1 a2 a4 c5 i3
def walk{l:rR}{q:am}{c:jr}{o:(jc)->aE->Prop}{i:ax->aE->Prop}{d:DefRec}{K:Params->zZ}(v:l.most=some 63)(g:d.params.defaults=[])(r:∀ (w:ax) (h:aE),i w h->(K w.params).In h)(F:∀ (w:ax) (e:jc) (j:ak) (h:aE),(K w.params).In h->h.Ns aq e->e d.name=some (.ref j) ->
   ∃ m:ao,(∀ (s:al) (u:aj),BindsTo s m ⟨[u],[]⟩ [("_law_script",u)])/\∀ b:aE,(K w.params).In b->b.Ns aq e->ZI l.prog w (K w.params) e b ZZ 70 j m zFd (UW (K w.params))):
  PySem.W.WalkO q c o i l.row.toRowW d [] (λf A=>PySem.call f A):=
 L2.Lv (n:=63) (k:=70) (x:= "_law_script") (CX:=λ_=>ZZ) (sp:=λw=>UW (K w.params)) v (by decide) g ⟨rfl,by decide,by decide⟩ r F (λ_ _ a y t _ p=>⟨a,y,rfl,p,t,λ_=>rfl⟩) λ_ _ _ _ _ z=>z
end Tw
open PySem PySem.W PyProof.Rows
namespace PySem.W.Fast
def tw10005194019800328588:=0
def tw10197694347595451768:=0
def tw10231457695547222725:=0
def tw10236735013719377596:=0
def tw10245093825587566614:=0
def tw10255917613678319138:=0
def tw10456225640600889517:=0
def tw10509114188101051445:=0
def tw10522914848862180643:=0
def tw1063685388269382907:=0
def tw10677470261046818143:=0
def tw10750961714892272009:=0
def tw10793219264144325836:=0
def tw10801568751971534405:=0
def tw10802334519709948554:=0
def tw10863017062803232084:=0
def tw10864704405396684120:=0
def tw10868236036493488481:=0
def tw10885303526522441718:=0
def tw10895448751098347514:=0
def tw10922594107781984635:=0
def tw10927669058361124598:=0
def tw10927950019201372643:=0
def tw10959599506103940791:=0
def tw10977561339026903138:=0
def tw10991355214028741544:=0
def tw1102001571607350083:=0
def tw1105703413570538545:=0
def tw11072574872934258127:=0
def tw11084735874386060879:=0
def tw11227410945975740897:=0
def tw11287380407872622248:=0
def tw11294563562342619614:=0
def tw11303301916570973900:=0
def tw11355812840167125077:=0
def tw11400170590800854233:=0
def tw11408136357895151658:=0
def tw11451419368206129218:=0
def tw11470779856473428946:=0
def tw11472126689058271426:=0
def tw11491147958877539035:=0
def tw11524029353356618661:=0
def tw1153116853132967775:=0
def tw11535075601737889770:=0
def tw11543834928412806266:=0
def tw11595180737076892589:=0
def tw11620910011200621799:=0
def tw11715324036313932023:=0
def tw11735436809852537032:=0
def tw11736947224157492565:=0
def tw11819078300975888868:=0
def tw1185851323894498102:=0
def tw11883155383080914240:=0
def tw11900440650633116467:=0
def tw11921456947557741088:=0
def tw11952947233122167518:=0
def tw11977724447544720564:=0
def tw1198073204899374131:=0
def tw11981516529979760978:=0
def tw12039714900883416799:=0
def tw12041797804716162819:=0
def tw12072170158874128982:=0
def tw12151985687361243667:=0
def tw12190992518800289125:=0
def tw12194841413880778143:=0
def tw12258877063695346242:=0
def tw12432408830752311252:=0
def tw12570690013880872124:=0
def tw12670951332756674213:=0
def tw12700124283182541484:=0
def tw12726825212065554535:=0
def tw12791901135146375295:=0
def tw12862501426222505605:=0
def tw12862894414695092575:=0
def tw12916028249637349875:=0
def tw12918849339262306196:=0
def tw12947701520498196756:=0
def tw12991917871116026372:=0
def tw13052259049275624842:=0
def tw13070751092456846924:=0
def tw13121049343548592050:=0
def tw13125765938311321904:=0
def tw1313951844722384350:=0
def tw13177596858197023482:=0
def tw13185036072513989699:=0
def tw13221092894422510183:=0
def tw13246732904844545207:=0
def tw13247934899696318449:=0
def tw1328926469737671738:=0
def tw13364478165493719397:=0
def tw13392300422458242585:=0
def tw13420587722188627657:=0
def tw13451519782563250188:=0
def tw1349275712684529962:=0
def tw13499893319009128185:=0
def tw13583727970893338877:=0
def tw13672038158059104893:=0
def tw13734250744082377809:=0
def tw13865451307105217693:=0
def tw14086783643127374977:=0
def tw14110716001655721056:=0
def tw14214022471989530166:=0
def tw14279620235553443804:=0
def tw14335294307244392103:=0
def tw14340725225383189461:=0
def tw14348072215667290853:=0
def tw14350977492312395442:=0
def tw14366440179252572003:=0
def tw14443153492912381093:=0
def tw144904276920744661:=0
def tw14612046341911537848:=0
def tw14679846977075985904:=0
def tw14695616437033242940:=0
def tw1470467157317060452:=0
def tw14731937577244425919:=0
def tw14747016405258588550:=0
def tw14755270749888324560:=0
def tw14817997706043942974:=0
def tw14824702977836723550:=0
def tw14876476749239671043:=0
def tw14908965461832180458:=0
def tw14916609604896637178:=0
def tw14940369766922881185:=0
def tw14960728118993153909:=0
def tw14961610201532995620:=0
def tw14997367790505305537:=0
def tw15024762475367206439:=0
def tw15034046771213195838:=0
def tw15167007099884567969:=0
def tw15235099653200358543:=0
def tw15263197070816526216:=0
def tw15268700648524597545:=0
def tw15283917209902768422:=0
def tw15289214365370446401:=0
def tw15347548077436804101:=0
def tw15375816518597401637:=0
def tw15472444863902187120:=0
def tw15537663744183227667:=0
def tw15538756011546389093:=0
def tw15647937039213237316:=0
def tw156792417559576357:=0
def tw15743140304273196441:=0
def tw15756237270725915324:=0
def tw158345238872318218:=0
def tw15865157510254300213:=0
def tw15868507203652104495:=0
def tw15888780340369941249:=0
def tw15897522383646343242:=0
def tw15911924937103445189:=0
def tw16098255234616001093:=0
def tw16100681663029660871:=0
def tw161259766026190490:=0
def tw16164829385070949901:=0
def tw16172772109864276192:=0
def tw16182038832609597558:=0
def tw16224313150559339138:=0
def tw16286347293090454801:=0
def tw16303425960935247493:=0
def tw16321223673739630733:=0
def tw16371547457430431036:=0
def tw16417049497614050399:=0
def tw16492881581675169460:=0
def tw16546350321001862601:=0
def tw16563101162046970256:=0
def tw16575739945165905773:=0
def tw16596386906455247004:=0
def tw16603767886529526062:=0
def tw16663767169215401400:=0
def tw16702441421350256725:=0
def tw16717122401596582652:=0
def tw16748206156013296298:=0
def tw16772769322805720573:=0
def tw16779258735350172808:=0
def tw16784466251314489109:=0
def tw16786605415537049863:=0
def tw16808490922792343396:=0
def tw16839801866993987853:=0
def tw16842756528636759462:=0
def tw16870920294540613168:=0
def tw16915097170004077793:=0
def tw16932140786060067032:=0
def tw16966615683243064455:=0
def tw17016204457414683024:=0
def tw1702224854429475139:=0
def tw17094292831722470843:=0
def tw17108722192497674561:=0
def tw17116853142031889339:=0
def tw17130099522184506586:=0
def tw17133109783767013779:=0
def tw17211927891096846936:=0
def tw1721647848166646916:=0
def tw17262610167821511660:=0
def tw17271225848884984835:=0
def tw17281727714828937729:=0
def tw17284653706223786227:=0
def tw17347590042105688416:=0
def tw17386251417055671826:=0
def tw17391720229378760484:=0
def tw17513411373000748108:=0
def tw17513542548843503344:=0
def tw17559672333650546574:=0
def tw17591741100189581101:=0
def tw17620614946327410094:=0
def tw17664510182249373537:=0
def tw17682115670341772648:=0
def tw17685854472308266278:=0
def tw17703801134213491991:=0
def tw17708652096552269071:=0
def tw17784976658749102786:=0
def tw17794047565194839256:=0
def tw1790337678146161556:=0
def tw17926416619035991293:=0
def tw17963893844651079122:=0
def tw17970691483754145299:=0
def tw17971241728621948637:=0
def tw17990129759574749508:=0
def tw17992155742769734897:=0
def tw18060985083509217080:=0
def tw18228813351571368640:=0
def tw18275083774472848582:=0
def tw18277034677738884723:=0
def tw18314552739612783332:=0
def tw18375194419658514868:=0
def tw1838156067546365889:=0
def tw18397870640437676611:=0
def tw18403386144465774240:=0
def tw18421761154970394091:=0
def tw1860606186790541213:=0
def tw1864627543719297343:=0
def tw1909145466393633462:=0
def tw1928257318555864191:=0
def tw193784243476079123:=0
def tw1947236635831419995:=0
def tw2041783396202492631:=0
def tw2057400460586012174:=0
def tw2152050769310508409:=0
def tw216252442282472832:=0
def tw2247072595684630503:=0
def tw2273168125510150541:=0
def tw2291073312143317833:=0
def tw2326532559881636588:=0
def tw2328000157992398887:=0
def tw2403353039820938026:=0
def tw2410310187728594731:=0
def tw2503422504372399815:=0
def tw2607580186734584127:=0
def tw2608070605797176563:=0
def tw2620413794953559392:=0
def tw2633515974025584344:=0
def tw2696296593899239000:=0
def tw272154954311993236:=0
def tw2859147112072935695:=0
def tw2872789486904399422:=0
def tw2887049081943800440:=0
def tw2896174348167375639:=0
def tw2973684608735846952:=0
def tw3021158175918105425:=0
def tw3055551950080952494:=0
def tw3087336787218937950:=0
def tw3127182500770017475:=0
def tw3191148266960960799:=0
def tw3215805626842428213:=0
def tw3301166033050494134:=0
def tw3335905082494853125:=0
def tw3340166297367494622:=0
def tw3351745431309644734:=0
def tw3407209472692622143:=0
def tw3458220660992136837:=0
def tw353522158199140094:=0
def tw3588001812114700359:=0
def tw3690250828266577910:=0
def tw3792640450903017534:=0
def tw3799057430134722505:=0
def tw3875769991376023559:=0
def tw3890391805065088087:=0
def tw3902067476042354316:=0
def tw391223799100464454:=0
def tw39151866223547068:=0
def tw3922795486758095368:=0
def tw3959974095481194204:=0
def tw3986104358190594834:=0
def tw4117707252528763343:=0
def tw4178260494379134616:=0
def tw4186088256624885997:=0
def tw4189186454741558682:=0
def tw4212016336665683553:=0
def tw4226742804537679317:=0
def tw4296480281145741251:=0
def tw4313174386193558888:=0
def tw437237577500153802:=0
def tw4387548947164626359:=0
def tw4466165677288880697:=0
def tw4467964172300492906:=0
def tw4505820429085745088:=0
def tw4510917185870802853:=0
def tw4592780854232879380:=0
def tw4595089469919148753:=0
def tw460863484881222583:=0
def tw4612745476084443053:=0
def tw4646774639305792240:=0
def tw4700929164935408042:=0
def tw4711497830867104210:=0
def tw4744029075993180366:=0
def tw4775773215149798174:=0
def tw4792377413378119420:=0
def tw4800744384135263050:=0
def tw4919238355570308179:=0
def tw4952243573393824792:=0
def tw504295391516069995:=0
def tw5134165244866544981:=0
def tw5151942428077036336:=0
def tw5220602213391973593:=0
def tw5252727821354287515:=0
def tw5329313695643233450:=0
def tw5337688683282122154:=0
def tw54124523512237959:=0
def tw5475800962536622267:=0
def tw5486468040457585969:=0
def tw5540536981289425583:=0
def tw5553072287805165701:=0
def tw5591171524898911612:=0
def tw5608015146631082398:=0
def tw5616335448125713766:=0
def tw5669836884446732404:=0
def tw5746425012420294822:=0
def tw5804619544746754475:=0
def tw5837990046179109130:=0
def tw5845946115205759887:=0
def tw5912574324724204112:=0
def tw5977697602864734976:=0
def tw5982475609579631338:=0
def tw5987736642960424276:=0
def tw6038965011849620157:=0
def tw6048325940239302354:=0
def tw6052694660258867455:=0
def tw6129933262593762306:=0
def tw6136536195922042667:=0
def tw6137390085474465068:=0
def tw617556669502724841:=0
def tw6196975042158759934:=0
def tw6265672495489748235:=0
def tw626834330759552731:=0
def tw6345696121442204511:=0
def tw6441188250506868564:=0
def tw6464803541155758188:=0
def tw6465859826874907789:=0
def tw65168285367315618:=0
def tw6551478289291425145:=0
def tw6576876539239251898:=0
def tw6627378685870362785:=0
def tw6657244066502189222:=0
def tw6672275765558885775:=0
def tw6734944104358171013:=0
def tw674112265063440099:=0
def tw6751757020057952544:=0
def tw6796022537471175688:=0
def tw6880196358047964671:=0
def tw6880876317033552545:=0
def tw692470955497423506:=0
def tw6941967316997016274:=0
def tw6982514011644305500:=0
def tw7036611109784526087:=0
def tw7140692254989675125:=0
def tw725598093536194324:=0
def tw7288554691864394930:=0
def tw7289612990638589499:=0
def tw7291730803833935860:=0
def tw7341151851897807754:=0
def tw7400984454493055906:=0
def tw7410428836536019170:=0
def tw742833678547739290:=0
def tw7515201729273291973:=0
def tw7520586593415719044:=0
def tw7542537107763505098:=0
def tw7560095815201310970:=0
def tw7616074962663898006:=0
def tw7650208377293320617:=0
def tw7668230721596602271:=0
def tw7748560070435951688:=0
def tw7832826589642247933:=0
def tw785713670403584931:=0
def tw7890133290765852842:=0
def tw80511249717507964:=0
def tw8054822195003529096:=0
def tw8068700600372615038:=0
def tw8158626591349385936:=0
def tw8158694422780029875:=0
def tw8193435868581988131:=0
def tw8201820800071983130:=0
def tw8267988235231253097:=0
def tw8285283928339411423:=0
def tw8290943808163943150:=0
def tw8292146742327883626:=0
def tw8331273975328582996:=0
def tw8332923866491499160:=0
def tw8337901106310201258:=0
def tw8498500821731788474:=0
def tw8499160318964707517:=0
def tw8562267945908969375:=0
def tw8618550185579828072:=0
def tw8682515831185975855:=0
def tw8772824044018593647:=0
def tw8781163884936280592:=0
def tw8821091004284310771:=0
def tw8994321097129132372:=0
def tw8996318383439528258:=0
def tw900815316923857395:=0
def tw9015647615290404461:=0
def tw9090359748627861004:=0
def tw9127310235326931716:=0
def tw9130472159680885922:=0
def tw9140377324220466330:=0
def tw9169097367903736024:=0
def tw9270345213768735608:=0
def tw927159782113542162:=0
def tw930460110101575338:=0
def tw9325692950989927343:=0
def tw9325957234227738843:=0
def tw9340426679573201945:=0
def tw9390178518861867384:=0
def tw9470918853094534823:=0
def tw951295347924547555:=0
def tw9518116585226278822:=0
def tw9553869076487241896:=0
def tw9580913839825723224:=0
def tw9653063907267826223:=0
def tw9670162991135728665:=0
def tw9709133167839581391:=0
def tw9716269350392876972:=0
def tw9752502146776950776:=0
def tw9807745787156202655:=0
def tw9820042383611104017:=0
def tw9820751479857858758:=0
def tw9867305434702172204:=0
def tw9874723657183184505:=0
def tw9949993527818083119:=0
def tw995968384808584782:=0
def tw9960650475653986063:=0
def tw9981489393813120116:=0
def tw9994198726007258971:=0
end PySem.W.Fast
set_option maxRecDepth 100000 in
set_option maxHeartbeats 0 in
theorem PySem.Challenge.cw_twigmap_k32_values_and_rows_holds : PySem.Challenge.rw_twigmap_k32_values_and_rows.Holds := by
 w_on;o_law;k_head;(case hw=>w_witness2)
 k_fill
 refine Tw.walk (l:=PySem.Challenge.rw_twigmap_k32_values_and_rows) rfl rfl (λw h Y=>PySem.W.kIn_of Y) ?F
 case F=>
  intro w mg fa h KX G hmg;refine' Tw.IB KX G hmg (Tw.Mu KX G ?a1 ?l1 ?c1 ?k1) (Tw.Mu KX G ?a2 ?l2 ?c2 ?k2) (Tw.Mu KX G ?a3 ?l3 ?c3 ?k3) (Tw.Mu KX G ?a4 ?l4 ?c4 ?k4) (Tw.Mu KX G ?a5 ?l5 ?c5 ?k5) (Tw.Mu KX G ?a6 ?l6 ?c6 ?k6) (Tw.Mu KX G ?a7 ?l7 ?c7 ?k7) (Tw.Mu KX G ?a8 ?l8 ?c8 ?k8) (Tw.Mu KX G ?a9 ?l9 ?c9 ?k9) (Tw.Mu KX G ?a10 ?l10 ?c10 ?k10) (Tw.Mu KX G ?a11 ?l11 ?c11 ?k11) (Tw.Mu KX G ?a12 ?l12 ?c12 ?k12) (Tw.Mu KX G ?a13 ?l13 ?c13 ?k13) (Tw.Mu KX G ?a14 ?l14 ?c14 ?k14) (Tw.Mu KX G ?a15 ?l15 ?c15 ?k15) (Tw.Mu KX G ?a16 ?l16 ?c16 ?k16) (Tw.Mu KX G ?a17 ?l17 ?c17 ?k17) (Tw.Mu KX G ?a18 ?l18 ?c18 ?k18) (Tw.Mu KX G ?a19 ?l19 ?c19 ?k19) (Tw.Mu KX G ?a20 ?l20 ?c20 ?k20) (Tw.Mu KX G ?a21 ?l21 ?c21 ?k21) (Tw.Mu KX G ?a22 ?l22 ?c22 ?k22) (Tw.Mu KX G ?a23 ?l23 ?c23 ?k23) (Tw.Mu KX G ?a24 ?l24 ?c24 ?k24) (Tw.Mu KX G ?a25 ?l25 ?c25 ?k25) (Tw.Mu KX G ?a26 ?l26 ?c26 ?k26) (Tw.Mu KX G ?a27 ?l27 ?c27 ?k27) (Tw.Mu KX G ?a28 ?l28 ?c28 ?k28) (Tw.Mu KX G ?a29 ?l29 ?c29 ?k29) (Tw.Mu KX G ?a30 ?l30 ?c30 ?k30) (Tw.Mu KX G ?a31 ?l31 ?c31 ?k31) (Tw.Mu KX G ?a32 ?l32 ?c32 ?k32) (Tw.Mu KX G ?a33 ?l33 ?c33 ?k33) (Tw.Mu KX G ?a34 ?l34 ?c34 ?k34) (Tw.Mu KX G ?a35 ?l35 ?c35 ?k35) (Tw.Mu KX G ?a36 ?l36 ?c36 ?k36) (Tw.Mu KX G ?a37 ?l37 ?c37 ?k37) (Tw.Mu KX G ?a38 ?l38 ?c38 ?k38) (Tw.Mu KX G ?a39 ?l39 ?c39 ?k39) (Tw.Mu KX G ?a40 ?l40 ?c40 ?k40) (Tw.Mu KX G ?a41 ?l41 ?c41 ?k41) (Tw.Mu KX G ?a42 ?l42 ?c42 ?k42) (Tw.Mu KX G ?a43 ?l43 ?c43 ?k43) (Tw.Mu KX G ?a44 ?l44 ?c44 ?k44) (Tw.Mu KX G ?a45 ?l45 ?c45 ?k45) (Tw.Mu KX G ?a46 ?l46 ?c46 ?k46) (Tw.Mu KX G ?a47 ?l47 ?c47 ?k47) (Tw.Mu KX G ?a48 ?l48 ?c48 ?k48) (Tw.Mu KX G ?a49 ?l49 ?c49 ?k49) (Tw.Mu KX G ?a50 ?l50 ?c50 ?k50) (Tw.Mu KX G ?a51 ?l51 ?c51 ?k51) (Tw.Mu KX G ?a52 ?l52 ?c52 ?k52) (Tw.Mu KX G ?a53 ?l53 ?c53 ?k53) (Tw.Mu KX G ?a54 ?l54 ?c54 ?k54) ?a55 ?l55 ?c55 ?k55 ?z1 ?z2 ?z3 ?z4 ?z5 ?z6 ?z7 ?z8 ?z9 ?z10 ?z11 ?z12 ?z13 ?z14 ?z15 ?z16 ?m1_ ?m2_ ?m3_ ?m4_ ?m5_ ?m6_ ?m7_ ?m8_ ?m9_ ?m10_ (Tw.MQ ?vjS ?iljS ?fnjS ?icjS ?ikjS) (Tw.MQ ?vjT ?iljT ?fnjT ?icjT ?ikjT) ?iljN ?icjN ?ikjN (Tw.N5 ?vm1 ?ilm1 ?fnm1 ?icm1 ?ikm1) (Tw.N5 ?vm2 ?ilm2 ?fnm2 ?icm2 ?ikm2) (Tw.N5 ?vm3 ?ilm3 ?fnm3 ?icm3 ?ikm3) (Tw.N5 ?vm4 ?ilm4 ?fnm4 ?icm4 ?ikm4) (Tw.N5 ?vm5 ?ilm5 ?fnm5 ?icm5 ?ikm5) (Tw.N5 ?vm6 ?ilm6 ?fnm6 ?icm6 ?ikm6) (Tw.N5 ?vm7 ?ilm7 ?fnm7 ?icm7 ?ikm7) (Tw.N5 ?vm8 ?ilm8 ?fnm8 ?icm8 ?ikm8) (Tw.N5 ?vm9 ?ilm9 ?fnm9 ?icm9 ?ikm9) (Tw.N5 ?vm10 ?ilm10 ?fnm10 ?icm10 ?ikm10) (Tw.N5 ?vm11 ?ilm11 ?fnm11 ?icm11 ?ikm11) (Tw.N5 ?vm12 ?ilm12 ?fnm12 ?icm12 ?ikm12) (Tw.N5 ?vm13 ?ilm13 ?fnm13 ?icm13 ?ikm13) (Tw.N5 ?vm14 ?ilm14 ?fnm14 ?icm14 ?ikm14) (Tw.N5 ?vm15 ?ilm15 ?fnm15 ?icm15 ?ikm15) ?xCB ?xCK ?xCT ?xCP ?xCSh ?xCTw ?vjN ?mkCSh ?kpCSh ?pgCSh ?hdCSh ?poCSh ?saCSh ?mkCTw ?kpCTw ?pgCTw ?hdCTw ?poCTw ?saCTw ?na_kept ?na_following ?na_looks ?na_things ?na_tag ?na_above ?na_holds ?tyB ?mB ?kitx ?wCT ?tyCT ?sbCT ?sbCK ?exCK ?kpCK ?mBCK ?tyCK
  (case xCB=>k_is)
  (case xCK=>k_is)
  (case xCT=>k_is)
  (case xCP=>k_is)
  (case xCSh=>k_is)
  (case xCTw=>k_is)
  (case vjS=>k_is)
  (case vjT=>k_is)
  (case vjN=>k_is)
  (case vm1=>k_is)
  (case vm2=>k_is)
  (case vm3=>k_is)
  (case vm4=>k_is)
  (case vm5=>k_is)
  (case vm6=>k_is)
  (case vm7=>k_is)
  (case vm8=>k_is)
  (case vm9=>k_is)
  (case vm10=>k_is)
  (case vm11=>k_is)
  (case vm12=>k_is)
  (case vm13=>k_is)
  (case vm14=>k_is)
  (case vm15=>k_is)
  (case kitx=>kernel_rfl)
  (case wCT=>kernel_rfl)
  (case exCK=>kernel_rfl)
  all_goals try k_is
  all_goals try k_is
