import PyProof.Rows.All
import Wide.All
import OpenK.AllK
import Wide.FinOn
import Lean
import PyProof.EqAt
import PyProof.EqKinds
import PyProof.TupleCall
import PyProof.NsDelKeeps
import PyProof.ExcBaseAll.ValueError
import KE.KIsAll
import PyProof.ExcArgsOwn
import PyProof.ExcAttrAll.ValueError
import PyProof.NeKinds
import KE.KLam
import PyProof.Rows.SumAny
import PyProof.ListMulRoad
import PyProof.FactsAll.tuple
import KE.KDictList
import PyProof.Rows.SortWalk
import KE.KEqDict
import KE.KRevIter
import PyProof.InstStoreFacts
import PyProof.ExcClass3
import PyProof.WalkInts
import PyProof.SeqI3
import KE.KSortTup
import PyProof.ListMulAny
import PySem.Challenge.RW_twigmap_k25_leaves_changed
open PySem renaming wpAny_bind→aa,wpAny_pure→ad,wpAny_mono→ae,wpAny_holding→af,wpAny_Call_Name_kw→ag,wpAny_standAt→ah,Value→ai,Addr→aj,Shared→al,Program→am,FuncData→ao,mainGlobals→ap,sizeLine→aq,starEach→ar,World→aw,Around→ax,bootBuiltins→ay,compareOp→az,model→aA,wpAny→aB,Stmt→aC,Heap→aD,Scope→aE,swapsWith→aF,backTo→aG,codeAny→aH,eval→aI,Obj→aJ,Pos→aK
universe u
def aM{p:Prop}[Decidable p](h:¬p):decide p=false:=decide_eq_false h
def aO{p:Prop}[Decidable p](h:p):decide p=true:=decide_eq_true h
def aP{c:Prop}{h:Decidable c}(n:¬c){α:Sort u}{t e:α}:(ite c t e)=e:=if_neg n
def aQ{c:Prop}{h:Decidable c}(n:c){α:Sort u}{t e:α}:(ite c t e)=t:=if_pos n
set_option Elab.async false
set_option linter.all false
set_option maxRecDepth 100000
set_option maxHeartbeats 8000000
open PySem.W renaming Frag->zZ,nsIn->zP,findIn->zC,mroIn->zI,mg_of->zA,kitOne->yV,keepIn->yW,typeIn->yQ,mg_none_of->yD,Looks->yJ,tabIn->yF,CodeHd->xZ,fnOf->yG,kia_one->xP,hideAll->xQ,codeIn->xR,emptyDict->wX,callWith_K->wF,kla_obj->wP,instObj->wQ,hasDictIn->wH,of_hideAll->vV,tabObj->wI,plainGet->vY,looks_mroIn->vH,isFn->wT,excIn->wJ,methodCall_KW->tS,looks_findIn->tV,hideAll_none->tW,hideAll_get->uE,callWith_K0->uF,envX->wA,lookIn->vM,plainOver->uL,any_some->uO,makesIn->uQ,OpenLaw->uR,looks_typeIn->sF,plainGet_of->sJ,looks_clsIn->sK,clsIn->uY,methodObj->sQ,kat_cons->rQ,takerIn->rV,kat_yes->rW,noTabs->sY,kla_fn->sZ,kat_no->tE,kat_go->tF,KdlSrc->tG,InstAt->tH,WalkO->tN,funFrames_hide->qX,cellsFrom_some->qY,tail_of_in->rN
open List renaming getD_eq_getElem?_getD->zW,getElem?_eq_getElem->zV,length_map->zX,mem_cons_self->zM,mem_cons_of_mem->zH,getElem?_map->zN,size_toArray->zK,all_eq_true->zO,mem_of_getElem?->zB,getElem?_eq_some_iff->yN,mem_singleton->yZ,take_of_length_le->yK,length_cons->yY,length_append->yS,mem_cons->zG,range->zQ,take_add_one->yP,mem_map->zE,map_map->zF,map_append->yR,mem_append->yM,mem_append_right->xW,getElem?_append_right->xA,getElem?_append_left->xB,map_cons->yI,length_singleton->xH,mem_filterMap->xO,getElem_mem->xU,mem_range->xX,lookup_cons->xL,mem_filter->xM,length->yA,mem_append_left->wO,flatMap_cons->wY,drop_eq_getElem_cons->vS,nodup_cons->xD,eq_nil_of_length_eq_zero->vC,toArray->xS,all_map->xT,find?_cons->wZ,pairwise_cons->wG,getElem?_set_ne->vT,length_set->wR,lookup->xN,exists_mem_of_length_pos->tZ,getElem?_set_self->vD,getElem?_eq_none->vE,cons_lt_cons_iff->vF,pairwise_append->vG,append_nil->vP,take_append_drop->tX,not_mem_nil->vK,any_cons->vZ,not_lt_nil->vL,map_congr_left->uH,length_pos_iff->uI,getElem_of_mem->uJ,filterMap_cons->uK,map_nil->wB,find?_eq_none->uM,replicate->vN,nodup_append->uP,all_cons->vO,mem_flatMap->uS,cons_append->uT,length_filter_le->sG,eq_nil_or_concat->sH,concat_eq_append->sI,all_append->uW,toList_toArray->sM,length_reverse->sN,drop_succ_cons->sO,filter_append->sT,length_range->rR,append_assoc->rS,nil_lt_cons->rX,mem_toArray->rY,mem_reverse->sV,length_take->sW,filter_cons->sX,dropLast_concat_getLast->qJ,sum_append->tJ,of_mem_zip->tK,length_nil->tL,foldl_cons->tM,ne_nil_of_length_pos->rE,mem_of_find?_eq_some->rF,sum_cons->tP,pairwise_singleton->rJ,length_eq_zero_iff->rK,getLast_eq_getElem->rL
open PySem.Heap renaming get?_push_of_some->zS,lt_size->zU,get?_push_size->yT,get?_update_other->yC,get?_update_self->wW,size_push->vQ,SameBut->wK,get?_none_of_le->uG,get?_update_ne->sP
open Nat renaming le_refl->zY,le_of_ble_eq_true->yO,ne_of_lt->zL,lt_of_lt_of_le->yL,le_trans->zD,lt_or_ge->yU,zero_le->yX,lt_succ_self->xV,le_of_lt->yE,lt_of_le_of_lt->xK,lt_irrefl->xE,ne_of_gt->xG,succ->xY,lt_succ_of_lt->vX,le_succ_of_le->vB,le_succ->wM,le_of_eq->wC,not_lt->wL,le_of_not_lt->uV,sub_lt_sub_left->sR,sub_le->vJ,min_le_right->tI,add_le_add->tO
open Bool renaming false_ne_true->zT,and_eq_true->zR,eq_iff_iff->wS,false_eq_true->vW,eq_false_iff->vA,false_and->uZ,true_and->uD,not_eq_true'->rT
open PySem.F renaming plainAttrs_list->yH,type_list_append->xI,slot_list_append->xJ,plain_max_loop->wE,type_list_clear->uA,slot_list_clear->uB,slot_tuple_mul->uC,slot_int_rmul->tU,excBase_ValueError->rZ,entry_max_loop->sC,slot_dict_get->sE,store_ValueError->qK,args_tuple_mul_2->qL,args_tuple_add_2->qM,type_list_index->qN,slot_tuple_rmul->qO,slot_list_index->qP,plain_list_iadd->qQ,entry_tuple_mul->qR,entry_tuple_add->qU,args_int_rmul_2->qV,args_dict_get_3->qW,slot_tuple_add->qZ,slot_int_index->rA,entry_int_rmul->rB,entry_dict_get->rC,fills_int_mul->rH
open Option renaming map_eq_some_iff->yB,some->zJ,isSome_iff_exists->sB,map_some->uU,bind_eq_some_iff->rD,none->tR
open Array renaming getElem?_eq_some_iff->wD,getElem?_eq_getElem->vR,getElem?_setIfInBounds_ne->tY,length_toList->vU,append_assoc->vI,toList_append->sL,toList->tQ,getElem?_toList->rM,toArray_toList->rO,mem_toList_iff->rP
open PySem.Str renaming ofString->wU
open Int renaming emod_lt_of_pos->uN,toNat->wV,emod_nonneg->uX,fdiv_eq_ediv_of_nonneg->rG
local macro_rules|`(tactic|exists $e,*)=>`(tactic|refine ⟨$e,*, ?_⟩)
local macro_rules|`(∅)=>`(by lia)
local macro_rules|`(nofun)=>`(by lia (splits:=8))
abbrev ja:=PySem.Value->PySem.Shared->Prop
abbrev jc:=PySem.Str->Option PySem.Value
abbrev jd:=Option PySem.Value
abbrev je:=List PySem.Value
abbrev zEa:List PySem.Str:=["self","number"]
abbrev zEb:List PySem.Str:=["_law_twigs","_law_number"]
abbrev zEc:List PySem.Str:=["_law_found","_law_due"]
abbrev zEd:List PySem.Str:=["_law_twigs","_law_holds","_law_number","_law_rows"]
abbrev zEe:List PySem.Str:=["_law_well_here","_law_many"]
abbrev zEf:List PySem.Str:=["_law_well_here","_law_state"]
abbrev zEg:List PySem.Str:=["_law_well_here","_law_twigs","_law_holds","_law_grid_here"]
abbrev zEh:List PySem.Str:=["_law_well_here","_law_grid_here","_law_block"]
abbrev zEi:List PySem.Str:=["_law_well_here","_law_some"]
abbrev zEj:List PySem.Str:=["self","numbers"]
abbrev zEk:List PySem.Str:=["_law_twigs","_law_holds","_law_number"]
abbrev zEl:List PySem.Str:=["_law_twigs","_law_numbers","_law_high"]
abbrev zEm:List PySem.Str:=["self","number","rows"]
abbrev zEn:List PySem.Str:=["_law_well_here","_law_state","_law_block"]
abbrev zEo:List PySem.Str:=["self"]
abbrev zEp:List PySem.Str:=["_law_twigs","_law_number","_law_what"]
abbrev zEq:List PySem.Str:=["_law_shelf","_law_twigs","_law_holds"]
abbrev zEr:List PySem.Str:=["_law_well_here","_law_leaves","_law_stems"]
abbrev zEs:List PySem.Str:=["thing","room"]
abbrev zEt:List PySem.Str:=["_law_one","_law_other"]
abbrev zEu:List PySem.Str:=["_law_holds","_law_numbers"]
abbrev zEv:List PySem.Str:=["rows"]
abbrev zEw:List PySem.Str:=["self","things","tag"]
abbrev zEx:List PySem.Str:=["_law_call"]
abbrev zEy:List PySem.Str:=["_law_shelf","_law_number","_law_handed"]
abbrev zEz:List PySem.Str:=["self","things","label"]
abbrev zE0:List PySem.Str:=["_law_script","_law_k"]
abbrev zE1:List PySem.Str:=["self","road","label"]
abbrev zE2:List PySem.Str:=["label","following"]
abbrev zE3:List PySem.Str:=["self","stem","branches"]
abbrev zE4:List PySem.Str:=["thing"]
abbrev zE5:List PySem.Str:=["_law_key"]
abbrev zE6:List PySem.Str:=["one","other"]
abbrev zE7:List PySem.Str:=["_law_shelf","_law_handed"]
abbrev zE8:List PySem.Str:=["number"]
abbrev zE9:List PySem.Str:=["_law_well_here"]
abbrev zFa:List PySem.Str:=["self","number","twig"]
abbrev zFb:List PySem.Str:=["key"]
abbrev zFc:List PySem.Str:=["self","labels"]
abbrev zFd:List PySem.Str:=["self","rows"]
abbrev zFe:List PySem.Str:=["_law_script"]
abbrev jq:=List Nat
abbrev ju:=List PySem.Str
abbrev jv:=List (aj×aJ)
abbrev jw:=List aj
abbrev jx:=Array ai
abbrev jz:=Option aj
abbrev jA:=List PySem.Expr
abbrev jB:=List PySem.Env
abbrev jC:=List Int
abbrev jE:=Array Nat
abbrev jF:=List (PySem.Str×aj)
abbrev jK:=Option Int
abbrev jL:=List (PySem.Str×ai)
abbrev jO:=List aC
abbrev jP:=List (Int×Int×Int)
abbrev jQ:=Option Nat
abbrev jS:=Option PySem.Expr
abbrev jT:=List Bool
abbrev jW:=Option (aj×aj)
namespace L2
open PySem PySem.Spec PyProof.Rows
abbrev ZV:=Sum Int Str
abbrev jI:=List ZV
abbrev jV:=List (ZV×ai)
def Pn:ZV->ai->Bool
 | .inl k,v=>Value.isInt k v
 | .inr x,v=>Value.isStrOf x v
def E4(w:aw):ZV->Int
 | .inl k=>hashInt k
 | .inr x=>hashStr w x
def Qe:∀{k:ZV}{v:ai},Pn k v=true->(∃ i t,k=Sum.inl i/\v=Value.int i t)\/(∃ x t,k=Sum.inr x/\v=Value.str x t)
 | .inl i,v,h=>by
  obtain⟨t,e⟩:=Value.isInt_shape (k:=i) (v:=v) h;exact .inl ⟨i,t,rfl,e⟩
 | .inr x,v,h=>by
  obtain⟨t,e⟩:=Value.isStrOf_shape (x:=x) (v:=v) h;exact .inr ⟨x,t,rfl,e⟩
def BO(i:Int)(t:Tok):Pn (.inl i) (.int i t)=true:=by simp[Pn,Value.isInt]
def Ap(x:Str)(t:Tok):Pn (.inr x) (.str x t)=true:=by simp[Pn,Value.isStrOf]
def C8(a b:Int):decide ((Sum.inl a:ZV)=Sum.inl b)=(a==b):=by
 by_cases e:a=b
 ·subst e;simp
 ·have h:¬ (Sum.inl a:ZV)=Sum.inl b:=λq=>e (Sum.inl.inj q);rw[aM h];exact(beq_eq_false_iff_ne.mpr e).symm
def AU(a b:Str):decide ((Sum.inr a:ZV)=Sum.inr b)=decide (a=b):=by
 by_cases e:a=b
 ·subst e;simp
 ·have h:¬ (Sum.inr a:ZV)=Sum.inr b:=λq=>e (Sum.inr.inj q);rw[aM h,aM e]
def ZOZ(a:Int)(b:Str):decide ((Sum.inl a:ZV)=Sum.inr b)=false:=aM (λq=>nomatch q)
def BN(a:Str)(b:Int):decide ((Sum.inr a:ZV)=Sum.inl b)=false:=aM (λq=>nomatch q)
def Wk(c:am)(w:aw):PySem.KeyKind c w ZV where
 is:=Pn
 hash:=E4 w
 inj:=λv a b g f=>by
  rcases Qe g with ⟨i,t,rfl,rfl⟩ | ⟨x,t,rfl,rfl⟩
  ·rcases Qe f with ⟨j,u,rfl,e⟩ | ⟨y,u,rfl,e⟩
   ·injection e with e1 _;rw[e1]
   ·exact nomatch e
  ·rcases Qe f with ⟨j,u,rfl,e⟩ | ⟨y,u,rfl,e⟩
   ·exact nomatch e
   ·injection e with e1 _;rw[e1]
 byValue:=λk v h=>by
  rcases Qe h with ⟨i,t,rfl,rfl⟩ | ⟨x,t,rfl,rfl⟩ <;> rfl
 pyHash:=λd h=>by
  rcases Qe d with ⟨i,t,rfl,rfl⟩ | ⟨x,t,rfl,rfl⟩
  ·exact wpAny_pyHash_int h
  ·exact wpAny_pyHash_str h
 eqBool:=λl d h=>by
  rcases Qe l with ⟨i,t,rfl,rfl⟩ | ⟨x,t,rfl,rfl⟩
  ·rcases Qe d with ⟨j,u,rfl,rfl⟩ | ⟨y,u,rfl,rfl⟩
   ·rw[C8] at h;exact wpAny_eqBool_int h
   ·rw[ZOZ] at h;exact SeqAt.EqAt.int_str i t y u _ _ _ _ h
  ·rcases Qe d with ⟨j,u,rfl,rfl⟩ | ⟨y,u,rfl,rfl⟩
   ·rw[BN] at h;exact SeqAt.EqAt.str_int x t j u _ _ _ _ h
   ·rw[AU] at h;exact wpAny_eqBool_str h
 «strs» :=λk x t v h=>by
  rcases Qe h with ⟨i,u,rfl,e⟩ | ⟨y,u,rfl,e⟩
  ·exact nomatch e
  ·injection e with e1 _;subst e1;cases v <;> rfl
def E7(a:am)(w:aw)(i:Int)(t:Tok):(Wk a w).is (.inl i) (.int i t)=true:=BO i t
def ZGU(a:am)(w:aw)(x:Str)(t:Tok):(Wk a w).is (.inr x) (.str x t)=true:=Ap x t
inductive V where
 | non | bl (b:Bool) | int (i:Int) | str (x:Str) | byt (b:Array UInt8) | flt (b:UInt64) | ref (a:aj) | ty (n:String)
 deriving DecidableEq
abbrev jf:=List V
abbrev jg:=Option V
def ZW:V->ai->Prop
 | .non,u=>u=Value.none
 | .bl b,u=>u=Value.bool b
 | .int i,u=>∃ t,u=Value.int i t
 | .str x,u=>∃ t,u=Value.str x t
 | .byt b,u=>∃ t,u=Value.bytes b t
 | .flt b,u=>∃ t,u=Value.float b t
 | .ref a,u=>u=Value.ref a
 | .ty n,u=>u=Value.type n
abbrev ZT:jf->je->Prop:=Paired ZW
def ZT.length{b:jf}{a:je}(r:ZT b a):b.length=a.length:=Paired.length r
def ZT.get:∀{b:jf}{a:je}{i:Nat}{x:V},ZT b a->b[i]? = some x->∃ u,a[i]? = some u/\ZW x u
 | _,_,_,_,.nil,e=>by simp at e
 | _,_,0,_,.cons r _,e=>by simp at e;subst e;exact⟨_,rfl,r⟩
 | _,_,i+1,x,.cons _ t,e=>by
  obtain⟨u,c,d⟩:=ZT.get (i:=i) (x:=x) t (by simpa using e)
  exact⟨u,by simpa using c,d⟩
def ZT.set{x:V}{u:ai}(r:ZW x u):∀{b:jf}{a:je}(i:Nat),ZT b a->ZT (b.set i x) (a.set i u)
 | _,_,_,.nil=>.nil
 | _,_,0,.cons _ t=>.cons r t
 | _,_,i+1,.cons q t=>.cons q (ZT.set r i t)
def ZT.append:∀{c d:jf}{a b:je},ZT c a->ZT d b->ZT (c++d) (a++b):=by intro _ _ _ _ h g;induction h with
 | nil=>exact g
 | cons r _ e=>exact .cons r e
def ZT.take:∀{b:jf}{a:je}(n:Nat),ZT b a->ZT (b.take n) (a.take n)
 | _,_,0,_=>.nil
 | _,_,_+1,.nil=>.nil
 | _,_,n+1,.cons r t=>.cons r (ZT.take n t)
def ZT.drop:∀{b:jf}{a:je}(n:Nat),ZT b a->ZT (b.drop n) (a.drop n)
 | _,_,0,r=>r
 | _,_,_+1,.nil=>.nil
 | _,_,n+1,.cons _ t=>ZT.drop n t
def Yn:jg->jd->Prop
 | some v,some u=>ZW v u
 | none,none=>True
 | _,_=>False
def KV{a:Type}:List (a×V)->List (a×ai)->Prop:=Paired fun(p:a×V)(q:a×ai)=>p.1=q.1/\ZW p.2 q.2
def kV:ZV->V
 | .inl i=>.int i
 | .inr x=>.str x
inductive HO where
 | lst (xs:jf)
 | tup (xs:jf)
 | dK (kvs:List (ZV×V)) | dT (kvs:List (jI×V))
 | set (S:Int->Bool) (n:Nat)
 | ins (C dx:aj) (fs:List (Str×V))
 | own (x:aj)
 | xd (fs:List (Str×V))
 | met (f x:aj)
 | rng (lo hi:Int)
 | frz (o:aJ) (u:HO)
 | tbl (ps:jx)
 | ext (φ:aD->Prop)
abbrev Hp:=aj->Option HO
def upd(H:Hp)(a:aj)(o:HO):Hp:=λb=>if b=a then some o else H b
def ZR{H:Hp}{a:aj}{o:HO}:upd H a o a=some o:=by unfold upd;rw[aQ rfl]
def ZO{H:Hp}{a b:aj}{o:HO}(h:b≠a):upd H a o b=H b:=by unfold upd;rw[aP h]
def Ox{H:Hp}{a:aj}{o u:HO}:upd (upd H a o) a u=upd H a u:=by
 funext b;unfold upd;split <;> rfl
def ZD{H:Hp}{a b:aj}{o u:HO}(h:H a=some o)(c:H b=some u)(d:o≠u:=by intro z;cases z):a≠b:=by
 intro e;subst e;rw[h] at c;exact d (zJ.inj c)
def Zb{H:Hp}{a b:aj}{o:HO}(h:H a=some o)(c:H b=none):a≠b:=by
 intro e;subst e;rw[h] at c;cases c
section
variable(P:am)(w:aw)
def Zd(H:Hp)(h:aD)(a:aj):HO->Prop
 | .lst c=>c.length<=aq/\∃(b:je)(n:Nat),ZT c b/\h.get? a=some { cls:=.type "list",data:=.seq b.toArray n }
 | .tup c=>c.length<=aq/\∃ b:je,ZT c b/\IsTup h a b.toArray
 | .dK kvs=>kvs.length<=aq/\(a==sysModules)=false/\∃ l,KV kvs l/\h.DictOf (Wk P w) a l
 | .dT kvs=>kvs.length<=aq/\(a==sysModules)=false/\∃ c:List (jI×aj×ai),
   Paired (fun(p:jI×V)(q:jI×aj×ai)=>p.1=q.1/\H q.2.1=some (.tup (p.1.map kV))/\ZW p.2 q.2.2) kvs c /\
   ∃ o i m,h.get? a=some o/\o.ExactDict/\o.data=.dict i m/\i.toList=c.map (entryOfKey (tupleKind (Wk P w)))/\(c.map (·.1)).Nodup
 | .set S n=>h.SetOf (intKind P w) a S n
 | .ins C g e=>H g=some (.own a)/\e.length<=1000/\g≠a/\h.get? a=some (wQ C g) /\
   ∃ d,h.Ns1 g d/\(∀ f,Yn (e.lookup f) (d f))/\PySem.Within d (e.map (·.1))
 | .own _=>∃ o,h.get? a=some o
 | .xd e=>∃ d,h.Ns1 a d/\∀ f,Yn (e.lookup f) (d f)
 | .rng lo r=>∃ t u v,h.get? a=some { cls:=.type "range",data:=.fields #[.int lo t,.int r u,.int 1 v] }
 | .frz o u=>h.get? a=some o/\Zd H h a u
 | .tbl ps=>h.get? a=some { cls:=.none,data:=.fields ps }
 | .met f x=>h.get? a=some (sQ (.ref f) (.ref x))
 | .ext φ=>φ h/\(∃ o,h.get? a=some o)/\∀ j k:aD,φ j->(∀ o,j.get? a=some o->k.get? a=some o)->φ k
def YW(H:Hp)(h:aD):Prop:=∀ a o,H a=some o->Zd P w H h a o
end
section
variable{P:am}{w:aw}{H H':Hp}{h h':aD}{a:aj}{o:HO}
def Zd.lt(x:Zd P w H h a o):a<h.objs.size:=by
 cases o with
 | lst d=>obtain⟨_,_,_,_,e⟩:=x;exact zU e
 | tup d=>obtain⟨_,_,_,p⟩:=x;exact p.lt
 | dK b=>obtain⟨_,_,_,_,o,_,_,e,_⟩:=x;exact zU e
 | dT b=>obtain⟨_,_,_,_,o,_,_,e,_⟩:=x;exact zU e
 | set S n=>obtain⟨o,_,_,_,e,_⟩:=x;exact zU e
 | ins C g c=>obtain⟨_,_,_,e,_⟩:=x;exact zU e
 | own y=>obtain⟨_,e⟩:=x;exact zU e
 | xd c=>obtain⟨_,⟨_,_,_,e,_⟩,_⟩:=x;exact zU e
 | rng j i=>obtain⟨_,_,_,e⟩:=x;exact zU e
 | frz k u=>obtain⟨e,_⟩:=x;exact zU e
 | tbl l=>exact zU (show h.get? a=some _ from x)
 | met f y=>exact zU (show h.get? a=some _ from x)
 | ext m=>obtain⟨_,⟨_,e⟩,_⟩:=x;exact zU e
def Paired.mapP{e g:Type}{F G:e->g->Prop}:∀{c:List e}{d:List g},Paired F c d->(∀ a b,F a b->G a b)->Paired G c d:=by intro _ _ h f;induction h with
 | nil=>exact .nil
 | cons r _ i=>exact .cons (f _ _ r) i
def Zd.stay(x:Zd P w H h a o)(k:∀ b u,(b=a\/H b=some (.own a))->h.get? b=some u->h'.get? b=some u)(I:∀ b,H b=some (.own a)->H' b=some (.own a))(J:∀ b m,H b=some (.tup m)->H' b=some (.tup m)):Zd P w H' h' a o:=by
 induction o with
 | lst m=>obtain⟨z,l,n,r,e⟩:=x;exact⟨z,l,n,r,k _ _ (.inl rfl) e⟩
 | tup m=>obtain⟨z,l,r,g,e,c⟩:=x;exact⟨z,l,r,g,k _ _ (.inl rfl) e,c⟩
 | dK s=>obtain⟨z,y,M,r,g,j,i,e,c⟩:=x;exact⟨z,y,M,r,g,j,i,k _ _ (.inl rfl) e,c⟩
 | dT s=>
  obtain⟨z,y,m,r,g,j,i,e,c⟩:=x;exact⟨z,y,m,Paired.mapP r λp q z=>⟨z.1,J _ _ z.2.1,z.2.2⟩,g,j,i,k _ _ (.inl rfl) e,c⟩
 | set S n=>obtain⟨g,j,i,t,e,c⟩:=x;exact⟨g,j,i,t,k _ _ (.inl rfl) e,c⟩
 | ins C N G=>
  obtain⟨d,z,L,e,A,⟨B,j,i,F,c⟩,r⟩:=x;exact⟨I _ d,z,L,k _ _ (.inl rfl) e,A,⟨B,j,i,k _ _ (.inr d) F,c⟩,r⟩
 | own y=>obtain⟨g,e⟩:=x;exact⟨g,k _ _ (.inl rfl) e⟩
 | xd G=>obtain⟨A,⟨B,j,i,e,c⟩,r⟩:=x;exact⟨A,⟨B,j,i,k _ _ (.inl rfl) e,c⟩,r⟩
 | rng Q O=>obtain⟨t,u,v,e⟩:=x;exact⟨t,u,v,k _ _ (.inl rfl) e⟩
 | frz g u K=>obtain⟨e,q⟩:=x;exact⟨k _ _ (.inl rfl) e,K q⟩
 | tbl D=>
  have e:h.get? a=some { cls:=.none,data:=.fields D }:=x;show h'.get? a=some { cls:=.none,data:=.fields D };exact k a _ (.inl rfl) e
 | met f y=>
  have e:h.get? a=some (sQ (.ref f) (.ref y)):=x;show h'.get? a=some (sQ (.ref f) (.ref y));exact k a _ (.inl rfl) e
 | ext R=>obtain⟨p,⟨o,e⟩,E⟩:=x;exact⟨E _ _ p λo q=>k _ _ (.inl rfl) q,⟨o,k _ _ (.inl rfl) e⟩,E⟩
def YW.lt(x:YW P w H h)(e:H a=some o):a<h.objs.size:=(x a o e).lt
def YW.fresh(x:YW P w H h)(e:h.objs.size<=a):H a=none:=by
 cases q:H a with
 | none=>rfl
 | some u=>exact absurd (yL (x.lt q) e) (xE _)
def YW.kept(x:YW P w H h)(k:∀ b u,h.get? b=some u->h'.get? b=some u):YW P w H h':=λa o e=>
 (x a o e).stay (λb u _ q=>k b u q) (λ_ q=>q) λ_ _ q=>q
def YW.laid(x:YW P w H h)(k:∀ b u,h.get? b=some u->h'.get? b=some u)(i:h.objs.size<=a)(d:Zd P w (upd H a o) h' a o):YW P w (upd H a o) h':=λb u e=>by
 have g:=x.fresh i;by_cases f:b=a
 ·subst f;rw[ZR] at e;cases e;exact d
 ·rw[ZO f] at e;exact(x b u e).stay (λc v _ q=>k c v q) (λc q=>by rw[ZO (Zb q g)];exact q) λc j q=>by rw[ZO (Zb q g)];exact q
end
def Rd(H:Hp)(a:aj)(u:HO):Prop:=H a=some u\/∃ o,H a=some (.frz o u)
def Rd.ok{P:am}{w:aw}{H:Hp}{h:aD}{a:aj}{u:HO}(r:Rd H a u)(x:YW P w H h):Zd P w H h a u:=by
 rcases r with r | ⟨o,r⟩
 ·exact x a u r
 ·obtain⟨_,q⟩:=x a _ r;exact q
def Ng:Option HO->Prop
 | some (.lst _)=>True
 | some (.dK _)=>True
 | some (.dT _)=>True
 | some (.set _ _)=>True
 | some (.ins _ _ _)=>True
 | some (.ext _)=>True
 | _=>False
section
variable{P:am}{w:aw}{H:Hp}{h h':aD}{x e:aj}{o':HO}
def YW.write(t:YW P w H h)(j:Ng (H x))(o:e=x\/H e=some (.own x))(k:∀ b u,b≠e->h.get? b=some u->h'.get? b=some u)(m:∃ u,h'.get? e=some u)(n:Zd P w (upd H x o') h' x o'):YW P w (upd H x o') h':=λb u q=>by
 have d:∀ c y,H c=some (.own y)->c≠x:=λc y r z=>by subst z;rw[r] at j;exact j
 have f:∀ c l,H c=some (.tup l)->c≠x:=λc l r z=>by subst z;rw[r] at j;exact j
 by_cases g:b=x
 ·subst g;rw[ZR] at q;cases q;exact n
 ·rw[ZO g] at q;by_cases a:b=e
  ·have p:H b=some (.own x):=by
    rcases o with z | z
    ·exact absurd (a.trans z) g
    ·rw[a];exact z
   rw[q] at p;cases p;obtain⟨v,s⟩:=m;exact⟨v,by rw[a];exact s⟩
  ·refine(t b u q).stay (λc v i r=>k c v ?_ r) (λc r=>by rw[ZO (d c b r)];exact r) λc l r=>by rw[ZO (f c l r)];exact r
   rcases i with rfl | i
   ·exact a
   ·rintro rfl;rcases o with z | z
    ·exact d c b i z
    ·rw[i] at z;cases z;exact g rfl
end
structure Un(fs ex:jw)(H H':Hp)(h h':aD):Prop where
 keep:∀ b o,h.get? b=some o->H b=none->b∉fs->b∉ex->h'.get? b=some o
 slot:∀ b o,h.get? b=some o->H b=none->b∈fs->b∉ex->∃ sl,h'.get? b=some { o with slots:=sl }
 free:∀ b o,h.get? b=some o->H b=none->b∉ex->H' b=none
 there:∀ b o,h.get? b=some o->b∉ex->∃ o',h'.get? b=some o'
 tups:∀ b xs,H b=some (.tup xs)->H' b=some (.tup xs)
 frzs:∀ b o u,H b=some (.frz o u)->H' b=some (.frz o u)
 tbls:∀ b ps,H b=some (.tbl ps)->∃ more,H' b=some (.tbl (ps++more))
section
variable{fs fs' ex ex':jw}{H H1 H2:Hp}{h h1 h2 h':aD}{a x e:aj}{o:HO}
def Un.any(u:Un fs ex H H1 h h1){b:aj}{c:aJ}(q:h.get? b=some c)(n:H b=none)(f:b∉ex):∃ g,h1.get? b=some { c with slots:=g }:=by
 by_cases d:b∈fs
 ·exact u.slot b c q n d f
 ·exact⟨c.slots,u.keep b c q n d f⟩
def Un.kept(k:∀ b u,h.get? b=some u->h'.get? b=some u):Un fs ex H H h h':=
 ⟨λb c q _ _ _=>k b c q,λb c q _ _ _=>⟨c.slots,k b c q⟩,λ_ _ _ n _=>n,λb c q _=>⟨c,k b c q⟩,λ_ _ q=>q,λ_ _ _ q=>q,λ_ d q=>⟨#[],by rw[q];simp⟩⟩
def Un.refl:Un fs ex H H h h:=Un.kept λ_ _ q=>q
def Un.laid(k:∀ b u,h.get? b=some u->h'.get? b=some u)(d:h.objs.size<=a)(c:H a=none):Un fs ex H (upd H a o) h h' where
 keep:=λb u q _ _ _=>k b u q
 slot:=λb u q _ _ _=>⟨u.slots,k b u q⟩
 free:=λb u q n _=>by rw[ZO (zL (yL (zU q) d))];exact n
 there:=λb u q _=>⟨u,k b u q⟩
 tups:=λb f q=>by rw[ZO (Zb q c)];exact q
 frzs:=λb u f q=>by rw[ZO (Zb q c)];exact q
 tbls:=λb g q=>⟨#[],by rw[ZO (Zb q c),q];simp⟩
def Un.write(d:Ng (H x))(l:e=x\/H e=some (.own x))(k:∀ b u,b≠e->h.get? b=some u->h'.get? b=some u)(f:∃ u,h'.get? e=some u):Un fs ex H (upd H x o) h h':=by
 have j:∀ b,H b=none->b≠x:=λb n z=>by subst z;rw[n] at d;exact d
 have i:∀ b,H b=none->b≠e:=λb n z=>by
  subst z;rcases l with r | r
  ·exact j b n r
  ·rw[n] at r;cases r
 have g:∀ b u,H b=some u->¬ Ng (some u)->b≠x:=λb u q m z=>by subst z;rw[q] at d;exact m d
 refine⟨λb u q n _ _=>k b u (i b n) q,λb u q n _ _=>⟨u.slots,k b u (i b n) q⟩,λb u q n _=>by rw[ZO (j b n)];exact n,λb u q _=>?_,
  λb p q=>by rw[ZO (g b _ q λz=>z)];exact q,λb u p q=>by rw[ZO (g b _ q λz=>z)];exact q,λb s q=>⟨#[],by rw[ZO (g b _ q λz=>z),q];simp⟩⟩
 by_cases c:b=e
 ·subst c;exact f
 ·exact⟨u,k b u c q⟩
end
def Ls(h:aD)(H:Hp):List Addr:=(zQ h.objs.size).filter λa=>(H a).isSome
def V4(h:aD)(H:Hp):Heap:=xQ h (Ls h H)
def Fe(h:aD)(H:Hp):(V4 h H).objs.size=h.objs.size:=PySem.W.hideAll_size _ _
def GM{h:aD}{H:Hp}{b:aj}{o:aJ}(e:h.get? b=some o)(n:H b=none):(V4 h H).get? b=some o:=
 uE _ e λa=>by
  have q:(H b).isSome=true:=(xM.mp a).2;rw[n] at q;simp at q
def Gx{h:aD}{H:Hp}{b:aj}{o:aJ}(e:(V4 h H).get? b=some o):h.get? b=some o/\H b=none:=by
 have a:h.get? b=some o:=vV (Ls h H) e;exists a
 cases q:H b with
 | none=>rfl
 | some x=>
  have c:b∈Ls h H:=xM.mpr ⟨xX.mpr (zU a),by simp[q]⟩
  have z:(V4 h H).get? b=none:=tW (Ls h H) c;rw[z] at e;cases e
def ZMe(g h:aD)(L:aj):jv:=(zQ h.objs.size).filterMap λa=>if a=L\/(g.get? a).isSome=true then none else (h.get? a).map λo=>(a,o)
def rest(g h:aD)(L d:aj):jv:=(ZMe g h L).filter λp=>decide (p.1≠d)
structure Mod(K:zZ)(mg:jc)(ki:aD):Prop where
 kin:K.In ki
 glob:ki.Ns ap mg
 blt:∃ mb,ki.Ns builtinsNs mb/\∀ x:Str,x ≠ "__name__"->mb x=ay x
 nolimit:ki.NoLimit
structure Cx where
 prog:am
 w:aw
 K:zZ
 mg:jc
 base:aD
 A:ax
 N:ju
 s₀:al
 H₀:Hp
 env:Env
 outer:jB
 stack:jB
 ex:jw
 fn:Str->Bool
 calm:Bool
 pn:jv
 xe:ja
def frs(l:jB):List Addr:=l.filterMap (·.frame)
abbrev Cx.fs(X:Cx):List Addr:=frs X.outer
def Lf(a:aE)(x:Str):Prop:=a.names.lookup x=some .local\/a.names.lookup x=some .cell\/a.names.lookup x=some .free
def NI(a:aE)(x:Str):Prop:=a.names.lookup x=some .local\/a.names.lookup x=some .cell
def Ce(a:Env)(h:aD)(m:jc)(x:Str)(u:ai):Prop:=
 (a.kindOf x=some .local/\m x=some u)\/((a.kindOf x=some .cell\/a.kindOf x=some .free)/\∃ c,a.cells.lookup x=some c/\h.IsCell c (some u))
structure Cx.Ok(X:Cx):Prop where
 mod:Mod X.K X.mg X.base
 kind:X.env.scope.kind=.function
 glob:X.env.globals=ap
 blt:X.env.builtins=builtinsNs
 above:X.s₀.heap.objs.size<=X.env.locals
 inj:∀ x y c,X.env.cells.lookup x=some c->X.env.cells.lookup y=some c->x=y
 has:∀ x,(X.env.kindOf x=some .cell\/X.env.kindOf x=some .free)->∃ c,X.env.cells.lookup x=some c
 cab:∀ x c,X.fn x=true->X.env.cells.lookup x=some c->X.s₀.heap.objs.size<=c
 hd:X.calm=true->X.A.handled=none
 frames:X.A.frames=some X.stack
 stk:X.stack=X.outer\/(X.stack=X.env::X.outer/\X.env.frame=some X.env.locals)
 exf:∀ b∈X.ex,b≠X.env.locals/\∀ x c,X.env.cells.lookup x=some c->c≠b
 bs:∀ b o,X.base.get? b=some o->X.s₀.heap.get? b=some o/\X.H₀ b=none
 bsz:X.base.objs.size<=X.s₀.heap.objs.size
 noex:∀ b o,X.base.get? b=some o->b∉X.ex
 exfs:∀ b∈X.ex,b∉X.fs
 funs:X.s₀.heap.FunFrames X.base X.outer
 frf:∀ b∈X.fs,X.H₀ b=none
structure ZE(X:Cx)(kh:jv)(σ:List (jg))(H:Hp)(s:al):Prop where
 ok:X.Ok
 os:s.os=X.s₀.os
 bare:AllBare s.gens
 base:Un X.fs X.ex X.H₀ H X.s₀.heap s.heap
 loc:∃ m,s.heap.Ns X.env.locals m/\∀(i:Nat)(x:Str)(v:V),X.N[i]? = some x->σ[i]? = some (some v)->Lf X.env.scope x->∃ u,ZW v u/\Ce X.env s.heap m x u
 cell:∀ x c,X.env.cells.lookup x=some c->∃ v,s.heap.IsCell c v
 free:H X.env.locals=none
 freeC:∀ x c,X.env.cells.lookup x=some c->H c=none
 pin:∀ p∈X.pn++kh,s.heap.get? p.1=some p.2/\H p.1=none/\p.1≠X.env.locals/\p.1∉X.fs/\∀ v,p.2.data≠.cell v
 hok:YW X.prog X.w H s.heap
 len:σ.length=X.N.length
section
variable{X:Cx}{kh:jv}{σ:List (jg)}{H H':Hp}{s:al}{h':aD}
def Cx.Ok.nofr(c:X.Ok){b:aj}{o:aJ}(e:X.base.get? b=some o):b∉X.fs:=λa=>by
 have:=(c.funs.mem a).1;rw[e] at this;cases this
def ZE.bs(I:ZE X kh σ H s):∀ b o,X.base.get? b=some o->s.heap.get? b=some o/\H b=none:=λb o e=>
 ⟨I.base.keep b o (I.ok.bs b o e).1 (I.ok.bs b o e).2 (I.ok.nofr e) (I.ok.noex b o e),I.base.free b o (I.ok.bs b o e).1 (I.ok.bs b o e).2 (I.ok.noex b o e)⟩
def ZE.bk(I:ZE X kh σ H s):∀ b o,X.base.get? b=some o->s.heap.get? b=some o:=λb o e=>(I.bs b o e).1
def ZE.mod(I:ZE X kh σ H s):Mod X.K X.mg X.base:=I.ok.mod
def ZE.kIn(I:ZE X kh σ H s):X.K.In s.heap:=I.ok.mod.kin.keeps I.bk
def ZE.lt(I:ZE X kh σ H s):X.env.locals<s.heap.objs.size:=let ⟨_,hn,_⟩:=I.loc;hn.lt
def ZE.sz(I:ZE X kh σ H s):X.s₀.heap.objs.size<=s.heap.objs.size:=zD I.ok.above (yE I.lt)
def ZE.nofs(I:ZE X kh σ H s){a:aj}(h:s.heap.objs.size<=a):a∉X.fs:=λb=>by
 obtain⟨_,o,c,_⟩:=I.ok.funs.mem b;exact absurd (yL (zU c) (zD I.sz h)) (xE _)
def ZE.cne(I:ZE X kh σ H s):∀ x c,X.env.cells.lookup x=some c->c≠X.env.locals:=λx c e z=>by
 obtain⟨v,o,f,d⟩:=I.cell x c e;obtain⟨m,⟨i,h,g,b,a,_⟩,_⟩:=I.loc;rw[z,b] at f;cases f;rw[a] at d;cases d
def ZE.funs(I:ZE X kh σ H s):s.heap.FunFrames X.base X.outer:=by
 have a:∀(l:jB),(∀ b∈frs l,b∈X.fs)->X.s₀.heap.FunFrames X.base l->s.heap.FunFrames X.base l:=by
  intro l
  induction l with
  | nil=>intro _ _;trivial
  | cons h r q=>
   intro g k;obtain⟨j,⟨L,o,f,m,n,i⟩,p⟩:=k;have c:L∈X.fs:=g L (by unfold frs;rw[uK,f];exact zM)
   obtain⟨t,e⟩:=I.base.slot L o n (I.ok.frf L c) c λz=>I.ok.exfs L z c;exact⟨j,⟨L,_,f,m,e,i⟩,q (λb d=>g b (by unfold frs;rw[uK,f];exact zH _ d)) p⟩
 exact a X.outer (λ_ d=>d) I.ok.funs
def ZE.stack(I:ZE X kh σ H s):s.heap.FunFrames X.base X.stack:=by
 rcases I.ok.stk with e | ⟨e,a⟩
 ·rw[e];exact I.funs
 ·rw[e];obtain⟨m,b,_⟩:=I.loc;refine .cons (by rw[I.ok.kind];decide) a b ?_ I.funs
  exact uG (zD I.ok.bsz I.ok.above)
def ZE.stkSub(I:ZE X kh σ H s):∀ b∈frs X.stack,b∈X.env.locals::X.fs:=λb a=>by
 rcases I.ok.stk with e | ⟨e,c⟩
 ·rw[e] at a;exact zH _ a
 ·rw[e] at a;unfold frs at a;rw[uK,c] at a;exact a
def ZE.stkFree(I:ZE X kh σ H s):∀ b∈frs X.stack,H b=none:=λb a=>by
 rcases zG.mp (I.stkSub b a) with e | a
 ·rw[e];exact I.free
 ·obtain⟨_,o,c,_⟩:=I.ok.funs.mem a;exact I.base.free b o c (I.ok.frf b a) λz=>I.ok.exfs b z a
def ZE.step{g':Array GenState}{t':Nat}{d':Drawn}{ch:jw}(I:ZE X kh σ H s)(h:∀ b∈ch,(b∈X.ex\/X.s₀.heap.objs.size<=b)/\b≠X.env.locals/\(∀ x c,X.env.cells.lookup x=some c->c≠b)/\∀ p∈X.pn++kh,p.1≠b)(j:∀ b o,b≠X.env.locals->b∉X.fs->b∉ch->s.heap.get? b=some o->H b=none->h'.get? b=some o)(B:∀ b o,b≠X.env.locals->b∈X.fs->b∉ch->s.heap.get? b=some o->H b=none->∃ S,h'.get? b=some { o with slots:=S })(f:∀ b o,b∉ch->s.heap.get? b=some o->H b=none->H' b=none)(E:∀ b o,b∉ch->s.heap.get? b=some o->∃ M,h'.get? b=some M)(O:∀ b C,H b=some (.tup C)->H' b=some (.tup C))(J:∀ b o u,H b=some (.frz o u)->H' b=some (.frz o u))(N:∀ b P,H b=some (.tbl P)->∃ K,H' b=some (.tbl (P++K)))(ns:∀ m,s.heap.Ns X.env.locals m->h'.Ns X.env.locals m)(R:YW X.prog X.w H' h')(hg:AllBare g'):
  ZE X kh σ H' { s with heap:=h',gens:=g',drawn:=d',toks:=t' }:=by
 have L:∀ b o,X.s₀.heap.get? b=some o->b≠X.env.locals:=λb o e=>zL (yL (zU e) I.ok.above);have A:∀ b o,X.s₀.heap.get? b=some o->b∉X.ex->b∉ch:=λb o e a D=>by
  rcases(h b D).1 with z | z
  ·exact a z
  ·exact absurd (yL (zU e) z) (xE _)
 have g:∀ x c,X.env.cells.lookup x=some c->∀ v,s.heap.IsCell c v->h'.IsCell c v:=λx c e v ⟨o,F,Q⟩=>by
  have t:c∉ch:=λz=>(h c z).2.2.1 x c e rfl;by_cases U:c∈X.fs
  ·obtain⟨S,q⟩:=B c o (I.cne x c e) U t F (I.freeC x c e);exact⟨_,q,Q⟩
  ·exact⟨o,j c o (I.cne x c e) U t F (I.freeC x c e),Q⟩
 refine⟨I.ok,I.os,hg,⟨λb o e n D a=>?_,λb o e n D a=>?_,λb o e n a=>?_,λb o e a=>?_,λb C e=>O b C (I.base.tups b C e),λb o C e=>J b o C (I.base.frzs b o C e),λb P e=>?_⟩,?_,λx c e=>?_,?_,λx c e=>?_,λp V=>?_,R,I.len⟩
 ·exact j b o (L b o e) D (A b o e a) (I.base.keep b o e n D a) (I.base.free b o e n a)
 ·obtain⟨S,y⟩:=I.base.slot b o e n D a;obtain⟨T,G⟩:=B b _ (L b o e) D (A b o e a) y (I.base.free b o e n a);exact⟨T,G⟩
 ·obtain⟨M,y⟩:=I.base.there b o e a;exact f b M (A b o e a) y (I.base.free b o e n a)
 ·obtain⟨M,y⟩:=I.base.there b o e a;exact E b M (A b o e a) y
 ·obtain⟨m1,y⟩:=I.base.tbls b P e;obtain⟨m2,G⟩:=N b _ y;exact⟨m1++m2,by rw[G,vI]⟩
 ·obtain⟨m,hn,hl⟩:=I.loc;exists m,ns m hn;intro i x v y G Z;obtain⟨u,r,l⟩:=hl i x v y G Z;exists u,r;rcases l with l | ⟨k,c,e,z⟩
  ·exact .inl l
  ·exact .inr ⟨k,c,e,g x c e _ z⟩
 ·obtain⟨v,z⟩:=I.cell x c e;exact⟨v,g x c e v z⟩
 ·obtain⟨m,⟨o,_,_,F,_⟩,_⟩:=I.loc;exact f _ o (λz=>(h _ z).2.1 rfl) F I.free
 ·obtain⟨v,o,F,Q⟩:=I.cell x c e;exact f c o (λz=>(h c z).2.2.1 x c e rfl) F (I.freeC x c e)
 ·obtain⟨e,n,W,Y,d⟩:=I.pin p V;have t:p.1∉ch:=λz=>(h p.1 z).2.2.2 p V rfl;exact⟨j p.1 p.2 W Y t e n,f p.1 p.2 t e n,W,Y,d⟩
def ZE.un{t':Nat}(I:ZE X kh σ H s)(u:Un X.fs [] H H' s.heap h')(g:YW X.prog X.w H' h'):ZE X kh σ H' { s with heap:=h',toks:=t' }:=by
 obtain⟨m,⟨o,p,l,h,r⟩,_⟩:=id I.loc;obtain⟨v,i⟩:=u.any h I.free (by simp)
 exact I.step (g':=s.gens) (d':=s.drawn) (ch:=[]) (λ_ z=>nomatch z) (λb o _ f _ e n=>u.keep b o e n f (by simp)) (λb o _ f _ e n=>u.slot b o e n f (by simp)) (λb o _ e n=>u.free b o e n (by simp)) (λb o _ e=>u.there b o e (by simp)) u.tups u.frzs u.tbls (λq j=>by
  obtain⟨t,d,c,a,k⟩:=j;rw[h] at a;cases a;exact⟨_,d,c,i,k⟩) g I.bare
def ZE.call{g':Array GenState}{t':Nat}{d':Drawn}{ch:jw}(I:ZE X kh σ H s)(u:Un (frs X.stack) ch H H' s.heap h')(j:YW X.prog X.w H' h')(q:AllBare g')(d:∀ b∈ch,(b∈X.ex\/X.s₀.heap.objs.size<=b)/\b≠X.env.locals/\(∀ x c,X.env.cells.lookup x=some c->c≠b)/\∀ p∈X.pn++kh,p.1≠b):
  ZE X kh σ H' { s with heap:=h',gens:=g',drawn:=d',toks:=t' }:=by
 obtain⟨m,⟨o,A,y,k,r⟩,_⟩:=id I.loc;obtain⟨D,i⟩:=u.any k I.free λz=>(d _ z).2.1 rfl;exact I.step (ch:=ch) d (λb o i l a e n=>u.keep b o e n (λz=>(zG.mp (I.stkSub b z)).elim i l) a) (λb o _ _ a e n=>u.any e n a) (λb o a e n=>u.free b o e n a) (λb o a e=>u.there b o e a) u.tups u.frzs u.tbls (λB t=>by
  obtain⟨C,h,g,f,v⟩:=t;rw[k] at f;cases f;exact⟨_,h,g,i,v⟩) j q
def ZE.turned{t':Nat}{it:aj}(I:ZE X kh σ H s)(k:∀ b o,b≠it->s.heap.get? b=some o->h'.get? b=some o)(y:H it=none)(f:it≠X.env.locals)(i:it∈X.ex\/X.s₀.heap.objs.size<=it)(j:∀ x c,X.env.cells.lookup x=some c->c≠it)(l:∀ p∈X.pn++kh,p.1≠it):ZE X kh σ H { s with heap:=h',toks:=t' }:=by
 have d:∀ b u,H b=some u->b≠it:=λb u e z=>by rw[z,y] at e;cases e
 refine I.step (g':=s.gens) (d':=s.drawn) (ch:=[it]) (λb t=>?_) (λb o _ _ a e _=>k b o (λz=>a (by simp[z])) e) (λb o _ _ a e _=>⟨o.slots,k b o (λz=>a (by simp[z])) e⟩) (λ_ _ _ _ n=>n)
  (λb o a e=>⟨o,k b o (λz=>a (by simp[z])) e⟩) (λ_ _ e=>e) (λ_ _ _ e=>e) (λb B e=>⟨#[],by rw[e];simp⟩) (λm w=>?_) (λb u e=>?_) I.bare
 ·have e:b=it:=by simpa using t
  subst e;exact⟨i,f,j,l⟩
 ·obtain⟨o,h,g,A,r⟩:=w;exact⟨o,h,g,k _ o (Ne.symm f) A,r⟩
 ·refine(I.hok b u e).stay (λc v a q=>k c v ?_ q) (λ_ q=>q) λ_ _ q=>q;rcases a with z | z
  ·rw[z];exact d b u e
  ·exact d c _ z
def ZE.tok(I:ZE X kh σ H s)(t:Nat):ZE X kh σ H { s with toks:=t }:=I.un (h':=s.heap) (t':=t) Un.refl I.hok
def ZE.kept{t':Nat}(I:ZE X kh σ H s)(k:∀ b u,s.heap.get? b=some u->h'.get? b=some u):ZE X kh σ H { s with heap:=h',toks:=t' }:=I.un (Un.kept k) (I.hok.kept k)
def ZE.laid{a:aj}{o:HO}{t':Nat}(I:ZE X kh σ H s)(k:∀ b u,s.heap.get? b=some u->h'.get? b=some u)(c:s.heap.objs.size<=a)(d:Zd X.prog X.w (upd H a o) h' a o):
  ZE X kh σ (upd H a o) { s with heap:=h',toks:=t' }:=I.un (Un.laid k c (I.hok.fresh c)) (I.hok.laid k c d)
def ZE.write{x e:aj}{o:HO}{g:Nat}(I:ZE X kh σ H s)(f:Ng (H x))(d:e=x\/H e=some (.own x))(k:∀ b u,b≠e->s.heap.get? b=some u->h'.get? b=some u)(a:∃ u,h'.get? e=some u)(c:Zd X.prog X.w (upd H x o) h' x o):ZE X kh σ (upd H x o) { s with heap:=h',toks:=g }:=I.un (Un.write f d k a) (I.hok.write f d k a c)
def ZE.pins_of{a:jv}(I:ZE X kh σ H s)(h:∀ p∈a,s.heap.get? p.1=some p.2/\H p.1=none/\p.1≠X.env.locals/\p.1∉X.fs/\∀ v,p.2.data≠.cell v):ZE X a σ H s:=
 ⟨I.ok,I.os,I.bare,I.base,I.loc,I.cell,I.free,I.freeC,λp b=>(yM.mp b).elim (λz=>I.pin p (wO _ z)) (h p),I.hok,I.len⟩
def JR{N:ju}(e:N.Nodup){i j:Nat}{x:Str}(a:N[i]? = some x)(b:N[j]? = some x):i=j:=by
 obtain⟨f,c⟩:=yN.mp a;obtain⟨g,d⟩:=yN.mp b;exact(List.getElem_inj e).mp (c.trans d.symm)
def EF{M:Model}{A:ax}{E:ja}{i:Nat}{x:Str}{v:V}{u:ai}{Q:Unit->al->Prop}(I:ZE X kh σ H s)(hN:X.N.Nodup)(T:X.N[i]? = some x)(B:NI X.env.scope x)(r:ZW v u)(h:∀ s',ZE X kh (σ.set i (some v)) H s'->(∃ a,wK a s.heap s'.heap/\(a=X.env.locals\/X.env.cells.lookup x=some a))->Q () s')(hf:X.fn x=true\/X.env.scope.names.lookup x=some .local:=by first | exact .inl rfl | exact .inr rfl | assumption):aB M A (storeName X.env x u) Q E s:=by
 obtain⟨m,hn,hl⟩:=id I.loc;have S:(X.env.scope.kind==.class || (X.env.scope.kind==.module&&X.env.locals != X.env.globals))=false:=by rw[I.ok.kind];rfl
 have F:i<σ.length:=by rw[I.len];exact(yN.mp T).1
 have J:=I.cne;have l:∀{a:aj}{h':aD},(∃ o,s.heap.get? a=some o/\H a=none)->wK a s.heap h'->YW X.prog X.w H h':=fun{a h'} ha f b ob e=>by
  obtain⟨_,_,C⟩:=ha;refine(I.hok b ob e).stay (λc w' t q=>(f.2 c ?_).trans q) (λ_ q=>q) λ_ _ q=>q;rintro rfl;rcases t with rfl | t
  ·rw[C] at e;cases e
  ·rw[C] at t;cases t
 rcases B with G | G
 ·refine wpAny_storeName_local G hn (λh' a0 f=>?_) S;obtain⟨oL,_,_,a1,_⟩:=id hn;refine h _ ⟨I.ok,I.os,I.bare,⟨λb o e n K B=>?_,λb o e n K B=>?_,I.base.free,λb o e B=>?_,I.base.tups,I.base.frzs,I.base.tbls⟩,⟨_,a0,λj y v' g D e3=>?_⟩,λy c e=>?_,I.free,I.freeC,λp hp=>?_,l ⟨oL,a1,I.free⟩ f,by simpa using I.len⟩ ⟨_,f,.inl rfl⟩
  ·exact(f.2 b (zL (yL (zU e) I.ok.above))).trans (I.base.keep b o e n K B)
  ·obtain⟨sl,g⟩:=I.base.slot b o e n K B;exact⟨sl,(f.2 b (zL (yL (zU e) I.ok.above))).trans g⟩
  ·obtain⟨o',g⟩:=I.base.there b o e B;exact⟨o',(f.2 b (zL (yL (zU e) I.ok.above))).trans g⟩
  ·by_cases O:j=i
   ·subst O;rw[T] at g;cases g;rw[vD F] at D;cases D;exact⟨u,r,.inl ⟨G,by simp⟩⟩
   ·rw[vT (Ne.symm O)] at D;obtain⟨u',r',q⟩:=hl j y v' g D e3;exists u',r';rcases q with ⟨k,e⟩ | ⟨k,c,e,z⟩
    ·refine .inl ⟨k,?_⟩;have:y≠x:=λe=>O (JR hN g (e ▸ T));simp[this,e]
    ·exact .inr ⟨k,c,e,z.sameBut f (J y c e)⟩
  ·obtain⟨w',z⟩:=I.cell y c e;exact⟨w',z.sameBut f (J y c e)⟩
  ·obtain⟨e,n,Z,nf,d⟩:=I.pin p hp;exact⟨(f.2 p.1 Z).trans e,n,Z,nf,d⟩
 ·have L:X.fn x=true:=by
   rcases hf with z | z
   ·exact z
   ·rw[z] at G;cases G
  obtain⟨c,t⟩:=I.ok.has x (.inl G);obtain⟨w',z⟩:=I.cell x c t;refine wpAny_storeName_cell I.ok.kind G t z (λh' P f=>?_);obtain⟨oc,U,W⟩:=id z;refine h { s with heap:=h' } ⟨I.ok,I.os,I.bare,⟨λb o e n K B=>?_,λb o e n K B=>?_,I.base.free,λb o e B=>?_,I.base.tups,I.base.frzs,I.base.tbls⟩,⟨m,hn.sameBut f (Ne.symm (J x c t)),λj y v' g D e3=>?_⟩,λy Y e=>?_,I.free,I.freeC,λp hp=>?_,l ⟨oc,U,I.freeC x c t⟩ f,by simpa using I.len⟩ ⟨c,f,.inr t⟩
  ·exact(f.2 b (zL (yL (zU e) (I.ok.cab x c L t)))).trans (I.base.keep b o e n K B)
  ·obtain⟨sl,g⟩:=I.base.slot b o e n K B;exact⟨sl,(f.2 b (zL (yL (zU e) (I.ok.cab x c L t)))).trans g⟩
  ·obtain⟨o',g⟩:=I.base.there b o e B;exact⟨o',(f.2 b (zL (yL (zU e) (I.ok.cab x c L t)))).trans g⟩
  ·by_cases O:j=i
   ·subst O;rw[T] at g;cases g;rw[vD F] at D;cases D;exact⟨u,r,.inr ⟨.inl G,c,t,P⟩⟩
   ·rw[vT (Ne.symm O)] at D;obtain⟨u',r',q⟩:=hl j y v' g D e3;exists u',r';rcases q with q | ⟨k,Y,e,z'⟩
    ·exact .inl q
    ·refine .inr ⟨k,Y,e,z'.sameBut f ?_⟩;rintro rfl;exact O (JR hN g (I.ok.inj _ _ _ e t ▸ T))
  ·by_cases R:Y=c
   ·subst R;exact⟨_,P⟩
   ·obtain⟨w2,z2⟩:=I.cell y Y e;exact⟨w2,z2.sameBut f R⟩
  ·obtain⟨e,n,Z,nf,d⟩:=I.pin p hp;refine⟨(f.2 p.1 ?_).trans e,n,Z,nf,d⟩;intro q;rw[q,U] at e;have q':oc=p.2:=zJ.inj e;exact d w' (by rw[<-q'];exact W)
def Nx{M:Model}{A:ax}{E:ja}{i:Nat}{x:Str}{v:V}{u:ai}{Q:Unit->al->Prop}(I:ZE X kh σ H s)(c:X.N.Nodup)(e:X.N[i]? = some x)(f:NI X.env.scope x)(r:ZW v u)(h:∀ a,ZE X kh (σ.set i (some v)) H a->Q () a)(d:X.fn x=true\/X.env.scope.names.lookup x=some .local:=by first | exact .inl rfl | exact .inr rfl | assumption):aB M A (storeName X.env x u) Q E s:=
 EF I c e f r (λa b _=>h a b) d
def ZE.call'{s':al}{ch:jw}(I:ZE X kh σ H s)(i:s'.os=s.os)(u:Un (frs X.stack) ch H H' s.heap s'.heap)(d:YW X.prog X.w H' s'.heap)(h:AllBare s'.gens)(a:∀ b∈ch,(b∈X.ex\/X.s₀.heap.objs.size<=b)/\b≠X.env.locals/\(∀ x c,X.env.cells.lookup x=some c->c≠b)/\∀ p∈X.pn++kh,p.1≠b):ZE X kh σ H' s':=by
 obtain⟨h',g,f,k,j⟩:=s';have e:j=s.os:=i;subst e;exact I.call (g':=g) (t':=k) (d':=f) u d h a
end
abbrev XK:=ai->jz->Hp->Prop
abbrev St:=List (jg)
abbrev VK:=V->Hp->Prop
abbrev TE:=St->Hp->VK->Prop
abbrev jU:=List (TE×TE)
abbrev TT:=St->Hp->(Bool->Hp->Prop)->Prop
abbrev TA:=St->Hp->(jf->Hp->Prop)->Prop
structure Yq where
 nx:St->Hp->Prop
 rt:VK
 bk:St->Hp->Prop:=λ_ _=>False
 ct:St->Hp->Prop:=λ_ _=>False
abbrev TS:=Yq->St->Hp->Prop
def EP(X:Cx)(a:jv)(d:St)(Q:VK)(u:ai)(c:al):Prop:=∃ v b,ZE X a d b c/\ZW v u/\Q v b
def TP(X:Cx)(a:jv)(e:St)(Q:Bool->Hp->Prop)(b:Bool)(d:al):Prop:=∃ c,ZE X a e c d/\Q b c
def AP(X:Cx)(a:jv)(f:St)(Q:jf->Hp->Prop)(e:je)(d:al):Prop:=∃ c b,ZE X a f b d/\ZT c e/\Q c b
def SP(X:Cx)(b:jv)(D:Yq)(f:Flow)(d:al):Prop:=
 match f with
 | .next=>∃ a c,ZE X b a c d/\D.nx a c
 | .brk=>∃ a c,ZE X b a c d/\D.bk a c
 | .cont=>∃ a c,ZE X b a c d/\D.ct a c
 | .ret u=>∃ v a c,ZE X b a c d/\ZW v u/\D.rt v c
def PE(X:Cx)(e:Expr)(t:TE):Prop:=
 ∀(a:jv)(s:al)(b:St)(H:Hp)(Q:VK),ZE X a b H s->t b H Q->aB (aA X.prog X.w) X.A (aI e X.env) (EP X a b Q) X.xe s
def PT(X:Cx)(e:Expr)(t:TT):Prop:=
 ∀(a:jv)(s:al)(b:St)(H:Hp)(Q:Bool->Hp->Prop),ZE X a b H s->t b H Q->aB (aA X.prog X.w) X.A (isTrue e X.env (aI e X.env)) (TP X a b Q) X.xe s
def PW(X:Cx)(e:Expr)(t:TT):Prop:=
 ∀(b:Sem ai)(a:jv)(s:al)(c:St)(H:Hp)(Q:Bool->Hp->Prop),ZE X a c H s->t c H Q->aB (aA X.prog X.w) X.A (isTrue e X.env b) (TP X a c Q) X.xe s
def PW.pt{X:Cx}{e:Expr}{t:TT}(h:PW X e t):PT X e t:=h _
def PA(X:Cx)(d:jA)(t:TA):Prop:=
 ∀(b:aK)(a:jv)(s:al)(c:St)(H:Hp)(Q:jf->Hp->Prop),ZE X a c H s->t c H Q->aB (aA X.prog X.w) X.A (spliced (aG b (ar d X.env))) (AP X a c Q) X.xe s
def PS(X:Cx)(c:aC)(t:TS):Prop:=
 ∀(a:jv)(s:al)(b:St)(H:Hp)(D:Yq),ZE X a b H s->t D b H->aB (aA X.prog X.w) X.A (exec c X.env) (SP X a D) X.xe s
def Xz(X:Cx)(c:jO)(t:TS):Prop:=
 ∀(a:jv)(s:al)(b:St)(H:Hp)(D:Yq),ZE X a b H s->t D b H->aB (aA X.prog X.w) X.A (execs c X.env) (SP X a D) X.xe s
def Z3{c:Type}{t:Sem c}{Q b:c->al->Prop}{M:Model}{A:ax}{E:ja}{s:al}(h:aB M A t Q E s)(d:∀ a s,Q a s->b a s):aB M A t b E s:=ae h d λ_ _ x=>x
def YG{d g i:Type}{t:Sem d}{a b c:d->al->g->i->Prop}{e:d->al->Prop}{M:Model}{A:ax}{E:ja}{s:al}(h:aB M A t (λv s=>∃ x H,a v s x H/\b v s x H/\c v s x H) E s)(f:∀ v s x H,a v s x H->b v s x H->c v s x H->e v s):aB M A t e E s:=Z3 h (by rintro v s ⟨x,H,p,q,r⟩;exact f v s x H p q r)
variable{X:Cx}
section
inductive Uq(i:Nat)(a:L2.St)(H:Hp)(Q:VK):Prop
 |mk(v:_)(_:a[i]? = some (some v))(_:Q v H)
def tC(v:V):TE:=λ_ H Q=>Q v H
def EN{i:Nat}{x:Str}{k:aK}(o:X.N[i]? = some x)(w:Lf X.env.scope x)(j:(x==("__debug__" : Str))=false:=by decide)(g:(x==("__classdict__" : Str))=false:=by decide):PE X (.Name x k) (Uq i):=by
 intro f s y H Q I h;obtain⟨v,e,h⟩:=h;obtain⟨m,t,p⟩:=I.loc;obtain⟨u,r,l⟩:=p i x v o e w;have b:EP X f y Q u s:=⟨v,H,I,r,h⟩;rcases l with ⟨d,q⟩ | ⟨d,c,n,a⟩
 ·exact wpAny_Name (wpAny_loadName_local I.ok.kind d t q b) j
 ·rcases d with d | d
  ·exact wpAny_Name (wpAny_loadName_cell I.ok.kind d n a b) j
  ·exact wpAny_Name (wpAny_loadName_free I.ok.kind d n a b g) j
def ZN{i j a}:PE X (.Constant (.int i) j a) (tC (.int i)):=λ_ _ _ H _ I h=>wpAny_Constant_int ⟨.int i,H,I.tok _,⟨_,rfl⟩,h⟩
def Vz{b j a}:PE X (.Constant (.bool b) j a) (tC (.bl b)):=λ_ _ _ H _ I h=>Constant_bool ⟨.bl b,H,I,rfl,h⟩
def PY{j a}:PE X (.Constant .none j a) (tC .non):=λ_ _ _ H _ I h=>Constant_none ⟨.non,H,I,rfl,h⟩
def Ym{x j a}:PE X (.Constant (.str x) j a) (tC (.str x)):=λ_ _ _ H _ I h=>Calls.Constant_str ⟨.str x,H,I.tok _,⟨_,rfl⟩,h⟩
def Gl(X:Cx)(x:Str):Prop:=X.env.kindOf x=some .globalImplicit
def Qb{E:ja}{a:jv}{s:al}{f:St}{H:Hp}{x:Str}{u:ai}{b:aK}{Q:ja}(I:ZE X a f H s)(d:Gl X x)(e:X.mg x=some u)(h:Q u s)(c:(x==("__debug__" : Str))=false:=by decide):aB (aA X.prog X.w) X.A (aI (.Name x b) X.env) Q E s:=
 Calls.Name_function_global I.ok.kind d (Calls.loadGlobal_global (by rw[I.ok.glob];exact I.mod.glob.keeps I.bk) e h) c
def Px{E:ja}{a:jv}{s:al}{k:St}{H:Hp}{x:Str}{u:ai}{b:aK}{Q:ja}(I:ZE X a k H s)(f:Gl X x)(g:X.mg x=none)(j:ay x=some u)(h:Q u s)(i:x ≠ "__name__" :=by decide)(e:(x==("__debug__" : Str))=false:=by decide):aB (aA X.prog X.w) X.A (aI (.Name x b) X.env) Q E s:=by
 obtain⟨l,c,d⟩:=I.mod.blt;exact Calls.Name_function_global I.ok.kind f (Calls.loadGlobal_builtin (by rw[I.ok.glob];exact I.mod.glob.keeps I.bk) g (by rw[I.ok.blt];exact c.keeps I.bk) ((d x i).trans j) h) e
def Wj{x:Str}{v:V}{u:ai}{a:aK}(c:Gl X x)(d:X.mg x=some u)(r:ZW v u)(b:(x==("__debug__" : Str))=false:=by decide):PE X (.Name x a) (tC v):=
 λ_ _ _ H _ I h=>Qb I c d ⟨v,H,I,r,h⟩ b
def XQ{x:Str}{v:V}{u:ai}{a:aK}(c:Gl X x)(d:X.mg x=none)(f:ay x=some u)(r:ZW v u)(e:x ≠ "__name__" :=by decide)(b:(x==("__debug__" : Str))=false:=by decide):PE X (.Name x a) (tC v):=
 λ_ _ _ H _ I h=>Px I c d f ⟨v,H,I,r,h⟩ e b
variable{a b:Expr}{ta tb:TE}{pos:aK}
def PC(X:Cx)(g:CmpOp)(a b:Expr)(t:TE):Prop:=
 ∀(c:jv)(s:al)(f:St)(H:Hp)(Q:VK),ZE X c f H s->t f H Q ->
  aB (aA X.prog X.w) X.A (aI a X.env) (λv d=>aB (aA X.prog X.w) X.A (aI b X.env) (λu e=>aB (aA X.prog X.w) X.A (az g v u) (EP X c f Q) X.xe e) X.xe d) X.xe s
def HI(b:Expr){c:CmpOp}(h:c≠.In)(f:c≠.NotIn):behindInMarks c b=false:=by
 have d:(c==CmpOp.In)=false:=by cases c <;> first | rfl | exact absurd rfl h
 have e:(c==CmpOp.NotIn)=false:=by cases c <;> first | rfl | exact absurd rfl f
 cases b <;> simp[behindInMarks,d,e]
def C4(ta:TE):TE:=λd H Q=>ta d H λx c=>Q (.bl (decide (x=.non))) c
def Af(ta:TE):TE:=λd H Q=>ta d H λx c=>Q (.bl (!decide (x=.non))) c
def ZW.none_iff{x:V}{v:ai}(r:ZW x v):(v==Value.none)=decide (x=.non):=by
 cases x with
 | non=>cases r;rfl
 | bl _=>cases r;rfl
 | int _=>obtain⟨t,rfl⟩:=r;rfl
 | str _=>obtain⟨t,rfl⟩:=r;rfl
 | byt _=>obtain⟨t,rfl⟩:=r;rfl
 | flt _=>obtain⟨t,rfl⟩:=r;rfl
 | ref _=>cases r;rfl
 | ty _=>cases r;rfl
def OS{j d}(g:PE X a ta):PC X .Is a (.Constant .none j d) (C4 ta):=by
 intro c s l H Q I h;refine YG (g c s l H _ I h) λv m x e f k i=>?_;exact Constant_none (is_none_gen ⟨.bl _,e,f,by rw[k.none_iff];rfl,i⟩)
def MV{j d}(g:PE X a ta):PC X .IsNot a (.Constant .none j d) (Af ta):=by
 intro c s l H Q I h;refine YG (g c s l H _ I h) λv m x e f k i=>?_;exact Constant_none (isnot_none_gen ⟨.bl _,e,f,by rw[k.none_iff];rfl,i⟩)
inductive Bh(Q:Bool->Hp->Prop)(x:V)(d:Hp):Prop
 |mk(c:_)(_:x=.bl c)(_:Q c d)
def tB(t:TE):TT:=λd H Q=>t d H λx c=>Bh Q x c
def Gb{d:CmpOp}{t:TE}(h:PC X d a b t)(e:behindInMarks d b=false:=by first | exact HI _ (by decide) (by decide) | rfl):PE X (.Compare a [d] [b] pos) t:=λc s g H Q I f=>wpAny_Compare1 (h c s g H Q I f) e
def Uj{g:CmpOp}{t:TE}(h:PC X g a b t)(f:behindInMarks g b=false:=by first | exact HI _ (by decide) (by decide) | rfl):PT X (.Compare a [g] [b] pos) (tB t):=by
 intro e s o H Q I l;refine wpAny_isTrue_Compare1 (Z3 (h e s o H _ I l) λv p f=>Z3 f λu r k=>YG k λc w x i j n m=>?_) f;obtain⟨d,rfl,q⟩:=m;cases n;exact wpAny_truthy_bool ⟨i,j,q⟩
def Yf{e:Expr}{t:TE}(h:PE X e t)(j:∀ c,isTrue e X.env c=(do let v<-c;standAt e.pos;holding [v] (truthy v)):=by intro _;rfl):PT X e (tB t):=by
 intro f s n H Q I k;refine isTrue_plain (YG (h f s n H _ I k) λv o x g i m l=>?_) (j _);obtain⟨d,rfl,q⟩:=l;cases m;exact wpAny_truthy_bool ⟨g,i,q⟩
variable{tA tB':TT}{rest:jA}
def ZQl(t u:TT):TT:=λe H Q=>t e H λc d=>if c=true then u e d Q else Q false d
def tOr(t u:TT):TT:=λe H Q=>t e H λc d=>if c=true then Q true d else u e d Q
def ZQb(t:TT):TT:=λe H Q=>t e H λc d=>Q (!c) d
def Mc(f:PT X a tA):PW X (.BoolOp .And [a] pos) tA:=by
 intro j d s g H Q I h;refine isTrue_and (Z3 (f d s g H Q I h) λc i e=>?_)
 cases c with
 | true=>exact isTrue_and_nil e
 | false=>exact e
def Up(f:PT X a tA):PW X (.BoolOp .Or [a] pos) tA:=by
 intro j d s g H Q I h;refine isTrue_or (Z3 (f d s g H Q I h) λc i e=>?_)
 cases c with
 | false=>exact isTrue_or_nil e
 | true=>exact e
def Nu(j:PT X a tA)(k:PW X (.BoolOp .And (b::rest) pos) tB'):PW X (.BoolOp .And (a::b::rest) pos) (ZQl tA tB'):=by
 intro m d s i H Q I h;refine isTrue_and (Z3 (j d s i H _ I h) ?_);rintro c l ⟨e,f,g⟩
 cases c with
 | true=>exact k m d l i e Q f g
 | false=>exact⟨e,f,g⟩
def VZ(j:PT X a tA)(k:PW X (.BoolOp .Or (b::rest) pos) tB'):PW X (.BoolOp .Or (a::b::rest) pos) (tOr tA tB'):=by
 intro m d s i H Q I h;refine isTrue_or (Z3 (j d s i H _ I h) ?_);rintro c l ⟨e,f,g⟩
 cases c with
 | true=>exact⟨e,f,g⟩
 | false=>exact k m d l i e Q f g
def XT(f:PT X a tA):PT X (.UnaryOp .Not a pos) (ZQb tA):=by
 intro d s g H Q I h;exact isTrue_not (f d s g H (λc e=>Q (!c) e) I h)
inductive Ow(tb:TE)(e:L2.St)(Q:VK)(x:V)(d:Hp):Prop
 |mk(c:_)(_:x=.bl c)(_:if c=true then tb e d Q else Q (.bl false) d)
def ZPN(ta tb:TE):TE:=λc H Q=>ta c H λx d=>Ow tb c Q x d
inductive Oc(Q:VK)(x:V)(d:Hp):Prop
 |mk(c:_)(_:x=.bl c)(_:Q (.bl (!c)) d)
def ZP5(ta:TE):TE:=λd H Q=>ta d H λx c=>Oc Q x c
def OC{e}{t:TE}(h:PE X a t):PE X (.BoolOp e [a] pos) t:=λc s f H Q I d=>BoolOp_one (h c s f H Q I d)
def Qx(j:PE X a ta)(k:PE X (.BoolOp .And (b::rest) pos) tb):PE X (.BoolOp .And (a::b::rest) pos) (ZPN ta tb):=by
 intro d s i H Q I h;refine BoolOp_and (YG (j d s i H _ I h) λv m x f g l e=>?_);obtain⟨c,rfl,e⟩:=e;cases l;refine wpAny_truthy_bool ?_
 cases c with
 | true=>exact k d m i f Q g e
 | false=>exact⟨.bl false,f,g,rfl,e⟩
def Iq(i:PE X a ta):PE X (.UnaryOp .Not a pos) (ZP5 ta):=by
 intro d s k H Q I h;refine UnaryOp_ (YG (i d s k H _ I h) λv l x f g j e=>?_);obtain⟨c,rfl,e⟩:=e;cases j;exact not_of (wpAny_truthy_bool ⟨.bl (!c),f,g,rfl,e⟩)
end
def ZG(K:zZ)(H:Hp)(a:aj)(c:jf):Prop:=
 Rd H a (.lst c) \/
  ∃(o:aJ)(b:jx)(n:Nat),K.lookup a=some o/\o.cls=.type "list" /\ o.dict=none/\o.data=.seq b n/\b.size<=aq/\ZT c b.toList
def Zh(K:zZ)(H:Hp)(a:aj)(c:jf):Prop:=
 Rd H a (.tup c) \/
  ∃(o:aJ)(b:jx)(n:Nat),K.lookup a=some o/\o.cls=.type "tuple" /\ o.data=.seq b n/\b.size<=aq/\ZT c b.toList
def Er:ai->jg
 | .none=>some .non
 | .bool b=>some (.bl b)
 | .int i _=>some (.int i)
 | .str x _=>some (.str x)
 | .bytes b _=>some (.byt b)
 | .float b _=>some (.flt b)
 | .ref a=>some (.ref a)
 | .type n=>some (.ty n)
 | _=>none
def ZW.abs{x:V}{u:ai}(r:ZW x u):Er u=some x:=by
 cases x with
 | non=>cases r;rfl
 | bl _=>cases r;rfl
 | int _=>obtain⟨t,rfl⟩:=r;rfl
 | str _=>obtain⟨t,rfl⟩:=r;rfl
 | byt _=>obtain⟨t,rfl⟩:=r;rfl
 | flt _=>obtain⟨t,rfl⟩:=r;rfl
 | ref _=>cases r;rfl
 | ty _=>cases r;rfl
def ZW.inj{x y:V}{u:ai}(r:ZW x u)(q:ZW y u):x=y:=zJ.inj (r.abs.symm.trans q.abs)
def ZT.inj:∀{c a:jf}{b:je},ZT c b->ZT a b->c=a:=by intro _ a _ h g;induction h generalizing a with
 | nil=>cases g;rfl
 | cons r _ d=>cases g with
  | cons e f=>rw[r.inj e,d f]
section
variable{kh:jv}{σ:St}{H:Hp}{s:al}{a:aj}{xs ys:jf}
def ZG.of{K:zZ}(h:H a=some (.lst xs)):ZG K H a xs:=.inl (.inl h)
def Zh.of{K:zZ}(h:H a=some (.tup xs)):Zh K H a xs:=.inl (.inl h)
def ZE.list(I:ZE X kh σ H s)(h:ZG X.K H a xs):∃ b:je,ZT xs b/\PlainL s.heap a b.toArray/\xs.length<=sizeLine:=by
 rcases h with h | ⟨o,b,n,f,c,d,g,i,r⟩
 ·obtain⟨z,b,n,r,e⟩:=h.ok I.hok;exact⟨b,r,⟨_,n,e,rfl,rfl,rfl⟩,z⟩
 ·exists b.toList,r,⟨o,n,I.kIn a o f,c,d,by simpa using g⟩
  have e:=r.length;simp only[vU] at e
  lia
def ZE.tuple(I:ZE X kh σ H s)(h:Zh X.K H a xs):∃ b:je,ZT xs b/\IsTup s.heap a b.toArray/\xs.length<=sizeLine:=by
 rcases h with h | ⟨o,b,n,d,c,f,g,r⟩
 ·obtain⟨z,b,r,p⟩:=h.ok I.hok;exact⟨b,r,p,z⟩
 ·exists b.toList,r,⟨o,I.kIn a o d,c,n,by simpa using f⟩
  have e:=r.length;simp only[vU] at e
  lia
def ZE.list_inj(I:ZE X kh σ H s)(h:ZG X.K H a xs)(i:ZG X.K H a ys):xs=ys:=by
 obtain⟨c,r,⟨o,n,e,_,_,d⟩,_⟩:=I.list h;obtain⟨b,j,⟨l,k,g,_,_,f⟩,_⟩:=I.list i;rw[e] at g;cases g;rw[d] at f;injection f with d1 _;have:c=b:=by simpa using congrArg tQ d1
 subst this;exact r.inj j
def ZE.tuple_inj(I:ZE X kh σ H s)(h:Zh X.K H a xs)(i:Zh X.K H a ys):xs=ys:=by
 obtain⟨c,r,⟨o,e,_,n,d⟩,_⟩:=I.tuple h;obtain⟨b,j,⟨l,g,_,k,f⟩,_⟩:=I.tuple i;rw[e] at g;cases g;rw[d] at f;injection f with d1 _;have:c=b:=by simpa using congrArg tQ d1
 subst this;exact r.inj j
end
abbrev Cx.wish(X:Cx)(E:ja):Cx:={ X with xe:=E }
abbrev Cx.nox(X:Cx):Cx:=X.wish λ_ _=>False
def Cx.Ok.wish{X:Cx}(a:X.Ok)(E:ja):(X.wish E).Ok:=
 ⟨a.mod,a.kind,a.glob,a.blt,a.above,a.inj,a.has,a.cab,a.hd,a.frames,a.stk,a.exf,a.bs,a.bsz,a.noex,a.exfs,a.funs,a.frf⟩
def Cx.Ok.unwish{X:Cx}{E:ja}(a:(X.wish E).Ok):X.Ok:=
 ⟨a.mod,a.kind,a.glob,a.blt,a.above,a.inj,a.has,a.cab,a.hd,a.frames,a.stk,a.exf,a.bs,a.bsz,a.noex,a.exfs,a.funs,a.frf⟩
section
variable{kh:jv}{σ:St}{H:Hp}{s:al}{E:ja}
def ZE.wish(I:ZE X kh σ H s)(E:ja):ZE (X.wish E) kh σ H s:=⟨I.ok.wish E,I.os,I.bare,I.base,I.loc,I.cell,I.free,I.freeC,I.pin,I.hok,I.len⟩
def ZE.unwish(I:ZE (X.wish E) kh σ H s):ZE X kh σ H s:=⟨I.ok.unwish,I.os,I.bare,I.base,I.loc,I.cell,I.free,I.freeC,I.pin,I.hok,I.len⟩
def SP.unwish{D:Yq}{f:Flow}{c:al}(h:SP (X.wish E) kh D f c):SP X kh D f c:=by
 cases f with
 | next=>obtain⟨a,b,I,q⟩:=h;exact⟨a,b,I.unwish,q⟩
 | brk=>obtain⟨a,b,I,q⟩:=h;exact⟨a,b,I.unwish,q⟩
 | cont=>obtain⟨a,b,I,q⟩:=h;exact⟨a,b,I.unwish,q⟩
 | ret u=>obtain⟨v,a,b,I,r,q⟩:=h;exact⟨v,a,b,I.unwish,r,q⟩
def Xz.nox{a:jO}{t:TS}(h:Xz X.nox a t):Xz X a t:=λkh s σ H D I b=>
 ae (h kh s σ H D (I.wish _) b) (λ_ _ q=>q.unwish) λ_ _ z=>False.elim z
end
section
variable{st:aC}{rest:jO}{t u:TS}{e:Expr}{te:TE}{pos:aK}
def ZQB:TS:=λD a H=>D.nx a H
def ZQR(t u:TS):TS:=λD a H=>t { D with nx:=u D } a H
def Z2:Xz X [] ZQB:=λ_ _ a H _ I h=>wpAny_execs_nil ⟨a,H,I,h⟩
def ZQ(g:PS X st t)(i:Xz X rest u):Xz X (st::rest) (ZQR t u):=by
 intro a s k H D I h;refine wpAny_execs_cons (Z3 (g a s k H { D with nx:=u D } I h) λf j q=>?_)
 cases f with
 | next=>
  obtain⟨b,c,d,q⟩:=q;exact i a j b c D d q
 | ret v=>exact q
 | brk=>exact q
 | cont=>exact q
def ZX(b:PS X st t):Xz X [st] t:=by
 intro a s c H D I h;refine wpAny_execs_cons (Z3 (b a s c H D I h) λf d q=>?_)
 cases f with
 | next=>exact wpAny_execs_nil q
 | ret v=>exact q
 | brk=>exact q
 | cont=>exact q
def ZE.quiet{a:jv}{b:St}{H:Hp}{s:al}(I:ZE X a b H s):interactive X.env=false:=by simp[interactive,I.ok.kind]
def ZPR(te:TE):TS:=λD a H=>te a H λ_ b=>D.nx a b
def Wz(f:PE X e te)(g:aF e none pos.line X.env=pure false:=by rfl):PS X (.Expr e pos) (ZPR te):=by
 intro a s b H D I h;exact wpAny_Expr_any (YG (f a s b H _ I h) λv k x c d j i=>⟨b,c,d,i⟩) I.quiet g
def D8(te:TE):TS:=λD a H=>te a H D.rt
def Zn(f:PE X e te):PS X (.Return (some e) pos) (D8 te):=by
 intro a s b H D I h;exact wpAny_Return_some (YG (f a s b H _ I h) λv j x c d i g=>⟨x,b,c,d,i,g⟩)
def ZQk(c:TT)(t u:TS):TS:=λD a H=>c a H λb d=>if b=true then t D a d else u D a d
def Zy{c:Expr}{a b:jO}{m:TT}(p:PT X c m)(n:Xz X a t)(o:Xz X b u):PS X (.If c a b pos) (ZQk m t u):=by
 intro f s g H D I h;refine wpAny_If (Z3 (p f s g H _ I h) ?_);rintro d l ⟨i,j,k⟩
 cases d with
 | true=>exact n f l g i D j k
 | false=>exact o f l g i D j k
def ZN4:TS:=λ_ _ _=>False
def WV{a:jO}:Xz X a ZN4:=λ_ _ _ _ _ _ h=>h.elim
end
abbrev TG:=V->St->Hp->(St->Hp->Prop)->Prop
abbrev Nb:=jf->St->Hp->(St->Hp->Prop)->Prop
def PG(X:Cx)(a:Expr)(t:TG):Prop:=
 ∀(b:jv)(s:al)(e:St)(H:Hp)(v:V)(u:ai)(Q:St->Hp->Prop),ZE X b e H s->ZW v u->t v e H Q ->
  aB (aA X.prog X.w) X.A (assign a X.env u) (λ_ f=>∃ c d,ZE X b c d f/\Q c d) X.xe s
def M0(X:Cx)(h:jA)(t:Nb):Prop:=
 ∀(a:jv)(s:al)(f:St)(H:Hp)(e:jf)(d:je)(Q:St->Hp->Prop),ZE X a f H s->ZT e d->t e f H Q ->
  aB (aA X.prog X.w) X.A (assignInOrder ((assignEach h X.env).map (·.2)) d) (λ_ g=>∃ b c,ZE X a b c g/\Q b c) X.xe s
abbrev Kb:=V->V->V->Hp->(Hp->Prop)->Prop
def Fp(X:Cx)(t:Kb):Prop:=
 ∀(a:jv)(s:al)(e:St)(H:Hp)(o i v:V)(d c u:ai)(Q:Hp->Prop),ZE X a e H s->ZW o d->ZW i c->ZW v u->t o i v H Q ->
  aB (aA X.prog X.w) X.A (setItem d c u) (λ_ f=>∃ b,ZE X a e b f/\Q b) X.xe s
section
variable{pos:aK}
def QD(i:Nat):TG:=λv a H Q=>Q (a.set i (some v)) H
def Q1{i:Nat}{x:Str}(c:X.N.Nodup)(e:X.N[i]? = some x)(f:NI X.env.scope x)(d:X.fn x=true\/X.env.scope.names.lookup x=some .local:=by first | exact .inl rfl | exact .inr rfl | assumption):PG X (.Name x pos) (QD i):=by
 intro a s j H v u Q I r h;exact wpAny_assign_Name (Nx I c e f r (λg b=>⟨_,H,b,h⟩) d)
def Yk(i:Nat){x:Str}(a:X.N.Nodup)(c:X.N[i]? = some x:=by rfl)(d:NI X.env.scope x:=by exact Or.inl rfl)(b:X.fn x=true\/X.env.scope.names.lookup x=some .local:=by first | exact .inl rfl | exact .inr rfl | assumption):PG X (.Name x pos) (QD i):=Q1 a c d b
def GX:Nb:=λa b H Q=>a=[]/\Q b H
inductive Qd(t:TG)(u:Nb)(c:jf)(d:L2.St)(H:Hp)(Q:L2.St->Hp->Prop):Prop
 |mk(v r:_)(_:c=v::r)(_:t v d H λa b=>u r a b Q)
def Pv:M0 X [] GX:=by
 intro a s b H d c Q I r h;obtain⟨e,h⟩:=h;subst e;cases r;exact assignInOrder_nil ⟨b,H,I,h⟩
def XY{e:Expr}{b:jA}{t:TG}{u:Nb}(i:PG X e t)(j:M0 X b u)(k:(assignEach (e::b) X.env).map (·.2)=assign e X.env::(assignEach b X.env).map (·.2):=by rfl):M0 X (e::b) (Qd t u):=by
 intro a s o H w p Q I r h;obtain⟨v,q,g,h⟩:=h;subst g
 cases r with
 | cons r m=>
  rw[k];refine assignInOrder_cons (Z3 (i a s o H _ _ _ I r h) ?_);rintro _ n ⟨c,d,f,l⟩;exact j a n c d _ _ Q f m l
inductive No(K:zZ)(n:Nat)(t:Nb)(v:V)(c:L2.St)(H:Hp)(Q:L2.St->Hp->Prop):Prop
 |mk(a b:_)(_:v=.ref a)(_:Zh K H a b)(_:b.length=n)(_:t b c H Q)
def P3{d:jA}{k:Nat}{t:Nb}{n:Nat}(q:X.calm=true)(h:M0 X d t)(x:(assignEach d X.env).length=n:=by rfl)(f:(assignEach d X.env).findIdx? (·.1)=none:=by rfl):PG X (.Tuple d k pos) (No X.K n t):=by
 intro c s j H v u Q I r g;obtain⟨a,C,m,y,w,g⟩:=g;subst m;cases r;obtain⟨B,i,z,D⟩:=I.tuple y;refine assign_Tuple_tuple (I.ok.hd q) z (by simp[x,<-w,i.length]) f λp A=>?_
 have l:ZE X c j H { s with heap:=p }:=I.kept (t':=s.toks) λb o e=>A b o (zL (zU e)) e;exact h c _ j H C _ Q l (by simpa using i) g
def ZQs(f e:TE)(t:Kb):TG:=λv a H Q=>f a H λo b=>e a b λi c=>t o i v c λd=>Q a d
def IJ{o i:Expr}{f e:TE}{t:Kb}(w:PE X o f)(q:PE X i e)(z:Fp X t)(p:∀ v,assign (.Subscript o i pos) X.env v=(do
   let b<-holding [v] (aI o X.env)
   let c<-holding [v,b] (aI i X.env)
   standAt pos
   holding [v,b,c] (setItem b c v)
   release [v,b,c] []):=by intro _;rfl):PG X (.Subscript o i pos) (ZQs f e t):=by
 intro a s d H v u Q I r h;rw[p];refine aa (af (YG (w a s d H _ I h) λb F x g l D A=>?_));refine aa (af (YG (q a F d g _ l A) λc G y j m E B=>?_));refine aa (ah (aa (af (Z3 (z a G d j x y v b c u _ m D E r B) ?_))));rintro _ J ⟨k,n,C⟩;exact wpAny_release ⟨d,k,n,C⟩
def Kf(c:TE)(g:TG):TS:=λD a H=>c a H λx b=>g x a b D.nx
def PQ{b e:Expr}{c:TE}{g:TG}(k:PE X e c)(l:PG X b g)(m:swapsWithSole [b] e pos.line X.env=pure false:=by rfl)(n:swappedStores [b] e X.env=pure none:=by rfl)(j:(assignEach [b] X.env).map (·.2)=[assign b X.env]:=by rfl):PS X (.Assign [b] e pos) (Kf c g):=by
 intro a s d H D I h;refine wpAny_Assign_stores (YG (k a s d H _ I h) λv r x f i p o=>?_) m n;rw[j];exact Z3 (l a r d f x v _ i p o) λ_ t q=>q
def OW{i:Nat}{x:Str}{e:Expr}{c:TE}{a:aK}(j:X.N.Nodup)(m:X.N[i]? = some x)(o:NI X.env.scope x)(k:PE X e c)(n:aF e (some (.Name x a)) pos.line X.env=pure false:=by rfl)(l:X.fn x=true\/X.env.scope.names.lookup x=some .local:=by first | exact .inl rfl | exact .inr rfl | assumption):
  PS X (.Assign [.Name x a] e pos) (Kf c (QD i)):=by
 intro b s r H D I h;refine wpAny_Assign_Name (YG (k b s r H _ I h) λv t y d f q p=>?_) n;exact Nx f j m o q (λu g=>⟨_,d,g,p⟩) l
def Zs(i:Nat){x:Str}{e:Expr}{b:TE}{a:aK}(c:X.N.Nodup)(d:PE X e b)(g:X.N[i]? = some x:=by rfl)(j:NI X.env.scope x:=by exact Or.inl rfl)(h:aF e (some (.Name x a)) pos.line X.env=pure false:=by rfl)(f:X.fn x=true\/X.env.scope.names.lookup x=some .local:=by first | exact .inl rfl | exact .inr rfl | assumption):
  PS X (.Assign [.Name x a] e pos) (Kf b (QD i)):=OW c g j d h f
inductive OY(c:TT)(h:TS)(D:Yq)(a:L2.St)(H:Hp):Prop
 |mk(W:Nat->St->Hp->Prop)(_:∃ m,W m a H)(_:∀ m a H,W m a H->c a H λb f=>if b=true then ∃ N:St->Hp->Prop,(∀ d e,N d e->∃ g,g<m/\W g d e)/\h { D with nx:=N,ct:=N,bk:=D.nx } a f else D.nx a f)
def Nz{c:Expr}{g:jO}{F:TT}{E:TS}(C:PassesOwn (aA X.prog X.w) X.A X.env X.xe)(K:PT X c F)(J:Xz X g E):PS X (.While c g [] pos) (OY F E):=by
 intro a s S H D I h;obtain⟨W,⟨L,Q⟩,j⟩:=h;refine wpAny_While (codeAny_whileLoop (λn M=>∃ k u,ZE X a k u M/\W n k u) ?_ L ⟨S,H,I,Q⟩);rintro n O ⟨e,x,G,R⟩;refine wpAny_passesOwn C (Z3 (K a O e x _ G (j n e x R)) ?_);rintro b P ⟨y,z,l⟩
 cases b with
 | true=>
  obtain⟨N,B,l⟩:=l;rw[aQ rfl];refine wpAny_passesOwn C (Z3 (J a P e y _ z l) λf T m=>?_)
  cases f with
  | next=>
   obtain⟨d,i,o,r⟩:=m;obtain⟨q,p,t⟩:=B d i r;exact⟨q,p,d,i,o,t⟩
  | cont=>
   obtain⟨d,i,o,r⟩:=m;obtain⟨q,p,t⟩:=B d i r;exact⟨q,p,d,i,o,t⟩
  | brk=>exact m
  | ret v=>exact m
 | false=>
  rw[aP zT];exact wpAny_execs_nil ⟨e,y,z,l⟩
end
structure It where
 go:Nat->Hp->Prop
 yld:Nat->Hp->V->Hp->Prop
 stop:Nat->Hp->Prop
def VR(X:Cx)(a:jv)(H:Hp)(b:aj):Prop:=
 H b=none/\b≠X.env.locals/\b∉X.fs/\(b∈X.ex\/X.s₀.heap.objs.size<=b)/\(∀ x c,X.env.cells.lookup x=some c->c≠b)/\∀ p∈X.pn++a,p.1≠b
def ZE.fpOk{X:Cx}{a:jv}{i:St}{H f:Hp}{s:al}{b:aj}(I:ZE X a i H s)(d:s.heap.objs.size<=b)(g:f b=none):VR X a f b:=by
 refine⟨g,xG (yL I.lt d),I.nofs d,.inr (zD I.sz d),λx c e z=>?_,λp h z=>?_⟩
 ·obtain⟨v,q⟩:=I.cell x c e;exact absurd (yL q.lt (by rw[z];exact d)) (xE _)
 ·exact absurd (yL (zU (I.pin p h).1) (by rw[z];exact d)) (xE _)
structure Vf(P:am)(w:aw)(K:zZ)(tg:Expr)(J:It)(fp:jw)(it:aj)(tn:Nat->aD->Prop):Prop where
 mem:it∈fp
 obj:∀ i h,tn i h->∀ b∈fp,∃ o,h.get? b=some o/\∀ v,o.data≠.cell v
 keep:∀ i h h',tn i h->(∀ b∈fp,∀ o,h.get? b=some o->h'.get? b=some o)->tn i h'
 item:∀(X:Cx),X.prog=P->X.w=w->X.K=K->X.calm=true->∀(i:Nat)(kh:jv)(s:al)(σ:St)(H:Hp)(E:ja),ZE X kh σ H s->(∀ b∈fp,VR X kh H b)->tn i s.heap->J.go i H ->
  aB (aA P w) X.A (pyNext (.ref it)) (λr s1=>∃ u,r=some u /\
   aB (aA P w) X.A (letOwnedTupleGo tg (.ref it) u) (λ_ s2=>∃ x H',ZE X kh σ H' s2/\ZW x u/\J.yld i H x H'/\tn (i+1) s2.heap/\∀ b∈fp,H' b=none) E s1) E s
 done:∀(X:Cx),X.prog=P->X.w=w->X.K=K->X.calm=true->∀(i:Nat)(kh:jv)(s:al)(σ:St)(H:Hp)(E:ja),ZE X kh σ H s->(∀ b∈fp,VR X kh H b)->tn i s.heap->J.stop i H ->
  aB (aA P w) X.A (pyNext (.ref it)) (λr s1=>r=none/\ZE X kh σ H s1) E s
 self:∀(A:ax)(i:Nat)(s:al)(Q:ja)(E:ja),tn i s.heap->Q (.ref it) s->aB (aA P w) A (pyIter (.ref it)) Q E s
abbrev TI:=St->Hp->(It->Hp->Prop)->Prop
def ET(X:Cx)(a:jv)(j:St)(i:Expr)(R:It->Hp->Prop)(d:ai)(g:al):Prop:=
 ∃(f:aj)(e:jw)(h:Nat->aD->Prop)(J:It)(c:Hp),d=.ref f/\ZE X a j c g/\Vf X.prog X.w X.K i J e f h/\h 0 g.heap/\(∀ b∈e,VR X a c b)/\R J c
def PI(X:Cx)(e b:Expr)(f:TI):Prop:=
 ∀(a:jv)(s:al)(c:St)(H:Hp)(R:It->Hp->Prop),ZE X a c H s->f c H R ->
  aB (aA X.prog X.w) X.A (aI b X.env) (λv d=>aB (aA X.prog X.w) X.A (pyIter v) (ET X a c e R) X.xe d) X.xe s
def Mj{M:Model}{A:ax}{E:ja}{s:al}{c:Expr}{b:aj}{u:ai}{o:aJ}{n:String}{d:jx}{Q:Unit->al->Prop}(i:s.heap.get? b=some o)(e:o.cls=.type n)(f:o.data=.fields d)(g:["enumerate","zip","dict_itemiterator","dict_reverseitemiterator","odict_iterator","itertools.zip_longest","itertools.pairwise"].contains n=false)(a:Q () s):aB M A (letOwnedTupleGo c (.ref b) u) Q E s:=by
 unfold letOwnedTupleGo;cases c <;> first
  | exact ad a
  | (cases u <;> first
    | exact ad a
    | (refine aa (wpAny_load i ?_);rw[e,f];show aB M A (if (["enumerate","zip","dict_itemiterator","dict_reverseitemiterator","odict_iterator","itertools.zip_longest","itertools.pairwise"].contains n&&d[0]? == some (rawInt _))=true then _ else _) Q E s;rw[aP (by intro h;rw[g,uZ] at h;cases h)];exact ad a))
def N5(K:zZ)(a:aj):It:=
 ⟨λi H=>∃ b x,ZG K H a b/\b[i]? = some x,λi H x c=>c=H/\∀ b,ZG K H a b->b[i]? = some x,λi H=>∃ b,ZG K H a b/\b.length<=i⟩
def MM(K:zZ)(a:aj):It:=
 ⟨λi H=>∃ b x,Zh K H a b/\b[i]? = some x,λi H x c=>c=H/\∀ b,Zh K H a b->b[i]? = some x,λi H=>∃ b,Zh K H a b/\b.length<=i⟩
def Oi(b:Int)(n:Nat):It:=⟨λi _=>i<n,λi H x a=>a=H/\x=.int (b+i),λi _=>n<=i⟩
def ZIf{P:am}{w:aw}{K:zZ}{tg:Expr}(a l:aj):Vf P w K tg (N5 K a) [l] l (λi h=>h.IsListIter l a i) where
 mem:=by simp
 obj:=λi h f b j=>by
  have e:b=l:=by simpa using j
  subst e;obtain⟨o,e,c,d⟩:=f;exact⟨o,e,λv z=>by rw[d] at z;cases z⟩
 keep:=λi h n f k=>f.at λo e=>k l (by simp) o e
 item:=by
  intro X F J D O i g s Q H E I q f G;subst F J D;obtain⟨xs,x,r,L⟩:=G;obtain⟨M,N,p,Y⟩:=I.list r;obtain⟨u,U,Z⟩:=N.get L;obtain⟨t,y,T,A,B,C⟩:=q l (by simp)
  refine wpAny_pyNext_list_item f p.isList (x:=u) (by simpa using U) λn m sb=>?_
  have R:ZE X g Q H { s with heap:=n }:=I.turned (t':=s.toks) (λb o j e=>(sb.2 b j).trans e) t y A B C;obtain⟨o,e,c,d⟩:=id m;exact⟨u,rfl,Mj (s:={ s with heap:=n }) e c d (by decide) ⟨x,H,R,Z,⟨rfl,λys V=>by rw[I.list_inj V r];exact L⟩,m,λb j=>(q b j).1⟩⟩
 done:=by
  intro X F J D O i g s Q H E I q f G;subst F J D;obtain⟨xs,r,L⟩:=G;obtain⟨M,N,p,Y⟩:=I.list r;obtain⟨t,y,T,A,B,C⟩:=q l (by simp)
  have hl:=N.length;exact wpAny_pyNext_list_end (I.ok.hd O) f p.isList (by simp;lia) λn S=>⟨rfl,I.turned (t':=s.toks) (λb o j e=>S b o j e) t y A B C⟩
 self:=λ_ _ _ _ _ f h=>wpAny_pyIter_listiter f h
def ZH8{P:am}{w:aw}{K:zZ}{tg:Expr}(a l:aj):Vf P w K tg (MM K a) [l] l (λi h=>h.IsTupleIter l a i) where
 mem:=by simp
 obj:=λi h f b j=>by
  have e:b=l:=by simpa using j
  subst e;obtain⟨o,e,c,d⟩:=f;exact⟨o,e,λv z=>by rw[d] at z;cases z⟩
 keep:=λi h q f k=>f.at λo e=>k l (by simp) o e
 item:=by
  intro X G L F O i g s Q H E I r f J;subst G L F;obtain⟨xs,x,t,M⟩:=J;obtain⟨m,N,p,Y⟩:=I.tuple t;obtain⟨u,U,Z⟩:=N.get M;obtain⟨y,A,T,B,C,D⟩:=r l (by simp)
  refine wpAny_pyNext_tuple_item f (show s.heap.IsTuple a m.toArray from p) (x:=u) (by simpa using U) λq n sb=>?_
  have R:ZE X g Q H { s with heap:=q }:=I.turned (t':=s.toks) (λb o j e=>(sb.2 b j).trans e) y A B C D;obtain⟨o,e,c,d⟩:=id n;exact⟨u,rfl,Mj (s:={ s with heap:=q }) e c d (by decide) ⟨x,H,R,Z,⟨rfl,λys V=>by rw[I.tuple_inj V t];exact M⟩,n,λb j=>(r b j).1⟩⟩
 done:=by
  intro X G L F O i g s Q H E I r f J;subst G L F;obtain⟨xs,t,M⟩:=J;obtain⟨m,N,p,Y⟩:=I.tuple t;obtain⟨y,A,T,B,C,D⟩:=r l (by simp)
  have hl:=N.length;exact wpAny_pyNext_tuple_end (I.ok.hd O) f (show s.heap.IsTuple a m.toArray from p) (by simp;lia) λq S=>⟨rfl,I.turned (t':=s.toks) (λb o j e=>S b o j e) y A B C D⟩
 self:=λ_ _ _ _ _ f h=>wpAny_pyIter_tupleiter f h
def Ey{P:am}{w:aw}{K:zZ}{Q:Expr}(c:aj)(m:Int)(n:Nat):Vf P w K Q (Oi m n) [c] c (λi h=>IsRangeIter h c (m+(i:Nat) * 1) ((n:Int)-(i:Nat)) 1) where
 mem:=by simp
 obj:=λi h a b f=>by
  have e:b=c:=by simpa using f
  subst e;exact⟨_,a,λv z=>by
   have R:Data.fields _=Data.cell v:=z;cases R⟩
 keep:=λi h j a k=>k c (by simp) _ a
 item:=by
  intro X A D y B i d s G H E I l a C;subst A D y;obtain⟨p,q,M,r,u,x⟩:=l c (by simp)
  have W:=Walks.range (prog:=X.prog) (w:=X.w) (I.ok.hd B) c m 1 n;refine W.item i s _ _ C a λv j F N g O=>?_;obtain⟨t,rfl⟩:=N;have J:ZE X d G H { s with heap:=j,toks:=F }:=I.turned (λb o f e=>O b o (by simpa using f) e) p q r u x
  refine⟨_,rfl,Mj (s:={ s with heap:=j,toks:=F }) (n:= "range_iterator") g rfl rfl (by decide) ⟨.int (m+i),H,J,⟨t,?_⟩,⟨rfl,rfl⟩,g,λb f=>(l b f).1⟩⟩
  rw[Int.mul_one]
 done:=by
  intro X A D y B i d s G H E I l a C;subst A D y;obtain⟨p,q,M,r,u,x⟩:=l c (by simp)
  exact wpAny_pyNext_range_end (I.ok.hd B) a (by have:n<=i:=C;lia) λj L=>⟨rfl,I.turned (t':=s.toks) (λb o f e=>L b o f e) p q r u x⟩
 self:=λ_ _ _ _ _ a h=>wpAny_pyIter_rangeiter a h
section
variable{tg:Expr}
inductive OF(K:zZ)(R:It->Hp->Prop)(x:V)(b:Hp):Prop
 |mk(a:_)(_:x=.ref a)(_:∃ c,ZG K b a c)(_:R (N5 K a) b)
def ZPc(K:zZ)(b:TE):TI:=λc H R=>b c H λx a=>OF K R x a
inductive N2(K:zZ)(R:It->Hp->Prop)(x:V)(b:Hp):Prop
 |mk(a:_)(_:x=.ref a)(_:∃ c,Zh K b a c)(_:R (MM K a) b)
def A1(K:zZ)(b:TE):TI:=λc H R=>b c H λx a=>N2 K R x a
def Wq{l:Expr}{g:TE}(k:PE X l g):PI X tg l (ZPc X.K g):=by
 intro c s u H R I h;refine YG (k c s u H _ I h) λv f x i d t r=>?_;obtain⟨a,e,⟨z,m⟩,q⟩:=r;subst e;cases t;obtain⟨n,y,p,w⟩:=d.list m;refine wpAny_pyIter_list p.isList ?_;refine⟨f.heap.objs.size,[f.heap.objs.size],_,_,i,rfl,d.kept (t':=f.toks) λb o e=>zS _ e,ZIf a _,⟨_,yT _ rfl,rfl,rfl⟩,λb j=>?_,q⟩;have e:b=f.heap.objs.size:=by simpa using j
 subst e;exact d.fpOk (zY _) (d.hok.fresh (zY _))
def M9{l:Expr}{i:TE}(m:PE X l i):PI X tg l (A1 X.K i):=by
 intro c s u H R I h;refine YG (m c s u H _ I h) λv d x j f t r=>?_;obtain⟨a,e,⟨z,n⟩,q⟩:=r;subst e;cases t;obtain⟨g,y,p,w⟩:=f.tuple n;refine wpAny_pyIter_tuple (show d.heap.IsTuple a g.toArray from p) ?_;refine⟨d.heap.objs.size,[d.heap.objs.size],_,_,j,rfl,f.kept (t':=d.toks) λb o e=>zS _ e,ZH8 a _,⟨_,yT _ rfl,rfl,rfl⟩,λb k=>?_,q⟩;have e:b=d.heap.objs.size:=by simpa using k
 subst e;exact f.fpOk (zY _) (f.hok.fresh (zY _))
def FY{d:jv}{h:St}{H:Hp}{s:al}{R:It->Hp->Prop}{E:ja}{a c:Int}{t u v:Tok}{g:Nat}(I:ZE X d h H s)(k : -(2 ^ 62)<=a)(l:a<2 ^ 62)(m : -(2 ^ 62)<=c)(n:c<2 ^ 62)(q:R (Oi a (c-a).toNat) H):aB (aA X.prog X.w) X.A (pyIter (.ref s.heap.objs.size)) (ET X d h tg R) E { s with heap:=s.heap.push { cls:=.type "range",data:=.fields #[.int a t,.int c u,.int 1 v] },toks:=g }:=by
 refine wpAny_pyIter_range (IsRange.new ..) (small_one k l m n) ?_;have f:ZE X d h H { s with heap:=s.heap.push { cls:=.type "range",data:=.fields #[.int a t,.int c u,.int 1 v] },toks:=g }:=I.kept λb o e=>zS _ e;refine⟨(s.heap.push { cls:=.type "range",data:=.fields #[.int a t,.int c u,.int 1 v] }).objs.size,[(s.heap.push { cls:=.type "range",data:=.fields #[.int a t,.int c u,.int 1 v] }).objs.size],_,_,H,rfl,
  f.kept (t':=g) λb o e=>zS _ e,Ey _ a (c-a).toNat,?_,λb p=>?_,q⟩
 ·have i:a+((0:Nat):Int) * 1=a:=by simp
  have j:(((c-a).toNat:Nat):Int)-((0:Nat):Int)=Builtin.Range.rangeSize a c 1:=by rw[rangeSize_one];split <;> lia
  show IsRangeIter _ _ (a+((0:Nat):Int) * 1) ((((c-a).toNat:Nat):Int)-((0:Nat):Int)) 1;rw[i,j];exact yT _ rfl
 ·have e:b=(s.heap.push { cls:=.type "range",data:=.fields #[.int a t,.int c u,.int 1 v] }).objs.size:=by simpa using p
  subst e;exact f.fpOk (zY _) (f.hok.fresh (zY _))
inductive Oh(R:It->Hp->Prop)(b:jf)(a:Hp):Prop
 |mk(j:Int)(_:b=[.int j])(_ : -(2 ^ 62)<=j)(_:j<2 ^ 62)(_:R (Oi 0 j.toNat) a)
def ZPo(b:TA):TI:=λd H R=>b d H λc a=>Oh R c a
inductive ON(R:It->Hp->Prop)(b:jf)(a:Hp):Prop
 |mk(i j:Int)(_:b=[.int i,.int j])(_ : -(2 ^ 62)<=i/\i<2 ^ 62 /\ -(2 ^ 62)<=j/\j<2 ^ 62)(_:R (Oi i (j-i).toNat) a)
def Ev(b:TA):TI:=λd H R=>b d H λc a=>ON R c a
def Os{a:Expr}{f:TA}{p c:aK}(k:Gl X "range")(l:X.mg "range" = none)(i:PA X [a] f)(m:ar [a] X.env=[(false,aI a X.env)]:=by rfl):PI X tg (.Call (.Name "range" p) [a] [] c) (ZPo f):=by
 intro b s v H R I h;refine Call_ (Px I k l boot_range (PyProof.Rows.callWith_type1 (YG (i c b s v H _ I h) λy x z w g o d=>?_) m rfl));obtain⟨j,e,d,n,q⟩:=d;subst e
 cases o with
 | cons r u=>
  cases u;obtain⟨t,rfl⟩:=r;exact call_range_1 (FY g ∅ ∅ d n (by simpa using q))
def Nk{a b:Expr}{l:TA}{p f:aK}(o:Gl X "range")(u:X.mg "range" = none)(n:PA X [a,b] l)(v:ar [a,b] X.env=[(false,aI a X.env),(false,aI b X.env)]:=by rfl)(c:ar [b] X.env=[(false,aI b X.env)]:=by rfl):
  PI X tg (.Call (.Name "range" p) [a,b] [] f) (Ev l):=by
 intro d s B H R I h;refine Call_ (Px I o u boot_range (PyProof.Rows.callWith_type1 (YG (n f d s B H _ I h) λF D G C m A g=>?_) (by rw[v,c]) (by rw[c];rfl)))
 obtain⟨i,j,e,⟨g,w,x,y⟩,q⟩:=g;subst e
 cases A with
 | cons r k=>
  cases k with
  | cons z k=>
   cases k;obtain⟨t,rfl⟩:=r;obtain⟨E,rfl⟩:=z;exact call_range_2 (FY m g w x y q)
def Ci(k:TI)(g:TG)(j:TS):TS:=λD a H=>k a H λJ f=>∃ W:Nat->Nat->St->Hp->Prop,(∃ m,W 0 m a f)/\∀ i m a H,W i m a H ->
 (J.stop i H/\D.nx a H)\/(J.go i H/\∃ N:St->Hp->Prop,(∀ c b,N c b->∃ e,e<m/\W (i+1) e c b)/\∀ x b,J.yld i H x b->g x a b λd h=>j { D with nx:=N,ct:=N,bk:=D.nx } d h)
def Oz(a:jw)(h:aD):jv:=a.filterMap λb=>(h.get? b).map λo=>(b,o)
def NN{a:jw}{h:aD}{b:aj}{o:aJ}(c:b∈a)(e:h.get? b=some o):(b,o)∈Oz a h:=xO.mpr ⟨b,c,by rw[e];rfl⟩
def ZKB{a:jw}{h:aD}{p:aj×aJ}(f:p∈Oz a h):p.1∈a/\h.get? p.1=some p.2:=by
 obtain⟨b,d,e⟩:=xO.mp f
 cases q:h.get? b with
 | none=>rw[q] at e;cases e
 | some o=>
  rw[q] at e;have c:(b,o)=p:=zJ.inj e;subst c;exact⟨d,q⟩
def ZE.pinned{a:jv}{h:St}{H:Hp}{s:al}{c:jw}(I:ZE X a h H s)(l:∀ b∈c,VR X a H b)(m:∀ b∈c,∃ o,s.heap.get? b=some o/\∀ v,o.data≠.cell v):ZE X (a++Oz c s.heap) h H s:=
 I.pins_of λp n=>(yM.mp n).elim (λz=>I.pin p (xW _ z)) λz=>by
  obtain⟨g,e⟩:=ZKB z;obtain⟨i,j,k,_⟩:=l p.1 g;obtain⟨o,f,d⟩:=m p.1 g;rw[e] at f;cases f;exact⟨e,i,j,k,d⟩
def ZE.unpinned{a d:jv}{b:St}{H:Hp}{s:al}(I:ZE X (a++d) b H s):ZE X a b H s:=I.pins_of λp c=>I.pin p (xW _ (wO _ c))
def Wo{q:Expr}{C:jO}{wi:TI}{g:TG}{tb:TS}{Y:aK}(L:PassesOwn (aA X.prog X.w) X.A X.env X.xe)(hc:X.calm=true)(hi:PI X tg q wi)(hg:PG X tg g)(p:Xz X C tb)(hs:∀ x,foldedSetIterable q X.env x=pure x:=by intro _;rfl):PS X (.For tg q C [] Y) (Ci wi g tb):=by
 intro a s σ H D I h;refine wpAny_For (Z3 (hi a s σ H _ I h) λv s1 h1=>Z3 h1 λa2 s2 h2=>?_) hs;obtain⟨it,G,tn,J,H2,e,I2,T,a0,f2,W,⟨m0,w0⟩,Q⟩:=h2;subst e;have t:∀{B:Hp},(∀ b∈G,B b=none)->∀ b∈G,VR X a B b:=λhn b p=>⟨hn b p,(f2 b p).2⟩;refine codeAny_forLoop_any (λn s'=>∃ i y B,ZE X a y B s'/\tn i s'.heap/\(∀ b∈G,B b=none)/\W i n y B) ?_ m0 ⟨0,σ,H2,I2,a0,λb p=>(f2 b p).1,w0⟩;rintro n s3 ⟨i,z,R,I3,O,K,w3⟩;rcases Q i n z R w3 with ⟨P,qn⟩ | ⟨go,N,hN,step⟩
 ·refine wpAny_passesOwn L (Z3 (T.done X rfl rfl rfl hc i a s3 z R X.xe I3 (t K) O P) ?_);rintro r s4 ⟨V,I4⟩;subst V;exact wpAny_execs_nil ⟨z,R,I4,qn⟩
 ·refine wpAny_passesOwn L (Z3 (T.item X rfl rfl rfl hc i a s3 z R X.xe I3 (t K) O go) ?_);rintro r s4 ⟨u,V,h4⟩;subst V;refine wpAny_passesOwn L (Z3 h4 ?_);rintro _ s5 ⟨x,H5,I5,r5,y5,F,U⟩;have S:=I5.pinned (t U) (T.obj _ _ F);refine wpAny_passesOwn L (Z3 (hg _ s5 z H5 x u _ S r5 (step x H5 y5)) ?_);rintro _ s6 ⟨a1,H6,I6,q6⟩;refine wpAny_passesOwn L (Z3 (p _ s6 a1 H6 _ I6 q6) λf Z E=>?_);have l:∀{c:St}{j:Hp},ZE X (a++Oz G s5.heap) c j Z->N c j->∃ m,m<n/\∃ i y B,ZE X a y B Z/\tn i Z.heap/\(∀ b∈G,B b=none)/\W i m y B:=fun{c j} k M=>by
   obtain⟨m',hm,w7⟩:=hN c j M;refine⟨m',hm,i+1,c,j,k.unpinned,T.keep _ _ _ F λb p o e=>(k.pin (b,o) (xW _ (xW _ (NN p e)))).1,λb p=>?_,w7⟩;obtain⟨o,e,d⟩:=T.obj _ _ F b p;exact(k.pin (b,o) (xW _ (xW _ (NN p e)))).2.1
  cases f with
  | next=>obtain⟨c,j,k,M⟩:=E;exact l k M
  | cont=>obtain⟨c,j,k,M⟩:=E;exact l k M
  | brk=>obtain⟨c,j,k,E⟩:=E;exact⟨c,j,k.unpinned,E⟩
  | ret v=>obtain⟨x7,c,j,k,r7,E⟩:=E;exact⟨x7,c,j,k.unpinned,r7,E⟩
end
def PM{K:zZ}{a:aj}{xs:jf}{g:TG}{n:TS}{D:Yq}{b:St}{H:Hp}(c:Nat->St->Hp->Prop)(o:c 0 b H)(t:∀ i b H,i<=xs.length->c i b H->ZG K H a xs)(u:∀ i x b H,xs[i]? = some x->c i b H->g x b H λh k=>n { D with nx:=c (i+1),ct:=c (i+1),bk:=D.nx } h k)(r:∀ b H,c xs.length b H->D.nx b H):
  ∃ W:Nat->Nat->St->Hp->Prop,(∃ m,W 0 m b H)/\∀ i m b H,W i m b H ->
   ((N5 K a).stop i H/\D.nx b H)\/((N5 K a).go i H/\∃ N:St->Hp->Prop,(∀ f d,N f d->∃ l,l<m/\W (i+1) l f d)/\∀ x d,(N5 K a).yld i H x d->g x b d λh k=>n { D with nx:=N,ct:=N,bk:=D.nx } h k):=by
 exists λi m b H=>m=xs.length-i/\i<=xs.length/\c i b H,⟨xs.length,by simp,yX _,o⟩
 rintro i m b H ⟨rfl,s,p⟩;have q:=t i b H s p;by_cases j:i<xs.length
 ·refine .inr ⟨⟨xs,xs[i],q,by simp[j]⟩,c (i+1),λf d v=>⟨xs.length-(i+1),by exact sR ‹_› (xV _),rfl,j,v⟩,λx d y=>?_⟩
  obtain⟨e,y⟩:=y;subst e;exact u i x b _ (y xs q) p
 ·have e:i=xs.length:=∅
  subst e;exact .inl ⟨⟨xs,q,zY _⟩,r b H p⟩
def ZNj{K:zZ}{a:aj}{xs:jf}{g:TG}{n:TS}{D:Yq}{b:St}{H:Hp}(c:Nat->St->Hp->Prop)(o:c 0 b H)(t:∀ i b H,i<=xs.length->c i b H->Zh K H a xs)(u:∀ i x b H,xs[i]? = some x->c i b H->g x b H λh k=>n { D with nx:=c (i+1),ct:=c (i+1),bk:=D.nx } h k)(r:∀ b H,c xs.length b H->D.nx b H):
  ∃ W:Nat->Nat->St->Hp->Prop,(∃ m,W 0 m b H)/\∀ i m b H,W i m b H ->
   ((MM K a).stop i H/\D.nx b H)\/((MM K a).go i H/\∃ N:St->Hp->Prop,(∀ f d,N f d->∃ l,l<m/\W (i+1) l f d)/\∀ x d,(MM K a).yld i H x d->g x b d λh k=>n { D with nx:=N,ct:=N,bk:=D.nx } h k):=by
 exists λi m b H=>m=xs.length-i/\i<=xs.length/\c i b H,⟨xs.length,by simp,yX _,o⟩
 rintro i m b H ⟨rfl,s,p⟩;have q:=t i b H s p;by_cases j:i<xs.length
 ·refine .inr ⟨⟨xs,xs[i],q,by simp[j]⟩,c (i+1),λf d v=>⟨xs.length-(i+1),∅,rfl,j,v⟩,λx d y=>?_⟩
  obtain⟨e,y⟩:=y;subst e;exact u i x b _ (y xs q) p
 ·have e:i=xs.length:=∅
  subst e;exact .inl ⟨⟨xs,q,zY _⟩,r b H p⟩
def Pb{lo:Int}{n:Nat}{g:TG}{l:TS}{D:Yq}{a:St}{H:Hp}(c:Nat->St->Hp->Prop)(o:c 0 a H)(r:∀ i a H,i<n->c i a H->g (.int (lo+i)) a H λh j=>l { D with nx:=c (i+1),ct:=c (i+1),bk:=D.nx } h j)(q:∀ a H,c n a H->D.nx a H):
  ∃ W:Nat->Nat->St->Hp->Prop,(∃ m,W 0 m a H)/\∀ i m a H,W i m a H ->
   ((Oi lo n).stop i H/\D.nx a H)\/((Oi lo n).go i H/\∃ N:St->Hp->Prop,(∀ f b,N f b->∃ k,k<m/\W (i+1) k f b)/\∀ x b,(Oi lo n).yld i H x b->g x a b λh j=>l { D with nx:=N,ct:=N,bk:=D.nx } h j):=by
 exists λi m a H=>m=n-i/\i<=n/\c i a H,⟨n,by simp,yX _,o⟩
 rintro i m a H ⟨rfl,t,p⟩;by_cases d:i<n
 ·refine .inr ⟨d,c (i+1),λf b s=>⟨n-(i+1),by exact sR ‹_› (xV _),rfl,d,s⟩,λx b y=>?_⟩
  obtain⟨e,y⟩:=y;subst e y;exact r i a _ d p
 ·have e:i=n:=∅
  subst e;exact .inl ⟨zY _,q a H p⟩
abbrev R2:=V->V->Hp->VK->Prop
def Yu(X:Cx)(f:ai->ai->Sem ai)(r:R2):Prop:=
 ∀(a:jv)(s:al)(b:St)(H:Hp)(x y:V)(v u:ai)(Q:VK),ZE X a b H s->ZW x v->ZW y u->r x y H Q ->
  aB (aA X.prog X.w) X.A (f v u) (EP X a b Q) X.xe s
def Ii(X:Cx)(f:ai->Sem ai)(r:V->Hp->VK->Prop):Prop:=
 ∀(a:jv)(s:al)(b:St)(H:Hp)(x:V)(v:ai)(Q:VK),ZE X a b H s->ZW x v->r x H Q ->
  aB (aA X.prog X.w) X.A (f v) (EP X a b Q) X.xe s
def VI(X:Cx)(f:ai)(r:jf->Hp->VK->Prop):Prop:=
 ∀(a:jv)(s:al)(d:St)(H:Hp)(c:jf)(b:je)(Q:VK),ZE X a d H s->ZT c b->r c H Q ->
  aB (aA X.prog X.w) X.A (call f b) (EP X a d Q) X.xe s
def NY(r:R2)(d e:TE):TE:=λa H Q=>d a H λx b=>e a b λy c=>r x y c Q
def tUn(r:V->Hp->VK->Prop)(b:TE):TE:=λc H Q=>b c H λx a=>r x a Q
inductive rI(C:Int->Int->Prop)(g:Int->Int->V)(x y:V)(H:Hp)(Q:VK):Prop
 |mk(i j:_)(_:x=.int i)(_:y=.int j)(_:C i j)(_:Q (g i j) H)
inductive Pp(g:Int->Int->V)(x y:V)(H:Hp)(Q:VK):Prop
 |mk(i j:_)(_:x=.int i)(_:y=.int j)(_:Q (g i j) H)
inductive rU(g:Int->V)(x:V)(H:Hp)(Q:VK):Prop
 |mk(i:_)(_:x=.int i)(_:Q (g i) H)
section
variable{a b c:Expr}{ta tb tc:TE}{pos:aK}
def K9(o:PE X a ta)(p:PE X b tb){d:jv}{s:al}{g:St}{H:Hp}{R:V->V->Hp->Prop}(I:ZE X d g H s)(h:ta g H λx l=>tb g l λy e=>R x y e){Q:ja}{f:ai->ai->Sem ai}(q:∀ v u k x y e,ZE X d g e k->ZW x v->ZW y u->R x y e->aB (aA X.prog X.w) X.A (f v u) Q X.xe k):
  aB (aA X.prog X.w) X.A (aI a X.env) (λv i=>aB (aA X.prog X.w) X.A (aI b X.env) (λu j=>aB (aA X.prog X.w) X.A (f v u) Q X.xe j) X.xe i) X.xe s:=by
 refine YG (o d s g H _ I h) λv C x l m z r=>?_;refine YG (p d C g l _ m r) λu k y e n B t=>?_;exact q v u k x y e n z B t
def Z0{e:Operator}{r:R2}(k:Yu X (binaryOp e) r)(i:PE X a ta)(j:PE X b tb):PE X (.BinOp a e b pos) (NY r ta tb):=by
 intro d s o H Q I h;exact wpAny_BinOp (K9 i j I h λv u n x y f g l m q=>k d n o f x y v u Q g l m q)
def P6{e:UnaryOp}{r:V->Hp->VK->Prop}(k:Ii X (unaryOp e) r)(j:PE X a ta):PE X (.UnaryOp e a pos) (tUn r ta):=by
 intro d s f H Q I h;exact UnaryOp_ (YG (j d s f H _ I h) λv n x g i m l=>k d n f g x v Q i m l)
def N4{f:ai->ai->Sem ai}{C:Int->Int->Prop}{g:Int->Int->Int}(d:∀ (i j:Int) (t u:Tok) (s:al) (Q:ja) (E:ja),C i j->Q (.int (g i j) s.toks) { s with toks:=s.toks+1 }->aB (aA X.prog X.w) X.A (f (.int i t) (.int j u)) Q E s):
  Yu X f (rI C λi j=>.int (g i j)):=by
 intro e s o H x y v u Q I l m h;obtain⟨i,j,rfl,rfl,k,q⟩:=h;obtain⟨t,rfl⟩:=l;obtain⟨n,rfl⟩:=m;exact d i j t n s _ _ k ⟨.int (g i j),H,I.tok _,⟨_,rfl⟩,q⟩
def Hm{f:ai->ai->Sem ai}{g:Int->Int->Int}(d:∀ (i j:Int) (t u:Tok) (s:al) (Q:ja) (E:ja),Q (.int (g i j) s.toks) { s with toks:=s.toks+1 }->aB (aA X.prog X.w) X.A (f (.int i t) (.int j u)) Q E s):
  Yu X f (Pp λi j=>.int (g i j)):=by
 intro e s n H x y v u Q I k l h;obtain⟨i,j,rfl,rfl,q⟩:=h;obtain⟨t,rfl⟩:=k;obtain⟨m,rfl⟩:=l;exact d i j t m s _ _ ⟨.int (g i j),H,I.tok _,⟨_,rfl⟩,q⟩
def Ld{f:ai->ai->Sem ai}{g:Int->Int->Bool}(d:∀ (i j:Int) (t u:Tok) (s:al) (Q:ja) (E:ja),Q (.bool (g i j)) s->aB (aA X.prog X.w) X.A (f (.int i t) (.int j u)) Q E s):
  Yu X f (Pp λi j=>.bl (g i j)):=by
 intro e s n H x y v u Q I k l h;obtain⟨i,j,rfl,rfl,q⟩:=h;obtain⟨t,rfl⟩:=k;obtain⟨m,rfl⟩:=l;exact d i j t m s _ _ ⟨.bl (g i j),H,I,rfl,q⟩
def B5(i j:Int):Prop:=0<j/\j<1073741824
def ZQd(i j:Int):Prop:=0<=j/\j<=1000000/\i.natAbs<2 ^ 64
def Pj(i j:Int):Prop:=(-(2 ^ 64)<i/\i<2 ^ 64)\/(-(2 ^ 64)<j/\j<2 ^ 64)
def Pj.ok{i j:Int}(h:Pj i j):IntMulOk i j:=by
 rcases h with ⟨d,e⟩ | ⟨d,e⟩
 ·exact .of_left (intBits_le_64 d e)
 ·exact .of_right (intBits_le_64 d e)
def WZ:Yu X (binaryOp .Add) (Pp λi j=>.int (i+j)):=Hm λ_ _ _ _ _ _ _ q=>add_int q
def QP:Yu X (binaryOp .Sub) (Pp λi j=>.int (i-j)):=Hm λ_ _ _ _ _ _ _ q=>sub_int q
def Od:Yu X (binaryOp .Mult) (rI Pj λi j=>.int (i * j)):=N4 λ_ _ _ _ _ _ _ d q=>mul_int q d.ok
def M8:Yu X (binaryOp .FloorDiv) (rI B5 λi j=>.int (i / j)):=N4 λi j _ _ _ _ _ d q=>by
 have e:(0:Int)<j:=d.1;have f:j<1073741824:=d.2;exact floordiv_int ∅ (by rw[rG i ∅];exact q) (.inl (PyProof.noPylong_small ∅))
def Qt:Yu X (binaryOp .Mod) (rI (λ_ j=>0<j) λi j=>.int (i % j)):=N4 λi j _ _ _ _ _ d q=>by
 exact mod_int' ∅ (by rw[Int.fmod_eq_emod_of_nonneg i ∅];exact q)
def Fk:Yu X (binaryOp .Pow) (rI ZQd λi j=>.int (i ^ j.toNat)):=N4 λ_ _ _ _ _ _ _ d q=>pow_int_small d.1 d.2.1 d.2.2 q
def Dk{f:ai->Sem ai}{g:Int->Int}(d:∀ (i:Int) (t:Tok) (s:al) (Q:ja) (E:ja),Q (.int (g i) s.toks) { s with toks:=s.toks+1 }->aB (aA X.prog X.w) X.A (f (.int i t)) Q E s):
  Ii X f (rU λi=>.int (g i)):=by
 intro e s k H x v Q I j h;obtain⟨i,rfl,q⟩:=h;obtain⟨t,rfl⟩:=j;exact d i t s _ _ ⟨.int (g i),H,I.tok _,⟨_,rfl⟩,q⟩
def Pt:Ii X (unaryOp .USub) (rU λi=>.int (-i)):=Dk λ_ _ _ _ _ q=>neg_int q
end
def EM:V->V->Bool
 | .non,.non=>true | .non,.int _=>true | .int _,.non=>true | .non,.bl _=>true | .bl _,.non=>true | .non,.str _=>true | .str _,.non=>true
 | .int _,.int _=>true | .bl _,.bl _=>true | .str _,.str _=>true | .byt _,.byt _=>true
 | .int _,.str _=>true | .str _,.int _=>true | .bl _,.str _=>true | .str _,.bl _=>true
 | _,_=>false
def AW:R2:=λx y H Q=>EM x y=true/\Q (.bl (decide (x=y))) H
def AQ:R2:=λx y H Q=>EM x y=true/\Q (.bl (!decide (x=y))) H
def FW{i j:Int}:decide (V.int i=V.int j)=(i==j):=by
 rw[wS];simp
def Eb{i j:Bool}:decide (V.bl i=V.bl j)=(i==j):=by
 rw[wS];simp
def GH{i j:Str}:decide (V.str i=V.str j)=(i==j):=by
 rw[wS];simp
def Fl{i j:Array UInt8}:decide (V.byt i=V.byt j)=(i.toList==j.toList):=by
 rw[wS];cases i;cases j;simp
section
variable{a b c:Expr}{ta tb tc:TE}{pos:aK}
def Yr{d:jv}{g:St}{H:Hp}{s:al}{Q:VK}{k f:Bool}(I:ZE X d g H s)(q:Q (.bl k) H)(e:k=f):EP X d g Q (.bool f) s:=by
 subst e;exact⟨.bl k,H,I,rfl,q⟩
def VT:Yu X (az .Eq) AW:=by
 intro k s l H x y v u Q I g d h;obtain⟨f,q⟩:=h
 cases x with
 | non=>
  cases g
  cases y with
  | non=>cases d;exact PySem.EqNone.eq_none_none (Yr I q (by simp))
  | bl j=>cases d;exact PySem.EqNone.eq_none_bool (Yr I q (by simp))
  | int j=>obtain⟨e,rfl⟩:=d;exact PySem.EqNone.eq_none_int (Yr I q (by simp))
  | str j=>obtain⟨e,rfl⟩:=d;exact PySem.EqNone.eq_none_str (Yr I q (by simp))
  | _=>exact absurd (show false=true from f) zT
 | bl i=>
  cases g
  cases y with
  | non=>cases d;exact PySem.EqNone.eq_bool_none (Yr I q (by simp))
  | bl j=>cases d;exact eq_bool (Yr I q Eb)
  | str j=>obtain⟨e,rfl⟩:=d;exact PySem.EqMixed.eq_bool_str (Yr I q (by simp))
  | _=>exact absurd (show false=true from f) zT
 | int i=>
  obtain⟨t,rfl⟩:=g
  cases y with
  | non=>cases d;exact PySem.EqNone.eq_int_none (Yr I q (by simp))
  | int j=>obtain⟨e,rfl⟩:=d;exact eq_int (Yr I q FW)
  | str j=>obtain⟨e,rfl⟩:=d;exact PySem.EqMixed.eq_int_str (Yr I q (by simp))
  | _=>exact absurd (show false=true from f) zT
 | str i=>
  obtain⟨t,rfl⟩:=g
  cases y with
  | non=>cases d;exact PySem.EqNone.eq_str_none (Yr I q (by simp))
  | bl j=>cases d;exact PySem.EqMixed.eq_str_bool (Yr I q (by simp))
  | int j=>obtain⟨e,rfl⟩:=d;exact PySem.EqMixed.eq_str_int (Yr I q (by simp))
  | str j=>obtain⟨e,rfl⟩:=d;exact eq_str (Yr I q GH)
  | _=>exact absurd (show false=true from f) zT
 | byt i=>
  obtain⟨t,rfl⟩:=g
  cases y with
  | byt j=>obtain⟨e,rfl⟩:=d;exact PySem.W.eq_bytes (Yr I q Fl)
  | _=>exact absurd (show false=true from f) zT
 | _=>cases y <;> exact absurd (show false=true from f) zT
def PZ:Yu X (az .NotEq) AQ:=by
 intro k s l H x y v u Q I g d h;obtain⟨f,q⟩:=h
 cases x with
 | non=>
  cases g
  cases y with
  | non=>cases d;exact PySem.EqNone.ne_none_none (Yr I q (by simp))
  | bl j=>cases d;exact PySem.EqNone.ne_none_bool (Yr I q (by simp))
  | int j=>obtain⟨e,rfl⟩:=d;exact PySem.EqNone.ne_none_int (Yr I q (by simp))
  | str j=>obtain⟨e,rfl⟩:=d;exact PySem.EqNone.ne_none_str (Yr I q (by simp))
  | _=>exact absurd (show false=true from f) zT
 | bl i=>
  cases g
  cases y with
  | non=>cases d;exact PySem.EqNone.ne_bool_none (Yr I q (by simp))
  | bl j=>cases d;exact ne_bool (Yr I q (congrArg not Eb))
  | str j=>obtain⟨e,rfl⟩:=d;exact PySem.EqMixed.ne_bool_str (Yr I q (by simp))
  | _=>exact absurd (show false=true from f) zT
 | int i=>
  obtain⟨t,rfl⟩:=g
  cases y with
  | non=>cases d;exact PySem.EqNone.ne_int_none (Yr I q (by simp))
  | int j=>obtain⟨e,rfl⟩:=d;exact ne_int (Yr I q (congrArg not FW))
  | str j=>obtain⟨e,rfl⟩:=d;exact PySem.EqMixed.ne_int_str (Yr I q (by simp))
  | _=>exact absurd (show false=true from f) zT
 | str i=>
  obtain⟨t,rfl⟩:=g
  cases y with
  | non=>cases d;exact PySem.EqNone.ne_str_none (Yr I q (by simp))
  | bl j=>cases d;exact PySem.EqMixed.ne_str_bool (Yr I q (by simp))
  | int j=>obtain⟨e,rfl⟩:=d;exact PySem.EqMixed.ne_str_int (Yr I q (by simp))
  | str j=>obtain⟨e,rfl⟩:=d;exact ne_str (Yr I q (congrArg not GH))
  | _=>exact absurd (show false=true from f) zT
 | byt i=>
  obtain⟨t,rfl⟩:=g
  cases y with
  | byt j=>obtain⟨e,rfl⟩:=d;exact PySem.W.ne_bytes (Yr I q (congrArg not Fl))
  | _=>exact absurd (show false=true from f) zT
 | _=>cases y <;> exact absurd (show false=true from f) zT
def NU:Yu X (az .Lt) (Pp λi j=>.bl (decide (i<j))):=Ld λ_ _ _ _ _ _ _ q=>lt_int q
def Ux:Yu X (az .LtE) (Pp λi j=>.bl (decide (i<=j))):=Ld λ_ _ _ _ _ _ _ q=>le_int q
def P2:Yu X (az .Gt) (Pp λi j=>.bl (decide (j<i))):=Ld λ_ _ _ _ _ _ _ q=>gt_int q
def ZP6:Yu X (az .GtE) (Pp λi j=>.bl (decide (j<=i))):=Ld λ_ _ _ _ _ _ _ q=>ge_int q
def YE(b:Expr){d:CmpOp}(h:d≠.In:=by decide)(g:d≠.NotIn:=by decide):behindInMarks d b=false:=by
 have e:(d==CmpOp.In)=false:=by cases d <;> first | rfl | exact absurd rfl h
 have f:(d==CmpOp.NotIn)=false:=by cases d <;> first | rfl | exact absurd rfl g
 cases b <;> simp[behindInMarks,e,f]
def V1{e:CmpOp}{r:R2}(l:Yu X (az e) r)(i:PE X a ta)(j:PE X b tb)(k:behindInMarks e b=false):PE X (.Compare a [e] [b] pos) (NY r ta tb):=by
 intro d s p H Q I h;exact wpAny_Compare1 (K9 i j I h λv u o x y f g m n q=>l d o p f x y v u Q g m n q) k
inductive Of(Q:Bool->Hp->Prop)(x:V)(d:Hp):Prop
 |mk(k:_)(_:x=.bl k)(_:Q k d)
def Gh(t:TE):TT:=λe H Q=>t e H λx d=>Of Q x d
def Yh{f:CmpOp}{r:R2}(w:Yu X (az f) r)(p:PE X a ta)(q:PE X b tb)(t:behindInMarks f b=false):PT X (.Compare a [f] [b] pos) (Gh (NY r ta tb)):=by
 intro d s g H Q I h;refine wpAny_isTrue_Compare1 (YG (p d s g H _ I h) λv G x i m D A=>YG (q d G g i _ m A) λu J y j n E B=>
  Z3 (w d J g j x y v u _ n D E B) λc K ⟨z,l,o,F,k,e,C⟩=>?_) t
 subst e;cases F;exact wpAny_truthy_bool ⟨l,o,C⟩
inductive Q9(f:R2)(tc:TE)(h:L2.St)(Q:VK)(y z:V)(d:Hp):Prop
 |mk(k:_)(_:z=.bl k)(_:if k=true then tc h d λg e=>f y g e Q else Q (.bl false) d)
def G1(r h:R2)(ta tb tc:TE):TE:=λd H Q=>ta d H λx e=>tb d e λy f=>r x y f λz g=>Q9 h tc d Q y z g
def CV{l g:CmpOp}{r p:R2}(K:Yu X (az l) r)(j:Yu X (az g) p)(E:PE X a ta)(F:PE X b tb)(G:PE X c tc)(J:lastMarks [l,g] [b,c]=false:=by with_unfolding_all rfl):PE X (.Compare a [l,g] [b,c] pos) (G1 r p ta tb tc):=by
 intro f s i H Q I h;refine Compare_chain (YG (E f s i H _ I h) λv S x t B O L=>chain_link (YG (F f S i t _ B L) λu T y w C q M=>
  Z3 (K f T i w x y v u _ C O q M) λd U ⟨z,m,n,P,k,e,o⟩=>?_)) J
 subst e;cases P;refine wpAny_truthy_bool ?_
 cases k with
 | false=>exact ite_ff ⟨.bl false,m,n,rfl,o⟩
 | true=>exact ite_tt (chain_last (YG (G f U i m _ n o) λW V Y A D R N=>j f V i A y Y u W Q D q R N))
def LC{l g:CmpOp}{r p:R2}(O:Yu X (az l) r)(j:Yu X (az g) p)(K:PE X a ta)(L:PE X b tb)(M:PE X c tc)(N:lastMarks [l,g] [b,c]=false:=by with_unfolding_all rfl):PT X (.Compare a [l,g] [b,c] pos) (Gh (G1 r p ta tb tc)):=by
 intro f s i H Q I h;refine isTrue_chain (YG (K f s i H _ I h) λv s1 x t C V R=>test_link (YG (L f s1 i t _ C R) λu s2 y w D q S=>
  Z3 (O f s2 i w x y v u _ D V q S) λd s3 ⟨z,m,n,W,k,e,o⟩=>?_)) N
 subst e;cases W;refine wpAny_truthy_bool ?_
 cases k with
 | false=>
  obtain⟨k',G,P⟩:=o;cases G;exact ite_ff ⟨m,n,P⟩
 | true=>
  refine ite_tt (test_last (YG (M f s3 i m _ n o) λw' s4 z' A E Y T=>Z3 (j f s4 i A y z' u w' _ E q Y T) λd' s5 ⟨z2,B,F,Z,k2,J,U⟩=>?_));subst J;cases Z;exact wpAny_truthy_bool ⟨B,F,U⟩
def NC:(aq:Nat)<2 ^ 63:=by rw[sizeLine_eq];decide
inductive Vc(x y:V)(H:Hp)(Q:VK):Prop
 |mk(i j:_)(_:x=.str i)(_:y=.str j)(_:i.length+j.length<=aq)(_:Q (.str (i++j)) H)
def KB:Yu X (binaryOp .Add) (Vc):=by
 intro d s m H x y v u Q I f g h;obtain⟨i,j,rfl,rfl,e,q⟩:=h;obtain⟨t,rfl⟩:=f;obtain⟨k,rfl⟩:=g;exact add_str (λk l=>⟨.str (i++j),H,I.tok _,⟨_,rfl⟩,q⟩) e
def VY{x:V}{d:je}(r:ZT [x] d):∃ u,d=[u]/\ZW x u:=by
 cases r with
 | cons e f=>cases f;exact⟨_,rfl,e⟩
def Mm{x y:V}{d:je}(r:ZT [x,y] d):∃ u e,d=[u,e]/\ZW x u/\ZW y e:=by
 cases r with
 | cons f g=>
  cases g with
  | cons h i=>cases i;exact⟨_,_,rfl,f,h⟩
inductive Um(d:jf)(H:Hp)(Q:VK):Prop
 |mk(i:_)(_:d=[.int i])(_:Q (.int (if i<0 then -i else i)) H)
def Kg:VI X (.builtin "abs") (Um):=by
 intro d s j H g f Q I r h;obtain⟨i,rfl,q⟩:=h;obtain⟨u,rfl,t,rfl⟩:=VY r;exact call_abs_int λu e=>⟨.int (if i<0 then -i else i),H,I.tok _,⟨_,rfl⟩,q⟩
inductive UC(d:jf)(H:Hp)(Q:VK):Prop
 |mk(i j:_)(_:d=[.int i,.int j])(_:Q (.int (if j > i then j else i)) H)
def GL(f:X.calm=true):VI X (.builtin "max") (UC):=by
 intro e s v H p n Q I r h;obtain⟨i,j,rfl,q⟩:=h;obtain⟨u,o,rfl,⟨t,rfl⟩,⟨l,rfl⟩⟩:=Mm r;refine max_two_ints (I.ok.hd f) λg m k=>⟨_,H,I.kept k,?_,q⟩;by_cases d:j > i
 ·rw[aQ d,aQ d];exact⟨_,rfl⟩
 ·rw[aP d,aP d];exact⟨_,rfl⟩
inductive UE(d:jf)(H:Hp)(Q:VK):Prop
 |mk(i j:_)(_:d=[.int i,.int j])(_:Q (.int (if j<i then j else i)) H)
def ZI9(f:X.calm=true):VI X (.builtin "min") (UE):=by
 intro e s v H p n Q I r h;obtain⟨i,j,rfl,q⟩:=h;obtain⟨u,o,rfl,⟨t,rfl⟩,⟨l,rfl⟩⟩:=Mm r;refine min_two_ints (I.ok.hd f) λg m k=>⟨_,H,I.kept k,?_,q⟩;by_cases d:j<i
 ·rw[aQ d,aQ d];exact⟨_,rfl⟩
 ·rw[aP d,aP d];exact⟨_,rfl⟩
def F6:VI X (.type "int") (λd H Q=>(∃ i,d=[.int i]/\Q (.int i) H)\/∃ k,d=[.bl k]/\Q (.int (if k then 1 else 0)) H):=by
 intro e s j H d g Q I r h;rcases h with ⟨i,rfl,q⟩ | ⟨k,rfl,q⟩
 ·obtain⟨u,rfl,t,rfl⟩:=VY r;exact call_int_int ⟨.int i,H,I,⟨_,rfl⟩,q⟩
 ·obtain⟨u,rfl,f⟩:=VY r;cases f;exact call_int_bool ⟨.int (if k then 1 else 0),H,I.tok _,⟨_,rfl⟩,q⟩
end
structure UK(h:aD)(x dx C:aj)(mA:jc):Prop where
 obj:h.get? x=some (wQ C dx)
 ns:h.Ns1 dx mA
 ne:dx≠x
def EG{h:aD}{d:aj}{g:jc}(n:h.Ns1 d g):∃ i,h.get? d=some i/\∀ b,vM b i=some (g b):=by
 obtain⟨o,f,s,p,k,l,_,m⟩:=n;exists o,p;intro b;have e:=m b;unfold nsFind findBy at e;rw[<-Array.find?_toList] at e;unfold vM;rw[k];dsimp only;split
 ·rename_i y q
  rw[q] at e;exact congrArg some e
 ·rename_i q
  rw[q] at e;have a:f.toList.any (·.refKey)=false:=by
   rw[List.any_eq_false];intro y r;obtain⟨z,t,c⟩:=l y (rP.mp r);simp[DictEntry.refKey,c]
  have j:¬ f.toList.any (·.refKey)=true:=by rw[a];exact zT
  rw[aP j];exact congrArg some e
def UK.look{h:aD}{x c C:aj}{d:jc}(I:UK h x c C d):∃ b,tH h x (wQ C c) C (some b)/\∀ a,vM a b=some (d a):=
 let ⟨b,ho,hl⟩:=EG I.ns
 ⟨b,⟨I.obj,rfl,rfl,ho⟩,hl⟩
section
variable{prog:am}{w:aw}{A:ax}{E:ja}{s:al}{K:zZ}{x dx C f:aj}{mA:jc}{name:Str}{v:ai}
def At{a:Bool}{Q:ja}(X:K.In s.heap)(I:UK s.heap x dx C mA)(d:vY K C name=true)(e:wH K C=true)(c:zC K (.ref C) name=some none)(i:mA name=some v)(b:PySem.W.handedIn v=true)(h:Q v { s with toks:=s.toks+1 }):
  aB (aA prog w) A (getAttr (.ref x) name a) Q E s:=by
 obtain⟨j,J,g⟩:=I.look;exact PySem.W.get_value X J (sJ d).1 (PySem.W.findObj_own e c rfl (by rw[g,i])) b h
def ZKk{i:Sem Bool}{Q:ai×je->al->Prop}(X:K.In s.heap)(I:UK s.heap x dx C mA)(a:vY K C name=true)(b:zC K (.ref C) name=some (some (.ref f)))(d:wT K (.ref f)=true)(e:mA name=none)(h:Q (.ref f,[.ref x]) s):
  aB (aA prog w) A (getMethod (.ref x) name i) Q E s:=by
 obtain⟨g,J,c⟩:=I.look;exact PySem.W.method_fn X J (sJ a).1 (sJ a).2 b (beq_iff_eq.mp d) (by show (vM name g).map (·.isSome)=some false;rw[c,e];rfl) h
def ZMS{l:ju}{Q:Unit->al->Prop}(X:K.In s.heap)(I:UK s.heap x dx C mA)(t:zC K (.ref C) "__setattr__" = some (some (.builtin "object.__setattr__")))(q:uL K C=true)(z:rV K C name=some none)(p:wH K C=true)(B:PySem.Within mA l)(u:l.length<=aq)(h:∀ e,UK e x dx C (λy=>if y=name then some v else mA y)->wK dx s.heap e->Q () { s with heap:=e,toks:=s.toks+2 }):
  aB (aA prog w) A (setAttr (.ref x) name v) Q E s:=by
 obtain⟨L,J,G⟩:=I.look;refine PySem.W.set_plain X J t (PySem.W.osa_open (s:={ s with toks:=s.toks+1 }) (r:=none) X J q z λb=>?_);obtain⟨F,o,i⟩:=uO p;have D:s.heap.get? x=some ⟨.ref C,some dx,.plain,#[]⟩:=I.obj;refine aa (ad (aa (aa (wpAny_loadPart D (aa (yJ.here (s:={ s with toks:=s.toks+1 }) (sK X o) ?_))))));rw[i];refine ad (a:=some dx) (aa (ad (aa ?_)));refine wpAny_nsSet1 (s:={ s with toks:=s.toks+1 }) I.ns λe c d=>?_;obtain⟨H,n,m,k,j,g⟩:=c.count (PySem.Within.cons name v B);refine aa (wpAny_lookBehind k (by rw[j];exact pastItsLine_dict (zD g (by rw[yY];lia))) ?_)
 exact ad (h _ ⟨(d.2 _ (Ne.symm I.ne)).trans I.obj,c,I.ne⟩ d)
def ZLK{R:Result->al->Prop}{c:je}{b:jL}(X:K.In s.heap)(j:uQ K C=true)(i:zC K (.ref C) "__init__" = some (some (.ref f)))(e:yQ K (.ref f)=some (.type "function"))(h:aH (aA prog w) (A.under (.builtin "type.__call__" ⟨.ref C::c,b⟩)) (.call (.ref f) ⟨.ref (s.heap.objs.size+1)::c,b⟩) (PySem.W.InitBack (s.heap.objs.size+1) R)
   { s with heap:=(s.heap.push wX).push (wQ C s.heap.objs.size) }):
  aH (aA prog w) A (.call (.ref C) ⟨c,b⟩) R s:=by
 obtain⟨k,g,d,t,l⟩:=s;exact PySem.W.make_core (PySem.W.makes_of X j) (tV X i) (λa=>PySem.W.bind_fn X a e) (.inl rfl) h
end
def Y7(f:Str)(v:V):List (Str×V)->List (Str×V)
 | []=>[(f,v)]
 | (g,x)::r=>if g=f then (g,v)::r else (g,x)::Y7 f v r
def Fx(f g:Str)(v:V):∀ c:List (Str×V),(Y7 f v c).lookup g=if g=f then some v else c.lookup g
 | []=>by
  show xN g [(f,v)]=_;by_cases h:g=f
  ·have a:(g==f)=true:=beq_iff_eq.mpr h;simp only[xN,a,aQ h]
  ·have a:(g==f)=false:=beq_eq_false_iff_ne.mpr h;simp only[xN,a,aP h]
 | (k,x)::r=>by
  have d:=Fx f g v r;rw[show Y7 f v ((k,x)::r)=(if k=f then (k,v)::r else (k,x)::Y7 f v r) from rfl]
  by_cases b:k=f
  ·rw[aQ b];by_cases h:g=k
   ·have a:(g==k)=true:=beq_iff_eq.mpr h;simp only[xN,a,aQ (h.trans b)]
   ·have a:(g==k)=false:=beq_eq_false_iff_ne.mpr h;simp only[xN,a,aP (λe:g=f=>h (e.trans b.symm))]
  ·rw[aP b];by_cases h:g=k
   ·have a:(g==k)=true:=beq_iff_eq.mpr h;simp only[xN,a,aP (λe:g=f=>b (h.symm.trans e))]
   ·have a:(g==k)=false:=beq_eq_false_iff_ne.mpr h;simp only[xN,a];exact d
def KM(f:Str)(v:V):∀ a:List (Str×V),f∈(Y7 f v a).map (·.1)/\∀ g,g∈a.map (·.1)->g∈(Y7 f v a).map (·.1)
 | []=>⟨by simp[Y7],λg h=>by simp at h⟩
 | (k,x)::r=>by
  obtain⟨c,d⟩:=KM f v r;rw[show Y7 f v ((k,x)::r)=(if k=f then (k,v)::r else (k,x)::Y7 f v r) from rfl]
  by_cases b:k=f
  ·rw[aQ b];subst b;exact⟨by simp,λg h=>by simpa using h⟩
  ·rw[aP b];refine⟨?_,λg h=>?_⟩
   ·rw[yI];exact zH _ c
   ·rw[yI] at h⊢;rcases zG.mp h with e | e
    ·exact zG.mpr (.inl e)
    ·exact zH _ (d g e)
def Gp(f:Str)(v:V):∀ a:List (Str×V),(Y7 f v a).length<=a.length+1
 | []=>by simp[Y7]
 | (k,x)::r=>by
  have c:=Gp f v r;rw[show Y7 f v ((k,x)::r)=(if k=f then (k,v)::r else (k,x)::Y7 f v r) from rfl]
  by_cases b:k=f
  ·rw[aQ b,yY,yY];lia
  ·rw[aP b,yY,yY];lia
def Yn.some_of{v:V}{o:jd}(r:Yn (some v) o):∃ u,o=some u/\ZW v u:=by
 cases o with
 | none=>exact(show False from r).elim
 | some u=>exact⟨u,rfl,r⟩
def Yn.none_of{o:jd}(r:Yn none o):o=none:=by
 cases o with
 | none=>rfl
 | some u=>exact(show False from r).elim
def Gm{v:V}{u:ai}(r:ZW v u):PySem.W.handedIn u=true:=by
 cases v with
 | non=>cases(show u=Value.none from r);rfl
 | bl b=>cases(show u=Value.bool b from r);rfl
 | int i=>obtain⟨t,e⟩:=(show ∃ t,u=Value.int i t from r);cases e;rfl
 | str x=>obtain⟨t,e⟩:=(show ∃ t,u=Value.str x t from r);cases e;rfl
 | byt b=>obtain⟨t,e⟩:=(show ∃ t,u=Value.bytes b t from r);cases e;rfl
 | flt b=>obtain⟨t,e⟩:=(show ∃ t,u=Value.float b t from r);cases e;rfl
 | ref a=>cases(show u=Value.ref a from r);rfl
 | ty n=>cases(show u=Value.type n from r);rfl
section
variable{P:am}{w:aw}{H H':Hp}{h h':aD}{a C dx:aj}{fs fs':List (Str×V)}
def Mz(c:YW P w H h)(e:H a=some (.ins C dx fs)):∃ b,UK h a dx C b/\(∀ f,Yn (fs.lookup f) (b f))/\PySem.Within b (fs.map (·.1))/\fs.length<=1000/\H dx=some (.own a):=by
 obtain⟨d,z,g,i,b,n,r,q⟩:=(show Zd P w H h a (.ins C dx fs) from c a _ e);exact⟨b,⟨i,n,g⟩,r,q,z,d⟩
end
structure Wg(K:zZ)(C:aj):Prop where
 pg:vY K C Str.empty=true
 hd:wH K C=true
 po:uL K C=true
 sa:zC K (.ref C) "__setattr__" = some (some (.builtin "object.__setattr__"))
def Wg.get{K:zZ}{C:aj}(c:Wg K C)(f:Str):vY K C f=true:=c.pg
def YF(K:zZ)(C:aj)(f:Str):Prop:=zC K (.ref C) f=some none
def YF.taker{K:zZ}{C:aj}{f:Str}(n:YF K C f):rV K C f=some none:=by
 unfold rV;rw[show zC K (.ref C) f=some none from n];rfl
structure UG(K:zZ)(C:aj)(m:Str)(f:aj):Prop where
 at_:zC K (.ref C) m=some (some (.ref f))
 fn:wT K (.ref f)=true
 kp:yW K (.ref f)=true
section
variable{kh:jv}{σ:St}{H:Hp}{s:al}{a C dx:aj}{fs:List (Str×V)}{f:Str}{v:V}{A:ax}{E:ja}
def Fc{b:Bool}{Q:ja}(I:ZE X kh σ H s)(e:H a=some (.ins C dx fs))(c:Wg X.K C)(n:YF X.K C f)(l:fs.lookup f=some v)(h:∀ u g,ZE X kh σ H g->ZW v u->Q u g):aB (aA X.prog X.w) A (getAttr (.ref a) f b) Q E s:=by
 obtain⟨j,O,r,_,_,_⟩:=Mz I.hok e;obtain⟨u,i,d⟩:=Yn.some_of (v:=v) (o:=j f) (by rw[<-l];exact r f)
 exact At I.kIn O (c.get f) c.hd n i (Gm d) (h u _ (I.tok _) d)
def Lj{m:Str}{g:aj}{i:Sem Bool}{Q:ai×je->al->Prop}(I:ZE X kh σ H s)(e:H a=some (.ins C dx fs))(c:Wg X.K C)(k:UG X.K C m g)(l:fs.lookup m=none)(h:Q (.ref g,[.ref a]) s):aB (aA X.prog X.w) A (getMethod (.ref a) m i) Q E s:=by
 obtain⟨d,O,r,_,_,_⟩:=Mz I.hok e;have b:d m=none:=Yn.none_of (by rw[<-l];exact r m)
 exact ZKk I.kIn O (c.get m) k.at_ k.fn b h
def HM{y:V}{u:ai}{Q:Unit->al->Prop}(I:ZE X kh σ H s)(e:H a=some (.ins C dx fs))(c:Wg X.K C)(n:YF X.K C f)(J:fs.length<1000)(F:ZW y u)(h:∀ k,ZE X kh σ (upd H a (.ins C dx (Y7 f y fs))) k->Q () k):aB (aA X.prog X.w) A (setAttr (.ref a) f u) Q E s:=by
 obtain⟨j,O,r,l,_,i⟩:=Mz I.hok e;have D:(fs.map (·.1)).length<=sizeLine:=by rw[zX,sizeLine_eq];lia
 refine ZMS I.kIn O c.sa c.po n.taker c.hd l D λm d G=>h _ ?_;have t:∃ o,m.get? dx=some o:=let ⟨o,_,_,e',_⟩:=d.ns;⟨o,e'⟩;refine I.write (x:=a) (e:=dx) (by rw[e];exact True.intro) (.inr i) (λb q p z=>(G.2 b p).trans z) t ?_
 refine⟨by rw[ZO O.ne];exact i,?_,O.ne,d.obj,_,d.ns,λg=>?_,λg B=>?_⟩
 ·have:=Gp f y fs;lia
 ·show Yn ((Y7 f y fs).lookup g) (if g=f then some u else j g)
  rw[Fx];by_cases q:g=f
  ·rw[aQ q,aQ q];exact F
  ·rw[aP q,aP q];exact r g
 ·by_cases q:g=f
  ·rw[q];exact(KM f y fs).1
  ·refine(KM f y fs).2 g (l g λz=>B ?_);show (if g=f then some u else j g)=none
   rw[aP q];exact z
def ZE.made(I:ZE X kh σ H s):ZE X kh σ (upd (upd H s.heap.objs.size (.own (s.heap.objs.size+1))) (s.heap.objs.size+1) (.ins C s.heap.objs.size []))
  { s with heap:=(s.heap.push wX).push (wQ C s.heap.objs.size) }:=by
 have c:(s.heap.push wX).get? s.heap.objs.size=some wX:=yT s.heap rfl;have h:((s.heap.push wX).push (wQ C s.heap.objs.size)).get? (s.heap.objs.size+1)=some (wQ C s.heap.objs.size):=by
  have:=yT (s.heap.push wX) (o:=wQ C s.heap.objs.size) rfl
  rwa [vQ] at this
 have i:(s.heap.push wX).Ns s.heap.objs.size (λ_=>none):=⟨wX,#[],_,c,rfl,(λe j=>absurd j (by simp)),λ_=>rfl⟩
 have g:=I.laid (a:=s.heap.objs.size) (o:=.own (s.heap.objs.size+1)) (h':=s.heap.push wX) (t':=s.toks) (λb u q=>zS _ q) (zY _) ⟨_,c⟩;refine g.laid (a:=s.heap.objs.size+1) (o:=.ins C s.heap.objs.size []) (t':=s.toks) (λb u q=>zS _ q) (wC (vQ _ _)) ?_;have d:s.heap.objs.size≠s.heap.objs.size+1:=zL (xV _);refine⟨by rw[ZO d,ZR],yX _,d,h,λ_=>none,(Heap.Ns1.of_empty i).at λo q=>zS _ q,λ_=>True.intro,λy k=>absurd rfl k⟩
def H0{c:am}{w:aw}{b:Env}{e:Expr}{f:Str}{g:aK}{s:al}{Q:ja}(i:attributeBase e f b (aI e b)=aI e b)(h:aB (aA c w) A (aI e b) (λo d=>aB (aA c w) A (getAttr o f true) Q E d) E s):aB (aA c w) A (aI (.Attribute e f g) b) Q E s:=
 Attribute_any_ h (by rw[arm_eval_Attribute,i])
end
inductive Nh(K:zZ)(f:Str)(Q:VK)(x:V)(b:Hp):Prop
 |mk(a C d c v:_)(_:x=.ref a)(_:b a=some (.ins C d c))(_:Wg K C)(_:YF K C f)(_:c.lookup f=some v)(_:Q v b)
def Au(K:zZ)(b:TE)(f:Str):TE:=λc H Q=>b c H λx a=>Nh K f Q x a
inductive Mf(K:zZ)(f:Str)(D:Yq)(e:L2.St)(y x:V)(c:Hp):Prop
 |mk(a C d b:_)(_:x=.ref a)(_:c a=some (.ins C d b))(_:Wg K C)(_:YF K C f)(_:b.length<1000)(_:D.nx e (upd c a (.ins C d (Y7 f y b))))
def AH(K:zZ)(d e:TE)(f:Str):TS:=λD a H=>e a H λy b=>d a b λx c=>Mf K f D a y x c
def Kp(X:Cx)(c:Operator)(rd:V->V->Hp->VK->Prop):Prop:=
 ∀(a:jv)(s:al)(b:St)(H:Hp)(x y:V)(u v:ai)(Q:VK),ZE X a b H s->ZW x u->ZW y v->rd x y H Q->aB (aA X.prog X.w) X.A (inplaceOp c u v) (EP X a b Q) X.xe s
inductive QB(K:zZ)(k:TE)(rd:V->V->Hp->VK->Prop)(f:Str)(D:Yq)(h:L2.St)(x:V)(d:Hp):Prop
 |mk(a C j g v:_)(_:x=.ref a)(_:d a=some (.ins C j g))(_:Wg K C)(_:YF K C f)(_:g.lookup f=some v)(_:k h d λy i=>rd v y i λz e=>∃ c b,e a=some (.ins C c b)/\b.length<1000/\D.nx h (upd e a (.ins C c (Y7 f z b))))
def ZNi(K:zZ)(c d:TE)(rd:V->V->Hp->VK->Prop)(f:Str):TS:=λD a H=>c a H λx b=>QB K d rd f D a x b
section
variable{o e value:Expr}{f:Str}{pos pos' tpos:aK}{ta tv:TE}
def Wp(p:PE X e ta)(m:attributeBase e f X.env (aI e X.env)=aI e X.env):PE X (.Attribute e f pos) (Au X.K ta f):=by
 intro b s w H Q I h;refine H0 m (Z3 (p b s w H _ I h) ?_);rintro u A ⟨x,d,g,t,a,C,y,z,v,k,j,c,n,l,q⟩;subst k;obtain rfl:u=Value.ref a:=t;exact Fc g j c n l λD B i r=>⟨v,d,i,r,q⟩
def Qa(r:PE X o ta)(v:PE X value tv)(t:aF value (some (.Attribute o f pos')) pos.line X.env=pure false):PS X (.Assign [.Attribute o f pos'] value pos) (AH X.K ta tv f):=by
 intro b s d H D I h;refine plainObj_wpAny_Assign_Attribute (YG (v b s d H _ I h) λu E y g i B q=>Z3 (r b E d g _ i q) λw L ⟨x,F,j,A,a,C,G,J,p,m,c,n,l,z⟩=>?_) t;subst p;obtain rfl:w=Value.ref a:=A;exact HM j m c n l B λM k=>⟨d,_,k,z⟩
def FQ{j:Operator}{rd:V->V->Hp->VK->Prop}(J:PE X o ta)(L:PE X value tv)(i:Kp X j rd):PS X (.AugAssign (.Attribute o f tpos) j value pos) (ZNi X.K ta tv rd f):=by
 intro b s d H D I h;refine wpAny_AugAssign_AttributeAny (Z3 (J b s d H _ I h) ?_);rintro N s1 ⟨x,k,p,R,a,C,dx,fs,v,F,E,c,n,l,q⟩;subst F;obtain rfl:N=Value.ref a:=R;refine Fc p E c n l λu U r Q=>YG (L b U d k _ r q) λY W y m t S O=>Z3 (i b W d m v y u Y _ t Q S O) ?_;rintro w4 s4 ⟨z,Z,w,T,B,G,g,M,P⟩;exact HM w g c n M T λs5 A=>⟨d,_,A,P⟩
inductive Ja(x y:V)(H:Hp)(Q:VK):Prop
 |mk(i j:_)(_:x=.int i)(_:y=.int j)(_:Q (.int (i+j)) H)
inductive Im(x y:V)(H:Hp)(Q:VK):Prop
 |mk(i j:_)(_:x=.int i)(_:y=.int j)(_:Q (.int (i-j)) H)
def Ex:Kp X .Add Ja:=by
 rintro a s g H x y u v Q I c d ⟨i,j,rfl,rfl,q⟩;obtain⟨t,rfl⟩:=(show ∃ t,u=Value.int i t from c);obtain⟨b,rfl⟩:=(show ∃ b,v=Value.int j b from d);exact PyProof.Rows.iadd_int ⟨.int (i+j),H,I.tok _,⟨_,rfl⟩,q⟩
def Cm:Kp X .Sub Im:=by
 rintro a s g H x y u v Q I c d ⟨i,j,rfl,rfl,q⟩;obtain⟨t,rfl⟩:=(show ∃ t,u=Value.int i t from c);obtain⟨b,rfl⟩:=(show ∃ b,v=Value.int j b from d);exact PyProof.Rows.isub_int ⟨.int (i-j),H,I.tok _,⟨_,rfl⟩,q⟩
end
section
variable{kh:jv}{σ:St}{H:Hp}{s:al}{A:ax}{E Q:ja}{c:ai}{b:Bool}
inductive Y9(K:zZ)(H:Hp):V->ai->Prop where
 | non:Y9 K H .non (.type "NoneType")
 | bl (x:Bool):Y9 K H (.bl x) (.type "bool")
 | int (i:Int):Y9 K H (.int i) (.type "int")
 | str (x:Str):Y9 K H (.str x) (.type "str")
 | flt (x:UInt64):Y9 K H (.flt x) (.type "float")
 | lst {a:aj} {xs:jf} (e:H a=some (.lst xs)):Y9 K H (.ref a) (.type "list")
 | frz {a:aj} {o:aJ} {xs:jf} (e:H a=some (.frz o (.lst xs))):Y9 K H (.ref a) (.type "list")
 | tup {a:aj} {xs:jf} (e:H a=some (.tup xs)):Y9 K H (.ref a) (.type "tuple")
 | dK {a:aj} {kvs:List (ZV×V)} (e:H a=some (.dK kvs)):Y9 K H (.ref a) (.type "dict")
 | dT {a:aj} {kvs:List (jI×V)} (e:H a=some (.dT kvs)):Y9 K H (.ref a) (.type "dict")
 | ins {a C dx:aj} {fs:List (Str×V)} (e:H a=some (.ins C dx fs)) (cl:Wg K C) (ha:zC K (.ref C) "__class__" = some (some (.builtin "object.__class__")))
   (hn:PySem.W.specialIn K (.builtin "object.__class__") "__get__" = some (some (.builtin "getset_descriptor.__get__"))) (htk:PySem.W.takesIn K (.builtin "object.__class__")=some true)
   (hm:zI K C (.type "object")=some true):Y9 K H (.ref a) (.ref C)
def AG{x:V}{u t:ai}(I:ZE X kh σ H s)(f:ZW x u)(N:Y9 X.K H x t)(e:yV X.K t c=some b)(h:∀ M,Q (.bool b) { s with toks:=M }):
  aB (aA X.prog X.w) A (call (.builtin "isinstance") [u,c]) Q E s:=by
 cases N with
 | non=>cases(show u=Value.none from f);exact xP PySem.W.kitx_none I.kIn True.intro e (λz=>nomatch z) h
 | bl y=>cases(show u=Value.bool y from f);exact xP PySem.W.kitx_bool I.kIn True.intro e (λz=>nomatch z) h
 | int i=>obtain⟨t,q⟩:=(show ∃ t,u=Value.int i t from f);cases q;exact xP PySem.W.kitx_int I.kIn True.intro e (λz=>nomatch z) h
 | str y=>obtain⟨t,q⟩:=(show ∃ t,u=Value.str y t from f);cases q;exact xP PySem.W.kitx_str I.kIn True.intro e (λz=>nomatch z) h
 | flt y=>obtain⟨t,q⟩:=(show ∃ t,u=Value.float y t from f);cases q;exact xP PySem.W.kitx_float I.kIn True.intro e (λz=>nomatch z) h
 | @lst a k d=>
  cases(show u=Value.ref a from f);obtain⟨_,_,n,_,g⟩:=(show Zd X.prog X.w H s.heap a (.lst k) from I.hok a _ d);exact xP PySem.W.kitx_list I.kIn ⟨_,g,rfl⟩ e (λz=>nomatch z) h
 | @frz a L k d=>
  cases(show u=Value.ref a from f);obtain⟨_,_,_,n,_,g⟩:=(show Zd X.prog X.w H s.heap a (.frz L (.lst k)) from I.hok a _ d);exact xP PySem.W.kitx_list I.kIn ⟨_,g,rfl⟩ e (λz=>nomatch z) h
 | @tup a k d=>
  cases(show u=Value.ref a from f);obtain⟨_,_,_,p⟩:=(show Zd X.prog X.w H s.heap a (.tup k) from I.hok a _ d);obtain⟨o,g,l,_⟩:=p;exact xP PySem.W.kitx_tuple I.kIn ⟨o,g,l⟩ e (λz=>nomatch z) h
 | @dK a j d=>
  cases(show u=Value.ref a from f);obtain⟨_,_,U,_,p⟩:=(show Zd X.prog X.w H s.heap a (.dK j) from I.hok a _ d);obtain⟨o,B,v,g,l,_⟩:=p;exact xP PySem.W.kitx_dict I.kIn ⟨o,g,l.1⟩ e (λz=>nomatch z) h
 | @dT a j d=>
  cases(show u=Value.ref a from f);obtain⟨_,_,k,_,o,B,v,g,l,_⟩:=(show Zd X.prog X.w H s.heap a (.dT j) from I.hok a _ d);exact xP PySem.W.kitx_dict I.kIn ⟨o,g,l.1⟩ e (λz=>nomatch z) h
 | @ins a C P R d r D G m F=>
  cases(show u=Value.ref a from f);obtain⟨S,O,_⟩:=Mz I.hok d;obtain⟨T,J,_⟩:=O.look;exact xP (PySem.W.kitx_own (r.get _) r.hd D G m F) I.kIn J e (λz=>nomatch z) h
end
structure ZZ(k:Nat)(A:ax):Prop where
 hd:A.handled=none
 dp:A.depth+3 * k+5<recursionLimit
 un:A.units+16 * k+200<cLine
def ZZ.mono{j k:Nat}{A:ax}(r:ZZ k A)(h:j<=k):ZZ j A:=⟨r.hd,by have:=r.dp;lia,by have:=r.un;lia⟩
def ZZ.to{j:Nat}{A:ax}(r:ZZ j A)(k:Nat)(h:k<=j:=by decide):ZZ k A:=r.mono h
def ZZ.deeper{k:Nat}{A:ax}(r:ZZ (k+1) A)(a:Env):ZZ k (A.deeper a):=
 ⟨r.hd,by have:=r.dp;show A.depth+1+3 * k+5<_;lia,by have:=r.un;show A.units+3+16 * k+200<_;lia⟩
def ZZ.in1{k:Nat}{A:ax}(r:ZZ (k+1) A):ZZ k A.in1:=
 ⟨r.hd,by have:=r.dp;show A.depth+3 * k+5<_;lia,by have:=r.un;show A.units+1+16 * k+200<_;lia⟩
def BC{A:ax}{C:aj}{b:je}{a:jL}:(A.under (.builtin "type.__call__" ⟨.ref C::b,a⟩)).depth=A.depth+1:=by
 first | rfl | simp[Around.under,Code.weight,Code.isCreation,Code.isGuard,Code.isCaller,Code.frames,Code.isFrame,guardIds]
def ZHq{A:ax}{C:aj}{b:je}{a:jL}:(A.under (.builtin "type.__call__" ⟨.ref C::b,a⟩)).units=A.units+1:=by
 first | rfl | simp[Around.under,Code.cUnits,Code.frames,Code.isFrame]
def ZZ.make{k:Nat}{A:ax}(r:ZZ (k+1) A)(C:aj)(b:je)(a:jL):ZZ k (A.under (.builtin "type.__call__" ⟨.ref C::b,a⟩)):=
 ⟨r.hd,by have:=r.dp;rw[BC];lia,by have:=r.un;rw[ZHq];lia⟩
def ZZ.depth{k:Nat}{A:ax}(r:ZZ k A):A.depth<recursionLimit:=by have:=r.dp;lia
def ZZ.units{k:Nat}{A:ax}(r:ZZ k A):A.units+64<cLine:=by have:=r.un;lia
def ZZ.units0{k:Nat}{A:ax}(r:ZZ k A):A.units<cLine:=by have:=r.un;lia
def V3:TA:=λ_ H Q=>Q [] H
def Xe(d:TE)(e:TA):TA:=λa H Q=>d a H λx b=>e a b λf c=>Q (x::f) c
section
variable{e:Expr}{es:jA}{te:TE}{t:TA}{pos:aK}
def Zt:PA X [] V3:=λ_ _ _ _ H Q I h=>Calls.spliced_nil ⟨[],H,I,.nil,h⟩
def Zi(i:PE X e te)(j:PA X es t)(k:ar (e::es) X.env=(false,aI e X.env)::ar es X.env:=by rfl):PA X (e::es) (Xe te t):=by
 intro pos a s b H Q I h;rw[k];show aB _ _ (spliced ((false,aI e X.env)::aG pos (ar es X.env))) _ _ s;refine Calls.spliced_cons (YG (i a s b H _ I h) λu p x c f n l=>?_);exact YG (j pos a p b c _ f l) λv r q d g o m=>⟨x::q,d,g,.cons n o,m⟩
def AF(t:TA):TE:=λc H Q=>t c H λb a=>b.length<=aq/\∀ p,a p=none->Q (.ref p) (upd a p (.tup b))
def Cr(t:TA):TE:=λc H Q=>t c H λb a=>b.length<=aq/\∀ p,a p=none->Q (.ref p) (upd a p (.lst b))
def Yi{k}(h:PA X es t):PE X (.Tuple es k pos) (AF t):=by
 intro a s m H Q I i;refine wpAny_Tuple_spliced (Z3 (h pos a s m H _ I i) λj c ⟨l,d,f,r,z,q⟩=>⟨by rw[<-r.length];exact z,?_⟩)
 have g:d c.heap.objs.size=none:=f.hok.fresh (zY _);refine⟨.ref c.heap.objs.size,upd d c.heap.objs.size (.tup l),f.laid (t':=c.toks) (λb u e=>zS _ e) (zY _) ?_,rfl,q _ g⟩;exact⟨z,j,r,⟨_,yT _ rfl,rfl,_,rfl⟩⟩
def XF(h:PA X es t):PE X (.List es pos) (Cr t):=by
 intro a s l H Q I i;refine wpAny_List_spliced (Z3 (h pos a s l H _ I i) λj c ⟨k,d,f,r,z,q⟩=>⟨by rw[<-r.length];exact z,?_⟩)
 have g:d c.heap.objs.size=none:=f.hok.fresh (zY _);refine⟨.ref c.heap.objs.size,upd d c.heap.objs.size (.lst k),f.laid (t':=c.toks) (λb u e=>zS _ e) (zY _) ?_,rfl,q _ g⟩;exact⟨z,j,0,r,yT _ rfl⟩
end
abbrev Sp:=jf->Hp->VK->XK->Prop
abbrev Ws:=jB->Hp->al->XK->ja
structure We(P:am)(w:aw)(K:zZ)(mg:jc)(ki:aD)(A:ax)(outer:jB)(s:al)(H:Hp):Prop where
 frames:A.frames=some outer
 mod:Mod K mg ki
 bs:∀ b o,ki.get? b=some o->s.heap.get? b=some o/\H b=none
 bsz:ki.objs.size<=s.heap.objs.size
 funs:s.heap.FunFrames ki outer
 frf:∀ b∈frs outer,H b=none
 hok:YW P w H s.heap
 bare:AllBare s.gens
def CE(a:jB)(P:am)(w:aw)(H:Hp)(s:al)(Q:VK)(u:ai)(b:al):Prop:=
 ∃ v c,b.os=s.os/\AllBare b.gens/\Un (frs a) [] H c s.heap b.heap/\YW P w c b.heap/\ZW v u/\Q v c
def CR(c:Ws)(a:jB)(P:am)(w:aw)(H:Hp)(s:al)(Q:VK)(E:XK)(r:Result)(b:al):Prop:=
 match r with
 | .ok (.ret u)=>CE a P w H s Q u b
 | .ok _=>False
 | .error e=>c a H s E e b
structure ZJ(P:am)(w:aw)(K:zZ)(mg:jc)(ki:aD)(CX:Ws)(k:Nat)(f:aj)(fd:ao)(ps:ju)(sp:Sp):Prop where
 len:∀ vs H Q E,sp vs H Q E->vs.length=ps.length
 run:∀(A:ax)(outer:jB)(s:al)(H:Hp)(args:Args)(us:je)(vs:jf)(Q:VK)(E:XK),ZZ k A->We P w K mg ki A outer s H->BindsTo s fd args (ps.zip us)->ZT vs us->sp vs H Q E ->
  aH (aA P w) A (.call (.ref f) args) (CR CX outer P w H s Q E) s
def We.make{P:am}{w:aw}{K:zZ}{c:jc}{b:aD}{A:ax}{a:jB}{s:al}{H:Hp}(e:We P w K c b A a s H)(C:aj)(f:je)(d:jL):
  We P w K c b (A.under (.builtin "type.__call__" ⟨.ref C::f,d⟩)) a s H:=⟨by first | exact e.frames | (simpa [Around.under,Code.envs,Code.isFrame,pushEnvs] using e.frames),e.mod,e.bs,e.bsz,e.funs,e.frf,e.hok,e.bare⟩
section
variable{kh:jv}{σ:St}{H:Hp}{s s':al}
def ZE.env0(I:ZE X kh σ H s):We X.prog X.w X.K X.mg X.base X.A X.stack s H:=
 ⟨I.ok.frames,I.ok.mod,I.bs,zD I.ok.bsz I.sz,I.stack,I.stkFree,I.hok,I.bare⟩
def ZE.after{Q:VK}{u:ai}(I:ZE X kh σ H s)(h:CE X.stack X.prog X.w H s Q u s'):EP X kh σ Q u s':=by
 obtain⟨v,f,j,a,k,c,r,q⟩:=h;obtain⟨i,g,d,t,e⟩:=s';obtain rfl:e=s.os:=j;exact⟨v,f,I.call (h':=i) (g':=g) (d':=d) (t':=t) (ch:=[]) k c a (λb z=>absurd z (by simp)),r,q⟩
end
def Jo(c:Sp)(a:jf)(E:XK)(t:TA):TE:=λe H Q=>t e H λd b=>c (d++a) b Q E
inductive OQ(C:aj)(m:Str)(g:Sp)(b:jf)(E:XK)(t:TA)(i:L2.St)(Q:VK)(x:V)(c:Hp):Prop
 |mk(a f d:_)(_:x=.ref a)(_:c a=some (.ins C f d))(_:d.lookup m=none)(_:t i c λh e=>g (x::(h++b)) e Q E)
def Lg(C:aj)(m:Str)(d:Sp)(a:jf)(E:XK)(e:TE)(t:TA):TE:=λb H Q=>e b H λx c=>OQ C m d a E t b Q x c
def Lo(C:aj)(e:Sp)(c:jf)(E:XK)(t:TA):TE:=λg H Q=>t g H λf b=>∀ x a,b x=none->b a=none->a≠x ->
 e (.ref x::(f++c)) (upd (upd b a (.own x)) x (.ins C a [])) (λv d=>v=.non/\Q (.ref x) d) E
def Z8(K:zZ)(d:ao)(c:ju)(b:je):Prop:=
 ∀(s:al)(a:je),K.In s.heap->(a++b).length=c.length->BindsTo s d ⟨a,[]⟩ (c.zip (a++b))
def Z8.all{K:zZ}{c:ao}{b:ju}(h:∀ a:je,a.length=b.length->bindArgs c ⟨a,[]⟩=pure (b.zip a)):Z8 K c b []:=λs a _ d=>by
 rw[vP] at d⊢;exact .of_eq (h a d)
def Vd(c:Ws)(X:Cx)(E:XK):Prop:=∀(a:jv)(d:St)(H:Hp)(s:al)(e:ai)(b:al),ZE X a d H s->c X.stack H s E e b->X.xe e b
section
variable{CX:Ws}{k:Nat}{f C:aj}{fd:ao}{ps:ju}{sp:Sp}{jo:jf}{ds:je}{E:XK}{x m:Str}{p pos jk:aK}{e o:Expr}{es:jA}{ta:TE}{t:TA}
def JE{a:jv}{c:St}{H:Hp}{s:al}{Q:VK}{us:je}{vs:jf}(F:ZJ X.prog X.w X.K X.mg X.base CX k f fd ps sp)(n:ZZ k X.A)(i:Z8 X.K fd ps ds)(j:ZT jo ds)(q:Vd CX X E)(I:ZE X a c H s)(r:ZT vs us)(h:sp (vs++jo) H Q E):aB (aA X.prog X.w) X.A (call (.ref f) us) (EP X a c Q) X.xe s:=by
 have d:ZT (vs++jo) (us++ds):=r.append j;have l:(us++ds).length=ps.length:=by rw[<-d.length];exact F.len _ _ _ _ h
 refine wpAny_call (codeAny_mono (F.run X.A X.stack s H ⟨us,[]⟩ (us++ds) (vs++jo) Q E n I.env0 (i s us I.kIn l) d h) λr v b=>?_)
 cases r with
 | error e=>exact q a c H s e v I b
 | ok g=>
  cases g with
  | ret u=>exact I.after b
  | next=>exact False.elim b
  | brk=>exact False.elim b
  | cont=>exact False.elim b
def Fy(F:ZJ X.prog X.w X.K X.mg X.base CX k f fd ps sp)(y:ZZ k X.A)(n:Gl X x)(v:X.mg x=some (.ref f))(u:yW X.K (.ref f)=true)(i:Z8 X.K fd ps ds)(j:ZT jo ds)(z:Vd CX X E)(g:PA X (e::es) t)(b:(x==("__debug__" : Str))=false:=by decide)(l:ar (e::es) X.env=(false,aI e X.env)::ar es X.env:=by rfl)(c:(aG pos (ar es X.env)).any (·.1)=false:=by rfl):
  PE X (.Call (.Name x p) (e::es) [] pos) (Jo sp jo E t):=by
 intro a s B H Q I h;refine ag (Qb I n v ?_ b);refine wF (h₀:=X.base) I.ok.mod.kin u (YG (g pos a s B H _ I h) λJ G L D d r q=>⟨d.kIn,?_⟩) l c;exact JE F y i j z d r q
def ZNT{v:Sem Bool}(M:PE X o ta)(c:Wg X.K C)(n:UG X.K C m f)(F:ZJ X.prog X.w X.K X.mg X.base CX k f fd ps sp)(N:ZZ k X.A)(J:Z8 X.K fd ps ds)(L:ZT jo ds)(P:Vd CX X E)(G:PA X (e::es) t)(g:ar (e::es) X.env=(false,aI e X.env)::ar es X.env:=by rfl)(d:(aG pos (ar es X.env)).any (·.1)=false:=by rfl)(O:aI (.Call (.Attribute o m jk) (e::es) [] pos) X.env=(do
   let ov<-aI o X.env
   standAt jk.atName
   let (f,first)<-holding [ov] (getMethod ov m v)
   callWith pos f first (aG pos (ar (e::es) X.env)) (backToKw pos (keywordEach [] X.env))):=by rfl):
  PE X (.Call (.Attribute o m jk) (e::es) [] pos) (Lg C m sp jo E ta t):=by
 intro b s y H Q I h;refine tS (pl:=v) (Z3 (M b s y H _ I h) λu T ⟨x,z,i,S,a,Z,fs,D,B,l,q⟩=>?_) O;subst D;obtain rfl:u=Value.ref a:=S;refine Lj i B c n l ?_;refine wF (first:=[.ref a]) (h₀:=X.base) I.ok.mod.kin n.kp (YG (G pos b T y z _ i q) λU s2 V Y j r R=>⟨j.kIn,?_⟩) g d
 exact JE (us:=.ref a::U) (vs:=.ref a::V) F N J L P j (.cons rfl r) R
def ZK7{i:Sem Bool}(y:PE X o ta)(c:Wg X.K C)(g:UG X.K C m f)(F:ZJ X.prog X.w X.K X.mg X.base CX k f fd ps sp)(z:ZZ k X.A)(r:Z8 X.K fd ps ds)(v:ZT jo ds)(D:Vd CX X E)(B:aI (.Call (.Attribute o m jk) [] [] pos) X.env=(do
   let ov<-aI o X.env
   standAt jk.atName
   let (f,first)<-holding [ov] (getMethod ov m i)
   callWith pos f first (aG pos (ar [] X.env)) (backToKw pos (keywordEach [] X.env))):=by rfl):
  PE X (.Call (.Attribute o m jk) [] [] pos) (Lg C m sp jo E ta V3):=by
 intro b s J H Q I h;refine tS (pl:=i) (Z3 (y b s J H _ I h) λu O ⟨x,L,d,G,a,M,N,n,j,l,q⟩=>?_) B;subst n;obtain rfl:u=Value.ref a:=G;refine Lj d j c g l ?_;exact uF (first:=[.ref a]) d.kIn g.kp (JE (us:=[.ref a]) (vs:=[.ref a]) F z r v D d (.cons rfl .nil) q)
structure Mk(K:zZ)(C f:aj):Prop where
 makes:uQ K C=true
 init:zC K (.ref C) "__init__" = some (some (.ref f))
 fn:wT K (.ref f)=true
 kp:yW K (.ref C)=true
def EV{b:jv}{i:St}{H:Hp}{s:al}{Q:VK}{us:je}{g:jf}(M:Mk X.K C f)(F:ZJ X.prog X.w X.K X.mg X.base CX k f fd ps sp)(L:ZZ (k+1) X.A)(D:Z8 X.K fd ps ds)(G:ZT jo ds)(N:Vd CX X E)(I:ZE X b i H s)(r:ZT g us)(h:∀ x d,H x=none->H d=none->d≠x->sp (.ref x::(g++jo)) (upd (upd H d (.own x)) x (.ins C d [])) (λv q=>v=.non/\Q (.ref x) q) E):
  aB (aA X.prog X.w) X.A (call (.ref C) us) (EP X b i Q) X.xe s:=by
 have j:=h (s.heap.objs.size+1) s.heap.objs.size (I.hok.fresh (wM _)) (I.hok.fresh (zY _)) (zL (xV _));have c:=ZE.made (C:=C) I;have l:ZT (V.ref (s.heap.objs.size+1)::(g++jo)) (Value.ref (s.heap.objs.size+1)::(us++ds)):=.cons rfl (r.append G);have J:(Value.ref (s.heap.objs.size+1)::us++ds).length=ps.length:=by
  have e:=l.length;rw[F.len _ _ _ _ j] at e;exact e.symm
 refine wpAny_call (ZLK (f:=f) I.kIn M.makes M.init (beq_iff_eq.mp M.fn) (codeAny_mono (F.run _ X.stack _ _ ⟨Value.ref (s.heap.objs.size+1)::us,[]⟩ (Value.ref (s.heap.objs.size+1)::(us++ds)) _ _ E (L.make C us [])
  (c.env0.make C us []) (D _ (Value.ref (s.heap.objs.size+1)::us) c.kIn J) l j) λr R a=>?_))
 cases r with
 | error e=>exact N b i _ _ e R c a
 | ok B=>
  cases B with
  | ret u=>
   obtain⟨v,n,y,P,z,O⟩:=c.after a;subst z;exact⟨P,⟨V.ref (s.heap.objs.size+1),n,y,rfl,O⟩⟩
  | next=>exact False.elim a
  | brk=>exact False.elim a
  | cont=>exact False.elim a
def ZMU(M:Mk X.K C f)(F:ZJ X.prog X.w X.K X.mg X.base CX k f fd ps sp)(v:ZZ (k+1) X.A)(n:Gl X x)(u:X.mg x=some (.ref C))(i:Z8 X.K fd ps ds)(j:ZT jo ds)(y:Vd CX X E)(g:PA X (e::es) t)(b:(x==("__debug__" : Str))=false:=by decide)(l:ar (e::es) X.env=(false,aI e X.env)::ar es X.env:=by rfl)(c:(aG pos (ar es X.env)).any (·.1)=false:=by rfl):
  PE X (.Call (.Name x p) (e::es) [] pos) (Lo C sp jo E t):=by
 intro a s z H Q I h;refine ag (Qb I n u ?_ b);refine wF (h₀:=X.base) I.ok.mod.kin M.kp (YG (g pos a s z H _ I h) λG D J B d r q=>⟨d.kIn,?_⟩) l c;exact EV M F v i j y d r q
def ZKt(M:Mk X.K C f)(F:ZJ X.prog X.w X.K X.mg X.base CX k f fd ps sp)(j:ZZ (k+1) X.A)(g:Gl X x)(i:X.mg x=some (.ref C))(c:Z8 X.K fd ps ds)(d:ZT jo ds)(l:Vd CX X E)(a:(x==("__debug__" : Str))=false:=by decide):PE X (.Call (.Name x p) [] [] pos) (Lo C sp jo E V3):=by
 intro b s n H Q I h;refine ag (Qb I g i ?_ a);exact uF I.kIn M.kp (EV (us:=[]) M F j c d l I .nil h)
end
def PK(X:Cx)(b:List Keyword)(t:TA):Prop:=
 ∀(c:aK)(a:jv)(s:al)(d:St)(H:Hp)(Q:jf->Hp->Prop),ZE X a d H s->t d H Q->aB (aA X.prog X.w) X.A (evalAll ((backToKw c (keywordEach b X.env)).map (·.2))) (AP X a d Q) X.xe s
section
variable{CX:Ws}{k:Nat}{f C:aj}{fd:ao}{ps ks:ju}{sp:Sp}{E:XK}{x m:Str}{p pos jk kpos:aK}{e o:Expr}{es:jA}{kws:List Keyword}{te ta:TE}{t tk:TA}{nm:Option Str}
def ZOW:PK X [] V3:=λ_ _ _ _ H Q I h=>wpAny_evalAll_nil ⟨[],H,I,.nil,h⟩
def Dn(j:PE X e te)(l:PK X kws t):PK X (⟨nm,e,kpos⟩::kws) (Xe te t):=by
 intro pos a s b H Q I h;show aB _ _ (evalAll ((do let v<-aI e X.env;standAt pos;pure v)::(backToKw pos (keywordEach kws X.env)).map (·.2))) _ _ s
 refine wpAny_evalAll_cons (aa (YG (j a s b H _ I h) λu y x c g r n=>aa (ah (ad ?_))));exact YG (l pos a y b c _ g n) λB A z d i w q=>⟨x::z,d,i,.cons r w,q⟩
variable{g:je->je->je}{gV:jf->jf->jf}
end
structure ZC(N P:ju)(sc:aE):Prop where
 kind:sc.kind=.function
 co:sc.isCoroutine=false
 gen:sc.isGenerator=false
 nd:N.Nodup
 pre:N.take P.length=P
 par:∀ x∈P,sc.names.lookup x=some .local\/sc.names.lookup x=some .cell
 nofree:∀ y∈sc.names,y.2≠.free
def Z9{N P:ju}{a:aE}(b:a.kind=.function:=by rfl)(c:a.isCoroutine=false:=by rfl)(d:a.isGenerator=false:=by rfl)(e:N.Nodup:=by decide +kernel)(f:N.take P.length=P:=by rfl)(g:∀ x∈P,a.names.lookup x=some .local\/a.names.lookup x=some .cell:=by decide +kernel)(h:∀ y∈a.names,y.2≠.free:=by decide +kernel):ZC N P a:=⟨b,c,d,e,f,g,h⟩
def Iy{kindOf:Str->Option NameKind}{x:Str}:∀{a:jL}{m:jc},(∀ v,(x,v)∉a)->bindL kindOf a m x=m x
 | [],_,_=>rfl
 | (n,v)::r,m,h=>by
  unfold bindL;rw[Iy λw b=>h w (zH _ b)];split
  ·have:x≠n:=by rintro rfl;exact h v zM
   simp[this]
  ·rfl
def Fg{kindOf:Str->Option NameKind}{x:Str}:∀{a:jL}{m:jc},(∀ v,(x,v)∉a)->bindC kindOf a m x=m x
 | [],_,_=>rfl
 | (n,v)::r,m,h=>by
  unfold bindC;rw[Fg λw b=>h w (zH _ b)];split
  ·rfl
  ·have:x≠n:=by rintro rfl;exact h v zM
   simp[this]
def HQ{kindOf:Str->Option NameKind}{x:Str}{v:ai}:∀{P:ju}{a:je}{i:Nat}{m:jc},P.Nodup->P[i]? = some x->a[i]? = some v->kindOf x=some .local ->
  bindL kindOf (P.zip a) m x=some v
 | [],_,_,_,_,h,_,_=>by simp at h
 | _::_,[],_,_,_,_,h,_=>by simp at h
 | p::P,w::a,0,m,nd,h1,h2,hk=>by
  simp at h1 h2;subst h1;subst h2;show bindL kindOf ((p,w)::P.zip a) m p=_;unfold bindL;rw[Iy λv b=>(xD.mp nd).1 (tK b).1,aQ hk];simp
 | p::P,w::a,i+1,m,nd,h1,h2,hk=>by
  show bindL kindOf ((p,w)::P.zip a) m x=_;unfold bindL;exact HQ (i:=i) (xD.mp nd).2 (by simpa using h1) (by simpa using h2) hk
def Iv{kindOf:Str->Option NameKind}{x:Str}{v:ai}:∀{P:ju}{a:je}{i:Nat}{m:jc},P.Nodup->P[i]? = some x->a[i]? = some v->kindOf x≠some .local ->
  bindC kindOf (P.zip a) m x=some v
 | [],_,_,_,_,h,_,_=>by simp at h
 | _::_,[],_,_,_,_,h,_=>by simp at h
 | p::P,w::a,0,m,nd,h1,h2,hk=>by
  simp at h1 h2;subst h1;subst h2;show bindC kindOf ((p,w)::P.zip a) m p=_;unfold bindC;rw[Fg λv b=>(xD.mp nd).1 (tK b).1,aP hk];simp
 | p::P,w::a,i+1,m,nd,h1,h2,hk=>by
  show bindC kindOf ((p,w)::P.zip a) m x=_;unfold bindC;exact Iv (i:=i) (xD.mp nd).2 (by simpa using h1) (by simpa using h2) hk
def U8(N:ju)(a:jf):St:=a.map some++vN (N.length-a.length) none
def Wt(CX:Ws)(P:am)(w:aw)(K:zZ)(mg:jc)(ki:aD)(N:ju)(qual:Str)(scope:aE)(f:aj)(cd:ai)(A:ax)(outer:jB)(s:al)(H:Hp)(E:XK):Cx where
 prog:=P
 w:=w
 K:=K
 mg:=mg
 base:=ki
 A:=A.deeper (envOfC qual scope s.heap.objs.size f cd)
 N:=N
 s₀:=s
 H₀:=H
 env:=envOfC qual scope s.heap.objs.size f cd
 outer:=outer
 stack:=envOfC qual scope s.heap.objs.size f cd::outer
 ex:=[]
 calm:=true
 fn:=λ_=>true
 pn:=[]
 xe:=λe s'=>aB (aA P w) (A.deeper (envOfC qual scope s.heap.objs.size f cd)) (leaving (envOfC qual scope s.heap.objs.size f cd) e) (λ_ s''=>CX outer H s E e s'') (λe' s''=>CX outer H s E e' s'') s'
def Eh{a:aE}{n:Nat}{x:Str}(h:a.names.lookup x=some .cell):∃ c,(cellsFrom n a.names []).lookup x=some c:=by
 have q:=qY a.names n [] (.inl h);exact sB.mp q
def Dr{Q:Ws}{P:am}{w:aw}{K:zZ}{M:jc}{m:aD}{N C:ju}{j:Str}{d:aE}{f:aj}{I:ai}{A:ax}{g:jB}{s U:al}{H:Hp}{E:XK}{O:je}{D:jf}(S:ZC N C d)(Y:A.handled=none)(o:We P w K M m A g s H)(hl:D.length=C.length)(r:ZT D O)(x:InCallC s s.heap.objs.size (bindL (envOfC j d s.heap.objs.size f I).kindOf (C.zip O) λ_=>none) (cellsFrom (s.heap.objs.size+1) d.names []) (bindC (envOfC j d s.heap.objs.size f I).kindOf (C.zip O) λ_=>none) U):
  ZE (Wt Q P w K M m N j d f I A g s H E) [] (U8 N D) H U:=by
 have Z:C.length<=N.length:=by have:=congrArg yA S.pre;rw[sW] at this;lia
 obtain⟨J,tk,rfl,R⟩:=x.done;have B:∀ b:aj,b∉(Wt Q P w K M m N j d f I A g s H E).ex:=λb z=>absurd (show b∈([]:jw) from z) (by simp)
 refine⟨⟨o.mod,S.kind,rfl,rfl,zY _,λy z c J l=>?_,λy t=>?_,λy c _ h=>?_,λ_=>Y,Around.frames_deeper o.frames,.inr ⟨rfl,rfl⟩,λb z=>absurd z (B b),o.bs,o.bsz,λb _ _=>B b,λb z=>absurd z (B b),o.funs,o.frf⟩,
  rfl,o.bare,Un.kept R,⟨_,x.toInCall.ns,λi y v J l h3=>?_⟩,λy c h=>⟨_,x.cell y c h⟩,o.hok.fresh (zY _),λy c h=>?_,λp F=>absurd (show p∈([]:jv) from F) (by simp),o.hok.kept R,?_⟩
 ·exact name_of_addr x.apart (PySem.mem_of_lookup J) (PySem.mem_of_lookup l)
 ·have t:d.names.lookup y=some .cell\/d.names.lookup y=some .free:=t;rcases t with t | t
  ·exact Eh t
  ·exact absurd rfl (S.nofree _ (PySem.mem_of_lookup t))
 ·exact yE (x.above y c (PySem.mem_of_lookup h))
 ·have L:i<D.length:=by
   unfold U8 at l;by_cases L:i<D.length
   ·exact L
   ·rw[xA (by simpa using L)] at l
    rw[List.getElem?_replicate] at l;split at l <;> cases l
  have X:D[i]? = some v:=by
   unfold U8 at l;rw[xB (by simpa using L),zN] at l
   cases e:D[i]? with
   | none=>rw[e] at l;cases l
   | some a=>rw[e] at l;cases l;rfl
  obtain⟨u,T,rv⟩:=r.get X;have F:C[i]? = some y:=by
   rw[<-S.pre,List.getElem?_take_of_lt ∅];exact J
  have G:C.Nodup:=by rw[<-S.pre];exact S.nd.sublist (List.take_sublist _ _)
  exists u,rv;rcases S.par y (zB F) with k | k
  ·exact .inl ⟨k,HQ G F T k⟩
  ·obtain⟨c,e⟩:=Eh (n:=s.heap.objs.size+1) k;refine .inr ⟨.inl k,c,e,?_⟩;have q:=x.cell y c e;rw[Iv G F T (by show d.names.lookup y≠_;rw[k];decide)] at q
   exact q
 ·exact o.hok.fresh (yE (x.above y c (PySem.mem_of_lookup h)))
 ·unfold U8;show _=N.length;rw[yS,zX,List.length_replicate]
  lia
def Jx{R:Ws}{P:am}{w:aw}{K:zZ}{T:jc}{h:aD}{k:Nat}{f:aj}{z d:Str}{i:Arguments}{j:jO}{a:aE}{dV kV F pm g ct oc:ai}{an od:jz}{a0:Array (jd)}{N U:ju}{sp:Sp}(lk:K.lookup f=some ⟨oc,od,.func (yG z d i j a dV kV F pm an g ct),a0⟩)(X:xR K g d=true)(S:ZC N U a)(O:∀ l H Q E,sp l H Q E->l.length=U.length)(B:∀ (A:ax) (c:jB) (s:al) (H:Hp) (l:jf) (Q:VK) (E:XK),ZZ k (A.deeper (envOfC d a s.heap.objs.size f g))->sp l H Q E ->
   ∃ t,Xz (Wt R P w K T h N d a f g A c s H E) j t/\t { nx:=λ_ p=>Q .non p,rt:=Q } (U8 N l) H):
  ZJ P w K T h R (k+1) f (yG z d i j a dV kV F pm an g ct) U sp:=by
 exists O;intro A c s H args us l Q E Y G hb r M;have hl:=O _ _ _ _ M;have KX:K.In s.heap:=G.mod.kin.keeps λb o e=>(G.bs b o e).1;have Z:s.heap.NoLimit:=G.mod.nolimit.keeps λb o e=>(G.bs b o e).1;have C:∀ y∈U.zip us,a.names.lookup y.1=some .local\/(a.names.lookup y.1=some .cell/\((cellsFrom (s.heap.objs.size+1) a.names []).lookup y.1).isSome=true):=λ⟨n,v⟩ hy=>by
  rcases S.par n (tK hy).1 with q | q
  ·exact .inl q
  ·exact .inr ⟨q,qY _ _ _ (.inl q)⟩
 refine codeAny_call_function Y.depth (KX _ _ lk) rfl S.co S.gen rfl (PySem.W.codeRec_of KX X) (hb _ _ _ _ ?_);refine wpAny_newFunctionEnv_cells S.kind C λa1 he s1 x=>?_;subst he;refine⟨Z.keeps x.toInCall.keep,codeAny_func ?_⟩;obtain⟨t,ht,hq⟩:=B A c s H l Q E (Y.deeper _) M;have I:ZE (Wt R P w K T h N d a f g A c s H E) [] (U8 N l) H s1:=Dr S Y.hd G hl r x;refine ae (ht [] s1 (U8 N l) H _ I hq) (λfl s' D=>?_) λe s' D=>D;have L:∀{m:St}{p:Hp}{v:V}{u:ai},ZE (Wt R P w K T h N d a f g A c s H E) [] m p s'->ZW v u->Q v p->CE c P w H s Q u s':=
  fun{m p v u} J rv q=>⟨v,p,J.os,J.bare,J.base,J.hok,rv,q⟩
 cases fl with
 | ret u=>
  obtain⟨v,m,p,J,rv,q⟩:=D;exact L J rv q
 | next=>
  obtain⟨m,p,J,q⟩:=D;exact L (v:=V.non) (u:=Value.none) J rfl q
 | brk=>
  obtain⟨_,_,_,q⟩:=D;exact False.elim q
 | cont=>
  obtain⟨_,_,_,q⟩:=D;exact False.elim q
section
variable{x:Str}{p pos:aK}{e:Expr}{es:jA}{t:TA}{id T:String}{r:jf->Hp->VK->Prop}
def Fi(r:jf->Hp->VK->Prop)(t:TA):TE:=λc H Q=>t c H λb a=>r b a Q
def Zq(j:VI X (.builtin id) r)(l:Gl X x)(m:X.mg x=none)(o:ay x=some (.builtin id))(i:PA X (e::es) t)(n:x ≠ "__name__" :=by decide)(b:(x==("__debug__" : Str))=false:=by decide)(k:ar (e::es) X.env=(false,aI e X.env)::ar es X.env:=by rfl)(c:(aG pos (ar es X.env)).any (·.1)=false:=by rfl):PE X (.Call (.Name x p) (e::es) [] pos) (Fi r t):=by
 intro a s d H Q I h;refine ag (Px I l m o ?_ n b);exact PyProof.Rows.callWith_builtin1 (YG (i pos a s d H _ I h) λw v y f g u q=>j a v d f y w Q g u q) k c
def Vb(j:VI X (.type T) r)(l:Gl X x)(m:X.mg x=none)(o:ay x=some (.type T))(i:PA X (e::es) t)(n:x ≠ "__name__" :=by decide)(b:(x==("__debug__" : Str))=false:=by decide)(k:ar (e::es) X.env=(false,aI e X.env)::ar es X.env:=by rfl)(c:(aG pos (ar es X.env)).any (·.1)=false:=by rfl):PE X (.Call (.Name x p) (e::es) [] pos) (Fi r t):=by
 intro a s d H Q I h;refine ag (Px I l m o ?_ n b);exact PyProof.Rows.callWith_type1 (YG (i pos a s d H _ I h) λw v y f g u q=>j a v d f y w Q g u q) k c
end
end L2
variable{X:L2.Cx}{prog P:am}{w:aw}{A:ax}{E:ja}{s:al}{K:zZ}{mg:jc}{f:aj}{fd:ao}{ki:aD}
namespace HT
open PySem PyProof.Rows
def rcLt_int(A:ax)(s:al)(a:Int)(t:Tok)(c:Int)(u:Tok)(b:am)(w:aw)(E Q:ja)(h:Q (.bool (decide (a<c))) s):
  aB (aA b w) A (richCompare .Lt (.int a t) (.int c u)) Q E s:=
 (PyProof.Rows.lt_int h:aB (aA b w) A (az .Lt (.int a t) (.int c u)) Q E s)
section
open PySem.SeqAt
open PySem.AutoSeq1 (wpAny_loadPart')
open PySem.MeetsSeq PySem.MeetsSeq2 PySem.MeetsSeq3
end
def cat_tup{t b:aj}{d a:je}{Q:ja}(C:IsTup s.heap t d.toArray)(B:IsTup s.heap b a.toArray)(u:d≠[])(y:a=[]->Q (.ref t) s)(z:a≠[]->Q (.ref s.heap.objs.size) { s with heap:=s.heap.push { cls:=.type "tuple",data:=.seq (d++a).toArray } })(m:d.length+a.length<=aq):aB (aA prog w) A (binaryOp .Add (.ref t) (.ref b)) Q E s:=by
 obtain⟨⟨cls,p,data,x⟩,j,q,n,r⟩:=id C;obtain⟨⟨o,f,l,i⟩,c,g,v,h⟩:=id B;simp only at q r g h;subst q r g h;have e:d.toArray++a.toArray=(d++a).toArray:=by simp
 by_cases k:a=[]
 ·exact concat_meets ⟨_,j,rfl⟩ ⟨_,c,rfl⟩ noFill_tuple_add seq_tuple_add qZ qU (qM _ _)
   (tuple_addW1 t b d.toArray a.toArray n v p f x i (by simpa using u) (by simp[k])) ⟨j,c,y k⟩
 ·refine concat_meets ⟨_,j,rfl⟩ ⟨_,c,rfl⟩ noFill_tuple_add seq_tuple_add qZ qU (qM _ _)
   (tuple_addW2 t b d.toArray a.toArray n v p f x i (by simpa using u) (by simpa using k) (by rw[zK,zK];exact m)) ⟨j,c,?_⟩
  rw[e];exact z k
def sIx(n d:Nat):jK->Nat
 | none=>d
 | some v=>if v<0 then (v+(n:Int)).toNat else min v.toNat n
end HT
namespace L2
open PySem PySem.Spec PyProof.Rows
abbrev TO:=St->Hp->(jK->Hp->Prop)->Prop
def PO(X:Cx)(e:jS)(t:TO):Prop:=
 ∀(a:jv)(s:al)(b:St)(H:Hp)(Q:jK->Hp->Prop),ZE X a b H s->t b H Q ->
  aB (aA X.prog X.w) X.A (evalPart e X.env) (λu d=>∃ o c,ZE X a b c d/\IsPart u o/\Q o c) X.xe s
def ZMf:TO:=λ_ H Q=>Q none H
inductive OE(Q:jK->Hp->Prop)(x:V)(a:Hp):Prop
 |mk(i:_)(_:x=.int i)(_:Q (some i) a)
def Bl(t:TE):TO:=λb H Q=>t b H λx a=>OE Q x a
def IP{a:jC}:∀{b:je},ZT (a.map V.int) b->IntsAre b a:=by
 induction a with
 | nil=>intro b r;rw[wB] at r;cases r;exact .nil
 | cons n a c=>
  intro b r;rw[yI] at r
  cases r with
  | cons d f=>
   obtain⟨t,e⟩:=d;subst e;exact .cons n t (c f)
section
variable{e:Expr}{te:TE}{lo hi:jS}{tl th:TO}{pos p2:aK}
def ZNG:PO X none ZMf:=by
 intro a s b H Q I h;rw[evalPart_none];exact ad ⟨none,H,I,.none,h⟩
def AZ(h:PE X e te):PO X (some e) (Bl te):=by
 intro a s j H Q I d;rw[evalPart_some];refine YG (h a s j H _ I d) λu k x b c g f=>?_;obtain⟨i,rfl,q⟩:=f;obtain⟨t,rfl⟩:=g;exact⟨some i,b,c,.int i t,q⟩
def Gk(X:Cx)(r:V->jK->jK->Hp->VK->Prop):Prop:=
 ∀(a:jv)(s:al)(f:St)(H:Hp)(x:V)(v c d:ai)(lo hi:jK)(b:aj)(Q:VK),ZE X a f H s->ZW x v->s.heap.IsSliceOf b c d .none->IsPart c lo->IsPart d hi->r x lo hi H Q ->
  ∃ T id,typeLookup (.type T) "__getitem__" = pure (some (.builtin id))/\s.TypeIs v T/\aB (aA X.prog X.w) X.A (getItem v (.ref b)) (EP X a f Q) X.xe s
def tSl(r:V->jK->jK->Hp->VK->Prop)(te:TE)(tl th:TO):TE:=λa H Q=>te a H λx b=>tl a b λl c=>th a c λu d=>r x l u d Q
def Bz{r:V->jK->jK->Hp->VK->Prop}(C:Gk X r)(y:PE X e te)(B:PO X lo tl)(E:PO X hi th):PE X (.Subscript e (.Slice lo hi none p2) pos) (tSl r te tl th):=by
 intro a s d H Q I h;refine Subscript_ (YG (y a s d H _ I h) λv N x j m M J=>?_);refine wpAny_Slice (YG (B a N d j _ m J) λf O l k n F K=>YG (E a O d k _ n K) λg c u i o G L=>?_);rw[evalPart_none];refine ad ?_;have p:ZE X a d i { c with heap:=c.heap.push { cls:=.type "slice",data:=.fields #[f,g,.none] } }:=o.kept (t':=c.toks) λb P q=>zS _ q;obtain⟨T,id,t,D,z⟩:=C a { c with heap:=c.heap.push { cls:=.type "slice",data:=.fields #[f,g,.none] } } d i x v f g l u c.heap.objs.size Q p M (Heap.IsSliceOf.new ..) F G L;show aB (aA X.prog X.w) X.A (subscriptTail e (.Slice lo hi none p2) v (.ref c.heap.objs.size)) (EP X a d Q) X.xe { c with heap:=c.heap.push { cls:=.type "slice",data:=.fields #[f,g,.none] } };exact tail_any (ops:=[.ref c.heap.objs.size,v]) D t z (by with_unfolding_all rfl)
def NE(a:jf)(lo hi:jK):jf:=(a.drop (HT.sIx a.length 0 lo)).take (HT.sIx a.length a.length hi-HT.sIx a.length 0 lo)
def AC(a:jf)(lo hi:jK):(NE a lo hi).length<=a.length:=by
 unfold NE;rw[sW,List.length_drop];exact zD (tI _ _) (vJ _ _)
inductive N7(K:zZ)(x y:V)(H:Hp)(Q:VK):Prop
 |mk(a b d c:_)(_:x=.ref a)(_:y=.ref b)(_:Zh K H a d)(_:Zh K H b c)(_:d≠[])(_:d.length+c.length<=aq)(_:c=[]->Q (.ref a) H)(_:c≠[]->∀ p,H p=none->Q (.ref p) (upd H p (.tup (d++c))))
def ZT.nil_iff{b:jf}{a:je}(r:ZT b a):a=[] ↔ b=[]:=by
 cases r with
 | nil=>simp
 | cons _ _=>simp
def Ch:Yu X (binaryOp .Add) (N7 X.K):=by
 intro i s E H x y v u Q I t A h;obtain⟨a,b,B,C,rfl,rfl,j,k,l,f,p,r⟩:=h;cases t;cases A;obtain⟨m,d,n,_⟩:=I.tuple j;obtain⟨g,c,p2,_⟩:=I.tuple k;refine HT.cat_tup n p2 (λz=>l (d.nil_iff.mp z)) (λz=>⟨.ref a,H,I,rfl,p (c.nil_iff.mp z)⟩) (λz=>?_) (by rw[<-d.length,<-c.length];exact f)
 refine⟨.ref s.heap.objs.size,_,I.laid (t':=s.toks) (o:=.tup (B++C)) (λb D q=>zS _ q) (zY _) ?_,rfl,r (λw=>z (c.nil_iff.mpr w)) _ (I.hok.fresh (zY _))⟩;exact⟨by rw[yS];exact f,_,d.append c,IsTup.new _ _⟩
end
def Qp(n:Nat)(i:Int):jQ:=if 0<=i then (if i<n then some i.toNat else none) else if -(n:Int)<=i then some (i+n).toNat else none
def Xv{b:Type}(a:List b)(i:Int):Option b:=(Qp a.length i).bind λj=>a[j]?
def He{n:Nat}{i:Int}{j:Nat}(h:Qp n i=some j):seqIndex? i n=some j/\j<n /\ -(n:Int)<=i/\i<n:=by
 unfold Qp at h;by_cases b:0<=i
 ·rw[aQ b] at h;by_cases a:i<n
  ·rw[aQ a] at h;have e:i.toNat=j:=zJ.inj h;exact⟨by rw[seqIndex_of b a,e],∅,∅,a⟩
  ·rw[aP a] at h;cases h
 ·rw[aP b] at h;by_cases a : -(n:Int)<=i
  ·rw[aQ a] at h;have e:(i+n).toNat=j:=zJ.inj h;exact⟨by rw[seqIndex_neg ∅ a,e],∅,a,∅⟩
  ·rw[aP a] at h;cases h
def JZ{b:Type}{a:List b}{i:Int}{v:b}(h:Xv a i=some v):∃ j,seqIndex? i a.length=some j/\a[j]? = some v/\j<a.length /\ -(a.length:Int)<=i/\i<a.length:=by
 unfold Xv at h
 cases e:Qp a.length i with
 | none=>rw[e] at h;cases h
 | some j=>
  rw[e] at h;obtain⟨c,d,f,g⟩:=He e;exact⟨j,c,h,d,f,g⟩
def Xg{b:Type}{a:List b}{j:Nat}{v:b}(h:a[j]? = some v):Xv a (j:Int)=some v:=by
 have c:j<a.length:=(yN.mp h).1;have e:Qp a.length (j:Int)=some j:=by
  unfold Qp;rw[aQ ∅,aQ ∅];simp
 unfold Xv;rw[e];exact h
def IY{b:Type}(a:List b)(v:b):Xv (a++[v]) (-1)=some v:=by
 have c:(a++[v]).length=a.length+1:=by simp
 have e:Qp (a++[v]).length (-1)=some a.length:=by
  unfold Qp;rw[c,aP (by decide),aQ ∅]
  congr 1
  lia
 unfold Xv;rw[e];show (a++[v])[a.length]? = some v;simp
def KC(b:Expr):Prop:=∀ o i,subscripted b false o i=operate [o,i] (getItem o i)
def QL(X:Cx)(r:R2):Prop:=
 ∀(c a:Expr)(b:jv)(s:al)(d:St)(H:Hp)(x y:V)(v u:ai)(Q:VK),ZE X b d H s->ZW x v->ZW y u->r x y H Q ->
  subscripted a false v u=operate [v,u] (getItem v u)->aB (aA X.prog X.w) X.A (subscriptTail c a v u) (EP X b d Q) X.xe s
def Fo(X:Cx)(id:String)(r:V->jf->Hp->VK->Prop):Prop:=
 ∀(a:jv)(s:al)(d:St)(H:Hp)(x:V)(c:jf)(v:ai)(b:je)(Q:VK),ZE X a d H s->ZW x v->ZT c b->r x c H Q ->
  aB (aA X.prog X.w) X.A (call (.builtin id) (v::b)) (EP X a d Q) X.xe s
section
variable{a b:Expr}{ta tb:TE}{pos:aK}
def QL.or{r g:R2}(h:QL X r)(l:QL X g):QL X (λx y H Q=>r x y H Q\/g x y H Q):=by
 intro d c e s k H x y v u Q I i j q f;rcases q with q | q
 ·exact h d c e s k H x y v u Q I i j q f
 ·exact l d c e s k H x y v u Q I i j q f
def Ui{r:R2}(i:QL X r)(f:PE X a ta)(g:PE X b tb)(j:KC b):PE X (.Subscript a b pos) (NY r ta tb):=by
 intro c s n H Q I h;exact Subscript_ (K9 f g I h λv u m x y d e k l q=>i a b c m n d x y v u Q e k l q (j _ _))
inductive MP(K:zZ)(x y:V)(H:Hp)(Q:VK):Prop
 |mk(p c i v:_)(_:x=.ref p)(_:y=.int i)(_:ZG K H p c)(_:Xv c i=some v)(_:Q v H)
inductive PV(K:zZ)(x y:V)(H:Hp)(Q:VK):Prop
 |mk(p c i v:_)(_:x=.ref p)(_:y=.int i)(_:Zh K H p c)(_:Xv c i=some v)(_:Q v H)
inductive MS(x y:V)(H:Hp)(Q:VK):Prop
 |mk(z i c:_)(_:x=.str z)(_:y=.int i)(_:z.length<=aq)(_:Xv z.cps.toList i=some c)(_:Q (.str ⟨#[c]⟩) H)
def Z6:QL X (MP X.K):=by
 intro n m c s C H x y v u Q I M N h B;obtain⟨p,T,i,z,rfl,rfl,L,G,q⟩:=h;cases M;obtain⟨t,rfl⟩:=N;obtain⟨g,r,k,S⟩:=I.list L;obtain⟨j,e,D,P,E,F⟩:=JZ G;obtain⟨w,o,l⟩:=r.get D;have J:=r.length;have R:=NC;have d:EP X c C Q w s:=⟨z,H,I,l,q⟩;by_cases A:0<=i
 ·have f:i.toNat=j:=by
   rw[seqIndex_of A F] at e;exact zJ.inj e
  exact item_listR k.isList A ∅ (by rw[f];simpa using o) d B
 ·have f:(i+(g.toArray.size:Int)).toNat=j:=by
   rw[seqIndex_neg ∅ E] at e
   rw[zK,<-J];exact zJ.inj e
  exact subscriptTail_builtinR (x:=w) k.isList.typeIs slot_list_getitem.lookup
   (wpAny_getItem_list_neg (Q:=λr O=>r=w/\EP X c C Q r O) k.isList ∅ (by rw[zK] <;> lia) ∅ (by rw[f];simpa using o) ⟨rfl,d⟩) B
def Qf:QL X (PV X.K):=by
 intro g f c s l H x y v u Q I F G h D;obtain⟨p,R,i,z,rfl,rfl,C,A,q⟩:=h;cases F;obtain⟨t,rfl⟩:=G;obtain⟨E,r,k,P⟩:=I.tuple C;obtain⟨j,n,o,L,M,N⟩:=JZ A;obtain⟨w,m,e⟩:=r.get o;have B:=r.length;have O:=NC;have d:EP X c l Q w s:=⟨z,H,I,e,q⟩;exact subscriptTail_builtinR (x:=w) k.typeIs slot_tuple_getitem.lookup
  (getItem_tuple (j:=j) (Q:=λr J=>r=w/\EP X c l Q r J) k ∅ ∅ (by rw[zK,<-B];exact n) (by simpa using m) ⟨rfl,d⟩) D
def Am:QL X MS:=by
 intro e d g s G H x y v u Q I A B h w;obtain⟨z,i,c,rfl,rfl,E,p,q⟩:=h;obtain⟨t,rfl⟩:=A;obtain⟨F,rfl⟩:=B;obtain⟨j,f,m,C,n,o⟩:=JZ p;have r:z.cps.toList.length=z.length:=by simp[Str.length]
 rw[r] at f n o;have D:=NC;exact tail_any (typeIs_str s z t) slot_str_getitem.lookup (getItem_str (c:=c) (by
  have k:decide (i < -(2 ^ 63:Int))=false:=aM ∅
  have l:decide (i ≥ 2 ^ 63)=false:=aM ∅
  rw[k,l,Bool.or_false]) (by rw[f];simpa using m) ⟨.str ⟨#[c]⟩,H,I.tok _,⟨_,rfl⟩,q⟩) w
def K4(K:zZ):R2:=λx y H Q=>MP K x y H Q\/PV K x y H Q\/MS x y H Q
def AB:QL X (K4 X.K):=Z6.or (Qf.or Am)
def pxT{X:Cx}{a b:Expr}{ta tb:TE}{pos:aK}(K:zZ)(c:PE X a ta)(d:PE X b tb)(f:KC b:=by exact λ_ _=>rfl)(e:QL X (PV K):=by exact Qf):PE X (.Subscript a b pos) (NY (PV K) ta tb):=Ui e c d f
def Zm{X:Cx}{a b:Expr}{ta tb:TE}{pos:aK}(K:zZ)(c:PE X a ta)(d:PE X b tb)(f:KC b:=by exact λ_ _=>rfl)(e:QL X (K4 K):=by exact AB):PE X (.Subscript a b pos) (NY (K4 K) ta tb):=Ui e c d f
def B9(c:je)(n j:Nat)(u:ai):Obj.mapSeq (·.setIfInBounds j u) { cls:=.type "list",data:=.seq c.toArray n }={ cls:=.type "list",data:=.seq (c.set j u).toArray n }:=by
 simp[Obj.mapSeq]
def ZE.lst{d:jv}{g:St}{H:Hp}{s:al}{p:aj}{f:jf}(I:ZE X d g H s)(h:H p=some (.lst f)):
  ∃(c:je)(n:Nat),ZT f c/\s.heap.get? p=some { cls:=.type "list",data:=.seq c.toArray n }/\f.length<=sizeLine:=by
 obtain⟨z,c,n,r,e⟩:=I.hok p _ h;exact⟨c,n,r,e,z⟩
def ZE.lstUpd{d:jv}{l:St}{H:Hp}{s:al}{p:aj}{w j:jf}{g c:je}{n i:Nat}{f:aJ->aJ}(I:ZE X d l H s)(h:H p=some (.lst w))(o:s.heap.get? p=some { cls:=.type "list",data:=.seq g.toArray n })(k:f { cls:=.type "list",data:=.seq g.toArray n }={ cls:=.type "list",data:=.seq c.toArray i })(r:ZT j c)(v:j.length<=aq)(t:Nat):
  ZE X d l (upd H p (.lst j)) { s with heap:=s.heap.update p f,toks:=t }:=by
 have e:(s.heap.update p f).get? p=some { cls:=.type "list",data:=.seq c.toArray i }:=by
  rw[wW f o (by rw[k] <;> rfl),k]
 refine I.write (x:=p) (e:=p) (by rw[h];trivial) (.inl rfl) (λb u m q=>(yC _ _ (Ne.symm m)).trans q) ⟨_,e⟩ ?_
 exact⟨v,c,i,r,e⟩
inductive Np(o i v:V)(H:Hp)(Q:Hp->Prop):Prop
 |mk(p c k j:_)(_:o=.ref p)(_:i=.int k)(_:H p=some (.lst c))(_:Qp c.length k=some j)(_:Q (upd H p (.lst (c.set j v))))
def JW:Fp X Np:=by
 intro d s G H o i v M L u Q I D C E h;obtain⟨p,F,k,j,rfl,rfl,z,A,q⟩:=h;cases D;obtain⟨t,rfl⟩:=C;obtain⟨c,n,r,l,B⟩:=I.lst z;obtain⟨e,J,x,y⟩:=He A;have g:=r.length;have K:=NC;have m:ZE X d G (upd H p (.lst (F.set j v))) { s with heap:=s.heap.update p (Obj.mapSeq (·.setIfInBounds j u)) }:=
  I.lstUpd z l (B9 c n j u) (r.set E j) (by rw[wR];exact B) s.toks
 by_cases w:0<=k
 ·have f:k.toNat=j:=by
   rw[seqIndex_of w y] at e;exact zJ.inj e
  exact PySem.W.ki_setAt l w ∅ (by rw[zK,<-g];exact y) (by rw[f];exact⟨_,m,q⟩)
 ·have f:(k+(c.toArray.size:Int)).toNat=j:=by
   rw[seqIndex_neg ∅ x] at e
   rw[zK,<-g];exact zJ.inj e
  exact PySem.W.ki_setBack l ∅ (by rw[zK,<-g];exact x) ∅ (by rw[f];exact⟨_,m,q⟩)
def C5(d c:jK)(n:Nat):(sliceBounds d c none n).1=((HT.sIx n 0 d:Nat):Int)/\(sliceBounds d c none n).2.1=((HT.sIx n n c:Nat):Int)/\(sliceBounds d c none n).2.2=1:=by
 refine⟨?_,?_,rfl⟩
 ·cases d with
  | none=>simp[sliceBounds,HT.sIx]
  | some i=>
   simp only[sliceBounds,HT.sIx,Option.getD_none,show (1:Int) > 0 by decide,if_true]
   by_cases h:i<0
   ·simp only[h,if_true] <;> lia
   ·simp only[h,if_false] <;> lia
 ·cases c with
  | none=>simp[sliceBounds,HT.sIx]
  | some i=>
   simp only[sliceBounds,HT.sIx,Option.getD_none,show (1:Int) > 0 by decide,if_true]
   by_cases h:i<0
   ·simp only[h,if_true] <;> lia
   ·simp only[h,if_false] <;> lia
def CI(c:je)(d e:jK):slicePick c.toArray d e none=((c.drop (HT.sIx c.length 0 d)).take (HT.sIx c.length c.length e-HT.sIx c.length 0 d)).toArray:=by
 obtain⟨f,g,h⟩:=C5 d e c.toArray.size;unfold slicePick;rw[f,g,h];simp only[sliceRange_one,pick_run,zK] <;> rfl
inductive KZ(K:zZ)(x:V)(e d:jK)(H:Hp)(Q:VK):Prop
 |mk(a c:_)(_:x=.ref a)(_:ZG K H a c)(_:∀ p,H p=none->Q (.ref p) (upd H p (.lst (NE c e d))))
def Ba:Gk X (KZ X.K):=by
 intro i s A H x v y z e f w Q I t j n p h;obtain⟨a,c,rfl,k,q⟩:=h;cases t;obtain⟨m,r,g,l⟩:=I.list k;have d:=r.length;exists "list",_,slot_list_getitem.lookup,g.isList.typeIs;refine wpAny_getItem_list_slice g.isList j n p .none (by simp) ?_ (by rw[zK] <;> lia)
 rw[CI,<-d];refine⟨.ref s.heap.objs.size,_,I.laid (t':=s.toks) (o:=.lst (NE c e f)) (λb u q=>zS _ q) (zY _) ?_,rfl,q _ (I.hok.fresh (zY _))⟩;exact⟨zD (AC c e f) l,_,0,(r.drop (HT.sIx c.length 0 e)).take (HT.sIx c.length c.length f-HT.sIx c.length 0 e),yT _ rfl⟩
def PJ:V->Bool
 | .non=>true
 | .bl _=>true
 | .int _=>true
 | .str _=>true
 | _=>false
def Qn:V->V->Bool
 | .non,.non=>true
 | .bl a,.bl b=>a==b
 | .bl a,.int b=>(if a then 1 else 0)==b
 | .int a,.bl b=>a==(if b then 1 else 0)
 | .int a,.int b=>a==b
 | .str a,.str b=>a==b
 | _,_=>false
def MR{A:ax}{s:al}{y x:V}{u v:ai}(f:ZW y u)(c:ZW x v)(g:PJ y=true)(e:PJ x=true):SeqAt.EqAt A s u v (Qn y x):=by
 cases y with
 | non=>
  cases f
  cases x with
  | non=>cases c;exact SeqAt.EqAt.same _
  | bl b=>cases c;exact SeqAt.EqAt.none_bool b
  | int b=>obtain⟨t,rfl⟩:=c;exact SeqAt.EqAt.none_int b t
  | str b=>obtain⟨t,rfl⟩:=c;exact SeqAt.EqAt.none_str b t
  | _=>exact absurd (show false=true from e) zT
 | bl a=>
  cases f
  cases x with
  | non=>cases c;exact SeqAt.EqAt.bool_none a
  | bl b=>cases c;exact SeqAt.EqAt.bool_bool a b
  | int b=>obtain⟨t,rfl⟩:=c;exact SeqAt.EqAt.bool_int a b t
  | str b=>obtain⟨t,rfl⟩:=c;exact SeqAt.EqAt.bool_str a b t
  | _=>exact absurd (show false=true from e) zT
 | int a=>
  obtain⟨d,rfl⟩:=f
  cases x with
  | non=>cases c;exact SeqAt.EqAt.int_none a d
  | bl b=>cases c;exact SeqAt.EqAt.int_bool a d b
  | int b=>obtain⟨t,rfl⟩:=c;exact SeqAt.EqAt.int_int a d b t
  | str b=>obtain⟨t,rfl⟩:=c;exact SeqAt.EqAt.int_str a d b t
  | _=>exact absurd (show false=true from e) zT
 | str a=>
  obtain⟨d,rfl⟩:=f
  cases x with
  | non=>cases c;exact SeqAt.EqAt.str_none a d
  | bl b=>cases c;exact SeqAt.EqAt.str_bool a d b
  | int b=>obtain⟨t,rfl⟩:=c;exact SeqAt.EqAt.str_int a d b t
  | str b=>obtain⟨t,rfl⟩:=c;exact SeqAt.EqAt.str_str a d b t
  | _=>exact absurd (show false=true from e) zT
 | _=>exact absurd (show false=true from g) zT
def Pd(x:V)(u:ai):Bool:=match u with
 | .none=>Qn .non x
 | .bool b=>Qn (.bl b) x
 | .int i _=>Qn (.int i) x
 | .str z _=>Qn (.str z) x
 | _=>false
def Gj{x y:V}{u:ai}(r:ZW y u)(f:PJ y=true):Pd x u=Qn y x:=by
 cases y with
 | non=>cases r;rfl
 | bl b=>cases r;rfl
 | int i=>obtain⟨t,rfl⟩:=r;rfl
 | str z=>obtain⟨t,rfl⟩:=r;rfl
 | _=>exact absurd (show false=true from f) zT
def KJ{x:V}:∀{c:jf}{d:je},ZT c d->c.all PJ=true->d.any (Pd x)=c.any λy=>Qn y x
 | _,_,.nil,_=>rfl
 | y::c,u::d,.cons r t,f=>by
  rw[vO,zR] at f;rw[vZ,vZ,Gj r f.1,KJ t f.2]
def JD{A:ax}{s:al}{x:V}{v:ai}(h:ZW x v)(g:PJ x=true):∀{e:jf}{d:je},ZT e d->e.all PJ=true->∀ u∈d,SeqAt.EqAt A s u v (Pd x u)
 | _,_,.nil,_=>λu c=>by cases c
 | y::e,u::d,.cons r t,f=>λi c=>by
  rw[vO,zR] at f;rcases zG.mp c with rfl | c
  ·rw[Gj r f.1];exact MR r h f.1 g
  ·exact JD h g t f.2 i c
def LW(x:V)(c:jf):Bool:=c.any λy=>Qn y x
inductive HU(K:zZ)(d:Bool)(x y:V)(H:Hp)(Q:VK):Prop
 |mk(p c:_)(_:y=.ref p)(_:ZG K H p c\/Zh K H p c)(_:PJ x=true)(_:c.all PJ=true)(_:Q (.bl (if d then !LW x c else LW x c)) H)
def Ae:Yu X (az .In) (HU X.K false):=by
 intro j s o H x y v u Q I k m h;obtain⟨p,n,rfl,d,i,e,q⟩:=h;cases m;rcases d with d | d
 ·obtain⟨c,r,g,l⟩:=I.list d;refine SeqAt.in_listAt (Pd x) g.isList (λw f=>JD k i r e w (by simpa using f)) ⟨.bl _,H,I,rfl,?_⟩
  rw[show c.toArray.any (Pd x)=c.any (Pd x) by simp,KJ r e]
  exact q
 ·obtain⟨c,r,g,l⟩:=I.tuple d;refine SeqAt.in_tupleAt (Pd x) g (λw f=>JD k i r e w (by simpa using f)) ⟨.bl _,H,I,rfl,?_⟩
  rw[show c.toArray.any (Pd x)=c.any (Pd x) by simp,KJ r e]
  exact q
inductive Wc(d:zZ)(e:jf)(H:Hp)(Q:VK):Prop
 |mk(p c:_)(_:e=[.ref p])(_:ZG d H p c\/Zh d H p c)(_:Q (.int c.length) H)
def WA:VI X (.builtin "len") (Wc X.K):=by
 intro i s t H o n Q I r h;obtain⟨p,j,rfl,d,q⟩:=h;obtain⟨u,rfl,l⟩:=VY r;cases l;have m:=NC;rcases d with d | d
 ·obtain⟨e,g,f,k⟩:=I.list d;have c:=g.length;exact Calls.call_len_list f.isList (by simp only[zK] <;> lia) ⟨.int j.length,H,I.tok _,⟨s.toks+1,by rw[zK,c]⟩,q⟩
 ·obtain⟨e,g,f,k⟩:=I.tuple d;have c:=g.length;exact len_tuple f (by simp only[zK] <;> lia) ⟨.int j.length,H,I.tok _,⟨s.toks+1,by rw[zK,c]⟩,q⟩
inductive WX(c:jf)(H:Hp)(Q:VK):Prop
 |mk(z:_)(_:c=[.str z])(_:z.length<=aq)(_:Q (.int z.length) H)
def Do:VI X (.builtin "len") (WX):=by
 intro c s i H g f Q I r h;obtain⟨z,rfl,e,q⟩:=h;obtain⟨u,rfl,t,rfl⟩:=VY r;have d:=NC;exact len_str ∅ ⟨.int z.length,H,I.tok _,⟨_,rfl⟩,q⟩
inductive Wd(d:zZ)(e:jf)(H:Hp)(Q:VK):Prop
 |mk(p c:_)(_:e=[.ref p])(_:ZG d H p c\/Zh d H p c)(_:∀ l,H l=none->Q (.ref l) (upd H l (.lst c)))
def Pq:VI X (.type "list") (Wd X.K):=by
 intro t s D H F E Q I r h;obtain⟨p,A,rfl,k,q⟩:=h;obtain⟨u,rfl,C⟩:=VY r;cases C;have i:∀(c:je),ZT A c->A.length<=aq->∀(d:aD)(f:Nat),(∀ b B,s.heap.get? b=some B->d.get? b=some B) ->
   d.get? s.heap.objs.size=some { cls:=.type "list",dict:=none,data:=.seq c.toArray f,slots:=#[] }->EP X t D Q (.ref s.heap.objs.size) { s with heap:=d }:=λc g l d f m e=>
  ⟨.ref s.heap.objs.size,_,I.laid (t':=s.toks) m (zY _) (show Zd X.prog X.w _ d _ (.lst A) from ⟨l,c,f,g,e⟩),rfl,q _ (I.hok.fresh (zY _))⟩
 rcases k with k | k
 ·obtain⟨c,g,z,l⟩:=I.list k;have j:=g.length;obtain⟨o,y,v,n,x⟩:=z.isList;exact call_list_seq p (.inl rfl) y v x (λd f m e=>i c g l d f m e) (by simp only[zK] <;> lia)
 ·obtain⟨c,g,z,l⟩:=I.tuple k;have j:=g.length;obtain⟨o,y,v,n,x⟩:=z;exact call_list_seq p (.inr rfl) y v x (λd f m e=>i c g l d f m e) (by simp only[zK] <;> lia)
inductive WL(d:zZ)(e:jf)(H:Hp)(Q:VK):Prop
 |mk(p c:_)(_:e=[.ref p])(_:(ZG d H p c/\∀ l,H l=none->Q (.ref l) (upd H l (.tup c)))\/(Zh d H p c/\Q (.ref p) H))
def NO:VI X (.type "tuple") (WL X.K):=by
 intro c s t H A z Q I r h;obtain⟨p,n,rfl,h⟩:=h;obtain⟨u,rfl,y⟩:=VY r;cases y;rcases h with ⟨g,q⟩ | ⟨g,q⟩
 ·obtain⟨d,j,i,m⟩:=I.list g;have l:=j.length;refine call_tuple_list i.isList (λf x=>?_) (by simp only[zK] <;> lia)
  have k:ZE X c t H { s with heap:=f }:=I.kept (t':=s.toks) x;have v:ZE X c t (upd H f.objs.size (.tup n)) { s with heap:=f.push { cls:=.type "tuple",data:=.seq d.toArray } }:=
   k.laid (t':=s.toks) (λb o e=>zS _ e) (zY _) (show Zd X.prog X.w _ _ _ (.tup n) from ⟨m,d,j,IsTup.new _ _⟩)
  exact⟨.ref f.objs.size,_,v,rfl,q _ (k.hok.fresh (zY _))⟩
 ·obtain⟨d,j,i,m⟩:=I.tuple g;exact call_tuple_same i ⟨.ref p,H,I,rfl,q⟩
def KP(K:zZ)(T:String)(x:V)(H:Hp):Prop:=match x with
 | .str _=>T = "str"
 | .int _=>T = "int"
 | .ref p=>(T = "list" /\ ∃ d,ZG K H p d)\/(T = "tuple" /\ ∃ o,K.lookup p=some o/\o.cls=.type "tuple" /\ o.dict=none) \/
   (T = "dict" /\ ((∃ c,H p=some (.dK c))\/∃ c,H p=some (.dT c)))\/(T = "set" /\ ∃ S n,H p=some (.set S n))
 | _=>False
def G7{g:jv}{A:St}{H:Hp}{s:al}{T:String}{x:V}{v:ai}(I:ZE X g A H s)(r:ZW x v)(h:KP X.K T x H):
  s.TypeIs v T/\∀ a,v=.ref a->∃ m,s.heap.get? a=some m/\m.dict=none:=by
 cases x with
 | str z=>
  obtain⟨t,rfl⟩:=r;cases(show T = "str" from h);exact⟨typeIs_str s z t,λ_ e=>nomatch e⟩
 | int i=>
  obtain⟨t,rfl⟩:=r;cases(show T = "int" from h);exact⟨typeIs_int s i t,λ_ e=>nomatch e⟩
 | ref p=>
  cases r;rcases h with ⟨rfl,B,w⟩ | ⟨rfl,o,d,u,k⟩ | ⟨rfl,d⟩ | ⟨rfl,S,n,d⟩
  ·obtain⟨y,_,q,_⟩:=I.list w;exists q.isList.typeIs;intro a e;cases e;obtain⟨o,n,e,c,k,_⟩:=q;exact⟨o,e,k⟩
  ·exists ⟨o,I.kIn p o d,u⟩;intro a e;cases e;exact⟨o,I.kIn _ o d,k⟩
  ·have z:∃ o,s.heap.get? p=some o/\o.ExactDict:=by
    rcases d with ⟨l,d⟩ | ⟨l,d⟩
    ·obtain⟨_,_,_,_,o,_,_,e,f,_⟩:=I.hok p _ d;exact⟨o,e,f⟩
    ·obtain⟨_,_,_,_,o,_,_,e,f,_⟩:=I.hok p _ d;exact⟨o,e,f⟩
   obtain⟨o,e,f⟩:=z;exists ⟨o,e,f.1⟩;intro a j;cases j;exact⟨o,e,f.2.1⟩
  ·obtain⟨o,_,_,_,e,f,_⟩:=I.hok p _ d;exists ⟨o,e,f.1⟩;intro a j;cases j;exact⟨o,e,f.2.1⟩
 | _=>exact False.elim h
def Br(K:zZ)(T:String)(r:V->jf->Hp->VK->Prop)(d:TE):TE:=λe H Q=>d e H λx c=>KP K T x c/\r x [] c Q
def Lp(K:zZ)(T:String)(r:V->jf->Hp->VK->Prop)(f:TE)(t:TA):TE:=λd H Q=>f d H λx c=>KP K T x c/\t d c λg e=>r x g e Q
variable{o e:Expr}{es:jA}{to:TE}{t:TA}{name:Str}{jk jj:aK}{T id:String}{r:V->jf->Hp->VK->Prop}
def Mb(w:PlainAttrs T)(g:Slot T name id)(i:typeOf (.builtin id)=pure (.type "method_descriptor"))(q:Fo X id r)(u:PE X o to)(d:attributeBase o name X.env (aI o X.env)=aI o X.env:=by rfl)(f:(jk.endLine==jj.line)=true:=by rfl):PE X (.Call (.Attribute o name jk) [] [] jj) (Br X.K T r to):=by
 intro c s l H Q I h;refine wpAny_Call_method0_late d f (Z3 (u c s l H _ I h) ?_);rintro v z ⟨x,m,j,k,A,y⟩;obtain⟨n,p⟩:=G7 j k A;exact⟨T,id,w,g,i,n,p,Calls.callWith_builtin rfl (PySem.evalArgs_none (q c z l m x [] v [] Q j k .nil y))⟩
def UQ(E:PlainAttrs T)(j:Slot T name id)(k:typeOf (.builtin id)=pure (.type "method_descriptor"))(B:Fo X id r)(C:PE X o to)(A:PA X (e::es) t)(f:attributeBase o name X.env (aI o X.env)=aI o X.env:=by rfl)(i:((aG jj (ar (e::es) X.env)).all (λx=>!x.1)&&(backToKw jj (keywordEach [] X.env)).all (λx=>x.1.isSome)
   && decide ((e::es).length+([]:List Keyword).length+(if ([]:List Keyword).isEmpty then 0 else 1)<30))=true:=by rfl)(g:(jk.endLine==jj.line)=true:=by rfl)(D:ar (e::es) X.env=(false,aI e X.env)::ar es X.env:=by rfl)(d:(aG jj (ar es X.env)).any (·.1)=false:=by rfl):
  PE X (.Call (.Attribute o name jk) (e::es) [] jj) (Lp X.K T r to t):=by
 intro c s l H Q I h;refine wpAny_Call_method_late f i g rfl (Z3 (C c s l H _ I h) ?_);rintro v L ⟨x,q,m,p,N,F⟩;obtain⟨y,z⟩:=G7 m p N;exists T,id,E,j,k,y,z;have n:=A jj c L l q _ m F;rw[D] at n⊢;refine Calls.callWith_builtin (by show (false || (aG jj (ar es X.env)).any (·.1))=false;rw[d] <;> rfl) (Calls.evalArgs_plain ?_)
 exact YG n λO M P u w J G=>B c M l u x P v O Q w p J G
end
def Oy(X:Cx)(id:String)(r:V->jf->Hp->VK->Prop):Prop:=
 ∀(a:jv)(s:al)(d:St)(H:Hp)(x:V)(c:jf)(v:ai)(b:je)(Q:VK),ZE X a d H s->ZW x v->ZT c b->r x c H Q ->
  aB (aA X.prog X.w) X.A (call (.builtin id) (v::b)) (EP X a d Q) X.xe s
def ZT.one:∀{x:V}{a:je},ZT [x] a->∃ u,a=[u]/\ZW x u:=λh=>by cases h with | cons r n=>cases n;exact⟨_,rfl,r⟩
def ZT.zero:∀{a:je},ZT [] a->a=[]
 | _,.nil=>rfl
def ZT.dropLast{b:jf}{a:je}(h:ZT b a):ZT b.dropLast a.dropLast:=by
 induction h with
 | nil=>exact .nil
 | cons r t c=>
  cases t with
  | nil=>exact .nil
  | cons q d=>exact .cons r c
def CM{d:Type}(l:List d):l.eraseIdx (l.length-1)=l.dropLast:=by
 induction l with
 | nil=>rfl
 | cons a r c=>
  cases r with
  | nil=>rfl
  | cons b r=>
   have e:(a::b::r).length-1=((b::r).length-1)+1:=by
    have f:(a::b::r).length=r.length+2:=rfl;have g:(b::r).length=r.length+1:=rfl
    lia
   rw[e,List.eraseIdx_cons_succ,c]
   all_goals rfl
section
variable{kh:jv}{σ:St}{H:Hp}{l b:aj}{xs ys zs:jf}
def ZE.lset{a its':je}{n:Nat}{f:jx->jx}{k:Nat}(I:ZE X kh σ H s)(c:H l=some (.lst xs))(e:s.heap.get? l=some { cls:=.type "list",data:=.seq a.toArray n })(g:f a.toArray=its'.toArray)(i:ZT ys its')(j:ys.length<=aq):
  ZE X kh σ (upd H l (.lst ys)) { s with heap:=s.heap.update l (Obj.mapSeq f),toks:=k }:=by
 have q:=PySem.IsL.update e f;rw[g] at q;refine I.write (x:=l) (e:=l) (by rw[c];exact trivial) (.inl rfl) (λm u d h=>(yC s.heap (Obj.mapSeq f) (Ne.symm d)).trans h) ⟨_,q⟩ ?_
 exact⟨j,its',_,i,q⟩
def ZE.lnew{a:je}{t':Nat}(I:ZE X kh σ H s)(c:ZT ys a)(d:ys.length<=aq):
  ZE X kh σ (upd H s.heap.objs.size (.lst ys)) { s with heap:=s.heap.push { cls:=.type "list",data:=.seq a.toArray },toks:=t' }:=
 I.laid (λ_ _ q=>zS _ q) (zY _) ⟨d,a,0,c,yT _ rfl⟩
def ZE.fresh(I:ZE X kh σ H s):H s.heap.objs.size=none:=I.hok.fresh (zY _)
def ZE.lstM(I:ZE X kh σ H s)(c:H l=some (.lst xs)):xs.length<=aq/\∃(a:je)(n:Nat),ZT xs a/\xs.length=a.length/\s.heap.get? l=some { cls:=.type "list",data:=.seq a.toArray n }:=by
 obtain⟨z,a,n,r,e⟩:=I.hok l _ c;exact⟨z,a,n,r,r.length,e⟩
end
inductive PL(x:V)(b:jf)(H:Hp)(Q:VK):Prop
 |mk(l a y:_)(_:x=.ref l)(_:b=[y])(_:H l=some (.lst a))(_:a.length<aq)(_:Q .non (upd H l (.lst (a++[y]))))
def Uk:Oy X "list.append" PL:=by
 intro c s p H x m v k Q I g f h;obtain⟨l,o,y,rfl,rfl,b,j,q⟩:=h;cases g;obtain⟨u,rfl,d⟩:=f.one;obtain⟨z,a,n,r,i,e⟩:=I.lstM b;refine call_meets F.slot_list_append ⟨_,e,rfl⟩ F.entry_list_append (F.args_list_append_2 _ _) (PySem.list_append l a.toArray n u (by rw[zK];lia)) ⟨e,?_⟩
 refine⟨.non,_,I.lset (its':=a++[u]) b e (by simp) (r.append (.cons d .nil)) ?_,rfl,q⟩
 rw[yS,xH]
 lia
inductive Kx(x:V)(b:jf)(H:Hp)(Q:VK):Prop
 |mk(l a y:_)(_:x=.ref l)(_:b=[])(_:H l=some (.lst a))(_:a[a.length-1]? = some y)(_:Q y (upd H l (.lst a.dropLast)))
def Dh:Oy X "list.pop" Kx:=by
 intro f s A H x t v p Q I o m h;obtain⟨l,w,y,rfl,rfl,d,j,q⟩:=h;cases o;have b:=m.zero;subst b;obtain⟨z,a,n,r,g,e⟩:=I.lstM d;obtain⟨u,i,k⟩:=r.get j;have c:a.toArray[a.toArray.size-1]? = some u:=by
  show a.toArray[a.length-1]? = some u;rw[<-rM,<-g];exact i
 refine call_meets F.slot_list_pop ⟨_,e,rfl⟩ F.entry_list_pop (F.args_list_pop_1 _) (MeetsSeq.list_pop_last l a.toArray n u c (by rw[zK];lia)) ⟨e,?_⟩
 refine⟨y,_,I.lset (its':=a.dropLast) d e ?_ r.dropLast ?_,k,q⟩
 ·show a.toArray.eraseIdxIfInBounds (a.toArray.size-1)=a.dropLast.toArray;rw[zK,List.eraseIdxIfInBounds_toArray,CM]
 ·rw[List.length_dropLast]
  lia
inductive Ob(x:V)(a:jf)(H:Hp)(Q:VK):Prop
 |mk(l b:_)(_:x=.ref l)(_:a=[])(_:H l=some (.lst b))(_:Q .non (upd H l (.lst [])))
def Mg:Oy X "list.clear" Ob:=by
 intro d s o H x k v j Q I g f h;obtain⟨l,m,rfl,rfl,c,q⟩:=h;cases g;have a:=f.zero;subst a;obtain⟨z,b,n,r,i,e⟩:=I.lstM c;refine call_meets F.slot_list_clear ⟨_,e,rfl⟩ F.entry_list_clear (F.args_list_clear_1 _) (AutoSeq1.list_clear_list_0 l b.toArray n (by rw[zK];lia)) ⟨e,?_⟩
 exact⟨.non,_,I.lset (its':=[]) (ys:=[]) c e rfl .nil (yX _),rfl,q⟩
inductive Jd(x y:V)(H:Hp)(Q:VK):Prop
 |mk(l b a c:_)(_:x=.ref l)(_:y=.ref b)(_:H l=some (.lst a))(_:H b=some (.lst c))(_:a.length+c.length<=aq)(_:∀ p,H p=none->Q (.ref p) (upd H p (.lst (a++c))))
def PN:Yu X (binaryOp .Add) Jd:=by
 intro d s E H x y v u Q I o p h;obtain⟨l,b,B,D,rfl,rfl,j,i,w,q⟩:=h;cases o;cases p;obtain⟨z,c,n,r,t,e⟩:=I.lstM j;obtain⟨C,a,A,m,k,f⟩:=I.lstM i;refine PySem.P.add_list e f ?_ (by rw[zK,zK];lia)
 have g:c.toArray++a.toArray=(c++a).toArray:=by simp
 rw[g];exact⟨.ref _,_,I.lnew (t':=s.toks) (r.append m) (by rw[yS];lia),rfl,q _ I.fresh⟩
end L2
namespace Att
open PySem PySem.W PySem.Calls PyProof.Rows
def BB{P:Params}{h:aD}:∀(c:jC)(d:je),WellAll P h d (c.map WData.int)->IntsAre d c:=by
 intro c
 induction c with
 | nil=>
  intro d w;rw[wB] at w;cases w;exact .nil
 | cons n c e=>
  intro d w;rw[yI] at w
  cases w with
  | cons a b=>
   cases a;exact .cons _ _ (e _ b)
def E3{l:OpenLaw}{n:Nat}(v:l.most=some n){P:Params}{h:aD}{args:List WData}{e:je}(c:l.row.toRowW.claim.pre args=true)(m:WellAll P h e args):
  ∃ a p b,e=[Value.ref a]/\args=[WData.list (b.map WData.int)]/\h.get? a=some { cls:=.type "list",data:=.seq p.toArray }/\IntsAre p b/\b.length<=n:=by
 have k:WShape.hasAll [] args [.list .int]=true:=(pre_splitW c).1;have o:l.pre.holds [] { args:=args }=true:=(pre_splitW c).2;obtain⟨d,r,rfl,s,t⟩:=hasAllW_cons k;obtain rfl:=hasAllW_nil t;obtain⟨A,rfl,u⟩:=hasW_list s;obtain⟨b,rfl⟩:=items_int u;have g:b.length<=n:=by
  unfold OpenLaw.pre at o;have i:(WTm.not (.lt (.lit (.int (n:Int))) (.len (.arg 0)))).holds [] { args:=[.list (b.map .int)] }=true:=by
   have i:=(holds_andW o).1;rw[v] at i;exact i
  have j:=condW_of i (w_not (w_lt w_lit (w_len_list (w_arg rfl))));rw[zX] at j;refine uV λq=>?_;have x:(n:Int)<((b.length:Nat):Int):=∅
  first
   | (rw[aO x] at j;exact absurd j (by decide))
   | (simp at j;lia)
 cases m with
 | cons y z=>
  cases z
  cases y with
  | list w f=>exact⟨_,_,b,rfl,rfl,w,BB b _ f,g⟩
def BQ(l:OpenLaw)(args:List WData):l.row.toRowW.claim.post args (.bool true) args=true:=
 postW_of (r:=l.row.toRowW) (X:=(true==true))
  (show WShape.has [] (.bool true) .bool=true by first | rfl | decide | simp[WShape.has,WShape.arms,WShape.armsAll])
  (show (WTm.eq .res (.lit (.bool true))).value [] { args:=args,res:=some (.bool true),after:=args }=some (.bool (true==true)) from w_eq_bool (w_res rfl) w_lit) rfl
def attach_call{l:OpenLaw}{n:Nat}{q:am}{c:ju}{E:(jc)->aD->Prop}{F:aw->aD->Prop}{d:DefRec}(S:l.most=some n)(z:d.params.defaults=[])(j:∀ (w:aw) (e b:al) (u C:jc) (k:aj) (o:aJ) (D t g:ai) (a:aj) (i:je) (v:jC),
   Ground q c [] E w e u C b.heap->F w b.heap ->
   b.heap.get? k=some o->o.data=.func (docDef d.name d.params d.body d.scope D t g)->b.heap.CodeRec t d.name->u d.name=some (.ref k) ->
   b.heap.get? a=some { cls:=.type "list",data:=.seq i.toArray }->IntsAre i v->v.length<=n->b.gens=#[] ->
   aH (aA l.prog w) callerA (.call (.ref k) ⟨[.ref a],[]⟩) (λr x=>r=.ok (.ret (.bool true))/\OldK b.heap x.heap/\x.os=b.os/\AllBare x.gens) b):
  WalkO q c E F l.row.toRowW d [] (λf i=>PySem.call f i):=by
 intro w e b u C G Y k o D t g K kV T O y H A P args J W s I V B Q;obtain rfl:K=.none:=Dflts.none H z;obtain rfl:kV=.none:=Dflts.noKw H;obtain⟨a,i,v,rfl,rfl,p,h,m⟩:=E3 S s B;refine enter_call (codeAny_mono (j w e b u C k o D t g a i v G Y T (fd_plain O) y A p h m P) λr x U=>?_);obtain⟨rfl,L,M,N⟩:=U;exact⟨.inl ⟨.bool true,.bool true,[],rfl,λ_=>rfl,.bool true,BQ l _,λ_=>⟨List.Pairwise.nil,λ_ R=>(nomatch R)⟩⟩,L,M,N⟩
section
variable{K:Frag}
def ZQK(h:aD)(L d:aj):jv:=(zQ h.objs.size).filterMap λa=>if a=L\/a=d then none else (h.get? a).map λo=>(a,o)
end
end Att
namespace L2
open PySem PySem.Spec PyProof.Rows
def M7:∀{b:je}{a:jC},IntsAre b a->ZT (a.map V.int) b:=by intro _ _ h;induction h with
 | nil=>exact .nil
 | cons n t _ c=>exact .cons ⟨t,rfl⟩ c
def JK(H:Hp):Prop:=∀ b,H b=none\/∃ o a,H b=some (.frz o (.lst a))
def Dg{P:am}{w:aw}{K:zZ}{M Z:jc}{CX:Ws}{k:Nat}{S a:aj}{fd:ao}{x:Str}{sp:Sp}{c:al}{y:je}{N:jC}(KX:K.In c.heap)(G:c.heap.Ns ap M)(g:c.heap.Ns builtinsNs Z)(U:∀ x:Str,x ≠ "__name__"->Z x=ay x)(E:c.heap.NoLimit)(hg:c.gens=#[])(Q:c.heap.get? a=some { cls:=.type "list",data:=.seq y.toArray })(hi:IntsAre y N)(hl:N.length<=aq)(hr:ZZ k callerA)(F:∀ i:aD,K.In i->i.Ns ap M->ZJ P w K M i CX k S fd [x] sp)(t:∀ (s:al) (u:ai),BindsTo s fd ⟨[u],[]⟩ [(x,u)])(Y:∀ H:Hp,JK H->ZG K H a (N.map V.int)->sp [.ref a] H (λv _=>v=.bl true) λ_ _ _=>False)(T:∀ H e j,CX [] H c (λ_ _ _=>False) e j->False):
  aH (aA P w) callerA (.call (.ref S) ⟨[.ref a],[]⟩) (λr j=>r=.ok (.ret (.bool true))/\OldK c.heap j.heap/\j.os=c.os/\AllBare j.gens) c:=by
 have rv:=M7 hi;have L:=hi.length;have p:∀ H:Hp,JK H->ZG K H a (N.map V.int)->YW P w H c.heap->(∀ b,H b≠none->b=a)->(H a≠none->K.lookup a=none) ->
   aH (aA P w) callerA (.call (.ref S) ⟨[.ref a],[]⟩) (λr j=>r=.ok (.ret (.bool true))/\OldK c.heap j.heap/\j.os=c.os/\AllBare j.gens) c:=by
  intro H hO hS I hA hK;have f:∀{b:aj}{o:aJ},c.heap.get? b=some o->H b=none->(V4 c.heap H).get? b=some o:=λe n=>GM e n;have a0:∀{b:aj}{o:aJ}{C:Array DictEntry}{B:Nat},c.heap.get? b=some o->o.data=.dict C B->H b=none:=fun{b o C B} e d=>by
   cases q:H b with
   | none=>rfl
   | some u=>
    have R:b=a:=hA b (by rw[q];simp)
    subst R;rw[Q] at e;cases e;have d':Data.seq y.toArray _=Data.dict C B:=d;cases d'
  have l:∀{b:aj}{m:jc},c.heap.Ns b m->(V4 c.heap H).Ns b m:=fun{b m} ⟨o,C,B,e,d,r⟩=>⟨o,C,B,f e (a0 e d),d,r⟩;have D:K.In (V4 c.heap H):=λb o e=>f (KX b o e) (by
   cases q:H b with
   | none=>rfl
   | some u=>
    have R:b=a:=hA b (by rw[q];simp)
    subst R;rw[hK (by rw[q];simp)] at e;cases e)
  have hM:Mod K M (V4 c.heap H):=⟨D,l G,⟨Z,l g,U⟩,let ⟨mc,h1,h2⟩:=E;⟨mc,l h1,h2⟩⟩;have e0:We P w K M (V4 c.heap H) callerA [] c H:=⟨rfl,hM,λb o e=>Gx e,wC (Fe _ _),trivial,λb g=>absurd (show b∈([]:jw) from g) (by simp),I,.of_eq hg⟩
  refine codeAny_mono ((F _ D (l G)).run callerA [] c H ⟨[.ref a],[]⟩ [.ref a] [.ref a] _ _ hr e0 (t c (.ref a)) (.cons rfl .nil) (Y H hO hS)) λr j h=>?_
  cases r with
  | error e=>exact(T H e j h).elim
  | ok fl=>
   cases fl with
   | next=>exact False.elim h
   | brk=>exact False.elim h
   | cont=>exact False.elim h
   | ret u=>
    obtain⟨v,H',os,A,un,J,r',q⟩:=h;have q':v=.bl true:=q;subst q';obtain rfl:u=Value.bool true:=r';refine⟨rfl,OldK.of_keep λb o e=>?_,os,A⟩
    cases q:H b with
    | none=>exact un.keep b o e q (by intro z;exact absurd (show b∈([]:jw) from z) (by simp)) (by simp)
    | some u=>
     rcases hO b with z | ⟨ob,xs,z⟩
     ·rw[q] at z;cases z
     ·have z2:=un.frzs b ob _ z;obtain⟨e1,_⟩:=I b _ z;obtain⟨e2,_⟩:=J b _ z2;rw[e] at e1;cases e1;exact e2
 cases X:K.lookup a with
 | some o=>
  have e:=KX a o X;rw[Q] at e;cases e;refine p (λ_=>none) (λ_=>.inl rfl) (.inr ⟨_,y.toArray,_,X,rfl,rfl,rfl,by rw[zK,L];exact hl,by simpa using rv⟩) (λb u z=>by have O:(none:Option HO)=some u:=z;cases O) (λb z=>absurd rfl z) λz=>absurd rfl z
 | none=>
  refine p (λb=>if b=a then some (.frz { cls:=.type "list",data:=.seq y.toArray } (.lst (N.map V.int))) else none) (λb=>?_) (.inl (.inr ⟨{ cls:=.type "list",data:=.seq y.toArray },aQ rfl⟩)) (λb u z=>?_) (λb z=>?_) λ_=>X
  ·by_cases g:b=a
   ·exact .inr ⟨_,_,aQ g⟩
   ·exact .inl (aP g)
  ·by_cases g:b=a
   ·have O:=(aQ g).symm.trans z;cases O;subst g;exact⟨Q,by rw[zX];exact hl,y,_,rv,Q⟩
   ·have O:=(aP g).symm.trans z;cases O
  ·by_cases g:b=a
   ·exact g
   ·exact absurd (aP g) z
abbrev KOf{K:zZ}{h:aD}(_:K.In h):zZ:=K
def ZPn{l:uR}{n k:Nat}{q:am}{loose:ju}{XP:(jc)->aD->Prop}{YP:aw->aD->Prop}{d:DefRec}{K:Params->zZ}{CX:aw->Ws}{sp:aw->Sp}{x:Str}(hn:l.most=some n)(hn2:n<=aq)(hdf:d.params.defaults=[])(hr:ZZ k callerA)(hY:∀ (w:aw) (h:aD),YP w h->(K w.params).In h)(F:∀ (w:aw) (m:jc) (t:aj) (h:aD),(K w.params).In h->h.Ns ap m->m d.name=some (.ref t) ->
   ∃ z:ao,(∀ (s:al) (u:ai),BindsTo s z ⟨[u],[]⟩ [(x,u)]) /\
    ∀ c:aD,(K w.params).In c->c.Ns ap m->ZJ l.prog w (K w.params) m c (CX w) k t z [x] (sp w))(hsp:∀ (w:aw) (H:Hp) (a:aj) (y:jC),y.length<=n->JK H->ZG (K w.params) H a (y.map V.int)->sp w [.ref a] H (λv _=>v=.bl true) λ_ _ _=>False)(hCX:∀ (w:aw) (H:Hp) (s:al) (e:ai) (B:al),CX w [] H s (λ_ _ _=>False) e B->False):
  tN q loose XP YP l.row.toRowW d [] (λf E=>PySem.call f E):=by
 refine Att.attach_call hn hdf λw D r m U t o X Q I a E y G Y S R O A p j i P=>?_;have C:=hY w _ Y;obtain⟨z,N,J⟩:=F w m t _ C G.T.g A;exact Dg C G.T.g G.T.b G.T.builtins G.T.nolimit P p j (zD i hn2) hr J N (λH L M=>hsp w H a y i L M) λH e B=>hCX w H r e B
def Xy(s:aC)(j:Nat):Stmt:=match s with
 | .ClassDef _ _ _ a _ _ _ _ _ _ _=>a.getD j (.Pass ⟨0,0,0,0⟩)
 | _=>.Pass ⟨0,0,0,0⟩
def Ve(s:aC):Arguments:=match s with
 | .FunctionDef _ a _ _ _ _ _ _ _ _=>a
 | _=>{ posonlyargs:=[],args:=[],vararg:=none,kwonlyargs:=[],kw_defaults:=[],kwarg:=none,defaults:=[] }
def Xd(s:aC):List Stmt:=match s with
 | .FunctionDef _ _ b _ _ _ _ _ _ _=>b
 | _=>[]
def Zc(s:aC):Scope:=match s with
 | .FunctionDef _ _ _ _ _ _ a _ _ _=>a
 | _=>{ kind:=.function,names:=[],isGenerator:=false,isCoroutine:=false }
abbrev Ze:Ws:=λ_ _ _ _ _ _=>False
abbrev E0:XK:=λ_ _ _=>False
def XA{X:Cx}:Vd Ze X E0:=λ_ _ _ _ _ _ _ h=>h.elim
structure Zp(K:zZ)(x qual:Str)(st:aC)(f:aj)(fd:ao):Prop where
 ex:∃(oc:ai)(od:jz)(kV doc pm:ai)(an:jz)(cdv ct:ai)(osl:Array (jd)),
  fd=yG x qual (Ve st) (Xd st) (Zc st) .none kV doc pm an cdv ct/\K.lookup f=some ⟨oc,od,.func fd,osl⟩/\xR K cdv qual=true
 kp:yW K (.ref f)=true
def Zp.ok{x b:Str}{g:aC}{f:aj}{o:ao}{N m:ju}{k:Nat}{n:Sp}(F:Zp K x b g f o)(S:ZC N m (Zc g))(l:∀ e H Q E,n e H Q E->e.length=m.length)(d:∀ (c:ai) (A:ax) (a:jB) (s:al) (H:Hp) (e:jf) (Q:VK) (E:XK),ZZ k (A.deeper (envOfC b (Zc g) s.heap.objs.size f c))->n e H Q E ->
   let X:=(Wt Ze P w K mg ki N b (Zc g) f c A a s H E).nox;∃ t,Xz X (Xd g) t/\t { nx:=λ_ p=>Q .non p,rt:=Q } (U8 N e) H):ZJ P w K mg ki Ze (k+1) f o m n:=by
 obtain⟨B,C,kV,r,D,z,c,ct,y,rfl,v,i⟩:=F.ex;refine Jx v i S l λA a s H e Q E u j=>?_;obtain⟨t,h,q⟩:=d c A a s H e Q E u j;exact⟨t,h.nox,q⟩
def Zp.ko{x a:Str}{g:aC}{f:aj}{m:ao}{N j:ju}{k:Nat}{l:Sp}(F:Zp K x a g f m)(S:ZC N j (Zc g))(b:∀ (e:ai) (A:ax) (c:jB) (s:al) (H:Hp) (d:jf) (Q:VK) (E:XK),ZZ k (A.deeper (envOfC a (Zc g) s.heap.objs.size f e))->l d H Q E ->
   let X:=(Wt Ze P w K mg ki N a (Zc g) f e A c s H E).nox;∃ t,Xz X (Xd g) t/\t { nx:=λ_ n=>Q .non n,rt:=Q } (U8 N d) H)(i:∀ d H Q E,l d H Q E->d.length=j.length:=by intro d _ _ _ h;cases h;(try subst d);rfl):ZJ P w K mg ki Ze (k+1) f m j l:=F.ok S i b
def Zp.binds{x a:Str}{d:aC}{f:aj}{k:ao}{i:ju}(F:Zp K x a d f k)(h:∀ (kV c g:ai) (e:jz) (b ct:ai) (j:je),j.length=i.length->bindArgs (yG x a (Ve d) (Xd d) (Zc d) .none kV c g e b ct) ⟨j,[]⟩=pure (i.zip j)):Z8 K k i []:=by
 obtain⟨o,p,kV,c,g,e,b,ct,m,rfl,n,l⟩:=F.ex;exact .all (h kV c g e b ct)
def Vk{x a:Str}{st:aC}{f:aj}{i:ai}{j g:jz}{e:Array (jd)}{kV d h b ct:ai}(l:K.lookup f=some ⟨i,j,.func (yG x a (Ve st) (Xd st) (Zc st) .none kV d h g b ct),e⟩)(c:xR K b a=true)(k:yW K (.ref f)=true):Zp K x a st f (yG x a (Ve st) (Xd st) (Zc st) .none kV d h g b ct):=⟨⟨i,j,kV,d,h,g,b,ct,e,rfl,l,c⟩,k⟩
def VJ{A:ax}{k:Nat}(a:ZZ k A):A.units+1<cLine:=xK (Nat.add_le_add_left (by decide:1<=64) _) a.units
def YS{n:Nat}(h:n<=1000):n<sizeLine:=xK h (by decide)
def pv(i:Nat){x:Str}{b:aK}(c:X.N[i]? = some x:=by rfl)(e:Lf X.env.scope x:=by first | exact Or.inl rfl | exact Or.inr (Or.inl rfl) | exact Or.inr (Or.inr rfl))(d:(x==("__debug__" : Str))=false:=by decide)(a:(x==("__classdict__" : Str))=false:=by decide):PE X (.Name x b) (Uq i):=EN c e d a
def Zk{A B:Prop}(h:B):if false=true then A else B:=by
 rw[aP zT];exact h
def Z1{A B:Prop}(h:A):if true=true then A else B:=by
 rw[aQ rfl];exact h
def Wu{c A B:Prop}[Decidable c](a:c->A)(b:¬ c->B):if c then A else B:=by
 by_cases h:c
 ·rw[aQ h];exact a h
 ·rw[aP h];exact b h
def NP{c A B:Prop}[Decidable c](a:c)(h:B):if (!decide c)=true then A else B:=by
 rw[aO a];exact Zk h
def ZA(H a:Hp):Prop:=∀ b o,H b=some o->a b=some o
def ZA.refl(H:Hp):ZA H H:=λ_ _ h=>h
def ZA.trans{H d e:Hp}(a:ZA H d)(b:ZA d e):ZA H e:=λc o h=>b c o (a c o h)
def ZA.free{H a:Hp}(e:ZA H a){l:aj}(h:a l=tR):H l=tR:=by
 cases q:H l with
 | none=>rfl
 | some o=>
  rw[e l o q] at h;cases h
def ZA.seq{K:zZ}{H b:Hp}{a:aj}{c:jf}(e:ZA H b)(h:ZG K H a c):ZG K b a c:=by
 rcases h with (h | ⟨o,h⟩) | h
 ·exact .inl (.inl (e _ _ h))
 ·exact .inl (.inr ⟨o,e _ _ h⟩)
 ·exact .inr h
section
variable{R:Result->al->Prop}
def Fa{elt target iter:Expr}{ifs:jA}{scope:aE}{pos:aK}{it acc:ai}{env:Env}(I:Nat->al->Prop)(turn:∀ n s,I n s->aB (aA prog w) A (pyNext it) (λr d=>match r with
   | none=>R (.ok .next) d
   | some v=>aB (aA prog w) A (letOwnedTupleGo target it v) (λ_ j=>aB (aA prog w) A (assign target env v) (λ_ k=>
     aB (aA prog w) A (forIn ifs true λc r=>if r=true then do let y<-isTrue c env (aI c env);pure (ForInStep.yield y) else pure (ForInStep.yield r)) (λy f=>
      if y=true then aB (aA prog w) A (aI elt env) (λx l=>
       aB (aA prog w) A (call (.builtin "list.append") [acc,x]) (λ_ o=>∃ m,m<n/\I m o) (notedBy (aA prog w) A env λe b=>R (.error e) b) l) (notedBy (aA prog w) A env λe b=>R (.error e) b) f
      else ∃ m,m<n/\I m f) (notedBy (aA prog w) A env λe b=>R (.error e) b) k) (notedBy (aA prog w) A env λe b=>R (.error e) b) j) (notedBy (aA prog w) A env λe b=>R (.error e) b) d) (notedBy (aA prog w) A env λe b=>R (.error e) b) s)(n:Nat)(h:I n s):
  aH (aA prog w) A (.compLoop (.ListComp elt [⟨target,iter,ifs,0⟩] scope pos) 0 it acc env) R s:=by
 refine codeAny_loop rfl I (λn s z=>?_) n h;show aB _ A ((compTurn (.ListComp elt [⟨target,iter,ifs,0⟩] scope pos) 0 it acc env).onRaise (λx=>do noteFrame x env;theTreesLotGoes x)) _ _ s
 refine wpAny_noted ?_;rw[compTurn_list];refine aa (ah (aa (ae (turn n s z) (λr d g=>?_) λ_ _ a=>a)))
 cases r with
 | none=>exact ad g
 | some v=>
  refine aa (ae g (λ_ j p=>?_) λ_ _ a=>a);refine aa (ae p (λ_ k q=>aa (ae q (λy f i=>?_) λ_ _ a=>a)) λ_ _ a=>a)
  cases y with
  | false=>exact ad ⟨rfl,i⟩
  | true=>
   exact aa (aa (ae i (λx l t=>aa (ae t (λ_ o u=>ad (ad ⟨rfl,u⟩)) λ_ _ a=>a)) λ_ _ a=>a))
end
def Xw(b:Env)(l:List (Str×NameKind)):jF->jF:=λa=>l.foldl (λa p=>if p.2==.free then (p.1,(b.cells.lookup p.1).getD 0)::a else a) a
def N0(a:Env)(l:List (Str×NameKind)):Prop:=∀ p∈l,p.2=.free->∃ c,a.cells.lookup p.1=some c
def K0{b:Env}{d:aE}(h:N0 b d.names):closureFor d b=pure (Xw b d.names []):=by
 have i:∀(l:List (Str×NameKind))(f:jF),N0 b l->(forIn l f λx r=>if (x.2==.free)=true then do let a<-cellOf b x.1;pure (ForInStep.yield ((x.1,a)::r)) else pure (ForInStep.yield r):Sem (jF))=pure (Xw b l f):=by
  intro l
  induction l with
  | nil=>intro f _;rfl
  | cons p r n=>
   intro f j;have e:Xw b (p::r) f=Xw b r (if p.2==.free then (p.1,(b.cells.lookup p.1).getD 0)::f else f):=rfl
   rw[List.forIn_cons,e]
   cases o:(p.2==NameKind.free) with
   | true=>
    obtain⟨c,m⟩:=j p zM (eq_of_beq o);have g:cellOf b p.1=pure c:=by unfold cellOf;rw[m]
    simp only[if_true,g,pure_bind];rw[n _ λq k=>j q (zH _ k),m];rfl
   | false=>
    simp only[vW,if_false,pure_bind];exact n _ λq k=>j q (zH _ k)
 have:=i d.names [] h;simpa [closureFor] using this
def EB{a:Env}:∀{l:List (Str×NameKind)}{b:jF}{x:Str}{c:aj},N0 a l->(Xw a l b).lookup x=some c->b.lookup x=some c\/a.cells.lookup x=some c
 | [],_,_,_,_,h=>.inl h
 | p::r,b,x,c,hf,h=>by
  have i:(Xw a r (if p.2==.free then (p.1,(a.cells.lookup p.1).getD 0)::b else b)).lookup x=some c:=h
  rcases EB (λq j=>hf q (zH _ j)) i with q | q
  ·cases f:(p.2==NameKind.free) with
   | true=>
    rw[f,aQ rfl,xL] at q
    cases e:x==p.1 with
    | true=>
     rw[e] at q;obtain⟨d,g⟩:=hf p zM (eq_of_beq f);refine .inr ?_;rw[eq_of_beq e,g];rw[g] at q;exact q
    | false=>
     rw[e] at q;exact .inl q
   | false=>
    rw[f,aP zT] at q;exact .inl q
  ·exact .inr q
def Ef{a:Env}{x:Str}:∀{l:List (Str×NameKind)}{b:jF},(b.lookup x).isSome=true->((Xw a l b).lookup x).isSome=true
 | [],_,h=>h
 | p::r,b,h=>by
  show ((Xw a r (if p.2==.free then (p.1,(a.cells.lookup p.1).getD 0)::b else b)).lookup x).isSome=true
  refine Ef ?_
  cases c:(p.2==NameKind.free) with
  | true=>
   rw[aQ rfl,xL]
   cases e:x==p.1 with
   | true=>rfl
   | false=>exact h
  | false=>rw[aP zT];exact h
def Gn{a:Env}{x:Str}:∀{l:List (Str×NameKind)}{b:jF},(x,NameKind.free)∈l->((Xw a l b).lookup x).isSome=true
 | [],_,h=>by cases h
 | p::r,b,h=>by
  show ((Xw a r (if p.2==.free then (p.1,(a.cells.lookup p.1).getD 0)::b else b)).lookup x).isSome=true
  rcases zG.mp h with e | h
  ·subst e;refine Ef ?_;show (xN x ((x,(a.cells.lookup x).getD 0)::b)).isSome=true;rw[xL,beq_self_eq_true];rfl
  ·exact Gn h
def Yc(a:Env)(b:jF):Prop:=∀ x c,b.lookup x=some c->a.cells.lookup x=some c
def Yc.get{a:Env}{b:jF}{x:Str}{c:aj}(h:Yc a b)(e:b.lookup x=some c):a.cells.lookup x=some c:=h x c e
def JY{a:Env}{l:List (Str×NameKind)}(h:N0 a l):Yc a (Xw a l []):=λx c e=>by
 rcases EB h e with q | q
 ·cases q
 ·exact q
def Fv{env:Env}:∀{names:List (Str×NameKind)}{x:Str},names.lookup x=some .free ->
  (names.map fun(n,k)=>if (k==NameKind.free&&env.scope.kind==.function&&env.kindOf n==some .cell) then (n,NameKind.cell) else (n,k)).lookup x=some .cell \/
  (names.map fun(n,k)=>if (k==NameKind.free&&env.scope.kind==.function&&env.kindOf n==some .cell) then (n,NameKind.cell) else (n,k)).lookup x=some .free
 | [],_,h=>by simp at h
 | (n,k)::r,x,h=>by
  rw[xL] at h;simp only[yI]
  cases a:x==n with
  | true=>
   rw[a] at h;cases h;split
   ·exact .inl (by rw[xL,a])
   ·exact .inr (by rw[xL,a])
  | false=>
   rw[a] at h;have b:=Fv (env:=env) h;split
   ·rw[xL,a];exact b
   ·rw[xL,a];exact b
def FR{env:Env}:∀{names:List (Str×NameKind)}{x:Str},(∀ y∈names,y.2≠.cell) ->
  ((names.map fun(n,k)=>if (k==NameKind.free&&env.scope.kind==.function&&env.kindOf n==some .cell) then (n,NameKind.cell) else (n,k)).lookup x=some .cell \/
  (names.map fun(n,k)=>if (k==NameKind.free&&env.scope.kind==.function&&env.kindOf n==some .cell) then (n,NameKind.cell) else (n,k)).lookup x=some .free)->(x,NameKind.free)∈names
 | [],_,_,h=>by simp at h
 | (n,k)::r,x,hc,h=>by
  have e:∀ y∈r,y.2≠.cell:=λy f=>hc y (zH _ f);simp only[yI] at h
  cases b:x==n with
  | true=>
   have c:=eq_of_beq b;subst c;by_cases a:k=.free
   ·subst a;exact zM
   ·have d:(k==NameKind.free)=false:=by simpa using a
    simp only[d,uZ,vW,if_false,xL,beq_self_eq_true] at h;rcases h with h | h
    ·exact absurd (zJ.inj h) (hc _ zM)
    ·exact absurd (zJ.inj h) a
  | false=>
   refine zH _ (FR (env:=env) e ?_);split at h
   ·simpa only [xL,b] using h
   ·simpa only [xL,b] using h
def YB(X:Cx)(a:aE):jq->ju->Prop
 | [],[]=>True
 | i::is,y::ys=>X.N[i]? = some y/\(X.env.kindOf y=some .cell\/X.env.kindOf y=some .free)/\a.names.lookup y=some .free/\YB X a is ys
 | _,_=>False
def YB.len{X:Cx}{a:aE}:∀{b:jq}{c:ju},YB X a b c->b.length=c.length
 | [],[],_=>rfl
 | _::_,_::_,h=>congrArg (· + 1) h.2.2.2.len
def YB.get{X:Cx}{a:aE}:∀{b:jq}{c:ju}{j:Nat}{y:Str},YB X a b c->c[j]? = some y ->
  ∃ i,b[j]? = some i/\X.N[i]? = some y/\(X.env.kindOf y=some .cell\/X.env.kindOf y=some .free)/\a.names.lookup y=some .free
 | [],[],_,_,_,h=>by simp at h
 | i::_,z::_,0,y,f,h=>by
  simp at h;subst h;exact⟨i,rfl,f.1,f.2.1,f.2.2.1⟩
 | _::b,_::c,j+1,y,f,h=>by
  obtain⟨i,e,r⟩:=YB.get (j:=j) f.2.2.2 (by simpa using h)
  exact⟨i,by simpa using e,r⟩
def Yl(X:Cx)(N:ju)(a:aE)(b:jF)(C:aj)(s:al)(H:Hp)(c:jw)(E:ja):Cx where
 prog:=X.prog
 w:=X.w
 K:=X.K
 mg:=X.mg
 base:=X.base
 A:=X.A
 N:=N
 s₀:=s
 H₀:=H
 env:=compEnvC a b C X.env
 outer:=X.stack
 stack:=X.stack
 ex:=c
 fn:=λ_=>false
 calm:=X.calm
 pn:=[]
 xe:=E
def HD(b:St)(a:jq):St:=none::a.map λi=>(b[i]?).join
def Oe(b:St)(a:jq)(x:V):St:=some x::a.map λi=>(b[i]?).join
def PD(X:Cx)(b:jA)(e:TT):Prop:=
 ∀(a:jv)(s:al)(d:St)(H:Hp)(Q:Bool->Hp->Prop),ZE X a d H s->e d H Q ->
  aB (aA X.prog X.w) X.A (forIn b true λc r=>if r=true then do let ok<-isTrue c X.env (aI c X.env);pure (ForInStep.yield ok) else pure (ForInStep.yield r)) (TP X a d Q) X.xe s
def KN:TT:=λ_ H Q=>Q true H
def Uh{X:Cx}:PD X [] KN:=λ_ _ _ H _ I h=>wpAny_tests_nil ⟨H,I,h⟩
def Mo{X:Cx}{c:Expr}{t:TT}(h:PT X c t):PD X [c] t:=λa s d H Q I b=>wpAny_tests_one (h a s d H Q I b)
def WY(J:It)(j:St)(h:jq)(l:TT)(k:TE)(e:Hp)(Q:VK):Prop:=
 ∀ D,e D=none->∃ W:Nat->Nat->Hp->Prop,(∃ m,W 0 m (upd e D (.lst [])))/\∀ i m H,W i m H ->
  (J.stop i H/\Q (.ref D) H)\/(J.go i H/\∀ x d,J.yld i H x d->l (Oe j h x) d λc f=>
   if c=true then k (Oe j h x) f λy g=>∃ b a,g D=some (.lst b)/\b.length<aq/\a<m/\W (i+1) a (upd g D (.lst (b++[y])))
   else ∃ a,a<m/\W (i+1) a f)
def Ju(f:TI)(c:jq)(e:TT)(d:TE):TE:=λa H Q=>f a H λJ b=>WY J a c e d b Q
section
variable{kh:jv}{σ:St}{H:Hp}
def AM{b:jq}{j:Nat}{v:V}(h:(b.map λi=>(σ[i]?).join)[j]? = some (some v)):∃ i,b[j]? = some i/\σ[i]? = some (some v):=by
 rw[zN] at h
 cases e:b[j]? with
 | none=>rw[e] at h;cases h
 | some i=>
  rw[e] at h;have a:(σ[i]?).join=some v:=zJ.inj h;exists i,rfl
  cases q:σ[i]? with
  | none=>rw[q] at a;cases a
  | some o=>
   rw[q] at a
   cases o with
   | none=>cases a
   | some z=>cases a;rfl
def NZ(a:Env)(l:List (Str×NameKind)):Bool:=l.all λp=>!(p.2==.free) || a.kindOf p.1==some .cell || a.kindOf p.1==some .free
def Jj{X:Cx}{l:List (Str×NameKind)}(a:X.Ok)(h:NZ X.env l=true):N0 X.env l:=λp c b=>by
 have q:=zO.mp h p c;rw[b] at q;have d:(X.env.kindOf p.1==some .cell || X.env.kindOf p.1==some .free)=true:=by simpa using q
 rcases Bool.or_eq_true_iff.mp d with q | q
 ·exact a.has p.1 (.inl (eq_of_beq q))
 ·exact a.has p.1 (.inr (eq_of_beq q))
def Oq(a:aE)(x:Str):Bool:=a.kind==.function&&a.names.lookup x==some .local&&a.names.all (λp=>!(p.2==.cell))&&a.names.all (λp=>!(p.2==.local) || a.names.lookup p.1==some .local)
structure PU(scope:aE)(x:Str):Prop where
 kind:scope.kind=.function
 own:scope.names.lookup x=some .local
 cell:∀ y∈scope.names,y.2≠.cell
 names:∀ y∈scope.names,y.2=.local->scope.names.lookup y.1=some .local
def Nn{a:aE}{x:Str}(h:Oq a x=true):PU a x:=by
 unfold Oq at h;rw[zR,zR,zR] at h;obtain⟨⟨⟨c,d⟩,e⟩,f⟩:=h;refine⟨eq_of_beq c,eq_of_beq d,λy b z=>?_,λy b z=>?_⟩
 ·have:=zO.mp e y b;rw[z] at this;cases this
 ·have:=zO.mp f y b;rw[z] at this;have q:(a.names.lookup y.1==some NameKind.local)=true:=by simpa using this
  exact eq_of_beq q
def Jc{a:aE}{b:Env}(d:∀ y∈a.names,y.2≠.cell)(y:Str)(h:(relabel a b).names.lookup y=some .cell\/(relabel a b).names.lookup y=some .free):∃ c,(Xw b a.names []).lookup y=some c:=
 sB.mp (Gn (FR d h))
def Fz(i:Nat)(t:TE):TS:=λD σ H=>t σ H λv a=>D.nx (σ.set i (some v)) a
end
def Ll(b:ju)(c:St)(a:jq):St:=b.map (λ_=>(none:jg))++a.map λi=>(c[i]?).join
def LB(J:It)(k:Nat)(g:TG)(p:St)(n:jq)(s:TT)(r:TE)(h:Hp)(Q:VK):Prop:=
 ∀ D,h D=none->∃ W:Nat->Nat->Hp->Prop,(∃ m,W 0 m (upd h D (.lst [])))/\∀ i m H,W i m H ->
  (J.stop i H/\Q (.ref D) H)\/(J.go i H/\∀ x f,J.yld i H x f->∀ o:St,o.length=k->g x (o++n.map λi=>(p[i]?).join) f λa q=>(∃ d:St,d.length=k/\a=d++n.map λi=>(p[i]?).join)/\s a q λc j=>
   if c=true then r a j λy l=>∃ e b,l D=some (.lst e)/\e.length<aq/\b<m/\W (i+1) b (upd l D (.lst (e++[y])))
   else ∃ b,b<m/\W (i+1) b j)
def Hz(k:Nat)(g:TG)(f:TI)(c:jq)(e:TT)(d:TE):TE:=λa H Q=>f a H λJ b=>LB J k g a c e d b Q
section
variable{kh:jv}{σ:St}{H:Hp}
def Hn{xs J:ju}{G:jq}{a:aE}{K:jF}{fp:jw}{E:ja}{g:aD}{D C n tk:Nat}{m:jc}(I:ZE X kh σ H s)(M:∀ b∈fp,VR X kh H b/\b<s.heap.objs.size)(f:Yc X.env K)(A:a.kind=.function)(t:∀ y,((relabel a X.env).names.lookup y=some .cell\/(relabel a X.env).names.lookup y=some .free)->∃ c,K.lookup y=some c)(Z:YB X a G J)(L:s.heap.objs.size<=D)(Q:s.heap.objs.size<=C)(R:D≠C)(S:g.Ns C m)(k:∀ b o,s.heap.get? b=some o->g.get? b=some o)(hd:g.get? D=some { cls:=.type "list",data:=.seq ([]:je).toArray n }):
  ZE (Yl X (xs++J) a K C s H fp E) [] (Ll xs σ G) (upd H D (.lst [])) { s with heap:=g,toks:=tk }:=by
 have d:∀ y c,K.lookup y=some c->c<s.heap.objs.size:=λy c e=>by
  obtain⟨v,q⟩:=I.cell y c (f.get e);exact q.lt
 refine⟨⟨I.ok.mod,A,I.ok.glob,I.ok.blt,Q,λy z c h1 h2=>I.ok.inj y z c (f.get h1) (f.get h2),t,λy c h _=>absurd h (by simp[Yl]),I.ok.hd,I.ok.frames,.inl rfl,λb F=>⟨?_,λy c e=>?_⟩,I.bs,zD I.ok.bsz I.sz,λb o e F=>?_,λb F z=>?_,I.stack,I.stkFree⟩,
  rfl,I.bare,Un.laid k L (I.hok.fresh L),⟨m,S,λj y v e1 Y B=>?_⟩,λy c e=>?_,?_,λy c e=>?_,λp hp=>absurd (show p∈([]:jv) from hp) (by simp),I.hok.laid k L ?_,?_⟩
 ·exact zL (yL (M b F).2 Q)
 ·exact(M b F).1.2.2.2.2.1 y c (f.get e)
 ·obtain⟨_,_,_,z,_⟩:=(M b F).1;rcases z with z | z
  ·exact I.ok.noex b o e z
  ·exact absurd (yL (zU (I.ok.bs b o e).1) z) (xE _)
 ·obtain⟨_,z1,z2,_⟩:=(M b F).1;rcases zG.mp (I.stkSub b z) with q | q
  ·exact z1 q
  ·exact z2 q
 ·by_cases N:j<xs.length
  ·exfalso
   have B:(xs.map (λ_=>(none:jg))++G.map λi=>(σ[i]?).join)[j]? = some (some v):=Y;rw[xB (by rw[zX];exact N),zN,zV N] at B
   cases B
  ·have W:(xs++J)[j]? = some y:=e1;have O:J[j-xs.length]? = some y:=by rw[xA (uV N)] at W;exact W
   have B:(xs.map (λ_=>(none:jg))++G.map λi=>(σ[i]?).join)[j]? = some (some v):=Y;have P:(G.map λi=>(σ[i]?).join)[j-xs.length]? = some (some v):=by
    rw[xA (by rw[zX];exact uV N),zX] at B
    exact B
   obtain⟨i,q1,q2⟩:=AM P;obtain⟨i',p1,p2,w,U⟩:=Z.get O;rw[q1] at p1;cases p1;have p4:(relabel a X.env).names.lookup y=some .cell\/(relabel a X.env).names.lookup y=some .free:=Fv U;obtain⟨c,p5⟩:=t y p4;obtain⟨m0,a0,hl⟩:=I.loc;obtain⟨u,r,l⟩:=hl i y v p2 q2 (.inr w);refine⟨u,r,.inr ⟨p4,c,p5,?_⟩⟩;rcases l with ⟨l1,_⟩ | ⟨_,c',l2,l3⟩
   ·rcases w with w | w
    ·rw[l1] at w;cases w
    ·rw[l1] at w;cases w
   ·rw[f.get p5] at l2;cases l2;obtain⟨o,T,x⟩:=l3;exact⟨o,k _ _ T,x⟩
 ·obtain⟨v,o,T,x⟩:=I.cell y c (f.get e);exact⟨v,o,k _ _ T,x⟩
 ·show upd H D (.lst []) C=none;rw[ZO (Ne.symm R)];exact I.hok.fresh Q
 ·show upd H D (.lst []) c=none;rw[ZO (zL (yL (d y c e) L))];exact I.freeC y c (f.get e)
 ·exact⟨yX _,[],n,.nil,hd⟩
 ·show (Ll xs σ G).length=(xs++J).length;unfold Ll;rw[yS,zX,zX,Z.len,yS]
def Fj(k:Nat)(c:jq)(σ a:St):Prop:=∃ b:St,b.length=k/\a=b++c.map λi=>(σ[i]?).join
inductive JQ(Y:Cx)(k:Nat)(f:jq)(σ:St)(g:Nat->aD->Prop)(e:jw)(W:Nat->Nat->Hp->Prop)(n:Nat)(d:al):Prop
 |mk(i:Nat)(a:St)(c:Hp):ZE Y [] a c d->Fj k f σ a->g i d.heap->(∀ b∈e,c b=none)->W i n c->JQ Y k f σ g e W n d
def EW{elt iter tg:Expr}{xs:ju}{g:TG}{ifs:jA}{scope:aE}{cl:jF}{pos:aK}{ix:jq}{ys:ju}{tt:TT}{te:TE}{it:aj}{fp:jw}{tn:Nat->aD->Prop}{J:It}{Q:VK}{E:ja}{RR:ai->aj->Result->al->Prop}(hc:X.calm=true)(hg:∀ C s H fp E,PG (Yl X (xs++ys) scope cl C s H fp E) tg g)(ht:∀ C s H fp E,PD (Yl X (xs++ys) scope cl C s H fp E) ifs tt)(he:∀ C s H fp E,PE (Yl X (xs++ys) scope cl C s H fp E) elt te)(sub:Yc X.env cl)(jn:scope.kind=.function)(jp:∀ y∈scope.names,y.2≠.cell)(hhas:∀ y,((relabel scope X.env).names.lookup y=some .cell\/(relabel scope X.env).names.lookup y=some .free)->∃ c,cl.lookup y=some c)(fo:YB X scope ix ys)(I:ZE X kh σ H s)(T:Vf X.prog X.w X.K tg J fp it tn)(st:tn 0 s.heap)(hf:∀ b∈fp,VR X kh H b)(q:LB J xs.length g σ ix tt te H Q)(hRR:∀ D C s' H' m,s.heap.objs.size<=C->ZE X kh σ H' s'->VR X kh H' C->s'.heap.Ns C m->Q (.ref D) H'->RR (.ref D) C (.ok .next) s'):
  aB (aA X.prog X.w) X.A (newList []) (λacc s₃=>aB (aA X.prog X.w) X.A (newFunctionEnv scope X.env.globals cl [] X.env.qual none .none (some X.env)) (λcenv s₄=>
   aH (aA X.prog X.w) X.A (.compStart (.ListComp elt [⟨tg,iter,ifs,0⟩] scope pos) 0 (.ref it) acc { cenv with scope:=relabel scope X.env }) (RR acc cenv.locals) s₄) E s₃) E s:=by
 refine wpAny_newObj_type (wpAny_newFunctionEnv jp (by intro y hy;simp at hy) (λh₁ hns₁ hsb₁=>?_) jn)
 dsimp only at hns₁ hsb₁⊢;generalize hH2:s.heap.push { cls:=.type "list",dict:=none,data:=.seq ([]:je).toArray }=H2 at hns₁ hsb₁⊢;have hC:H2.objs.size=s.heap.objs.size+1:=by rw[<-hH2,vQ]
 have hDC:s.heap.objs.size≠H2.objs.size:=by rw[hC];exact zL (xV _)
 have hCle:s.heap.objs.size<=H2.objs.size:=by rw[hC];exact wM _
 have below:∀ b,b<s.heap.objs.size->b≠H2.objs.size/\b≠s.heap.objs.size:=λb hb=>⟨by rw[hC];exact zL (vX hb),zL hb⟩
 have old:∀ b o,s.heap.get? b=some o->h₁.get? b=some o:=λb o e=>hsb₁.extBut b o (below b (zU e)).1 (zS _ (hH2 ▸ zS _ e));have hacc:∃ n,h₁.get? s.heap.objs.size=some { cls:=.type "list",data:=.seq ([]:je).toArray n }:=⟨_,hsb₁.extBut _ _ hDC (zS _ (hH2 ▸ yT _ rfl))⟩;obtain⟨nD,hacc⟩:=hacc;have hf':∀ b∈fp,VR X kh H b/\b<s.heap.objs.size:=λb hb=>⟨hf b hb,by obtain⟨o,e,_⟩:=T.obj 0 _ st b hb;exact zU e⟩
 have hDn:H s.heap.objs.size=none:=I.hok.fresh (zY _);obtain⟨W,⟨m0,w0⟩,turn⟩:=q _ hDn;generalize hE:notedBy (aA X.prog X.w) X.A (compEnvC scope cl H2.objs.size X.env) (λe s'=>RR (.ref s.heap.objs.size) H2.objs.size (.error e) s')=EE;have I0:ZE (Yl X (xs++ys) scope cl H2.objs.size s H fp EE) [] (Ll xs σ ix) (upd H s.heap.objs.size (.lst [])) { s with heap:=h₁,toks:=s.toks+([]:jL).length }:=
  Hn I hf' sub jn hhas fo (zY _) hCle hDC hns₁ old hacc
 have st1:tn 0 h₁:=T.keep _ _ _ st λb _ o e=>old b o e;have fr1:∀ b∈fp,upd H s.heap.objs.size (.lst []) b=none:=λb hb=>by rw[ZO (below b (hf' b hb).2).2];exact(hf b hb).1
 have stat:∀{H':Hp},(∀ b∈fp,H' b=none)->∀ b∈fp,VR (Yl X (xs++ys) scope cl H2.objs.size s H fp EE) [] H' b:=λhn b hb=>
  ⟨hn b hb,(I0.ok.exf b hb).1,I0.ok.exfs b hb,.inl hb,(I0.ok.exf b hb).2,λp hp=>absurd (show p∈([]:jv) from hp) (by simp)⟩
 have loop:∀ s₃:al,s₃={ s with heap:=h₁,toks:=s.toks+([]:jL).length } ->
   aH (aA X.prog X.w) X.A (.compLoop (.ListComp elt [⟨tg,iter,ifs,0⟩] scope pos) 0 (.ref it) (.ref s.heap.objs.size) (compEnvC scope cl H2.objs.size X.env)) (RR (.ref s.heap.objs.size) H2.objs.size) s₃:=by
  rintro s₃ rfl;refine Fa (JQ (Yl X (xs++ys) scope cl H2.objs.size s H fp EE) xs.length ix σ tn fp W) ?_ m0 ⟨0,_,_,I0,⟨_,zX _,rfl⟩,st1,fr1,w0⟩;rintro n s3 ⟨i,σ3,H3,I3,⟨o3,ho3,hσ3⟩,st3,fr3,w3⟩;rw[hE];rcases turn i n H3 w3 with ⟨stop,qn⟩ | ⟨go,step⟩
  ·refine Z3 (T.done (Yl X (xs++ys) scope cl H2.objs.size s H fp EE) rfl rfl rfl hc i [] s3 σ3 H3 EE I3 (stat fr3) st3 stop) ?_;rintro r s4 ⟨hr,I4⟩;subst hr;obtain⟨m4,hn4,_⟩:=I4.loc;have Ix:ZE X kh σ H3 s4:=I.call' (s':=s4) (ch:=fp) I4.os I4.base I4.hok I4.bare λb hb=>by
    obtain⟨_,z1,_,z3,z4,z5⟩:=hf b hb;exact⟨z3,z1,z4,z5⟩
   exact hRR _ _ s4 H3 m4 hCle Ix (I.fpOk hCle I4.free) hn4 qn
  ·refine Z3 (T.item (Yl X (xs++ys) scope cl H2.objs.size s H fp EE) rfl rfl rfl hc i [] s3 σ3 H3 EE I3 (stat fr3) st3 go) ?_;rintro r s4 ⟨u,hr,h4⟩;subst hr;refine Z3 h4 ?_;rintro _ s5 ⟨xv,H5,I5,r5,y5,st5,fr5⟩;have I5':=I5.pinned (stat fr5) (T.obj _ _ st5);have again:∀{σ7:St}{H7:Hp}{s7:al}{m':Nat},ZE (Yl X (xs++ys) scope cl H2.objs.size s H fp EE) ([]++Oz fp s5.heap) σ7 H7 s7->Fj xs.length ix σ σ7->m'<n->W (i+1) m' H7 ->
     ∃ m,m<n/\JQ (Yl X (xs++ys) scope cl H2.objs.size s H fp EE) xs.length ix σ tn fp W m s7:=fun{σ7 H7 s7 m'} I7 e7 hm w7=>by
    refine⟨m',hm,.mk (i+1) σ7 H7 I7.unpinned e7 (T.keep _ _ _ st5 λb hb o e=>(I7.pin (b,o) (xW _ (xW _ (NN hb e)))).1) (λb hb=>?_) w7⟩;obtain⟨o,e,d⟩:=T.obj _ _ st5 b hb;exact(I7.pin (b,o) (xW _ (xW _ (NN hb e)))).2.1
   have stp:=step xv _ y5 o3 ho3;rw[<-hσ3] at stp;refine Z3 (hg _ _ _ _ _ _ s5 σ3 H5 xv u _ I5' r5 stp) ?_;rintro _ s6 ⟨σ6,H6,I6,e6,q6⟩;refine Z3 (ht _ _ _ _ _ _ s6 _ _ _ I6 q6) ?_;rintro ok s7 ⟨H7,I7,q7⟩
   cases ok with
   | false=>
    rw[aP zT] at q7⊢;obtain⟨m',hm,w7⟩:=q7;exact again I7 e6 hm w7
   | true=>
    rw[aQ rfl] at q7⊢;refine Z3 (he _ _ _ _ _ _ s7 _ _ _ I7 q7) ?_;rintro y s8 ⟨yv,H8,I8,r8,ys8,m',e8,z8,hm,w8⟩;refine Z3 (Uk _ s8 _ H8 (.ref s.heap.objs.size) [yv] (.ref s.heap.objs.size) [y] (λ_ H9=>W (i+1) m' H9) I8 rfl (.cons r8 .nil) ⟨_,ys8,yv,rfl,rfl,e8,z8,w8⟩) ?_;rintro _ s9 ⟨_,H9,I9,_,w9⟩;exact again I9 e6 hm w9
 exact codeAny_compStart_list (loop _ rfl) (T.self _ 0 _ _ _ st1 (loop _ rfl))
def ZK5{f c t:Expr}(j:ju)(x:Str){g:TG}{i:jA}{a:aE}{p:aK}{G:TI}{z:TT}{y:TE}(u:jq)(k:ju)(hc:X.calm=true)(hg:∀ C s H d E,PG (Yl X (j++k) a (Xw X.env a.names []) C s H d E) t g)(hi:PI X t c G)(ht:∀ C s H d E,PD (Yl X (j++k) a (Xw X.env a.names []) C s H d E) i z)(he:∀ C s H d E,PE (Yl X (j++k) a (Xw X.env a.names []) C s H d E) f y)(W:YB X a u k)(hk:NZ X.env a.names=true:=by rfl)(n:Oq a x=true:=by rfl)(hs:∀ x,foldedSetIterable c X.env x=pure x:=by intro _;rfl):
  PE X (.ListComp f [⟨t,c,i,0⟩] a p) (Hz j.length g G u z y):=by
 intro kh s σ H Q I h;have B:=Nn n;have F:=Jj I.ok hk;rw[eval_ListComp];refine wpAny_comprehension_free (use:=none) rfl hs (K0 F) B.kind B.names (Z3 (hi kh s σ H _ I h) λv s1 Y=>Z3 Y λa0 s2 Z=>?_);obtain⟨it,d,tn,J,H2,e,L,T,r,P,q2⟩:=Z;subst e;refine EW (RR:=λl C=>compPost (aA X.prog X.w) X.A X.xe none (EP X kh σ Q) l C) hc hg ht he (JY F) B.kind B.cell (Jc B.cell) W L T r P q2 ?_;intro D C s' K m hC M V hn q;refine⟨m,hn,λh' sb=>⟨.ref D,K,?_,rfl,q⟩⟩;obtain⟨N,O,_,R,S,U⟩:=V;exact M.turned (t':=s'.toks) (λb o n e=>(sb.2 b n).trans e) N O R S U
def HZ{f d u:Expr}(G:ju)(x:Str){g:TG}{y:Str}{p:aK}{j:jA}{c:aE}{l k:aK}{wi:TI}{tt:TT}{te:TE}{i:Nat}(Z:jq)(K:ju)(hN:X.N.Nodup)(O:X.N[i]? = some y)(Y:X.env.scope.names.lookup y=some .local)(hc:X.calm=true)(hg:∀ C s H n E,PG (Yl X (G++K) c (Xw X.env c.names []) C s H n E) u g)(hi:PI X u d wi)(ht:∀ C s H n E,PD (Yl X (G++K) c (Xw X.env c.names []) C s H n E) j tt)(he:∀ C s H n E,PE (Yl X (G++K) c (Xw X.env c.names []) C s H n E) f te)(fo:YB X c Z K)(P:aF (.ListComp f [⟨u,d,j,0⟩] c l) (some (.Name y p)) k.line X.env=pure true:=by rfl)(hk:NZ X.env c.names=true:=by rfl)(M:Oq c x=true:=by rfl)(hs:∀ x,foldedSetIterable d X.env x=pure x:=by intro _;rfl):
  PS X (.Assign [.Name y p] (.ListComp f [⟨u,d,j,0⟩] c l) k) (Fz i (Hz G.length g wi Z tt te)):=by
 intro kh s σ H D I h;have B:=Nn M;have F:=Jj I.ok hk;rw[exec_Assign_Name_used _ _ _ _ P];refine aa (ah (aa ?_));show aB _ X.A (do let _<-comprehension (.ListComp f [⟨u,d,j,0⟩] c l) c X.env _ (newList []) false (aI d X.env) (some (assign (.Name y p) X.env))) _ _ s
 refine aa (ae (wpAny_comprehension_free (use:=some (assign (.Name y p) X.env)) (Q:=λ_ t=>SP X kh D .next t) rfl hs (K0 F) B.kind B.names
  (Z3 (hi kh s σ H _ I h) λv s1 h1=>Z3 h1 λa0 s2 h2=>?_)) (λ_ t hq=>ad (ad hq)) λ_ _ e=>e)
 obtain⟨it,n,tn,J,H2,e,I2,T,S,f2,q2⟩:=h2;subst e;refine EW (RR:=λL C=>compPost (aA X.prog X.w) X.A X.xe (some (assign (.Name y p) X.env)) (λ_ t=>SP X kh D .next t) L C) hc hg ht he (JY F) B.kind B.cell (Jc B.cell) fo I2 T S f2 q2 ?_;intro U C t H' m hC Ix fC hn q;obtain⟨f0,V,_,f3,W,f5⟩:=fC;show aB _ X.A (assign (.Name y p) X.env (.ref U)) _ _ _;refine wpAny_assign_Name (EF Ix hN O (.inl Y) (v:=.ref U) rfl (λs3 I3 ⟨a,sb,r⟩=>?_) (.inr Y));have ne:C≠a:=by
  rcases r with r | r
  ·rw[r];exact V
  ·exact λz=>W y a r z.symm
 refine⟨m,hn.sameBut sb ne,λh' R=>⟨_,H',?_,q⟩⟩;exact I3.turned (t':=s3.toks) (λb o M e=>(R.2 b M).trans e) f0 V f3 W f5
def KG(K:zZ):TG:=No K 2 (Qd (QD 0) (Qd (QD 1) GX))
def ZMV{x y:Str}{h i a:aK}{k:Nat}(g:X.calm=true)(b:X.N.Nodup)(e:X.N[0]? = some x)(f:X.N[1]? = some y)(c:X.env.scope.names.lookup x=some .local)(d:X.env.scope.names.lookup y=some .local):PG X (.Tuple [.Name x h,.Name y i] k a) (KG X.K):=
 P3 g (XY (Q1 b e (.inl c) (.inr c)) (XY (Q1 b f (.inl d) (.inr d)) Pv))
def BA{x:Str}{q:ju}{p:jq}{a:aE}{g:jF}{l:jw}{E:ja}{d:aD}{D C n z:Nat}{m:jc}(I:ZE X kh σ H s)(w:∀ b∈l,VR X kh H b/\b<s.heap.objs.size)(j:Yc X.env g)(e:a.kind=.function)(f:∀ y,((relabel a X.env).names.lookup y=some .cell\/(relabel a X.env).names.lookup y=some .free)->∃ c,g.lookup y=some c)(r:YB X a p q)(u:s.heap.objs.size<=D)(t:s.heap.objs.size<=C)(h:D≠C)(i:d.Ns C m)(k:∀ b o,s.heap.get? b=some o->d.get? b=some o)(v:d.get? D=some { cls:=.type "list",data:=.seq ([]:je).toArray n }):
  ZE (Yl X (x::q) a g C s H l E) [] (HD σ p) (upd H D (.lst [])) { s with heap:=d,toks:=z }:=
 Hn (xs:=[x]) I w j e f r u t h i k v
def WY.toT{J:It}{a:jq}{c:TT}{b:TE}{Q:VK}(h:WY J σ a c b H Q):LB J 1 (QD 0) σ a c b H Q:=λD f=>by
 obtain⟨W,e,j⟩:=h D f;refine⟨W,e,λi m H k=>(j i m H k).imp id λq=>⟨q.1,λx d y l g=>?_⟩⟩;obtain⟨_,rfl⟩:=List.length_eq_one_iff.mp g;exact⟨⟨[some x],rfl,rfl⟩,q.2 x d y⟩
inductive Nj(c:TI)(σ:L2.St)(H:Hp)(K:It->Hp->Prop):Prop
 |mk(b:It->Hp->Prop)(_:c σ H b)(_:∀ J a,b J a->K J a)
def PI.more{i g:Expr}{j:TI}(h:PI X i g j):PI X i g (Nj j):=λkh s σ H R I ⟨l,n,f⟩=>
 ae (h kh s σ H l I n) (λ_ _ z=>ae z (by rintro _ _ ⟨o,m,p,J,k,a,b,c,d,e,r⟩;exact⟨o,m,p,J,k,a,b,c,d,e,f _ _ r⟩) λ_ _ z=>z) λ_ _ z=>z
def Qz{c b:Expr}{x:Str}{o:aK}{d:jA}{a:aE}{l:aK}{r:TI}{q:TT}{p:TE}(k:jq)(e:ju)(u:X.calm=true)(w:PI X (.Name x o) b r)(B:∀ C s H f E,PD (Yl X (x::e) a (Xw X.env a.names []) C s H f E) d q)(v:∀ C s H f E,PE (Yl X (x::e) a (Xw X.env a.names []) C s H f E) c p)(t:YB X a k e)(y:NZ X.env a.names=true:=by rfl)(m:Oq a x=true:=by rfl)(j:(x::e).Nodup:=by decide +kernel)(A:∀ x,foldedSetIterable b X.env x=pure x:=by intro _;rfl):
  PE X (.ListComp c [⟨.Name x o,b,d,0⟩] a l) (Ju r k q p):=by
 intro kh s σ H Q I h;have n:(relabel a X.env).names.lookup x=some .local:=lookup_relabel_local (Nn m).own;exact ZK5 [x] x (g:=QD 0) k e u (λ_ _ _ _ _=>Q1 (i:=0) j rfl (Or.inl n) (Or.inr n)) (PI.more w) B v t y m A kh s σ H Q I ⟨_,h,λ_ _ z=>WY.toT z⟩
def MX{d b:Expr}{x y:Str}{p t:aK}{e:jA}{a:aE}{f c:aK}{w:TI}{v:TT}{u:TE}{i:Nat}(o:jq)(j:ju)(B:X.N.Nodup)(l:X.N[i]? = some y)(O:X.env.scope.names.lookup y=some .local)(F:X.calm=true)(J:PI X (.Name x p) b w)(M:∀ C s H k E,PD (Yl X (x::j) a (Xw X.env a.names []) C s H k E) e v)(G:∀ C s H k E,PE (Yl X (x::j) a (Xw X.env a.names []) C s H k E) d u)(A:YB X a o j)(n:aF (.ListComp d [⟨.Name x p,b,e,0⟩] a f) (some (.Name y t)) c.line X.env=pure true:=by rfl)(K:NZ X.env a.names=true:=by rfl)(q:Oq a x=true:=by rfl)(m:(x::j).Nodup:=by decide +kernel)(L:∀ x,foldedSetIterable b X.env x=pure x:=by intro _;rfl):
  PS X (.Assign [.Name y t] (.ListComp d [⟨.Name x p,b,e,0⟩] a f) c) (Fz i (Ju w o v u)):=by
 intro kh s σ H D I h;have r:(relabel a X.env).names.lookup x=some .local:=lookup_relabel_local (Nn q).own;exact HZ [x] x (g:=QD 0) o j B l O F (λ_ _ _ _ _=>Q1 (i:=0) m rfl (Or.inl r) (Or.inr r)) (PI.more J) M G A n K q L kh s σ H D I ⟨_,h,λ_ _ z=>WY.toT z⟩
end
end L2
local macro_rules|`(tactic|lia)=>`(tactic|first|assumption|exact xK ‹_› ‹_›|exact yL ‹_› ‹_›|exact zD ‹_› ‹_›|exact zD ‹_› (yO rfl)|exact yL ‹_› (yO rfl)|exact xK ‹_› (yO rfl)|exact zD (zD ‹_› ‹_›) (yO rfl)|exact zD (wC ‹_›) (zD ‹_› (yO rfl))|exact zD (wC (Eq.symm ‹_›)) (zD ‹_› (yO rfl))|exact yE ‹_›|exact Nat.pos_of_ne_zero ‹_›|exact vB ‹_›|exact Nat.succ_le_succ ‹_›|exact yO rfl|exact zY _|exact Nat.le_add_right _ _|exact Nat.le_add_left _ _|exact vJ _ _|exact Int.natCast_nonneg _|exact Nat.lt_of_not_le ‹_›|exact uV ‹_›|exact Int.lt_of_not_ge ‹_›|exact Int.not_lt.mp ‹_›|exact sR ‹_› (xV _)|exact Nat.lt_of_lt_of_eq ‹_› (Eq.symm ‹_›)|exact Nat.lt_of_lt_of_eq ‹_› ‹_›|exact Eq.symm (Nat.succ_pred_eq_of_ne_zero ‹_›)|exact Nat.add_sub_of_le ‹_›|exact Nat.add_lt_of_lt_sub' ‹_›|exact Int.ofNat_lt.mpr ‹_›|exact xK (Nat.le_add_right _ _) ‹_›|exact zD (tI _ _) (vJ _ _)|exact zD (tI _ _) (zD (vJ _ _) ‹_›)|exact zD (vJ _ _) ‹_›|exact Nat.le_sub_of_add_le' ‹_›|exact Nat.le_sub_of_add_le ‹_›|exact Int.le_trans ‹_› ‹_›|exact xK (wC ‹_›) ‹_›|lia (splits:=8))
namespace L2
open PySem PySem.Spec PyProof.Rows
inductive K5(K:zZ)(a:jf)(H:Hp)(Q:VK):Prop
 |mk(x n t b:_)(_:a=[x,.ty n])(_:Y9 K H x t)(_:yV K t (.type n)=some b)(_:Q (.bl b) H)
def XW:VI X (.builtin "isinstance") (K5 X.K):=by
 intro a s l H k j Q I r h;obtain⟨x,n,t,b,rfl,g,e,q⟩:=h;obtain⟨u,i,rfl,d,c⟩:=Mm r;cases(show i=Value.type n from c);exact AG I d g e λf=>⟨.bl b,H,I.tok f,rfl,q⟩
def Kk{K:zZ}:yV K (.type "bool") (.type "bool")=some true:=by kernel_rfl
def NT{K:zZ}:yV K (.type "int") (.type "bool")=some false:=by kernel_rfl
def FE{K:zZ}:yV K (.type "str") (.type "bool")=some false:=by kernel_rfl
def Fn{K:zZ}:yV K (.type "tuple") (.type "bool")=some false:=by kernel_rfl
def OU{K:zZ}:yV K (.type "int") (.type "int")=some true:=by kernel_rfl
def JT{K:zZ}:yV K (.type "str") (.type "int")=some false:=by kernel_rfl
def Kz{K:zZ}:yV K (.type "tuple") (.type "int")=some false:=by kernel_rfl
def kit_is'{K:zZ}:yV K (.type "int") (.type "str")=some false:=by kernel_rfl
def Nq{K:zZ}:yV K (.type "str") (.type "str")=some true:=by kernel_rfl
def Ib{K:zZ}:yV K (.type "tuple") (.type "str")=some false:=by kernel_rfl
def Bf{K:zZ}:yV K (.type "int") (.type "tuple")=some false:=by kernel_rfl
def ZOd{K:zZ}:yV K (.type "str") (.type "tuple")=some false:=by kernel_rfl
def Le{K:zZ}:yV K (.type "tuple") (.type "tuple")=some true:=by kernel_rfl
def Yw:ay "isinstance" = some (.builtin "isinstance"):=by decide +kernel
def Mw:ay "all" = some (.builtin "all"):=by decide +kernel
def Nf:ay "max" = some (.builtin "max"):=by decide +kernel
def Di:ay "min" = some (.builtin "min"):=by decide +kernel
def Lu:ay "abs" = some (.builtin "abs"):=by decide +kernel
def Xf:ay "len" = some (.builtin "len"):=by decide +kernel
def P7:ay "bool" = some (.type "bool"):=by decide +kernel
def Q2:ay "int" = some (.type "int"):=by decide +kernel
def NJ:ay "str" = some (.type "str"):=by decide +kernel
def Qs:ay "tuple" = some (.type "tuple"):=by decide +kernel
def Qr:ay "list" = some (.type "list"):=by decide +kernel
inductive UF(x y:V)(H:Hp)(Q:VK):Prop
 |mk(i j:_)(_:x=.str i)(_:y=.str j)(_:Q (.bl (!decide (j.cps.toList<i.cps.toList))) H)
def ED:Yu X (az .LtE) (UF):=by
 intro a s e H x y v u Q I b c h;obtain⟨i,j,rfl,rfl,q⟩:=h;obtain⟨t,rfl⟩:=b;obtain⟨d,rfl⟩:=c;exact PySem.P.le_str (Yr I q (by simp))
inductive UO(a:zZ)(x y:V)(H:Hp)(Q:VK):Prop
 |mk(p b c:_)(_:x=.ref p)(_:y=.ref b)(_:ZG a H p c)(_:ZG a H b [])(_:Q (.bl c.isEmpty) H)
def Nv(f:X.A.units<cLine):Yu X (az .Eq) (UO X.K):=by
 intro l s G H x y v u Q I B C h;obtain⟨p,b,D,rfl,rfl,c,o,q⟩:=h;cases B;cases C;obtain⟨d,w,i,E⟩:=I.list c;obtain⟨a,z,k,F⟩:=I.list o;have g:=w.length;have t:=z.length;have n:a=[]:=vC (by rw[<-t];rfl)
 subst n
 cases D with
 | nil=>
  have m:d=[]:=vC (by rw[<-g];rfl)
  subst m;exact PySem.SeqAt.eq_listAt (e:=λ_=>true) i.isList k.isList rfl f (λj c _=>absurd c (by simp)) (Yr I q (by simp))
 | cons x r=>exact PySem.SeqAt.eq_list_lengthsAt i.isList k.isList (by simp;intro e;subst e;simp at g) f (Yr I q rfl)
def ZPi(i j:Int):Prop:=0<j/\j.natAbs.log2<9000
def ZNp:Yu X (binaryOp .FloorDiv) (rI ZPi λi j=>.int (i / j)):=N4 λi j _ _ _ _ _ a q=>by
 have b:(0:Int)<j:=a.1;exact floordiv_int ∅ (by rw[rG i ∅];exact q) (.inl (PyProof.noPylong_of_log2 a.2))
inductive PX(a:zZ)(b:jf)(H:Hp)(Q:VK):Prop
 |mk(p:aj)(bs:jT)(_:b=[.ref p])(_:ZG a H p (bs.map V.bl))(_:Q (.bl (bs.all id)) H)
def Li(B:X.calm=true):VI X (.builtin "all") (PX X.K):=by
 intro t s W H V U Q I r h;obtain⟨p,bs,rfl,F,q⟩:=h;obtain⟨u,rfl,J⟩:=VY r;cases J;obtain⟨a,w,j,S⟩:=I.list F;have n:=w.length;have f:p<s.heap.objs.size:=by obtain⟨_,e,_⟩:=j.isList;exact zU e
 have g:p≠s.heap.objs.size:=zL f;have C:=I.ok.hd B;have M:∀(i:Nat)(v:ai),a.toArray[i]? = some v->v=.bool (bs.getD i true):=λi v G=>by
  have c:a[i]? = some v:=by simpa using G
  have R:i<a.length:=(yN.mp c).1;have m:i<bs.length:=by rw[zX] at n;lia
  obtain⟨u,k,d⟩:=w.get (i:=i) (x:=.bl bs[i]) (by rw[zN,zV m];rfl)
  rw[c] at k;cases k;rw[show v=Value.bool bs[i] from d,zW,zV m];rfl
 refine call_all_walk (wpAny_pyIter_list j.isList ?_);refine⟨_,_,_,_,_,_,(λi=>bs.getD i true),rfl,Walks.list (A:=X.A.in1) C s.heap.objs.size p g a.toArray,⟨⟨_,yT _ rfl,rfl,rfl⟩,j.isList.push _⟩,λi v T O N y z=>?_,λP L D=>?_⟩
 ·rw[M i v y];exact wpAny_truthy_bool z
 ·have e:(zQ a.toArray.size).all (λi=>bs.getD i true)=bs.all id:=by
   rw[zK,<-n,zX];have d:bs.all id=((zQ bs.length).map λi=>bs.getD i true).all id:=by rw[range_getD]
   rw[d,xT];rfl
  rw[e];refine⟨.bl (bs.all id),H,I.kept (t':=L) λb o l=>D b o ?_ (zS _ l),rfl,q⟩;intro E;exact absurd (zU l) (by rw[yZ.mp E];exact xE _)
def QG(b:Int)(l:jC):Int:=l.foldl (λa c=>if c > a then c else a) b
def Nl(d:Int):jC->Int
 | []=>d
 | x::r=>QG x r
section
variable{R:Result->al->Prop}
def BY(hh:A.handled=none){I l S:aj}{f:je}{d:jC}{kw:jL}(y:S≠I)(U:S≠l)(Y:l≠I)(hi:IntsAre f d):
  ∀(k j:Nat)(s:al)(b:Int)(n:Tok)(c:Nat),f.length-j=k->j<=f.length->s.heap.IsListIter I l j->s.heap.IsList l f.toArray->s.heap.get? S=some { cls:=.type "list",dict:=none,data:=.seq #[.int b n,.int b n] c,slots:=#[] } ->
   (∀ t H N,(∀ a o,a≠I->a≠S->s.heap.get? a=some o->H.get? a=some o)->R (.ok (.ret (.int (QG b (d.drop j)) t))) { s with heap:=H,toks:=N }) ->
   aH (aA prog w) A (.builtin "max.loop" ⟨[.ref I,.none,.ref S],kw⟩) R s:=by
 have nm:(toString "max" ++ toString ".loop" : String) = "max.loop" :=by decide
 have W:=Walks.list (prog:=prog) (w:=w) (A:=A.in1) hh I l Y f.toArray;have p:=IntsAre.length hi;intro k
 induction k with
 | zero=>
  intro j s b n c hk hj st X J L;have E:j=f.toArray.size:=by rw[zK];lia
  refine codeAny_builtin sC ?_;rw[Around.under_plainId wE _];show aB _ A.in1 (seqItems? (.ref S) >>= _) _ _ s;refine aa (wpAny_seqItems J rfl ?_);show aB _ A.in1 (tryCatch (pyNext (.ref I)) _ >>= _) _ _ s;refine aa (wpAny_tryCatch (W.done s _ _ (by rw[<-E];exact⟨st,X⟩) λH N g=>?_))
  have h:=g S _ (by simpa using y) J
  show aB _ A.in1 (updateSeq S (λ_=>#[]) >>= _) _ _ _;refine aa (wpAny_updateSeq h rfl (aa (wpAny_letGo (ad ?_))));have q:=L n (H.update S (Obj.mapSeq λ_=>#[])) N λa o z D e=>(yC _ _ (Ne.symm D)).trans (g a o (by simpa using z) e)
  rw[List.drop_eq_nil_of_le (by rw[<-p];rw[zK] at E;lia)] at q
  exact q
 | succ k ih=>
  intro j s b n c hk hj st X J L;have E:j<f.toArray.size:=by rw[zK];lia
  refine codeAny_builtin sC ?_;rw[Around.under_plainId wE _];show aB _ A.in1 (seqItems? (.ref S) >>= _) _ _ s;refine aa (wpAny_seqItems J rfl ?_);show aB _ A.in1 (tryCatch (pyNext (.ref I)) _ >>= _) _ _ s;refine aa (wpAny_tryCatch (W.item j s _ _ E ⟨st,X⟩ λv H N hP m g=>?_));have h:=g S _ (by simpa using y) J
  have K:j<d.length:=by rw[<-p];rw[zK] at E;exact E
  obtain⟨O,Z⟩:∃ t,v=.int d[j] t:=by
   have r:ZT (d.map V.int) f:=M7 hi;obtain⟨u,e1,t,G⟩:=r.get (i:=j) (x:=.int d[j]) (by rw[zN,zV K];rfl)
   have T:f[j]? = some v:=by simpa using hP
   rw[T] at e1;cases e1;exact⟨t,G⟩
  subst Z;have hd:d.drop j=d[j]::d.drop (j+1):=vS K;show aB _ A.in1 (tryCatch (holding [_,_] (richCompare .Gt (.int d[j] O) (.int b n) >>= _)) _ >>= _) _ _ _;refine aa (wpAny_tryCatch (af (aa (CmpOf.ints_gt (P:=λi v=>(i=0/\v=.int d[j] O)\/(i=1/\v=.int b n)) (λi=>if i=0 then d[j] else b) (λi v Z=>?_) 0 1 _ _ _ _ _ (.inl ⟨rfl,rfl⟩) (.inr ⟨rfl,rfl⟩) ?_))))
  ·rcases Z with ⟨rfl,rfl⟩ | ⟨rfl,rfl⟩
   ·exact⟨O,rfl⟩
   ·exact⟨n,rfl⟩
  refine aa (af (wpAny_truthy_bool (aa (wpAny_letGo (ad ?_)))));by_cases D:d[j] > b
  ·simp only[aQ,D,decide_true,Nat.one_ne_zero,if_false,↓reduceIte];refine aa (wpAny_updateSeq h rfl (aa (wpAny_letGo ?_)));rw[nm];refine ad ⟨plainId_quiet wE _,ih (j+1) _ d[j] O _ ∅ ∅ ?_ ?_ (wW _ h rfl) λt Q C B=>?_⟩
   ·obtain⟨o,e,r⟩:=m.1;exact⟨o,(yC _ _ y).trans e,r⟩
   ·obtain⟨o,e,r⟩:=m.2;exact⟨o,(yC _ _ U).trans e,r⟩
   ·have q:=L t Q C λa o z M e=>B a o z M ((yC _ _ (Ne.symm M)).trans (g a o (by simpa using z) e))
    rw[hd] at q;have G:QG b (d[j]::d.drop (j+1))=QG d[j] (d.drop (j+1)):=by unfold QG;rw[tM,aQ D]
    rw[G] at q;exact q
  ·simp only[D,decide_false,Nat.one_ne_zero,if_false,vW,↓reduceIte];refine aa (wpAny_letGo ?_);rw[nm];refine ad ⟨plainId_quiet wE _,ih (j+1) _ b n c ∅ ∅ m.1 m.2 h λt Q C B=>?_⟩
   have q:=L t Q C λa o z M e=>B a o z M (g a o (by simpa using z) e)
   rw[hd] at q;have G:QG b (d[j]::d.drop (j+1))=QG b (d.drop (j+1)):=by unfold QG;rw[tM,aP D]
   rw[G] at q;exact q
end
def C2(a v:ai):argsOk "max" ⟨[a],[(wU "default",v)]⟩:=by unfold argsOk;kernel_rfl
def ZF5(hc:X.calm=true){g:jv}{Y:St}{H:Hp}{s:al}{Q:VK}{l:aj}{p:jC}{d:Int}{M:Tok}(I:ZE X g Y H s)(hq:ZG X.K H l (p.map V.int))(q:Q (.int (Nl d p)) H):
  aB (aA X.prog X.w) X.A (call (.builtin "max") [.ref l] [(wU "default",.int d M)]) (EP X g Y Q) X.xe s:=by
 have nm:(toString "max" ++ toString ".loop" : String) = "max.loop" :=by decide
 obtain⟨b,rv,T,hz⟩:=I.list hq;have hi:IntsAre b p:=IP rv;have c:=IntsAre.length hi;have hh:=I.ok.hd hc;have E:l<s.heap.objs.size:=by obtain⟨_,e,_⟩:=T.isList;exact zU e
 refine PyProof.Rows.kmk_tree PySem.F.kind_max PySem.F.plain_max PySem.F.entry_max (C2 _ _) ?_;show aB _ X.A.in1 (Builtin.Builtins.bindParams "max" ["key","default"] 0 ⟨[],[(wU "default",.int d M)]⟩ >>= _) _ _ s;refine aa (wpAny_of_eq (show Builtin.Builtins.bindParams "max" ["key","default"] 0 ⟨[],[(wU "default",.int d M)]⟩=pure [none,some (.int d M)] from rfl) ?_);refine aa (ad (aa (wpAny_pyIter_list T.isList (aa (wpAny_newList ?_ (yX _))))));rw[nm];have n:(s.heap.push { cls:=.type "list_iterator",data:=.fields #[.ref l,.int 0 0] }).objs.size=s.heap.objs.size+1:=vQ ..;have D:l≠s.heap.objs.size:=zL E;have m:(s.heap.push { cls:=.type "list_iterator",data:=.fields #[.ref l,.int 0 0] }).objs.size≠s.heap.objs.size:=by rw[n];exact xG (xV _)
 have C:(s.heap.push { cls:=.type "list_iterator",data:=.fields #[.ref l,.int 0 0] }).objs.size≠l:=by rw[n];exact xG (vX E)
 generalize hS:(s.heap.push { cls:=.type "list_iterator",data:=.fields #[.ref l,.int 0 0] }).objs.size=S at *;have R:∀ a o,s.heap.get? a=some o->((s.heap.push { cls:=.type "list_iterator",data:=.fields #[.ref l,.int 0 0] }).push { cls:=.type "list",data:=.seq ([]:je).toArray }).get? a=some o:=λa o e=>zS _ (zS _ e);have gI:((s.heap.push { cls:=.type "list_iterator",data:=.fields #[.ref l,.int 0 0] }).push { cls:=.type "list",data:=.seq ([]:je).toArray }).IsListIter s.heap.objs.size l 0:=⟨_,zS _ (yT _ rfl),rfl,rfl⟩;have gL:((s.heap.push { cls:=.type "list_iterator",data:=.fields #[.ref l,.int 0 0] }).push { cls:=.type "list",data:=.seq ([]:je).toArray }).IsList l b.toArray:=(T.isList.push _).push _;have gS:((s.heap.push { cls:=.type "list_iterator",data:=.fields #[.ref l,.int 0 0] }).push { cls:=.type "list",data:=.seq ([]:je).toArray }).get? S=some { cls:=.type "list",dict:=none,data:=.seq #[] 0,slots:=#[] }:=by
  rw[<-hS];exact yT _ rfl
 generalize ((s.heap.push { cls:=.type "list_iterator",data:=.fields #[.ref l,.int 0 0] }).push { cls:=.type "list",data:=.seq ([]:je).toArray })=h2 at *;refine ad ⟨plainId_quiet wE _,?_⟩;have W:=Walks.list (prog:=X.prog) (w:=X.w) (A:=X.A.in1) hh s.heap.objs.size l D b.toArray;refine codeAny_builtin sC ?_;rw[Around.under_plainId wE _];show aB _ X.A.in1 (seqItems? (.ref S) >>= _) _ _ _;refine aa (wpAny_seqItems gS rfl ?_);show aB _ X.A.in1 (tryCatch (pyNext (.ref s.heap.objs.size)) _ >>= _) _ _ _;have nS:∀ a o,s.heap.get? a=some o->a≠S:=λa o e z=>by
  have h:=zU e;rw[z,n] at h;exact absurd h (wL.mpr (wM _))
 have f:∀{y:aD}{J:Nat}{v:Int}{t:Tok},(∀ a o,a≠s.heap.objs.size->a≠S->h2.get? a=some o->y.get? a=some o)->v=Nl d p->EP X g Y Q (.int v t) { s with heap:=y,toks:=J }:=fun{y J v t} k e=>by
  subst e;exact⟨.int (Nl d p),H,I.kept (t':=J) λa o e=>k a o (zL (zU e)) (nS a o e) (R a o e),⟨t,rfl⟩,q⟩
 cases p with
 | nil=>
  have z:b=[]:=vC c;subst z;refine aa (wpAny_tryCatch (W.done _ _ _ ⟨gI,gL⟩ λy J j=>?_));show aB _ X.A.in1 (rule _ >>= _) _ _ _;refine aa (wpAny_rule (ad ?_));exact f (λa o L P e=>j a o (by simpa using L) e) rfl
 | cons x r=>
  have zl:0<b.toArray.size:=by rw[zK,c];exact Nat.succ_pos _
  refine aa (wpAny_tryCatch (W.item 0 _ _ _ zl ⟨gI,gL⟩ λv y J hP G j=>?_));have B:=j S _ (by simpa using m) gS
  obtain⟨U,hv⟩:∃ t,v=.int x t:=by
   obtain⟨u,Z,t,e2⟩:=rv.get (i:=0) (x:=.int x) rfl;have N:b[0]? = some v:=by simpa using hP
   rw[N] at Z;cases Z;exact⟨t,e2⟩
  subst hv;show aB _ X.A.in1 (updateSeq S (λ_=>#[.int x U,.int x U]) >>= _) _ _ _;refine aa (wpAny_updateSeq B rfl ?_);rw[nm];refine ad ⟨plainId_quiet wE _,BY hh m C D hi _ 1 _ x U _ rfl (by rw[c];exact Nat.succ_le_succ (yX _)) ?_ ?_ (wW _ B rfl) λt h3 a0 O=>?_⟩
  ·obtain⟨o,e,r⟩:=G.1;exact⟨o,(yC _ _ m).trans e,r⟩
  ·obtain⟨o,e,r⟩:=G.2;exact⟨o,(yC _ _ C).trans e,r⟩
  ·exact f (λa o L P e=>O a o L P ((yC _ _ (Ne.symm P)).trans (j a o (by simpa using L) e))) rfl
def Cp(t f:TA)(K:zZ):TE:=λc H Q=>t c H λg e=>f c e λh a=>∃(l:aj)(b:jC)(d:Int),g=[.ref l]/\h=[.int d]/\ZG K a l (b.map V.int)/\Q (.int (Nl d b)) a
def Cb{p a g:aK}{e f:Expr}{t i:TA}(x:X.calm=true)(z:Gl X "max")(B:X.mg "max" = none)(w:PA X [e] t)(A:PK X [⟨some (wU "default"),f,g⟩] i)(y:aG a (ar [e] X.env)=(false,aI e X.env)::aG a (ar [] X.env):=by rfl)(b:(aG a (ar [e] X.env)).any (·.1)=false:=by rfl):
  PE X (.Call (.Name "max" p) [e] [⟨some (wU "default"),f,g⟩] a) (Cp t i X.K):=by
 intro c s j H Q I h;refine ag (Px I z B Nf (callWith_kw (YG (w a c s j H _ I h) λP G R k m r q=>?_) y b));refine Z3 (A a c G j k _ m q) ?_;rintro S M ⟨T,J,n,F,l,L,d,o,v,C,D⟩;subst o v;obtain⟨u,rfl,E⟩:=VY r;obtain⟨O,rfl,N,rfl⟩:=VY F;cases E;exact ZF5 x n C D
def HK(x:Str):It:=⟨λi _=>i<x.cps.size,λi H v a=>a=H/\∃ c,x.cps[i]? = some c/\v=.str ⟨#[c]⟩,λi _=>i=x.cps.size⟩
def FI{P:am}{w:aw}{K:zZ}{tg:Expr}(ty:String)(hty:["enumerate","zip","dict_itemiterator","dict_reverseitemiterator","odict_iterator","itertools.zip_longest","itertools.pairwise"].contains ty=false)(x:Str)(t:Tok)(it:aj)(W:∀ A:ax,A.handled=none->Walks P w A it [it] [it] x.cps.size (SignAt x) (λi h=>h.IsStrIter it ty x t i))(self:∀ (A:ax) (i:Nat) (s:al) (Q:ja) (E:ja),s.heap.IsStrIter it ty x t i->Q (.ref it) s->aB (aA P w) A (pyIter (.ref it)) Q E s):
  Vf P w K tg (HK x) [it] it (λi h=>h.IsStrIter it ty x t i) where
 mem:=by simp
 obj:=λi h st b hb=>by
  have e:b=it:=by simpa using hb
  subst e;obtain⟨o,e,c,d⟩:=st;exact⟨o,e,λv z=>by rw[d] at z;cases z⟩
 keep:=λi h h' ⟨o,e,r⟩ k=>⟨o,k it (by simp) o e,r⟩
 item:=by
  intro X hP hw hK hc i kh s σ H E I hf st hg;subst hP hw hK;obtain⟨f0,f1,f2,f3,f4,f5⟩:=hf it (by simp)
  refine(W X.A (I.ok.hd hc)).item i s _ _ hg st λv h' tk hv st' kk=>?_;obtain⟨c,u,hx,rfl⟩:=hv;have I1:ZE X kh σ H { s with heap:=h',toks:=tk }:=I.turned (λb o hb e=>kk b o (by simpa using hb) e) f0 f1 f3 f4 f5
  obtain⟨o,e,cl,d⟩:=id st';exact⟨_,rfl,Mj (s:={ s with heap:=h',toks:=tk }) e cl d hty ⟨.str ⟨#[c]⟩,H,I1,⟨u,rfl⟩,⟨rfl,c,hx,rfl⟩,st',λb hb=>(hf b hb).1⟩⟩
 done:=by
  intro X hP hw hK hc i kh s σ H E I hf st hg;subst hP hw hK;obtain⟨f0,f1,f2,f3,f4,f5⟩:=hf it (by simp)
  have hi:i=x.cps.size:=hg;subst hi;exact(W X.A (I.ok.hd hc)).done s _ _ st λh' tk kk=>⟨rfl,I.turned (λb o hb e=>kk b o (by simpa using hb) e) f0 f1 f3 f4 f5⟩
 self:=self
section
variable{tg:Expr}
inductive N8(R:It->Hp->Prop)(v:V)(a:Hp):Prop
 |mk(x:_)(_:v=.str x)(_:R (HK x) a)
def ZQZ(b:TE):TI:=λc H R=>b c H λv a=>N8 R v a
def ZO6{l:Expr}{n:TE}(r:PE X l n):PI X tg l (ZQZ n):=by
 intro a s w H R I h;refine Z3 (r a s w H _ I h) ?_;rintro v c ⟨z,f,d,u,x,e,q⟩;subst e;obtain⟨t,rfl⟩:=u;have k:∀ b∈[c.heap.objs.size],VR X a f b:=λb p=>by
  rw[yZ.mp p];exact d.fpOk (zY _) (d.hok.fresh (zY _))
 cases m:x.cps.all (· < 128)
 ·exact wpAny_pyIter_wide m ⟨c.heap.objs.size,[c.heap.objs.size],_,_,f,rfl,d.kept (t':=c.toks) λb o e=>zS _ e,
   FI "str_iterator" (by decide) x t _ (λA g=>Walks.strWide g _ x t) (λA i s Q E j h=>wpAny_pyIter_striter_wide j h),⟨_,yT _ rfl,rfl,rfl⟩,k,q⟩
 ·exact wpAny_pyIter_ascii m ⟨c.heap.objs.size,[c.heap.objs.size],_,_,f,rfl,d.kept (t':=c.toks) λb o e=>zS _ e,
   FI "str_ascii_iterator" (by decide) x t _ (λA g=>Walks.strAscii g _ x t) (λA i s Q E j h=>wpAny_pyIter_striter_ascii j h),⟨_,yT _ rfl,rfl,rfl⟩,k,q⟩
end
section
variable{σ:St}{H:Hp}{ix:jq}{te:TE}{Q:VK}
def UT{J:It}{n:Nat}(d:Nat->V->Prop)(c:aj->Nat->jf->Hp->Prop)(z:n<aq)(k:∀ D i a H,i<n->c D i a H->J.go i H)(t:∀ D i a H x g,i<n->c D i a H->J.yld i H x g->g=H/\d i x)(f:∀ D a H,c D n a H->J.stop n H)(q:∀ D,H D=none->c D 0 [] (upd H D (.lst [])))(step:∀ D i a H x,H D=some (.lst a)->a.length<=i->i<n->d i x->c D i a H->∀ R:VK,(∀ y h,h D=some (.lst a)->c D (i+1) (a++[y]) (upd h D (.lst (a++[y])))->R y h)->te (Oe σ ix x) H R)(j:∀ D a H,H D=some (.lst a)->c D n a H->Q (.ref D) H):WY J σ ix KN te H Q:=by
 intro D r;exists λi m H=>m=n-i/\i<=n/\∃ a,H D=some (.lst a)/\a.length<=i/\c D i a H,⟨n,rfl,yX _,[],ZR,zY _,q D r⟩;rintro i m H ⟨rfl,w,a,e,s,p⟩;by_cases b:i<n
 ·refine .inr ⟨k D i a H b p,λx g y=>?_⟩;obtain⟨rfl,u⟩:=t D i a H x g b p y;unfold KN;dsimp only;rw[aQ rfl];refine step D i a _ x e s b u p _ λy h o v=>?_;exact⟨a,n-(i+1),o,∅,∅,rfl,b,a++[y],ZR,by rw[yS,xH];lia,v⟩
 ·have l:i=n:=∅
  subst l;exact .inl ⟨f D a H p,j D a H e p⟩
def ZGf{J:It}{n:Nat}{s:TT}(c:Nat->V->Prop)(d:V->Bool)(f:aj->Nat->jf->Hp->Prop)(C:n<aq)(l:∀ D i a H,i<n->f D i a H->J.go i H)(z:∀ D i a H x j,i<n->f D i a H->J.yld i H x j->j=H/\c i x)(g:∀ D a H,f D n a H->J.stop n H)(u:∀ D,H D=none->f D 0 [] (upd H D (.lst [])))(h:∀ D i a H x,i<n->c i x->f D i a H->∀ R:Bool->Hp->Prop,R (d x) H->s (Oe σ ix x) H R)(q:∀ D i a H x,H D=some (.lst a)->i<n->c i x->d x=true->f D i a H->f D (i+1) (a++[x]) (upd H D (.lst (a++[x]))))(A:∀ D i a H x,H D=some (.lst a)->i<n->c i x->d x=false->f D i a H->f D (i+1) a H)(k:∀ D a H,H D=some (.lst a)->f D n a H->Q (.ref D) H):WY J σ ix s (Uq 0) H Q:=by
 intro D v;exists λi m H=>m=n-i/\i<=n/\∃ a,H D=some (.lst a)/\a.length<=i/\f D i a H,⟨n,rfl,yX _,[],ZR,zY _,u D v⟩;rintro i m H ⟨rfl,B,a,e,w,p⟩;by_cases b:i<n
 ·refine .inr ⟨l D i a H b p,λx j y=>?_⟩;obtain⟨rfl,o⟩:=z D i a H x j b p y;refine h D i a _ x b o p _ ?_
  cases r:d x with
  | true=>
   rw[aQ rfl];exact⟨x,rfl,a,n-(i+1),e,∅,∅,rfl,b,a++[x],ZR,by rw[yS,xH];lia,q D i a _ x e b o r p⟩
  | false=>
   rw[aP zT];exact⟨n-(i+1),∅,rfl,b,a,e,vB w,A D i a _ x e b o r p⟩
 ·have t:i=n:=∅
  subst t;exact .inl ⟨g D a H p,k D a H e p⟩
end
def Zd.there{P:am}{w:aw}{H:Hp}{h:aD}{a:aj}:∀{o:HO},Zd P w H h a o->∃ b,h.get? a=some b:=by
 intro o x
 induction o with
 | lst l=>obtain⟨z,j,n,r,e⟩:=x;exact⟨_,e⟩
 | tup l=>obtain⟨z,j,r,b,e,c⟩:=x;exact⟨_,e⟩
 | dK k=>obtain⟨z,y,G,r,b,i,g,e,c⟩:=x;exact⟨_,e⟩
 | dT k=>obtain⟨z,y,l,r,b,i,g,e,c⟩:=x;exact⟨_,e⟩
 | set S n=>obtain⟨b,i,g,t,e,c⟩:=x;exact⟨_,e⟩
 | ins C p m=>obtain⟨d,z,D,e,_⟩:=x;exact⟨_,e⟩
 | own y=>exact x
 | xd m=>obtain⟨B,⟨E,i,g,e,c⟩,r⟩:=x;exact⟨_,e⟩
 | rng A q=>obtain⟨t,u,v,e⟩:=x;exact⟨_,e⟩
 | frz b u s=>exact⟨_,x.1⟩
 | tbl F=>exact⟨_,x⟩
 | met f y=>exact⟨_,x⟩
 | ext I=>exact x.2.1
def YW.there{P:am}{w:aw}{H:Hp}{h:aD}{a:aj}(x:YW P w H h)(n:H a≠none):∃ b,h.get? a=some b:=by
 cases e:H a with
 | none=>exact absurd e n
 | some o=>exact Zd.there (x a o e)
def YW.keptT{P:am}{w:aw}{H:Hp}{h d:aD}(x:YW P w H h)(k:∀ b u,h.get? b=some u->H b≠none->d.get? b=some u):YW P w H d:=λa o e=>
 (x a o e).stay (λb u c q=>k b u q (by
  rcases c with rfl | c
  ·rw[e];exact λz=>nomatch z
  ·rw[c];exact λz=>nomatch z)) (λ_ q=>q) λ_ _ q=>q
section
variable{kh:jv}{σ:St}{H H':Hp}{s':al}{E:XK}
def ZE.noloc(I:ZE X kh σ H s):X.s₀.heap.get? X.env.locals=none:=uG I.ok.above
def JU(I:ZE X kh σ H s):∀ b∈frs X.stack,∀ o,s.heap.get? b=some o->∀ a,o.data≠.fields a:=λb c o q a z=>by
 obtain⟨_,f,e,d⟩:=I.stack.mem c;rw[q] at e;cases e;exact d a z
end
end L2
namespace L2
open PySem PySem.Spec PySem.W PyProof.Rows
def Xh(x C:aj)(h:aD):Prop:=∃ o,h.get? x=some o/\o.cls=.ref C
def Xh.ty{x C:aj}{h:aD}(I:Xh x C h)(M:Model):Looks M h (typeOf (.ref x)) (.ref C):=by
 obtain⟨o,e,c⟩:=I;rw[<-c];exact Looks.andThen (Looks.ld e) Looks.now
structure WH(K:Frag)(C:aj):Prop where
 ga:findIn K (.ref C) "__getattribute__" = some (some (.builtin "BaseException.__getattribute__"))
 hk:findIn K (.ref C) "__getattr__" = some none
 mB:mroIn K C (.type "BaseException")=some true
 mO:mroIn K C (.type "object")=some true
 ca:findIn K (.ref C) "__class__" = some (some (.builtin "object.__class__"))
 hn:specialIn K (.builtin "object.__class__") "__get__" = some (some (.builtin "getset_descriptor.__get__"))
 tk:takesIn K (.builtin "object.__class__")=some true
section
variable{K:Frag}{x C:aj}
def Dc{f:ai}{Q:Unit->al->Prop}(X:K.In s.heap)(I:Xh x C s.heap)(a:mroIn K C (.type "BaseException")=some true)(b:Q () s):
  aB (aA prog w) A (checkBuiltinCall "BaseException.__getattribute__" ⟨[.ref x,f],[]⟩) Q E s:=by
 obtain⟨h,g,d,t,k⟩:=s;have c:builtinKind "BaseException.__getattribute__" = some .slot:=by decide +kernel
 have e:splitId "BaseException.__getattribute__" = some ("BaseException","__getattribute__"):=by decide +kernel
 have i:=I.ty (aA prog w);have j:=looks_mroIn (M:=aA prog w) X a;simp only[checkBuiltinCall,c,e];refine aa ?_;unfold isInstance
 repeat lk
 exact b
def Dw{b:Str}{i:Tok}{r:Builtin.ObjectAttr.Found}{Q:Fin->al->Prop}(X:K.In s.heap)(I:Xh x C s.heap)(e:Looks (aA prog w) s.heap (Builtin.ObjectAttr.find (.ref x) (.ref C) b) r)(h:match r with
   | .value v=>Q (.done (.ret v)) s
   | .bind g a=>aB (aA prog w) A (call g [a,.ref x,.ref C]) (λv c=>Q (.done (.ret v)) c) E s
   | .missing=>False):aB (aA prog w) A (Builtin.«object.__getattribute__» ⟨[.ref x,.str b i],[]⟩) Q E s:=by
 obtain⟨j,g,d,t,k⟩:=s;have f:=I.ty (aA prog w);unfold Builtin.«object.__getattribute__»;refine aa (ad ?_);refine aa (ad ?_);refine aa (f.at ?_);refine aa (e.at ?_)
 cases r with
 | value v=>exact ad h
 | bind g a=>
  show aB _ _ (holding [a] (call g [a,.ref x,.ref C]) >>= ret) _ _ _;exact aa (af (ae h (λv c z=>ad z) λ_ _ z=>z))
 | missing=>exact h.elim
def GF{c:Str}{r:Builtin.ObjectAttr.Found}{b f:Bool}{k:Tok}{Q:ja}(X:K.In s.heap)(I:Xh x C s.heap)(e:WH K C)(l:Looks (aA prog w) s.heap (Builtin.ObjectAttr.find (.ref x) (.ref C) c) r)(h:match r with
   | .value v=>handedIn v=true/\Q v s
   | .bind g a=>aB (aA prog w) A.in1 (call g [a,.ref x,.ref C]) (λv j=>handedIn v=true/\Q v j) (λ_ _=>False) s
   | .missing=>False):aB (aA prog w) A (getAttrBy (.ref x) (.str c k) f b) Q E s:=by
 have i:=F.excAttr_ValueError;have m:=I.ty (aA prog w);have n:=looks_findIn (M:=aA prog w) X e.ga;have o:=looks_findIn (M:=aA prog w) X e.hk;have p:(Value.builtin "BaseException.__getattribute__" == Value.builtin "object.__getattribute__")=false:=by decide +kernel
 obtain⟨q,g,d,t,u⟩:=s;unfold getAttrBy;refine af (aa (m.at (aa (n.at ?_))));show aB _ _ (if (true&&(Value.builtin "BaseException.__getattribute__" == Value.builtin "object.__getattribute__"))=true then _ else getAttrByItsOwn (.ref x) (.str c k) (.ref C) (.builtin "BaseException.__getattribute__") f b) _ _ _
 rw[p,aP (by decide)]
 unfold getAttrByItsOwn hookBefore;refine aa (o.at ?_);refine aa (wpAny_attempt (af ?_));unfold callGetattribute;rw[aP (by cases b <;> decide)]
 unfold boundAndCalled;rw[i.ga.bind (.ref x)];refine aa (ad ?_);refine wpAny_call (codeAny_call_builtin i.ga.plain F.entry_bexc_ga (Dc X I e.mB (Dw X I l ?_)))
 cases r with
 | value v=>exact handed_on h.1 h.2
 | bind g a=>exact ae h (λv j z=>handed_on z.1 z.2) λ_ _ z=>z.elim
 | missing=>exact h.elim
def ZMP{R:Result->al->Prop}{b:ai}(X:K.In s.heap)(I:Xh x C s.heap)(e:WH K C)(h:R (.ok (.ret (.ref C))) s):
  aH (aA prog w) A (.call (.builtin "getset_descriptor.__get__") ⟨[.builtin "object.__class__",.ref x,b],[]⟩) R s:=by
 obtain⟨f,d,c,j,a⟩:=s;have g:=I.ty (aA prog w);have i:=looks_mroIn (M:=aA prog w) X e.mO;refine codeAny_call_builtin KF.slot_gs.plain KF.entry_gs ?_;refine KF.slot_gs.check _ _ _ _ _ _ _ _ KF.type_class (KF.args_gs _ _ _) ?_;unfold Builtin.«getset_descriptor.__get__»;unfold Builtin.Getset_descriptor.descrGet;rw[dga_obj];refine aa (ad ?_);unfold Builtin.Getset_descriptor.descrGetter;unfold Builtin.Getset_descriptor.descrCheckInstance;unfold Builtin.Getset_descriptor.descrNameAndClass;unfold isInstance;simp only[KF.owner_class]
 repeat lk
 exists Code.quiet_builtin _ (by decide +kernel)
 refine codeAny_builtin KF.entry_class ?_;unfold Builtin.«object.__class__»;unfold shownTypeOf
 repeat lk
 exact h
def ZLT(X:K.In s.heap)(e:WH K C)(M:Model):Looks M s.heap (Builtin.ObjectAttr.find (.ref x) (.ref C) "__class__") (.bind (.builtin "getset_descriptor.__get__") (.builtin "object.__class__")):=by
 have a:=looks_findIn (M:=M) X e.ca;have b:=looks_specialIn (M:=M) X e.hn;have c:=looks_takesIn (M:=M) X e.tk;refine Looks.andThen a (Looks.andThen b ?_);exact Looks.andThen (show Looks M s.heap (Builtin.ObjectAttr.dataDescriptor? (some (.builtin "object.__class__")) (some (.builtin "getset_descriptor.__get__"))) (some (_,_)) from Looks.andThen c Looks.now) (Looks.tag Looks.now)
end
def WH.cls{K:Frag}{C:aj}(e:WH K C):∃ g d c k,K.lookup C=some ⟨g,d,.cls c,k⟩:=by
 obtain⟨c,h,_⟩:=rD.mp e.mB;unfold clsIn at h;split at h
 ·rename_i f i a b j
  exact⟨f,i,a,b,j⟩
 ·cases h
def ZKq{K:Frag}{x C:aj}(e:WH K C):KitX K (.ref x) (.ref C) (Xh x C) where
 ty:=λM _ _ I=>I.ty M
 it:=λ_ _ X _=>by
  obtain⟨i,d,g,m,b⟩:=e.cls;intro p t r v k q;unfold isType loadHead;have z:=k _ _ (X _ _ b);exact aa (wpAny_loadPart z (ad q))
 ne:=λh f u l n m X a=>by
  obtain⟨i,d,g,o,b⟩:=e.cls
  cases q:(Value.ref C==Value.ref f) with
  | false=>rfl
  | true=>
   have j:C=f:=Value.ref.inj (eq_of_beq q);rw[<-j,X _ _ b] at a;cases a
 ca:=fun{c w A E Q s} X I k=>by
  unfold getAttr? getAttrBy?;refine aa (wpAny_mkText (aa (wpAny_attempt ?_)));refine GF (s:={ s with toks:=s.toks+1 }) X I e (ZLT (s:={ s with toks:=s.toks+1 }) X e _) ?_;exact wpAny_call (ZMP (s:={ s with toks:=s.toks+1 }) X I e ⟨rfl,ad k⟩)
end L2
namespace L2
open PySem PySem.Spec PyProof.Rows
def Cx.held(X:Cx)(a:aj)(E:ja):Cx:={ X with A:=X.A.mark (some (.ref a)),calm:=false,xe:=E }
section
variable{kh:jv}{σ:St}{H H':Hp}{s':al}{ea:aj}
def ZE.held(I:ZE X kh σ H s)(ea:aj)(E:ja):ZE (X.held ea E) kh σ H s:=
 ⟨⟨I.ok.mod,I.ok.kind,I.ok.glob,I.ok.blt,I.ok.above,I.ok.inj,I.ok.has,I.ok.cab,λz=>absurd z zT,I.ok.frames,I.ok.stk,I.ok.exf,I.ok.bs,I.ok.bsz,I.ok.noex,I.ok.exfs,I.ok.funs,I.ok.frf⟩,
  I.os,I.bare,I.base,I.loc,I.cell,I.free,I.freeC,I.pin,I.hok,I.len⟩
def ZE.unheld(a:X.Ok)(I:ZE (X.held ea E) kh σ H s):ZE X kh σ H s:=⟨a,I.os,I.bare,I.base,I.loc,I.cell,I.free,I.freeC,I.pin,I.hok,I.len⟩
def ZE.track{a:aj}{o:HO}(I:ZE X kh σ H s)(l:X.s₀.heap.get? a=none)(t:a≠X.env.locals)(m:∀ x c,X.env.cells.lookup x=some c->c≠a)(y:∀ p∈X.pn++kh,p.1≠a)(v:H a=none)(h:Zd X.prog X.w (upd H a o) s.heap a o):ZE X kh σ (upd H a o) s:=by
 have g:∀{b:aj}{u:HO},H b=some u->b≠a:=fun{b u} e z=>by rw[z,v] at e;cases e
 refine⟨I.ok,I.os,I.bare,⟨I.base.keep,I.base.slot,λb i q n A=>?_,I.base.there,λb k q=>?_,λb i u q=>?_,λb B q=>?_⟩,I.loc,I.cell,?_,λx c e=>?_,λp d=>?_,λb u e=>?_,I.len⟩
 ·rw[ZO (λz=>by rw[z,l] at q;cases q)]
  exact I.base.free b i q n A
 ·have e:=I.base.tups b k q;rw[ZO (g e)];exact e
 ·have e:=I.base.frzs b i u q;rw[ZO (g e)];exact e
 ·obtain⟨f,e⟩:=I.base.tbls b B q;exact⟨f,by rw[ZO (g e)];exact e⟩
 ·rw[ZO (Ne.symm t)];exact I.free
 ·rw[ZO (m x c e)];exact I.freeC x c e
 ·obtain⟨e,n,r⟩:=I.pin p d;exact⟨e,by rw[ZO (y p d)];exact n,r⟩
 ·by_cases j:b=a
  ·subst j;rw[ZR] at e;cases e;exact h
  ·rw[ZO j] at e;exact(I.hok b u e).stay (λ_ _ _ q=>q) (λc q=>by rw[ZO (g q)];exact q) λc k q=>by rw[ZO (g q)];exact q
def ZE.goes{i:Nat}{n:Str}{M:Model}{A:ax}{Q:Unit->al->Prop}{D:aK}(I:ZE X kh σ H s)(O:X.N.Nodup)(F:X.N[i]? = some n)(f:X.env.scope.names.lookup n=some .local)(h:∀ s',ZE X kh (σ.set i none) H s'->Q () s'):aB M A (do bindName X.env n .none;unbindBehindTheSuite X.env n D) Q E s:=by
 obtain⟨m,G,P⟩:=id I.loc;have r:(X.env.scope.kind==.class || (X.env.scope.kind==.module&&X.env.locals != X.env.globals))=false:=by rw[I.ok.kind];rfl
 have t:i<σ.length:=by rw[I.len];exact(yN.mp F).1
 refine wpAny_nameGoes_keeps f G r λh' v C a=>h _ ?_;obtain⟨oL,_,_,R,_⟩:=id G;have g:∀ b o,X.s₀.heap.get? b=some o->b≠X.env.locals:=λb o e=>zL (yL (zU e) I.ok.above);refine⟨I.ok,I.os,I.bare,⟨λb o e n x f=>?_,λb o e n x f=>?_,I.base.free,λb o e f=>?_,I.base.tups,I.base.frzs,I.base.tbls⟩,⟨_,C,λj y v' l u L=>?_⟩,λy c e=>?_,I.free,I.freeC,λp S=>?_,λb V e=>?_,by simpa using I.len⟩
 ·exact(a.2 b (g b o e)).trans (I.base.keep b o e n x f)
 ·obtain⟨Y,l⟩:=I.base.slot b o e n x f;exact⟨Y,(a.2 b (g b o e)).trans l⟩
 ·obtain⟨U,l⟩:=I.base.there b o e f;exact⟨U,(a.2 b (g b o e)).trans l⟩
 ·by_cases B:j=i
  ·subst B;rw[vD t] at u;cases u
  ·rw[vT (Ne.symm B)] at u;obtain⟨Z,W,q⟩:=P j y v' l u L;exists Z,W;rcases q with ⟨k,e⟩ | ⟨k,c,e,z⟩
   ·refine .inl ⟨k,?_⟩;have:y≠n:=λe=>B (JR O l (e ▸ F));simp[this,e]
   ·exact .inr ⟨k,c,e,z.sameBut a (I.cne y c e)⟩
 ·obtain⟨K,z⟩:=I.cell y c e;exact⟨K,z.sameBut a (I.cne y c e)⟩
 ·obtain⟨e,n,J,T,d⟩:=I.pin p S;exact⟨(a.2 p.1 J).trans e,n,J,T,d⟩
 ·refine(I.hok b V e).stay (λc K w q=>(a.2 c ?_).trans q) (λ_ q=>q) λ_ _ q=>q;rintro rfl;rcases w with rfl | w
  ·rw[I.free] at e;cases e
  ·rw[I.free] at w;cases w
end
section
variable{x C CB:aj}
def Kj{b:Bool}{Q:Bool->al->Prop}(X:K.In s.heap)(I:Xh x C s.heap)(o:yQ K (.ref CB)=some (.type "type"))(c:zI K CB (.type "BaseException")=some true)(l:zI K C (.ref CB)=some b)(h:Q b s):aB (aA prog w) A (excMatches (.ref x) (.ref CB)) Q E s:=by
 obtain⟨m,g,d,t,H⟩:=s;have v:=I.ty (aA prog w);have y:=vH (M:=aA prog w) X c;have z:=vH (M:=aA prog w) X l;have e:=sF (M:=aA prog w) X o;have f:=tc_notTuple;have B:yJ (aA prog w) m (isType (.ref CB)) true:=by
  obtain⟨j,a,_⟩:=rD.mp c;unfold uY at a;split at a
  ·rename_i F G i p n
   intro r D u J k q;unfold isType loadHead;exact aa (wpAny_loadPart (k _ _ (X _ _ n)) (ad q))
  ·cases a
 unfold excMatches isInstance isExcClass;refine aa (aa (e.at ?_));rw[f];refine ad ?_;rw[aP zT];refine aa (ad ?_);simp only[List.forIn_cons,List.forIn_nil]
 cases b with
 | true=>
  repeat (first | lk | wp_step)
  all_goals first | exact h | trace_state
 | false=>
  repeat (first | lk | wp_step)
  all_goals first | exact h | trace_state
end
end L2
namespace Tw
open PySem
inductive KT where
 | int (i:Int)
 | str (x:Str)
 | tup (l:List KT)
abbrev jr:=List KT
abbrev jR:=Option KT
mutual
def KT.depth:KT->Nat
 | .int _=>0
 | .str _=>0
 | .tup l=>1+ke l
def ke:jr->Nat
 | []=>0
 | t::r=>max t.depth (ke r)
end
mutual
def KT.size:KT->Nat
 | .int _=>1
 | .str _=>1
 | .tup l=>1+sizeL l
def sizeL:jr->Nat
 | []=>0
 | t::r=>t.size+sizeL r
end
def Qo(c:Nat):Bool:=decide (32<=c)&&decide (c<=126)
def Og(x:Str):Bool:=decide (x.length<=40)&&x.cps.toList.all Qo
mutual
def KT.fits:KT->Nat->Bool
 | .int i,_=>decide (i.natAbs<10 ^ 60)
 | .str x,_=>Og x
 | .tup l,r=>decide (0<r)&&(decide (l.length<=4)&&fitsL l (r-1))
def fitsL:jr->Nat->Bool
 | [],_=>true
 | t::l,r=>t.fits r&&fitsL l r
end
def Ma(r:Nat):∀ l:jr,fitsL l r=l.all λt=>t.fits r
 | []=>by simp[fitsL]
 | t::l=>by rw[fitsL,vO,Ma r l]
mutual
def Pa:∀(t:KT)(r:Nat),t.fits r=true->t.depth<=r
 | .int _,r,_=>by rw[KT.depth];exact yX _
 | .str _,r,_=>by rw[KT.depth];exact yX _
 | .tup l,r,h=>by
  rw[KT.fits,zR,zR] at h;obtain⟨h1,_,h3⟩:=h;have h1':0<r:=of_decide_eq_true h1;have:=fitsL_depth l (r-1) h3;rw[KT.depth]
  lia
def fitsL_depth:∀(l:jr)(r:Nat),fitsL l r=true->ke l<=r
 | [],r,_=>by rw[ke];exact yX _
 | t::l,r,h=>by
  rw[fitsL,zR] at h;have a:=Pa t r h.1;have b:=fitsL_depth l r h.2;rw[ke]
  lia
end
mutual
def Kq:∀(t:KT)(r q:Nat),t.fits r=true->t.depth<=q->t.fits q=true
 | .int _,r,q,h,_=>by rw[KT.fits] at h⊢;exact h
 | .str _,r,q,h,_=>by rw[KT.fits] at h⊢;exact h
 | .tup l,r,q,h,hd=>by
  rw[KT.fits,zR,zR] at h⊢;obtain⟨h1,h2,h3⟩:=h;rw[KT.depth] at hd;exact⟨aO ∅,h2,fitsL_more l (r-1) (q-1) h3 ∅⟩
def fitsL_more:∀(l:jr)(r q:Nat),fitsL l r=true->ke l<=q->fitsL l q=true
 | [],r,q,_,_=>by rw[fitsL]
 | t::l,r,q,h,hd=>by
  rw[fitsL,zR] at h⊢;rw[ke] at hd;exact⟨Kq t r q h.1 ∅,fitsL_more l r q h.2 ∅⟩
end
def KT.things:KT->jr
 | .tup l=>l
 | _=>[]
def below(l:jr):jr:=l.flatMap KT.things
mutual
def KT.eqb:KT->KT->Bool
 | .int i,.int j=>i==j
 | .str x,.str y=>x==y
 | .tup l,.tup m=>jZ l m
 | _,_=>false
def jZ:jr->jr->Bool
 | [],[]=>true
 | a::l,b::m=>a.eqb b&&jZ l m
 | _,_=>false
end
mutual
def KT.plt:KT->KT->Bool
 | .int i,.int j=>decide (i<j)
 | .str x,.str y=>decide (x.cps.toList<y.cps.toList)
 | .tup l,.tup m=>pltL l m
 | _,_=>false
def pltL:jr->jr->Bool
 | [],[]=>false
 | [],_::_=>true
 | _::_,[]=>false
 | a::l,b::m=>if a.eqb b=true then pltL l m else a.plt b
end
mutual
def KT.cmp:KT->KT->Bool
 | .int _,.int _=>true
 | .str _,.str _=>true
 | .tup l,.tup m=>cmpL l m
 | _,_=>false
def cmpL:jr->jr->Bool
 | [],_=>true
 | _::_,[]=>true
 | a::l,b::m=>if a.eqb b=true then cmpL l m else a.cmp b
end
def KT.kind:KT->Nat
 | .int _=>0
 | .str _=>1
 | .tup _=>2
mutual
def KT.lt:KT->KT->Bool
 | .int i,.int j=>decide (i<j)
 | .int _,.str _=>true
 | .int _,.tup _=>true
 | .str _,.int _=>false
 | .str x,.str y=>decide (x.cps.toList<y.cps.toList)
 | .str _,.tup _=>true
 | .tup _,.int _=>false
 | .tup _,.str _=>false
 | .tup l,.tup m=>ltL l m
def ltL:jr->jr->Bool
 | [],[]=>false
 | [],_::_=>true
 | _::_,[]=>false
 | a::l,b::m=>if a.eqb b=true then ltL l m else a.lt b
end
mutual
def KT.st:KT->KT
 | .int i=>.tup [.int 0,.int i]
 | .str x=>.tup [.int 1,.str x]
 | .tup l=>.tup [.int 2,.tup (stL l)]
def stL:jr->jr
 | []=>[]
 | t::l=>t.st::stL l
end
def Gu:∀ l:jr,stL l=l.map KT.st
 | []=>by rw[stL];rfl
 | t::l=>by rw[stL,Gu l];rfl
mutual
def Mp:∀(a b:KT),a.eqb b=true->a=b
 | .int i,.int j,h=>by rw[KT.eqb] at h;rw[eq_of_beq h]
 | .str x,.str y,h=>by rw[KT.eqb] at h;rw[eq_of_beq h]
 | .tup l,.tup m,h=>by rw[KT.eqb] at h;rw[eqbL_eq l m h]
 | .int _,.str _,h=>by simp[KT.eqb] at h
 | .int _,.tup _,h=>by simp[KT.eqb] at h
 | .str _,.int _,h=>by simp[KT.eqb] at h
 | .str _,.tup _,h=>by simp[KT.eqb] at h
 | .tup _,.int _,h=>by simp[KT.eqb] at h
 | .tup _,.str _,h=>by simp[KT.eqb] at h
def eqbL_eq:∀(l m:jr),jZ l m=true->l=m
 | [],[],_=>rfl
 | a::l,b::m,h=>by
  rw[jZ,zR] at h;rw[Mp a b h.1,eqbL_eq l m h.2]
 | [],_::_,h=>by simp[jZ] at h
 | _::_,[],h=>by simp[jZ] at h
end
mutual
def N9:∀ a:KT,a.eqb a=true
 | .int i=>by rw[KT.eqb];exact beq_self_eq_true i
 | .str x=>by rw[KT.eqb];exact beq_self_eq_true x
 | .tup l=>by rw[KT.eqb];exact eqbL_self l
def eqbL_self:∀ l:jr,jZ l l=true
 | []=>by rw[jZ]
 | a::l=>by rw[jZ,N9 a,eqbL_self l];rfl
end
def Y3{a b:KT}:a.eqb b=true ↔ a=b:=⟨Mp a b,λe=>by rw[e];exact N9 b⟩
mutual
def En:∀ a b:KT,a.st.eqb b.st=a.eqb b
 | .int i,.int j=>by simp[KT.st,KT.eqb,jZ]
 | .str x,.str y=>by simp[KT.st,KT.eqb,jZ]
 | .tup l,.tup m=>by simp[KT.st,KT.eqb,jZ,eqbL_st l m]
 | .int _,.str _=>by simp[KT.st,KT.eqb,jZ]
 | .int _,.tup _=>by simp[KT.st,KT.eqb,jZ]
 | .str _,.int _=>by simp[KT.st,KT.eqb,jZ]
 | .str _,.tup _=>by simp[KT.st,KT.eqb,jZ]
 | .tup _,.int _=>by simp[KT.st,KT.eqb,jZ]
 | .tup _,.str _=>by simp[KT.st,KT.eqb,jZ]
def eqbL_st:∀ l m:jr,jZ (stL l) (stL m)=jZ l m
 | [],[]=>by simp[stL,jZ]
 | a::l,b::m=>by simp[stL,jZ,En a b,eqbL_st l m]
 | [],_::_=>by simp[stL,jZ]
 | _::_,[]=>by simp[stL,jZ]
end
def Gf:∀ l:jr,ltL l l=false
 | []=>by rw[ltL]
 | a::l=>by rw[ltL,N9 a,aQ rfl,Gf l]
def Fq{l m:jr}(h:jZ l m=true):ltL l m=false:=by
 rw[eqbL_eq l m h];exact Gf m
mutual
def HB:∀ a b:KT,a.st.cmp b.st=true
 | .int i,.int j=>by simp[KT.st,KT.eqb,KT.cmp,cmpL]
 | .str x,.str y=>by simp[KT.st,KT.eqb,KT.cmp,cmpL]
 | .tup l,.tup m=>by simp[KT.st,KT.eqb,KT.cmp,cmpL,cmpL_st l m]
 | .int _,.str _=>by simp[KT.st,KT.eqb,KT.cmp,cmpL]
 | .int _,.tup _=>by simp[KT.st,KT.eqb,KT.cmp,cmpL]
 | .str _,.int _=>by simp[KT.st,KT.eqb,KT.cmp,cmpL]
 | .str _,.tup _=>by simp[KT.st,KT.eqb,KT.cmp,cmpL]
 | .tup _,.int _=>by simp[KT.st,KT.eqb,KT.cmp,cmpL]
 | .tup _,.str _=>by simp[KT.st,KT.eqb,KT.cmp,cmpL]
def cmpL_st:∀ l m:jr,cmpL (stL l) (stL m)=true
 | [],_=>by simp[stL,cmpL]
 | _::_,[]=>by simp[stL,cmpL]
 | a::l,b::m=>by
  rw[stL,stL,cmpL,cmpL_st l m,HB a b];split <;> rfl
end
mutual
def Gz:∀ a b:KT,a.st.plt b.st=a.lt b
 | .int i,.int j=>by
  simp only[KT.st,KT.eqb,KT.plt,pltL,KT.lt,beq_self_eq_true,if_true];by_cases h:i=j
  ·subst h;simp
  ·simp[h]
 | .str x,.str y=>by
  simp only[KT.st,KT.eqb,KT.plt,pltL,KT.lt,beq_self_eq_true,if_true];by_cases h:x=y
  ·subst h;simp
  ·simp[h]
 | .tup l,.tup m=>by
  simp only[KT.st,KT.eqb,KT.plt,pltL,KT.lt,beq_self_eq_true,if_true,eqbL_st,pltL_st l m]
  cases h:jZ l m with
  | true=>rw[aQ rfl,Fq h]
  | false=>rw[aP zT]
 | .int _,.str _=>by simp[KT.st,KT.eqb,KT.plt,pltL,KT.lt]
 | .int _,.tup _=>by simp[KT.st,KT.eqb,KT.plt,pltL,KT.lt]
 | .str _,.int _=>by simp[KT.st,KT.eqb,KT.plt,pltL,KT.lt]
 | .str _,.tup _=>by simp[KT.st,KT.eqb,KT.plt,pltL,KT.lt]
 | .tup _,.int _=>by simp[KT.st,KT.eqb,KT.plt,pltL,KT.lt]
 | .tup _,.str _=>by simp[KT.st,KT.eqb,KT.plt,pltL,KT.lt]
def pltL_st:∀ l m:jr,pltL (stL l) (stL m)=ltL l m
 | [],[]=>by simp[stL,pltL,ltL]
 | [],_::_=>by simp[stL,pltL,ltL]
 | _::_,[]=>by simp[stL,pltL,ltL]
 | a::l,b::m=>by rw[stL,stL,pltL,ltL,En a b,pltL_st l m,Gz a b]
end
mutual
def Ft:∀ t:KT,t.st.depth<=2 * t.depth+1
 | .int i=>by simp[KT.st,KT.depth,ke]
 | .str x=>by simp[KT.st,KT.depth,ke]
 | .tup l=>by
  have:=depthL_st l;simp only[KT.st,KT.depth,ke]
  lia
def depthL_st:∀ l:jr,ke (stL l)<=2 * ke l+1
 | []=>by simp[stL,ke]
 | t::l=>by
  have a:=Ft t;have b:=depthL_st l;rw[stL,ke,ke]
  lia
end
def FD{l:jr}(a:l.length<=4)(b:fitsL l 2=true):(KT.tup l).fits 3=true:=by
 rw[KT.fits,zR,zR];exact⟨rfl,aO a,b⟩
def BR{x:Str}(a:x.cps.size<=40)(b:x.cps.toList.all Qo=true):Og x=true:=by
 unfold Og;rw[zR];exact⟨aO a,b⟩
inductive TG where
 | int (i:Int)
 | str (x:Str)
 | tup (l:List TG)
 | odd (n:String)
mutual
def TG.fits:TG->Nat->Bool
 | .int i,_=>decide (i.natAbs<10 ^ 60)
 | .str x,_=>Og x
 | .tup l,r=>decide (0<r)&&(decide (l.length<=4)&&gfitsL l (r-1))
 | .odd _,_=>false
def gfitsL:List TG->Nat->Bool
 | [],_=>true
 | t::l,r=>t.fits r&&gfitsL l r
end
end Tw
namespace Tw
open PySem PySem.Spec L2
structure ZB(P:am)(w:aw)(K:zZ)(mg:jc)(ki:aD)(k:Nat)(x:Str)(ps:ju)(sp:Sp):Prop where
 ex:∃ f fd,ZJ P w K mg ki Ze k f fd ps sp/\Z8 K fd ps []/\yW K (.ref f)=true/\mg x=some (.ref f)
def Zr{X:Cx}{k:Nat}{x:Str}{q:ju}{h:Sp}{e:Expr}{a:jA}{t:TA}{p c:aK}(D:ZB X.prog X.w X.K X.mg X.base k x q h)(n:ZZ k X.A)(i:PA X (e::a) t)(l:Gl X x:=by rfl)(d:(x==("__debug__" : Str))=false:=by decide)(j:ar (e::a) X.env=(false,aI e X.env)::ar a X.env:=by rfl)(g:(aG c (ar a X.env)).any (·.1)=false:=by rfl):
  PE X (.Call (.Name x p) (e::a) [] c) (Jo h [] E0 t):=by
 obtain⟨f,r,F,b,o,m⟩:=D.ex;exact Fy F n l m o b .nil XA i d j g
mutual
def ZF(H:Hp):KT->V->Prop
 | .int i,v=>v=.int i
 | .str x,v=>v=.str x
 | .tup l,v=>∃ a vs,v=.ref a/\H a=some (.tup vs)/\jX H l vs
def jX(H:Hp):jr->jf->Prop
 | [],vs=>vs=[]
 | t::l,vs=>∃ v r,vs=v::r/\ZF H t v/\jX H l r
end
def YO(H c:Hp):Prop:=∀ b a,H b=some (.tup a)->c b=some (.tup a)
mutual
def ZF.mono{H H':Hp}(m:YO H H'):∀(t:KT)(v:V),ZF H t v->ZF H' t v
 | .int _,_,h=>by rw[ZF] at h⊢;exact h
 | .str _,_,h=>by rw[ZF] at h⊢;exact h
 | .tup l,_,h=>by
  rw[ZF] at h⊢;obtain⟨a,vs,e,h1,h2⟩:=h;exact⟨a,vs,e,m a vs h1,jX.mono m l vs h2⟩
def jX.mono{H H':Hp}(m:YO H H'):∀(l:jr)(vs:jf),jX H l vs->jX H' l vs
 | [],_,h=>by rw[jX] at h⊢;exact h
 | t::l,_,h=>by
  rw[jX] at h⊢;obtain⟨v,r,e,h1,h2⟩:=h;exact⟨v,r,e,ZF.mono m t v h1,jX.mono m l r h2⟩
end
def jX.nil{H:Hp}:jX H [] []:=by rw[jX]
def jX.cons{H:Hp}{t:KT}{l:jr}{v:V}{r:jf}(h:ZF H t v)(a:jX H l r):jX H (t::l) (v::r):=by
 rw[jX];exact⟨v,r,rfl,h,a⟩
def ZF.tup{H:Hp}{a:aj}{b:jf}{l:jr}(e:H a=some (.tup b))(h:jX H l b):ZF H (.tup l) (.ref a):=by
 rw[ZF];exact⟨a,b,rfl,e,h⟩
def ZF.int{H:Hp}(i:Int):ZF H (.int i) (.int i):=by rw[ZF]
def ZF.str{H:Hp}(x:Str):ZF H (.str x) (.str x):=by rw[ZF]
def jX.append{H:Hp}:∀{l m:jr}{a b:jf},jX H l a->jX H m b->jX H (l++m) (a++b)
 | [],m,a,b,h,g=>by rw[jX] at h;subst h;exact g
 | t::l,m,a,b,h,g=>by
  rw[jX] at h;obtain⟨v,r,rfl,c,d⟩:=h;exact .cons c (d.append g)
def jX.length{H:Hp}:∀{l:jr}{a:jf},jX H l a->l.length=a.length
 | [],a,h=>by rw[jX] at h;subst h;rfl
 | t::l,a,h=>by
  rw[jX] at h;obtain⟨v,r,rfl,_,b⟩:=h;rw[yY,yY,b.length]
def jX.get{H:Hp}:∀{l:jr}{a:jf}{i:Nat}{v:V},jX H l a->a[i]? = some v->∃ t,l[i]? = some t/\ZF H t v
 | [],a,i,v,h,e=>by rw[jX] at h;subst h;simp at e
 | t::l,a,0,v,h,e=>by
  rw[jX] at h;obtain⟨j,r,rfl,d,_⟩:=h;simp at e;subst e;exact⟨t,rfl,d⟩
 | t::l,a,i+1,v,h,e=>by
  rw[jX] at h;obtain⟨j,r,rfl,_,f⟩:=h;obtain⟨g,b,c⟩:=f.get (i:=i) (by simpa using e)
  exact⟨g,by simpa using b,c⟩
def KT.ty:KT->ai
 | .int _=>.type "int"
 | .str _=>.type "str"
 | .tup _=>.type "tuple"
def ZF.ty{H:Hp}{K:zZ}{t:KT}{v:V}(h:ZF H t v):Y9 K H v t.ty:=by
 cases t with
 | int i=>rw[ZF] at h;subst h;exact .int i
 | str x=>rw[ZF] at h;subst h;exact .str x
 | tup l=>rw[ZF] at h;obtain⟨a,b,rfl,e,_⟩:=h;exact .tup e
def ZI(p:aj)(H a:Hp):Prop:=∀ b o,H b=some o->b≠p->a b=some o
def ZI.refl(p:aj)(H:Hp):ZI p H H:=λ_ _ h _=>h
def ZI.trans{p:aj}{H d e:Hp}(a:ZI p H d)(b:ZI p d e):ZI p H e:=λc o h n=>b c o (a c o h n) n
def ZI.upd{p:aj}{H b:Hp}{o:HO}(a:ZI p H b):ZI p H (L2.upd b p o):=λc u h n=>by rw[ZO n];exact a c u h n
def ZI.of{p:aj}{H b:Hp}(a:ZA H b):ZI p H b:=λc o h _=>a c o h
def ZI.tups{p:aj}{H c:Hp}{d:jf}(a:ZI p H c)(h:H p=some (.lst d)):YO H c:=λb f e=>a b _ e (ZD e h)
def ZA.tups{H c:Hp}(a:ZA H c):YO H c:=λb d e=>a b _ e
def ZF.sm{H a:Hp}{t:KT}{v:V}(h:ZF H t v)(s:ZA H a):ZF a t v:=h.mono (ZA.tups s) _ _
def jX.sm{H a:Hp}{t:jr}{v:jf}(h:jX H t v)(s:ZA H a):jX a t v:=h.mono (ZA.tups s) _ _
def Zg{H:Hp}{p:aj}(h:H p=none)(o:HO):ZA H (L2.upd H p o):=λb u q=>by rw[ZO (Zb q h)];exact q
structure ZM(H:Hp)(p:aj):Prop where
 ex:∃ a b c d:Int,H p=some (.lst [.int a,.int b,.int c,.int d])/\0<=a/\a<2147483647/\0<=c/\0<=d
def ZM.same{H f:Hp}{p:aj}(w:ZM H p)(s:ZA H f):ZM f p:=by
 obtain⟨a,b,c,d,e,r⟩:=w.ex;exact⟨a,b,c,d,s p _ e,r⟩
def ZM.some{H:Hp}{p:aj}(w:ZM H p):∃ f,H p=zJ (.lst f):=by
 obtain⟨a,b,c,d,e,r⟩:=w.ex;exact⟨_,e⟩
def ZI.tupsW{p:aj}{H b:Hp}(a:ZI p H b)(w:ZM H p):YO H b:=by
 obtain⟨c,e⟩:=w.some;exact a.tups e
def G4(m:Int):Prop:=0<m/\m.natAbs.log2<9000
inductive UI(K:zZ)(d:jf)(H:Hp)(Q:VK)(_:XK):Prop
 |mk(a:aj)(c:jC)(k:Int)(_:d=[.ref a,.int k])(_:ZG K H a (c.map V.int))(_:c.length<=63)(_:0<=k)(_:k<=1000)(_:∀(p:aj)(b:Hp),H p=none->ZA H b->ZM b p->Q (.ref p) b)
inductive YR(b:jf)(H:Hp)(Q:VK)(_:XK):Prop
 |mk(p:aj)(m:Int)(_:b=[.ref p,.int m])(_:ZM H p)(_:G4 m)(_:∀(r:Int)(a:Hp),0<=r->r<m->ZM a p->ZI p H a->Q (.int r) a)
inductive XE(n:Nat)(b:jf)(H:Hp)(Q:VK)(_:XK):Prop
 |mk(v:V)(t:KT)(r q:Nat)(_:b=[v,.int (r:Int)])(_:ZF H t v)(_:t.fits q=true)(_:r<n)(_:∀ a,ZA H a->Q (.bl (t.fits r)) a)
inductive Vm(a:jf)(H:Hp)(Q:VK)(_:XK):Prop
 |mk(i:Int)(_:a=[.int i])(_:Q (.bl (decide (i.natAbs<10 ^ 60))) H)
inductive WM(a:jf)(H:Hp)(Q:VK)(_:XK):Prop
 |mk(c:Nat)(_:a=[.str ⟨#[c]⟩])(_:Q (.bl (Qo c)) H)
def nn{n:Nat}(h:n<=1000):n<=sizeLine:=yE (YS h)
def Z7{n:Nat}(h:Nat.ble n 1000=true:=by rfl):n<=sizeLine:=nn (yO h)
def LH{b:Type}{xs:List b}{i:Int}(c:0<=i)(d:i<(xs.length:Int)):∃ v,Xv xs i=some v/\v∈xs:=by
 have a:i.toNat<xs.length:=∅
 have e:i=((i.toNat:Nat):Int):=∅
 rw[e];exact⟨xs[i.toNat],Xg (zV a),xU a⟩
def Vq{m:Int}(a:0<m)(b:m.natAbs<2 ^ 250):G4 m:=by
 exists a;have:m.natAbs.log2<250:=(Nat.log2_lt ∅).mpr b
 lia
def ZKr{i j:Int}(h:V.int i=V.int j):i=j:=by injection h
def Av(c:Nat):((!decide ([c]<[32])) && !decide ([126]<[c]))=Qo c:=by
 unfold Qo;have a:([c]<[32]) ↔ c<32:=by simp[vF]
 have b:([126]<[c]) ↔ 126<c:=by simp[vF]
 rw[wS];simp only[zR,rT,decide_eq_false_iff_not,decide_eq_true_eq,a,b]
 lia
def ZOT(i:Int):decide ((if i<0 then -i else i)<10 ^ (60:Int).toNat)=decide (i.natAbs<10 ^ 60):=by
 have e:((10:Int) ^ (60:Int).toNat)=((10 ^ 60:Nat):Int):=by decide +kernel
 rw[e];generalize (10 ^ 60:Nat)=N;apply decide_eq_decide.mpr;split <;> lia
end Tw
namespace Tw
open PySem
def Gv:∀(l m:jq),l<m->¬ m<l
 | [],[],h,_=>absurd h (vL _)
 | [],_::_,_,h=>absurd h (vL _)
 | _::_,[],h,_=>absurd h (vL _)
 | a::l,b::m,h,c=>by
  rw[vF] at h c;rcases h with h | ⟨rfl,h⟩
  ·rcases c with c | ⟨rfl,c⟩
   ·lia
   ·lia
  ·rcases c with c | ⟨_,c⟩
   ·lia
   ·exact Gv l m h c
def Ip:∀(l m:jq),¬ l<m->¬ m<l->l=m
 | [],[],_,_=>rfl
 | [],_::_,h,_=>absurd (rX _ _) h
 | _::_,[],_,h=>absurd (rX _ _) h
 | a::l,b::m,h,h'=>by
  rw[vF] at h h';have e:a=b:=by
   rcases Nat.lt_trichotomy a b with c | c | c
   ·exact absurd (.inl c) h
   ·exact c
   ·exact absurd (.inl c) h'
  subst e;rw[Ip l m (λz=>h (.inr ⟨rfl,z⟩)) λz=>h' (.inr ⟨rfl,z⟩)]
def FJ:∀(l m k:jq),l<m->m<k->l<k
 | _,_,[],_,h=>absurd h (vL _)
 | [],_,_::_,_,_=>rX _ _
 | _::_,[],_,h,_=>absurd h (vL _)
 | a::l,b::m,c::k,h,d=>by
  rw[vF] at h d⊢;rcases h with h | ⟨rfl,h⟩
  ·rcases d with d | ⟨rfl,d⟩
   ·exact .inl (Nat.lt_trans h d)
   ·exact .inl h
  ·rcases d with d | ⟨rfl,d⟩
   ·exact .inl d
   ·exact .inr ⟨rfl,FJ l m k h d⟩
def eqb_comm'(a b:KT):a.eqb b=b.eqb a:=by
 rw[wS,Y3,Y3];exact eq_comm
mutual
def Nr:∀(a b:KT),a.lt b=true->b.lt a=false
 | .int i,.int j,h=>by rw[KT.lt] at h⊢;have:=of_decide_eq_true h;exact aM ∅
 | .int _,.str _,_=>by rw[KT.lt]
 | .int _,.tup _,_=>by rw[KT.lt]
 | .str _,.int _,h=>by rw[KT.lt] at h;cases h
 | .str x,.str y,h=>by rw[KT.lt] at h⊢;exact aM (Gv _ _ (of_decide_eq_true h))
 | .str _,.tup _,_=>by rw[KT.lt]
 | .tup _,.int _,h=>by rw[KT.lt] at h;cases h
 | .tup _,.str _,h=>by rw[KT.lt] at h;cases h
 | .tup l,.tup m,h=>by rw[KT.lt] at h⊢;exact ltL_asym l m h
def ltL_asym:∀(l m:jr),ltL l m=true->ltL m l=false
 | [],[],h=>by rw[ltL] at h;cases h
 | [],_::_,_=>by rw[ltL]
 | _::_,[],h=>by rw[ltL] at h;cases h
 | a::l,b::m,h=>by
  rw[ltL] at h⊢;rw[eqb_comm' b a]
  cases e:a.eqb b with
  | true=>rw[e,aQ rfl] at h;rw[aQ rfl];exact ltL_asym l m h
  | false=>rw[e,aP zT] at h;rw[aP zT];exact Nr a b h
end
mutual
def Ff:∀(a b:KT),a.lt b=false->b.lt a=false->a=b
 | .int i,.int j,h,h'=>by rw[KT.lt] at h h';have:=of_decide_eq_false h;have:=of_decide_eq_false h';rw[show i=j by lia]
 | .int _,.str _,h,_=>by rw[KT.lt] at h;cases h
 | .int _,.tup _,h,_=>by rw[KT.lt] at h;cases h
 | .str _,.int _,_,h=>by rw[KT.lt] at h;cases h
 | .str x,.str y,h,h'=>by
  rw[KT.lt] at h h';have e:=Ip _ _ (of_decide_eq_false h) (of_decide_eq_false h');obtain⟨⟨x⟩⟩:=x;obtain⟨⟨y⟩⟩:=y;dsimp only at e;rw[e]
 | .str _,.tup _,h,_=>by rw[KT.lt] at h;cases h
 | .tup _,.int _,_,h=>by rw[KT.lt] at h;cases h
 | .tup _,.str _,_,h=>by rw[KT.lt] at h;cases h
 | .tup l,.tup m,h,h'=>by rw[KT.lt] at h h';rw[ltL_total l m h h']
def ltL_total:∀(l m:jr),ltL l m=false->ltL m l=false->l=m
 | [],[],_,_=>rfl
 | [],_::_,h,_=>by rw[ltL] at h;cases h
 | _::_,[],_,h=>by rw[ltL] at h;cases h
 | a::l,b::m,h,h'=>by
  rw[ltL] at h h';rw[eqb_comm' b a] at h'
  cases e:a.eqb b with
  | true=>rw[e,aQ rfl] at h h';rw[Y3.mp e,ltL_total l m h h']
  | false=>
   rw[e,aP zT] at h h';have:=Ff a b h h';rw[this,N9] at e;cases e
end
def M4(a:KT):a.lt a=false:=by
 cases h:a.lt a with
 | false=>rfl
 | true=>have:=Nr a a h;rw[h] at this;cases this
mutual
def lt_trans':∀(a b c:KT),a.lt b=true->b.lt c=true->a.lt c=true
 | .int i,.int j,.int k,h,h'=>by rw[KT.lt] at h h'⊢;have:=of_decide_eq_true h;have:=of_decide_eq_true h';exact aO ∅
 | .int _,_,.str _,_,_=>by rw[KT.lt]
 | .int _,_,.tup _,_,_=>by rw[KT.lt]
 | .str _,_,.tup _,_,_=>by rw[KT.lt]
 | .int _,.str _,.int _,_,h=>by rw[KT.lt] at h;cases h
 | .int _,.tup _,.int _,_,h=>by rw[KT.lt] at h;cases h
 | .str _,.int _,_,h,_=>by rw[KT.lt] at h;cases h
 | .str x,.str y,.str z,h,h'=>by rw[KT.lt] at h h'⊢;exact aO (FJ _ _ _ (of_decide_eq_true h) (of_decide_eq_true h'))
 | .str _,.str _,.int _,_,h=>by rw[KT.lt] at h;cases h
 | .str _,.tup _,.str _,_,h=>by rw[KT.lt] at h;cases h
 | .str _,.tup _,.int _,_,h=>by rw[KT.lt] at h;cases h
 | .tup _,.int _,_,h,_=>by rw[KT.lt] at h;cases h
 | .tup _,.str _,_,h,_=>by rw[KT.lt] at h;cases h
 | .tup l,.tup m,.tup k,h,h'=>by rw[KT.lt] at h h'⊢;exact ltL_trans l m k h h'
 | .tup _,.tup _,.int _,_,h=>by rw[KT.lt] at h;cases h
 | .tup _,.tup _,.str _,_,h=>by rw[KT.lt] at h;cases h
def ltL_trans:∀(l m k:jr),ltL l m=true->ltL m k=true->ltL l k=true
 | _,[],[],_,h=>by rw[ltL] at h;cases h
 | _,_::_,[],_,h=>by rw[ltL] at h;cases h
 | [],_,_::_,_,_=>by rw[ltL]
 | _::_,[],_::_,h,_=>by rw[ltL] at h;cases h
 | a::l,b::m,c::k,h,h'=>by
  rw[ltL] at h h'⊢
  cases e:a.eqb b with
  | true=>
   rw[e,aQ rfl] at h;have ab:=Y3.mp e;subst ab
   cases e2:a.eqb c with
   | true=>rw[e2,aQ rfl] at h';rw[aQ rfl];exact ltL_trans l m k h h'
   | false=>rw[e2,aP zT] at h';rw[aP zT];exact h'
  | false=>
   rw[e,aP zT] at h
   cases e2:b.eqb c with
   | true=>
    have bc:=Y3.mp e2;subst bc;rw[e,aP zT];exact h
   | false=>
    rw[e2,aP zT] at h';have ac:=lt_trans' a b c h h'
    cases e3:a.eqb c with
    | true=>
     have:=Y3.mp e3;subst this;rw[M4] at ac;cases ac
    | false=>rw[aP zT];exact ac
end
def le_trans'{a b c:KT}(f:b.lt a=false)(d:c.lt b=false):c.lt a=false:=by
 cases h:c.lt a with
 | false=>rfl
 | true=>
  cases e:a.lt b with
  | true=>rw[lt_trans' c a b h e] at d;cases d
  | false=>rw[Ff a b e f,d] at h;cases h
end Tw
namespace Tw
open PySem PySem.Spec L2 PyProof.Rows
mutual
def Za(h:aD):KT->ai->Prop
 | .int i,v=>∃ t,v=.int i t
 | .str x,v=>∃ t,v=.str x t
 | .tup l,v=>∃(a:aj)(its:je),v=.ref a/\IsTup h a its.toArray/\jY h l its
def jY(h:aD):jr->je->Prop
 | [],vs=>vs=[]
 | t::l,vs=>∃ v r,vs=v::r/\Za h t v/\jY h l r
end
section
variable{kh:jv}{σ:L2.St}{H:Hp}
mutual
def LM(I:ZE X kh σ H s):∀(t:KT)(x:V)(v:ai),ZF H t x->ZW x v->Za s.heap t v
 | .int i,x,v,h,r=>by
  rw[ZF] at h;subst h;rw[Za];exact r
 | .str y,x,v,h,r=>by
  rw[ZF] at h;subst h;rw[Za];exact r
 | .tup l,x,v,h,r=>by
  rw[ZF] at h;obtain⟨a,vs,rfl,e,hk⟩:=h;obtain⟨its,rv,pl,_⟩:=I.tuple (Zh.of e);rw[Za];exact⟨a,its,r,pl,kvals_of I l vs its hk rv⟩
def kvals_of(I:ZE X kh σ H s):∀(l:jr)(vs:jf)(us:je),jX H l vs->ZT vs us->jY s.heap l us
 | [],vs,us,h,r=>by
  rw[jX] at h;subst h;rw[jY];cases r;rfl
 | t::l,vs,us,h,r=>by
  rw[jX] at h;obtain⟨v,q,rfl,h1,h2⟩:=h
  cases r with
  | cons r1 r2=>
   rw[jY];exact⟨_,_,rfl,LM I t v _ h1 r1,kvals_of I l q _ h2 r2⟩
end
end
def DZ{h:aD}{a:aj}{c b:je}(x:IsTup h a c.toArray)(y:IsTup h a b.toArray):c=b:=by
 obtain⟨o,e,_,n,d⟩:=x;obtain⟨j,g,_,i,f⟩:=y;rw[e] at g;cases g;rw[d] at f;injection f with d1 _;simpa using congrArg tQ d1
mutual
def Za.inj{h:aD}:∀(a b:KT)(v:ai),Za h a v->Za h b v->a.eqb b=true
 | .int i,b,v,x,y=>by
  rw[Za] at x;obtain⟨t,rfl⟩:=x
  cases b with
  | int j=>rw[Za] at y;obtain⟨u,e⟩:=y;injection e with e _;rw[KT.eqb,e];exact beq_self_eq_true j
  | str z=>rw[Za] at y;obtain⟨u,e⟩:=y;cases e
  | tup m=>rw[Za] at y;obtain⟨_,_,e,_⟩:=y;cases e
 | .str w,b,v,x,y=>by
  rw[Za] at x;obtain⟨t,rfl⟩:=x
  cases b with
  | int j=>rw[Za] at y;obtain⟨u,e⟩:=y;cases e
  | str z=>rw[Za] at y;obtain⟨u,e⟩:=y;injection e with e _;rw[KT.eqb,e];exact beq_self_eq_true z
  | tup m=>rw[Za] at y;obtain⟨_,_,e,_⟩:=y;cases e
 | .tup l,b,v,x,y=>by
  rw[Za] at x;obtain⟨p,its,rfl,px,kx⟩:=x
  cases b with
  | int j=>rw[Za] at y;obtain⟨u,e⟩:=y;cases e
  | str z=>rw[Za] at y;obtain⟨u,e⟩:=y;cases e
  | tup m=>
   rw[Za] at y;obtain⟨q,its',e,py,ky⟩:=y;cases e;cases DZ px py;rw[KT.eqb];exact jY.inj l m its kx ky
def jY.inj{h:aD}:∀(l m:jr)(us:je),jY h l us->jY h m us->jZ l m=true
 | [],m,us,x,y=>by
  rw[jY] at x;subst x
  cases m with
  | nil=>rw[jZ]
  | cons b m=>rw[jY] at y;obtain⟨_,_,e,_⟩:=y;cases e
 | a::l,m,us,x,y=>by
  rw[jY] at x;obtain⟨v,r,rfl,x1,x2⟩:=x
  cases m with
  | nil=>rw[jY] at y;cases y
  | cons b m=>
   rw[jY] at y;obtain⟨v',r',e,y1,y2⟩:=y;injection e with e1 e2;subst e1 e2;rw[jZ,Za.inj a b v x1 y1,jY.inj l m r x2 y2];rfl
end
def jY.length{h:aD}:∀{l:jr}{b:je},jY h l b->l.length=b.length
 | [],b,x=>by rw[jY] at x;subst x;rfl
 | a::l,b,x=>by
  rw[jY] at x;obtain⟨v,r,rfl,_,c⟩:=x;rw[yY,yY,c.length]
def jY.get{h:aD}:∀{l:jr}{b:je}{j:Nat}{u:ai},jY h l b->b[j]? = some u->∃ t,l[j]? = some t/\Za h t u
 | [],b,j,u,x,e=>by rw[jY] at x;subst x;simp at e
 | a::l,b,0,u,x,e=>by
  rw[jY] at x;obtain⟨v,r,rfl,f,_⟩:=x;simp at e;subst e;exact⟨a,rfl,f⟩
 | a::l,b,j+1,u,x,e=>by
  rw[jY] at x;obtain⟨v,r,rfl,_,g⟩:=x;obtain⟨t,c,d⟩:=g.get (j:=j) (by simpa using e)
  exact⟨t,by simpa using c,d⟩
def NR:∀{l:jr}{t:KT},t∈l->t.depth<=ke l
 | [],_,h=>by cases h
 | u::l,t,h=>by
  rw[ke];rcases zG.mp h with e | h
  ·subst e;lia
  ·have:=NR h;lia
def Hh:∀(l m:jr),((zQ (min l.length m.length)).all (λj=>(l.getD j (.int 0)).eqb (m.getD j (.int 0)))&&l.length==m.length)=jZ l m
 | [],[]=>by simp[jZ]
 | [],_::_=>by simp[jZ]
 | _::_,[]=>by simp[jZ]
 | a::l,b::m=>by
  have c:=Hh l m;have e:min (a::l).length (b::m).length=min l.length m.length+1:=by simp only[yY];lia
  rw[e,List.range_succ_eq_map,vO,xT,jZ,<-c,Bool.and_assoc];simp[Function.comp_def]
def IK{s:al}:∀(n:Nat)(a b:KT)(A:ax)(v u:ai),a.depth<=n->Za s.heap a v->Za s.heap b u->A.units+a.depth<cLine->SeqAt.EqAt A s v u (a.eqb b)
 | n,.int i,b,A,v,u,_,x,y,o=>by
  rw[Za] at x;obtain⟨t,rfl⟩:=x;have d:A.units<cLine:=∅
  cases b with
  | int j=>rw[Za] at y;obtain⟨g,rfl⟩:=y;rw[KT.eqb];exact SeqAt.EqAt.int_int i t j g
  | str z=>rw[Za] at y;obtain⟨g,rfl⟩:=y;rw[show (KT.int i).eqb (.str z)=false by simp[KT.eqb]];exact SeqAt.EqAt.int_str i t z g
  | tup m=>rw[Za] at y;obtain⟨p,f,rfl,k,_⟩:=y;rw[show (KT.int i).eqb (.tup m)=false by simp[KT.eqb]];exact SeqAt.EqAt.int_tuple i t k d
 | n,.str w,b,A,v,u,_,x,y,o=>by
  rw[Za] at x;obtain⟨t,rfl⟩:=x;have d:A.units<cLine:=∅
  cases b with
  | int j=>rw[Za] at y;obtain⟨g,rfl⟩:=y;rw[show (KT.str w).eqb (.int j)=false by simp[KT.eqb]];exact SeqAt.EqAt.str_int w t j g
  | str z=>rw[Za] at y;obtain⟨g,rfl⟩:=y;rw[KT.eqb];exact SeqAt.EqAt.str_str w t z g
  | tup m=>rw[Za] at y;obtain⟨p,f,rfl,k,_⟩:=y;rw[show (KT.str w).eqb (.tup m)=false by simp[KT.eqb]];exact SeqAt.EqAt.str_tuple w t k d
 | 0,.tup l,b,A,v,u,C,x,y,o=>by
  rw[KT.depth] at C
  lia
 | n+1,.tup l,b,A,v,u,C,x,y,o=>by
  have U:=x;rw[Za] at x;obtain⟨p,f,rfl,D,G⟩:=x;rw[KT.depth] at C o;have d:A.units<cLine:=∅
  cases b with
  | int j=>rw[Za] at y;obtain⟨g,rfl⟩:=y;rw[show (KT.tup l).eqb (.int j)=false by simp[KT.eqb]];exact SeqAt.EqAt.tuple_int j g D d
  | str z=>rw[Za] at y;obtain⟨g,rfl⟩:=y;rw[show (KT.tup l).eqb (.str z)=false by simp[KT.eqb]];exact SeqAt.EqAt.tuple_str z g D d
  | tup m=>
   have V:=y;rw[Za] at y;obtain⟨q,c,rfl,k,H⟩:=y;by_cases h:p=q
   ·subst h;rw[Za.inj _ _ _ U V];exact SeqAt.EqAt.same _
   ·have S:=G.length;have T:=H.length;have I:=SeqAt.RcAt.tuples (A:=A) (s:=s) (e:=λj=>(l.getD j (.int 0)).eqb (m.getD j (.int 0))) D k d (λj O P=>by
     have r:j<f.length:=by simpa using O
     have B:j<c.length:=by simpa using P
     obtain⟨E,F,Q⟩:=G.get (j:=j) (u:=f[j]) (by simp[r])
     obtain⟨J,K,R⟩:=H.get (j:=j) (u:=c[j]) (by simp[B])
     have W:=NR (zB F);have M:l.getD j (.int 0)=E:=by rw[zW,F];rfl
     have N:m.getD j (.int 0)=J:=by rw[zW,K];rfl
     have:=IK n E J A.in1 f[j] c[j] ∅ Q R (by show A.units+1+E.depth<cLine;lia)
     show SeqAt.EqAt A.in1 s _ _ ((l.getD j (.int 0)).eqb (m.getD j (.int 0)));rw[M,N];simpa using this)
    have L:((zQ (min f.toArray.size c.toArray.size)).all (λj=>(l.getD j (.int 0)).eqb (m.getD j (.int 0)))&&f.toArray.size==c.toArray.size)=(KT.tup l).eqb (.tup m):=by
     rw[zK,zK,<-S,<-T,KT.eqb];exact Hh l m
    rw[L] at I;exact .of_refs h I
def Yy(o:Bool)(a b:KT):Bool:=bif o then !b.plt a else a.plt b
def Q6(o:Bool)(l m:jr):Bool:=bif o then !pltL m l else pltL l m
def ZKX{o:Bool}{a c:KT}{l m:jr}:Q6 o (a::l) (c::m)=if a.eqb c=true then Q6 o l m else Yy o a c:=by
 unfold Q6 Yy;rw[pltL,pltL,eqb_comm' c a];cases o <;> cases a.eqb c <;> rfl
def ZNQ{o:Bool}{l m:jr}{i j:Nat}(h:l=[]\/m=[])(e:l.length+j=m.length+i):Q6 o l m=bif o then decide (i<=j) else decide (i<j):=by
 rcases h with rfl | rfl
 ·cases m <;> cases o <;> simp[Q6,pltL] at e⊢ <;> lia
 ·cases l <;> cases o <;> simp[Q6,pltL] at e⊢ <;> lia
def LE(o:Bool)(A:ax)(s:al)(v u:ai)(b:Bool):Prop:=
 ∀(a:am)(w:aw)(E:ja)(Q:ja),Q (.bool b) s->aB (aA a w) A (richCompare (bif o then .LtE else .Lt) v u) Q E s
section
open PySem.SeqAt
open PySem.AutoSeq1 (wpAny_loadPart')
open PySem.MeetsSeq PySem.MeetsSeq2 PySem.MeetsSeq3
inductive GB(c:aD)(d:jr)(n m:Nat)(G:jr->jr->Prop)(rest:List (ai×ai)):Prop
 |mk(e f:je)(a b:jr):rest=e.zip f->jY c a e->jY c b f->(∀ x∈a,x∈d)->cmpL a b=true->a.length+m=b.length+n->G a b->GB c d n m G rest
def ZD2(o:Bool)(l b:aj)(f e:jx)(n n2:Nat)(Z K:jz)(sl O:Array (jd))(D J:jr):
  Meets ((bif o then Builtin.«tuple.__le__» else Builtin.«tuple.__lt__») ⟨[.ref l,.ref b],[]⟩)
   (λA R s=>s.heap.get? l=some { cls:=.type "tuple",dict:=Z,data:=.seq f n,slots:=sl }/\s.heap.get? b=some { cls:=.type "tuple",dict:=K,data:=.seq e n2,slots:=O } /\
    jY s.heap D f.toList/\jY s.heap J e.toList/\cmpL D J=true /\
    (∀ x y v u,x∈D->Za s.heap x v->Za s.heap y u->EqAt A.in1 s v u (x.eqb y))/\(∀ x y v u,x∈D->Za s.heap x v->Za s.heap y u->x.cmp y=true->LE o A.in1 s v u (Yy o x y)) /\
    R (.ok (.ret (.bool (Q6 o D J)))) s):=by
 have P:=@ZKX o;have Q:=@ZNQ o;generalize Q6 o=F at P Q⊢;cases o
 all_goals
  dsimp only[cond_true,cond_false];refine .of_wp λC w A R s h=>?_;obtain⟨L,g,d,Y,X⟩:=s;obtain⟨hl,hb,S,T,hc,hE,hL,h⟩:=h;have f2:=AutoSeq1.sub_tuple_tuple;have z1:f.size=D.length:=by rw[S.length];simp
  have z2:e.size=J.length:=by rw[T.length];simp
  wp_walk using wpAny_loadPart' hl,wpAny_loadPart' hb,wpAny_forIn_list _ (λrest b N=>b.1=none/\N=⟨L,g,d,Y,X⟩/\GB L D f.size e.size (λa b=>R (.ok (.ret (.bool (F a b)))) ⟨L,g,d,Y,X⟩) rest) _
  case turn=>
   rintro⟨y,x⟩ rest b N ⟨E,rfl,vs,ws,q,r,p,i,j,t,k,m,B⟩
   cases q with
   | nil=>rw[jY] at i;subst i;rw[List.zip_nil_left] at p;cases p
   | cons a q=>
    cases r with
    | nil=>rw[jY] at j;subst j;rw[List.zip_nil_right] at p;cases p
    | cons c r=>
     rw[jY] at i j;obtain⟨v,vr,rfl,V,H⟩:=i;obtain⟨u,ur,rfl,W,I⟩:=j;rw[List.zip_cons_cons] at p;injection p with hyx hrest;injection hyx with hy M;subst hy M;rw[P] at B;rw[cmpL] at k;simp only[yY] at m;have he:=hE a c y x (t a zM) V W;refine aa (he C w _ _ ?_)
     cases U:a.eqb c with
     | true=>
      rw[U,aQ rfl] at B k
      wp_walk
      exact⟨rfl,rfl,_,_,_,_,hrest,H,I,λz p=>t z (zH _ p),k,∅,B⟩
     | false=>
      rw[U,aP zT] at B k;have G:=hL a c y x (t a zM) V W k C w;dsimp only[cond_true,cond_false] at G
      wp_walk using G
      exact⟨_,rfl,by simpa using B⟩
  case fin=>
   rintro⟨b1,b2⟩ N ⟨E,rfl,vs,ws,q,r,p,i,j,t,k,m,B⟩;simp only at E;subst E;rw[Q (by
    cases q with
    | nil=>exact .inl rfl
    | cons a q=>
     cases r with
     | nil=>exact .inr rfl
     | cons c r=>
      rw[jY] at i j;obtain⟨v,vr,rfl,_,_⟩:=i;obtain⟨u,ur,rfl,_,_⟩:=j;rw[List.zip_cons_cons] at p;cases p) m] at B
   wp_walk
   exact⟨_,rfl,by simpa [Builtin.Tuple.tupleCompareSizes] using B⟩
  case h=>
   exact⟨rfl,rfl,f.toList,e.toList,D,J,rfl,S,T,λ_ M=>M,hc,∅,h⟩
end
def G8(o:Bool){s:al}:∀(n:Nat)(a b:KT)(A:ax)(v u:ai),a.depth<=n->Za s.heap a v->Za s.heap b u->a.cmp b=true->A.units+a.depth<cLine->LE o A s v u (Yy o a b)
 | n,.int i,b,A,v,u,_,x,y,d,H=>by
  rw[Za] at x;obtain⟨t,rfl⟩:=x
  cases b with
  | int j=>
   rw[Za] at y;obtain⟨D,rfl⟩:=y;unfold Yy;rw[KT.plt,KT.plt];intro c w E Q h;cases o
   ·exact HT.rcLt_int A s i t j D c w E Q h
   ·exact(le_int (by rw[show decide (i<=j) = !decide (j<i) by by_cases z:j<i <;> simp[z] <;> lia];exact h):aB (aA c w) A (az .LtE (.int i t) (.int j D)) Q E s)
  | str z=>simp[KT.cmp] at d
  | tup m=>simp[KT.cmp] at d
 | n,.str w,b,A,v,u,_,x,y,d,H=>by
  rw[Za] at x;obtain⟨t,rfl⟩:=x
  cases b with
  | int j=>simp[KT.cmp] at d
  | str z=>
   rw[Za] at y;obtain⟨D,rfl⟩:=y;unfold Yy;rw[KT.plt,KT.plt];intro c w' E Q h;cases o
   ·exact(lt_str h:aB (aA c w') A (az .Lt (.str w t) (.str z D)) Q E s)
   ·exact(PySem.P.le_str h:aB (aA c w') A (az .LtE (.str w t) (.str z D)) Q E s)
  | tup m=>simp[KT.cmp] at d
 | 0,.tup l,b,A,v,u,K,x,y,d,H=>by
  rw[KT.depth] at K
  lia
 | n+1,.tup l,b,A,v,u,K,x,y,d,H=>by
  rw[Za] at x;obtain⟨p,M,rfl,px,Z⟩:=x;rw[KT.depth] at K H;have B:A.units<cLine:=∅
  cases b with
  | int j=>simp[KT.cmp] at d
  | str z=>simp[KT.cmp] at d
  | tup m=>
   rw[Za] at y;obtain⟨q,C,rfl,py,ky⟩:=y;rw[KT.cmp] at d;have e:Yy o (.tup l) (.tup m)=Q6 o l m:=by
    unfold Yy Q6;rw[KT.plt,KT.plt]
   rw[e];intro c w E Q h;obtain⟨⟨cls,dd,data,sl⟩,G,k,R,Y⟩:=id px;obtain⟨⟨V,J,I,U⟩,f,g,S,r⟩:=id py;simp only at k Y g r;subst k Y g r;have W:∀ x y v u,x∈l->Za s.heap x v->Za s.heap y u->SeqAt.EqAt A.in1 s v u (x.eqb y):=λx y v u L N O=>by
    have d1:=NR L;exact IK x.depth x y A.in1 v u (zY _) N O (by show A.units+1+x.depth<cLine;lia)
   have X:∀ x y v u,x∈l->Za s.heap x v->Za s.heap y u->x.cmp y=true->LE o A.in1 s v u (Yy o x y):=λx y v u L N O k3=>by
    have d1:=NR L;exact G8 o n x y A.in1 v u ∅ N O k3 (by show A.units+1+x.depth<cLine;lia)
   have T:=ZD2 o p q M.toArray C.toArray R S dd J sl U l m;cases o
   ·exact richCompare_meets_room (op:=.Lt) ⟨_,G,rfl⟩ ⟨_,f,rfl⟩ PySem.F.slot_tuple_lt PySem.F.entry_tuple_lt (PySem.F.args_tuple_lt_2 _ _) T ⟨G,f,Z,ky,d,W,X,(λx=>nomatch x),h⟩ B
   ·exact richCompare_meets_room (op:=.LtE) ⟨_,G,rfl⟩ ⟨_,f,rfl⟩ PySem.F.slot_tuple_le PySem.F.entry_tuple_le (PySem.F.args_tuple_le_2 _ _) T ⟨G,f,Z,ky,d,W,X,(λx=>nomatch x),h⟩ B
def Io{s:al}(n:Nat)(a b:KT)(A:ax)(v u:ai):a.depth<=n->Za s.heap a v->Za s.heap b u->a.cmp b=true->A.units+a.depth<cLine->LE false A s v u (a.plt b):=G8 false n a b A v u
def ZZ.key{k:Nat}{A:ax}(r:ZZ k A){n:Nat}(h:n<=200):A.units+n<cLine:=by have:=r.un;lia
inductive IL(x y:V)(H:Hp)(Q:VK):Prop
 |mk(a b:_)(_:ZF H a x)(_:ZF H b y)(_:a.cmp b=true)(_:a.depth<=200)(_:Q (.bl (a.plt b)) H)
def HY{k:Nat}(i:ZZ k X.A):Yu X (az .Lt) IL:=by
 intro c s m H x y v u Q I j l h;obtain⟨a,b,d,e,f,g,q⟩:=h;exact Io a.depth a b X.A v u (zY _) (LM I a x v d j) (LM I b y u e l) f (ZZ.key i g) X.prog X.w X.xe _ ⟨.bl _,H,I,rfl,q⟩
end Tw
namespace L2
open PySem PySem.Spec PyProof.Rows
def ZE.big{a:jv}{b:St}{H:Hp}{s:al}(I:ZE X a b H s):sysModules<s.heap.objs.size:=by
 have h:ap<s.heap.objs.size:=(I.mod.glob.keeps I.bk).lt;exact Nat.lt_trans (by decide) h
def FM{P:am}{w:aw}{H:Hp}(h:aD)(a:sysModules<h.objs.size):Zd P w H (h.push { cls:=.type "dict",data:=.dict #[] }) h.objs.size (.dK []):=
 ⟨yX _,beq_eq_false_iff_ne.mpr (Ne.symm (zL a)),[],.nil,Heap.DictOf.new h⟩
def ZOq:TE:=λ_ H Q=>∀ p,H p=none->Q (.ref p) (upd H p (.dK []))
def J0{b:aK}:PE X (.Dict [] [] b) ZOq:=λc s d H Q I h=>
 wpAny_Dict_empty ⟨.ref s.heap.objs.size,_,I.laid (a:=s.heap.objs.size) (o:=.dK []) (t':=s.toks) (λ_ _ q=>zS _ q) (zY _) (FM s.heap I.big),rfl,h _ (I.hok.fresh (zY _))⟩
def cV:V->ai
 | .ty n=>.type n
 | .ref a=>.ref a
 | _=>.none
def GU:V->Bool
 | .ty _=>true
 | .ref _=>true
 | _=>false
def ZPC{c:V}{u:ai}(r:ZW c u)(h:GU c=true):u=cV c:=by
 cases c with
 | ty n=>exact r
 | ref a=>exact r
 | _=>cases h
def NK{K:zZ}{b:aD}{v:jc}{x:Str}{C:aj}{d:je}{a:String}(c:K.In b)(E:v x=some (.ref C))(q:wJ K C d a=true):OwnCls x C d a v b:=by
 exists E;unfold wJ at q;split at q
 ·rename_i B k y G
  split at q
  ·rename_i R A p r s t n u m o
   rw[zR,zR,zR,zR,zR] at q;obtain⟨⟨⟨⟨⟨J,L⟩,M⟩,N⟩,i⟩,O⟩:=q;cases eq_of_beq J;cases eq_of_beq L;have e:k.hasDel=false:=by simpa using M
   have f:=eq_of_beq O;obtain⟨I,bs,H,w,P,F,Q,j,z,g,D⟩:=k;dsimp only at m e i f;subst m e;have h:y=#[p,r,s,t,some (.builtin a),u]:=by
    obtain⟨l⟩:=y;simp only at o;rw[o]
   subst h;exists A,w,I,P,bs,F,Q,j,z,g,B,p,r,s,t,u,b.nsMap w,c _ _ G;exact⟨.of_isNs (PySem.W.isNs_of_in c i),PySem.W.nsMap_none_of_in c i f,rN c N⟩
  ·cases q
 ·cases q
def MD{P:am}{w:aw}{K:zZ}{h:jc}{d:aD}{g:Ws}{N:ju}{c:Str}{a:aE}{f:aj}{e:ai}{A:ax}{b:jB}{s:al}{H:Hp}{E:XK}:
  PassesOwn (aA (Wt g P w K h d N c a f e A b s H E).prog (Wt g P w K h d N c a f e A b s H E).w) (Wt g P w K h d N c a f e A b s H E).A (Wt g P w K h d N c a f e A b s H E).env (Wt g P w K h d N c a f e A b s H E).xe:=by
 show PassesOwn (aA P w) (A.deeper (envOfC c a s.heap.objs.size f e)) (envOfC c a s.heap.objs.size f e) _
 passes_own
def Pf:Expr->Bool
 | .Starred _ _=>false
 | _=>true
def Wf{e:Expr}{b:jA}{a:Env}(h:Pf e=true):ar (e::b) a=(false,aI e a)::ar b a:=by
 cases e <;> first | rfl | cases h
def Ut{X:Cx}{e:Expr}{a:jA}{b:TE}{t:TA}(c:PE X e b)(d:PA X a t)(h:Pf e=true:=by rfl):PA X (e::a) (Xe b t):=Zi c d (Wf h)
def ZY{X:Cx}{e:Expr}{a:TE}(b:PE X e a)(h:Pf e=true:=by rfl):PA X [e] (Xe a V3):=Zi b Zt (Wf h)
def Zf{X:Cx}{e d:Expr}{b a:TE}(f:PE X e b)(g:PE X d a)(h:Pf e=true:=by rfl)(c:Pf d=true:=by rfl):PA X [e,d] (Xe b (Xe a V3)):=Zi f (ZY g c) (Wf h)
def MJ{X:Cx}{a b c:Expr}{d e f:TE}(g:PE X a d)(i:PE X b e)(j:PE X c f)(h:[a,b,c].all Pf=true:=by rfl):PA X [a,b,c] (Xe d (Xe e (Xe f V3))):=
 (Zi g (Zi i (Zi j Zt (Wf (zO.mp h c (by simp)))) (Wf (zO.mp h b (by simp)))) (Wf (zO.mp h a (by simp))))
def Pm{X:Cx}{a b c d:Expr}{e f g i:TE}(j:PE X a e)(k:PE X b f)(l:PE X c g)(m:PE X d i)(h:[a,b,c,d].all Pf=true:=by rfl):PA X [a,b,c,d] (Xe e (Xe f (Xe g (Xe i V3)))):=
 (Zi j (Zi k (Zi l (Zi m Zt (Wf (zO.mp h d (by simp)))) (Wf (zO.mp h c (by simp)))) (Wf (zO.mp h b (by simp)))) (Wf (zO.mp h a (by simp))))
def GD{X:Cx}{a b c d e:Expr}{f g i j k:TE}(l:PE X a f)(m:PE X b g)(n:PE X c i)(o:PE X d j)(p:PE X e k)(h:[a,b,c,d,e].all Pf=true:=by rfl):PA X [a,b,c,d,e] (Xe f (Xe g (Xe i (Xe j (Xe k V3))))):=
 (Zi l (Zi m (Zi n (Zi o (Zi p Zt (Wf (zO.mp h e (by simp)))) (Wf (zO.mp h d (by simp)))) (Wf (zO.mp h c (by simp)))) (Wf (zO.mp h b (by simp)))) (Wf (zO.mp h a (by simp))))
def pa6{X:Cx}{a b c d e f:Expr}{g i j k l m:TE}(n:PE X a g)(o:PE X b i)(p:PE X c j)(q:PE X d k)(r:PE X e l)(s:PE X f m)(h:[a,b,c,d,e,f].all Pf=true:=by rfl):PA X [a,b,c,d,e,f] (Xe g (Xe i (Xe j (Xe k (Xe l (Xe m V3)))))):=
 (Zi n (Zi o (Zi p (Zi q (Zi r (Zi s Zt (Wf (zO.mp h f (by simp)))) (Wf (zO.mp h e (by simp)))) (Wf (zO.mp h d (by simp)))) (Wf (zO.mp h c (by simp)))) (Wf (zO.mp h b (by simp)))) (Wf (zO.mp h a (by simp))))
end L2
namespace Tw
open PySem PySem.Spec L2
def E2(N:aj->Prop)(H:Hp)(n:String)(v:V):Prop:=
 (n = "bool" /\ ∃ b,v=.bl b)\/(n = "NoneType" /\ v=.non)\/(n = "list" /\ ∃ a d,v=.ref a/\H a=some (.lst d)/\¬ N a)\/(n = "dict" /\ ∃ a c,v=.ref a/\H a=some (.dK c)/\¬ N a)
mutual
def Yz(N:aj->Prop)(H:Hp):TG->V->Prop
 | .int i,v=>v=.int i
 | .str x,v=>v=.str x
 | .tup l,v=>∃ a vs,v=.ref a/\H a=some (.tup vs)/\kf N H l vs
 | .odd n,v=>E2 N H n v
def kf(N:aj->Prop)(H:Hp):List TG->jf->Prop
 | [],vs=>vs=[]
 | t::l,vs=>∃ v r,vs=v::r/\Yz N H t v/\kf N H l r
end
structure Pu(N:aj->Prop)(H H':Hp):Prop where
 tup:YO H H'
 rest:∀ b o,H b=some o->¬ N b->H' b=some o
mutual
def Yz.mono{N:aj->Prop}{H H':Hp}(m:Pu N H H'):∀(t:TG)(v:V),Yz N H t v->Yz N H' t v
 | .int _,_,h=>by rw[Yz] at h⊢;exact h
 | .str _,_,h=>by rw[Yz] at h⊢;exact h
 | .tup l,_,h=>by
  rw[Yz] at h⊢;obtain⟨a,vs,e,h1,h2⟩:=h;exact⟨a,vs,e,m.tup a vs h1,kf.mono m l vs h2⟩
 | .odd n,_,h=>by
  rw[Yz] at h⊢;rcases h with h | h | ⟨e,a,xs,e1,e2,e3⟩ | ⟨e,a,xs,e1,e2,e3⟩
  ·exact .inl h
  ·exact .inr (.inl h)
  ·exact .inr (.inr (.inl ⟨e,a,xs,e1,m.rest _ _ e2 e3,e3⟩))
  ·exact .inr (.inr (.inr ⟨e,a,xs,e1,m.rest _ _ e2 e3,e3⟩))
def kf.mono{N:aj->Prop}{H H':Hp}(m:Pu N H H'):∀(l:List TG)(vs:jf),kf N H l vs->kf N H' l vs
 | [],_,h=>by rw[kf] at h⊢;exact h
 | t::l,_,h=>by
  rw[kf] at h⊢;obtain⟨v,r,e,h1,h2⟩:=h;exact⟨v,r,e,Yz.mono m t v h1,kf.mono m l r h2⟩
end
mutual
def Yz.less{N N':aj->Prop}{H:Hp}(m:∀ b,N' b->N b):∀(t:TG)(v:V),Yz N H t v->Yz N' H t v
 | .int _,_,h=>by rw[Yz] at h⊢;exact h
 | .str _,_,h=>by rw[Yz] at h⊢;exact h
 | .tup l,_,h=>by
  rw[Yz] at h⊢;obtain⟨a,vs,e,h1,h2⟩:=h;exact⟨a,vs,e,h1,kf.less m l vs h2⟩
 | .odd n,_,h=>by
  rw[Yz] at h⊢;rcases h with h | h | ⟨e,a,xs,e1,e2,e3⟩ | ⟨e,a,xs,e1,e2,e3⟩
  ·exact .inl h
  ·exact .inr (.inl h)
  ·exact .inr (.inr (.inl ⟨e,a,xs,e1,e2,λz=>e3 (m a z)⟩))
  ·exact .inr (.inr (.inr ⟨e,a,xs,e1,e2,λz=>e3 (m a z)⟩))
def kf.less{N N':aj->Prop}{H:Hp}(m:∀ b,N' b->N b):∀(l:List TG)(vs:jf),kf N H l vs->kf N' H l vs
 | [],_,h=>by rw[kf] at h⊢;exact h
 | t::l,_,h=>by
  rw[kf] at h⊢;obtain⟨v,r,e,h1,h2⟩:=h;exact⟨v,r,e,Yz.less m t v h1,kf.less m l r h2⟩
end
end Tw
namespace L2
open PySem PySem.Spec PyProof.Rows
abbrev Y1(a:aj)(o:aJ):HO:=.ext λh=>h.get? a=some o
def Lr{P:am}{w:aw}{H:Hp}{h:aD}{a:aj}{o:aJ}(e:h.get? a=some o):Zd P w H h a (Y1 a o):=⟨e,⟨o,e⟩,λ_ _ b k=>k o b⟩
def YW.obj{P:am}{w:aw}{H:Hp}{h:aD}{a:aj}{o:aJ}(x:YW P w H h)(e:H a=some (Y1 a o)):h.get? a=some o:=(x a _ e).1
def unT(a:jw)(H:Hp):Hp:=λb=>if b∈a then none else H b
def reT(c:jw)(H a:Hp):Hp:=λb=>if b∈c then H b else a b
def QW{a:jw}{H:Hp}{b:aj}(h:b∈a):unT a H b=none:=aQ h
def Vy{a:jw}{H:Hp}{b:aj}(h:b∉a):unT a H b=H b:=aP h
def MC{a:jw}{H c:Hp}{b:aj}(h:b∈a):reT a H c b=H b:=aQ h
def UA{c:jw}{H a:Hp}{b:aj}(h:b∉c):reT c H a b=a b:=aP h
def Ms{a:jw}{H:Hp}{b:aj}{o:HO}(e:unT a H b=some o):b∉a/\H b=some o:=by
 by_cases h:b∈a
 ·rw[QW h] at e;cases e
 ·rw[Vy h] at e;exact⟨h,e⟩
def On{a:jw}{H:Hp}{b:aj}(e:H b=none):unT a H b=none:=by
 by_cases h:b∈a
 ·exact QW h
 ·rw[Vy h];exact e
section
variable{H H2:Hp}{h h':aD}{cs fs ex:jw}
def YW.unT(d:YW P w H h)(f:∀ c∈cs,∃ o,H c=some (Y1 c o)):YW P w (L2.unT cs H) h:=λa o e=>by
 obtain⟨n,e⟩:=Ms e;refine(d a o e).stay (λ_ _ _ q=>q) (λc q=>?_) λc i q=>?_
 ·rw[Vy λz=>?_];exact q;obtain⟨g,b⟩:=f c z;rw[q] at b;cases b
 ·rw[Vy λz=>?_];exact q;obtain⟨g,b⟩:=f c z;rw[q] at b;cases b
def YW.reT(d:YW P w H2 h)(f:∀ c∈cs,H2 c=none)(j:∀ c∈cs,∃ o,H c=some (Y1 c o)/\h.get? c=some o):YW P w (L2.reT cs H H2) h:=λa o e=>by
 by_cases b:a∈cs
 ·rw[MC b] at e;obtain⟨k,g,i⟩:=j a b;rw[g] at e;cases e;exact Lr i
 ·rw[UA b] at e;refine(d a o e).stay (λ_ _ _ q=>q) (λc q=>?_) λc l q=>?_
  ·rw[UA λz=>?_];exact q;rw[f c z] at q;cases q
  ·rw[UA λz=>?_];exact q;rw[f c z] at q;cases q
def ZNH{g:Hp}(u:Un fs ex H g h h')(i:YW P w H h)(e:YW P w g h')(m:∀ c∈cs,∃ o,H c=some (Y1 c o)/\g c=some (Y1 c o)):Un fs ex (unT cs H) (unT cs g) h h':=by
 have a:∀ b∈cs,∀ o,h.get? b=some o->h'.get? b=some o:=λb d o q=>by
  obtain⟨s,k,l⟩:=m b d;have j:=i.obj k;rw[q] at j;cases j;exact e.obj l
 refine⟨λb o q n d f=>?_,λb o q n d f=>?_,λb o q n f=>?_,u.there,λb r q=>?_,λb o v q=>?_,λb p q=>?_⟩
 ·by_cases z:b∈cs
  ·exact a b z o q
  ·rw[Vy z] at n;exact u.keep b o q n d f
 ·by_cases z:b∈cs
  ·exact⟨o.slots,a b z o q⟩
  ·rw[Vy z] at n;exact u.slot b o q n d f
 ·by_cases z:b∈cs
  ·exact QW z
  ·rw[Vy z] at n⊢;exact u.free b o q n f
 ·obtain⟨z,q⟩:=Ms q;rw[Vy z];exact u.tups b r q
 ·obtain⟨z,q⟩:=Ms q;rw[Vy z];exact u.frzs b o v q
 ·obtain⟨z,q⟩:=Ms q;rw[Vy z];exact u.tbls b p q
def Ir(u:Un fs ex (unT cs H) H2 h h')(d:∀ c∈cs,∃ o,H c=some (Y1 c o)):Un fs ex H (reT cs H H2) h h':=by
 have g:∀{b},H b=none->b∉cs:=fun{b} n z=>by
  obtain⟨o,e⟩:=d b z;rw[n] at e;cases e
 refine⟨λb o q n f a=>u.keep b o q (On n) f a,λb o q n f a=>u.slot b o q (On n) f a,λb o q n a=>?_,u.there,λb k q=>?_,λb o v q=>?_,λb j q=>?_⟩
 ·rw[UA (g n)];exact u.free b o q (On n) a
 ·have z:b∉cs:=λz=>by
   obtain⟨i,e⟩:=d b z;rw[q] at e;cases e
  rw[UA z];exact u.tups b k (by rw[Vy z];exact q)
 ·have z:b∉cs:=λz=>by
   obtain⟨i,e⟩:=d b z;rw[q] at e;cases e
  rw[UA z];exact u.frzs b o v (by rw[Vy z];exact q)
 ·have z:b∉cs:=λz=>by
   obtain⟨i,e⟩:=d b z;rw[q] at e;cases e
  rw[UA z];exact u.tbls b j (by rw[Vy z];exact q)
end
structure VF(H:Hp)(cl:jF)(N:ju)(ws:jf):Prop where
 len:ws.length=N.length
 val:∀(i:Nat)(x:Str)(v:V),N[i]? = some x->ws[i]? = some v->∃ c o u,cl.lookup x=some c/\c∈cl.map (·.2)/\H c=some (Y1 c o)/\o.data=.cell (some u)/\ZW v u
 all:∀ c∈cl.map (·.2),∃ o v,H c=some (Y1 c o)/\o.data=.cell v
inductive WN(o:aJ)(q:Str):Prop
 |mk(a t:_)(_:o.data=.fields a)(_:a[1]? = some (.str q t))
def Cv(H:Hp)(q:Str)(e:jx):Prop:=TriplesOk e.toList/\∀ b d,PySem.codeAmong b e.toList=some d->∃ a c,d=.ref a/\H a=some (Y1 a c)/\WN c q
inductive ZU(H:Hp)(P:aj)(q:Str):Prop
 |mk(a:_)(_:H P=some (.tbl a))(_:Cv H q a)
def GC{a b:Int}{t u:Tok}{c:ai}:∀(l:je),TriplesOk l->TriplesOk (l++[.int a t,.int b u,c])
 | [],_=>trivial
 | .int _ _::.int _ _::_::r,h=>GC r h
def GY{e:aK}{a b:Int}{t u:Tok}{c f:ai}:∀(l:je),TriplesOk l->PySem.codeAmong e (l++[.int a t,.int b u,c])=some f->PySem.codeAmong e l=some f\/f=c
 | [],_,h=>by
  unfold PySem.codeAmong at h;simp only[List.nil_append] at h;split at h
  ·cases h;exact .inr rfl
  ·simp[PySem.codeAmong] at h
 | .int i _::.int j _::d::r,hT,h=>by
  simp only[uT] at h;unfold PySem.codeAmong at h⊢;split at h
  ·rename_i q
   rw[aQ q];exact .inl h
  ·rename_i q
   rw[aP q];exact GY r hT h
def JJ(P:aj)(c:Arguments)(g:Expr)(d:aE)(a:Str)(k:jF):TE:=λ_ H Q=>
 ZU H P a/\∀(e:Hp)(f h:aj)(j:aJ)(l i:ai),WN j a->e f=some (Y1 f (wP "<lambda>" a c g d k l h i))->e h=some (Y1 h j) ->
  (∀ b o,b≠P->H b=some o->e b=some o)->ZU e P a->(∀ b,b=f\/b=h\/b=P\/e b=H b)->Q (.ref f) e
def HA{X:Cx}{P c:aj}{f:Arguments}{l:Expr}{g:aE}{cl:jF}{j:aK}(y:X.env.code=.ref c)(C:xZ X.base c P)(hb:X.base.BuiltinsAt X.mg P)(S:defaultsOf f X.env=([],[]))(R:closureFor g X.env=pure cl):PE X (.Lambda f l g j) (JJ P f l g (X.env.qual ++ "<lambda>") cl):=by
 intro a8 s σ H Q I h;obtain⟨⟨B,v,N,hA⟩,h⟩:=h;have gP:s.heap.get? P=some (wI B):=I.hok P _ v;have nb:∀{b o},X.base.get? b=some o->b≠P:=fun{b o} e z=>by
  have:=(I.bs b o e).2;rw[z,v] at this;cases this
 have a3:ap≠P:=by
  obtain⟨o,es,ep,e,_⟩:=I.mod.glob;exact nb e
 have hg:s.heap.Ns ap X.mg:=I.mod.glob.keeps I.bk;have O:s.heap.BuiltinsAt X.mg P:=by
  obtain⟨bm,o,b1,b2,b3,b4,b5,r⟩:=hb;exact⟨bm,o,b1,b2,b3,b4,I.bk _ _ b5,r⟩
 refine PySem.W.kla_eval S ?_
 cases hf:PySem.codeAmong j B.toList with
 | none=>
  refine PySem.W.kla_makeFunction R I.ok.glob hg y (C.keeps I.bk) gP N hf a3 O λk m i tk hx F T U a6=>?_;obtain⟨a7,D,vs,t,L,a4,hd,hv⟩:=U;cases L;have kp:∀ b o,b≠P->s.heap.get? b=some o->(i.push (wP "<lambda>" (X.env.qual ++ "<lambda>") f l g cl ((X.mg "__name__").getD .none) k m)).get? b=some o:=λb o n e=>zS _ (hx b o n e);have sz:s.heap.objs.size<=i.objs.size:=yE (xK F T);have nc:H k=none:=I.hok.fresh F;have Y:H i.objs.size=none:=I.hok.fresh sz;have cP:k≠P:=λz=>by rw[z,v] at nc;cases nc
  have fP:i.objs.size≠P:=λz=>by rw[z,v] at Y;cases Y
  have fc:i.objs.size≠k:=xG T
  let ps':Array Value:=B++#[rawInt j.line,rawInt j.col,.ref k]
  let fo:Obj:=wP "<lambda>" (X.env.qual ++ "<lambda>") f l g cl ((X.mg "__name__").getD .none) k m
  let H1:Hp:=upd (upd (upd H P (.tbl ps')) k (Y1 k D)) i.objs.size (Y1 i.objs.size fo)
  have e1:H1 i.objs.size=some (Y1 i.objs.size fo):=ZR;have L:H1 k=some (Y1 k D):=by show upd _ _ _ _=_;rw[ZO fc.symm];exact ZR
  have e3:H1 P=some (.tbl ps'):=by show upd _ _ _ _=_;rw[ZO fP.symm,ZO cP.symm];exact ZR
  have e4:∀ b,b≠P->b≠k->b≠i.objs.size->H1 b=H b:=λb n1 n2 n3=>by show upd _ _ _ _=_;rw[ZO n3,ZO n2,ZO n1]
  have x:∀ b o,b≠P->H b=some o->H1 b=some o:=λb o n e=>by
   rw[e4 b n (Zb e nc) (Zb e Y)];exact e
  have gc:(i.push fo).get? k=some D:=zS _ a4;have gf:(i.push fo).get? i.objs.size=some fo:=yT _ rfl;have M:(i.push fo).get? P=some (wI ps'):=zS _ a6;have a5:YW X.prog X.w H1 (i.push fo):=λb u e=>by
   by_cases z1:b=i.objs.size
   ·subst z1;rw[e1] at e;cases e;exact Lr gf
   by_cases z2:b=k
   ·subst z2;rw[L] at e;cases e;exact Lr gc
   by_cases K:b=P
   ·subst K;rw[e3] at e;cases e;exact M
   rw[e4 b K z2 z1] at e;refine(I.hok b u e).stay (λa ob A q=>kp a ob ?_ q) (λa q=>x a _ ?_ q) λa xs q=>x a _ ?_ q
   ·rcases A with rfl | A
    ·exact K
    ·intro z;rw[z,v] at A;cases A
   ·intro z;rw[z,v] at q;cases q
   ·intro z;rw[z,v] at q;cases q
  have un:Un X.fs [] H H1 s.heap (i.push fo):=by
   have G:∀ b,H b=none->b≠P:=λb n z=>by rw[z,v] at n;cases n
   refine⟨λb o q n _ _=>kp b o (G b n) q,λb o q n _ _=>⟨o.slots,kp b o (G b n) q⟩,λb o q n _=>?_,λb o q _=>?_,λb xs q=>x b _ ?_ q,λb o u q=>x b _ ?_ q,λb qs q=>?_⟩
   ·rw[e4 b (G b n) (zL (yL (zU q) F)) (zL (yL (zU q) sz))];exact n
   ·by_cases z:b=P
    ·exact⟨_,by rw[z];exact M⟩
    ·exact⟨o,kp b o z q⟩
   ·intro z;rw[z,v] at q;cases q
   ·intro z;rw[z,v] at q;cases q
   ·by_cases z:b=P
    ·subst z;rw[v] at q;cases q;exact⟨_,e3⟩
    ·exact⟨#[],by rw[x b _ z q];simp⟩
  refine⟨.ref i.objs.size,H1,I.un (t':=tk) un a5,rfl,h H1 i.objs.size k D _ m ⟨vs,t,hd,hv⟩ e1 L x ⟨ps',e3,?_,λp J A=>?_⟩ λb=>?_⟩
  ·show TriplesOk (B++#[rawInt j.line,rawInt j.col,.ref k]).toList;rw[sL];exact GC _ N
  ·have a0:PySem.codeAmong p (B.toList++[rawInt j.line,rawInt j.col,.ref k])=some J:=by
    have:ps'.toList=B.toList++[rawInt j.line,rawInt j.col,.ref k]:=by show (B++#[rawInt j.line,rawInt j.col,.ref k]).toList=_;rw[sL]
    rw[<-this];exact A
   rcases GY _ N a0 with z | z
   ·obtain⟨d,E,y1,Z,y3⟩:=hA p J z;exact⟨d,E,y1,x _ _ (λz=>by rw[z,v] at Z;cases Z) Z,y3⟩
   ·exact⟨k,D,z,L,vs,t,hd,hv⟩
  ·by_cases z1:b=i.objs.size
   ·exact .inl z1
   by_cases z2:b=k
   ·exact .inr (.inl z2)
   by_cases K:b=P
   ·exact .inr (.inr (.inl K))
   exact .inr (.inr (.inr (e4 b K z2 z1)))
 | some J=>
  obtain⟨k,D,rfl,a1,a2⟩:=hA j J hf;refine PySem.W.kla_makeFunctionHit R I.ok.glob hg y (C.keeps I.bk) gP N hf O λm i tk hk V=>?_;have Y:H i.objs.size=none:=I.hok.fresh V;have x:∀ b o,H b=some o->upd H i.objs.size (Y1 i.objs.size (wP "<lambda>" (X.env.qual ++ "<lambda>") f l g cl ((X.mg "__name__").getD .none) k m)) b=some o:=λb o e=>by rw[ZO (Zb e Y)];exact e
  refine⟨.ref i.objs.size,_,I.laid (t':=tk) (a:=i.objs.size) (o:=Y1 i.objs.size (wP "<lambda>" (X.env.qual ++ "<lambda>") f l g cl ((X.mg "__name__").getD .none) k m)) (λb o e=>zS _ (hk b o e)) V (Lr (yT _ rfl)),rfl,
   h _ i.objs.size k D _ m a2 ZR (x _ _ a1) (λb o _ e=>x b o e) ⟨B,x _ _ v,N,λp J A=>?_⟩ λb=>?_⟩
  ·obtain⟨d,E,y1,Z,y3⟩:=hA p J A;exact⟨d,E,y1,x _ _ Z,y3⟩
  ·by_cases z:b=i.objs.size
   ·exact .inl z
   ·exact .inr (.inr (.inr (ZO z)))
inductive PH(k:Sp)(d:jF)(N h:ju)(m:L2.St)(Q:VK)(l:jf)(e:Hp):Prop
 |mk(f:jf)(_:f.length=N.length)(_:∀(i:Nat)(x:Str)(v:V),N[i]? = some x->f[i]? = some v->∃ j:Nat,h[j]? = some x/\m[j]? = some (some v))(_:∀ a:Hp,unT (d.map (·.2)) a=e->(∀ b,b∉d.map (·.2)->a b=e b)->(∀ b o,e b=some o->a b=some o)->VF a d N f->k l a (λv g=>(∀ c∈d.map (·.2),g c=a c)/\Q v (unT (d.map (·.2)) g)) E0)
def KH(e:Sp)(d:jF)(N c:ju)(t:TA):TE:=λa H Q=>t a H λf b=>PH e d N c a Q f b
def Ee{X:Cx}{k:Nat}{f:aj}{fd:ao}{ps:ju}{sp:Sp}{x:Str}{p L:aK}{e:Expr}{P:jA}{t:TA}{cl:jF}{N:ju}(F:ZJ X.prog X.w X.K X.mg X.base Ze k f fd ps sp)(hr:ZZ k X.A)(hg:Gl X x)(hm:X.mg x=some (.ref f))(hk:yW X.K (.ref f)=true)(D:Z8 X.K fd ps [])(ha:PA X (e::P) t)(R:∀ y c,cl.lookup y=some c->X.env.cells.lookup y=some c)(U:∀ c∈cl.map (·.2),∃ y,cl.lookup y=some c)(hN:∀ y∈N,X.env.scope.names.lookup y=some .cell/\∃ c,cl.lookup y=some c)(a4:∀ y,X.fn y=true)(a3:(x==("__debug__" : Str))=false:=by decide)(he:ar (e::P) X.env=(false,aI e X.env)::ar P X.env:=by rfl)(a7:(aG L (ar P X.env)).any (·.1)=false:=by rfl):
  PE X (.Call (.Name x p) (e::P) [] L) (KH sp cl N X.N t):=by
 intro Z s σ H Q I h;refine ag (Qb I hg hm ?_ a3);refine wF (h₀:=X.base) I.ok.mod.kin hk (YG (ha L Z s σ H _ I h) λus M vs E C r q=>⟨C.kIn,?_⟩) he a7;obtain⟨ws,hl,hw,q⟩:=q
 let cs := cl.map (·.2)
 let Hv:Hp:=λb=>(M.heap.get? b).map (Y1 b)
 have l:∀ c∈cs,∃ y o v,cl.lookup y=some c/\X.env.cells.lookup y=some c/\M.heap.get? c=some o/\o.data=.cell v/\Hv c=some (Y1 c o)/\E c=none:=λc B=>by
  obtain⟨y,e⟩:=U c B;have J:=R y c e;obtain⟨v,o,g,d⟩:=C.cell y c J;exact⟨y,o,v,e,J,g,d,by show Option.map _ _=_;rw[g];rfl,C.freeC y c J⟩
 have V:YW X.prog X.w (reT cs Hv E) M.heap:=C.hok.reT (λc B=>by
  obtain⟨y,o,v,_,_,g,d,a,n⟩:=l c B;exact n) λc B=>by
  obtain⟨y,o,v,_,_,g,d,a,n⟩:=l c B;exact⟨o,a,g⟩
 have hi:∀ c∈cs,X.s₀.heap.objs.size<=c:=λc B=>by
  obtain⟨y,o,v,_,J,_⟩:=l c B;exact C.ok.cab y c (a4 y) J
 have e0:We X.prog X.w X.K X.mg X.base X.A X.stack M (reT cs Hv E):=by
  have z:=C.env0;refine⟨z.frames,z.mod,λb o e=>⟨(z.bs b o e).1,?_⟩,z.bsz,z.funs,λb D=>?_,V,z.bare⟩
  ·rw[UA λw=>?_];exact(z.bs b o e).2;exact absurd (zU e) (wL.mpr (zD C.ok.bsz (hi b w)))
  ·rw[UA λw=>?_];exact z.frf b D;rcases zG.mp (C.stkSub b D) with y | y
   ·obtain⟨y',o,v,_,J,_⟩:=l b w;exact C.cne y' b J y
   ·obtain⟨_,o',g,_⟩:=C.ok.funs.mem y;exact absurd (zU g) (wL.mpr (hi b w))
 have eU:unT cs (reT cs Hv E)=E:=by
  funext b
  by_cases D:b∈cs
  ·rw[QW D];obtain⟨y,o,v,_,_,g,d,a,n⟩:=l b D;exact n.symm
  ·rw[Vy D,UA D]
 have CA:VF (reT cs Hv E) cl N ws:=⟨hl,λi y v h1 h2=>by
  obtain⟨j,hj,a8⟩:=hw i y v h1 h2;obtain⟨kc,c,ec⟩:=hN y (zB h1);obtain⟨m,_,a6⟩:=C.loc;obtain⟨u,ru,lk⟩:=a6 j y v hj a8 (.inr (.inl kc));have a2:=R y c ec;have S:c∈cs:=by
   obtain⟨p,hp,e⟩:∃ p∈cl,p.2=c:=⟨(y,c),PySem.mem_of_lookup ec,rfl⟩;exact zE.mpr ⟨p,hp,e⟩
  rcases lk with ⟨kl,_⟩ | ⟨_,c2,e2,o,g,d⟩
  ·have:X.env.scope.names.lookup y=some .local:=kl;rw[kc] at this;cases this
  ·rw[a2] at e2;cases e2;exact⟨c,o,u,ec,S,by rw[MC S];show Option.map _ _=_;rw[g];rfl,d,ru⟩,λc B=>by
  obtain⟨y,o,v,_,_,g,d,a,n⟩:=l c B;exact⟨o,v,by rw[MC B];exact a,d⟩⟩
 have q2:=q (reT cs Hv E) eU (λb D=>UA D) (λb o e=>by
  rw[UA λw=>?_];exact e;obtain⟨y,o',v,_,_,g,d,a,n⟩:=l b w;rw[n] at e;cases e) CA
 have r2:ZT (vs++[]) (us++[]):=r.append .nil;have a5:(us++[]).length=ps.length:=by rw[<-r2.length,vP];exact F.len _ _ _ _ q2
 refine wpAny_call (codeAny_mono (F.run X.A X.stack M (reT cs Hv E) ⟨us,[]⟩ (us++[]) vs _ E0 hr e0 (D M us C.kIn a5) (by rw[vP];exact r) q2) λrr s' Y=>?_)
 cases rr with
 | error ev=>exact Y.elim
 | ok fl=>
  cases fl with
  | ret u=>
   obtain⟨v,H2,os,O,un,G,rv,a0,q3⟩:=Y;have T:∀ c∈cs,∃ o,reT cs Hv E c=some (Y1 c o)/\H2 c=some (Y1 c o):=λc B=>by
    obtain⟨y,o,v,_,_,g,d,a,n⟩:=l c B;have z:reT cs Hv E c=some (Y1 c o):=by rw[MC B];exact a
    exact⟨o,z,by rw[a0 c B];exact z⟩
   have a1:=ZNH un V G T;rw[eU] at a1;exact C.after ⟨v,unT cs H2,os,O,a1,G.unT (λc B=>by
    obtain⟨o,_,z⟩:=T c B;exact⟨o,z⟩),rv,q3⟩
  | next=>exact False.elim Y
  | brk=>exact False.elim Y
  | cont=>exact False.elim Y
section
variable{κ:Type}[DecidableEq κ]
def YK(a:List (κ×V))(k:κ):jg:=(a.find? λb=>decide (b.1=k)).map (·.2)
def Zv(a:List (κ×V))(k:κ)(v:V):List (κ×V):=
 if (a.any λb=>decide (b.1=k))=true then a.map (λb=>if b.1=k then (b.1,v) else b) else a++[(k,v)]
def U0{p:κ×V}{r:List (κ×V)}{k:κ}(e:p.1=k):YK (p::r) k=some p.2:=by simp[YK,wZ,e]
def QV{p:κ×V}{r:List (κ×V)}{k:κ}(e:¬ p.1=k):YK (p::r) k=YK r k:=by simp[YK,wZ,e]
def Na(k:κ):∀ a:List (κ×V),(a.any λb=>decide (b.1=k))=(YK a k).isSome
 | []=>rfl
 | p::r=>by
  rw[vZ];by_cases e:p.1=k
  ·simp only[U0 e,aO e,Bool.true_or,Option.isSome_some]
  ·rw[QV e,aM e,Bool.false_or];exact Na k r
def GZ(k j:κ)(y:V):∀ a:List (κ×V),YK (a.map λb=>if b.1=k then (b.1,y) else b) j=(YK a j).map λx=>if j=k then y else x
 | []=>rfl
 | p::r=>by
  have c:=GZ k j y r;rw[yI];by_cases h:p.1=k
  ·rw[aQ h];by_cases e:p.1=j
   ·rw[U0 (p:=(p.1,y)) e,U0 e,uU,aQ (e.symm.trans h)]
   ·rw[QV (p:=(p.1,y)) e,QV e,c]
  ·rw[aP h];by_cases e:p.1=j
   ·rw[U0 (p:=p) e,U0 e,uU,aP (λz=>h (e.trans z))]
   ·rw[QV (p:=p) e,QV e,c]
def Hf(k j:κ)(y:V):∀ a:List (κ×V),YK a k=none->YK (a++[(k,y)]) j=if j=k then some y else YK a j
 | [],_=>by
  by_cases e:k=j
  ·rw[aQ e.symm];exact U0 (p:=(k,y)) e
  ·rw[aP (λz=>e z.symm)];exact QV (p:=(k,y)) e
 | p::r,hn=>by
  rw[uT];have b:¬ p.1=k:=λz=>by rw[U0 z] at hn;cases hn
  rw[QV b] at hn;have c:=Hf k j y r hn;by_cases e:p.1=j
  ·rw[U0 e,U0 e,aP (λz=>b (e.trans z))]
  ·rw[QV e,QV e,c]
def Qg(b:List (κ×V))(k j:κ)(y:V):YK (Zv b k y) j=if j=k then some y else YK b j:=by
 unfold Zv;by_cases a:(b.any λd=>decide (d.1=k))=true
 ·rw[aQ a,GZ];rw[Na] at a;by_cases e:j=k
  ·obtain⟨x,c⟩:=sB.mp a;rw[aQ e,e,c,uU,aQ rfl]
  ·rw[aP e]
   cases YK b j with
   | none=>rfl
   | some x=>rw[uU,aP e]
 ·rw[aP a];refine Hf k j y b ?_;rw[Na] at a
  cases q:YK b k with
  | none=>rfl
  | some x=>rw[q] at a;exact(a rfl).elim
def K8(a:List (κ×V))(k:κ)(v:V):(Zv a k v).length<=a.length+1:=by
 unfold Zv;split
 ·rw[zX];lia
 ·rw[yS,yY,tL];lia
def Ke{a:List (κ×V)}{k:κ}(v:V)(h:YK a k=none):Zv a k v=a++[(k,v)]:=by
 unfold Zv;rw[Na,h];exact aP (by decide)
def Yn.isSome_eq{o:jg}{u:jd}(r:Yn o u):o.isSome=u.isSome:=by
 cases o with
 | none=>cases u with
  | none=>rfl
  | some _=>exact(show False from r).elim
 | some _=>cases u with
  | none=>exact(show False from r).elim
  | some _=>rfl
def Yn.getD{o:jg}{u:jd}{d:V}{a:ai}(r:Yn o u)(rd:ZW d a):ZW (o.getD d) (u.getD a):=by
 cases o with
 | none=>cases u with
  | none=>exact rd
  | some _=>exact(show False from r).elim
 | some _=>cases u with
  | none=>exact(show False from r).elim
  | some _=>exact r
def KV.val{a:List (κ×V)}{g:List (κ×ai)}(r:KV a g)(k:κ):Yn (YK a k) (valueAt g k):=by
 unfold KV at r
 induction r with
 | nil=>exact True.intro
 | @cons p q l d h t j=>
  obtain⟨f,i⟩:=h;by_cases e:p.1=k
  ·have c:q.1=k:=f.symm.trans e;have b:valueAt (q::d) k=some q.2:=by simp[valueAt,wZ,c]
   rw[U0 e,b];exact i
  ·have c:¬ q.1=k:=λz=>e (f.trans z);have b:valueAt (q::d) k=valueAt d k:=by simp[valueAt,wZ,c]
   rw[QV e,b];exact j
def KV.any{a:List (κ×V)}{c:List (κ×ai)}(r:KV a c)(k:κ):(a.any λb=>decide (b.1=k))=c.any λb=>decide (b.1=k):=by
 unfold KV at r
 induction r with
 | nil=>rfl
 | cons h t d=>rw[vZ,vZ,d,h.1]
def KV.repl{b:List (κ×V)}{d:List (κ×ai)}(r:KV b d)(k:κ){y:V}{u:ai}(i:ZW y u):
  KV (b.map λa=>if a.1=k then (a.1,y) else a) (d.map λa=>if a.1=k then (a.1,u) else a):=by
 unfold KV at r⊢
 induction r with
 | nil=>exact .nil
 | @cons p q j l h t g=>
  rw[yI,yI];refine .cons ?_ g;obtain⟨c,f⟩:=h;by_cases e:p.1=k
  ·rw[aQ e,aQ (c.symm.trans e)];exact⟨c,i⟩
  ·rw[aP e,aP (λz=>e (c.trans z))];exact⟨c,f⟩
def KV.put{a:List (κ×V)}{b:List (κ×ai)}(r:KV a b)(k:κ){y:V}{u:ai}(c:ZW y u):KV (Zv a k y) (stored b k u):=by
 unfold Zv stored;rw[r.any k];by_cases e:(b.any λd=>decide (d.1=k))=true
 ·rw[aQ e,aQ e];exact r.repl k c
 ·rw[aP e,aP e];exact Paired.snoc r ⟨rfl,c⟩
def KV.keys{a:List (κ×V)}{b:List (κ×ai)}(r:KV a b):a.map (·.1)=b.map (·.1):=by
 unfold KV at r
 induction r with
 | nil=>rfl
 | cons h t c=>rw[yI,yI,c,h.1]
def KV.length{a:List (κ×V)}{b:List (κ×ai)}(r:KV a b):a.length=b.length:=Paired.length r
end
def NA{P:am}{w:aw}{k:ZV}{u:ai}(r:ZW (kV k) u):(Wk P w).is k u=true:=by
 cases k with
 | inl i=>obtain⟨t,e⟩:=(show ∃ t,u=Value.int i t from r);subst e;exact E7 P w i t
 | inr x=>obtain⟨t,e⟩:=(show ∃ t,u=Value.str x t from r);subst e;exact ZGU P w x t
def Fb{P:am}{w:aw}:∀{a:jI}{b:je},ZT (a.map kV) b->ItemsAre (Wk P w) a b
 | [],_,r=>by rw[wB] at r;cases r;exact .nil
 | k::a,_,r=>by
  rw[yI] at r
  cases r with
  | cons h t=>exact .cons (NA h) (Fb t)
abbrev KT(H:Hp):List (jI×V)->List (jI×aj×ai)->Prop:=Paired λp q=>p.1=q.1/\H q.2.1=some (.tup (p.1.map kV))/\ZW p.2 q.2.2
def KT.val{H:Hp}{a:List (jI×V)}{g:List (jI×aj×ai)}(r:KT H a g)(k:jI):Yn (YK a k) ((atKey g k).map (·.2)):=by
 induction r with
 | nil=>exact True.intro
 | @cons p q l d h t j=>
  obtain⟨f,_,i⟩:=h;by_cases e:p.1=k
  ·have c:q.1=k:=f.symm.trans e;have b:atKey (q::d) k=some q.2:=by simp[atKey,wZ,c]
   rw[U0 e,b];exact i
  ·have c:¬ q.1=k:=λz=>e (f.trans z);have b:atKey (q::d) k=atKey d k:=by simp[atKey,wZ,c]
   rw[QV e,b];exact j
def KT.repl{H:Hp}{a:List (jI×V)}{f:List (jI×aj×ai)}(r:KT H a f)(k:jI){y:V}{u:ai}(j:ZW y u):
  KT H (a.map λc=>if c.1=k then (c.1,y) else c) (f.map (putAt k u)):=by
 induction r with
 | nil=>exact .nil
 | @cons p q l m h t i=>
  rw[yI,yI];refine .cons ?_ i;obtain⟨b,d,g⟩:=h;unfold putAt;by_cases e:p.1=k
  ·rw[aQ e,aQ (b.symm.trans e)];exact⟨b,d,j⟩
  ·rw[aP e,aP (λz=>e (b.trans z))];exact⟨b,d,g⟩
def KT.put{H:Hp}{a:List (jI×V)}{c:List (jI×aj×ai)}(r:KT H a c)(k:jI){b:aj}{y:V}{u:ai}(f:H b=some (.tup (k.map kV)))(d:ZW y u):
  KT H (Zv a k y) (storedH c k b u):=by
 have e:(a.any λg=>decide (g.1=k))=(atKey c k).isSome:=by
  rw[Na,(r.val k).isSome_eq,Option.isSome_map]
 unfold Zv storedH;rw[e];by_cases q:(atKey c k).isSome=true
 ·rw[aQ q,aQ q];exact r.repl k d
 ·rw[aP q,aP q];exact Paired.snoc r ⟨rfl,f,d⟩
def KT.keeps{H c:Hp}{a:List (jI×V)}{d:List (jI×aj×ai)}(r:KT H a d)(f:∀ b e,H b=some (.tup e)->c b=some (.tup e)):KT c a d:=
 Paired.mapP r λ_ _ z=>⟨z.1,f _ _ z.2.1,z.2.2⟩
section
variable{H:Hp}{h:aD}{a:aj}
def Ep{u:HO}(b:YW P w H h)(e:Rd H a u):Zd P w H h a u:=e.ok b
def Oa{b:List (ZV×V)}(d:YW P w H h)(e:Rd H a (.dK b)):b.length<=aq/\(a==sysModules)=false/\∃ c,KV b c/\h.DictOf (Wk P w) a c:=
 show Zd P w H h a (.dK b) from Ep d e
def LT{b:List (ZV×V)}(d:YW P w H h)(e:H a=some (.dK b)):b.length<=aq/\(a==sysModules)=false/\∃ c,KV b c/\h.DictOf (Wk P w) a c:=Oa d (.inl e)
def Me{c:jI}(i:YW P w H h)(e:H a=some (.tup (c.map kV))):(tupleKind (Wk P w)).is h c a:=by
 obtain⟨_,b,r,o,d,f,n,g⟩:=(show Zd P w H h a (.tup (c.map kV)) from i a _ e);exact⟨o,b.toArray,n,d,f,g,by simpa using Fb r⟩
def Nc{b:List (jI×V)}(i:YW P w H h)(e:Rd H a (.dT b)):b.length<=aq/\(a==sysModules)=false /\
  ∃ d,KT H b d/\h.DictOfH (tupleKind (Wk P w)) a d:=by
 obtain⟨z,y,d,r,o,k,j,n,s,u,v,A⟩:=(show Zd P w H h a (.dT b) from Ep i e);refine⟨z,y,d,r,o,k,j,n,s,u,v,λx c=>?_,A⟩;have f:∀{l:List (jI×V)}{m:List (jI×aj×ai)},KT H l m->∀ x∈m,(tupleKind (Wk P w)).is h x.1 x.2.1:=by
  intro l m q
  induction q with
  | nil=>intro x c;exact nomatch c
  | @cons p q C D g t B=>
   intro x c;rcases zG.mp c with e | c
   ·subst e;exact Me i (by rw[<-g.1];exact g.2.1)
   ·exact B x c
 exact f r x c
def ZPy{b:List (jI×V)}(d:YW P w H h)(e:H a=some (.dT b)):b.length<=aq/\(a==sysModules)=false /\
  ∃ c,KT H b c/\h.DictOfH (tupleKind (Wk P w)) a c:=Nc d (.inl e)
end
def Zx(H:Hp)(a:aj)(y:V)(r:jg):Prop:=
 (∃ c k,Rd H a (.dK c)/\y=kV k/\r=YK c k)\/∃ c k b,Rd H a (.dT c)/\y=.ref b/\H b=some (.tup (k.map kV))/\r=YK c k
def XU(H:Hp)(a:aj)(y v:V)(d:Hp):Prop:=
 (∃ c k,H a=some (.dK c)/\y=kV k/\c.length<aq/\d=upd H a (.dK (Zv c k v))) \/
 ∃ c k b,H a=some (.dT c)/\y=.ref b/\H b=some (.tup (k.map kV))/\c.length<aq/\d=upd H a (.dT (Zv c k v))
def Zx.k{H:Hp}{a:aj}{b:List (ZV×V)}{k:ZV}(e:H a=some (.dK b)):Zx H a (kV k) (YK b k):=.inl ⟨b,k,.inl e,rfl,rfl⟩
def XU.k{H:Hp}{a:aj}{b:List (ZV×V)}{k:ZV}{v:V}(e:H a=some (.dK b))(c:b.length<aq):XU H a (kV k) v (upd H a (.dK (Zv b k v))):=.inl ⟨b,k,e,rfl,c,rfl⟩
section
variable{kh:jv}{σ:St}{H:Hp}{a:aj}{y v:V}{u r:ai}{o:jg}
def A5{Q:ja}(F:A.units+1<cLine)(I:ZE X kh σ H s)(g:Zx H a y (some v))(t:ZW y u)(h:∀ f x,ZE X kh σ H x->ZW v f->Q f x):
  aB (aA X.prog X.w) A (getItem (.ref a) u) Q E s:=by
 rcases g with ⟨q,k,e,j,l⟩ | ⟨q,k,b,e,j,B,l⟩
 ·subst j;obtain⟨z,C,G,c,i⟩:=Oa I.hok e;obtain⟨f,n,d⟩:=Yn.some_of (v:=v) (o:=valueAt G k) (by rw[l];exact c.val k)
  exact wpAny_getItem_of (NA t) i.mapOf n (h f _ (I.tok _) d)
 ·subst j;cases(show u=Value.ref b from t);obtain⟨z,C,J,c,i⟩:=Nc I.hok e;obtain⟨f,n,d⟩:=Yn.some_of (v:=v) (o:=(atKey J k).map (·.2)) (by rw[l];exact c.val k)
  obtain⟨p,D,m⟩:=yB.mp n;refine wpAny_getItem_heap (tupleKind_room_in1 F) (Me I.hok B) i D ?_;rw[m];exact h f _ (I.tok _) d
def Bo{Q:ja}(t:A.units+1<cLine)(I:ZE X kh σ H s)(g:Zx H a y o)(m:ZW y u)(h:∀ n,ZE X kh σ H n->Q (.bool (!o.isSome)) n):
  aB (aA X.prog X.w) A (az .NotIn u (.ref a)) Q E s:=by
 rcases g with ⟨j,k,e,f,l⟩ | ⟨j,k,b,e,f,p,l⟩
 ·subst f;obtain⟨z,i,x,c,d⟩:=Oa I.hok e;refine wpAny_notIn_of (NA m) i d.mapOf ?_;rw[<-(c.val k).isSome_eq,<-l];exact h _ (I.tok _)
 ·subst f;cases(show u=Value.ref b from m);obtain⟨z,i,B,c,d⟩:=Nc I.hok e;refine wpAny_notIn_heap (tupleKind_room_in1 t) (Me I.hok p) i d ?_;have q:=(c.val k).isSome_eq;rw[Option.isSome_map] at q;rw[<-q,<-l];exact h _ (I.tok _)
def JM{c:aD}{k:Nat}{f:HO}(I:ZE X kh σ H s)(j:Ng (H a))(i:wK a s.heap c)(h:∃ q,c.get? a=some q)(d:Zd X.prog X.w (upd H a f) c a f):
  ZE X kh σ (upd H a f) { s with heap:=c,toks:=k }:=
 I.write (x:=a) (e:=a) j (.inl rfl) (λb q g z=>(i.2 b g).trans z) h d
def IV{P:am}{w:aw}{f:Hp}{e:aD}{b:List (ZV×V)}{d:jV}(z:b.length<=aq)(h:(a==sysModules)=false)(c:KV b d)(g:e.DictOf (Wk P w) a d):
  Zd P w f e a (.dK b):=⟨z,h,d,c,g⟩
def ZKL{D:Hp}{Q:Unit->al->Prop}(V:A.units+1<cLine)(I:ZE X kh σ H s)(g:XU H a y v D)(L:ZW y u)(K:ZW v r)(h:∀ M,ZE X kh σ D M->Q () M):
  aB (aA X.prog X.w) A (setItem (.ref a) u r) Q E s:=by
 rcases g with ⟨d,k,e,p,l,n⟩ | ⟨d,k,b,e,p,F,l,n⟩
 ·subst p n;obtain⟨z,t,W,f,m⟩:=LT I.hok e;have C:W.length<=sizeLine:=by rw[<-f.length];exact z
  have x:(Zv d k v).length<=sizeLine:=by have:=K8 d k v;lia
  refine wpAny_setItem_pairs (hsz:=C) (NA L) m λJ i B=>h _ ?_;have U:∃ q,J.get? a=some q:=let ⟨q,_,_,j,_⟩:=i;⟨q,j⟩;exact JM I (by rw[e];exact True.intro) B U (IV x t (f.put k K) i)
 ·subst p n;cases(show u=Value.ref b from L);obtain⟨z,t,Y,f,m⟩:=ZPy I.hok e;have C:Y.length<=sizeLine:=by rw[<-Paired.length f];exact z
  have x:(Zv d k v).length<=sizeLine:=by have:=K8 d k v;lia
  refine wpAny_setItem_heap (hsz:=C) (tupleKind_room_in1 V) (Me I.hok F) m λJ i B=>h _ ?_;obtain⟨q,O,N,j,P,R,S,_,T⟩:=i;refine JM I (by rw[e];exact True.intro) B ⟨q,j⟩ ⟨x,t,_,(f.put k F K).keeps λc Z G=>?_,q,O,N,j,P,R,S,T⟩
  rw[ZO (ZD G e (λz=>nomatch z))];exact G
end
section
variable{kh:jv}{σ:St}{H:Hp}{a:aj}{kvs:List (ZV×V)}{k:ZV}{u:ai}
def ZQF{Q:ja}(I:ZE X kh σ H s)(e:Rd H a (.dK kvs))(h:∀ t c,ZE X kh σ H c->Q (.int kvs.length t) c):aB (aA X.prog X.w) A (call (.builtin "len") [.ref a]) Q E s:=by
 obtain⟨z,f,g,b,d⟩:=Oa I.hok e;refine call_len_dict f d (by rw[<-b.length];rw[sizeLine_eq] at z;lia (splits:=8)) ?_
 rw[<-b.length];exact h _ _ (I.tok _)
end
def F0(i:Expr):Prop:=∀ b a,subscripted i false b a=operate [b,a] (getItem b a)
def Az{a:am}{w:aw}{A:ax}{E:ja}{s:al}{j:Env}{c b:Expr}{n:aK}{T id:String}{Q:ja}(q:typeLookup (.type T) "__getitem__" = pure (some (.builtin id)))(t:F0 b)(h:aB (aA a w) A (aI c j) (λo f=>aB (aA a w) A (aI b j) (λi d=>d.TypeIs o T/\aB (aA a w) A (getItem o i) Q E d) E f) E s):
  aB (aA a w) A (aI (.Subscript c b n) j) Q E s:=by
 refine Subscript_ (ae h (λo f l=>ae l (λi d e=>?_) λ_ _ x=>x) λ_ _ x=>x);obtain⟨p,e⟩:=e;unfold subscriptTail;refine aa ?_;rw[getitemInPython_of_ne p.not_modules];refine aa (wpAny_specialOf p q ?_);have k:aB (aA a w) A (subscripted b false o i) (λr g=>aB (aA a w) A (letTemporaryGo c o r >>= λ_=>pure r) Q E g) E d:=by
  rw[t o i];exact wpAny_operating (ae e (λr g m=>aa (wpAny_letTemporaryGo (ad m))) λ_ _ x=>x)
 first
  | exact ad (aa k)
  | exact aa (ad (aa k))
  | exact aa k
def Bg{X:Cx}{c:jv}{h:St}{H:Hp}{s:al}{a:aj}{y:V}{o:jg}(I:ZE X c h H s)(g:Zx H a y o):s.TypeIs (.ref a) "dict" :=by
 rcases g with ⟨f,k,e,_,_⟩ | ⟨f,k,b,e,_,_,_⟩
 ·obtain⟨_,_,i,_,d⟩:=Oa I.hok e;exact d.typeIs
 ·obtain⟨_,_,j,_,d⟩:=Nc I.hok e;exact d.typeIs
inductive OA(Q:VK)(x y:V)(b:Hp):Prop
 |mk(a v:_)(_:x=.ref a)(_:Zx b a y (some v))(_:Q v b)
def ZQC(d e:TE):TE:=λa H Q=>d a H λx b=>e a b λy c=>OA Q x y c
inductive QU(Q:VK)(y x:V)(b:Hp):Prop
 |mk(a o:_)(_:x=.ref a)(_:Zx b a y o)(_:Q (.bl (!o.isSome)) b)
def ZM0(e d:TE):TE:=λa H Q=>e a H λy b=>d a b λx c=>QU Q y x c
inductive OZ(D:Yq)(d:L2.St)(v x y:V)(c:Hp):Prop
 |mk(a b:_)(_:x=.ref a)(_:XU c a y v b)(_:D.nx d b)
def ZPq(e g f:TE):TS:=λD a H=>f a H λv b=>e a b λx c=>g a c λy d=>OZ D a v x y d
section
variable{o i e value:Expr}{pos pos' tpos:aK}{td ty tv:TE}
def VX(t:X.A.units+1<cLine)(q:PE X o td)(p:PE X i ty)(r:F0 i:=by exact λ_ _=>rfl):PE X (.Subscript o i pos) (ZQC td ty):=by
 intro b s f H Q I h;refine Az PySem.F.slot_dict_getitem.lookup r (YG (q b s f H _ I h) λu D x j l B w=>Z3 (p b D f j _ l w) ?_);rintro E G ⟨y,k,d,C,a,v,n,g,z⟩;subst n;obtain rfl:u=Value.ref a:=B;exact⟨Bg d g,A5 t d g C λK J m c=>⟨v,k,m,c,z⟩⟩
def Kc(q:X.A.units+1<cLine)(n:PE X i ty)(p:PE X o td):PC X .NotIn i o (ZM0 ty td):=by
 intro b s c H Q I h;refine YG (n b s c H _ I h) λC B y d j z t=>Z3 (p b B c d _ j t) ?_;rintro u D ⟨x,f,k,w,a,r,m,g,v⟩;subst m;obtain rfl:u=Value.ref a:=w;exact Bo q k g z λE l=>⟨.bl (!r.isSome),f,l,rfl,v⟩
def Qu(z:X.A.units+1<cLine)(t:PE X o td)(q:PE X i ty)(B:PE X value tv)(w:aF value (some (.Subscript o i pos')) pos.line X.env=pure false):
  PS X (.Assign [.Subscript o i pos'] value pos) (ZPq td ty tv):=by
 intro b s c H D I h;refine wpAny_Assign_Subscript (YG (B b s c H _ I h) λr L v d k G C=>YG (t b L c d _ k C) λu M x f l J E=>Z3 (q b M c f _ l E) λO P ⟨y,N,m,K,a,j,p,g,F⟩=>?_) w;subst p;obtain rfl:u=Value.ref a:=J;exact ZKL z m g K G λQ n=>⟨c,j,n,F⟩
end
section
variable{pos:aK}
end
def JF:jU->St->Hp->(List (V×V)->Hp->Prop)->Prop
 | [],_,H,Q=>Q [] H
 | (e,f)::r,σ,H,Q=>e σ H λx a=>f σ a λy b=>JF r σ b λd c=>Q ((x,y)::d) c
abbrev VV:List (V×V)->List (ai×ai)->Prop:=Paired λp q=>ZW p.1 q.1/\ZW p.2 q.2
def LF(X:Cx)(d:aK)(c:List (jS))(a:jA)(e:jU):Prop:=
 ∀(b:jv)(s:al)(f:St)(H:Hp)(Q:List (V×V)->Hp->Prop),ZE X b f H s->JF e f H Q ->
  aB (aA X.prog X.w) X.A (evalPairs (pairTrees c a X.env d)) (λj i=>∃ h g,ZE X b f g i/\VV h j/\Q h g) X.xe s
def ZNw{X:Cx}{a:aK}:LF X a [] [] []:=λb s c H Q I h=>pairTrees_nil_walk ⟨[],H,I,.nil,h⟩
def ZKo{X:Cx}{b:aK}{k v:Expr}{f:List (jS)}{j:jA}{g i:TE}{c:jU}(r:PE X k g)(w:PE X v i)(t:LF X b f j c):
  LF X b (some k::f) (v::j) ((g,i)::c):=λa s e H Q I h=>
 pairTrees_cons_walk (YG (r a s e H _ I h) λu F x l o D A=>YG (w a F e l _ o A) λK G y m p E B=>
  YG (t a G e m _ p B) λL J z n q d C=>⟨(x,y)::z,n,q,.cons ⟨D,E⟩ d,C⟩)
def NM(c a:List (ZV×V)):List (ZV×V):=a.foldl (λb d=>Zv b d.1 d.2) c
def KV.merge:∀{b:List (ZV×V)}{d:jV}{a:List (ZV×V)}{c:jV},KV b d->KV a c->KV (NM a b) (merged c d):=by
 intro b d a c r;unfold KV at r
 induction r generalizing a c with
 | nil=>intro q;exact q
 | @cons p q i j h t f=>
  intro g;have e:KV (Zv a p.1 p.2) (stored c q.1 q.2):=by
   have:=g.put p.1 h.2;rw[<-h.1];exact this
  exact f e
def GO:∀(b a:List (ZV×V)),(NM a b).length<=a.length+b.length
 | [],a=>by show a.length<=a.length+0;lia
 | p::r,a=>by
  have c:=GO r (Zv a p.1 p.2);have d:=K8 a p.1 p.2;show (NM (Zv a p.1 p.2) r).length<=_;rw[yY];lia
def EC{P:am}{w:aw}:∀{d:List (ZV×V)}{g:List (ai×ai)},VV (d.map λf=>(kV f.1,f.2)) g->∃ e,Carries (Wk P w) g e/\KV d e
 | [],_,r=>by rw[wB] at r;cases r;exact⟨[],True.intro,.nil⟩
 | p::d,_,r=>by
  rw[yI] at r
  cases r with
  | @cons a b j bs h t=>
   obtain⟨e,c,q⟩:=EC (P:=P) (w:=w) t;obtain⟨k,i⟩:=b;exact⟨(p.1,i)::e,⟨NA h.1,rfl,c⟩,.cons ⟨rfl,h.2⟩ q⟩
def ZP2(b:jU):TE:=λf H Q=>∀ p,H p=none->JF b f (upd H p (.dK [])) λe c=>c p=some (.dK [])/\∃ a:List (ZV×V),e=a.map (λd=>(kV d.1,d.2))/\a.length<=15/\Q (.ref p) (upd c p (.dK (NM [] a)))
def AT{X:Cx}{k:aK}{b:List (jS)}{d:jA}{l:jU}(h:LF X k b d l)(g:b.all (·.isSome)=true)(C:b.length=d.length)(x:b≠[])(m:b.length<=15):PE X (.Dict b d k) (ZP2 l):=by
 intro j s N H Q I q;have D:=I.hok.fresh (zY s.heap.objs.size);have r:=I.laid (a:=s.heap.objs.size) (o:=.dK []) (h':=s.heap.push { cls:=.type "dict",data:=.dict #[] }) (t':=s.toks) (λ_ _ q=>zS _ q) (zY _) (FM s.heap I.big);refine wpAny_Dict_walk (knd:=Wk X.prog X.w) g C x m (Z3 (h j _ N _ _ r (q _ D)) ?_);rintro U T ⟨S,O,p,n,e,i,u,R,G⟩;subst u;obtain⟨L,c,K⟩:=EC (P:=X.prog) (w:=X.w) n;obtain⟨z,A,M,J,t⟩:=LT p.hok e;cases J;refine⟨L,c,t,λv f E=>⟨.ref s.heap.objs.size,_,?_,rfl,G⟩⟩;have F:(NM [] i).length<=sizeLine:=by
  have y:=GO i [];rw[tL] at y;rw[sizeLine_eq];lia
 have B:∃ q,v.get? s.heap.objs.size=some q:=let ⟨q,_,_,hq,_⟩:=f;⟨q,hq⟩;exact JM p (by rw[e];exact True.intro) E B (IV F A (K.merge .nil) f)
structure M1(X:Cx)(o:Expr)(m:Str)(jk:aK)(e:Expr)(jj:aK):Prop where
 base:attributeBase o m X.env (aI o X.env)=aI o X.env
 few:((aG jj (ar [e] X.env)).all (λx=>!x.1)&&(backToKw jj (keywordEach [] X.env)).all (λx=>x.1.isSome)
  && decide (([e]:jA).length+([]:List Keyword).length+(if ([]:List Keyword).isEmpty then 0 else 1)<30))=true
 line:(jk.endLine==jj.line)=true
 trees:aG jj (ar [e] X.env)=[(false,aI e X.env)]
structure M2(X:Cx)(o:Expr)(m:Str)(jk:aK)(e f:Expr)(jj:aK):Prop where
 base:attributeBase o m X.env (aI o X.env)=aI o X.env
 few:((aG jj (ar [e,f] X.env)).all (λx=>!x.1)&&(backToKw jj (keywordEach [] X.env)).all (λx=>x.1.isSome)
  && decide (([e,f]:jA).length+([]:List Keyword).length+(if ([]:List Keyword).isEmpty then 0 else 1)<30))=true
 line:(jk.endLine==jj.line)=true
 trees:aG jj (ar [e,f] X.env)=[(false,aI e X.env),(false,aI f X.env)]
def HJ(H:Hp)(a:aj):Prop:=(∃ b,Rd H a (.dK b))\/∃ b,Rd H a (.dT b)
def ZOQ{X:Cx}{g:jv}{l:St}{H:Hp}{s:al}{a:aj}(I:ZE X g l H s)(d:HJ H a):
  s.TypeIs (.ref a) "dict" /\ (∀ b,Value.ref a=.ref b->∃ c,s.heap.get? b=some c/\c.dict=none)/\(a==sysModules)=false:=by
 rcases d with ⟨k,e⟩ | ⟨k,e⟩
 ·obtain⟨_,j,m,_,f⟩:=Oa I.hok e;refine⟨f.typeIs,λb q=>?_,j⟩;cases q;obtain⟨c,_,_,h,i,_⟩:=f;exact⟨c,h,i.2.1⟩
 ·obtain⟨_,j,n,_,f⟩:=Nc I.hok e;refine⟨f.typeIs,λb q=>?_,j⟩;cases q;obtain⟨c,_,_,h,i,_⟩:=f;exact⟨c,h,i.2.1⟩
section
variable{kh:jv}{σ:St}{H:Hp}{a:aj}{y d:V}{u r:ai}{o:jg}
def ZOR{Q:ja}(v:A.units+1<cLine)(I:ZE X kh σ H s)(g:Zx H a y o)(n:ZW y u)(rd:ZW d r)(h:∀ q p,ZE X kh σ H p->ZW (o.getD d) q->Q q p):
  aB (aA X.prog X.w) A (call (.builtin "dict.get") [.ref a,u,r]) Q E s:=by
 rcases g with ⟨m,k,e,i,l⟩ | ⟨m,k,b,e,i,t,l⟩
 ·subst i;obtain⟨z,j,B,c,f⟩:=Oa I.hok e;refine call_meetsIn sE f.typeIs rC (qW _ _ _) (meets_dict_get_default (Wk X.prog X.w) a (NA n) j r) ⟨_,f.mapOf,h _ _ (I.tok _) ?_⟩;rw[l];exact(c.val k).getD rd
 ·subst i;cases(show u=Value.ref b from n);obtain⟨z,j,x,c,f⟩:=Nc I.hok e;refine call_meetsIn sE f.typeIs rC (qW _ _ _) (meetsH_dict_get_default (tupleKind (Wk X.prog X.w)) a b j r) ⟨tupleKind_room_in1 v,k,x,Me I.hok t,f,h _ _ (I.tok _) ?_⟩;rw[l];exact(c.val k).getD rd
end
inductive Pg(g f:TE)(d:L2.St)(Q:VK)(x:V)(b:Hp):Prop
 |mk(a:_)(_:x=.ref a)(_:HJ b a)(_:g d b λy e=>f d e λz c=>∃ o,Zx c a y o/\Q (o.getD z) c)
def Bk(c e d:TE):TE:=λa H Q=>c a H λx b=>Pg e d a Q x b
section
variable{o e f:Expr}{jk jj:aK}{td ty tx:TE}
def ZK8(C:X.A.units+1<cLine)(B:PE X o td)(v:PE X e ty)(w:PE X f tx)(m:M2 X o "get" jk e f jj):PE X (.Call (.Attribute o "get" jk) [e,f] [] jj) (Bk td ty tx):=by
 intro b s i H Q I h;refine wpAny_Call_method m.base m.few m.line PySem.F.plainAttrs_dict sE PySem.F.type_dict_get (Z3 (B b s i H _ I h) ?_);rintro u M ⟨x,k,j,J,a,t,d,D⟩;subst t;obtain rfl:u=Value.ref a:=J;obtain⟨O,P,_⟩:=ZOQ j d;exists O,P;rw[m.trees];refine Calls.callWith_builtin rfl (Calls.evalArgs_plain (Calls.spliced_cons (YG (v b M i k _ j D) λS N y l p K E=>
  Calls.spliced_cons (Z3 (w b N i l _ p E) λR U ⟨z,n,q,L,T,g,G⟩=>Calls.spliced_nil ?_))))
 exact ZOR C q g K L λW V r c=>⟨_,n,r,c,G⟩
end
section
variable{kh:jv}{σ:St}{H:Hp}{a:aj}{kvs:List (ZV×V)}
end
section
variable{kh:jv}{σ:St}{H:Hp}{a:aj}{y:V}{u:ai}
end
inductive UD(c:jf)(H:Hp)(Q:VK):Prop
 |mk(a b:_)(_:c=[V.ref a])(_:H a=some (.dK b))(_:Q (.int b.length) H)
def IQ:VI X (.builtin "len") (UD):=by
 intro c s k H j i Q I r h;obtain⟨a,b,rfl,e,q⟩:=h;obtain⟨u,rfl,f⟩:=VY r;cases f;exact ZQF I (.inl e) λt g d=>⟨.int b.length,H,d,⟨t,rfl⟩,q⟩
section
variable{κ:Type}[DecidableEq κ]
def MW{a:List (κ×V)}{k:κ}{v:V}(h:YK a k=some v):k∈a.map (·.1):=by
 have q:(a.any λc=>decide (c.1=k))=true:=by
  rw[Na,h]
  all_goals rfl
 obtain⟨p,b,e⟩:=List.any_eq_true.mp q;exact zE.mpr ⟨p,b,of_decide_eq_true e⟩
end
end L2
namespace Tw
open PySem PySem.Spec L2
variable{jh ji CS CT CH CK CP CB:aj}
def top(i:Nat):Stmt:=PySem.Challenge.pw_twigmap_k25_leaves_changed.main.body.getD i (.Pass ⟨0,0,0,0⟩)
abbrev KO:Stmt:=top 13
abbrev Ia:Stmt:=top 14
abbrev MT:Stmt:=top 15
abbrev JS:Stmt:=top 16
abbrev K7:Stmt:=top 17
abbrev Ly:Stmt:=top 18
abbrev Mn:Stmt:=top 19
abbrev Ie:Stmt:=top 29
abbrev Ky:Stmt:=top 30
abbrev Jm:Stmt:=top 31
abbrev Jl:Stmt:=top 32
abbrev Jr:Stmt:=top 33
abbrev KQ:Stmt:=top 34
abbrev Ji:Stmt:=top 37
abbrev KK:Stmt:=top 39
abbrev IN:Stmt:=top 40
abbrev Mq:Stmt:=top 41
abbrev K1:Stmt:=top 42
abbrev Lm:Stmt:=top 43
abbrev Ko:Stmt:=top 44
abbrev Kr:Stmt:=top 45
abbrev Kt:Stmt:=top 46
abbrev IW:Stmt:=top 47
abbrev Jb:Stmt:=top 48
abbrev KI:Stmt:=top 49
abbrev Jh:Stmt:=top 51
abbrev JL:Stmt:=top 52
abbrev Ks:Stmt:=top 53
abbrev JG:Stmt:=top 54
abbrev IS:Stmt:=top 55
abbrev KL:Stmt:=top 56
abbrev IZ:Stmt:=top 57
abbrev Ij:Stmt:=top 58
abbrev JN:Stmt:=top 59
abbrev Vw:Stmt:=top 60
abbrev Ka:Stmt:=top 61
abbrev JX:Stmt:=top 62
abbrev Ih:Stmt:=top 63
abbrev WT:Stmt:=top 64
abbrev Kl:Stmt:=top 65
abbrev Pi:Stmt:=top 66
structure YX(mg:jc):Prop where
 isi:mg "isinstance" = none
 bool:mg "bool" = none
 int:mg "int" = none
 str:mg "str" = none
 tuple:mg "tuple" = none
 list:mg "list" = none
 len:mg "len" = none
 all:mg "all" = none
 abs:mg "abs" = none
 max:mg "max" = none
 min:mg "min" = none
 range:mg "range" = none
 sorted:mg "sorted" = none
 ValueError:mg "ValueError" = none
 sum:mg "sum" = none
 signs:∃ t,mg "MOST_SIGNS" = some (.int 40 t)
 things:∃ t,mg "MOST_THINGS" = some (.int 4 t)
 deep:∃ t,mg "MOST_DEEP" = some (.int 3 t)
 rows:∃ t,mg "MOST_ROWS" = some (.int 4 t)
 few:∃ t,mg "FEWEST_BRANCHES" = some (.int 2 t)
 most:∃ t,mg "MOST_BRANCHES" = some (.int 4 t)
 height:∃ t,mg "HEIGHT" = some (.int 0 t)
 least:∃ t,mg "LEAST" = some (.int 1 t)
 greatest:∃ t,mg "GREATEST" = some (.int 2 t)
 many:∃ t,mg "MANY" = some (.int 3 t)
def QO:ZC ["_law_well_here","_law_many","_law_found","_law_first","_law_second"] zEe (Zc IN):=Z9
def ZMM(F:Zp K "_law_pull" "_law_pull" IN f fd):ZJ P w K mg ki Ze 1 f fd zEe YR:=by
 refine F.ok QO (λy H Q E h=>?_) (λv A q s H y Q E D h=>?_)
 ·obtain⟨p,m,rfl,_⟩:=h;rfl
 obtain⟨p,m,rfl,W,⟨g,l⟩,k⟩:=h;obtain⟨a,b,c,d,n,i,j,r,C⟩:=W.ex;have o:=QO.nd;intro z;refine⟨_,ZQ (Zy (Yh VT (Ui Z6 (pv 0) ZN (λ_ _=>rfl)) ZN (YE _)) (ZX (Zn ZN)) Z2)
  (ZQ (PQ (Z0 QP (Ui Z6 (pv 0) ZN (λ_ _=>rfl)) ZN) (IJ (pv 0) ZN JW))
  (ZQ (Zy (Yh P2 (Ui Z6 (pv 0) ZN (λ_ _=>rfl)) ZN (YE _))
   (ZQ (Zs 2 o (Z0 Qt (Ui Z6 (pv 0) ZN (λ_ _=>rfl)) (pv 1)))
   (ZQ (PQ (Z0 ZNp (Ui Z6 (pv 0) ZN (λ_ _=>rfl)) (pv 1)) (IJ (pv 0) ZN JW))
   (ZX (Zn (pv 2))))) Z2)
  (ZQ (PQ (Z0 WZ (Ui Z6 (pv 0) ZN (λ_ _=>rfl)) ZN) (IJ (pv 0) ZN JW))
  (ZQ (Zs 3 o (Z0 Qt (Z0 Od (Z0 WZ (Ui Z6 (pv 0) ZN (λ_ _=>rfl)) ZN) (Z0 WZ ZN (Z0 Od ZN (Ui Z6 (pv 0) ZN (λ_ _=>rfl))))) ZN))
  (ZQ (Zs 4 o (Z0 Qt (Z0 Od (Z0 WZ (Z0 M8 (pv 3) ZN) ZN) (Z0 WZ (Z0 Qt (pv 3) ZN) ZN)) ZN))
  (ZX (Zn (Z0 Qt (Z0 M8 (pv 4) ZN) (pv 1))))))))),?_⟩
 exists _,rfl,p,_,_,_,rfl,rfl,ZG.of n,rfl,rfl,_,rfl;refine Wu (λ_=>?_) (λt=>?_)
 ·exact k 0 H (Int.le_refl 0) g W (ZI.refl p H)
 have B:d≠0:=λe=>t (aO (by rw[e]))
 exists _,rfl,p,_,_,_,rfl,rfl,ZG.of n,rfl,_,_,rfl,rfl,_,rfl,p,_,_,_,rfl,rfl,n,rfl;exists _,rfl,p,_,_,_,rfl,rfl,ZG.of ZR,rfl,_,_,rfl,rfl,_,rfl;refine Wu (λu=>?_) (λu=>?_)
 ·exists _,rfl,p,_,_,_,rfl,rfl,ZG.of ZR,rfl,_,rfl,_,_,rfl,rfl,g;exists _,rfl,p,_,_,_,rfl,rfl,ZG.of ZR,rfl,_,rfl,_,_,rfl,rfl,⟨g,l⟩,_,rfl,p,_,_,_,rfl,rfl,ZR,rfl;exists _,rfl;refine k (c % m) _ (uX _ ∅) (uN _ g) ⟨a,b,c / m,d-1,ZR,i,j,Int.ediv_nonneg r ∅,∅⟩ (ZI.refl p H).upd.upd
 ·exists _,rfl,p,_,_,_,rfl,rfl,ZG.of ZR,rfl,_,_,rfl,rfl,_,rfl,p,_,_,_,rfl,rfl,ZR,rfl;exists _,rfl,p,_,_,_,rfl,rfl,ZG.of ZR,rfl,_,_,rfl,rfl,_,rfl,p,_,_,_,rfl,rfl,ZG.of ZR,rfl,_,_,rfl,rfl,.inl ⟨by decide,by decide⟩,_,_,rfl,rfl,_,_,rfl,rfl,.inl ⟨∅,∅⟩,_,_,rfl,rfl,(by show (0:Int)<2147483629;decide)
  generalize G:(a+1) * (48271+7919 * (b+1)) % 2147483629=x;exists _,rfl,_,_,rfl,rfl,⟨by decide,by decide⟩,_,_,rfl,rfl,_,rfl,_,_,rfl,rfl,(by show (0:Int)<1009;decide),_,_,rfl,rfl,_,_,rfl,rfl,.inl ⟨∅,∅⟩,_,_,rfl,rfl,(by show (0:Int)<1000000007;decide)
  exists _,rfl,_,_,rfl,rfl,⟨by decide,by decide⟩,_,rfl,_,_,rfl,rfl,g
  exact k _ _ (uX _ ∅) (uN _ g) ⟨a,b+1,c,d-1,ZR,i,j,r,∅⟩ (ZI.refl p H).upd.upd
abbrev ZQE:ju:=["_law_script","_law_k","_law_left","_law_cell","_law_digits"]
def QH:ZC ZQE zE0 (Zc KK):=Z9
def ZMk(F:Zp K "_law_well" "_law_well" KK f fd)(T:YX mg):ZJ P w K mg ki Ze 1 f fd zE0 (UI K):=by
 refine F.ok QH (λvs H Q E h=>?_) (λX A L s H vs Q E hr h=>?_)
 ·obtain⟨a,g,k,rfl,_⟩:=h;rfl
 obtain⟨a,g,k,rfl,u,hn,k0,k1,q⟩:=h;have J:=QH.nd;intro Xc;refine⟨_,ZQ (Zs 2 J (Ui Z6 (XF (Zi ZN (Zi ZN Zt))) (Vb F6 rfl T.int Q2 (Zi (V1 VT (pv 1) ZN (YE _)) Zt)) (λ_ _=>rfl)))
  (ZQ (Zs 3 J (Ui Z6 (Z0 PN (Vb Pq rfl T.list Qr (Zi (pv 0) Zt)) (XF (Zi ZN Zt))) (Z0 Qt (pv 1) (Zq (GL rfl) rfl T.max Nf (Zi ZN (Zi (Zq WA rfl T.len Xf (Zi (pv 0) Zt)) Zt)))) (λ_ _=>rfl)))
  (ZQ (Zs 4 J (Z0 Od (Zq Kg rfl T.abs Lu (Zi (pv 3) Zt)) (Vb F6 rfl T.int Q2 (Zi (Qx (V1 ZP6 (Zq Kg rfl T.abs Lu (Zi (pv 3) Zt)) (Z0 Fk ZN ZN) (YE _)) (OC (V1 NU (pv 1) (Zq WA rfl T.len Xf (Zi (pv 0) Zt)) (YE _)))) Zt))))
  (ZX (Zn (XF (Zi (Z0 Qt (pv 3) ZN) (Zi (Z0 Od ZN (pv 1)) (Zi (pv 4) (Zi (pv 2) Zt))))))))),?_⟩
 exists (by show 2<=aq;decide)
 intro l1 v;have O:=Zg v (.lst [V.int 240,V.int 2400]);refine⟨_,rfl,rfl,.inr ⟨_,rfl,?_⟩⟩;obtain⟨lv,t,D⟩:∃ z:Int,Xv [V.int 240,V.int 2400] (if decide (V.int k=V.int 0)=true then 1 else 0)=some (.int z)/\0<=z:=by
  split
  ·exact⟨2400,rfl,by decide⟩
  ·exact⟨240,rfl,by decide⟩
 exists l1,_,_,_,rfl,rfl,ZG.of ZR,t;exists _,rfl,a,_,rfl,.inl (O.seq u);intro S y;have Z:=O.trans (Zg y (.lst (g.map V.int)));exists (by show 1<=aq;decide)
 intro U n;have g3:=Z.trans (Zg n (.lst [V.int 0]));have I:S≠U:=Zb ZR n;exists S,U,_,_,rfl,rfl,(by rw[ZO I];exact ZR),ZR,(by rw[zX];exact nn (by show g.length+1<=1000;lia))
 intro l4 B;have p:=g3.trans (Zg B (.lst (g.map V.int++[V.int 0])));exists _,rfl,_,rfl,a,_,rfl,.inl (p.seq u),_,_,rfl;have C:(g.map V.int).length=g.length:=zX _;generalize R:(if (((g.map V.int).length:Nat):Int) > 1 then (((g.map V.int).length:Nat):Int) else 1)=M
 have M1:1<=M/\M<=(g.length:Int)+1:=by
  rw[C] at R;rw[<-R];split <;> lia
 exists _,_,rfl,rfl,by lia
 have i0:0<=k % M:=uX _ ∅
 have i1:k % M<M:=uN _ ∅
 obtain⟨Y,r,G⟩:=LH (xs:=g.map V.int++[V.int 0]) i0 (by rw[yS,zX,xH];lia)
 obtain⟨c,rfl⟩:∃ z:Int,Y=.int z:=by
  rcases yM.mp G with m | m
  ·obtain⟨z,_,e⟩:=zE.mp m;exact⟨z,e.symm⟩
  ·exact⟨0,yZ.mp m⟩
 exists l4,_,_,_,rfl,rfl,ZG.of ZR,r;have l:∀ b:Bool,0<=(if c<0 then -c else c) * (if b=true then 1 else 0):=λb=>by
  cases b
  ·simp
  ·simp;split <;> lia
 have N:∀(x:Int)(b:Bool),Pj x (if b=true then 1 else 0):=λx b=>.inr (by cases b <;> exact⟨by decide,by decide⟩)
 have j:∀(z:Int)(o:Hp),0<=z->ZA H o->∀ i,o i=none->Q (.ref i) (upd o i (.lst [.int (c % 2147483647),.int (1000 * k),.int z,.int lv])):=λz o z0 W i d=>
  q i _ (W.free d) (W.trans (Zg d _)) ⟨_,_,_,_,ZR,uX _ (by decide),uN _ (by decide),z0,D⟩
 exists _,rfl,_,rfl,_,rfl,_,rfl,_,_,rfl,rfl,⟨by decide,by decide,by decide⟩,_,_,rfl,rfl,_,rfl
 refine Wu (λ_=>?_) (λ_=>?_)
 ·refine⟨_,rfl,_,rfl,a,_,rfl,.inl (p.seq u),_,_,rfl,rfl,.inr ⟨_,rfl,_,_,rfl,rfl,N _ _,?_⟩⟩;exists _,rfl,_,_,rfl,rfl,(by show (0:Int)<2147483647;decide),_,rfl,_,_,rfl,rfl,.inl ⟨by decide,by decide⟩,_,rfl,_,rfl,(by show 4<=aq;decide)
  intro i d;exact j _ _ (l _) p i d
 ·refine .inr ⟨_,rfl,_,_,rfl,rfl,N _ false,?_⟩;exists _,rfl,_,_,rfl,rfl,(by show (0:Int)<2147483647;decide),_,rfl,_,_,rfl,rfl,.inl ⟨by decide,by decide⟩,_,rfl,_,rfl,(by show 4<=aq;decide)
  intro i d;exact j _ _ (l false) p i d
structure Zl(K:zZ)(mg:jc)(x:Str)(st:aC)(ps:ju):Prop where
 ex:∃ f fd,Zp K x x st f fd/\Z8 K fd ps []/\mg x=some (.ref f)
def Zl.of{P:am}{w:aw}{K:zZ}{d:jc}{a:aD}{x:Str}{i:aC}{e:ju}{k:Nat}{g:Sp}(L:Zl K d x i e)(h:∀ f c,Zp K x x i f c->ZJ P w K d a Ze k f c e g):ZB P w K d a k x e g:=by
 obtain⟨f,c,F,b,m⟩:=L.ex;exact⟨f,c,h f c F,b,F.kp,m⟩
def Lc{K:zZ}{h:aD}{p:jc}{x:Str}{e:aC}{n:ju}{f:aj}{t g:jz}{u:Array (jd)}{s kV q m o ct:ai}(X:K.In h)(G:h.Ns ap p)(a:zP K ap x=some (some (.ref f)))(l:K.lookup f=some ⟨s,t,.func (yG x x (Ve e) (Xd e) (Zc e) .none kV q m g o ct),u⟩)(c:xR K o x=true)(k:yW K (.ref f)=true)(r:∀ (kV j m:ai) (g:jz) (i ct:ai) (b:je),b.length=n.length->bindArgs (yG x x (Ve e) (Xd e) (Zc e) .none kV j m g i ct) ⟨b,[]⟩=pure (n.zip b):=by first | exact(λ_ _ _ _ _ _ b d=>match b,d with | [_],_=>rfl) | exact(λ_ _ _ _ _ _ b d=>match b,d with | [_,_],_=>rfl) | exact(λ_ _ _ _ _ _ b d=>match b,d with | [_,_,_],_=>rfl) | exact(λ_ _ _ _ _ _ b d=>match b,d with | [_,_,_,_],_=>rfl) | exact(λ_ _ _ _ _ _ b d=>match b,d with | [_,_,_,_,_],_=>rfl)):Zl K p x e n:=
 ⟨f,_,Vk (st:=e) l c k,(Vk (st:=e) l c k).binds r,zA X G a⟩
def Xa{H:Hp}{p:aj}(h:H p=none)(o:HO):∃ a,L2.upd H p o=a/\ZA H a/\a p=some o:=⟨_,rfl,Zg h o,ZR⟩
inductive V9(n:Nat)(c:jf)(H:Hp)(Q:VK)(_:XK):Prop
 |mk(v:V)(t:KT)(q:Nat)(_:c=[v])(_:ZF H t v)(_:t.fits q=true)(_:t.depth<n)(_:∀(b:V)(a:Hp),ZF a t.st b->ZA H a->Q b a)
inductive Yp(d:jf)(H:Hp)(Q:VK)(_:XK):Prop
 |mk(v u:V)(a b:KT)(_:d=[v,u])(_:ZF H a v)(_:ZF H b u)(_:a.fits 3=true)(_:b.fits 3=true)(_:∀ c,ZA H c->Q (.bl (a.lt b)) c)
def BI:ZC zFb zFb (Zc Mn):=Z9
def ZMi{k:Nat}:ZJ P w K mg ki Ze k f fd zFb (V9 0):=by
 have c:∀ a H Q E,¬ V9 0 a H Q E:=λa H Q E h=>by
  obtain⟨v,t,q,_,_,_,d,_⟩:=h
  lia
 exact⟨λa H Q E h=>absurd h (c a H Q E),λA b s H args e a Q E _ _ _ _ h=>absurd h (c a H Q E)⟩
def CU{n:Nat}(F:Zp K "standing" "standing" Mn f fd)(T:YX mg)(DS:ZB P w K mg ki (n+1) "standing" zFb (V9 n)):ZJ P w K mg ki Ze (n+2) f fd zFb (V9 (n+1)):=by
 refine F.ok BI (λg H Q E h=>?_) (λa1 A a0 s H g Q E hr h=>?_)
 ·obtain⟨v,t,q,rfl,_⟩:=h;rfl
 obtain⟨v,t,q,rfl,d,hq,hn,k⟩:=h;intro Xc;refine⟨_,ZQ (Zy (Yf (Zq XW rfl T.isi Yw (Zi (pv 0) (Zi (XQ (v:=.ty "int") rfl T.int Q2 rfl) Zt)))) (ZX (Zn (Yi (Zi ZN (Zi (pv 0) Zt))))) Z2)
  (ZQ (Zy (Yf (Zq XW rfl T.isi Yw (Zi (pv 0) (Zi (XQ (v:=.ty "str") rfl T.str NJ rfl) Zt)))) (ZX (Zn (Yi (Zi ZN (Zi (pv 0) Zt))))) Z2)
  (ZX (Zn (Yi (Zi ZN (Zi (Vb NO rfl T.tuple Qs (Zi (Qz [] [] rfl (M9 (pv 0)) (λ_ _ _ _ _=>Uh) (λ_ _ _ _ _=>Zr DS hr (Zi (pv 0) Zt)) trivial) Zt)) Zt)))))),?_⟩
 cases t with
 | int i=>
  have N:v=.int i:=by rw[ZF] at d;exact d
  subst N;refine⟨_,rfl,_,_,_,_,rfl,d.ty,OU,_,rfl,Z1 ?_⟩;exists _,rfl,(by show 2<=aq;decide)
  intro p U;refine k _ _ ?_ (Zg U _);rw[KT.st];exact .tup ZR (.cons (.int 0) (.cons (.int i) .nil))
 | str x=>
  have N:v=.str x:=by rw[ZF] at d;exact d
  subst N;refine⟨_,rfl,_,_,_,_,rfl,d.ty,JT,_,rfl,Zk ?_⟩;refine⟨_,rfl,_,_,_,_,rfl,d.ty,Nq,_,rfl,Z1 ?_⟩;exists _,rfl,(by show 2<=aq;decide)
  intro p U;refine k _ _ ?_ (Zg U _);rw[KT.st];exact .tup ZR (.cons (.int 1) (.cons (.str x) .nil))
 | tup l=>
  have C:=d;rw[ZF] at C;obtain⟨a,g,rfl,I,G⟩:=C;have hl:=G.length;rw[KT.fits,zR,zR] at hq;obtain⟨a5,X,B⟩:=hq;have a4:l.length<=4:=of_decide_eq_true X;rw[KT.depth] at hn;refine⟨_,rfl,_,_,_,_,rfl,d.ty,Kz,_,rfl,Zk ?_⟩;refine⟨_,rfl,_,_,_,_,rfl,d.ty,Ib,_,rfl,Zk ?_⟩;exists _,rfl,a,rfl,⟨g,Zh.of I⟩;refine UT (n:=g.length) (λi z=>g[i]? = some z) (λD i m r=>ZA H r/\H D=none/\jX r ((l.take i).map KT.st) m) (YS ∅)
   (λD i m r S j=>⟨g,g[i],Zh.of (j.1 _ _ I),by simp[S]⟩) (λD i m r z u S j hy=>⟨hy.1,hy.2 g (Zh.of (j.1 _ _ I))⟩) (λD m r j=>⟨g,Zh.of (j.1 _ _ I),zY _⟩)
   (λD hD=>⟨Zg hD _,hD,.nil⟩) (λD i m r z M a3 S hz j R hR=>?_) (λD m r M j=>?_)
  ·obtain⟨L,nD,c⟩:=j;obtain⟨t,J,kt⟩:=G.get hz;have mt:=zB J;have Y:t.fits (q-1)=true:=by
    rw[Ma] at B;exact zO.mp B t mt
   have a2:=NR mt;exists _,rfl,z,t,q-1,rfl,kt.sm L,Y,by lia
   intro v' u k4 s4;have y:=s4 D _ M;have tD:YO u (upd u D (.lst (m++[v']))):=(ZI.refl D u).upd.tups y;refine hR v' u y ⟨λb o e=>by rw[ZO (Zb e nD)];exact s4 b o (L b o e),nD,?_⟩
   rw[yP,J,yR];exact((c.sm s4).append (.cons k4 .nil)).mono tD _ _
  ·obtain⟨L,nD,c⟩:=j;have J:l.take g.length=l:=yK ∅
   rw[J] at c;have Z:=c.length;rw[zX] at Z;refine⟨D,m,rfl,.inl ⟨ZG.of M,λp1 V=>?_⟩⟩;have g1:=Zg V (.tup m);exists (by show 2<=aq;decide)
   intro p2 W;have O:=Zg W (.tup [.int 2,.ref p1]);refine k _ _ ?_ ((L.trans g1).trans O);rw[KT.st,Gu];exact .tup ZR (.cons (.int 2) (.cons (.tup (O _ _ ZR) (c.sm (g1.trans O))) .nil))
def FZ(T:YX mg)(L:Zl K mg "standing" Mn zFb):∀ n:Nat,ZB P w K mg ki (n+1) "standing" zFb (V9 n)
 | 0=>L.of λ_ _ _=>ZMi
 | n+1=>L.of λ_ _ F=>CU F T (FZ T L n)
def ZNn:ZC zE6 zE6 (Zc Ly):=Z9
def ZKh(F:Zp K "ahead" "ahead" Ly f fd)(e:ZB P w K mg ki 6 "standing" zFb (V9 5)):ZJ P w K mg ki Ze 7 f fd zE6 Yp:=by
 refine F.ok ZNn (λt H Q E h=>?_) (λn A d s H t Q E c h=>?_)
 ·obtain⟨v,u,a,b,rfl,_⟩:=h;rfl
 obtain⟨v,u,a,b,rfl,o,p,g,i,k⟩:=h;intro y;exists _,ZX (Zn (V1 (HY c) (Zr e c (Zi (pv 0) Zt)) (Zr e c (Zi (pv 1) Zt)) (YE _)));have z:=Pa a 3 g;have B:=Pa b 3 i;have C:=Ft a;exists _,rfl,v,a,3,rfl,o,g,by lia
 intro D x q j;exists _,rfl,u,b,3,rfl,p.sm j,i,by lia
 intro G m r l;exists a.st,b.st,q.sm l,r,HB a b,by lia
 rw[Gz];exact k m (j.trans l)
mutual
def KT.wide:KT->Nat->Bool
 | .int _,_=>true
 | .str _,_=>true
 | .tup l,r=>decide (0<r)&&(decide (l.length<=100)&&wideL l (r-1))
def wideL:jr->Nat->Bool
 | [],_=>true
 | t::l,r=>t.wide r&&wideL l r
end
def NQ:∀(l:jr)(r:Nat),wideL l r=l.all (·.wide r)
 | [],r=>by rw[wideL];rfl
 | t::l,r=>by rw[wideL,NQ l r];rfl
mutual
def MF:∀(t:KT)(r:Nat),t.fits r=true->t.wide r=true
 | .int _,_,_=>by rw[KT.wide]
 | .str _,_,_=>by rw[KT.wide]
 | .tup l,r,h=>by
  rw[KT.fits,zR,zR] at h;rw[KT.wide,zR,zR];have:=of_decide_eq_true h.2.1;exact⟨h.1,aO ∅,wideL_of l (r-1) h.2.2⟩
def wideL_of:∀(l:jr)(r:Nat),fitsL l r=true->wideL l r=true
 | [],_,_=>by rw[wideL]
 | t::l,r,h=>by
  rw[fitsL,zR] at h;rw[wideL,zR];exact⟨MF t r h.1,wideL_of l r h.2⟩
end
inductive YH(n:Nat)(b:jf)(H:Hp)(Q:VK)(_:XK):Prop
 |mk(v u:V)(t:KT)(r:Nat)(_:b=[v,u])(_:ZF H t v)(_:ZF H t u)(_:t.wide r=true)(_:r<n)(_:∀ a,ZA H a->Q (.bl true) a)
def HF{d:Sp}{k:Nat}{e:ju}(c:∀ a H Q E,¬ d a H Q E):ZJ P w K mg ki Ze k f fd e d:=
 ⟨λa H Q E h=>absurd h (c a H Q E),λA b s H args g a Q E _ _ _ _ h=>absurd h (c a H Q E)⟩
def ZNW:ZC zEc zEc (Zc Lm):=Z9
def ZKm{n:Nat}(F:Zp K "_law_alike" "_law_alike" Lm f fd)(T:YX mg)(DA:ZB P w K mg ki (n+1) "_law_alike" zEc (YH n)):
  ZJ P w K mg ki Ze (n+2) f fd zEc (YH (n+1)):=by
 refine F.ok ZNW (λd H Q E h=>?_) (λa2 A a0 s H d Q E hr h=>?_)
 ·obtain⟨v,u,t,r,rfl,_⟩:=h;rfl
 obtain⟨v,u,t,r,rfl,q,p,hf,hn,k⟩:=h;intro Xc;refine⟨_,ZQ (Zy (Yf (Zq XW rfl T.isi Yw (Zi (pv 1) (Zi (XQ (v:=.ty "tuple") rfl T.tuple Qs rfl) Zt))))
   (ZQ (Zy (PW.pt (VZ (XT (Yf (Zq XW rfl T.isi Yw (Zi (pv 0) (Zi (XQ (v:=.ty "tuple") rfl T.tuple Qs rfl) Zt)))))
    (Up (Yh PZ (Zq WA rfl T.len Xf (Zi (pv 0) Zt)) (Zq WA rfl T.len Xf (Zi (pv 1) Zt)) (YE _))))) (ZX (Zn Vz)) Z2)
   (ZX (Zn (Zq (Li rfl) rfl T.all Mw (Zi (Qz [0,1] zEc rfl (Os rfl T.range (Zi (Zq WA rfl T.len Xf (Zi (pv 1) Zt)) Zt)) (λ_ _ _ _ _=>Uh)
    (λ_ _ _ _ _=>Zr DA hr (Zi (Zm K (pv 1) (pv 0)) (Zi (Zm K (pv 2) (pv 0)) Zt))) ⟨rfl,.inl rfl,rfl,rfl,.inl rfl,rfl,trivial⟩) Zt))))) Z2)
  (ZQ (Zy (Yf (Zq XW rfl T.isi Yw (Zi (pv 1) (Zi (XQ (v:=.ty "str") rfl T.str NJ rfl) Zt))))
   (ZX (Zn (Qx (Zq XW rfl T.isi Yw (Zi (pv 0) (Zi (XQ (v:=.ty "str") rfl T.str NJ rfl) Zt))) (OC (V1 VT (pv 0) (pv 1) (YE _)))))) Z2)
  (ZX (Zn (Qx (Zq XW rfl T.isi Yw (Zi (pv 0) (Zi (XQ (v:=.ty "int") rfl T.int Q2 rfl) Zt)))
   (Qx (Iq (Zq XW rfl T.isi Yw (Zi (pv 0) (Zi (XQ (v:=.ty "bool") rfl T.bool P7 rfl) Zt)))) (OC (V1 VT (pv 0) (pv 1) (YE _)))))))),?_⟩
 cases t with
 | int i=>
  have U:v=.int i:=by rw[ZF] at q;exact q
  have S:u=.int i:=by rw[ZF] at p;exact p
  subst U S;refine⟨_,rfl,_,_,_,_,rfl,.int i,Bf,_,rfl,Zk ?_⟩;refine⟨_,rfl,_,_,_,_,rfl,.int i,kit_is',_,rfl,Zk ?_⟩;refine⟨_,rfl,_,_,_,_,rfl,.int i,OU,_,rfl,Z1 ?_⟩;refine⟨_,rfl,_,_,_,_,rfl,.int i,NT,_,rfl,_,rfl,Z1 ?_⟩;exists _,rfl,_,rfl,rfl;rw[aO rfl];exact k H (ZA.refl H)
 | str x=>
  have U:v=.str x:=by rw[ZF] at q;exact q
  have S:u=.str x:=by rw[ZF] at p;exact p
  subst U S;refine⟨_,rfl,_,_,_,_,rfl,.str x,ZOd,_,rfl,Zk ?_⟩;refine⟨_,rfl,_,_,_,_,rfl,.str x,Nq,_,rfl,Z1 ?_⟩;refine⟨_,rfl,_,_,_,_,rfl,.str x,Nq,_,rfl,Z1 ?_⟩;exists _,rfl,_,rfl,rfl;rw[aO rfl];exact k H (ZA.refl H)
 | tup l=>
  rw[ZF] at q p;obtain⟨a,d,rfl,N,G⟩:=q;obtain⟨b,c,rfl,I,C⟩:=p;have hl:=G.length;have a4:=C.length;rw[KT.wide,zR,zR] at hf;obtain⟨f0,f1,f2⟩:=hf;have r0:=of_decide_eq_true f0;have l4:=of_decide_eq_true f1;have ty:Y9 K H (.ref a) (.type "tuple"):=.tup N;have a1:Y9 K H (.ref b) (.type "tuple"):=.tup I;have Z:c.length=d.length:=nofun
  refine⟨_,rfl,_,_,_,_,rfl,a1,Le,_,rfl,Z1 ?_⟩;refine⟨_,rfl,_,_,_,_,rfl,ty,Le,_,rfl,Zk ?_⟩;refine⟨_,rfl,a,d,rfl,.inr (Zh.of N),_,rfl,b,c,rfl,.inr (Zh.of I),rfl,_,rfl,NP (by rw[Z]) ?_⟩
  exists _,rfl,b,c,rfl,.inr (Zh.of I),_,rfl,nofun,nofun
  rw[Int.toNat_natCast];refine UT (n:=c.length) (λi x=>x=.int (0+(i:Int))) (λD i y j=>ZA H j/\H D=none/\y=(vN i true).map V.bl) (YS nofun)
   (λD i y j J _=>J) (λD i y j x H4 J _ hy=>hy) (λD y j _=>zY _) (λD hD=>⟨Zg hD _,hD,rfl⟩) (λD i y j x M a3 J hx W R hR=>?_) (λD y j M W=>?_)
  ·subst hx;obtain⟨m,nD,rfl⟩:=W;have X:i<d.length:=nofun
   have B:d[i]? = some d[i]:=by simp[X]
   have z:c[i]? = some c[i]:=by simp[J]
   obtain⟨t,et,kt⟩:=G.get B;obtain⟨L,g,Y⟩:=C.get z;have O:L=t:=by rw[et] at g;injection g with g;exact g.symm
   subst O;have ft:L.wide (r-1)=true:=by rw[NQ] at f2;exact zO.mp f2 L (zB et)
   have av:Xv d (0+(i:Int))=some d[i]:=by rw[Int.zero_add];exact Xg B
   have au:Xv c (0+(i:Int))=some c[i]:=by rw[Int.zero_add];exact Xg z
   refine⟨_,rfl,_,rfl,.inr (.inl ⟨a,d,_,_,rfl,rfl,Zh.of (m _ _ N),av,_,rfl,_,rfl,.inr (.inl ⟨b,c,_,_,rfl,rfl,Zh.of (m _ _ I),au,d[i],c[i],L,r-1,rfl,kt.sm m,Y.sm m,ft,nofun,λH4 s4=>?_⟩)⟩)⟩
   refine hR _ H4 (s4 D _ M) ⟨λb o e=>by rw[ZO (Zb e nD)];exact s4 b o (m b o e),nD,?_⟩
   rw[List.replicate_succ'];simp
  ·obtain⟨m,nD,rfl⟩:=W;exists D,_,rfl,ZG.of M;have e:(vN c.length true).all id=true:=by simp
   rw[e];exact k j m
def Eo(T:YX mg)(L:Zl K mg "_law_alike" Lm zEc):∀ n:Nat,ZB P w K mg ki (n+1) "_law_alike" zEc (YH n)
 | 0=>L.of λ_ _ _=>HF λb H Q E h=>by obtain⟨v,u,t,r,_,_,_,_,a,_⟩:=h;lia
 | n+1=>L.of λ_ _ F=>ZKm F T (Eo T L n)
mutual
def KT.rk:KT->KT
 | .int i=>.tup [.int 0,.int i,.str "",.tup []]
 | .str x=>.tup [.int 1,.int 0,.str x,.tup []]
 | .tup l=>.tup [.int 2,.int 0,.str "",.tup (rkL l)]
def rkL:jr->jr
 | []=>[]
 | t::l=>t.rk::rkL l
end
def GP:∀ l:jr,rkL l=l.map KT.rk
 | []=>by rw[rkL];rfl
 | t::l=>by rw[rkL,GP l];rfl
mutual
def El:∀ a b:KT,a.rk.eqb b.rk=a.eqb b
 | .int i,.int j=>by simp[KT.rk,KT.eqb,jZ]
 | .str x,.str y=>by simp[KT.rk,KT.eqb,jZ]
 | .tup l,.tup m=>by simp[KT.rk,KT.eqb,jZ,eqbL_rk l m]
 | .int _,.str _=>by simp[KT.rk,KT.eqb,jZ]
 | .int _,.tup _=>by simp[KT.rk,KT.eqb,jZ]
 | .str _,.int _=>by simp[KT.rk,KT.eqb,jZ]
 | .str _,.tup _=>by simp[KT.rk,KT.eqb,jZ]
 | .tup _,.int _=>by simp[KT.rk,KT.eqb,jZ]
 | .tup _,.str _=>by simp[KT.rk,KT.eqb,jZ]
def eqbL_rk:∀ l m:jr,jZ (rkL l) (rkL m)=jZ l m
 | [],[]=>by simp[rkL,jZ]
 | a::l,b::m=>by simp[rkL,jZ,El a b,eqbL_rk l m]
 | [],_::_=>by simp[rkL,jZ]
 | _::_,[]=>by simp[rkL,jZ]
end
mutual
def Hi:∀ a b:KT,a.rk.cmp b.rk=true
 | .int i,.int j=>by simp[KT.rk,KT.eqb,KT.cmp,cmpL,jZ]
 | .str x,.str y=>by simp[KT.rk,KT.eqb,KT.cmp,cmpL,jZ]
 | .tup l,.tup m=>by simp[KT.rk,KT.eqb,KT.cmp,cmpL,cmpL_rk l m]
 | .int _,.str _=>by simp[KT.rk,KT.eqb,KT.cmp,cmpL]
 | .int _,.tup _=>by simp[KT.rk,KT.eqb,KT.cmp,cmpL]
 | .str _,.int _=>by simp[KT.rk,KT.eqb,KT.cmp,cmpL]
 | .str _,.tup _=>by simp[KT.rk,KT.eqb,KT.cmp,cmpL]
 | .tup _,.int _=>by simp[KT.rk,KT.eqb,KT.cmp,cmpL]
 | .tup _,.str _=>by simp[KT.rk,KT.eqb,KT.cmp,cmpL]
def cmpL_rk:∀ l m:jr,cmpL (rkL l) (rkL m)=true
 | [],_=>by simp[rkL,cmpL]
 | _::_,[]=>by simp[rkL,cmpL]
 | a::l,b::m=>by
  rw[rkL,rkL,cmpL,cmpL_rk l m,Hi a b];split <;> rfl
end
mutual
def GW:∀ a b:KT,a.rk.plt b.rk=a.lt b
 | .int i,.int j=>by
  simp only[KT.rk,KT.eqb,KT.plt,pltL,jZ,KT.lt,beq_self_eq_true,if_true];by_cases h:i=j
  ·subst h;simp
  ·simp[h]
 | .str x,.str y=>by
  simp only[KT.rk,KT.eqb,KT.plt,pltL,jZ,KT.lt,beq_self_eq_true,if_true];by_cases h:x=y
  ·subst h;simp
  ·simp[h]
 | .tup l,.tup m=>by
  simp only[KT.rk,KT.eqb,KT.plt,pltL,KT.lt,beq_self_eq_true,if_true,eqbL_rk,pltL_rk l m]
  cases h:jZ l m with
  | true=>rw[aQ rfl,Fq h]
  | false=>rw[aP zT]
 | .int _,.str _=>by simp[KT.rk,KT.eqb,KT.plt,pltL,KT.lt]
 | .int _,.tup _=>by simp[KT.rk,KT.eqb,KT.plt,pltL,KT.lt]
 | .str _,.int _=>by simp[KT.rk,KT.eqb,KT.plt,pltL,KT.lt]
 | .str _,.tup _=>by simp[KT.rk,KT.eqb,KT.plt,pltL,KT.lt]
 | .tup _,.int _=>by simp[KT.rk,KT.eqb,KT.plt,pltL,KT.lt]
 | .tup _,.str _=>by simp[KT.rk,KT.eqb,KT.plt,pltL,KT.lt]
def pltL_rk:∀ l m:jr,pltL (rkL l) (rkL m)=ltL l m
 | [],[]=>by simp[rkL,pltL,ltL]
 | [],_::_=>by simp[rkL,pltL,ltL]
 | _::_,[]=>by simp[rkL,pltL,ltL]
 | a::l,b::m=>by rw[rkL,rkL,pltL,ltL,El a b,pltL_rk l m,GW a b]
end
mutual
def Ho:∀ t:KT,t.rk.depth<=2 * t.depth+2
 | .int i=>by simp[KT.rk,KT.depth,ke]
 | .str x=>by simp[KT.rk,KT.depth,ke]
 | .tup l=>by
  have:=depthL_rk l;simp only[KT.rk,KT.depth,ke]
  lia
def depthL_rk:∀ l:jr,ke (rkL l)<=2 * ke l+2
 | []=>by simp[rkL,ke]
 | t::l=>by
  have a:=Ho t;have b:=depthL_rk l;rw[rkL,ke,ke]
  lia
end
inductive VH(n:Nat)(c:jf)(H:Hp)(Q:VK)(_:XK):Prop
 |mk(v:V)(t:KT)(q:Nat)(_:c=[v])(_:ZF H t v)(_:t.fits q=true)(_:t.depth<n)(_:∀(b:V)(a:Hp),ZF a t.rk b->ZA H a->Q b a)
def B3:ZC zE5 zE5 (Zc Mq):=Z9
def D1{n:Nat}(F:Zp K "_law_rank" "_law_rank" Mq f fd)(T:YX mg)(DS:ZB P w K mg ki (n+1) "_law_rank" zE5 (VH n)):ZJ P w K mg ki Ze (n+2) f fd zE5 (VH (n+1)):=by
 refine F.ko B3 λa4 A a3 s H j Q E hr h=>?_;obtain⟨v,t,q,rfl,d,hq,hn,k⟩:=h;intro Xc;refine⟨_,ZQ (Zy (Yf (Zq XW rfl T.isi Yw (Zf (pv 0) (XQ (v:=.ty "int") rfl T.int Q2 rfl)))) (ZX (Zn (Yi (Pm ZN (pv 0) Ym (Yi Zt))))) Z2)
  (ZQ (Zy (Yf (Zq XW rfl T.isi Yw (Zf (pv 0) (XQ (v:=.ty "str") rfl T.str NJ rfl)))) (ZX (Zn (Yi (Pm ZN ZN (pv 0) (Yi Zt))))) Z2)
  (ZX (Zn (Yi (Pm ZN ZN Ym (Vb NO rfl T.tuple Qs (ZY (Qz [] [] rfl (M9 (pv 0)) (λ_ _ _ _ _=>Uh) (λ_ _ _ _ _=>Zr DS hr (ZY (pv 0))) trivial)))))))),?_⟩
 cases t with
 | int i=>
  have O:v=.int i:=by rw[ZF] at d;exact d
  subst O;refine⟨_,rfl,_,_,_,_,rfl,d.ty,OU,_,rfl,Z1 ?_⟩;refine⟨_,rfl,(by show 0<=aq;decide),λp0 V=>⟨(by show 4<=aq;decide),λp X=>?_⟩⟩
  have S:=Zg V (.tup []);have r:=Zg X (.tup [.int 0,.int i,.str "",.ref p0]);refine k _ _ ?_ (S.trans r);rw[KT.rk];exact .tup ZR (.cons (.int 0) (.cons (.int i) (.cons (.str _) (.cons (.tup (r _ _ ZR) .nil) .nil))))
 | str x=>
  have O:v=.str x:=by rw[ZF] at d;exact d
  subst O;refine⟨_,rfl,_,_,_,_,rfl,d.ty,JT,_,rfl,Zk ?_⟩;refine⟨_,rfl,_,_,_,_,rfl,d.ty,Nq,_,rfl,Z1 ?_⟩;refine⟨_,rfl,(by show 0<=aq;decide),λp0 V=>⟨(by show 4<=aq;decide),λp X=>?_⟩⟩
  have S:=Zg V (.tup []);have r:=Zg X (.tup [.int 1,.int 0,.str x,.ref p0]);refine k _ _ ?_ (S.trans r);rw[KT.rk];exact .tup ZR (.cons (.int 1) (.cons (.int 0) (.cons (.str x) (.cons (.tup (r _ _ ZR) .nil) .nil))))
 | tup l=>
  have G:=d;rw[ZF] at G;obtain⟨a,j,rfl,J,I⟩:=G;have hl:=I.length;rw[KT.fits,zR,zR] at hq;obtain⟨a8,a0,C⟩:=hq;have a7:l.length<=4:=of_decide_eq_true a0;rw[KT.depth] at hn;refine⟨_,rfl,_,_,_,_,rfl,d.ty,Kz,_,rfl,Zk ?_⟩;refine⟨_,rfl,_,_,_,_,rfl,d.ty,Ib,_,rfl,Zk ?_⟩;exists _,rfl,a,rfl,⟨j,Zh.of J⟩;refine UT (n:=j.length) (λi z=>j[i]? = some z) (λD i m u=>ZA H u/\H D=none/\jX u ((l.take i).map KT.rk) m) (YS ∅)
   (λD i m u W g=>⟨j,j[i],Zh.of (g.1 _ _ J),by simp[W]⟩) (λD i m u z y W g hy=>⟨hy.1,hy.2 j (Zh.of (g.1 _ _ J))⟩) (λD m u g=>⟨j,Zh.of (g.1 _ _ J),zY _⟩)
   (λD hD=>⟨Zg hD _,hD,.nil⟩) (λD i m u z N a6 W hz g R hR=>?_) (λD m u N g=>?_)
  ·obtain⟨M,nD,c⟩:=g;obtain⟨t,L,kt⟩:=I.get hz;have mt:=zB L;have a1:t.fits (q-1)=true:=by
    rw[Ma] at C;exact zO.mp C t mt
   have a5:=NR mt;exists _,rfl,z,t,q-1,rfl,kt.sm M,a1,by lia
   intro v' y k4 s4;have B:=s4 D _ N;have tD:YO y (upd y D (.lst (m++[v']))):=(ZI.refl D y).upd.tups B;refine hR v' y B ⟨λb o e=>by rw[ZO (Zb e nD)];exact s4 b o (M b o e),nD,?_⟩
   rw[yP,L,yR];exact((c.sm s4).append (.cons k4 .nil)).mono tD _ _
  ·obtain⟨M,nD,c⟩:=g;have L:l.take j.length=l:=yK ∅
   rw[L] at c;have a2:=c.length;rw[zX] at a2;refine⟨D,m,rfl,.inl ⟨ZG.of N,λp1 Y=>?_⟩⟩;have r:=Zg Y (.tup m);exists (by show 4<=aq;decide)
   intro p2 Z;have U:=Zg Z (.tup [.int 2,.int 0,.str "",.ref p1]);refine k _ _ ?_ ((M.trans r).trans U);rw[KT.rk,GP];exact .tup ZR (.cons (.int 2) (.cons (.int 0) (.cons (.str _) (.cons (.tup (U _ _ ZR) (c.sm (r.trans U))) .nil))))
def Iz(T:YX mg)(L:Zl K mg "_law_rank" Mq zE5):∀ n:Nat,ZB P w K mg ki (n+1) "_law_rank" zE5 (VH n)
 | 0=>L.of λ_ _ _=>HF λb H Q E h=>by obtain⟨v,t,q,_,_,_,a,_⟩:=h;lia
 | n+1=>L.of λ_ _ F=>D1 F T (Iz T L n)
def ZOc:ZC zEt zEt (Zc K1):=Z9
def ZNE(F:Zp K "_law_less" "_law_less" K1 f fd)(e:ZB P w K mg ki 6 "_law_rank" zE5 (VH 5)):ZJ P w K mg ki Ze 7 f fd zEt Yp:=by
 refine F.ko ZOc λn A d s H G Q E c h=>?_;obtain⟨v,u,a,b,rfl,o,p,g,i,k⟩:=h;intro x;exists _,ZX (Zn (V1 (HY c) (Zr e c (ZY (pv 0))) (Zr e c (ZY (pv 1))) (YE _)));have y:=Pa a 3 g;have z:=Pa b 3 i;have B:=Ho a;exists _,rfl,v,a,3,rfl,o,g,by lia
 intro C t q j;exists _,rfl,u,b,3,rfl,p.sm j,i,by lia
 intro D m r l;exists a.rk,b.rk,q.sm l,r,Hi a b,by lia
 rw[GW];exact k m (j.trans l)
end Tw
namespace L2
open PySem PySem.Spec PyProof.Rows
inductive Pc(b:zZ)(c:jf)(H:Hp)(Q:VK):Prop
 |mk(p:aj)(a:jC)(_:c=[.ref p])(_:ZG b H p (a.map V.int))(_:Q (.int a.sum) H)
def ZOi(g:X.calm=true):VI X (.builtin "sum") (Pc X.K):=by
 intro d s A H z y Q I r h;obtain⟨p,c,rfl,j,q⟩:=h;obtain⟨u,rfl,m⟩:=VY r;cases m;obtain⟨k,n,l,x⟩:=I.list j;have a:=IP n;obtain⟨v,e⟩:=a.allInts.items;have b:=l.isList;rw[e] at b;have f:v.toList.map (·.1)=c:=by
  rw[<-nums_intItems,<-e];exact a.numsOf
 refine sum_intListG (I.ok.hd g) b λw t o i=>⟨.int c.sum,H,I.kept (t':=t) i,⟨o,?_⟩,q⟩;rw[preSum_eq,yK (by simp),f]
end L2
namespace Tw
open PySem PySem.Spec L2 PyProof.Rows
variable{jh ji CS CT CH CK CP CB:aj}
def ZOu:ay "sum" = some (.builtin "sum"):=by decide +kernel
structure YZ where
 h:Int
 lo:KT
 hi:KT
 m:Int
abbrev jM:=List YZ
def YZ.d:YZ:=⟨0,.int 0,.int 0,0⟩
def YZ.kt(L:YZ):KT:=.tup [.int L.h,L.lo,L.hi,.int L.m]
inductive YD(H:Hp)(L:YZ)(u:V):Prop
 |mk(a c b:_)(_:u=.ref a)(_:H a=some (.tup [.int L.h,c,b,.int L.m]))(_:ZF H L.lo c)(_:ZF H L.hi b)
def YD.mono{H d:Hp}{L:YZ}{u:V}(x:YD H L u)(m:YO H d):YD d L u:=by
 obtain⟨a,c,b,e,f,g,h⟩:=x;exact⟨a,c,b,e,m _ _ f,g.mono m _ _,h.mono m _ _⟩
def YD.key{H:Hp}{L:YZ}{u:V}(x:YD H L u):ZF H L.kt u:=by
 obtain⟨a,f,e,rfl,b,c,d⟩:=x;exact .tup b (.cons (.int _) (.cons c (.cons d (.cons (.int _) .nil))))
def Ye(H:Hp)(a:jM)(b:jf):Prop:=b.length=a.length/\∀ i u,b[i]? = some u->YD H (a.getD i .d) u
def Ye.mono{H a:Hp}{b:jM}{c:jf}(x:Ye H b c)(m:YO H a):Ye a b c:=⟨x.1,λi u e=>(x.2 i u e).mono m⟩
def YZ.fit(L:YZ):Prop:=L.lo.fits 3=true/\L.hi.fits 3=true
def QA(a b:YZ):Bool:=(a.h==b.h)&&a.hi.lt b.lo
def Lq(a:jM):Bool:=(zQ (a.length-1)).all λj=>QA (a.getD j .d) (a.getD (j+1) .d)
def over(a:jM):Option YZ:=if 2<=a.length/\a.length<=4/\Lq a=true then some ⟨(a.getD 0 .d).h+1,(a.getD 0 .d).lo,(a.getD (a.length-1) .d).hi,(a.map YZ.m).sum⟩ else none
def Gi{a:jM}(h:¬ (2<=a.length/\a.length<=4)):over a=none:=aP λz=>h ⟨z.1,z.2.1⟩
def C7{a:jM}{i:Nat}(b:i+1<a.length)(h:QA (a.getD i .d) (a.getD (i+1) .d)=false):over a=none:=aP λz=>by
 have:=zO.mp z.2.2 i (xX.mpr ∅)
 rw[h] at this;cases this
def Ab{ls:jM}(a:2<=ls.length)(b:ls.length<=4)(h:∀ j,j<ls.length-1->QA (ls.getD j .d) (ls.getD (j+1) .d)=true):over ls=some ⟨(ls.getD 0 .d).h+1,(ls.getD 0 .d).lo,(ls.getD (ls.length-1) .d).hi,(ls.map YZ.m).sum⟩:=
 aQ ⟨a,b,zO.mpr λj c=>h j (xX.mp c)⟩
inductive QQ(d:jf)(H:Hp)(Q:VK)(_:XK):Prop
 |mk(v u:V)(a b:YZ)(_:d=[v,u])(_:YD H a v)(_:YD H b u)(_:a.fit)(_:b.fit)(_:∀ c,ZA H c->Q (.bl (QA a b)) c)
def ZOU:ZC zE2 zE2 (Zc KQ):=Z9
def ZNM(F:Zp K "stand_side_by_side" "stand_side_by_side" KQ f fd)(T:YX mg)(r:ZB P w K mg ki 7 "ahead" zE6 Yp):ZJ P w K mg ki Ze 8 f fd zE2 QQ:=by
 refine F.ko ZOU λB A l s H X Q E J h=>?_;obtain⟨v,u,a,b,rfl,G,I,C,D,k⟩:=h;obtain⟨U,o⟩:=T.height;obtain⟨V,N⟩:=T.least;obtain⟨W,O⟩:=T.greatest;obtain⟨p,x,c,rfl,m,L,i⟩:=G;obtain⟨q,d,y,rfl,n,j,M⟩:=I;intro S;refine⟨_,ZX (Zn (Qx (V1 VT (Zm K (pv 0) (Wj (v:=.int 0) rfl o ⟨_,rfl⟩)) (Zm K (pv 1) (Wj (v:=.int 0) rfl o ⟨_,rfl⟩)) (YE _))
  (OC (Zr r J (Zf (Zm K (pv 0) (Wj (v:=.int 2) rfl O ⟨_,rfl⟩)) (Zm K (pv 1) (Wj (v:=.int 1) rfl N ⟨_,rfl⟩))))))),?_⟩
 refine⟨_,rfl,.inr (.inl ⟨p,_,_,.int a.h,rfl,rfl,Zh.of m,rfl,?_⟩)⟩;refine⟨_,rfl,.inr (.inl ⟨q,_,_,.int b.h,rfl,rfl,Zh.of n,rfl,rfl,_,rfl,?_⟩)⟩;by_cases g:a.h=b.h
 ·rw[aO (by rw[g])]
  refine Z1 ?_;refine⟨_,rfl,.inr (.inl ⟨p,_,_,c,rfl,rfl,Zh.of m,rfl,?_⟩)⟩;refine⟨_,rfl,.inr (.inl ⟨q,_,_,d,rfl,rfl,Zh.of n,rfl,c,d,a.hi,b.lo,rfl,i,j,C.2,D.1,λt R=>?_⟩)⟩;have e:a.hi.lt b.lo=QA a b:=by unfold QA;rw[g,beq_self_eq_true,uD]
  rw[e];exact k t R
 ·rw[aM (λz=>g (ZKr z))];refine Zk ?_;have e:false=QA a b:=by unfold QA;rw[beq_eq_false_iff_ne.mpr g,uZ]
  rw[e];exact k H (ZA.refl H)
abbrev QZ:je:=[.type "ValueError",.type "Exception",.type "BaseException",.type "object"]
def C1:ay "ValueError" = some (.type "ValueError"):=by decide +kernel
inductive VL(CS:aj)(e:jf)(H:Hp)(Q:VK)(E:XK):Prop
 |mk(l:aj)(c:jf)(b:jM)(_:e=[.ref l])(_:H l=some (.lst c))(_:Ye H b c)(_:∀ i,(b.getD i .d).fit)(_:c.length<=100)(_:∀ a,ZA H a->(over b=none->E (.ref CS) none a)/\∀ L v,over b=some L->ZF a L.kt v->Q v a)
abbrev ZPX:ju:=["labels","at","many"]
def QX:ZC ZPX ["labels"] (Zc Jr):=Z9
end Tw
namespace L2
open PySem PySem.Spec PyProof.Rows
def An:fillsNumberSlot (.type "tuple") "mul" = pure false:=
 PySem.fillsNumberSlot_seq (id:= "tuple.__mul__") (r:=some (.builtin "tuple.__rmul__")) uC.lookup (by decide +kernel) qO.lookup (by decide +kernel)
def ZFo:seqRepeat? (.type "tuple")=pure (some (.builtin "tuple.__mul__")):=by
 unfold seqRepeat?;rw[PySem.seqSlot_of (T:= "tuple") (name:= "__mul__") (id:= "tuple.__mul__") uC.lookup (by decide +kernel),PySem.seqSlot_of (T:= "tuple") (name:= "__rmul__") (id:= "tuple.__rmul__") qO.lookup (by decide +kernel)]
 rfl
def ZKV(a:Int)(t:Tok)(l:aj)(b:jx)(n:Nat)(e:jz)(f:Array (jd)):
  Meets (Builtin.«int.__rmul__» ⟨[.int a t,.ref l],[]⟩) (λ_ R s=>s.heap.get? l=some { cls:=.type "tuple",dict:=e,data:=.seq b n,slots:=f }/\R (.ok (.ret Value.notImplemented)) s):=
 .of_wp λc w A R s h=>by obtain⟨j,g,d,m,k⟩:=s;obtain⟨i,h⟩:=h;wp_walk;exact⟨_,rfl,h⟩
def ZPh(u:Tok)(l:aj)(a:jx)(n:Nat)(c:jz)(e:Array (jd)):
  Meets (Builtin.«tuple.__mul__» ⟨[.ref l,.int 1 u],[]⟩) (λ_ R s=>s.heap.get? l=some { cls:=.type "tuple",dict:=c,data:=.seq a n,slots:=e }/\R (.ok (.ret (.ref l))) s):=
 .of_wp λb w A R s h=>by
  obtain⟨i,g,d,k,j⟩:=s;obtain⟨f,h⟩:=h;unfold Builtin.«tuple.__mul__»
  wp_walk
  exact⟨_,rfl,h⟩
def BD(u:Tok)(l:aj)(x:ai)(n:Nat)(b:jz)(c:Array (jd)):
  Meets (Builtin.«tuple.__mul__» ⟨[.ref l,.int 0 u],[]⟩) (λ_ R s=>s.heap.get? l=some { cls:=.type "tuple",dict:=b,data:=.seq #[x] n,slots:=c }/\R (.ok (.ret (.ref s.heap.objs.size))) { s with heap:=s.heap.push { cls:=.type "tuple",data:=.seq #[] } }):=
 .of_wp λa w A R s h=>by
  obtain⟨f,g,d,j,i⟩:=s;obtain⟨e,h⟩:=h;unfold Builtin.«tuple.__mul__»
  wp_walk
  exact⟨_,rfl,h⟩
inductive MI(K:zZ)(x y:V)(H:Hp)(Q:VK):Prop
 |mk(a:aj)(v:V)(n:Int)(_:x=.ref a)(_:y=.int n)(_:Zh K H a [v])(_:n=1/\Q (.ref a) H\/n=0/\∀ p,H p=none->Q (.ref p) (upd H p (.tup [])))
def B0:Yu X (binaryOp .Mult) (MI X.K):=by
 intro i s E H x y v u Q I A B h;obtain⟨a,z,n,rfl,rfl,k,l⟩:=h;cases A;obtain⟨t,rfl⟩:=B;obtain⟨p,w,r,_⟩:=I.tuple k;obtain⟨D,rfl,_⟩:=VY w;obtain⟨⟨cls,e,data,f⟩,c,d,m,g⟩:=id r;simp only at d g;subst d g;refine wpAny_binaryOp_repeat_ref (T:= "tuple") (U:= "int") (by decide) ⟨_,c,rfl⟩ (λC=>typeIs_int C n t) An rH tU ZFo rA.lookup
  (call_meets tU (typeIs_int s n t) rB (qV _ _) (ZKV n t a _ m e f) ⟨c,rfl,⟨_,c,rfl⟩,?_⟩)
 rcases l with ⟨rfl,q⟩ | ⟨rfl,q⟩
 ·exact call_meets uC ⟨_,c,rfl⟩ qR (qL _ _) (ZPh t a _ m e f) ⟨c,⟨.ref a,H,I,rfl,q⟩⟩
 ·refine call_meets uC ⟨_,c,rfl⟩ qR (qL _ _) (BD t a _ m e f) ⟨c,?_⟩;have j:=I.laid (a:=s.heap.objs.size) (o:=.tup []) (h':=s.heap.push { cls:=.type "tuple",data:=.seq #[] }) (t':=s.toks) (λb u q=>zS _ q) (zY _)
   ⟨yX _,[],.nil,_,yT _ rfl,rfl,0,rfl⟩
  exact⟨.ref s.heap.objs.size,_,j,rfl,q _ (I.hok.fresh (zY _))⟩
inductive Ur(x y:V)(H:Hp)(Q:VK):Prop
 |mk(i n:_)(_:x=.str i)(_:y=.int n)(_:i.length=1)(_:n=1/\Q (.str i) H\/n=0/\Q (.str "") H)
def ZK0:Yu X (binaryOp .Mult) (Ur):=by
 intro b s g H x y v u Q I d e h;obtain⟨i,n,rfl,rfl,a,c⟩:=h;obtain⟨t,rfl⟩:=d;obtain⟨f,rfl⟩:=e;rcases c with ⟨rfl,q⟩ | ⟨rfl,q⟩
 ·refine PySem.P.mul_str ?_ (λ_ _=>?_) (λ_ _=>?_) ?_
  ·decide
  ·rw[a];decide
  ·rw[a];decide
  ·rw[aP (by decide),aQ (by simp)]
   exact⟨.str i,H,I,⟨t,rfl⟩,q⟩
 ·refine PySem.P.mul_str ?_ (λz _=>?_) (λz _=>?_) ?_
  ·decide
  ·first | exact absurd z (by decide) | (rw[a];decide)
  ·first | exact absurd z (by decide) | (rw[a];decide)
  ·rw[aQ (by decide)]
   exact⟨yX _,⟨.str "",H,I.tok _,⟨_,rfl⟩,q⟩⟩
end L2
namespace Tw
open PySem PySem.Spec L2
variable{jh ji CS CT CH CK CP CB:aj}
def YV:Str:= "!#$&()*+,-./0123456789:;<=>?@ABCDEFGHIJKLMNOPQRSTUVWXYZ"
def KW:YV.cps.toList.length=55:=by decide +kernel
def ZMK:YV.cps.toList.all Qo=true:=by decide +kernel
def Fd{i:Int}(a:0<=i)(b:i<55):∃ c,Xv YV.cps.toList i=some c/\Qo c=true:=by
 obtain⟨c,e,m⟩:=LH (xs:=YV.cps.toList) a (by rw[KW];exact b)
 exact⟨c,e,zO.mp ZMK c m⟩
def Zz(x:Str)(i:Nat):Prop:=x.cps.size<=i/\x.cps.toList.all Qo=true
def Zz.ok{x:Str}{i:Nat}(h:Zz x i)(a:i<=40):Og x=true:=BR (zD h.1 a) h.2
def Zz.cat{x y:Str}{i j:Nat}(h:Zz x i)(g:Zz y j):Zz (x++y) (i+j):=by
 have e:(x++y).cps=x.cps++y.cps:=rfl;exists ?_
 ·rw[e,Array.size_append];exact tO h.1 g.1
 ·rw[e,sL,uW,h.2,g.2];rfl
def Zz.one{c:Nat}(h:Qo c=true):Zz ⟨#[c]⟩ 1:=⟨zY _,by simp[h]⟩
def Zz.k:Zz "k" 1:=by unfold Zz;decide +kernel
def Zz.a:Zz "a" 1:=by unfold Zz;decide +kernel
def Zz.e:Zz "" 0:=by unfold Zz;decide +kernel
def NW{n:Int}(h:n.natAbs<10 ^ 60)(r:Nat):(KT.int n).fits r=true:=by rw[KT.fits];exact aO h
def M5{x:Str}{i:Nat}(h:Zz x i)(a:i<=40)(r:Nat):(KT.str x).fits r=true:=by rw[KT.fits];exact h.ok a
def Ah{n:Int}(h:n.natAbs<10 ^ 60):(KT.tup [.str "",.int n]).fits 3=true:=FD (yO rfl) (by
 rw[fitsL,fitsL,fitsL,NW h 2,M5 Zz.e (by decide) 2];rfl)
def ZJc{n:Int}(h:n.natAbs<10 ^ 60):(KT.tup [.str "",.int n,.int 0]).fits 3=true:=FD (yO rfl) (by
 rw[fitsL,fitsL,fitsL,fitsL,NW h 2,M5 Zz.e (by decide) 2,NW (n:=0) (by decide) 2];rfl)
def Ed{n:Int}(a : -10000<=n)(b:n<=10000):n.natAbs<10 ^ 60:=xK (show n.natAbs<=10000 by lia) (by decide)
def Ag:YV.cps.toList.Pairwise (· < ·):=by decide +kernel
def F9{i j:Int}{c d:Nat}(l:0<=i)(h:i<j)(m:j<55)(e:Xv YV.cps.toList i=some c)(f:Xv YV.cps.toList j=some d):c<d:=by
 obtain⟨a,rfl⟩:∃ a:Nat,i=(a:Int):=⟨i.toNat,∅⟩
 obtain⟨b,rfl⟩:∃ b:Nat,j=(b:Int):=⟨j.toNat,∅⟩
 have g:a<YV.cps.toList.length:=by rw[KW];lia
 have k:b<YV.cps.toList.length:=by rw[KW];lia
 rw[Xg (zV g)] at e;rw[Xg (zV k)] at f;cases e;cases f;exact List.pairwise_iff_getElem.mp Ag a b g k ∅
inductive GK:KT->Nat->Int->Prop
 | int (sz:Int):GK (.int (sz-700)) 0 sz
 | str {x:Str} {sz:Int} {c1 c2:Nat} {tl:jq} (h:x.cps.toList=107::c1::c2::tl) (h1:Xv YV.cps.toList (sz / 50)=some c1) (h2:Xv YV.cps.toList (sz % 50)=some c2):GK (.str x) 1 sz
 | tup (sz:Int) (l:jr):GK (.tup (.str ""::.int sz::l)) 2 sz
def ZP0{a b:KT}{c d:Nat}{s r:Int}(m:GK a c s)(f:GK b d r)(q:c<=d)(h:s<r)(p:0<=s)(t:r<=1280):a.lt b=true:=by
 cases m with
 | int=>
  cases f with
  | int=>rw[KT.lt];exact aO ∅
  | str=>rw[KT.lt]
  | tup=>rw[KT.lt]
 | str i e j=>
  cases f with
  | int=>lia
  | str k g l=>
   rw[KT.lt,i,k];refine aO ?_;refine List.Lex.cons ?_;rcases(show s / 50<r / 50\/(s / 50=r / 50/\s % 50<r % 50) by lia) with z | ⟨n,o⟩
   ·exact List.Lex.rel (F9 ∅ z ∅ e g)
   ·rw[n,g] at e;cases e;exact List.Lex.cons (List.Lex.rel (F9 ∅ o ∅ j l))
  | tup=>rw[KT.lt]
 | tup=>
  cases f with
  | int=>lia
  | str=>lia
  | tup=>
   rw[KT.lt,ltL,aQ (by rw[KT.eqb];exact beq_self_eq_true _),ltL,aP (by rw[KT.eqb];simp;lia),KT.lt]
   exact aO h
def cls(o a:Int)(i:Nat):Nat:=if (i:Int)<o then 0 else if (i:Int)<o+a then 1 else 2
def Cq(o a:Int)(i:Nat)(h:0<=a):cls o a i<=cls o a (i+1):=by
 unfold cls;split
 ·split <;> (try split) <;> lia
 ·split
  ·rw[aP ∅]
   split <;> lia
  ·rw[aP ∅,aP ∅]
   exact zY _
def GI(o f:Int)(i:Nat)(e:Int)(d:jr):Prop:=d.Pairwise (λa b=>a.lt b=true)/\∀ t∈d,∃ c s,GK t c s/\c<=cls o f i/\0<=s/\s<=e
def ZNu{o f:Int}{i:Nat}{k d:Int}{n:jr}{t:KT}(u:0<=f)(h:GI o f i k n)(y:k<d)(p:d<=1280)(w:0<=k)(m:GK t (cls o f i) d):GI o f (i+1) d (n++[t]):=by
 refine⟨?_,λx e=>?_⟩
 ·rw[vG];exists h.1,rJ _ _;intro a q b r;rw[yZ.mp r];obtain⟨c,s,g,l,j,v⟩:=h.2 a q;exact ZP0 g m l ∅ j p
 ·have:=Cq o f i u;rcases yM.mp e with e | e
  ·obtain⟨c,s,g,l,j,v⟩:=h.2 x e;exact⟨c,s,g,∅,j,∅⟩
  ·rw[yZ.mp e];exact⟨_,d,m,this,∅,Int.le_refl _⟩
inductive QC(g:jf)(H:Hp)(Q:VK)(_:XK):Prop
 |mk(p:aj)(_:g=[.ref p])(_:ZM H p)(_:∀(D:aj)(e:jf)(d:jr)(c:Hp),ZI p H c->ZM c p->H D=none->c D=some (.lst e)->jX c d e->(∀ t∈d,t.fits 3=true)->e.length=64->d.Pairwise (λa b=>a.lt b=true)->Q (.ref D) c)
abbrev Cy:ju:=["_law_well_here","_law_signs","_law_found","_law_size","_law_one","_law_two","_law_j"]
def QY:ZC Cy zE9 (Zc Ko):=Z9
def ZM3(F:Zp K "_law_grid" "_law_grid" Ko f fd)(T:YX mg)(DP:ZB P w K mg ki 1 "_law_pull" zEe YR):ZJ P w K mg ki Ze 2 f fd zE9 QC:=by
 refine F.ko QY λc8 A a9 s H vs Q E hr h=>?_;obtain⟨p,rfl,W,k⟩:=h;have M:=QY.nd;intro Xc;refine⟨_,ZQ (Zs 1 M Ym)
  (ZQ (Zs 2 M (XF Zt))
  (ZQ (Zs 3 M ZN)
  (ZQ (Zs 4 M (Zr DP hr (Zf (pv 0) ZN)))
  (ZQ (Zs 5 M (Z0 WZ (pv 4) (Zr DP hr (Zf (pv 0) (Z0 QP ZN (pv 4))))))
  (ZQ (Wo PassesOwn.never rfl (Os rfl T.range (ZY ZN)) (Yk 6 M)
   (ZQ (Zs 3 M (Z0 WZ (Z0 WZ (pv 3) ZN) (Zr DP hr (Zf (pv 0) ZN))))
   (ZX (Zy (Yh NU (pv 6) (pv 4) (YE _))
    (ZX (Wz (UQ yH xJ xI Uk (pv 2) (ZY (Z0 QP (pv 3) ZN)))))
    (ZX (Zy (Yh NU (pv 6) (pv 5) (YE _))
     (ZX (Wz (UQ yH xJ xI Uk (pv 2) (ZY (Z0 KB (Z0 KB (Z0 KB Ym (Zm K (pv 1) (Z0 M8 (pv 3) ZN))) (Zm K (pv 1) (Z0 Qt (pv 3) ZN))) (Z0 ZK0 Ym (Z0 Qt (pv 6) ZN)))))))
     (ZX (Wz (UQ yH xJ xI Uk (pv 2) (ZY (Z0 Ch (Yi (Zf Ym (pv 3))) (Z0 B0 (Yi (ZY ZN)) (Z0 Qt (pv 6) ZN)))))))))))))
  (ZX (Zn (pv 2)))))))),?_⟩
 exists (by show 0<=aq;decide)
 intro D nD;have g0:=Zg nD (.lst []);have W0:=W.same g0;have y:D≠p:=by obtain⟨xs,e⟩:=W.some;exact(Zb e nD).symm
 exists _,rfl,p,65,rfl,W0,Vq (by decide) (by decide)
 intro o H1 o0 o1 W1 s1;exists _,rfl,_,rfl,_,rfl,_,_,rfl,rfl,p,_,rfl,W1,Vq nofun (xK (show (65-o).natAbs<=65 from nofun) (by decide))
 intro B H2 c5 c9 W2 s2;exists _,_,rfl,rfl;have a2:H2 D=some (.lst []):=s2 D _ (s1 D _ ZR y) y;have c4:ZI p H H2:=((ZI.of g0).trans s1).trans s2;refine⟨64,rfl,by decide,by decide,Pb (n:=64) (λi σ C=>∃(l:Int)(x:jg)(j:jf)(N:jr),σ=[some (.ref p),some (.str YV),some (.ref D),some (.int l),some (.int o),some (.int (o+B)),x]/\0<=l/\l<=20 * i/\ZI p H C/\ZM C p/\C D=some (.lst j)/\jX C N j/\(∀ t∈N,t.fits 3=true)/\j.length=i/\GI o B i l N)
  ⟨0,none,[],[],rfl,by decide,by decide,c4,W2,a2,.nil,λt ht=>absurd ht (by simp),rfl,.nil,λt ht=>absurd ht (by simp)⟩ ?_ ?_⟩
 ·rintro i σ C hi ⟨l,x,j,N,rfl,z0,z1,s3,W3,I,kU,fU,lU,gU⟩;refine⟨_,rfl,_,_,rfl,rfl,_,rfl,p,20,rfl,W3,Vq (by decide) (by decide),λr S r0 r1 W4 s4=>⟨_,_,rfl,rfl,?_⟩⟩
  have c0:ZI p H S:=s3.trans s4;have g:=s4 D _ I y;have a6:=kU.mono (s4.tupsW W3) _ _;obtain⟨d,a4,c6,c7⟩:∃ d:Int,l+1+r=d/\0<=d/\d<=20 * (i+1:Nat):=⟨_,rfl,nofun,nofun⟩
  have a0:l<d:=nofun
  show QD 3 (V.int (l+1+r)) _ _ _;rw[a4];have m:∀(v:V)(t:KT)(q:Hp),ZA S q->ZF q t v->t.fits 3=true->GK t (cls o B i) d->∃(l:Int)(x:jg)(R:jf)(O:jr),[some (V.ref p),some (.str YV),some (.ref D),some (.int d),some (.int o),some (.int (o+B)),some (.int (0+(i:Int)))]=[some (.ref p),some (.str YV),some (.ref D),some (.int l),some (.int o),some (.int (o+B)),x]/\0<=l/\l<=20 * (i+1:Nat)/\ZI p H (upd q D (.lst (j++[v])))/\ZM (upd q D (.lst (j++[v]))) p/\upd q D (.lst (j++[v])) D=some (.lst R)/\jX (upd q D (.lst (j++[v]))) O R/\(∀ t∈O,t.fits 3=true)/\R.length=i+1/\GI o B (i+1) l O:=λv t q s5 kv fv a5=>by
   have a3:=s5 _ _ g;have tD:YO q (upd q D (.lst (j++[v]))):=(ZI.refl D q).upd.tups a3;refine⟨d,_,j++[v],N++[t],rfl,c6,c7,λb u e n=>?_,?_,ZR,((a6.sm s5).append (.cons kv .nil)).mono tD _ _,λz hz=>?_,by simp[lU],ZNu c5 gU a0 nofun z0 a5⟩
   ·rw[ZO (Zb e nD)];exact s5 b u (c0 b u e n)
   ·obtain⟨a1,b1,c1,d1,hw,rr⟩:=(W4.same s5).ex;exact⟨a1,b1,c1,d1,by rw[ZO (Ne.symm y)];exact hw,rr⟩
   ·rcases yM.mp hz with h | h
    ·exact fU z h
    ·rw[yZ.mp h];exact fv
  have U:d.natAbs<10 ^ 60:=Ed nofun nofun
  have X:(d-700).natAbs<10 ^ 60:=Ed nofun nofun
  exists _,rfl,_,rfl,_,_,rfl,rfl,_,rfl;refine Wu (λc=>?_) (λc=>?_)
  ·exists _,rfl,.inl ⟨rfl,_,ZG.of g⟩,_,rfl,_,_,rfl,rfl,D,j,_,rfl,rfl,g,YS nofun
   exact m _ (.int (d-700)) S (ZA.refl _) (.int _) (NW X 3) (by rw[show cls o B i=0 from aQ (by have:=of_decide_eq_true c;lia (splits:=8))];exact .int _)
  exists _,rfl,_,rfl,_,_,rfl,rfl,_,rfl;refine Wu (λc2=>?_) (λc2=>?_)
  ·have Y:cls o B i=1:=by unfold cls;rw[aP (by have:=of_decide_eq_false (vA.mpr c);lia (splits:=8)),aQ (by have:=of_decide_eq_true c2;lia (splits:=8))]
   obtain⟨c1,J,a7⟩:=Fd (i:=d / 50) nofun nofun
   obtain⟨c3,L,a8⟩:=Fd (i:=d % 50) nofun nofun
   exists _,rfl,.inl ⟨rfl,_,ZG.of g⟩,_,rfl,_,rfl,_,_,rfl,rfl,⟨by decide,by decide⟩
   refine .inr (.inr ⟨YV,_,c1,rfl,rfl,(by decide +kernel),J,_,_,rfl,rfl,(by show 2<=aq;decide),?_⟩)
   refine⟨_,rfl,_,rfl,_,_,rfl,rfl,(show (0:Int)<50 by decide),.inr (.inr ⟨YV,_,c3,rfl,rfl,(by decide +kernel),L,_,_,rfl,rfl,(by show 3<=aq;decide),?_⟩)⟩
   have tx:Zz (("k" : Str)++⟨#[c1]⟩++⟨#[c3]⟩) 3:=(Zz.k.cat (.one a7)).cat (.one a8);rcases(show ((0:Int)+(i:Int)) % 2=1\/((0:Int)+(i:Int)) % 2=0 from nofun) with G | G
   ·refine⟨_,rfl,_,_,rfl,rfl,(show (0:Int)<2 by decide),_,_,rfl,rfl,(by decide +kernel),.inl ⟨G,?_⟩⟩
    exists _,_,rfl,rfl,nn (zD (tO tx.1 Zz.a.1) (by decide)),D,j,_,rfl,rfl,g,YS nofun
    exact m _ (.str _) S (ZA.refl _) (.str _) (M5 (tx.cat .a) (by decide) 3) (by rw[Y];exact .str (tl:=[97]) rfl J L)
   ·refine⟨_,rfl,_,_,rfl,rfl,(show (0:Int)<2 by decide),_,_,rfl,rfl,(by decide +kernel),.inr ⟨G,?_⟩⟩
    exists _,_,rfl,rfl,nn (zD (tO tx.1 Zz.e.1) (by decide)),D,j,_,rfl,rfl,g,YS nofun
    exact m _ (.str _) S (ZA.refl _) (.str _) (M5 (tx.cat .e) (by decide) 3) (by rw[Y];exact .str (tl:=[]) rfl J L)
  ·have Y:cls o B i=2:=by unfold cls;rw[aP (by have:=of_decide_eq_false (vA.mpr c);lia (splits:=8)),aP (by have:=of_decide_eq_false (vA.mpr c2);lia (splits:=8))]
   exists _,rfl,.inl ⟨rfl,_,ZG.of g⟩,_,rfl,Z7;intro t1 n1;have g1:=Zg n1 (.tup [.str "",.int d]);exists Z7;intro t2 n2;have g2:=Zg n2 (.tup [.int 0]);have Z:=g1.trans g2;rcases(show ((0:Int)+(i:Int)) % 2=1\/((0:Int)+(i:Int)) % 2=0 from nofun) with G | G
   ·refine⟨_,rfl,_,_,rfl,rfl,(show (0:Int)<2 by decide),t2,.int 0,_,rfl,rfl,Zh.of ZR,.inl ⟨G,?_⟩⟩
    exists t1,t2,_,_,rfl,rfl,Zh.of (g2 _ _ ZR),Zh.of ZR,(by simp),Z7,(λz=>absurd z (by simp))
    intro _ t3 n3;have g3:=Zg n3 (.tup ([.str "",.int d]++[.int 0]));have gA:=Z.trans g3;exists D,j,_,rfl,rfl,gA _ _ g,YS nofun
    exact m _ (.tup [.str "",.int d,.int 0]) _ gA (.tup ZR (.cons (.str _) (.cons (.int _) (.cons (.int _) .nil)))) (ZJc U) (by rw[Y];exact .tup _ _)
   ·refine⟨_,rfl,_,_,rfl,rfl,(show (0:Int)<2 by decide),t2,.int 0,_,rfl,rfl,Zh.of ZR,.inr ⟨G,λt3 n3=>?_⟩⟩
    have g3:=Zg n3 (.tup []);have gA:=Z.trans g3;refine⟨t1,t3,_,_,rfl,rfl,Zh.of (g3 _ _ (g2 _ _ ZR)),Zh.of ZR,(by simp),Z7,(λ_=>?_),λz=>absurd rfl z⟩
    exists D,j,_,rfl,rfl,gA _ _ g,YS nofun
    exact m _ (.tup [.str "",.int d]) _ gA (.tup (g3 _ _ (g2 _ _ ZR)) (.cons (.str _) (.cons (.int _) .nil))) (Ah U) (by rw[Y];exact .tup _ _)
 ·rintro σ C ⟨l,x,j,N,rfl,z0,z1,s3,W3,I,kU,fU,lU,gU⟩;exact⟨_,rfl,k D j N C s3 W3 nD I kU fU lU gU.1⟩
def N1{H:Hp}{L:YZ}{u:V}(h:ZF H L.kt u):YD H L u:=by
 unfold YZ.kt at h;rw[ZF] at h;obtain⟨a,q,rfl,e,b⟩:=h;rw[jX] at b;obtain⟨o,k,rfl,c,b⟩:=b;rw[jX] at b;obtain⟨i,l,rfl,f,b⟩:=b;rw[jX] at b;obtain⟨j,m,rfl,g,b⟩:=b;rw[jX] at b;obtain⟨p,n,rfl,d,b⟩:=b;rw[jX] at b;subst b;rw[ZF] at c d;subst c d;exact⟨a,i,j,rfl,e,f,g⟩
def Ao:YZ.d.fit:=⟨NW (n:=0) (by decide) 3,NW (n:=0) (by decide) 3⟩
def EI(H:Hp)(b:jr)(c:jf):Prop:=c.length=b.length/\∀ i u,c[i]? = some u->∃ a d e,u=.ref a/\H a=some (.tup [d,e])/\ZF H (b.getD i (.int 0)) d
def O3(a:jr):KT:=.tup [.int 0,a.getD 0 (.int 0),a.getD (a.length-1) (.int 0),.int a.length]
def Cz{a:jf}{u:V}(h:a[a.length-1]? = some u):Xv a (-1)=some u:=by
 have b:a≠[]:=λz=>by rw[z] at h;simp at h
 have e:a=a.dropLast++[u]:=by
  have c:a.getLast b=u:=by
   rw[rL];exact(yN.mp h).2
  rw[<-c,qJ]
 rw[e];exact IY _ _
inductive Y2(d:jf)(H:Hp)(Q:VK)(_:XK):Prop
 |mk(l:aj)(b:jf)(c:jr)(_:d=[.ref l])(_:H l=some (.lst b))(_:EI H c b)(_:0<b.length)(_:∀(a:Hp)(v:V),ZA H a->ZF a (O3 c) v->Q v a)
def ZJv:ZC zEv zEv (Zc Jl):=Z9
def Bt(F:Zp K "label_of_rows" "label_of_rows" Jl f fd)(T:YX mg):ZJ P w K mg ki Ze 1 f fd zEv Y2:=by
 refine F.ko ZJv λq A i s H L Q E I h=>?_;obtain⟨l,c,J,rfl,e,d,u,k⟩:=h;intro C;refine⟨_,ZX (Zn (Yi (Pm ZN (Zm K (Zm K (pv 0) ZN) ZN)
  (Zm K (Zm K (pv 0) (P6 Pt ZN)) ZN) (Zq WA rfl T.len Xf (ZY (pv 0)))))),?_⟩
 have m:c[0]? = some c[0]:=zV u;have n:c[c.length-1]? = some (c[c.length-1]'∅):=zV ∅
 obtain⟨a,o,D,r,z,x⟩:=d.2 0 _ m;obtain⟨b,bk,G,t,B,y⟩:=d.2 _ _ n;rw[r] at m;rw[t] at n;refine⟨_,rfl,.inl ⟨l,c,_,.ref a,rfl,rfl,ZG.of e,Xg (j:=0) m,.inr (.inl ⟨a,_,_,o,rfl,rfl,Zh.of z,rfl,?_⟩)⟩⟩;refine⟨_,rfl,1,rfl,.inl ⟨l,c,_,.ref b,rfl,rfl,ZG.of e,Cz n,.inr (.inl ⟨b,_,_,bk,rfl,rfl,Zh.of B,rfl,?_⟩)⟩⟩;exists _,rfl,l,c,rfl,.inl (ZG.of e),Z7;intro p v;have g:=Zg v (.tup [.int 0,o,bk,.int c.length]);refine k _ _ g ?_;unfold O3;rw[<-d.1];exact .tup ZR (.cons (.int _) (.cons (x.sm g) (.cons (y.sm g) (.cons (.int _) .nil))))
abbrev Xt:=KT×KT
abbrev jJ:=List Xt
def Jt(r:Xt):KT:=.tup [r.1,r.2]
def Ys(a:jJ):jr:=a.map Jt
def Xt.fit(r:Xt):Prop:=r.1.fits 3=true/\r.2.fits 3=true
def ZML{H:Hp}{b c:aj}{d:V}(e:H b=some (.tup []))(g:H c=some (.tup [.int 1,.str "a"]))(a:d∈[V.int 0,.int 1,.str "v",.str "",.ref b,.ref c]):∃ t:KT,ZF H t d/\t.fits 3=true:=by
 simp only[zG,vK,or_false] at a;rcases a with rfl | rfl | rfl | rfl | rfl | rfl
 ·exact⟨.int 0,.int _,by decide +kernel⟩
 ·exact⟨.int 1,.int _,by decide +kernel⟩
 ·exact⟨.str "v",.str _,by decide +kernel⟩
 ·exact⟨.str "",.str _,by decide +kernel⟩
 ·exact⟨.tup [],.tup e .nil,by decide +kernel⟩
 ·exact⟨.tup [.int 1,.str "a"],.tup g (.cons (.int _) (.cons (.str _) .nil)),by decide +kernel⟩
inductive Yd(h:jf)(H:Hp)(Q:VK)(_:XK):Prop
 |mk(p d:aj)(b:Int)(e:jf)(gt:jr)(_:h=[.ref p,.ref d,.int b])(_:ZM H p)(_:d≠p)(_:H d=some (.lst e))(_:jX H gt e)(_:∀ t∈gt,t.fits 3=true)(_:e.length=64)(_:0<=b)(_:b<16)(_:∀(D:aj)(c:jf)(g:jJ)(a:Hp),ZI p H a->ZM a p->H D=none->a D=some (.lst c)->jX a (Ys g) c->(∀ r∈g,r.fit)->(g.map (·.1)).Sublist gt->0<c.length->c.length<=4->Q (.ref D) a)
abbrev AE:ju:=["_law_well_here","_law_grid_here","_law_block","_law_rows","_law_j"]
def WB:ZC AE zEh (Zc Kr):=Z9
def Dm(F:Zp K "_law_leaf_rows" "_law_leaf_rows" Kr f fd)(T:YX mg)(DP:ZB P w K mg ki 1 "_law_pull" zEe YR):ZJ P w K mg ki Ze 2 f fd zEh Yd:=by
 refine F.ko WB λc6 A c5 s H vs Q E hr h=>?_;obtain⟨p,gl,b,gs,gt,rfl,W,a4,hg,kg,fg,lg,b0,b1,k⟩:=h;have nd:=WB.nd;have a8:=hr.units0;intro Xc;refine⟨_,ZQ (Zs 3 nd (XF Zt))
  (ZQ (Wo PassesOwn.never rfl (Os rfl T.range (ZY ZN)) (Yk 4 nd)
   (ZX (Zy (Yh P2 (Zr DP hr (Zf (pv 0) ZN)) ZN (YE _))
    (ZX (Wz (UQ yH xJ xI Uk (pv 3) (ZY (Yi (Ut (Zm K (pv 1) (Z0 WZ (Z0 Od ZN (pv 2)) (pv 4)))
     (ZY (Zm K (XF (pa6 ZN ZN Ym Ym (Yi Zt) (Yi (Zf ZN Ym)))) (Zr DP hr (Zf (pv 0) ZN)))))))))) Z2)))
  (ZQ (Zy (Yh (Nv a8) (pv 3) (XF Zt) (YE _))
   (ZX (Wz (UQ yH xJ xI Uk (pv 3) (ZY (Yi (Zf (Zm K (pv 1) (Z0 WZ (Z0 Od ZN (pv 2)) (Zr DP hr (Zf (pv 0) ZN)))) Ym)))))) Z2)
  (ZX (Zn (pv 3))))),?_⟩
 have B:∀{g:Hp}{D:aj}{o:HO},ZM g p->D≠p->ZM (upd g D o) p:=fun{g D o} W5 n=>by
  obtain⟨a1,b1,c1,d1,hw,rr⟩:=W5.ex;exact⟨a1,b1,c1,d1,by rw[ZO (Ne.symm n)];exact hw,rr⟩
 exists (by show 0<=aq;decide)
 intro D nD;have g0:=Zg nD (.lst []);have m:D≠p:=by obtain⟨xs,e⟩:=W.some;exact(Zb e nD).symm
 have a3:∀(H':Hp)(j:Nat),ZI p H H'->j<64->∃(v:V)(t:KT),Xv gs (j:Int)=some v/\ZF H' t v/\t.fits 3=true/\gt[j]? = some t:=λH' j s' hj=>by
  have hv:gs[j]? = some (gs[j]'∅):=zV ∅
  obtain⟨t,Z,kt⟩:=kg.get hv;exact⟨_,t,Xg hv,kt.mono (s'.tupsW W) _ _,fg t (zB Z),Z⟩
 refine⟨4,rfl,by decide,by decide,Pb (n:=4) (λi σ S=>∃(x:jg)(y:jf)(G:jJ),σ=[some (.ref p),some (.ref gl),some (.int b),some (.ref D),x]/\ZI p H S/\ZM S p/\S D=some (.lst y)/\jX S (Ys G) y/\(∀ r∈G,r.fit)/\(G.map (·.1)).Sublist ((gt.drop (4 * b.toNat)).take i)/\y.length<=i)
  ⟨none,[],[],rfl,ZI.of g0,W.same g0,ZR,.nil,(λt ht=>absurd ht (by simp)),List.nil_sublist _,zY _⟩ ?_ ?_⟩
 ·rintro i σ S hi ⟨x,y,G,rfl,s3,W3,J,kU,fU,sU,lU⟩;refine⟨_,rfl,p,3,rfl,W3,Vq (by decide) (by decide),λr H4 r0 r1 I s4=>⟨_,_,rfl,rfl,_,rfl,?_⟩⟩
  have N:=s3.trans s4;have a:=s4 D _ J m;have a2:=kU.mono (s4.tupsW W3) _ _;refine Wu (λc=>?_) (λc=>?_)
  ·have ej:(4:Int) * b+(0+(i:Int))=((4 * b.toNat+i:Nat):Int):=∅
   obtain⟨v,t,av,kv,fv,Z⟩:=a3 H4 (4 * b.toNat+i) N ∅
   have a7:H4 gl=some (.lst gs):=N gl _ hg a4;refine⟨_,rfl,.inl ⟨rfl,_,ZG.of a⟩,_,rfl,_,rfl,_,_,rfl,rfl,.inl ⟨by decide,by decide⟩,_,rfl,_,_,rfl,rfl,.inl ⟨gl,gs,_,v,rfl,rfl,ZG.of a7,(by rw[ej];exact av),?_⟩⟩
   exists Z7;intro t1 n1;have M:=Zg n1 (.tup []);exists Z7;intro t2 n2;have g2:=Zg n2 (.tup [.int 1,.str "a"]);exists Z7;intro L nL;have g3:=Zg nL (.lst [.int 0,.int 1,.str "v",.str "",.ref t1,.ref t2]);have gA:=(M.trans g2).trans g3;have c3:L≠p:=by obtain⟨xs,e⟩:=(I.same (M.trans g2)).some;exact(Zb e nL).symm
   exists _,rfl,p,6,rfl,I.same gA,Vq (by decide) (by decide)
   intro q g q0 q1 W5 O;obtain⟨Y,ev,mv⟩:=LH (xs:=[V.int 0,.int 1,.str "v",.str "",.ref t1,.ref t2]) q0 q1;refine .inl ⟨L,_,_,Y,rfl,rfl,ZG.of (O L _ ZR c3),ev,Z7,λR nR=>?_⟩;have C:=Zg nR (.tup [v,Y]);have a0:∀ b o,H4 b=some o->b≠p->upd g R (.tup [v,Y]) b=some o:=λb o e n=>C b o (O b o (gA b o e) n);have a5:YO H4 (upd g R (.tup [v,Y])):=λb ys e=>ZA.tups C b ys (O.tupsW (I.same gA) b ys (ZA.tups gA b ys e));have l:=a0 D _ a m;have c0:t1≠p:=by obtain⟨xs,e⟩:=I.some;exact(Zb e n1).symm
   have c2:t2≠p:=by obtain⟨xs,e⟩:=(I.same M).some;exact(Zb e n2).symm
   obtain⟨tv,a9,a6⟩:=ZML (H:=upd g R (.tup [v,Y])) (C _ _ (O _ _ (g3 _ _ (g2 _ _ ZR)) c0)) (C _ _ (O _ _ (g3 _ _ ZR) c2)) mv;exists D,y,_,rfl,rfl,l,YS ∅
   have X:YO (upd g R (.tup [v,Y])) (upd (upd g R (.tup [v,Y])) D (.lst (y++[.ref R]))):=(ZI.refl D _).upd.tups l;refine⟨_,y++[.ref R],G++[(t,tv)],rfl,λb o e n=>?_,B (W5.same C) m,ZR,?_,λz hz=>?_,?_,by simp;lia⟩
   ·rw[ZO (Zb e nD)];exact a0 b o (N b o e n) n
   ·have e1:Ys (G++[(t,tv)])=Ys G++[Jt (t,tv)]:=by unfold Ys;rw[yR];rfl
    rw[e1];exact((a2.mono a5 _ _).mono X _ _).append (.cons (.tup (X _ _ ZR) (.cons ((kv.mono a5 _ _).mono X _ _) (.cons (a9.mono X _ _) .nil))) .nil)
   ·rcases yM.mp hz with h | h
    ·exact fU z h
    ·rw[yZ.mp h];exact⟨fv,a6⟩
   ·have e2:(gt.drop (4 * b.toNat))[i]? = some t:=by rw[List.getElem?_drop];exact Z
    rw[yR,yP,e2];exact sU.append (List.Sublist.refl _)
  ·exact⟨_,y,G,rfl,N,I,a,a2,fU,sU.trans (by rw[yP];exact List.sublist_append_left _ _),∅⟩
 ·rintro σ S ⟨x,y,G,rfl,s3,W3,J,kU,fU,sU,lU⟩;exists _,rfl,(by show 0<=aq;decide)
  intro d c4;have M:=Zg c4 (.lst []);exists D,d,y,rfl,rfl,ZG.of (M _ _ J),ZG.of ZR,_,rfl;have I:=W3.same M;have s4:ZI p H (upd S d (.lst [])):=s3.trans (ZI.of M);have a:=M _ _ J
  cases y with
  | cons u ur=>
   refine Zk ⟨_,rfl,?_⟩;exact k D _ G _ s4 I nD a (kU.sm M) fU ((sU.trans (List.take_sublist _ _)).trans (List.drop_sublist _ _)) (by simp) lU
  | nil=>
   refine Z1 ?_;refine⟨_,rfl,.inl ⟨rfl,_,ZG.of a⟩,_,rfl,_,rfl,_,_,rfl,rfl,.inl ⟨by decide,by decide⟩,_,rfl,p,4,rfl,I,Vq (by decide) (by decide),λr g r0 r1 W5 O=>⟨_,_,rfl,rfl,?_⟩⟩
   have U:=s4.trans O;have ej:(4:Int) * b+r=((4 * b.toNat+r.toNat:Nat):Int):=∅
   obtain⟨v,t,av,kv,fv,Z⟩:=a3 g (4 * b.toNat+r.toNat) U ∅
   refine .inl ⟨gl,gs,_,v,rfl,rfl,ZG.of (U gl _ hg a4),(by rw[ej];exact av),Z7,λR nR=>?_⟩
   have C:=Zg nR (.tup [v,.str "w"]);have l:=C _ _ (O D _ a m);exists D,[],_,rfl,rfl,l,YS (by decide)
   have X:YO (upd g R (.tup [v,.str "w"])) (upd (upd g R (.tup [v,.str "w"])) D (.lst ([]++[.ref R]))):=(ZI.refl D _).upd.tups l;refine⟨_,rfl,k D [.ref R] [(t,.str "w")] _ (λb o e n=>?_) (B (W5.same C) m) nD ZR ?_ (λz hz=>?_) (List.singleton_sublist.mpr (zB Z)) (by simp) (by simp)⟩
   ·rw[ZO (Zb e nD)];exact C b o (U b o e n)
   ·exact .cons (.tup (X _ _ ZR) (.cons ((kv.sm C).mono X _ _) (.cons (.str _) .nil))) .nil
   ·rw[yZ.mp hz];exact⟨fv,show (KT.str "w").fits 3=true by decide +kernel⟩
inductive VD(b:jf)(H:Hp)(Q:VK)(_:XK):Prop
 |mk(i:Int)(_:b=[.int i,.int i])(_:∀ a,ZA H a->Q (.bl true) a)
def BF:ZC zEc zEc (Zc Jh):=Z9
def Ew(F:Zp K "_law_count" "_law_count" Jh f fd)(T:YX mg):ZJ P w K mg ki Ze 1 f fd zEc VD:=by
 refine F.ok BF (λc H Q E h=>?_) (λb A a s H c Q E e h=>?_)
 ·obtain⟨i,rfl,_⟩:=h;rfl
 obtain⟨i,rfl,k⟩:=h;intro d;refine⟨_,ZX (Zn (Qx (Zq XW rfl T.isi Yw (Zi (pv 0) (Zi (XQ (v:=.ty "int") rfl T.int Q2 rfl) Zt)))
   (Qx (Iq (Zq XW rfl T.isi Yw (Zi (pv 0) (Zi (XQ (v:=.ty "bool") rfl T.bool P7 rfl) Zt)))) (OC (V1 VT (pv 0) (pv 1) (YE _)))))),?_⟩
 refine⟨_,rfl,_,_,_,_,rfl,.int i,OU,_,rfl,Z1 ?_⟩;refine⟨_,rfl,_,_,_,_,rfl,.int i,NT,_,rfl,_,rfl,Z1 ?_⟩;exists _,rfl,_,rfl,rfl;rw[aO rfl];exact k H (ZA.refl H)
inductive Ya(c:jf)(H:Hp)(Q:VK)(_:XK):Prop
 |mk(p l:aj)(a:jf)(_:c=[.ref p,.ref l])(_:ZM H p)(_:l≠p)(_:H l=some (.lst a))(_:0<a.length)(_:a.length<=900)(_:∀(x:V)(b:Hp),ZI p H b->ZM b p->x∈a->Q x b)
def ZKa:ZC zEi zEi (Zc IZ):=Z9
def ZJt(F:Zp K "_law_picked" "_law_picked" IZ f fd)(T:YX mg)(e:ZB P w K mg ki 1 "_law_pull" zEe YR):ZJ P w K mg ki Ze 2 f fd zEi Ya:=by
 refine F.ko ZKa λj A b s H B Q E n h=>?_;obtain⟨p,l,a,rfl,W,q,c,y,z,k⟩:=h;intro v;exists _,ZX (Zn (Zm K (pv 1) (Zr e n (Zf (pv 0) (Zq WA rfl T.len Xf (Zi (pv 1) Zt))))));exists _,rfl,_,rfl,_,rfl,l,a,rfl,.inl (ZG.of c),p,(a.length:Int),rfl,W,Vq ∅ (xK (show ((a.length:Int)).natAbs<=900 by lia) (by decide))
 intro r g t u i d;obtain⟨x,m,o⟩:=LH (xs:=a) t u;exact .inl ⟨l,a,r,x,rfl,rfl,ZG.of (d l _ c q),m,k x g d i o⟩
inductive XV(g:jf)(H:Hp)(Q:VK)(_:XK):Prop
 |mk(d l:aj)(b:List (ZV×V))(c:jC)(e:Int->Int)(_:g=[.ref d,.ref l])(_:H d=some (.dK b))(_:H l=some (.lst (c.map V.int)))(_:∀ n∈c,YK b (.inl n)=some (.int (e n)))(_:∀ n,c.find? (λm=>decide (e m=0))=some n->∀(t:aj)(a:Hp),ZA H a->a t=some (.tup [.str "held",.int n])->Q (.ref t) a)(_:c.find? (λm=>decide (e m=0))=none->∀ a:Hp,ZA H a->Q .non a)
def Vs:ZC ["_law_holds","_law_numbers","_law_number"] zEu (Zc IS):=Z9
def Ni{b:Type}{p:b->Bool}{x:b}:∀{l:List b}{i:Nat},(l.take i).find? p=none->l[i]? = some x->(p x=true->l.find? p=some x)/\(p x=false->(l.take (i+1)).find? p=none)
 | [],i,_,e=>by simp at e
 | a::l,0,_,e=>by
  simp at e;subst e;exact⟨λh=>by simp[wZ,h],λh=>by simp[wZ,h]⟩
 | a::l,i+1,h,e=>by
  simp only[List.take_succ_cons,wZ] at h⊢
  cases c:p a with
  | true=>rw[c] at h;simp at h
  | false=>
   rw[c] at h;have:=Ni (l:=l) (i:=i) (p:=p) h (by simpa using e)
   simpa using this
def ZJe(F:Zp K "_law_unheld" "_law_unheld" IS f fd)(T:YX mg):ZJ P w K mg ki Ze 1 f fd zEu XV:=by
 refine F.ko Vs λz A r s H Y Q E L h=>?_;obtain⟨d,l,S,q,g,rfl,I,y,N,O,R⟩:=h;have U:=Vs.nd;have M:=VJ L;intro X;refine⟨_,ZQ (Wo PassesOwn.never rfl (Wq (pv 1)) (Yk 2 U)
   (ZX (Zy (Yh VT (VX M (pv 0) (pv 2)) ZN (YE _)) (ZX (Zn (Yi (Zf Ym (pv 2))))) Z2)))
  (ZX (Zn PY)),?_⟩
 refine⟨_,rfl,l,rfl,⟨_,ZG.of y⟩,PM (K:=K) (a:=l) (xs:=q.map V.int) (λi p e=>∃ x:jg,p=[some (.ref d),some (.ref l),x]/\ZA H e/\(q.take i).find? (λm=>decide (g m=0))=none) ⟨_,rfl,ZA.refl H,rfl⟩ (λi p e _ G=>by obtain⟨_,_,b,_⟩:=G;exact ZG.of (b _ _ y)) ?_ ?_⟩
 ·rintro i u p e j ⟨x,rfl,b,o⟩;obtain⟨n,v,rfl⟩:∃ n,q[i]? = some n/\V.int n=u:=by
   rw[zN] at j;exact yB.mp j
  have J:Zx e d (.int n) (some (.int (g n))):=N n (zB v) ▸ Zx.k (k:=Sum.inl n) (b _ _ I);obtain⟨C,D⟩:=Ni o v;exists _,rfl,_,rfl,d,.int (g n),rfl,J;exists rfl,_,rfl;have B:decide (V.int (g n)=V.int 0)=decide (g n=0):=by simp
  rw[B]
  cases c:decide (g n=0) with
  | true=>exact Z1 ⟨_,rfl,Z7,λt W=>O n (C c) t _ (b.trans (Zg W _)) ZR⟩
  | false=>exact Zk ⟨_,rfl,b,D c⟩
 ·rintro p e ⟨x,rfl,b,o⟩;rw[yK (by simp)] at o
  exact R o e b
end Tw
namespace L2
open PySem PySem.Spec PyProof.Rows
section
variable{T:String}{r d:aj}{n:Nat}{P:Nat->ai->Prop}{OK:aD->Prop}
def ZK4{R:Result->al->Prop}(K:tG prog w T r d n P OK)(l:A.handled=none)(h:OK s.heap)(S:aj)(g:S≠r)(f:S≠d)(c:Nat)(k:s.heap.get? S=some { cls:=.type "list",data:=.seq #[] c })(j:∀ e p a i,(∀ b o,b≠S->s.heap.get? b=some o->e.get? b=some o)->e.get? S=some { cls:=.type "list",dict:=none,data:=.seq a i,slots:=#[] }->ItemsOf P a n->R (.ok (.ret (.ref S))) { s with heap:=e,toks:=p })(m:n<=aq):
  aH (aA prog w) A (.builtin "list.__iadd__" ⟨[.ref S,.ref r],[]⟩) R s:=by
 refine codeAny_builtin PySem.F.entry_list_iadd ?_;rw[Around.under_plainId qQ _];exact PySem.W.kdl_extend (R:=R) K l h S g f (.ref S) c k j m
def Bc{Q:je->al->Prop}(K:tG prog w T r d n P OK)(q:A.handled=none)(j:OK s.heap)(u:n<=aq)(m:∀ f k a,(∀ b o,s.heap.get? b=some o->f.get? b=some o)->s.heap.objs.size<f.objs.size->ItemsOf P a n->Q a.toList { s with heap:=f,toks:=k }):aB (aA prog w) A (collect (.ref r)) Q E s:=by
 have i:=K.there _ j;unfold collect;refine aa (wpAny_runValue (codeAny_builtin PySem.F.entry_proto_collect ?_));rw[Around.under_plainId PySem.F.plain_proto_collect _];show aB _ A.in1 (newList [] >>= λl=>again (.builtin "list.__iadd__" ⟨[l,.ref r],[]⟩)) _ _ s;refine aa (wpAny_newObj_type ?_);have p:(s.heap.push { cls:=.type "list",data:=.seq ([]:je).toArray }).get? s.heap.objs.size=some { cls:=.type "list",data:=.seq #[] 0 }:=yT _ rfl;refine ad ⟨plainId_quiet qQ _,ZK4 (s:={ s with heap:=s.heap.push { cls:=.type "list",data:=.seq ([]:je).toArray } }) K q (K.keep _ _ j λb _ o e=>zS _ e) s.heap.objs.size (xG i.1) (xG i.2) _ p (λf k c v t g h=>?_) u⟩;show aB _ A (load s.heap.objs.size >>= _) _ _ _;refine aa (wpAny_load g ?_);exact ad (m f k c (λb o e=>t b o (zL (zU e)) (zS _ e)) (zU g) h)
def Bq{Q:ja}{ns:jC}(K:tG prog w T r d n P OK)(I:A.handled=none)(t:OK s.heap)(J:n<=aq)(F:∀ f,ItemsOf P f n->IntsAre f.toList ns)(q:n<64)(L:ns.Pairwise (· <= ·))(G:∀ p x a g c,(∀ b o,s.heap.get? b=some o->p.get? b=some o)->s.heap.objs.size<=a->IntsAre g ns->p.get? a=some { cls:=.type "list",data:=.seq g.toArray c }->Q (.ref a) { s with heap:=p,toks:=x }):
  aB (aA prog w) A (call (.builtin "sorted") [.ref r]) Q E s:=by
 refine Calls.call_function_entry kind_sorted plain_sorted entry_sorted (args_sorted1 _) ?_;unfold Builtin.«sorted»;refine aa (m:=checkCount "sorted" 1 1 _) (ad ?_);refine aa (Bc K I t J λj x f M u h=>?_);have D:=F f h;have k:f.toList.length<64:=by rw[vU,h.1];exact q
 refine aa (wpAny_newList ?_ (hsz:=yE (YS ∅)))
 have i:(j.push (seqObj "list" f.toList.toArray 0)).get? j.objs.size=some (seqObj "list" f.toList.toArray 0):=yT _ rfl;refine aa (af (wpAny_call_entry slot_list_sort ⟨_,i,rfl⟩ entry_list_sort (list_sort_tree i D k λg v y z B=>⟨_,rfl,?_⟩) (args_list_sort _)));refine ad ⟨_,rfl,?_⟩;have e:v=ns:=List.Perm.eq_of_pairwise (le:=(· <= ·)) (λa b _ _ j C=>Int.le_antisymm j C) B L z;subst e;obtain⟨c,H⟩:=sortedHeap_at (vs:=f.toList) (out:=g) i;refine G _ x j.objs.size g.toList c (λb o e=>?_) (yE u) y (by rw[rO];exact H)
 have l:=M b o e;rw[sortedHeap_old (zL (zU l)) (by rw[size_push'];exact vX (zU l))]
 exact zS _ l
end
def Cn:∀{c:List (ZV×V)}{g:jV}{d:jC},KV c g->c.map (·.1)=d.map Sum.inl->∀ b:je,b.length=g.length->(∀(i:Nat)(v:ai),b[i]? = some v->∃(k:ZV)(x:ai),g[i]? = some (k,x)/\Pn k v=true)->IntsAre b d:=by
 intro c g d h e b l p;have f:=KV.keys h;rw[e] at f;clear e h
 induction g generalizing d b with
 | nil=>
  cases b with
  | nil=>
   cases d with
   | nil=>exact .nil
   | cons _ _=>simp at f
  | cons _ _=>simp at l
 | cons q r y=>
  cases b with
  | nil=>simp at l
  | cons a b=>
   cases d with
   | nil=>simp at f
   | cons n d=>
    simp only[yI,List.cons.injEq] at f;obtain⟨k,x,o,u⟩:=p 0 a rfl;simp only[List.getElem?_cons_zero,zJ.injEq] at o;subst o;have j:Sum.inl n=k:=f.1;subst j;obtain⟨i,t,m,s⟩ | ⟨i,t,m,s⟩:=Qe u
    ·cases m;subst s;exact .cons _ _ (y b (by simpa using l) (λi v w=>by simpa using p (i+1) v (by simpa using w)) f.2)
    ·cases m
def ZFX:∀{b:je}{a:jC},IntsAre b a->ZT (a.map V.int) b:=λh=>M7 h
def nn'{n:Nat}(h:n<64):n<=sizeLine:=yE (YS ∅)
def Q7:ay "sorted" = some (.builtin "sorted"):=by decide +kernel
inductive Op(d:jf)(H:Hp)(Q:VK):Prop
 |mk(a:aj)(b:List (ZV×V))(c:jC)(_:d=[.ref a])(_:H a=some (.dK b))(_:b.map (·.1)=c.map Sum.inl)(_:c.Pairwise (· <= ·))(_:c.length<64)(_:∀ p,H p=none->Q (.ref p) (upd H p (.lst (c.map V.int))))
def PR(D:X.calm=true):VI X (.builtin "sorted") Op:=by
 intro t s T H S R Q I r h;obtain⟨a,g,j,rfl,C,l,F,f,q⟩:=h;obtain⟨u,rfl,K⟩:=VY r;cases K;obtain⟨z,J,M,n,A⟩:=LT I.hok C;have O:j.length=g.length:=by have:=congrArg yA l;simpa using this.symm
 have P:=KV.length n;obtain⟨x,y⟩:=A.dictAt;refine Bq (ns:=j) (PySem.W.kdl_dict (knd:=Wk X.prog X.w) (kvs:=M) (ep:=x) J) (I.ok.hd D) y ∅ (λd b=>Cn n l d.toList (by rw[vU];exact b.1) λi v e=>?_) ∅ F λN L p k c G m B E=>?_
 ·exact b.2 i v (by rw[<-rM];exact e)
 ·exact⟨.ref p,_,I.laid (a:=p) (o:=.lst (j.map V.int)) (t':=L) G m ⟨by rw[zX];exact nn' f,k,c,ZFX B,E⟩,rfl,q p (I.hok.fresh m)⟩
section
variable{kh:jv}{σ:St}{H:Hp}
end
def ZMg:typeLookup (.type "list_reverseiterator") "__len__" = pure none:=by rw[typeLookup_type,builtinLookup_eq_fast];kernel_rfl
def BP:typeLookup (.type "list_reverseiterator") "__length_hint__" = pure (some (.builtin "list_reverseiterator.__length_hint__")):=by rw[typeLookup_type,builtinLookup_eq_fast];kernel_rfl
def ZNf:isSubtype (.type "list_reverseiterator") (.type "list_reverseiterator")=pure true:=by rw[isSubtype_type];kernel_rfl
def ZKw{r:aj}{Q:Bool->al->Prop}(d:s.TypeIs (.ref r) "list_reverseiterator")(h:Q false s):aB (aA prog w) A (Builtin.List.listLengthHint (.ref r)) Q E s:=by
 unfold Builtin.List.listLengthHint;refine aa (wpAny_specialOf d ZMg ?_)
 wp_delta
 refine wpAny_ite_split (λa=>absurd a (by decide +kernel)) (λ_=>?_)
 refine wpAny_ite_split (λa=>absurd a (by decide)) (λ_=>?_)
 refine aa (wpAny_specialOf d BP ?_);generalize c:("list_reverseiterator.__length_hint__" : String)=e
 wp_delta
 rw[show splitId e=some ("list_reverseiterator","__length_hint__") from by subst c;decide +kernel]
 subst c;refine aa (wpAny_isInstance (T:= "list_reverseiterator") (b:=true) d ZNf ?_);refine wpAny_ite_split (λa=>absurd a (by decide)) (λ_=>?_)
 refine wpAny_ite_split (λ_=>?_) (λa=>absurd (by decide +kernel) a)
 refine wpAny_ite_split (λa=>absurd a (by decide)) (λ_=>?_)
 exact ad h
def CN{l d:aj}{items:jx}{Q:ja}(hh:A.handled=none)(J:s.heap.IsRevIter d l ((items.size:Int)-1))(hl:s.heap.IsList l items)(L:l≠d)(hn:items.size<=aq)(Y:∀ D B a C,(∀ b o,b≠d->s.heap.get? b=some o->D.get? b=some o)->D.get? s.heap.objs.size=some { cls:=.type "list",dict:=none,data:=.seq a C,slots:=#[] }->ItemsOf (λi v=>items[items.size-1-i]? = some v) a items.size->Q (.ref s.heap.objs.size) { s with heap:=D,toks:=B }):
  aB (aA prog w) A (call (.type "list") [.ref d]) Q E s:=by
 obtain⟨oi,n,P⟩:=id J;obtain⟨ol,p,R⟩:=id hl;have N:=zU n;have O:=zU p;refine callType_codes (Q₁:=λx m=>x=.ref s.heap.objs.size/\m={ s with heap:=s.heap.push { cls:=.type "list",data:=.seq #[] } }) PySem.F.called_list (PySem.F.typeCall_list_1 _) PySem.F.entry_list_init
  (code_list_new _ ⟨rfl,rfl⟩) λx m u=>?_
 obtain⟨rfl,rfl⟩:=u;have z:(s.heap.push { cls:=.type "list",data:=.seq #[] }).get? s.heap.objs.size=some { cls:=.type "list",data:=.seq #[] }:=yT _ rfl;exists ⟨_,z,rfl⟩,PySem.F.args_list_init_2 _ _;show aB _ _ (do let old<-Builtin.List.listItems (.ref s.heap.objs.size);Builtin.List.listUpdate (.ref s.heap.objs.size) (λ_=>#[]);letGo old.toList.reverse;Builtin.List.listExtendWith (.ref s.heap.objs.size) (.ref d) .none) _ _ _
 refine aa ?_;unfold Builtin.List.listItems;refine aa (wpAny_seqItems z rfl (ad ?_));show aB _ _ (updateSeq s.heap.objs.size (λ_=>#[]) >>= λ_=>letGo (#[]:jx).toList.reverse >>= λ_=>Builtin.List.listExtendWith (.ref s.heap.objs.size) (.ref d) .none) _ _ _;refine aa (wpAny_updateSeq z rfl ?_);have g:=wW (Obj.mapSeq (λ_=>(#[]:jx))) z rfl;have k:∀ b o,s.heap.get? b=some o->((s.heap.push { cls:=.type "list",data:=.seq #[] }).update s.heap.objs.size (Obj.mapSeq (λ_=>(#[]:jx)))).get? b=some o:=
  λb o e=>(yC _ _ (Ne.symm (zL (zU e)))).trans (zS _ e)
 refine aa (wpAny_letGo ?_);generalize (s.heap.push { cls:=.type "list",data:=.seq #[] }).update s.heap.objs.size (Obj.mapSeq (λ_=>(#[]:jx)))=S at g k⊢;have c:S.IsRevIter d l ((items.size:Int)-1):=⟨oi,k _ _ n,P⟩;have K:S.IsList l items:=⟨ol,k _ _ p,R⟩;have q:s.heap.objs.size≠d:=xG N;have H:s.heap.objs.size≠l:=xG O;have M:∀(h:aD)(f B:Nat),h.IsRevIter d l ((items.size:Int)-1)->h.IsList l items->(∀ b o,s.heap.get? b=some o->h.get? b=some o) ->
   h.get? s.heap.objs.size=some { cls:=.type "list",data:=.seq #[] f }->aH (aA prog w) A.in1 (.builtin "list.extend.loop" ⟨[.ref s.heap.objs.size,.ref d,.none],[]⟩) (wants (λr y=>r=Value.none/\Q (.ref s.heap.objs.size) y) E) { s with heap:=h,toks:=B }:=by
  intro h f B k1 k2 k3 k4;refine codeAny_extend_loopS (A:=A.in1) (Walks.listRev (A:=A.in1.in1) hh d l L items).toS hn s.heap.objs.size (by simp[q,H]) .none items.size 0 _ #[] f rfl (yX _) ⟨yX _,by simpa using k1,k2⟩ k4 (ItemsOf.nil _) λV a C U G t=>?_
  rw[Moved.eq_with U];refine⟨rfl,Y V.heap V.toks a C (λb o Z e=>U.heap b o (λj=>?_) (k3 b o e)) G t⟩;rcases zG.mp j with W | j
  ·exact absurd (zU e) (by rw[W];exact xE _)
  ·exact Z (yZ.mp j)
 unfold Builtin.List.listExtendWith;refine aa (wpAny_typeOf (T:= "list_reverseiterator") c.typeIs ?_);have X:Builtin.List.listSameRef (.ref s.heap.objs.size) (.ref d)=false:=by simp[Builtin.List.listSameRef,q]
 simp only[X,show (Value.type "list_reverseiterator" == Value.type "list")=false from rfl,show (Value.type "list_reverseiterator" == Value.type "tuple")=false from rfl,Bool.or_false,vW,if_false];refine aa (wpAny_pyIter_revIter c ?_);refine aa (af (ZKw c.typeIs ?_));refine wpAny_ite_split (λI=>absurd I (by decide)) (λ_=>ad ⟨plainId_quiet PySem.F.plain_extend_loop _,M _ _ _ c K k g⟩)
def CY:ay "reversed" = some (.type "reversed"):=by decide +kernel
def BZ{b:je}:∀{a:jx},ItemsOf (λi v=>b.toArray[b.toArray.size-1-i]? = some v) a b.toArray.size->a.toList=b.reverse:=by
 intro a h;refine List.ext_getElem? λi=>?_;have d:a.size=b.length:=by simpa using h.1
 by_cases c:i<b.length
 ·have e:a.toList[i]? = some a[i]:=by simp[d,c]
  have f:=h.2 i a[i] (by simp[d,c])
  rw[e,List.getElem?_reverse c,<-f];simp
 ·rw[vE (by simp;lia),vE (by simp;lia)]
inductive Uu(K:zZ)(Q:VK)(x:V)(a:Hp):Prop
 |mk(l b:_)(_:x=.ref l)(_:ZG K a l b)(_:∀ q,a q=none->Q (.ref q) (upd a q (.lst b.reverse)))
def De(K:zZ)(b:TE):TE:=λc H Q=>b c H λx a=>Uu K Q x a
def ZT.rev:∀{c:jf}{b:je},ZT c b->ZT c.reverse b.reverse:=by
 intro c b r
 induction r with
 | nil=>exact .nil
 | cons a r d=>rw[List.reverse_cons,List.reverse_cons];exact d.append (.cons a .nil)
def AI{e:Expr}{B:TE}{V t p f:aK}(E:X.calm=true)(F:PE X e B)(G:Gl X "list")(L:Gl X "reversed")(S:X.mg "list" = none)(T:X.mg "reversed" = none)(k:ar [.Call (.Name "reversed" t) [e] [] f] X.env=(false,aI (.Call (.Name "reversed" t) [e] [] f) X.env)::ar [] X.env:=by rfl)(m:ar [e] X.env=(false,aI e X.env)::ar [] X.env:=by rfl):
  PE X (.Call (.Name "list" V) [.Call (.Name "reversed" t) [e] [] f] [] p) (De X.K B):=by
 intro n s σ H Q I h;refine ag (Px I G S Qr ?_);refine PyProof.Rows.callWith_type1 ?_ k rfl;rw[k];refine Calls.spliced_cons (ag (Px I L T CY ?_));refine PyProof.Rows.callWith_type1 ?_ m rfl;rw[m];refine Calls.spliced_cons (Z3 (F n s σ H _ I h) λu g ⟨x,H1,r,Y,l,xs,D,J,q⟩=>Calls.spliced_nil ?_);subst D;cases Y;obtain⟨d,z,W,M⟩:=r.list J;have y:=W.isList;have ll:=z.length;obtain⟨U,j,v⟩:=id y;refine call_reversed_list y (Calls.spliced_nil ?_);have R:=zU j;refine CN (s:={ g with heap:=g.heap.push (revObj l ((d.toArray.size:Int)-1)) }) (items:=d.toArray) (r.ok.hd E) ⟨_,yT _ rfl,rfl,rfl⟩ ⟨U,zS _ j,v⟩ (zL R) (by simp;lia) λh' Z i c N O P=>?_
 have A:(g.heap.push (revObj l ((d.toArray.size:Int)-1))).objs.size=g.heap.objs.size+1:=vQ _ _;have C:i.toList=d.reverse:=BZ P;refine⟨.ref (g.heap.push (revObj l ((d.toArray.size:Int)-1))).objs.size,_,r.laid (a:=(g.heap.push (revObj l ((d.toArray.size:Int)-1))).objs.size) (o:=.lst xs.reverse) (t':=Z) (λb o w=>N b o (zL (zU w)) (zS _ w)) (by rw[A];exact wM _) ⟨by rw[sN];exact M,i.toList,c,by rw[C];exact ZT.rev z,by rw[rO];exact O⟩,rfl,q _ (r.hok.fresh (by rw[A];exact wM _))⟩
inductive Uw(a:zZ)(x y:V)(H:Hp)(Q:VK):Prop
 |mk(p b c:_)(_:x=.ref p)(_:y=.ref b)(_:ZG a H p c)(_:ZG a H b [])(_:Q (.bl (!c.isEmpty)) H)
def HP(f:X.A.units<cLine):Yu X (az .NotEq) (Uw X.K):=by
 intro l s J H x y v u Q I C D h;obtain⟨p,b,E,rfl,rfl,c,o,q⟩:=h;cases C;cases D;obtain⟨d,z,i,F⟩:=I.list c;obtain⟨a,B,k,G⟩:=I.list o;have g:=z.length;have t:=B.length;have n:a=[]:=vC (by rw[<-t];rfl)
 subst n
 cases E with
 | nil=>
  have m:d=[]:=vC (by rw[<-g];rfl)
  subst m;exact PySem.SeqAt.RcNeAt.lists (e:=λ_=>true) i.isList k.isList rfl f (λj c _=>absurd c (by simp)) X.prog X.w X.xe _ (Yr I q (by simp))
 | cons x r=>exact PySem.SeqAt.RcNeAt.lists_lengths i.isList k.isList (by simp;intro e;subst e;simp at g) f X.prog X.w X.xe _ (Yr I q rfl)
end L2
namespace Tw
open PySem PySem.Spec L2 PyProof.Rows
variable{jh ji CS CT CH CK CP CB:aj}
structure ZP where
 h:Nat
 rows:jJ
 bs:jq
abbrev js:=List ZP
def ZP.d:ZP:=⟨0,[],[]⟩
def gd(a:js)(i:Nat):ZP:=a.getD i .d
def ZPD{a:js}{i:Nat}{t:ZP}(h:a[i]? = some t):gd a i=t:=by
 unfold gd;rw[zW,h];rfl
def Vg{a:js}{i:Nat}(h:i<a.length):a[i]? = some (gd a i):=by
 unfold gd;rw[zW,zV h];rfl
structure Z5(gt:jr)(ts:js)(i:Nat)(t:ZP):Prop where
 ne:t.rows≠[]
 up:(t.rows.map (·.1)).Pairwise λa b=>a.lt b=true
 inn:∀ r∈t.rows,r.1∈gt/\r.fit
 leaf:t.h=0->t.bs=[]/\t.rows.length<=4
 stem:t.h≠0->2<=t.bs.length/\t.bs.length<=4/\(∀ b∈t.bs,b<ts.length/\(gd ts b).h+1=t.h)/\t.rows=t.bs.flatMap λb=>(gd ts b).rows
def WF(gt:jr)(a:js):Prop:=∀ i t,a[i]? = some t->Z5 gt a i t
def Jw:∀{gt l:jr},gt.Pairwise (λa b=>a.lt b=true)->l.Pairwise (λa b=>a.lt b=true)->(∀ x∈l,x∈gt)->l.length<=gt.length
 | [],[],_,_,_=>zY _
 | [],x::_,_,_,h=>absurd (h x zM) (by simp)
 | g::gt,l,hg,hl,h=>by
  have c:=wG.mp hg;by_cases j:g∈l
  ·cases l with
   | nil=>simp at j
   | cons x l=>
    have d:=wG.mp hl;have n:x=g:=by
     rcases zG.mp j with e | e
     ·exact e.symm
     ·rcases zG.mp (h x zM) with i | i
      ·exact i
      ·have k:=d.1 g e;have m:=c.1 x i;have:=Nr _ _ k;rw[m] at this;cases this
    have:l.length<=gt.length:=Jw c.2 d.2 λy f=>by
     rcases zG.mp (h y (zH _ f)) with e | e
     ·have:=d.1 y f;rw[n,e] at this;have z:=Nr _ _ this;rw[this] at z;cases z
     ·exact e
    rw[yY,yY]
    lia
  ·have:l.length<=gt.length:=Jw c.2 hl λy f=>by
    rcases zG.mp (h y f) with e | e
    ·exact absurd (e ▸ f) j
    ·exact e
   rw[yY]
   lia
def Z5.len{gt:jr}{f:js}{i:Nat}{t:ZP}(h:Z5 gt f i t)(c:gt.Pairwise λa b=>a.lt b=true):t.rows.length<=gt.length:=by
 have:=Jw c h.up λx e=>by
  obtain⟨r,d,rfl⟩:=zE.mp e;exact(h.inn r d).1
 rwa [zX] at this
def kindOf(t:ZP):Str:=if t.h=0 then "leaf" else "stem"
inductive Q4(H:Hp)(t:ZP)(v:V):Prop
 |mk(d c a:_)(_:v=.ref d)(_:H d=some (.tup [.str (kindOf t),.ref c]))(_:H c=some (.lst a))(_:t.h=0->jX H (Ys t.rows) a)(_:t.h≠0->a=t.bs.map λb=>V.int (b:Nat))
structure Lv(ts:js)(lv:jq):Prop where
 lt:∀ i∈lv,i<ts.length
 cl:∀ i∈lv,∀ b∈(gd ts i).bs,b∈lv
 up:lv.Pairwise (· < ·)
def Vn(H:Hp)(c:js)(b:jq)(a:List (ZV×V)):Prop:=a.map (·.1)=b.map (λi:Nat=>(Sum.inl (i:Int):ZV))/\∀ i:Nat,i∈b->∃ v,YK a (Sum.inl (i:Int))=some v/\Q4 H (gd c i) v
def Q4.same{H a:Hp}{t:ZP}{v:V}(h:Q4 H t v)(s:ZA H a):Q4 a t v:=by
 obtain⟨i,g,j,b,c,d,e,f⟩:=h;exact⟨i,g,j,b,s _ _ c,s _ _ d,λz=>(e z).sm s,f⟩
def Vn.same{H b:Hp}{d:js}{c:jq}{a:List (ZV×V)}(h:Vn H d c a)(s:ZA H b):Vn b d c a:=⟨h.1,λi t=>by
 obtain⟨v,e,f⟩:=h.2 i t;exact⟨v,e,f.same s⟩⟩
def QK(c:js)(a:jq):jJ:=a.reverse.flatMap λb=>(gd c b).rows
def OI(c:js)(a:jq):Nat:=(a.map λb=>5 ^ (gd c b).h).sum
def GJ{a:js}{gt:jr}:∀{l:jq},(∀ b∈l,Z5 gt a b (gd a b))->l.length<=(l.flatMap λb=>(gd a b).rows).length
 | [],_=>zY _
 | b::l,h=>by
  have e:=GJ (l:=l) λx d=>h x (zH _ d);have c:=h b zM;have:1<=(gd a b).rows.length:=uI.mpr c.ne;rw[wY,yS,yY]
  lia
def By{l:jq}{c:Nat}(f:Nat->Nat):(∀ b∈l,f b=c)->(l.map f).sum=l.length * c:=by
 induction l with
 | nil=>intro _;simp
 | cons b l d=>
  intro h;rw[yI,tP,d (λx a=>h x (zH _ a)),h b zM,yY,Nat.succ_mul]
  lia
def AR{a:js}{l:jq}{b:Nat}:OI a l<OI a (l++[b]):=by
 unfold OI;rw[yR,tJ];have:0<5 ^ (gd a b).h:=Nat.pow_pos (by decide)
 simp
 try lia
def ZNX{a:js}{gt:jr}{l:jq}{b:Nat}(k:Z5 gt a b (gd a b))(j:(gd a b).h≠0):OI a (l++(gd a b).bs.reverse)<OI a (l++[b]):=by
 obtain⟨n,f,g,_⟩:=k.stem j;unfold OI;rw[yR,tJ,yR,tJ];have e:((gd a b).bs.reverse.map λb=>5 ^ (gd a b).h).sum=(gd a b).bs.length * 5 ^ ((gd a b).h-1):=by
  have:=By (l:=(gd a b).bs.reverse) (c:=5 ^ ((gd a b).h-1)) (λb=>5 ^ (gd a b).h) λc i=>by
   have:=(g c (sV.mp i)).2;show 5 ^ (gd a c).h=_
   congr 1
   lia
  rw[this,sN]
 rw[e];have d:5 ^ (gd a b).h=5 * 5 ^ ((gd a b).h-1):=by
  have:(gd a b).h=((gd a b).h-1)+1:=∅
  rw[this,Nat.pow_succ,Nat.mul_comm];simp
 have m:0<5 ^ ((gd a b).h-1):=Nat.pow_pos (by decide)
 simp only[yI,wB,tP,List.sum_nil,Nat.add_zero];rw[d];have:(gd a b).bs.length * 5 ^ ((gd a b).h-1)<=4 * 5 ^ ((gd a b).h-1):=Nat.mul_le_mul_right _ f
 lia
def VW(a:js)(h:Nat):Nat:=(a.filter λu=>decide (h<u.h)).length
def ZO1(a:js){h b:Nat}(d:h<=b):VW a b<=VW a h:=by
 unfold VW
 induction a with
 | nil=>exact zY _
 | cons u a c=>
  rw[sX,sX];by_cases z:b<u.h
  ·rw[aQ (aO z),aQ (aO ∅),yY,yY]
   lia
  ·rw[aP (λy=>z (of_decide_eq_true y))];split
   ·rw[yY];lia
   ·exact c
def FH(u:ZP)(a:js)(h:Nat):VW (u::a) h=(if h<u.h then 1 else 0)+VW a h:=by
 unfold VW;rw[sX];by_cases z:h<u.h
 ·rw[aQ (aO z),aQ z,yY];lia
 ·rw[aP (λy=>z (of_decide_eq_true y)),aP z];lia
def F2:∀{a:js}{t:ZP}{h:Nat},t∈a->h<t.h->VW a t.h<VW a h
 | u::a,t,h,hm,hh=>by
  rw[FH,FH];rcases zG.mp hm with z | z
  ·subst z;have:=ZO1 a (yE hh);rw[aP (xE _),aQ hh]
   lia
  ·have:=F2 z hh;by_cases y:t.h<u.h
   ·rw[aQ y,aQ ∅];lia
   ·rw[aP y];lia
def Mi{a:js}{j h:Nat}(c:j<a.length)(b:h<(gd a j).h):VW a (gd a j).h<VW a h:=F2 (zB (Vg c)) b
def HH(a:js)(h:Nat):VW a h<=a.length:=sG _ _
def US{H c:Hp}{a:aj}{o:HO}(s:ZA H c)(n:H a=none):ZA H (upd c a o):=λb u e=>by rw[ZO (Zb e n)];exact s b u e
abbrev iN(l:jq):jf:=l.map λb=>V.int (b:Nat)
def Iu(a b:jJ):Ys (a++b)=Ys a++Ys b:=yR
structure Y8(gt:jr)(H:Hp)(d:aj)(ts:js)(lv:jq)(kvs:List (ZV×V)):Prop where
 dict:H d=some (.dK kvs)
 tws:Vn H ts lv kvs
 lv:Lv ts lv
 wf:WF gt ts
 len:gt.length=64
 up:gt.Pairwise λa b=>a.lt b=true
def Y8.same{gt:jr}{H b:Hp}{d:aj}{e:js}{c:jq}{a:List (ZV×V)}(h:Y8 gt H d e c a)(s:ZA H b):Y8 gt b d e c a:=⟨s _ _ h.dict,h.tws.same s,h.lv,h.wf,h.len,h.up⟩
def Y8.at_{gt:jr}{H:Hp}{d:aj}{b:js}{c:jq}{a:List (ZV×V)}(h:Y8 gt H d b c a){i:Nat}(e:i∈c):Z5 gt b i (gd b i):=h.wf i _ (Vg (h.lv.lt i e))
def Y8.get{gt:jr}{H:Hp}{d:aj}{a:js}{j:jq}{g:List (ZV×V)}(h:Y8 gt H d a j g){i:Nat}(q:i∈j):∃ e c b,Zx H d (.int (i:Nat)) (some (.ref e))/\H e=some (.tup [.str (kindOf (gd a i)),.ref c])/\H c=some (.lst b)/\((gd a i).h=0->jX H (Ys (gd a i).rows) b)/\((gd a i).h≠0->b=iN (gd a i).bs):=by
 obtain⟨v,l,e,c,b,rfl,m,n,o,p⟩:=h.tws.2 i q;exact⟨e,c,b,l ▸ Zx.k (k:=Sum.inl (i:Int)) h.dict,m,n,o,p⟩
structure Wh(gt:jr)(H:Hp)(d:aj)(ts:js)(lv:jq)(kvs:List (ZV×V)):Prop where
 dict:H d=some (.dK kvs)
 tws:∀ i:Nat,i∈lv->∃ v,YK kvs (Sum.inl (i:Int))=some v/\Q4 H (gd ts i) v
 cl:∀ i∈lv,∀ b∈(gd ts i).bs,b∈lv
 at_:∀ i∈lv,Z5 gt ts i (gd ts i)
 len:gt.length=64
 up:gt.Pairwise λa b=>a.lt b=true
def Y8.g{gt:jr}{H:Hp}{d:aj}{c:js}{b:jq}{a:List (ZV×V)}(h:Y8 gt H d c b a):Wh gt H d c b a:=⟨h.dict,h.tws.2,h.lv.cl,λi e=>h.at_ e,h.len,h.up⟩
def Wh.same{gt:jr}{H b:Hp}{d:aj}{e:js}{c:jq}{a:List (ZV×V)}(h:Wh gt H d e c a)(s:ZA H b):Wh gt b d e c a:=⟨s _ _ h.dict,λi k=>by
 obtain⟨v,g,j⟩:=h.tws i k;exact⟨v,g,j.same s⟩,h.cl,h.at_,h.len,h.up⟩
def Wh.get{gt:jr}{H:Hp}{d:aj}{a:js}{j:jq}{g:List (ZV×V)}(h:Wh gt H d a j g){i:Nat}(q:i∈j):∃ e c b,Zx H d (.int (i:Nat)) (some (.ref e))/\H e=some (.tup [.str (kindOf (gd a i)),.ref c])/\H c=some (.lst b)/\((gd a i).h=0->jX H (Ys (gd a i).rows) b)/\((gd a i).h≠0->b=iN (gd a i).bs):=by
 obtain⟨v,l,e,c,b,rfl,m,n,o,p⟩:=h.tws i q;exact⟨e,c,b,l ▸ Zx.k (k:=Sum.inl (i:Int)) h.dict,m,n,o,p⟩
inductive WQ(gt:jr)(h:jf)(H:Hp)(Q:VK)(_:XK):Prop
 |mk(d:aj)(n:Nat)(e:js)(c:jq)(b:List (ZV×V))(_:h=[.ref d,.int n])(_:Wh gt H d e c b)(_:n∈c)(_:∀(a:Hp)(D:aj)(g:jf),ZA H a->H D=none->a D=some (.lst g)->jX a (Ys (gd e n).rows) g->Q (.ref D) a)
abbrev CQ:ju:=["_law_twigs","_law_number","_law_todo","_law_found","_law_kind","_law_what"]
def Vo:ZC CQ zEb (Zc Kt):=Z9
def ZIj{gt:jr}(F:Zp K "_law_rows_of" "_law_rows_of" Kt f fd)(T:YX mg)(Tr:mg "reversed" = none):ZJ P w K mg ki Ze 1 f fd zEb (WQ gt):=by
 refine F.ko Vo λa6 A a5 s H vs Q E hr h=>?_;obtain⟨d,n,i,lv,a7,rfl,L,hn,k⟩:=h;have W:=Vo.nd;have hu:=VJ hr;intro Xc;refine⟨_,ZQ (Zs 2 W (XF (ZY (pv 1)))) (ZQ (Zs 3 W (XF Zt))
  (ZQ (Nz PassesOwn.never (Yh (HP hr.units0) (pv 2) (XF Zt) (YE _))
   (ZQ (PQ (VX hu (pv 0) (Mb yH PySem.F.slot_list_pop PySem.F.type_list_pop Dh (pv 2))) (P3 rfl (XY (Yk 4 W) (XY (Yk 5 W) Pv))))
   (ZX (Zy (Yh VT (pv 4) Ym (YE _))
    (ZX (Zs 3 W (Z0 PN (pv 3) (Vb Pq rfl T.list Qr (ZY (pv 5))))))
    (ZX (Zs 2 W (Z0 PN (pv 2) (AI rfl (pv 5) rfl rfl T.list Tr))))))))
  (ZX (Zn (pv 3))))),?_⟩
 refine⟨_,rfl,Z7,λj x=>⟨Z7,λq p=>?_⟩⟩;have y:j≠q:=λz=>by rw[<-z,ZR] at p;cases p
 have M:H q=none:=by rw[ZO (Ne.symm y)] at p;exact p
 have a4:=(L.at_ n hn).len L.up;rw[L.len] at a4;refine⟨λm σ H'=>∃(j q:aj)(g:jq)(a:jJ)(B:jf)(k4 k5:jg),m=OI i g/\σ=[some (.ref d),some (.int n),some (.ref j),some (.ref q),k4,k5]/\ZA H H'/\H j=none/\H q=none/\j≠q/\H' j=some (.lst (iN g))/\H' q=some (.lst B)/\jX H' (Ys a) B/\(∀ b∈g,b∈lv)/\a++QK i g=(gd i n).rows,
  ⟨_,j,q,[n],[],[],none,none,rfl,rfl,US (Zg x _) M,x,M,y,by rw[ZO y];exact ZR,ZR,.nil,λb S=>by rw[yZ.mp S];exact hn,by simp[QK]⟩,?_⟩
 rintro m σ H1 ⟨j,q,g,a,B,k4,k5,rfl,rfl,s1,x,p,y,a0,a3,hk,S,I⟩;exists _,rfl,Z7;intro e0 a2;have Z:=Zg a2 (.lst []);exists j,e0,iN g,rfl,rfl,ZG.of (Z _ _ a0),ZG.of ZR,_,rfl;have t:=Z _ _ a0;have v:=Z _ _ a3;have D:=hk.sm Z;have s2:=s1.trans Z;generalize upd H1 e0 (.lst [])=R at t v D s2⊢;have lf:a.length+(QK i g).length=(gd i n).rows.length:=by rw[<-yS,I]
 have lt:g.length<=(QK i g).length:=by
  have:=GJ (l:=g.reverse) λb h=>L.at_ b (S b (sV.mp h))
  rwa [sN] at this
 rcases sH g with z | ⟨rest,b,z⟩
 ·subst z;refine Zk ?_;have e1:a=(gd i n).rows:=by simpa [QK] using I
  rw[e1] at D;exact⟨_,rfl,k R q B s2 p v D⟩
 ·rw[sI] at z;subst z;have a1:(!(iN (rest++[b])).isEmpty)=true:=by simp[iN]
  rw[a1];refine Z1 ⟨_,λ_ _ z=>z,?_⟩;have bl:b∈lv:=S b (by simp)
  have eI:iN (rest++[b])=iN rest++[.int (b:Nat)]:=by simp[iN]
  exists _,rfl,_,rfl,.inl ⟨rfl,_,ZG.of t⟩,j,iN (rest++[b]),.int (b:Nat),rfl,rfl,t,by rw[eI];simp
  have u:upd R j (.lst (iN (rest++[b])).dropLast) j=some (.lst (iN rest)):=by rw[ZR,eI,List.dropLast_concat]
  have r:upd R j (.lst (iN (rest++[b])).dropLast) q=some (.lst B):=by rw[ZO (Ne.symm y)];exact v
  have X:ZA H (upd R j (.lst (iN (rest++[b])).dropLast)):=US s2 x;have G:jX (upd R j (.lst (iN (rest++[b])).dropLast)) (Ys a) B:=D.mono (λc xs e=>by rw[ZO (ZD e t)];exact e) _ _
  generalize upd R j (.lst (iN (rest++[b])).dropLast)=H3 at u r X G⊢;obtain⟨tp,tl,Y,g1,e2,e3,e4,e5⟩:=(L.same X).get bl;have er:QK i (rest++[b])=(gd i b).rows++QK i rest:=by simp[QK]
  have lr:(QK i (rest++[b])).length=(gd i b).rows.length+(QK i rest).length:=by rw[er,yS]
  have a8:B.length=a.length:=by have:=G.length;rw[<-this];exact zX _
  exists d,.ref tp,rfl,g1,tp,_,rfl,Zh.of e2,rfl,_,_,rfl,_,_,rfl,rfl;exists _,rfl,rfl,_,rfl;by_cases U:(gd i b).h=0
  ·have ek:decide (V.str (kindOf (gd i b))=V.str "leaf")=true:=aO (by unfold kindOf;rw[aQ U])
   rw[ek];have kk:=e4 U;have lw:Y.length=(gd i b).rows.length:=by have:=kk.length;rw[<-this];exact zX _
   refine Z1 ⟨_,rfl,_,rfl,tl,Y,rfl,.inl (ZG.of e3),λq1 n1=>?_⟩;have C:=Zg n1 (.lst Y);exists q,q1,B,Y,rfl,rfl,C _ _ r,ZR,yE (YS ∅)
   intro q2 J;have g5:=Zg J (.lst (B++Y));have o:=C.trans g5;have O:=ZA.free (X.trans C) J;have tq:j≠q2:=λz=>by rw[<-z,C _ _ u] at J;cases J
   exists _,AR,j,q2,rest,a++(gd i b).rows,B++Y,_,_,rfl,rfl,X.trans o,x,O,tq,o _ _ u,ZR,?_,λc N=>S c (wO _ N)
   ·rw[Iu];exact(G.sm o).append (kk.sm o)
   ·rw[rS,<-er];exact I
  ·have ek:decide (V.str (kindOf (gd i b))=V.str "leaf")=false:=aM (by unfold kindOf;rw[aP U];decide)
   rw[ek];have ew:=e5 U;subst ew;obtain⟨h1,h2,h3,h4⟩:=(L.at_ b bl).stem U;refine Zk ⟨_,rfl,_,rfl,tl,_,rfl,ZG.of e3,λq1 n1=>?_⟩;have C:=Zg n1 (.lst (iN (gd i b).bs).reverse);exists j,q1,iN rest,_,rfl,rfl,C _ _ u,ZR,yE (YS (by simp[iN];simp at lt;lia))
   intro q2 J;have g5:=Zg J (.lst (iN rest++(iN (gd i b).bs).reverse));have o:=C.trans g5;have O:=ZA.free (X.trans C) J;have fq:q2≠q:=λz=>by rw[z,C _ _ r] at J;cases J
   exists _,ZNX (L.at_ b bl) U,q2,q,rest++(gd i b).bs.reverse,a,B,_,_,rfl,rfl,X.trans o,O,p,fq,?_,o _ _ r,G.sm o,λc N=>?_
   ·rw[ZR];simp[iN]
   ·rcases yM.mp N with N | N
    ·exact S c (wO _ N)
    ·exact L.cl b bl c (sV.mp N)
   ·rw[<-I,er,h4];simp[QK]
def F8{a:jf}{j:Nat}{v:V}(b:1<=j)(c:j<=a.length)(h:a[a.length-j]? = some v):Xv a (-(j:Int))=some v:=by
 unfold Xv;have e:Qp a.length (-(j:Int))=some (a.length-j):=by
  unfold Qp;rw[aP ∅,aQ ∅]
  congr 1
  lia
 rw[e];exact h
def rd:Xt:=(.int 0,.int 0)
def YY(t:ZP):YZ:=⟨t.h,(t.rows.getD 0 rd).1,(t.rows.getD (t.rows.length-1) rd).1,t.rows.length⟩
def NF{H:Hp}{c:jJ}{j:jf}{i:Nat}{u:V}(h:jX H (Ys c) j)(e:j[i]? = some u):∃ a k l,c[i]? = some (c.getD i rd)/\u=.ref a/\H a=some (.tup [k,l])/\ZF H (c.getD i rd).1 k/\ZF H (c.getD i rd).2 l:=by
 obtain⟨t,d,f⟩:=h.get e;unfold Ys at d;rw[zN] at d;obtain⟨r,g,rfl⟩:=yB.mp d;have m:c.getD i rd=r:=by rw[zW,g];rfl
 unfold Jt at f;rw[ZF] at f;obtain⟨a,x,rfl,n,b⟩:=f;rw[jX] at b;obtain⟨q,v,rfl,o,b⟩:=b;rw[jX] at b;obtain⟨s,w,rfl,p,b⟩:=b;rw[jX] at b;subst b;rw[m];exact⟨a,q,s,g,rfl,n,o,p⟩
inductive Yb(gt:jr)(g:jf)(H:Hp)(Q:VK)(_:XK):Prop
 |mk(d:aj)(n:Nat)(e:js)(c:jq)(b:List (ZV×V))(_:g=[.ref d,.int n])(_:Wh gt H d e c b)(_:n∈c)(_:∀(a:Hp)(v:V),ZA H a->YD a (YY (gd e n)) v->Q v a)
abbrev ZMG:ju:=["_law_twigs","_law_number","_law_here","_law_high","_law_rows"]
def Vj:ZC ZMG zEb (Zc IW):=Z9
def Aq{gt:jr}(F:Zp K "_law_label" "_law_label" IW f fd)(T:YX mg)(DR:ZB P w K mg ki 1 "_law_rows_of" zEb (WQ gt)):ZJ P w K mg ki Ze 2 f fd zEb (Yb gt):=by
 refine F.ko Vj λa2 A Y s H vs Q E hr h=>?_;obtain⟨d,n,a,lv,W,rfl,L,M,k⟩:=h;have o:=Vj.nd;have hu:=VJ hr;intro Xc;refine⟨_,ZQ (Zs 2 o (pv 1)) (ZQ (Zs 3 o ZN)
  (ZQ (Nz PassesOwn.never (Yh VT (Zm K (VX hu (pv 0) (pv 2)) ZN) Ym (YE _))
   (ZQ (Zs 2 o (Zm K (Zm K (VX hu (pv 0) (pv 2)) ZN) ZN))
   (ZX (Zs 3 o (Z0 WZ (pv 3) ZN)))))
  (ZQ (Zs 4 o (Zr DR hr (Zf (pv 0) (pv 1))))
  (ZX (Zn (Yi (Pm (pv 3) (Zm K (Zm K (pv 4) ZN) ZN) (Zm K (Zm K (pv 4) (P6 Pt ZN)) ZN) (Zq WA rfl T.len Xf (ZY (pv 4)))))))))),?_⟩
 exists _,rfl;refine⟨λm σ H'=>∃(b i:Nat),m=(gd a b).h/\σ=[some (.ref d),some (.int n),some (.int (b:Nat)),some (.int (i:Nat)),none]/\H'=H/\b∈lv/\i+(gd a b).h=(gd a n).h,
  ⟨_,n,0,rfl,rfl,rfl,M,∅⟩,?_⟩
 rintro m σ H1 ⟨b,i,rfl,rfl,rfl,v,hh⟩;obtain⟨u,tl,ws,g1,r,e3,e4,e5⟩:=L.get v;refine⟨_,rfl,_,rfl,d,.ref u,rfl,g1,.inr (.inl ⟨u,_,0,_,rfl,rfl,Zh.of r,rfl,?_⟩)⟩;exists rfl,_,rfl;by_cases t:(gd a b).h=0
 ·have y:decide (V.str (kindOf (gd a b))=V.str "stem")=false:=aM (by unfold kindOf;rw[aQ t];decide)
  rw[y];refine Zk ?_;exists _,rfl,_,rfl,d,n,a,lv,W,rfl,L,M;intro H2 D e s2 nD I R;have p:=L.at_ n M;have l:e.length=(gd a n).rows.length:=by have:=R.length;rw[<-this];exact zX _
  have X:=p.len L.up;rw[L.len] at X;have g:0<e.length:=by rw[l];exact uI.mpr p.ne
  have B:e[0]? = some e[0]:=zV g;have C:e[e.length-1]? = some (e[e.length-1]'∅):=zV ∅
  obtain⟨Z,N,v0,r0,u0,t0,S,_⟩:=NF R B;obtain⟨a1,O,v1,r1,u1,t1,U,_⟩:=NF R C;rw[u0] at B;rw[u1] at C;refine⟨_,rfl,_,rfl,.inl ⟨D,e,0,.ref Z,rfl,rfl,ZG.of I,Xg (j:=0) B,.inr (.inl ⟨Z,_,0,N,rfl,rfl,Zh.of t0,rfl,?_⟩)⟩⟩;refine⟨_,rfl,1,rfl,.inl ⟨D,e,-1,.ref a1,rfl,rfl,ZG.of I,F8 (j:=1) (zY _) g C,.inr (.inl ⟨a1,_,0,O,rfl,rfl,Zh.of t1,rfl,?_⟩)⟩⟩;exists _,rfl,D,e,rfl,.inl (ZG.of I),Z7;intro q nq;have G:=Zg nq (.tup [.int (i:Nat),N,O,.int (e.length:Nat)]);refine k _ _ (s2.trans G) ⟨q,N,O,rfl,?_,S.sm G,?_⟩
  ·rw[ZR];have e1:(YY (gd a n)).h=(i:Int):=by show ((gd a n).h:Int)=_;lia
   have r:(YY (gd a n)).m=(e.length:Int):=by show ((gd a n).rows.length:Int)=_;lia
   rw[e1,r]
  ·have x:(YY (gd a n)).hi=((gd a n).rows.getD (e.length-1) rd).1:=by rw[l];rfl
   rw[x];exact U.sm G
 ·have y:decide (V.str (kindOf (gd a b))=V.str "stem")=true:=aO (by unfold kindOf;rw[aP t])
  rw[y];have ew:=e5 t;subst ew;obtain⟨h1,h2,h3,h4⟩:=(L.at_ b v).stem t;obtain⟨c,J⟩:∃ c,(gd a b).bs[0]? = some c:=⟨_,zV ∅⟩
  have a3:=h3 c (zB J);refine Z1 ⟨_,λ_ _ z=>z,?_⟩;refine⟨_,rfl,_,rfl,d,.ref u,rfl,g1,.inr (.inl ⟨u,_,1,_,rfl,rfl,Zh.of r,rfl,.inl ⟨tl,_,0,.int (c:Nat),rfl,rfl,ZG.of e3,Xg (j:=0) (by simp[iN,J]),?_⟩⟩)⟩
  exists _,rfl,_,_,rfl,rfl;exact⟨(gd a c).h,∅,c,i+1,rfl,by simp[List.set],rfl,L.cl b v c (zB J),∅⟩
def YT(b:js)(a:jq)(i:Nat):jq:=a.filter λj=>decide (i∈(gd b j).bs)
def ZPe(x:Nat)(l:jq):LW (.int (x:Nat)) (iN l)=decide (x∈l):=by
 unfold LW iN;rw[List.any_map]
 induction l with
 | nil=>rfl
 | cons n l a=>
  rw[vZ,a];have e:((λy=>Qn y (V.int (x:Nat))) ∘ λb:Nat=>V.int (b:Nat)) n=decide (n=x):=by
   show Qn (.int (n:Nat)) (.int (x:Nat))=_;rw[wS];simp[Qn]
   lia
  rw[e];by_cases h:n=x
  ·subst h;simp
  ·have:¬ x=n:=λz=>h z.symm;simp[h,this]
def AD(l:jq):(iN l).all PJ=true:=by
 unfold iN;rw[xT];exact zO.mpr λ_ _=>rfl
def Ea{J:It}{w:jq}{A:L2.St}{H:Hp}{y:TT}{Q:VK}(e:jq)(p:Nat->Bool)(F:e.length<=900)(s:∀ i a,ZA H a->i<e.length->J.go i a)(E:∀ i a x b,ZA H a->i<e.length->J.yld i a x b->b=a/\(iN e)[i]? = some x)(h:∀ a,ZA H a->J.stop e.length a)(o:∀ a n (R:Bool->Hp->Prop),n∈e->ZA H a->R (p n) a->y (Oe A w (.int (n:Nat))) a R)(r:∀ (D:aj) (a:Hp),ZA H a->H D=none->a D=some (.lst (iN (e.filter p)))->Q (.ref D) a):WY J A w y (Uq 0) H Q:=by
 refine ZGf (n:=e.length) (λi z=>(iN e)[i]? = some z) (λz=>match z with | .int n=>p n.toNat | _=>false) (λD i f b=>ZA H b/\H D=none/\f=iN ((e.take i).filter p)) (YS ∅)
  (λD i f b j c=>s i b c.1 j) (λD i f b z B j c u=>E i b z B c.1 j u) (λD f b c=>h b c.1)
  (λD v=>⟨Zg v _,v,rfl⟩) (λD i f b z j d c R C=>?_) (λD i f b z q j d t c=>?_) (λD i f b z q j d t c=>?_) (λD f b q c=>?_)
 ·unfold iN at d;rw[zN] at d;obtain⟨n,l,rfl⟩:=yB.mp d;exact o b n R (zB l) c.1 C
 ·obtain⟨m,k,rfl⟩:=c;unfold iN at d;rw[zN] at d;obtain⟨n,l,rfl⟩:=yB.mp d;exists US m k,k;have g:p n=true:=t;rw[yP,l,sT];simp[g,iN]
 ·obtain⟨m,k,rfl⟩:=c;unfold iN at d;rw[zN] at d;obtain⟨n,l,rfl⟩:=yB.mp d;exists m,k;have g:p n=false:=t;rw[yP,l,sT];simp[g]
 ·obtain⟨m,k,rfl⟩:=c;rw[yK (zY _)] at q;exact r D b m k q
def Uz{a:jq}(h:a.Pairwise (· < ·)):(a.map λi:Nat=>(i:Int)).Pairwise (· <= ·):=by
 rw[List.pairwise_map];exact h.imp λh=>by lia
inductive XR(gt:jr)(g:jf)(H:Hp)(Q:VK)(_:XK):Prop
 |mk(d:aj)(n:Nat)(e:js)(c:jq)(b:List (ZV×V))(_:g=[.ref d,.int n])(_:Y8 gt H d e c b)(_:c.length<64)(_:∀(a:Hp)(D:aj),ZA H a->H D=none->a D=some (.lst (iN (YT e c n)))->Q (.ref D) a)
def ZMZ:ZC zEb zEb (Zc Jb):=Z9
def Et{gt:jr}(F:Zp K "_law_above" "_law_above" Jb f fd)(T:YX mg):ZJ P w K mg ki Ze 1 f fd zEb (XR gt):=by
 refine F.ko ZMZ λO A v s H vs Q E hr h=>?_;obtain⟨d,n,l,a,t,rfl,L,u,k⟩:=h;have J:=VJ hr;intro Xc;refine⟨_,ZX (Zn (Qz [0,1] zEb rfl (Wq (Zq (PR rfl) rfl T.sorted Q7 (ZY (pv 0))))
  (λ_ _ _ _ _=>Mo (PW.pt (Nu (Yh VT (Zm K (VX J (pv 1) (pv 0)) ZN) Ym (YE _)) (Mc (Yh (r:=HU K false) Ae (pv 2) (Zm K (VX J (pv 1) (pv 0)) ZN) rfl)))))
  (λ_ _ _ _ _=>pv 0) ⟨rfl,.inl rfl,rfl,rfl,.inl rfl,rfl,trivial⟩)),?_⟩
 exists _,rfl,d,t,a.map λi:Nat=>(i:Int),rfl,L.dict,(by rw[L.tws.1,zF];rfl),Uz L.lv.up,by simpa using u
 intro p np;have W:(a.map λi:Nat=>(i:Int)).map V.int=iN a:=by rw[zF];rfl
 rw[W];obtain⟨H1,X,o,e⟩:=Xa np (.lst (iN a));rw[X];refine⟨p,rfl,⟨_,ZG.of e⟩,Ea a (λj=>decide (n∈(gd l j).bs)) ∅ (λi B b I=>⟨_,.int (a[i]:Nat),ZG.of (b _ _ e),by simp[iN,zV I]⟩) (λi B x H4 b I M=>⟨M.1,M.2 _ (ZG.of (b _ _ e))⟩) (λB b=>⟨_,ZG.of (b _ _ e),by simp[iN]⟩) (λz j R hj y q=>?_) (λD z y nD hD=>?_)⟩
 ·have N:j∈a:=hj;obtain⟨g,tl,ws,G,C,S,e4,U⟩:=(L.same (o.trans y)).get N;refine⟨_,rfl,_,rfl,d,.ref g,rfl,G,.inr (.inl ⟨g,_,0,_,rfl,rfl,Zh.of C,rfl,?_⟩)⟩;exists rfl,_,rfl;by_cases c:(gd l j).h=0
  ·have m:decide (V.str (kindOf (gd l j))=V.str "stem")=false:=aM (by unfold kindOf;rw[aQ c];decide)
   rw[m];have Y:=((L.at_ N).leaf c).1;rw[Y,aM (by simp)] at q
   exact Zk q
  ·have m:decide (V.str (kindOf (gd l j))=V.str "stem")=true:=aO (by unfold kindOf;rw[aP c])
   rw[m];have Z:=U c;subst Z;refine Z1 ⟨_,rfl,_,rfl,_,rfl,d,.ref g,rfl,G,.inr (.inl ⟨g,_,1,_,rfl,rfl,Zh.of C,rfl,?_⟩)⟩;exists tl,_,rfl,.inl (ZG.of S),rfl,AD _,_,rfl;rw[aP zT,ZPe];exact q
 ·exact k z D (o.trans y) (ZA.free o nD) hD
inductive Sh(ts:js)(lv:jq)(ho:Nat->Nat):Nat->jQ->Prop
 | here {i:Nat}:(YT ts lv i).length+ho i≠1->Sh ts lv ho i (some i)
 | top {i:Nat}:(YT ts lv i).length+ho i=1->YT ts lv i=[]->Sh ts lv ho i none
 | up {i j:Nat} {r:jq} {o:jQ}:(YT ts lv i).length+ho i=1->YT ts lv i=j::r->Sh ts lv ho j o->Sh ts lv ho i o
def Sh.uniq{j:js}{f:jq}{e:Nat->Nat}{i:Nat}{o p:jQ}(h:Sh j f e i o)(g:Sh j f e i p):o=p:=by
 induction h generalizing p with
 | here a=>
  cases g with
  | here=>rfl
  | top b=>exact absurd b a
  | up b=>exact absurd b a
 | top a b=>
  cases g with
  | here c=>exact absurd a c
  | top=>rfl
  | up _ c=>rw[b] at c;cases c
 | up a b _ k=>
  cases g with
  | here c=>exact absurd a c
  | top _ c=>rw[b] at c;cases c
  | up _ c d=>
   rw[b] at c;cases c;exact k d
inductive Zw(ts:js)(lv:jq)(ho:Nat->Nat):Nat->jq->Prop
 | top {i:Nat}:(YT ts lv i).length+ho i=1->YT ts lv i=[]->Zw ts lv ho i [i]
 | up {i j:Nat} {l r:jq}:(YT ts lv i).length+ho i=1->YT ts lv i=j::r->Zw ts lv ho j l->Zw ts lv ho i (i::l)
def Sh.road{e:js}{d:jq}{c:Nat->Nat}{i:Nat}{o:jQ}(h:Sh e d c i o):o=none->∃ l,Zw e d c i l:=by
 induction h with
 | here _=>intro z;cases z
 | top a b=>intro _;exact⟨_,.top a b⟩
 | up a b _ f=>
  intro z;obtain⟨l,h⟩:=f z;exact⟨_,.up a b h⟩
def Zw.sh{e:js}{d:jq}{c:Nat->Nat}{i:Nat}{l:jq}(h:Zw e d c i l):Sh e d c i none:=by
 induction h with
 | top a b=>exact .top a b
 | up a b _ f=>exact .up a b f
def Zw.uniq{k:js}{j:jq}{f:Nat->Nat}{i:Nat}{l e:jq}(h:Zw k j f i l)(g:Zw k j f i e):l=e:=by
 induction h generalizing e with
 | top a b=>
  cases g with
  | top=>rfl
  | up _ c=>rw[b] at c;cases c
 | up a b _ m=>
  cases g with
  | top _ c=>rw[b] at c;cases c
  | up _ c d=>
   rw[b] at c;cases c;rw[m d]
def oV:jQ->V
 | none=>.non
 | some j=>.int (j:Nat)
def OV{gt:jr}{a:js}{b:jq}(f:WF gt a)(e:Lv a b){i j:Nat}(h:j∈YT a b i):(gd a i).h<(gd a j).h/\j∈b:=by
 unfold YT at h;rw[xM,decide_eq_true_iff] at h;have d:=f j _ (Vg (e.lt j h.1));by_cases c:(gd a j).h=0
 ·rw[(d.leaf c).1] at h;simp at h
 ·exact⟨by have:=((d.stem c).2.2.1 i h.2).2;lia,h.1⟩
def Dq(b:js)(a:jq)(i:Nat):(YT b a i).length<=a.length:=sG _ _
def UV(a:List (ZV×V))(b:jq)(c:Nat->Nat):Prop:=a.map (·.1)=b.map (λi:Nat=>(Sum.inl (i:Int):ZV))/\∀ i:Nat,i∈b->YK a (Sum.inl (i:Int))=some (.int (c i:Nat))
inductive Y0(gt:jr)(j:jf)(H:Hp)(Q:VK)(_:XK):Prop
 |mk(d g:aj)(n:Nat)(i:js)(b:jq)(c a:List (ZV×V))(h:Nat->Nat)(_:j=[.ref d,.ref g,.int n])(_:Y8 gt H d i b c)(_:b.length<64)(_:n∈b)(_:H g=some (.dK a))(_:UV a b h)(_:∀(e:Hp)(o:jQ),ZA H e->Sh i b h n o->Q (oV o) e)
abbrev Ad:ju:=["_law_twigs","_law_holds","_law_number","_law_here","_law_stems"]
def Vl:ZC Ad zEk (Zc KI):=Z9
def Ca{gt:jr}(F:Zp K "_law_shared" "_law_shared" KI f fd)(T:YX mg)(DA:ZB P w K mg ki 1 "_law_above" zEb (XR gt)):ZJ P w K mg ki Ze 2 f fd zEk (Y0 gt):=by
 refine F.ko Vl λa0 A S s H vs Q E J h=>?_;obtain⟨d,y,n,a,e,N,a1,g,rfl,L,O,hn,hh,hH,k⟩:=h;have R:=Vl.nd;have hu:=VJ J;intro Xc;refine⟨_,ZQ (Zs 3 R (pv 2)) (ZX (Nz PassesOwn.never (Yf Vz)
  (ZQ (Zs 4 R (Zr DA J (Zf (pv 0) (pv 3))))
  (ZQ (Zy (Yh PZ (Z0 WZ (Zq WA rfl T.len Xf (ZY (pv 4))) (VX hu (pv 1) (pv 3))) ZN (YE _)) (ZX (Zn (pv 3))) Z2)
  (ZQ (Zy (Yh (Nv J.units0) (pv 4) (XF Zt) (YE _)) (ZX (Zn PY)) Z2)
  (ZX (Zs 3 R (Ui Z6 (pv 4) ZN (λ_ _=>rfl))))))))),?_⟩
 exists _,rfl;refine⟨λm σ H'=>∃(b:Nat)(X:jg),m=VW a (gd a b).h/\σ=[some (.ref d),some (.ref y),some (.int n),some (.int (b:Nat)),X]/\ZA H H'/\b∈e/\∀ o,Sh a e g b o->Sh a e g n o,
  ⟨_,n,none,rfl,rfl,ZA.refl H,hn,λ_ z=>z⟩,?_⟩
 rintro m σ H1 ⟨b,X,rfl,rfl,Z,bl,U⟩;refine⟨_,rfl,Z1 ⟨_,λ_ _ z=>z,?_⟩⟩;exists _,rfl,_,rfl,d,b,a,e,N,rfl,L.same Z,O;intro v D s2 nD C;have p:=Z.trans s2;have hg:Zx v y (.int (b:Nat)) (some (.int (g b:Nat))):=hH.2 b bl ▸ Zx.k (k:=Sum.inl (b:Int)) (p _ _ hh);have Y:(iN (YT a e b)).length=(YT a e b).length:=zX _;exists _,rfl,D,_,rfl,.inl (ZG.of C),_,rfl,_,rfl,y,.int (g b:Nat),rfl,hg,_,_,rfl,rfl;exists rfl,_,rfl;refine Wu (λc=>?_) (λc=>?_)
 ·have u:(YT a e b).length+g b≠1:=λz=>by
   rw[rT,decide_eq_false_iff_not] at c;refine c ?_;show V.int (((iN (YT a e b)).length:Nat)+(g b:Nat):Int)=V.int 1;rw[Y]
   congr 1
   lia
  exact⟨_,rfl,k v (some b) p (U _ (.here u))⟩
 ·have u:(YT a e b).length+g b=1:=by
   rw[rT,decide_eq_false_iff_not,Decidable.not_not] at c;have x:V.int (((iN (YT a e b)).length:Nat)+(g b:Nat):Int)=V.int 1:=c;rw[Y] at x;injection x with x
   lia
  exists _,rfl,Z7;intro W G;have B:=Zg G (.lst []);exists D,W,_,rfl,rfl,ZG.of (B _ _ C),ZG.of ZR,_,rfl;have l:=B _ _ C;have q:=p.trans B;generalize upd v W (.lst [])=H3 at l q⊢
  cases t:YT a e b with
  | nil=>
   rw[show (iN ([]:jq)).isEmpty=true from rfl];exact Z1 (k H3 none q (U _ (.top u t)))
  | cons j r=>
   rw[show (iN (j::r)).isEmpty=false from rfl];rw[t] at l;have M:=OV L.wf L.lv (i:=b) (j:=j) (by rw[t];exact zM)
   have jt:=L.lv.lt j M.2;refine Zk ⟨_,rfl,D,_,0,.int (j:Nat),rfl,rfl,ZG.of l,Xg (j:=0) rfl,?_⟩;exact⟨VW a (gd a j).h,Mi jt M.1,j,_,rfl,rfl,q,M.2,λo I=>U o (.up u t I)⟩
def Ye.snoc{H:Hp}{d:jM}{a:jf}{L:YZ}{u:V}(h:Ye H d a)(g:YD H L u):Ye H (d++[L]) (a++[u]):=by
 exists by rw[yS,yS,h.1];rfl
 intro i w e;rcases yU i a.length with b | b
 ·rw[xB b] at e;have:=h.2 i w e;rw[zW] at this⊢;rw[xB (by rw[<-h.1];exact b)]
  exact this
 ·rw[xA b] at e;have c:i-a.length=0:=by
   rcases Nat.eq_zero_or_pos (i-a.length) with z | z
   ·exact z
   ·rw[vE (by simp;lia)] at e;cases e
  rw[c] at e;simp at e;subst e;have f:i=d.length:=by have:=h.1;lia
  rw[zW,f];simp;exact g
def YQ(a:jq)(x:Int):Bool:=decide (0<=x/\x.toNat∈a)
def Je(a:jM):Prop:=∀ j,j+1<a.length->(a.getD (j+1) .d).h=(a.getD 0 .d).h/\(a.getD j .d).hi.lt (a.getD (j+1) .d).lo=true
def WP{c:jM}:Je c ↔ Lq c=true:=by
 unfold Je Lq QA;rw[zO];constructor
 ·intro h j e;have g:j<c.length-1:=xX.mp e;obtain⟨a,b⟩:=h j ∅
  rw[zR];refine⟨?_,b⟩;rw[beq_iff_eq,a]
  cases j with
  | zero=>rfl
  | succ j=>exact(h j ∅).1
 ·intro h;have f:∀ j,j<c.length->(c.getD j .d).h=(c.getD 0 .d).h:=λj=>by
   induction j with
   | zero=>intro _;rfl
   | succ j i=>
    intro e;have:=h j (xX.mpr ∅)
    rw[zR,beq_iff_eq] at this;rw[<-this.1];exact i ∅
  intro j e;have:=h j (xX.mpr ∅)
  rw[zR] at this;exact⟨f (j+1) e,this.2⟩
def IH{gt:jr}{d:js}{i:Nat}{t:ZP}(h:Z5 gt d i t):(YY t).fit:=by
 have a:0<t.rows.length:=uI.mpr h.ne;have b:t.rows.getD 0 rd∈t.rows:=by rw[zW,zV a];exact xU _
 have c:t.rows.getD (t.rows.length-1) rd∈t.rows:=by rw[zW,zV (show t.rows.length-1<t.rows.length by lia)];exact xU _
 exact⟨(h.inn _ b).2.1,(h.inn _ c).2.1⟩
def YU(a:js)(bs:jq):jM:=bs.map λb=>YY (gd a b)
inductive XX(gt:jr)(k:jf)(H:Hp)(Q:VK)(_:XK):Prop
 |mk(d l:aj)(g:jC)(h:js)(e j:jq)(c:List (ZV×V))(_:k=[.ref d,.ref l,.non])(_:Wh gt H d h j c)(_:c.map (·.1)=e.map (λi:Nat=>(Sum.inl (i:Int):ZV)))(_:∀ i∈e,∃ v,YK c (Sum.inl (i:Int))=some v)(_:∀ i∈e,((i:Nat):Int)∈g->i∈j)(_:H l=some (.lst (g.map V.int)))(_:g.length<=100)(_:∀ x,g.find? (λx=>!YQ e x)=some x->∀(t:aj)(a:Hp),ZA H a->a t=some (.tup [.str "twig",.int x])->Q (.ref t) a)(_:∀ bs:jq,g=bs.map (λb:Nat=>(b:Int))->(∀ b∈bs,b∈e)->over (YU h bs)=none->∀(t:aj)(a:Hp),ZA H a->a t=some (.tup [.str "stem"])->Q (.ref t) a)(_:∀ bs:jq,g=bs.map (λb:Nat=>(b:Int))->(∀ b∈bs,b∈e)->over (YU h bs)≠none->∀ a:Hp,ZA H a->Q .non a)
abbrev E6:ju:=["_law_twigs","_law_numbers","_law_high","_law_number","_law_labels","_law_j"]
def Uc:ZC E6 zEl (Zc JG):=Z9
def Bm{gt:jr}(F:Zp K "_law_wrong" "_law_wrong" JG f fd)(T:YX mg)(DL:ZB P w K mg ki 2 "_law_label" zEb (Yb gt))(DS:ZB P w K mg ki 7 "_law_less" zEt Yp):
  ZJ P w K mg ki Ze 8 f fd zEl (XX gt):=by
 refine F.ko Uc λi3 A e5 s H vs Q E hr h=>?_;obtain⟨d,l,X,ts,lv,gv,a2,rfl,L,c9,e3,c6,hl,e6,q1,q2,q3⟩:=h;have nd:=Uc.nd;have hu:=VJ hr;have e2:=hr.mono (show 2<=7 from nofun)
 intro Xc;refine⟨_,ZQ (Wo PassesOwn.never rfl (Wq (pv 1)) (Yk 3 nd)
   (ZX (Zy (Uj (Kc hu (pv 3) (pv 0))) (ZX (Zn (Yi (Zf Ym (pv 3))))) Z2)))
  (ZQ (MX (i:=4) [0] ["_law_twigs"] nd rfl rfl rfl (Wq (pv 1)) (λ_ _ _ _ _=>Uh) (λ_ _ _ _ _=>Zr DL e2 (Zf (pv 1) (pv 0))) ⟨rfl,.inl rfl,rfl,trivial⟩)
  (ZQ (Zy (PW.pt (VZ (XT (LC Ux Ux ZN (Zq WA rfl T.len Xf (ZY (pv 4))) ZN)) (Up (PW.pt (Nu (Uj (MV (pv 2))) (Mc (Yh PZ (Z0 WZ (Zm K (Zm K (pv 4) ZN) ZN) ZN) (pv 2) (YE _))))))))
   (ZX (Zn (Yi (ZY Ym)))) Z2)
  (ZQ (Wo PassesOwn.never rfl (Nk rfl T.range (Zf ZN (Zq WA rfl T.len Xf (ZY (pv 4))))) (Yk 5 nd)
   (ZX (Zy (PW.pt (VZ (Yh PZ (Zm K (Zm K (pv 4) (pv 5)) ZN) (Zm K (Zm K (pv 4) ZN) ZN) (YE _))
     (Up (XT (Yf (Zr DS hr (Zf (Zm K (Zm K (pv 4) (Z0 QP (pv 5) ZN)) ZN) (Zm K (Zm K (pv 4) (pv 5)) ZN))))))))
    (ZX (Zn (Yi (ZY Ym)))) Z2)))
  (ZX (Zn PY))))),?_⟩
 have c1:∀{x:Int}{U:Hp},ZA H U->∃ o,Zx U d (.int x) o/\(!o.isSome) = !YQ lv x:=fun{x U} O=>by
  exists YK a2 (Sum.inl x),Zx.k (k:=Sum.inl x) (O _ _ L.dict)
  congr 1
  unfold YQ;by_cases hx:0<=x/\x.toNat∈lv
  ·rw[aO hx];obtain⟨v,e⟩:=e3 x.toNat hx.2;have ex:((x.toNat:Nat):Int)=x:=nofun
   rw[ex] at e;rw[e];rfl
  ·rw[aM hx]
   cases z:YK a2 (Sum.inl x) with
   | none=>rfl
   | some v=>
    have:=MW z;rw[c9] at this;obtain⟨i,J,ei⟩:=zE.mp this;have ei:=Sum.inl.inj ei;refine absurd ⟨nofun,?_⟩ hx
    rw[<-ei];exact J
 refine⟨_,rfl,l,rfl,⟨_,ZG.of hl⟩,PM (K:=K) (a:=l) (xs:=X.map V.int) (λi σ U=>∃ x:jg,σ=[some (.ref d),some (.ref l),some .non,x,none,none]/\ZA H U/\(X.take i).find? (λx=>!YQ lv x)=none) ⟨_,rfl,ZA.refl H,rfl⟩ (λi σ U _ I=>by obtain⟨_,_,O,_⟩:=I;exact ZG.of (O _ _ hl)) ?_ ?_⟩
 ·rintro i u σ U a6 ⟨x,rfl,O,hn⟩;rw[zN] at a6;obtain⟨n,en,rfl⟩:=yB.mp a6;obtain⟨o,ho,eo⟩:=c1 (x:=n) O;obtain⟨f1,f2⟩:=Ni hn en;exists _,rfl,_,rfl,d,o,rfl,ho,_,rfl;rw[eo]
  cases c:!YQ lv n with
  | true=>exact Z1 ⟨_,rfl,Z7,λt M=>q1 n (f1 c) t _ (O.trans (Zg M _)) ZR⟩
  | false=>exact Zk ⟨_,rfl,O,f2 c⟩
 rintro σ U ⟨x,rfl,O,hn⟩;rw[zX,yK (zY _),uM] at hn;obtain⟨bs,eb,hb⟩:∃ bs:jq,X=bs.map (λb:Nat=>(b:Int))/\∀ b∈bs,b∈lv:=by
  have a5:∀ y∈X,0<=y/\y.toNat∈lv:=λy hy=>by
   have:=hn y hy;unfold YQ at this;simpa using this
  refine⟨X.map wV,?_,λb hb=>?_⟩
  ·rw[zF];have:X=X.map id:=(List.map_id _).symm;rw[this];simp only[zF];refine uH λy hy=>?_;have:=a5 y hy;show y=((y.toNat:Nat):Int)
   lia (splits:=8)
  ·obtain⟨y,hy,rfl⟩:=zE.mp hb;exact(a5 y hy).2
 have e4:X.length=bs.length:=by rw[eb,zX]
 have a4:∀ b∈bs,b∈gv:=λb h=>c6 b (hb b h) (by rw[eb];exact zE.mpr ⟨b,h,rfl⟩)
 have a9:=q2 bs eb hb;have c0:=q3 bs eb hb;clear q1 q2 q3 c1;have W:=O _ _ hl;exists _,rfl,l,rfl,⟨_,ZG.of W⟩;refine UT (n:=bs.length) (λi z=>(X.map V.int)[i]? = some z) (λD i ys G=>ZA U G/\U D=none/\Ye G ((YU ts bs).take i) ys) (YS nofun)
  (λD i ys G J I=>⟨_,.int (bs[i]:Nat),ZG.of (I.1 _ _ W),by rw[eb];simp[J]⟩) (λD i ys G z q J I hy=>⟨hy.1,hy.2 _ (ZG.of (I.1 _ _ W))⟩) (λD ys G I=>⟨_,ZG.of (I.1 _ _ W),by simp[e4]⟩)
  (λD hD=>⟨Zg hD _,hD,rfl,λi u e=>by simp at e⟩) (λD i ys G z eD i6 J hz I R hR=>?_) (λD p G eD I=>?_)
 ·obtain⟨s3,nD,hk⟩:=I;have ez:z=.int (bs[i]:Nat):=by
   rw[eb,zF,zN,zV J] at hz;exact(zJ.inj hz).symm
  subst ez;exists _,rfl,_,rfl,d,bs[i],ts,gv,a2,rfl,L.same (O.trans s3),a4 _ (xU _);intro q v B hv;have r:=B _ _ eD;have tD:YO q (upd q D (.lst (ys++[v]))):=λb xs e=>by rw[ZO (ZD e r)];exact e
  refine hR _ q r ⟨US (s3.trans B) nD,nD,?_⟩;have et:(YU ts bs)[i]? = some (YY (gd ts bs[i])):=by unfold YU;rw[zN,zV J];rfl
  rw[yP,et];exact((hk.mono (ZA.tups B)).snoc hv).mono tD
 obtain⟨s3,nD,hk⟩:=I;have ll:(YU ts bs).length=bs.length:=zX _;rw[yK nofun] at hk
 have i7:p.length=bs.length:=by rw[hk.1,ll]
 have N:=O.trans s3;generalize c4:YU ts bs=g at hk ll a9 c0;have a0:∀ i,i<g.length->(g.getD i .d).fit:=λi J=>by
  have c7:i<bs.length:=nofun
  have e1:g.getD i .d=YY (gd ts bs[i]):=by rw[zW,<-c4];unfold YU;rw[zN,zV c7];rfl
  rw[e1];exact IH (L.at_ _ (a4 _ (xU _)))
 have C:∀(q:Hp)(t:aj),over g=none->ZA H q->q t=none->Q (.ref t) (upd q t (.tup [.str "stem"])):=λq t ho B M=>a9 ho t _ (B.trans (Zg M _)) ZR;have S:¬ (2<=g.length/\g.length<=4)->over g=none:=λz=>by unfold over;rw[aP λy=>z ⟨y.1,y.2.1⟩]
 exists _,rfl,D,p,rfl,.inl (ZG.of eD),_,_,rfl,rfl,_,rfl;rcases yU p.length 2 with h2 | h2
 ·rw[aM (show ¬ (2:Int)<=(p.length:Int) from nofun)]
  refine Zk ⟨_,rfl,Z1 (Z1 ?_)⟩;exact⟨Z7,λt M=>C G t (S nofun) N M⟩
 rw[aO (show (2:Int)<=(p.length:Int) from nofun)]
 refine Z1 ⟨_,_,rfl,rfl,_,rfl,?_⟩;rcases yU 4 p.length with h4 | h4
 ·rw[aM (show ¬ (p.length:Int)<=4 from nofun)]
  refine Z1 (Z1 ?_);exact⟨Z7,λt M=>C G t (S nofun) N M⟩
 rw[aO (show (p.length:Int)<=4 from nofun)]
 refine Zk ⟨_,rfl,_,rfl,Zk (Zk ?_)⟩;exists _,rfl,D,p,rfl,.inl (ZG.of eD),1,(p.length:Int),rfl,⟨nofun,nofun,nofun,nofun⟩
 have a3:∀(H':Hp)(i:Nat),ZA G H'->i<p.length->∃(a:aj)(Z Y:V),p[i]? = some (.ref a)/\H' a=some (.tup [.int (g.getD i .d).h,Z,Y,.int (g.getD i .d).m])/\ZF H' (g.getD i .d).lo Z/\ZF H' (g.getD i .d).hi Y:=λH' i s' J=>by
  have hu:p[i]? = some p[i]:=zV J;obtain⟨a,Z,Y,e,e1,k1,k2⟩:=(hk.2 i _ hu).mono (ZA.tups s');exact⟨a,Z,Y,by rw[hu,e],e1,k1,k2⟩
 refine Pb (lo:=1) (n:=((p.length:Int)-1).toNat) (λi σ q=>∃ y:jg,σ=[some (.ref d),some (.ref l),some .non,x,some (.ref D),y]/\ZA G q/\∀ j,j<i->(g.getD (j+1) .d).h=(g.getD 0 .d).h/\(g.getD j .d).hi.lt (g.getD (j+1) .d).lo=true) ⟨_,rfl,ZA.refl G,λj hj=>absurd hj nofun⟩ ?_ ?_
 ·rintro i σ q J ⟨y,rfl,B,a1⟩;have c8:i+1<p.length:=nofun
  have e1:(1:Int)+(i:Int)=((i+1:Nat):Int):=nofun
  have e0:(1:Int)+(i:Int)-1=((i:Nat):Int):=nofun
  obtain⟨a,i1,c2,ua,ta,e7,a7⟩:=a3 q i B nofun
  obtain⟨b,c3,i2,ub,tb,a8,e8⟩:=a3 q (i+1) B c8;obtain⟨c,i5,i4,uc,tc,i0,e9⟩:=a3 q 0 B nofun
  have no:¬ ((g.getD (i+1) .d).h=(g.getD 0 .d).h/\(g.getD i .d).hi.lt (g.getD (i+1) .d).lo=true)->over g=none:=λz=>by
   unfold over;rw[aP λy=>z (WP.mpr y.2.2 i nofun)]
  have r:=B _ _ eD;refine⟨_,rfl,_,rfl,.inl ⟨D,p,_,.ref b,rfl,rfl,ZG.of r,by rw[e1];exact Xg ub,.inr (.inl ⟨b,_,0,_,rfl,rfl,Zh.of tb,rfl,?_⟩)⟩⟩
  refine⟨_,rfl,.inl ⟨D,p,0,.ref c,rfl,rfl,ZG.of r,Xg (j:=0) uc,.inr (.inl ⟨c,_,0,_,rfl,rfl,Zh.of tc,rfl,rfl,_,rfl,?_⟩)⟩⟩;have c5:(!decide (V.int (g.getD (i+1) .d).h=V.int (g.getD 0 .d).h)) = !decide ((g.getD (i+1) .d).h=(g.getD 0 .d).h):=by simp
  rw[c5];by_cases hh:(g.getD (i+1) .d).h=(g.getD 0 .d).h
  ·rw[aO hh];refine Zk ?_;refine⟨_,rfl,_,rfl,_,_,rfl,rfl,.inl ⟨D,p,_,.ref a,rfl,rfl,ZG.of r,by rw[e0];exact Xg ua,.inr (.inl ⟨a,_,2,_,rfl,rfl,Zh.of ta,rfl,?_⟩)⟩⟩
   refine⟨_,rfl,_,rfl,.inl ⟨D,p,_,.ref b,rfl,rfl,ZG.of r,by rw[e1];exact Xg ub,.inr (.inl ⟨b,_,1,_,rfl,rfl,Zh.of tb,rfl,?_⟩)⟩⟩
   refine⟨c2,c3,_,_,rfl,a7,a8,(a0 i nofun).2,(a0 (i+1) nofun).1,λH5 s5=>⟨_,rfl,?_⟩⟩
   cases hc:(g.getD i .d).hi.lt (g.getD (i+1) .d).lo with
   | false=>
    refine Z1 ⟨Z7,λt M=>C H5 t (no λz=>by rw[hc] at z;cases z.2) ((N.trans B).trans s5) M⟩
   | true=>
    refine Zk ⟨_,rfl,B.trans s5,λj hj=>?_⟩;rcases yU j i with z | z
    ·exact a1 j z
    ·have:j=i:=nofun
     subst this;exact⟨hh,hc⟩
  ·rw[aM hh];exact Z1 (Z1 ⟨Z7,λt M=>C q t (no λz=>hh z.1) (N.trans B) M⟩)
 ·rintro σ q ⟨y,rfl,B,a1⟩;have hc:Lq g=true:=WP.mp λj hj=>a1 j nofun
  refine c0 ?_ q (N.trans B);unfold over;rw[aQ ⟨nofun,nofun,hc⟩]
  exact λz=>nomatch z
end Tw
namespace L2
open PySem PySem.Spec PyProof.Rows
def ZLH{K:zZ}{x d:Str}{l:aC}{f c P:aj}{e:ao}(F:Zp K x d l f e)(i:zP K ap x=some (some (.ref f)))(a:yF K x=some (c,P)):e.code=.ref c:=by
 obtain⟨o,p,kV,g,q,m,b,ct,k,rfl,j,h⟩:=F.ex;unfold yF at a;rw[i] at a;simp only at a;rw[j] at a;simp only at a;show b=.ref c
 cases b with
 | ref n=>
  simp only at a;split at a
  ·split at a
   ·cases a;rfl
   ·cases a
  ·cases a
 | _=>cases a
def Zp.okC{P:am}{w:aw}{K:zZ}{r:jc}{d:aD}{x b:Str}{i:aC}{f c T:aj}{q:ao}{N o:ju}{k:Nat}{p:Sp}(F:Zp K x b i f q)(z:zP K ap x=some (some (.ref f)))(C:yF K x=some (c,T))(S:ZC N o (Zc i))(n:∀ h H Q E,p h H Q E->h.length=o.length)(g:∀ (A:ax) (a:jB) (s:al) (H:Hp) (h:jf) (Q:VK) (E:XK),ZZ k (A.deeper (envOfC b (Zc i) s.heap.objs.size f (.ref c)))->p h H Q E ->
   ∃ t,Xz (Wt Ze P w K r d N b (Zc i) f (.ref c) A a s H E) (Xd i) t/\t { nx:=λ_ u=>Q .non u,rt:=Q } (U8 N h) H):ZJ P w K r d Ze (k+1) f q o p:=by
 have e:=ZLH F z C;obtain⟨J,L,kV,v,M,I,j,ct,G,rfl,D,l⟩:=F.ex;have y:j=.ref c:=e;subst y;exact Jx D l S n λA a s H h Q E B m=>g A a s H h Q E B m
def K3(f e:aj)(i h:aJ)(a:jF)(N:ju)(d:Sp):Sp:=λj H Q E=>
 j=[]/\H f=some (Y1 f i)/\H e=some (Y1 e h)/\∃ g:jf,VF H a N g /\
  d g (unT (a.map (·.2)) H) (λv b=>(∀ c∈a.map (·.2),b c=none)->Q v (reT (a.map (·.2)) H b)) (λc o b=>(∀ c∈a.map (·.2),b c=none)->E c o (reT (a.map (·.2)) H b))
def WJ(g:jx->Prop)(x C:aj)(b:jz)(h:aD):Prop:=∃ o a,h.get? x=some o/\o.cls=.ref C/\o.data=.fields a/\o.dict=b/\g a
def QE:jx->Prop:=λa=>a[1]? = some .none/\a[2]? = some .none
def PF:jx->Prop:=λ_=>True
def XO(g:jx->Prop)(x C:aj)(a:jz):HO:=.ext (WJ g x C a)
def WJ.is{g:jx->Prop}{x C:aj}{c:jz}{h:aD}(e:WJ g x C c h):Xh x C h:=let ⟨o,_,a,b,_⟩:=e;⟨o,a,b⟩
def Ln{P:am}{w:aw}{H:Hp}{h:aD}{g:jx->Prop}{x C:aj}{j:jz}(e:WJ g x C j h):Zd P w H h x (XO g x C j):=by
 obtain⟨o,s,a,b,c,d⟩:=id e;exact⟨e,⟨o,a⟩,λq r ⟨i,f,l,m,n,p⟩ k=>⟨i,f,k i l,m,n,p⟩⟩
abbrev QZ:je:=[.type "ValueError",.type "Exception",.type "BaseException",.type "object"]
def IA:je->Bool
 | .ref _::r=>IA r
 | l=>l==QZ
def EL(a:ai):∀{l:je},IA l=true->PySem.refuseLoop a "__setattr__" l=pure ()
 | .ref c::r,e=>(refuseLoop_ref _ _ _ _).trans (EL a (l:=r) e)
 | .type n::r,e=>by rw[show (Value.type n::r)=QZ from beq_iff_eq.mp e];exact qK.passes a
 | [],e=>by cases e
 | .none::r,e | .bool _::r,e | .int _ _::r,e | .str _ _::r,e | .bytes _ _::r,e | .float _ _::r,e | .builtin _::r,e=>by cases(beq_iff_eq.mp e)
def HE(K:zZ)(C:aj):Bool:=(uY K C).any λa=>IA a.mro
def FC:ai->Bool
 | .type t=>t == "type"
 | _=>false
def BH{v:ai}(h:FC v=true):v=.type "type" :=by
 cases v with
 | type t=>exact congrArg Value.type (eq_of_beq h)
 | _=>cases h
def GR:Data->Option ClassData
 | .cls c=>some c
 | _=>none
def BX{d:Data}{c:ClassData}(h:GR d=some c):d=.cls c:=by
 cases d with
 | cls c=>cases h;rfl
 | _=>cases h
def Hk:jd->Bool
 | some (.builtin m)=>m == "ValueError.__new__"
 | _=>false
def Aw{v:jd}(h:Hk v=true):v=some (.builtin "ValueError.__new__"):=by
 cases v with
 | none=>cases h
 | some v=>
  cases v with
  | builtin m=>exact congrArg (some <| Value.builtin ·) (eq_of_beq h)
  | _=>cases h
def F1(C:aj):je->Bool
 | .ref D::_=>D==C
 | _=>false
def ZN8{C:aj}{l:je}(h:F1 C l=true):l=.ref C::l.tail:=by
 cases l with
 | nil=>cases h
 | cons v r=>
  cases v with
  | ref D=>exact congrArg (Value.ref ·::r) (eq_of_beq h)
  | _=>cases h
def NH{b:Type}{n:Nat}{l:List b}(h:l.length=n+1):∃ a m,l=a::m:=by
 cases l with
 | nil=>cases h
 | cons a m=>exact⟨a,m,rfl⟩
def Ar{l:List (jd)}(h:l.length=6):∃ a b c d e f,l=[a,b,c,d,e,f]:=by
 obtain⟨a,l,rfl⟩:=NH h;obtain⟨b,l,rfl⟩:=NH (xY.inj h);obtain⟨c,l,rfl⟩:=NH (xY.inj (xY.inj h));obtain⟨d,l,rfl⟩:=NH (xY.inj (xY.inj (xY.inj h)));obtain⟨e,l,rfl⟩:=NH (xY.inj (xY.inj (xY.inj (xY.inj h))));obtain⟨f,l,rfl⟩:=NH (xY.inj (xY.inj (xY.inj (xY.inj (xY.inj h)))))
 cases l with
 | nil=>exact⟨a,b,c,d,e,f,rfl⟩
 | cons _ _=>cases h
def HN{b:Type}{p:b->Bool}{o:Option b}(h:o.any p=true):∃ a,o=some a/\p a=true:=by
 cases o with
 | none=>cases h
 | some a=>exact⟨a,rfl,h⟩
def EK(K:zZ)(C:aj)(f:ClassData->Bool):Bool:=(K.lookup C).any λo=>FC o.cls&&(o.slots.toList.length==6&&(Hk (o.slots.toList.getD 4 none)&&(GR o.data).any λc=>F1 C c.mro&&(PySem.W.tailIn K QZ c.mro.tail&&(!c.hasDel&&f c))))
inductive P0(K:zZ)(C:aj)(f:ClassData->Bool):Prop
 |mk(g bs h i e j b d a k l m n o p:_)(c:je):K.lookup C=some (excClassObj g i C h bs c e j b d a k l m n o p "ValueError.__new__")->PySem.W.tailIn K QZ c=true->f ⟨g,bs,.ref C::c,h,i,e,j,b,d,a,false⟩=true->P0 K C f
def B4{K:zZ}{C:aj}{f:ClassData->Bool}(h:EK K C f=true):P0 K C f:=by
 obtain⟨⟨G,k,H,⟨I⟩⟩,e,h⟩:=HN h;rw[zR,zR,zR] at h;obtain⟨m,n,o,p⟩:=h;obtain⟨⟨A,bs,g,B,D,s,E,i,j,b,c⟩,l,h⟩:=HN p;rw[zR,zR,zR] at h;obtain⟨a,d,q,r⟩:=h;cases BH m;cases BX l;obtain⟨t,u,w,x,y,z,rfl⟩:=Ar (eq_of_beq n);cases Aw (v:=y) o;have a:=ZN8 a;dsimp only at a d;generalize g.tail=F at a d;subst a
 cases c with
 | true=>cases q
 | false=>exact⟨A,bs,B,D,s,E,i,j,b,k,t,u,w,x,z,F,e,d,r⟩
def Hx(K:zZ)(C:aj):Bool:=EK K C λ_=>true
structure Yj(K:zZ)(C fI:aj)(f:Str):Prop where
 exc:WH K C
 made:Hx K C=true
 init:zC K (.ref C) "__init__" = some (some (.ref fI))
 fn:wT K (.ref fI)=true
 kp:yW K (.ref C)=true
 sa:zC K (.ref C) "__setattr__" = some (some (.builtin "object.__setattr__"))
 no:zC K (.ref C) f=some none
 hd:wH K C=true
 over:HE K C=true
section
variable{g:jx->Prop}{kh:jv}{σ:St}{H:Hp}{a C fI:aj}{f:Str}{v:V}
def Cl{y:V}{u:ai}{Q:Unit->al->Prop}(I:ZE X kh σ H s)(e:H a=some (XO g a C none))(c:Yj X.K C fI f)(ry:ZW y u)(h:∀ L s',H L=none->L≠a->ZE X kh σ (upd (upd H L (.xd [(f,y)])) a (XO g a C (some L))) s'->Q () s'):aB (aA X.prog X.w) A (setAttr (.ref a) f u) Q E s:=by
 obtain⟨o,vs,N,d,i,x,Z⟩:=(I.hok a _ e).1;obtain⟨oc,od,a6,k⟩:=o;dsimp only at d i x;subst d i x;have J:tH s.heap a ⟨.ref C,none,.fields vs,k⟩ C none:=⟨N,rfl,rfl,True.intro⟩;refine PySem.W.set_plain I.kIn J c.sa ?_;have l:=qK;obtain⟨cd,S,ho⟩:=uO c.over;have a2:yJ (aA X.prog X.w) s.heap (isInstance (.ref a) (.type "object")) true:=J.type.andThen (vH I.kIn c.exc.mO);refine codeAny_call_builtin l.slot.plain l.entry (@PySem.W.check_slot (aA X.prog X.w) _ _ { s with toks:=s.toks+1 } "object.__setattr__" "object" "__setattr__" (.ref a) [.str f s.toks,u] [] _ l.kind l.split a2 (l.args (.ref a) (.str f s.toks) u) ?_);have hm:yJ (aA X.prog X.w) s.heap (mroOf (.ref C)) cd.mro:=(sK I.kIn S).andThen .now;rw[PySem.W.osa_eq,PySem.refuse_eq];refine aa (aa (yJ.here (s:={ s with toks:=s.toks+1 }) J.type (aa (yJ.here (s:={ s with toks:=s.toks+1 }) hm ?_))));rw[EL _ ho];refine ad (aa (yJ.here (s:={ s with toks:=s.toks+1 }) J.type (aa (yJ.here (s:={ s with toks:=s.toks+1 }) (tV I.kIn c.no) (aa (ad ?_))))));obtain⟨a3,t,T⟩:=uO c.hd;refine aa (ad (aa (aa (wpAny_loadPart N (aa (yJ.here (s:={ s with toks:=s.toks+1 }) (sK I.kIn t) ?_))))));rw[T];dsimp only;have i:a≠s.heap.objs.size:=zL (zU N);have p:H s.heap.objs.size=none:=I.hok.fresh (zY _);rw[aP (by simp),aP (by simp[typeHasDict])]
 have D:=zS { cls:=.type "dict",data:=.dict #[] } N;refine aa (wpAny_alloc' (aa (wpAny_update' D (ad ?_))));generalize O:((s.heap.push { cls:=.type "dict",data:=.dict #[] }).update a λo=>{ cls:=o.cls,dict:=some s.heap.objs.size,data:=o.data,slots:=o.slots })=M;have ga:M.get? a=some ⟨.ref C,some s.heap.objs.size,.fields vs,k⟩:=by
  rw[<-O];exact wW _ D rfl
 have gd:M.get? s.heap.objs.size=some { cls:=.type "dict",data:=.dict #[] }:=by
  rw[<-O];exact(sP _ _ _ _ i.symm).trans (Heap.get?_push_at rfl rfl)
 have go:∀ b o,b≠a->s.heap.get? b=some o->M.get? b=some o:=λb o n q=>by
  rw[<-O];exact(sP _ _ _ _ n).trans (zS _ q)
 have a0:M.Ns s.heap.objs.size (λ_=>none):=⟨_,#[],_,gd,rfl,λe he=>absurd he (by simp),λ_=>rfl⟩
 show aB _ _ (Builtin.ObjectAttr.storeInDict s.heap.objs.size (.str f s.toks) f u) _ _ _;unfold Builtin.ObjectAttr.storeInDict Builtin.ObjectAttr.newKeyGuard;refine aa (ad (aa (wpAny_nsSet1 (Heap.Ns1.of_empty a0) λP B hs=>?_)));obtain⟨oD,a5,a4,a1,U,R⟩:=B.count (Within.cons f u Within.nil);refine aa (wpAny_lookBehind a1 (by rw[U];exact pastItsLine_dict (zD R (by rw[yY,tL,sizeLine_eq];lia))) ?_)
 have m:P.get? a=some ⟨.ref C,some s.heap.objs.size,.fields vs,k⟩:=(hs.2 a i).trans ga;have j:∀ b o,b≠a->s.heap.get? b=some o->P.get? b=some o:=λb o n q=>(hs.2 b (zL (zU q))).trans (go b o n q);have G:∀{b:aj}{o:HO},H b=some o->b≠s.heap.objs.size:=fun{b o} q z=>by rw[z,p] at q;cases q
 have na:∀{b:aj},H b=none->b≠a:=fun{b} q z=>by rw[z,e] at q;cases q
 refine ad (h s.heap.objs.size _ p i.symm (I.call' (s':={ s with heap:=P,toks:=_ }) (ch:=[]) rfl ⟨λb o q n _ _=>j b o (na n) q,λb o q n _ _=>⟨o.slots,j b o (na n) q⟩,λb o q n _=>?_,λb o q _=>?_,λb xs q=>?_,λb o u q=>?_,λb ps q=>?_⟩ (λb ob q=>?_) I.bare (λb hb=>absurd hb (by simp))))
 ·rw[ZO (na n),ZO (zL (zU q))];exact n
 ·by_cases z:b=a
  ·rw[z];exact⟨_,m⟩
  ·exact⟨o,j b o z q⟩
 ·rw[ZO (λz=>by rw[z,e] at q;cases q),ZO (G q)];exact q
 ·rw[ZO (λz=>by rw[z,e] at q;cases q),ZO (G q)];exact q
 ·exact⟨#[],by rw[ZO (λz=>by rw[z,e] at q;cases q),ZO (G q),q];simp⟩
 ·by_cases z:b=a
  ·rw[z,ZR] at q;cases q;rw[z];exact Ln ⟨_,_,m,rfl,rfl,rfl,Z⟩
  ·rw[ZO z] at q;by_cases z2:b=s.heap.objs.size
   ·rw[z2,ZR] at q;cases q;rw[z2];exists _,B;intro g;show Yn (xN g [(f,y)]) (if g=f then some u else none)
    by_cases Y:g=f
    ·rw[Y,aQ rfl];simp only[xN,beq_self_eq_true];exact ry
    ·rw[aP Y];simp only[xN,beq_eq_false_iff_ne.mpr Y];exact True.intro
   ·rw[ZO z2] at q;have oc:∀{c:aj},H c=some (.own b)->c≠a:=fun{c} d z=>by rw[z,e] at d;cases d
    refine(I.hok b ob q).stay (λc u d r=>j c u ?_ r) (λc d=>?_) (λc xs d=>?_)
    ·rcases d with rfl | d
     ·exact z
     ·exact oc d
    ·rw[ZO (oc d),ZO (G d)];exact d
    ·rw[ZO (λz=>by rw[z,e] at d;cases d),ZO (G d)];exact d
def ZJJ{b:Bool}{j:aj}{x:List (Str×V)}{Q:ja}(I:ZE X kh σ H s)(e:H a=some (XO g a C (some j)))(d:H j=some (.xd x))(c:Yj X.K C fI f)(l:x.lookup f=some v)(h:∀ u B,ZE X kh σ H B->ZW v u->Q u B):aB (aA X.prog X.w) A (getAttr (.ref a) f b) Q E s:=by
 obtain⟨o,R,N,D,m,n,G⟩:=id (I.hok a _ e).1;obtain⟨O,r,i⟩:=I.hok j _ d;obtain⟨u,M,z⟩:=Yn.some_of (v:=v) (o:=O f) (by rw[<-l];exact i f)
 obtain⟨y,t,q⟩:=EG r;have J:tH s.heap a o C (some y):=⟨N,D,by unfold PySem.W.notCls;rw[m],by rw[n];exact t⟩
 obtain⟨P,k,p⟩:=uO c.hd;have L:yJ (aA X.prog X.w) s.heap (Builtin.ObjectAttr.inOwnDict f (.ref a)) (some u):=PySem.W.looks_own I.kIn J k (by unfold PySem.W.ownOf;rw[p,aQ rfl];show vM f y=_;rw[q,M])
 have F:yJ (aA X.prog X.w) s.heap (Builtin.ObjectAttr.find (.ref a) (.ref C) f) (.value u):=by
  refine yJ.andThen (tV I.kIn c.no) (yJ.andThen .now (yJ.andThen .now ?_));exact yJ.andThen L (yJ.tag yJ.now)
 refine aa (wpAny_mkText ?_);refine GF (s:={ s with toks:=s.toks+1 }) I.kIn (I.hok a _ e).1.is c.exc F ⟨Gm z,h u _ (I.tok _) z⟩
end
section
variable{C fI:aj}{f:Str}
abbrev Ph(h:aD)(C:aj)(a:je):Heap:=(h.push { cls:=.type "tuple",data:=.seq a.toArray }).push { cls:=.ref C,data:=.fields #[.ref h.objs.size,.none,.none,.none,.bool false,.none] }
def ZLc{e:je}{Q:ja}(X:K.In s.heap)(c:Yj K C fI f)(p:e.length<=aq)(h:aB (aA prog w) (A.under (.builtin "type.__call__" ⟨.ref C::e,[]⟩)) (call (.ref fI) (.ref (s.heap.objs.size+1)::e)) (λr D=>r=.none/\Q (.ref (s.heap.objs.size+1)) D) E { s with heap:=Ph s.heap C e }):
  aB (aA prog w) A (call (.ref C) e) Q E s:=by
 obtain⟨a,g,d,t,B⟩:=s;have n:=c.made;obtain⟨Y,bs,Z,qn,L,sn,u,G,k,H,P,R,S,U,V,v,M,O,_⟩:=B4 n;have i:a.get? C=some (excClassObj Y qn C Z bs v L sn u G k H P R S U V "ValueError.__new__"):=X _ _ M;have T:OwnTail a QZ v:=rN X O;have j:=rZ;have f1:=tc_lookup;have f2:=tc_bind (.ref C);have hT:(⟨a,g,d,t,B⟩:al).TypeIs (.ref C) "type" :=⟨_,i,rfl⟩;refine wpAny_call (codeAny_of_tree (show aB _ _ (callAny (.ref C) _) _ _ _ from ?_))
 repeat (any_goals (first | assumption | with_reducible refine wpAny_loadPart_at i ?_ | wp_step))
 refine⟨rfl,codeAny_call_builtin_at (Code.quiet_builtin _ (by decide +kernel)) entry_typeCall (wpAny_check_type_call_sub i ?_)⟩
 repeat (first | with_reducible refine wpAny_loadPart_at i ?_ | with_reducible refine wpAny_madeBy_exc i ?_ | wp_step)
 refine codeAny_call_builtin_code (Code.quiet_builtin _ j.quiet) (wpAny_check_new_subU j j.hasB T i (codeAny_exc_new_subU j j.hasB j T i ?_ p));show aB _ _ _ _ _ _;have I:(Ph a C e).get? (a.objs.size+1)=some { cls:=.ref C,data:=.fields #[.ref a.objs.size,.none,.none,.none,.bool false,.none] }:=by heap_get
 have y:∀ b o,a.get? b=some o->(Ph a C e).get? b=some o:=λb o q=>zS _ (zS _ q);have l:=y _ _ i;have m:(Value.ref C::v).contains (.ref C)=true:=by simp
 unfold isInstance;show aB _ _ _ _ _ ⟨Ph a C e,g,d,t,B⟩
 repeat (first | with_reducible refine wpAny_loadPart_at I ?_ | wp_step)
 refine wpAny_isSubtype_exc (C:=C) (h:=Ph a C e) l ?_;rw[m]
 repeat wp_step
 have x:K.In (Ph a C e):=λb o q=>y b o (X b o q);show aB _ _ (typeLookup (.ref C) _) _ _ _;refine(tV x c.init).at ?_;refine af (aa ((PySem.W.bind_fn x _ (beq_iff_eq.mp c.fn)).at ?_));refine aa (ae h (λr D N=>?_) λ_ _ z=>z);obtain⟨rfl,J⟩:=N
 wp_walk
 exact J
end
def O1(H:Hp)(a C:aj):Prop:=∃ b,H a=some (.ext b)/\∀ h,b h->Xh a C h
def Ak{g:jx->Prop}{H:Hp}{a C:aj}{b:jz}(e:H a=some (XO g a C b)):O1 H a C:=⟨_,e,λ_ h=>h.is⟩
def O1.mono{H a:Hp}{b C:aj}(x:O1 H b C)(s:ZA H a):O1 a b C:=let ⟨φ,e,k⟩:=x;⟨φ,s _ _ e,k⟩
inductive Xo(K:zZ)(d:jf)(H:Hp)(Q:VK):Prop
 |mk(a C c b:_)(_:d=[.ref a,c])(_:O1 H a C)(_:WH K C)(_:GU c=true)(_:yV K (.ref C) (cV c)=some b)(_:Q (.bl b) H)
inductive Ot(K:zZ)(f:Str)(D:Yq)(e:L2.St)(y x:V)(c:Hp):Prop
 |mk(g a C d:_)(_:x=.ref a)(_:c a=some (XO g a C none))(_:Yj K C d f)(_:∀ b,c b=none->b≠a->D.nx e (upd (upd c b (.xd [(f,y)])) a (XO g a C (some b))))
def C6(K:zZ)(d e:TE)(f:Str):TS:=λD a H=>e a H λy b=>d a b λx c=>Ot K f D a y x c
inductive OX(K:zZ)(f:Str)(Q:VK)(x:V)(b:Hp):Prop
 |mk(g a C c d v e:_)(_:x=.ref a)(_:b a=some (XO g a C (some c)))(_:b c=some (.xd d))(_:Yj K C e f)(_:d.lookup f=some v)(_:Q v b)
def GG(K:zZ)(b:TE)(f:Str):TE:=λc H Q=>b c H λx a=>OX K f Q x a
def Nd(K:zZ)(C c:aj)(f:Str):Sp:=λd H Q _=>Yj K C c f/\∃ a y,d=[.ref a,y]/\H a=some (XO QE a C none)/\∀ b,H b=none->b≠a->Q .non (upd (upd H b (.xd [(f,y)])) a (XO QE a C (some b)))
section
def Om:VI X (.builtin "isinstance") (Xo X.K):=by
 intro f s t H p n Q I r h;obtain⟨d,C,c,b,rfl,⟨v,e,k⟩,g,i,j,q⟩:=h;obtain⟨u,o,rfl,l,a⟩:=Mm r;cases(show u=Value.ref d from l);rw[ZPC a i];exact xP (ZKq g) I.kIn (k _ (I.hok d _ e).1) j (λz=>nomatch z) λm=>⟨.bl b,H,I.tok m,rfl,q⟩
variable{C fI:aj}{f:Str}{e o value:Expr}{es:jA}{ta tv:TE}{t:TA}{pos pos' p:aK}{x:Str}
def Jg(v:PE X o ta)(B:PE X value tv)(A:aF value (some (.Attribute o f pos')) pos.line X.env=pure false):PS X (.Assign [.Attribute o f pos'] value pos) (C6 X.K ta tv f):=by
 intro b s d H D I h;refine plainObj_wpAny_Assign_Attribute (YG (B b s d H _ I h) λu L y i j J q=>Z3 (v b L d i _ j q) λE O ⟨x,M,k,G,g,a,C,fI,r,n,c,F⟩=>?_) A;subst r;obtain rfl:E=Value.ref a:=G;exact Cl k n c J λm N w z l=>⟨d,_,l,F m w z⟩
def E5(w:PE X e ta)(r:attributeBase e f X.env (aI e X.env)=aI e X.env):PE X (.Attribute e f pos) (GG X.K ta f):=by
 intro b s A H Q I h;refine H0 r (Z3 (w b s A H _ I h) ?_);rintro u F ⟨x,d,i,z,g,a,C,B,D,v,fI,n,k,m,c,l,q⟩;subst n;obtain rfl:u=Value.ref a:=z;exact ZJJ i k m c l λu E j y=>⟨v,d,j,y,q⟩
def ZE.newx{g:jv}{j:St}{H:Hp}{s:al}{h':aD}{ea:aj}(I:ZE X g j H s)(d:∀ b o,s.heap.get? b=some o->h'.get? b=some o)(n:s.heap.get? ea=none)(m:WJ QE ea C none h'):ZE X g j (upd H ea (XO QE ea C none)) { s with heap:=h' }:=by
 have l:H ea=none:=by
  cases z:H ea with
  | none=>rfl
  | some o=>
   obtain⟨A,q⟩:=I.hok.there (a:=ea) (by rw[z];exact λy=>nomatch y)
   rw[n] at q;cases q
 have i:∀{b:aj}{o:HO},H b=some o->b≠ea:=fun{b o} q z=>by rw[z,l] at q;cases q
 refine I.call' (s':={ s with heap:=h' }) (ch:=[]) rfl ⟨λb o q _ _ _=>d b o q,λb o q _ _ _=>⟨o.slots,d b o q⟩,λb o q z _=>?_,λb o q _=>⟨o,d b o q⟩,λb w q=>?_,λb o u q=>?_,λb B q=>⟨#[],?_⟩⟩ (λb v q=>?_) I.bare (λb k=>absurd k (by simp))
 ·rw[ZO (λy=>by rw[y,n] at q;cases q)];exact z
 ·rw[ZO (i q)];exact q
 ·rw[ZO (i q)];exact q
 ·rw[ZO (i q),q];simp
 ·by_cases z:b=ea
  ·rw[z,ZR] at q;cases q;rw[z];exact Ln m
  ·rw[ZO z] at q;exact(I.hok b v q).stay (λc u _ r=>d c u r) (λc h=>by rw[ZO (i h)];exact h) (λc w h=>by rw[ZO (i h)];exact h)
end
def CJ(f:jx->jx)(o:aJ):(Obj.mapFields f o).dict=o.dict:=by
 obtain⟨c,d,a,b⟩:=o;cases a <;> rfl
def O6(B:aD)(cls:ai)(b:jx):Prop:=b[2]? = some .none\/∀ C o a,cls=.ref C->B.get? C=some o->o.data=.cls a->a.name ≠ "NoStem"
def ZP3(h B:aD)(e:aj)(cls:ai)(g:jz)(f:ai):Prop:=
 ∃ a b T c d,(h.get? e=some a/\a.cls=cls/\a.dict=g/\a.data=.fields b/\b[1]? = some (.ref T))/\B.get? T=none/\T≠e/\h.get? T=some c/\c.data=.fields d/\d[3]? = some f/\O6 B cls b
def Xu(B:aD)(l:jB)(e:aj)(cls:ai)(b:jz)(a:ai)(h:aD):Prop:=B.StaysIn h/\B.get? e=none/\h.FunFrames B l/\ZP3 h B e cls b a
def Xu.at{B h:aD}{l:jB}{e C:aj}{f:jz}{g:ai}(x:Xu B l e (.ref C) f g h):WJ PF e C f h:=by
 obtain⟨_,_,_,i,j,T,k,m,⟨a,b,c,d,_⟩,_⟩:=x;exact⟨i,j,a,b,d,c,trivial⟩
section
variable{M:Model}{B:aD}{env:Env}{outer l:jB}{L e:aj}{cls:ai}{od:jz}{Q:Unit->al->Prop}
def Jf{oe:aJ}{vs:jx}{first:ai}{nx:Bool}(fr:A.frames=some (env::outer))(ff:s.heap.FunFrames B (env::outer))(eL:env.frame=some L)(ge:s.heap.get? e=some oe)(sb:B.StaysIn s.heap)(eB:B.get? e=none)(dd:oe.data=.fields vs)(two:1<vs.size)(cx:O6 B oe.cls vs)(h:∀ h',Xu B (env::outer) e oe.cls oe.dict (rawInt L) h'->s.heap.UpToSlots h'->Q () { s with heap:=h' }):
  aB M A (frameOf env >>= λa=>entryPlaceOf L nx >>= λpl=>EntryCells.newEntry first a .none (rawInt L) .none pl >>= λb=>setField (.ref e) 1 b) Q E s:=by
 have en:e∉(env::outer).filterMap (·.frame):=λz=>by
  obtain⟨_,o,g1,g2⟩:=ff.mem z;rw[ge] at g1;cases g1;exact g2 vs dd
 refine aa (wpAny_frameOf_fun fr ff eL λh1 k1=>aa (wpAny_entryPlaceOf λpl kp=>?_));unfold EntryCells.newEntry newFields;refine aa (wpAny_newObj_type ?_ (kp.sizeOk5 _ _ _ _ _));have t3:([first,Value.ref L,.none,rawInt L,.none]++(if pl.isEmpty then vN 6 Value.none else pl)).toArray[3]? = some (rawInt L):=by
  first | (simp;done) | (rcases kp with rfl | ⟨_,_,_,_,_,_,_,rfl⟩ <;> simp)
 generalize ([first,Value.ref L,.none,rawInt L,.none]++(if pl.isEmpty then vN 6 Value.none else pl)).toArray=ts at t3⊢;have g1:h1.get? e=some oe:=(k1.2.1 e en).trans ge;have sb1:B.StaysIn h1:=λb o q=>(k1.2.1 b λz=>by rw[(ff.mem z).1] at q;cases q).trans (sb b o q)
 have eT:h1.objs.size≠e:=λz=>xE _ (by have:=zU g1;rw[<-z] at this;exact this)
 have g2:=zS (h:=h1) ({ cls:=.type "traceback",dict:=none,data:=.fields ts }:aJ) g1;have d3:=Obj.data_mapFields dd (·.setIfInBounds 1 (Value.ref h1.objs.size));have g3:=wW (Obj.mapFields (·.setIfInBounds 1 (Value.ref h1.objs.size))) g2 (Obj.isFreed_of_fields d3);have gT:=(yC (h1.push ({ cls:=.type "traceback",dict:=none,data:=.fields ts }:aJ)) (Obj.mapFields (·.setIfInBounds 1 (Value.ref h1.objs.size))) eT.symm).trans (yT h1 rfl);have stay:∀ b o,b≠e->h1.get? b=some o->((h1.push ({ cls:=.type "traceback",dict:=none,data:=.fields ts }:aJ)).update e (Obj.mapFields (·.setIfInBounds 1 (Value.ref h1.objs.size)))).get? b=some o:=λb o n q=>
  (yC _ _ n.symm).trans (zS _ q)
 have notE:∀ b o,s.heap.get? b=some o->(∀ ws,o.data≠.fields ws)->b≠e:=λb o q nf z=>by
  rw[z,ge] at q;cases q;exact nf vs dd
 refine wpAny_setField g2 dd two (h _ ⟨λb o q=>stay b o (λz=>by rw[z,eB] at q;cases q) (sb1 b o q),eB,ff.of_keeps λb o q nf=>?_,_,_,h1.objs.size,_,_,⟨g3,Obj.cls_mapFields _ _,CJ _ _,d3,by simp[two]⟩,sb1.fresh,eT,gT,rfl,t3,cx.imp (λz=>by rw[tY (by decide)];exact z) id⟩ λb o q nf=>?_)
 ·obtain⟨sl,z⟩:=k1.2.2 b o q;exact⟨_,stay b _ (notE b o q nf) z,rfl⟩
 ·obtain⟨sl,z⟩:=k1.2.2 b o q;exact⟨sl,stay b _ (notE b o q nf) z⟩
def Qy{G:ai}(x:Xu B l e cls od G s.heap)(h:∀ j,Xu B l e cls od .none j->s.heap.UpToSlots j->Q () { s with heap:=j }):aB M A (setFlight (.ref e) none) Q E s:=by
 obtain⟨I,D,F,H,K,T,O,u,⟨r,w,y,p,v⟩,k,m,i,g,J,C⟩:=x;have t:3<u.size:=(wD.mp J).1;have a:∀ b,b≠T->(s.heap.update T (Obj.mapFields (·.setIfInBounds 3 ((none:jz).elim Value.none λf=>rawInt f)))).get? b=s.heap.get? b:=λb n=>yC _ _ n.symm;have c:∀ b o,s.heap.get? b=some o->(∀ N,o.data≠.fields N)->b≠T:=λb o q d z=>by
  rw[z,i] at q;cases q;exact d u g
 unfold setFlight;refine aa (wpAny_field r p v ?_);rw[aQ (show (Value.ref T != Value.none)=true by simp)]
 refine wpAny_setField i g t (h _ ⟨λb o q=>(a b λz=>by rw[z,k] at q;cases q).trans (I b o q),D,F.of_keeps λb o q d=>⟨o,(a b (c b o q d)).trans q,rfl⟩,?_⟩ λb o q d=>⟨o.slots,(a b (c b o q d)).trans q⟩)
 exact⟨H,K,T,_,_,⟨(a e m.symm).trans r,w,y,p,v⟩,k,m,wW _ i (Obj.isFreed_of_fields (Obj.data_mapFields g _)),Obj.data_mapFields g _,by simp[t],C⟩
def EO{a:aJ}{c:jx}(n:A.frames=some (env::outer))(m:s.heap.FunFrames B (env::outer))(f:env.frame=some L)(g:s.heap.get? e=some a)(o:B.StaysIn s.heap)(k:B.get? e=none)(d:a.data=.fields c)(i:c[1]? = some .none)(j:O6 B a.cls c)(h:∀ b,Xu B (env::outer) e a.cls a.dict (rawInt L) b->s.heap.UpToSlots b->Q () { s with heap:=b }):aB M A (noteFrame (.ref e) env) Q E s:=by
 unfold noteFrame;simp only[f];refine aa (wpAny_field g d i ?_);rw[aP (by decide)]
 exact Jf n m f g o k d (wD.mp i).1 j h
def MY(H:A.frames=some (env::outer))(k:env.frame=some L)(x:Xu B (env::outer) e cls od .none s.heap)(h:∀ f,Xu B (env::outer) e cls od (rawInt L) f->s.heap.UpToSlots f->Q () { s with heap:=f }):
  aB M A (noteFrame (.ref e) env) Q E s:=by
 obtain⟨J,D,G,P,R,T,O,r,⟨m,w,y,j,t⟩,u,v,i,g,p,C⟩:=x;subst w y;have I:3<r.size:=(wD.mp p).1;have a:∀ b,b≠T->(s.heap.update T (Obj.mapFields (·.setIfInBounds 3 Value.none))).get? b=s.heap.get? b:=λb n=>yC _ _ n.symm;have c:∀ b o,s.heap.get? b=some o->(∀ N,o.data≠.fields N)->b≠T:=λb o q d z=>by
  rw[z,i] at q;cases q;exact d r g
 unfold noteFrame;simp only[k];refine aa (wpAny_field m j t ?_);rw[aQ (show (Value.ref T != Value.none)=true by simp)]
 refine aa (wpAny_field i g p ?_);rw[aP (show ¬ ((Value.none==rawInt L)=true) by simp[rawInt])]
 refine aa (wpAny_setField i g I ?_);refine Jf (s:={ s with heap:=_ }) H (G.of_keeps λb o q d=>⟨o,(a b (c b o q d)).trans q,rfl⟩) k ((a e v.symm).trans m) (λb o q=>(a b λz=>by rw[z,u] at q;cases q).trans (J b o q)) D j (wD.mp t).1 C λf F K=>h f F λb o q d=>?_
 exact K b o ((a b (c b o q d)).trans q) d
def Xu.less{f:ai}{h:aD}(x:Xu B (env::outer) e cls od f h):Xu B outer e cls od f h:=by
 obtain⟨a,b,⟨_,_,c⟩,d⟩:=x;exact⟨a,b,c,d⟩
def ZHg(f:A.frames=some (env::outer))(b:env.frame=some L)(x:Xu B (env::outer) e cls od .none s.heap)(h:∀ a,Xu B outer e cls od .none a->s.heap.UpToSlots a->Q () { s with heap:=a }):aB M A (leaving env (.ref e)) Q E s:=by
 unfold leaving;exact aa (MY f b x λg c j=>Qy (s:={ s with heap:=g }) c λi d k=>h i d.less (j.trans k))
def Cc{a:aJ}{c:jx}(n:A.frames=some (env::outer))(m:s.heap.FunFrames B (env::outer))(i:env.frame=some L)(o:s.heap.get? e=some a)(r:B.StaysIn s.heap)(g:B.get? e=none)(f:a.data=.fields c)(v:c[1]? = some .none)(d:O6 B a.cls c)(h:∀ b,Xu B outer e a.cls a.dict .none b->s.heap.UpToSlots b->Q () { s with heap:=b }):aB M A (leaving env (.ref e)) Q E s:=by
 unfold leaving;exact aa (EO n m i o r g f v d λp j t=>Qy (s:={ s with heap:=p }) j λq k u=>h q k.less (t.trans u))
end
def Go{a:am}{w:aw}{A:ax}{E:ja}{s:al}{c:Env}{K:zZ}{C:aj}{x:Sem ai}{Q:Flow->al->Prop}(F:A.handled=none)(H:zI K C (.type "BaseException")=some true)(G:yQ K (.ref C)=some (.type "type"))(h:aB (aA a w) A x (λv b=>∃ e q,v=.ref e/\K.In b.heap/\WJ QE e C q b.heap/\E (.ref e) b) E s):aB (aA a w) A (raiseStmt c (some x) none) Q E s:=by
 unfold raiseStmt;refine aa (ae h (λv b B=>?_) λ_ _ z=>z);obtain⟨e,q,rfl,k,⟨⟨L,i,I,j⟩,r,o,l,m,n,J,P⟩,D⟩:=B;dsimp only at l m n;subst l m n;obtain⟨p,g,d,O,N⟩:=b;have t:yJ (aA a w) p (typeOf (.ref e)) (.ref C):=Xh.ty ⟨_,o,rfl⟩ _;have u:=vH (M:=aA a w) k H;have y:=sF (M:=aA a w) k G;have f:p.get? e=some ⟨.ref C,i,.fields r,j⟩:=o;unfold excFromValue isExcClass isInstance isType raisedInstance setFlight
 repeat (first | with_reducible refine wpAny_loadPart_at f ?_ | with_reducible refine u.at ?_ | with_reducible refine t.at ?_ | with_reducible refine y.at ?_ | wp_step)
 rw[show r[1]? = some Value.none from J]
 repeat wp_step
 all_goals first | exact wpAny_raiseNew_none F D | trace_state
structure Qk(P:am)(w:aw)(outer:jB)(H:Hp)(s:al)(ea:aj)(cls:ai)(od:jz)(H':Hp)(s':al):Prop where
 ex:∃ B:aD,Xu B outer ea cls od .none s'.heap/\(∀ b o,s'.heap.get? b=some o->H' b≠none->B.get? b=some o)/\(∀ b o,s.heap.get? b=some o->H b=none->b∉frs outer->B.get? b=some o)/\(∀ b o,s.heap.get? b=some o->b∉frs outer->∃ o',B.get? b=some o')
 os:s'.os=s.os
 bare:AllBare s'.gens
 un:Un (frs outer) [] H H' s.heap s'.heap
 hok:YW P w H' s'.heap
 new:s.heap.get? ea=none
 free:H' ea=none
def YC(P:am)(w:aw):Ws:=λa H s E e f=>∃ c cls d b,e=.ref c/\Qk P w a H s c cls d b f/\E cls d b
structure VO(X:Cx)(E:XK):Prop where
 stack:X.stack=X.env::X.outer
 frame:X.env.frame=some X.env.locals
 ex:X.ex=[]
 calm:X.calm=true
 xe:∀ e s',aB (aA X.prog X.w) X.A (leaving X.env e) (λ_ s''=>YC X.prog X.w X.outer X.H₀ X.s₀ E e s'') (λe' s''=>YC X.prog X.w X.outer X.H₀ X.s₀ E e' s'') s'->X.xe e s'
def VA{P:am}{w:aw}{K:zZ}{g:jc}{c:aD}{N:ju}{d:Str}{b:aE}{f:aj}{e:ai}{A:ax}{a:jB}{s:al}{H:Hp}{E:XK}:
  VO (Wt (YC P w) P w K g c N d b f e A a s H E) E:=⟨rfl,rfl,rfl,rfl,λ_ _ h=>h⟩
section
variable{kh:jv}{σ:St}{H H':Hp}{s':al}{E:XK}
def VO.frs(F:VO X E):frs X.stack=X.env.locals::X.fs:=by
 rw[F.stack];show List.filterMap _ (X.env::X.outer)=_;rw[uK,F.frame];rfl
def VO.off(F:VO X E)(I:ZE X kh σ H s){b:aj}{o:aJ}(q:X.s₀.heap.get? b=some o)(n:b∉L2.frs X.outer):b∉L2.frs X.stack:=λz=>by
 rw[F.frs] at z;rcases zG.mp z with z | z
 ·rw[z,I.noloc] at q;cases q
 ·exact n z
def VO.on(F:VO X E){b:aj}(n:b∈L2.frs X.outer):b∈L2.frs X.stack:=by
 rw[F.frs];exact zH _ n
def Hj{B h:aD}{g:aj}(F:VO X E)(J:ZE X kh σ H s)(r:B.StaysIn h)(d:∀ b o,b≠g->s.heap.get? b=some o->b∉L2.frs X.stack->B.get? b=some o)(p:s.heap.UpToSlots h)(i:X.s₀.heap.get? g=none):
  Un (L2.frs X.outer) [] X.H₀ H X.s₀.heap h:=by
 have c:=J.base;rw[F.ex] at c;have l:∀{b:aj}{o:aJ},X.s₀.heap.get? b=some o->b≠g:=λq z=>by rw[z,i] at q;cases q
 have m:∀{b:aj}{o:aJ},b∈L2.frs X.stack->s.heap.get? b=some o->∀ v,o.data≠.fields v:=λa q=>JU J _ a _ q;refine⟨λb o q n a _=>r b o (d b o (l q) (c.keep b o q n a (by simp)) (F.off J q a)),λb o q n a _=>?_,c.free,λb o q _=>?_,c.tups,c.frzs,c.tbls⟩
 ·obtain⟨u,e⟩:=c.slot b o q n a (by simp)
  obtain⟨k,t⟩:=p b _ e (m (F.on a) e);exact⟨k,t⟩
 ·obtain⟨f,j⟩:=c.there b o q (by simp)
  by_cases a:b∈L2.frs X.stack
  ·obtain⟨u,e⟩:=p b f j (m a j);exact⟨_,e⟩
  ·exact⟨f,r b f (d b f (l q) j a)⟩
def ZE.untrack{a:aj}{g:aD->Prop}(I:ZE X kh σ (upd H a (.ext g)) s)(l:H a=none):ZE X kh σ H s:=by
 have v:∀{b:aj}{u:HO},H b=some u->b≠a:=fun{b u} e z=>by rw[z,l] at e;cases e
 have h:∀{b:aj},upd H a (.ext g) b=none->H b=none:=fun{b} e=>by
  by_cases z:b=a
  ·rw[z];exact l
  ·rw[ZO z] at e;exact e
 have d:∀{b:aj}{u:HO},upd H a (.ext g) b=some u->(∀ y,u≠.ext y)->H b=some u:=fun{b u} e k=>by
  by_cases z:b=a
  ·rw[z,ZR] at e;exact absurd (zJ.inj e).symm (k g)
  ·rw[ZO z] at e;exact e
 refine⟨I.ok,I.os,I.bare,⟨I.base.keep,I.base.slot,λb j q n t=>h (I.base.free b j q n t),I.base.there,λb m q=>d (I.base.tups b m q) (λ_ z=>nomatch z),λb j u q=>d (I.base.frzs b j u q) (λ_ z=>nomatch z),λb w q=>?_⟩,I.loc,I.cell,h I.free,λx c e=>h (I.freeC x c e),λp i=>?_,λb u e=>?_,I.len⟩
 ·obtain⟨f,e⟩:=I.base.tbls b w q;exact⟨f,d e (λ_ z=>nomatch z)⟩
 ·obtain⟨e,n,r⟩:=I.pin p i;exact⟨e,h n,r⟩
 ·have o:upd H a (.ext g) b=some u:=by rw[ZO (v e)];exact e
  exact(I.hok b u o).stay (λ_ _ _ q=>q) (λc q=>d q (λ_ z=>nomatch z)) λc m q=>d q (λ_ z=>nomatch z)
def Da{c C:aj}{m:jz}{g:jx->Prop}(F:VO X E)(J:ZE X kh σ H s)(e:X.s₀.heap.get? c=none)(u:H c=none)(Q:WJ g c C m s.heap)(K:∀ f,g f->f[1]? = some .none)(L:∀ f B,g f->(∀ b o,B.get? b=some o->s.heap.get? b=some o)->O6 B (.ref C) f)(N:E (.ref C) m H):X.xe (.ref c) s:=by
 obtain⟨U,f,I,r,w,x,t⟩:=Q;have T:=K f t;have G:X.A.frames=some (X.env::X.outer):=by rw[J.ok.frames,F.stack]
 have D:s.heap.FunFrames (xQ s.heap (c::L2.frs X.stack)) (X.env::X.outer):=by
  have:=qX (as:=c::L2.frs X.stack) J.stack (λl P a O=>zH _ (xO.mpr ⟨l,P,O⟩));rw[F.stack] at this⊢;exact this
 have d:∀ b o,b≠c->s.heap.get? b=some o->b∉L2.frs X.stack->(xQ s.heap (c::L2.frs X.stack)).get? b=some o:=λb o n q h=>uE _ q (λz=>by
  rcases zG.mp z with z | z
  ·exact n z
  ·exact h z)
 have YQ:∀ b o,s.heap.get? b=some o->H b≠none->(xQ s.heap (c::L2.frs X.stack)).get? b=some o:=λb o q n=>d b o (λz=>n (by rw[z];exact u)) q λz=>n (J.stkFree b z)
 have y:(xQ s.heap (c::L2.frs X.stack)).get? c=none:=tW _ (by simp)
 refine F.xe _ _ (Cc G D F.frame I (λb o q=>vV _ q) y w T (by rw[r];exact L f _ t λb o q=>vV _ q) λM j S=>?_)
 rw[r,x] at j;refine⟨c,_,m,H,rfl,⟨⟨_,j,λb o q n=>?_,λb o q n h=>?_,λb o q h=>?_⟩,J.os,J.bare,Hj F J j.1 d S e,J.hok.keptT λb o q n=>j.1 b o (YQ b o q n),e,u⟩,N⟩
 ·obtain⟨i,k⟩:=J.hok.there n;have R:=j.1 b i (YQ b i k n);have v:M.get? b=some o:=q;rw[R] at v;rw[<-zJ.inj v];exact YQ b i k n
 ·have p:=J.base;rw[F.ex] at p;exact d b o (λz=>by rw[z,e] at q;cases q) (p.keep b o q n h (by simp)) (F.off J q h)
 ·obtain⟨i,k⟩:=J.base.there b o q (by rw[F.ex];simp)
  exact⟨i,d b i (λz=>by rw[z,e] at q;cases q) k (F.off J q h)⟩
def G0{a C:aj}{c:jz}(F:VO X E)(J:ZE X kh σ H s)(b:X.s₀.heap.get? a=none)(e:H a=none)(f:WJ QE a C c s.heap)(d:E (.ref C) c H):X.xe (.ref a) s:=Da F J b e f (λ_ z=>z.1) (λ_ _ z _=>.inl z.2) d
def Qv{E1:XK}(F:VO X E)(N:∀ cls o H,E1 cls o H->E cls o H):Vd (YC X.prog X.w) X E1:=by
 intro kh σ H s e s' I h;obtain⟨t,cls,R,H',rfl,W,q⟩:=h;obtain⟨B,L,YQ,x,m⟩:=W.ex;have M:X.A.frames=some (X.env::X.outer):=by rw[I.ok.frames,F.stack]
 refine F.xe _ _ (ZHg M F.frame (by rw[<-F.stack];exact L) λv f U=>?_)
 have c:=I.base;rw[F.ex] at c;have Q:∀{b:aj}{o:aJ},b∈L2.frs X.stack->s.heap.get? b=some o->∀ C,o.data≠.fields C:=λa q=>JU I _ a _ q;have p:∀ b o,X.s₀.heap.get? b=some o->X.H₀ b=none->b∉L2.frs X.outer->B.get? b=some o:=λb o q n a=>x b o (c.keep b o q n a (by simp)) (c.free b o q n (by simp)) (F.off I q a)
 have i:∀ b o,s.heap.get? b=some o->b∈L2.frs X.stack->∃ r,v.get? b=some { o with slots:=r }:=λb o q a=>by
  obtain⟨r,j⟩:=W.un.slot b o q (I.stkFree b a) a (by simp)
  obtain⟨i,l⟩:=U b _ j (λC z=>Q a q C z);exact⟨i,l⟩
 have u:Un (L2.frs X.outer) [] X.H₀ H' X.s₀.heap v:=by
  refine⟨λb o q n a _=>f.1 b o (p b o q n a),λb o q n a _=>?_,λb o q n _=>?_,λb o q _=>?_,λb J q=>W.un.tups b J (c.tups b J q),λb o u q=>W.un.frzs b o u (c.frzs b o u q),λb S q=>?_⟩
  ·obtain⟨r,j⟩:=c.slot b o q n a (by simp)
   obtain⟨y,K⟩:=i b _ j (F.on a);exact⟨y,K⟩
  ·obtain⟨g,d⟩:=c.there b o q (by simp)
   exact W.un.free b g d (c.free b o q n (by simp)) (by simp)
  ·obtain⟨g,d⟩:=c.there b o q (by simp)
   by_cases a:b∈L2.frs X.stack
   ·obtain⟨r,j⟩:=i b g d a;exact⟨_,j⟩
   ·obtain⟨D,l⟩:=m b g d a;exact⟨D,f.1 b D l⟩
  ·obtain⟨O,j⟩:=c.tbls b S q;obtain⟨P,l⟩:=W.un.tbls b _ j;exact⟨O++P,by rw[l,vI]⟩
 refine⟨t,cls,R,H',rfl,⟨⟨B,f,λb o k n=>?_,p,λb o k a=>?_⟩,W.os.trans I.os,W.bare,u,W.hok.keptT λb o k n=>f.1 b o (YQ b o k n),?_,W.free⟩,N _ _ _ q⟩
 ·obtain⟨g,d⟩:=W.hok.there n;have T:=f.1 b g (YQ b g d n);have G:v.get? b=some o:=k;rw[T] at G;rw[<-zJ.inj G];exact YQ b g d n
 ·obtain⟨g,d⟩:=c.there b o k (by simp)
  exact m b g d (F.off I k a)
 ·cases z:X.s₀.heap.get? t with
  | none=>rfl
  | some o=>
   obtain⟨g,d⟩:=c.there t o z (by simp)
   rw[W.new] at d;cases d
inductive QM(C:aj)(f:Str)(E:XK)(c:jf)(b:Hp):Prop
 |mk(y:_)(_:c=[y])(_:∀ a,b a=none->E (.ref C) (some a) (upd b a (.xd [(f,y)])))
def Ek(C:aj)(f:Str)(E:XK)(t:TA):TS:=λ_ σ H=>t σ H λb a=>QM C f E b a
def ZIz{k:Nat}{C N:aj}{f x:Str}{Z:ao}{R:ju}{e:Expr}{n:jA}{t:TA}{p g Q:aK}(F:VO X E)(c:Yj X.K C N f)(ht:yQ X.K (.ref C)=some (.type "type"))(U:ZJ X.prog X.w X.K X.mg X.base Ze k N Z R (Nd X.K C N f))(hr:ZZ (k+1) X.A)(hg:Gl X x)(hm:X.mg x=some (.ref C))(hb:Z8 X.K Z R [])(ha:PA X (e::n) t)(O:(x==("__debug__" : Str))=false:=by decide)(he:ar (e::n) X.env=(false,aI e X.env)::ar n X.env:=by rfl)(P:(aG g (ar n X.env)).any (·.1)=false:=by rfl):
  PS X (.Raise (some (.Call (.Name x p) (e::n) [] g)) none Q) (Ek C f E t):=by
 intro kh s σ H D I h;have hh:=I.ok.hd F.calm;rw[arm_exec_Raise];refine aa (ah ?_);refine Go hh c.exc.mB ht (aa (ae ?_ (λv s3 h3=>aa (ah (ad h3))) λ_ _ z=>z));refine ag (Qb I hg hm ?_ O);refine wF (h₀:=X.base) I.ok.mod.kin c.kp (Z3 (ha g kh s σ H _ I h) λus d ⟨vs,l,m,r,y,ey,q⟩=>⟨m.kIn,?_⟩) he P;subst ey;obtain⟨u,rfl,S⟩:∃ u,us=[u]/\ZW y u:=by
  cases r with
  | cons S r0=>cases r0;exact⟨_,rfl,S⟩
 refine ZLc m.kIn c (by show 1<=aq;rw[sizeLine_eq];lia) ?_
 have kk:∀ b o,d.heap.get? b=some o->(Ph d.heap C [u]).get? b=some o:=λb o q=>zS _ (zS _ q);have e1:(Ph d.heap C [u]).get? (d.heap.objs.size+1)=some { cls:=.ref C,data:=.fields #[.ref d.heap.objs.size,.none,.none,.none,.bool false,.none] }:=by heap_get
 have Y:d.heap.get? (d.heap.objs.size+1)=none:=uG (wM _);have h0:l (d.heap.objs.size+1)=none:=m.hok.fresh (wM _);have L:X.s₀.heap.get? (d.heap.objs.size+1)=none:=by
  cases z:X.s₀.heap.get? (d.heap.objs.size+1) with
  | none=>rfl
  | some o=>
   obtain⟨o',q'⟩:=m.base.there _ o z (by rw[F.ex];simp)
   rw[Y] at q';cases q'
 have J:=m.newx (C:=C) (ea:=d.heap.objs.size+1) (h':=Ph d.heap C [u]) kk Y ⟨_,_,e1,rfl,rfl,rfl,rfl,rfl⟩;generalize a0:d.heap.objs.size+1=a at *;have r2:ZT [V.ref a,y] [Value.ref a,u]:=.cons rfl (.cons S .nil);have G:Nd X.K C N f [V.ref a,y] (upd l a (XO QE a C none)) (λv H2=>v=.non/\∃ i,H2=upd (upd l i (.xd [(f,y)])) a (XO QE a C (some i))/\l i=none/\i≠a) E0:=by
  refine⟨c,_,y,rfl,ZR,λi hd B=>⟨rfl,i,?_,?_,B⟩⟩
  ·funext b
   by_cases z:b=a
   ·rw[z,ZR,ZR]
   ·rw[ZO z,ZO z];by_cases T:b=i
    ·rw[T,ZR,ZR]
    ·rw[ZO T,ZO T,ZO z]
  ·rw[ZO B] at hd;exact hd
 have hl:([Value.ref a,u]++([]:je)).length=R.length:=by
  have e:=r2.length;rw[U.len _ _ _ _ G] at e;exact e.symm
 refine wpAny_call (codeAny_mono (U.run _ X.stack _ _ ⟨[Value.ref a,u],[]⟩ _ _ _ E0 (hr.make C [u] []) (J.env0.make C [u] []) (hb _ [Value.ref a,u] J.kIn hl) r2 G) λr s' j=>?_)
 cases r with
 | error e=>exact(XA kh σ _ _ e s' J j)
 | ok fl=>
  cases fl with
  | ret u2=>
   obtain⟨v,H',M,rv,ev,i,eH,nd,ne⟩:=J.after j;subst ev eH;exists rv,a,some i,rfl,M.kIn,(M.hok a _ ZR).1;have hn:upd l i (.xd [(f,y)]) a=none:=by rw[ZO (Ne.symm ne)];exact h0
   exact G0 F (M.untrack hn) L hn (M.hok a _ ZR).1 (q i nd)
  | next=>exact False.elim j
  | brk=>exact False.elim j
  | cont=>exact False.elim j
end
def FS(K:zZ)(e:aj)(i:Nat)(g:TS)(D:Yq)(h:St):XK:=λcls f d=>∃ C,cls=.ref C/\zI K C (.ref e)=some true/\∀ c,d c=none ->
 g { nx:=λa b=>D.nx (a.set i none) b,rt:=D.rt,bk:=λa b=>D.bk (a.set i none) b,ct:=λa b=>D.ct (a.set i none) b } (h.set i (some (.ref c))) (upd d c (XO PF c C f))
def NB{X:Cx}{d:jv}{p:St}{H i:Hp}{s g:al}{t:aj}{u:jz}{B f:aD}{cls:ai}(I:ZE X d p H s)(W:Qk X.prog X.w X.stack H s t cls u i g)(YQ:∀ b o,g.heap.get? b=some o->i b≠none->B.get? b=some o)(k:∀ b o,s.heap.get? b=some o->H b=none->b∉frs X.stack->B.get? b=some o)(j:∀ b o,s.heap.get? b=some o->b∉frs X.stack->∃ h,B.get? b=some h)(m:B.StaysIn f)(v:g.heap.UpToSlots f):
  ZE X d p i { g with heap:=f }:=by
 have c:∀ b o,s.heap.get? b=some o->b∈frs X.stack->∃ l,f.get? b=some { o with slots:=l }:=λb o q a=>by
  obtain⟨l,e⟩:=W.un.slot b o q (I.stkFree b a) a (by simp)
  obtain⟨c,r⟩:=v b _ e (λx z=>JU I b a o q x z);exact⟨c,r⟩
 refine I.call' (s':={ g with heap:=f }) W.os ⟨λb o q n a _=>m b o (k b o q n a),λb o q n a _=>c b o q a,W.un.free,λb o q _=>?_,W.un.tups,W.un.frzs,W.un.tbls⟩ (W.hok.keptT λb o q n=>m b o (YQ b o q n)) W.bare (λb a=>absurd a (by simp))
 by_cases a:b∈frs X.stack
 ·obtain⟨l,e⟩:=c b o q a;exact⟨_,e⟩
 ·obtain⟨h,e⟩:=j b o q a;exact⟨h,m b h e⟩
def Zp.okD{x b:Str}{g:aC}{f:aj}{n:ao}{N l:ju}{k:Nat}{m:Sp}(F:Zp K x b g f n)(S:ZC N l (Zc g))(j:∀ e H Q E,m e H Q E->e.length=l.length)(d:∀ (c:ai) (A:ax) (a:jB) (s:al) (H:Hp) (e:jf) (Q:VK) (E:XK),ZZ k (A.deeper (envOfC b (Zc g) s.heap.objs.size f c))->m e H Q E ->
   let X:=(Wt (YC P w) P w K mg ki N b (Zc g) f c A a s H E);∃ t,Xz X (Xd g) t/\t { nx:=λ_ o=>Q .non o,rt:=Q } (U8 N e) H):ZJ P w K mg ki (YC P w) (k+1) f n l m:=by
 obtain⟨y,z,kV,p,B,v,c,ct,u,rfl,r,h⟩:=F.ex;exact Jx r h S j λA a s H e Q E q i=>d c A a s H e Q E q i
def Zp.kD{x a:Str}{g:aC}{f:aj}{m:ao}{N j:ju}{k:Nat}{l:Sp}(F:Zp K x a g f m)(S:ZC N j (Zc g))(b:∀ (e:ai) (A:ax) (c:jB) (s:al) (H:Hp) (d:jf) (Q:VK) (E:XK),ZZ k (A.deeper (envOfC a (Zc g) s.heap.objs.size f e))->l d H Q E ->
   let X:=(Wt (YC P w) P w K mg ki N a (Zc g) f e A c s H E);∃ t,Xz X (Xd g) t/\t { nx:=λ_ n=>Q .non n,rt:=Q } (U8 N d) H)(i:∀ d H Q E,l d H Q E->d.length=j.length:=by intro d _ _ _ h;cases h;(try subst d);rfl):ZJ P w K mg ki (YC P w) (k+1) f m j l:=F.okD S i b
def Mx(P:am)(w:aw)(K:zZ)(mg:jc)(ki:aD)(N:ju)(qual:Str)(scope:aE)(f:aj)(cd:ai)(cl:jF)(A:ax)(outer:jB)(s:al)(H:Hp)(E:XK):Cx where
 prog:=P
 w:=w
 K:=K
 mg:=mg
 base:=ki
 A:=A.deeper (wA qual scope s.heap.objs.size f cd cl)
 N:=N
 s₀:=s
 H₀:=H
 env:=wA qual scope s.heap.objs.size f cd cl
 outer:=outer
 stack:=wA qual scope s.heap.objs.size f cd cl::outer
 ex:=[]
 calm:=true
 fn:=λ_=>false
 pn:=[]
 xe:=λe s'=>aB (aA P w) (A.deeper (wA qual scope s.heap.objs.size f cd cl)) (leaving (wA qual scope s.heap.objs.size f cd cl) e) (λ_ s''=>YC P w outer H s E e s'') (λe' s''=>YC P w outer H s E e' s'') s'
def Hd{N:ju}{qual:Str}{scope:aE}{f:aj}{cd:ai}{cl:jF}{A:ax}{outer:jB}{s:al}{H:Hp}{E:XK}:VO (Mx P w K mg ki N qual scope f cd cl A outer s H E) E:=⟨rfl,rfl,rfl,rfl,λ_ _ h=>h⟩
def EU{d:jB}{i:jw}{H:Hp}{s v:al}{E:XK}{e:ai}(C:We P w K mg ki A d s H)(t:∀ c∈i,∃ o,H c=some (Y1 c o))(h:YC P w d (unT i H) s (λc o y=>(∀ F∈i,y F=none)->E c o (reT i H y)) e v):YC P w d H s E e v:=by
 obtain⟨D,cls,L,x,rfl,W,q⟩:=h;obtain⟨B,G,YQ,m,u⟩:=W.ex;have p:∀ c∈i,c∉frs d:=λc a z=>by
  obtain⟨o,e⟩:=t c a;rw[C.frf c z] at e;cases e
 have f:∀ c∈i,∃ o,H c=some (Y1 c o)/\s.heap.get? c=some o/\v.heap.get? c=some o:=λc a=>by
  obtain⟨o,e⟩:=t c a;have g:=C.hok.obj e;exact⟨o,e,g,W.un.keep c o g (QW a) (p c a) (by simp)⟩
 have J:∀ c∈i,x c=none:=λc a=>by
  obtain⟨o,l,j,k⟩:=f c a;exact W.un.free c o j (QW a) (by simp)
 refine⟨D,cls,L,reT i H x,rfl,⟨⟨B,G,λb o r n=>?_,λb o r n I=>m b o r (On n) I,u⟩,W.os,W.bare,Ir W.un t,W.hok.reT (λc a=>?_) (λc a=>?_),W.new,?_⟩,q J⟩
 ·by_cases z:b∈i
  ·obtain⟨M,l,j,k⟩:=f b z;rw[r] at k;cases k;exact m b o j (QW z) (p b z)
  ·rw[UA z] at n;exact YQ b o r n
 ·obtain⟨o,l,j,k⟩:=f c a;exact W.un.free c o j (QW a) (by simp)
 ·obtain⟨o,l,j,k⟩:=f c a;exact⟨o,l,k⟩
 ·rw[UA λz=>?_];exact W.free;obtain⟨o,l,j,k⟩:=f D z;rw[W.new] at j;cases j
def ES{k:Nat}{f c':aj}{co:aJ}{qual:Str}{params:Arguments}{body:Expr}{scope:aE}{cl:jF}{pm ctv:ai}{N:ju}{spB:Sp}(hinj:∀ x y c,cl.lookup x=some c->cl.lookup y=some c->x=y)(hhas:∀ x,(scope.names.lookup x=some .cell\/scope.names.lookup x=some .free)->∃ c,cl.lookup x=some c)(hin:∀ x c,cl.lookup x=some c->c∈cl.map (·.2))(hvis:∀ x∈N,scope.names.lookup x=some .free)(jn:scope.kind=.function)(hco:scope.isCoroutine=false)(hgen:scope.isGenerator=false)(hnc:∀ x∈scope.names,x.2≠.cell)(hcd:WN co qual)(hbody:∀ (A:ax) (outer:jB) (s:al) (H:Hp) (ws:jf) (Q:VK) (E:XK),ZZ k (A.deeper (wA qual scope s.heap.objs.size f (.ref c') cl))->spB ws H Q E ->
   ∃ t,PE (Mx P w K mg ki N qual scope f (.ref c') cl A outer s H E) body t/\t (ws.map some) H Q):
  ZJ P w K mg ki (YC P w) (k+1) f (sZ "<lambda>" qual params body scope cl pm (.ref c') ctv) []
   (K3 f c' (wP "<lambda>" qual params body scope cl pm c' ctv) co cl N spB):=by
 exists λvs H Q E h=>by rw[h.1];rfl
 intro A outer s H args us vs Q E hr e0 hb r hsp;obtain⟨rfl,hf,hc,ws,hcl,hB⟩:=hsp;cases ZT.zero r;have lim:s.heap.NoLimit:=e0.mod.nolimit.keeps λb o e=>(e0.bs b o e).1;have hcs:∀ c∈cl.map (·.2),∃ o,H c=some (Y1 c o):=λc hc=>by
  obtain⟨o,v,e,_⟩:=hcl.all c hc;exact⟨o,e⟩
 have hrec:s.heap.CodeRec (.ref c') qual:=by
  obtain⟨vs',t,d,v1⟩:=hcd;exact⟨c',co,vs',t,rfl,e0.hok.obj hc,d,v1⟩
 refine PySem.W.kla_callFunE hr.depth (e0.hok.obj hf) rfl hco hgen rfl hrec (hb _ _ _ _ ?_);refine wpAny_newFunctionEnv hnc (λx hx=>absurd hx (by simp)) (λh₁ hns hsb=>⟨lim.fresh _ hsb,?_⟩) jn
 have hk₁:∀ b o,s.heap.get? b=some o->h₁.get? b=some o:=λb o e=>hsb.extBut b o (zL (zU e)) (zS _ e);obtain⟨t,ht,hq⟩:=hbody A outer s (unT (cl.map (·.2)) H) ws _ _ (hr.deeper _) hB;have noA:∀ b:aj,b∉(Mx P w K mg ki N qual scope f (.ref c') cl A outer s (unT (cl.map (·.2)) H) (λc o H2=>(∀ c∈cl.map (·.2),H2 c=none)->E c o (reT (cl.map (·.2)) H H2))).ex:=λb z=>absurd (show b∈([]:jw) from z) (by simp)
 have I:ZE (Mx P w K mg ki N qual scope f (.ref c') cl A outer s (unT (cl.map (·.2)) H) (λc o H2=>(∀ c∈cl.map (·.2),H2 c=none)->E c o (reT (cl.map (·.2)) H H2))) [] (ws.map some) (unT (cl.map (·.2)) H) { s with heap:=h₁,toks:=s.toks+0 }:=by
  refine⟨⟨e0.mod,jn,rfl,rfl,zY _,hinj,hhas,λ_ _ z=>absurd z zT,λ_=>hr.hd,Around.frames_deeper e0.frames,.inr ⟨rfl,rfl⟩,λb z=>absurd z (noA b),λb o e=>⟨(e0.bs b o e).1,On (e0.bs b o e).2⟩,e0.bsz,λb _ _=>noA b,λb z=>absurd z (noA b),e0.funs,λb hb=>On (e0.frf b hb)⟩,
   rfl,e0.bare,Un.kept hk₁,⟨_,hns,λi x v h1 h2 h3=>?_⟩,λx c e=>?_,On (e0.hok.fresh (zY _)),λx c e=>QW (hin x c e),λp hp=>absurd (show p∈([]:jv) from hp) (by simp),(e0.hok.unT hcs).kept hk₁,?_⟩
  ·have h2':ws[i]? = some v:=by
    rw[zN] at h2
    cases e:ws[i]? with
    | none=>rw[e] at h2;cases h2
    | some a=>rw[e] at h2;cases h2;rfl
   obtain⟨c,o,u,e1,e2,e3,e4,rv⟩:=hcl.val i x v h1 h2';exact⟨u,rv,.inr ⟨.inr (hvis x (zB h1)),c,e1,o,hk₁ _ _ (e0.hok.obj e3),e4⟩⟩
  ·obtain⟨o,v,e3,e4⟩:=hcl.all c (hin x c e);exact⟨v,o,hk₁ _ _ (e0.hok.obj e3),e4⟩
  ·show (ws.map some).length=N.length;rw[zX];exact hcl.len
 refine PySem.W.kla_codeExpr (ae (ht [] _ _ _ _ I hq) (λu s' hs=>?_) λe s' hs=>?_)
 ·obtain⟨v,H2,J,rv,q⟩:=hs;have u2:Un (frs outer) [] (unT (cl.map (·.2)) H) H2 s.heap s'.heap:=J.base;have nfr:∀ c∈cl.map (·.2),c∉frs outer:=λc hc' z=>by
   obtain⟨o,e⟩:=hcs c hc';rw[e0.frf c z] at e;cases e
  have n2:∀ c∈cl.map (·.2),H2 c=none:=λc hc'=>by
   obtain⟨o,e⟩:=hcs c hc';exact u2.free c o (e0.hok.obj e) (QW hc') (by simp)
  exact⟨v,_,J.os,J.bare,Ir u2 hcs,J.hok.reT n2 (λc hc'=>by
   obtain⟨o,e⟩:=hcs c hc';exact⟨o,e,u2.keep c o (e0.hok.obj e) (QW hc') (nfr c hc') (by simp)⟩),rv,q n2⟩
 ·exact ae hs (λ_ s'' z=>EU e0 hcs z) λe' s'' z=>EU e0 hcs z
def AN(K:zZ)(b:aj)(e:Sp)(q:Nat)(f:aj)(j i:Nat)(g:TS):TS:=λD a H=>a[q]? = some (some (.ref f))/\(∃ d:ao,H f=some (Y1 f { cls:=.type "function",data:=.func d }))/\e [] H (λv c=>D.nx (a.set j (some v)) c) (FS K b i g D a)
def ZHr{X:Cx}{k:Nat}{f CB:aj}{fd:ao}{sp:Sp}{x y n:Str}{p P Q py ph c8:aK}{j i q:Nat}{n0:Str}{p0:aK}{l:aC}{b:jO}{ts:TS}(F:ZJ X.prog X.w X.K X.mg X.base (YC X.prog X.w) k f fd [] sp)(hr:ZZ k X.A)(hb:∀ s,BindsTo s fd ⟨[],[]⟩ [])(Y:X.N[q]? = some x)(hv:Lf X.env.scope x)(a2:X.stack=X.env::X.outer)(c2:X.env.frame=some X.env.locals)(c1:X.ex=[])(hy:Gl X y)(c6:X.mg y=some (.ref CB))(hN:X.N.Nodup)(hi:X.N[i]? = some n)(hn:X.env.scope.names.lookup n=some .local)(ht:yQ X.K (.ref CB)=some (.type "type"))(hB:zI X.K CB (.type "BaseException")=some true)(hs:∀ d E',Xz (X.held d E') (l::b) ts)(hj:X.N[j]? = some n0)(a1:X.env.scope.names.lookup n0=some .local)(a9:(x==("__debug__" : Str))=false:=by decide)(a8:(x==("__classdict__" : Str))=false:=by decide)(c0:(y==("__debug__" : Str))=false:=by decide)(c5:aF (.Call (.Name x p) [] [] P) (some (.Name n0 p0)) Q.line X.env=pure false:=by rfl):
  PS X (.Try [.Assign [.Name n0 p0] (.Call (.Name x p) [] [] P) Q] [.ExceptHandler (some (.Name y py)) (some n) (l::b) ph] [] [] c8) (AN X.K CB sp q f j i ts):=by
 intro a s σ H D I h;refine wpAny_Try_except ?_;have c3:X.A.frames=some (X.env::X.outer):=by rw[I.ok.frames,a2]
 have Z:∀(M:Hp)(s1:al)(E:ai)(t:al),ZE X a σ M s1->YC X.prog X.w X.stack M s1 (FS X.K CB i ts D σ) E t ->
   aB (aA X.prog X.w) X.A (noteFrame E X.env) (λ_ G=>aB (aA X.prog X.w) X.A (setFlight E none) (λ_ L=>aB (aA X.prog X.w) X.A (handleBy E X.env [.ExceptHandler (some (.Name y py)) (some n) (l::b) ph]) (SP X a D) X.xe L) X.xe G) X.xe t:=by
  intro M s1 E t g hx;obtain⟨d,cls,od,H',rfl,W,C,rfl,mC,q⟩:=hx;obtain⟨B,fl,YQ,a4,a3⟩:=W.ex;have a7:Xu B (X.env::X.outer) d (.ref C) od .none t.heap:=by rw[<-a2];exact fl
  refine MY c3 c2 a7 λh4 V a5=>?_;refine Qy (s:={ t with heap:=h4 }) V λh5 U a6=>?_;have J5:ZE X a σ H' { t with heap:=h5 }:=NB g W YQ a4 a3 U.1 (a5.trans a6);refine wpAny_handleBy_cons (codeAny_handlers_test ?_) (by intro q;cases q)
  refine Qb (J5.held d (λ_ _=>False)) hy c6 ?_ c0;refine Kj (s:={ t with heap:=h5 }) J5.kIn U.at.is ht hB mC ?_;refine codeAny_handlers_suite_as ?_;refine Qy (s:={ t with heap:=h5 }) U λh6 fl6 e0=>?_;have J6:ZE X a σ H' { t with heap:=h6 }:=NB g W YQ a4 a3 fl6.1 ((a5.trans a6).trans e0);have n0:X.s₀.heap.get? d=none:=by
   cases z:X.s₀.heap.get? d with
   | none=>rfl
   | some o=>
    obtain⟨o',q'⟩:=g.base.there d o z (by rw[c1];simp)
    rw[W.new] at q';cases q'
  have n1:d≠X.env.locals:=λz=>by
   obtain⟨m,⟨o,_,_,O,_⟩,_⟩:=g.loc;rw[<-z,W.new] at O;cases O
  have n2:∀ x c,X.env.cells.lookup x=some c->c≠d:=λx c e z=>by
   obtain⟨v,o,O,_⟩:=g.cell x c e;rw[z,W.new] at O;cases O
  have n3:∀ p∈X.pn++a,p.1≠d:=λp hp z=>by
   have O:=(g.pin p hp).1;rw[z,W.new] at O;cases O
  have K6:ZE X a σ (upd H' d (XO PF d C od)) { t with heap:=h6 }:=J6.track n0 n1 n2 n3 W.free (Ln fl6.at);refine Nx K6 hN hi (.inl hn) (v:=.ref d) rfl (λs7 I7=>?_) (.inr hn);refine ae (hs d _ a s7 _ _ _ (I7.held d _) (q d W.free)) (λfl s8 h8=>?_) λ_ _ z=>z
  cases fl with
  | next=>
   obtain⟨a0,R,T,q8⟩:=h8;exact(T.unheld g.ok).goes hN hi hn λs9 S=>⟨_,R,S,q8⟩
  | brk=>
   obtain⟨a0,R,T,q8⟩:=h8;exact(T.unheld g.ok).goes hN hi hn λs9 S=>⟨_,R,S,q8⟩
  | cont=>
   obtain⟨a0,R,T,q8⟩:=h8;exact(T.unheld g.ok).goes hN hi hn λs9 S=>⟨_,R,S,q8⟩
  | ret u=>
   obtain⟨v8,a0,R,T,r8,q8⟩:=h8;exact(T.unheld g.ok).goes hN hi hn λs9 S=>⟨v8,_,R,S,r8,q8⟩
 obtain⟨c7,⟨e1,hf⟩,c4⟩:=h;refine wpAny_execs_cons (wpAny_Assign_Name ?_ c5);have I':=I.wish (λE t=>aB (aA X.prog X.w) X.A (noteFrame E X.env) (λ_ G=>aB (aA X.prog X.w) X.A (setFlight E none) (λ_ L=>aB (aA X.prog X.w) X.A (handleBy E X.env [.ExceptHandler (some (.Name y py)) (some n) (l::b) ph]) (SP X a D) X.xe L) X.xe G) X.xe t);have c9:∀ E',PE (X.wish E') (.Name x p) (Uq q):=λE'=>EN (X:=X.wish E') Y hv a9 a8;refine ag (Z3 (c9 _ a s σ H (λv M=>v=.ref f/\M=H) I' ⟨_,c7,rfl,rfl⟩) ?_);rintro u s1 ⟨v,M,g,r,E,eH⟩;subst E;subst eH;cases r;have gf:=g.hok.obj hf;refine PySem.W.callWith_F0 ⟨_,_,_,_,gf⟩ ?_;refine wpAny_call (codeAny_mono (F.run X.A X.stack s1 M ⟨[],[]⟩ [] [] _ _ hr g.unwish.env0 (hb s1) .nil c4) λrr t Y=>?_)
 cases rr with
 | error E=>exact Z M s1 E t g.unwish Y
 | ok fl=>
  cases fl with
  | ret u=>
   obtain⟨v,H2,J,rv,q2⟩:=g.unwish.after Y;exact Nx J hN hj (.inl a1) rv (λs2 I2=>wpAny_execs_nil (wpAny_execs_nil ⟨_,H2,I2,q2⟩)) (.inr a1)
  | next=>exact False.elim Y
  | brk=>exact False.elim Y
  | cont=>exact False.elim Y
def Cd{e:ai}{env env':Env}(h:env.frame=env'.frame):noteFrame e env=noteFrame e env':=by
 unfold noteFrame PySem.frameOf;rw[h]
section
variable{M:Model}
end
def Gc{a h f:aD}:∀{l:jB},h.FunFrames a l->(∀ b∈frs l,f.get? b=h.get? b)->f.FunFrames a l
 | [],_,_=>trivial
 | c::l,⟨hk,⟨L,o,hf,hn,ho,hd⟩,hr⟩,k=>⟨hk,⟨L,o,hf,hn,(k L (xO.mpr ⟨c,zM,hf⟩)).trans ho,hd⟩,Gc hr λb d=>k b (by
   obtain⟨e,g,d⟩:=xO.mp d;exact xO.mpr ⟨e,zH _ g,d⟩)⟩
section
variable{kh:jv}{σ:St}{H:Hp}{E E1:XK}
end
section
variable{M:Model}{B:aD}{env:Env}{outer l:jB}{L e:aj}{cls:ai}{od:jz}{Q:Unit->al->Prop}
def EH{H:ai}{i:jz}(x:Xu B l e cls od H s.heap)(h:∀ k,Xu B l e cls od (i.elim .none λf=>rawInt f) k->s.heap.UpToSlots k->Q () { s with heap:=k }):aB M A (setFlight (.ref e) i) Q E s:=by
 obtain⟨J,F,G,I,N,T,P,v,⟨t,y,C,r,w⟩,m,p,j,g,K,D⟩:=x;have u:3<v.size:=(wD.mp K).1;have a:∀ b,b≠T->(s.heap.update T (Obj.mapFields (·.setIfInBounds 3 (i.elim Value.none λf=>rawInt f)))).get? b=s.heap.get? b:=λb n=>yC _ _ n.symm;have c:∀ b o,s.heap.get? b=some o->(∀ O,o.data≠.fields O)->b≠T:=λb o q d z=>by
  rw[z,j] at q;cases q;exact d v g
 unfold setFlight;refine aa (wpAny_field t r w ?_);rw[aQ (show (Value.ref T != Value.none)=true by simp)]
 refine wpAny_setField j g u (h _ ⟨λb o q=>(a b λz=>by rw[z,m] at q;cases q).trans (J b o q),F,G.of_keeps λb o q d=>⟨o,(a b (c b o q d)).trans q,rfl⟩,?_⟩ λb o q d=>⟨o.slots,(a b (c b o q d)).trans q⟩)
 exact⟨I,N,T,_,_,⟨(a e p.symm).trans t,y,C,r,w⟩,m,p,wW _ j (Obj.isFreed_of_fields (Obj.data_mapFields g _)),Obj.data_mapFields g _,by simp[u],D⟩
def Em{u:ai}(S:A.frames=some (env::outer))(r:env.frame=some L)(x:Xu B (env::outer) e cls od u s.heap)(h:∀ d,Xu B outer e cls od .none d->s.heap.UpToSlots d->Q () { s with heap:=d }):aB M A (leaving env (.ref e)) Q E s:=by
 by_cases K:u=rawInt L
 ·subst K;have x0:=x;obtain⟨N,I,J,X,vs,T,W,w,⟨k,F,G,j,p⟩,C,D,i,g,m,H⟩:=x;unfold leaving noteFrame;simp only[r];refine aa (aa (wpAny_field k j p ?_));rw[aQ (show (Value.ref T != Value.none)=true by simp)]
  refine aa (wpAny_field i g m ?_);rw[aQ (by simp)]
  exact ad (Qy x0 λd t y=>h d t.less y)
 ·obtain⟨N,I,J,X,vs,T,W,w,⟨k,F,G,j,p⟩,C,D,i,g,m,H⟩:=x;subst F G;have V:3<w.size:=(wD.mp m).1;have a:∀ b,b≠T->(s.heap.update T (Obj.mapFields (·.setIfInBounds 3 Value.none))).get? b=s.heap.get? b:=λb n=>yC _ _ n.symm;have c:∀ b o,s.heap.get? b=some o->(∀ ws,o.data≠.fields ws)->b≠T:=λb o q f z=>by
   rw[z,i] at q;cases q;exact f w g
  unfold leaving noteFrame;simp only[r];refine aa (aa (wpAny_field k j p ?_));rw[aQ (show (Value.ref T != Value.none)=true by simp)]
  refine aa (wpAny_field i g m ?_);rw[aP (show ¬ ((u==rawInt L)=true) from λz=>K (eq_of_beq z))];refine aa (wpAny_setField i g V ?_);refine Jf (s:={ s with heap:=_ }) S (J.of_keeps λb o q f=>⟨o,(a b (c b o q f)).trans q,rfl⟩) r ((a e D.symm).trans k) (λb o q=>(a b λz=>by rw[z,C] at q;cases q).trans (N b o q)) I j (wD.mp p).1 H λd R Z=>?_
  refine Qy (s:={ s with heap:=d }) R λU t y=>h U t.less λb o q f=>?_;obtain⟨Y,O⟩:=Z b o ((a b (c b o q f)).trans q) f;obtain⟨v,P⟩:=y b { o with slots:=Y } O f;exact⟨v,P⟩
end
section
variable{kh:jv}{σ:St}{H:Hp}{E E1:XK}
def DJ{N:ju}{f:aE}{cl:jF}{fp:jw}{U:ai}{Q:ja}{R:Option (ai->Sem Unit)}{C:aj}(F:VO X E)(hE:∀ cls o H,E1 cls o H->E cls o H)(I:ZE X kh σ H s)(hf:∀ b∈fp,VR X kh H b)(hC:s.heap.objs.size<=C):
  Vd (YC X.prog X.w) (Yl X N f cl C s H fp (notedBy (aA X.prog X.w) X.A (compEnvC f cl C X.env) (λe L=>compPost (aA X.prog X.w) X.A X.xe R Q U C (.error e) L))) E1:=by
 intro pc l1 Hc sc e L Ic h;obtain⟨x,cls,od,H',rfl,W,q⟩:=h;obtain⟨B,fl,YQ,e9,e8⟩:=W.ex;have e0:(Yl X N f cl C s H fp (notedBy (aA X.prog X.w) X.A (compEnvC f cl C X.env) (λe L=>compPost (aA X.prog X.w) X.A X.xe R Q U C (.error e) L))).stack=X.env::X.outer:=F.stack;have fl:Xu B (X.env::X.outer) x cls od .none L.heap:=e0 ▸ fl;have a8:X.A.frames=some (X.env::X.outer):=by rw[I.ok.frames,F.stack]
 show aB (aA X.prog X.w) X.A (noteFrame (.ref x) (compEnvC f cl C X.env)) _ _ L;rw[Cd (env:=compEnvC f cl C X.env) (env':=X.env) rfl];refine MY a8 F.frame fl λh4 Z c3=>?_;obtain⟨m,hn,_⟩:=Ic.loc;have hn:sc.heap.Ns C m:=hn;have J:Hc C=none:=Ic.free;have c2:C∉frs X.stack:=λz=>by
  obtain⟨_,t,g,_⟩:=I.stack.mem z;exact absurd (zU g) (wL.mpr hC)
 have a9:h4.Ns C m:=by
  obtain⟨o,es,ep,S,r⟩:=hn;exact c3.ns ⟨o,es,ep,W.un.keep C o S J c2 (by simp),r⟩
 show compPost (aA X.prog X.w) X.A X.xe R Q U C (.error (.ref x)) { L with heap:=h4 }
 suffices hh:∃ m,h4.Ns C m/\∀ h',wK C h4 h'->∀ G:Env,G.locals=C->aB (aA X.prog X.w) X.A (PySem.passOn "comprehension.variables-let-go" (.ref x) G:Sem ai) (λ_ _=>False) X.xe { L with heap:=h' } by
  cases R with
  | none=>exact hh
  | some u=>exact hh
 exists m,a9;intro h5 sb G _;obtain⟨k1,k2,k3,k4⟩:=Z
 let B':=xQ B [C]
 have hB:∀ b o,B'.get? b=some o->B.get? b=some o/\b≠C:=λb o e=>by
  exists vV _ e;intro z;have:B'.get? C=none:=tW _ (by simp)
  rw[z,this] at e;cases e
 have O:∀ b o,B.get? b=some o->b≠C->B'.get? b=some o:=λb o e n=>uE _ e (by simpa using n)
 have i5:B'.StaysIn h5:=λb o e=>by
  obtain⟨j,n⟩:=hB b o e;exact(sb.2 b n).trans (k1 b o j)
 have c4:B'.get? x=none:=by
  cases z:B'.get? x with
  | none=>rfl
  | some o=>rw[(hB _ _ z).1] at k2;cases k2
 have i0:∀ b,B.get? b=none->B'.get? b=none:=λb z=>by
  cases y:B'.get? b with
  | none=>rfl
  | some o=>rw[(hB _ _ y).1] at z;cases z
 have M:∀ b o,h4.get? b=some o->b≠C->h5.get? b=some o:=λb o e n=>(sb.2 b n).trans e;have i6:B'.StaysIn B:=λb o e=>(hB b o e).1;have nC:∀ b∈frs (X.env::X.outer),b≠C:=λb i z=>c2 (by rw[F.stack];rw[<-z];exact i)
 have c5:h5.FunFrames B' (X.env::X.outer):=Gc (PySem.W.funFrames_base i6 k3) λb i=>sb.2 b (nC b i);have a3:x≠C:=λz=>by
  obtain⟨o,es,ep,S,_⟩:=hn;rw[<-z,W.new] at S;cases S
 obtain⟨oe,vs,T,oT,ts,⟨he,a7,c7,hd,h1⟩,c9,c6,hT,Y,h3,cx⟩:=k4;have TC:T≠C:=λz=>by
  obtain⟨o,es,ep,S,c8,_⟩:=a9;rw[z,S] at hT;cases hT;rw[c8] at Y;cases Y
 have a5:Xu B' (X.env::X.outer) x cls od (rawInt X.env.locals) h5:=⟨i5,c4,c5,oe,vs,T,oT,ts,⟨M _ _ he a3,a7,c7,hd,h1⟩,i0 T c9,c6,M _ _ hT TC,Y,h3,cx.imp id λz C' t cd j k=>z C' t cd j (hB _ _ k).1⟩;unfold PySem.passOn;refine aa (wpAny_field (M _ _ he a3) hd h1 ?_);rw[aP (show ¬ ((Value.ref T==Value.none)=true) from by simp)]
 refine aa (EH (s:={ L with heap:=h5 }) a5 λh6 a6 k4=>?_);refine wpAny_throw (F.xe _ _ ?_);refine Em (s:={ L with heap:=h6 }) a8 F.frame a6 λh7 a4 i3=>?_;have a:=I.base;rw[F.ex] at a;have c:Un (frs X.stack) fp H Hc s.heap sc.heap:=Ic.base;have D:∀{b o},X.s₀.heap.get? b=some o->b∉fp:=fun{b o} e z=>by
  obtain⟨_,_,_,z3,_⟩:=hf b z;rw[F.ex] at z3;rcases z3 with z3 | z3
  ·simp at z3
  ·exact absurd (zU e) (wL.mpr z3)
 have K:∀{b o},X.s₀.heap.get? b=some o->b≠C:=fun{b o} e z=>by
  exact absurd (zU e) (wL.mpr (by rw[z];exact zD I.sz hC))
 have i4:∀ b o,L.heap.get? b=some o->(∀ vs,o.data≠.fields vs)->b≠C->∃ sl,h7.get? b=some { o with slots:=sl }:=λb o e a0 n=>by
  obtain⟨sl,e4⟩:=c3 b o e a0;have e5:=M b _ e4 n;obtain⟨l0,e6⟩:=k4 b _ e5 a0;obtain⟨i2,e7⟩:=i3 b _ e6 a0;exact⟨i2,e7⟩
 have l:∀ b o,X.s₀.heap.get? b=some o->X.H₀ b=none->b∉frs X.outer->B.get? b=some o/\H' b=none:=λb o e n i=>by
  have nb:=F.off I e i;have j:=a.keep b o e n i (by simp)
  have n1:=a.free b o e n (by simp)
  have k:=c.keep b o j n1 nb (D e);have n2:=c.free b o j n1 (D e);exact⟨e9 b o k n2 nb,W.un.free b o k n2 (by simp)⟩
 have v:∀ b o,X.s₀.heap.get? b=some o->b∉frs X.outer->∃ t,B.get? b=some t:=λb o e i=>by
  have nb:=F.off I e i;obtain⟨o1,j⟩:=a.there b o e (by simp)
  obtain⟨o2,k⟩:=c.there b o1 j (D e);exact e8 b o2 k nb
 have P:∀ b o,B.get? b=some o->b≠C->h7.get? b=some o:=λb o e n=>a4.1 b o (O b o e n);have p:∀ b o,X.s₀.heap.get? b=some o->X.H₀ b=none->b∈frs X.outer->(∃ sl,h7.get? b=some { o with slots:=sl })/\H' b=none:=λb o e n i=>by
  obtain⟨i1,j⟩:=a.slot b o e n i (by simp)
  have n1:=a.free b o e n (by simp)
  have V:b∈frs X.stack:=by rw[F.frs];exact zH _ i
  obtain⟨i8,k⟩:=c.slot b _ j n1 V (D e);have n2:=c.free b _ j n1 (D e);obtain⟨i9,e3⟩:=W.un.slot b _ k n2 V (by simp)
  have n3:=W.un.free b _ k n2 (by simp)
  obtain⟨_,t,g,d⟩:=I.stack.mem V;have a2:s.heap.get? b=some { o with slots:=i1 }:=j;rw[g] at a2;cases a2;obtain⟨sl,e7⟩:=i4 b _ e3 (λvs z=>d vs z) (K e);exact⟨⟨sl,e7⟩,n3⟩
 have i7:Un (frs X.outer) [] X.H₀ H' X.s₀.heap h7:={
  keep:=λb o e n i _=>P b o (l b o e n i).1 (K e)
  slot:=λb o e n i _=>(p b o e n i).1
  free:=λb o e n _=>by
   by_cases i:b∈frs X.outer
   ·exact(p b o e n i).2
   ·exact(l b o e n i).2
  there:=λb o e _=>by
   by_cases i:b∈frs X.outer
   ·obtain⟨⟨sl,z⟩,_⟩:=p b o e (I.ok.frf b i) i;exact⟨_,z⟩
   ·obtain⟨t,z⟩:=v b o e i;exact⟨t,P b t z (K e)⟩
  tups:=λb xs e=>W.un.tups b xs (c.tups b xs (a.tups b xs e))
  frzs:=λb o u e=>W.un.frzs b o u (c.frzs b o u (a.frzs b o u e))
  tbls:=λb ps e=>by
   obtain⟨m1,j⟩:=a.tbls b ps e;obtain⟨m2,k⟩:=c.tbls b _ j;obtain⟨m3,e3⟩:=W.un.tbls b _ k;exact⟨m1++m2++m3,by rw[e3,vI,vI,vI]⟩ }
 have a1:∀ b,H' b≠none->b≠C:=λb n z=>by
  obtain⟨o,es,ep,S,_⟩:=hn;exact n (by rw[z];exact W.un.free C o S J (by simp))
 have c1:X.s₀.heap.get? x=none:=by
  cases z:X.s₀.heap.get? x with
  | none=>rfl
  | some o=>
   obtain⟨o1,j⟩:=a.there x o z (by simp)
   obtain⟨o2,k⟩:=c.there x o1 j (D z);rw[W.new] at k;cases k
 have c0:∀ b o,h7.get? b=some o->H' b≠none->B'.get? b=some o:=λb o e n=>by
  obtain⟨t,q'⟩:=W.hok.there n;have j:=YQ b t q' n;have k:=P b t j (a1 b n);rw[e] at k;cases k;exact O b o j (a1 b n)
 exact⟨x,cls,od,H',rfl,⟨⟨B',a4,c0,λb o e n i=>O b o (l b o e n i).1 (K e),λb o e i=>by
   obtain⟨t,z⟩:=v b o e i;exact⟨t,O b t z (K e)⟩⟩,(W.os.trans Ic.os).trans I.os,W.bare,i7,W.hok.keptT (λb o e n=>P b o (YQ b o e n) (a1 b n)),c1,W.free⟩,hE _ _ _ q⟩
def CO{CX:Ws}{elt iter:Expr}{x:Str}{px:aK}{ifs:jA}{scope:aE}{cl:jF}{pos:aK}{ix:jq}{ys:ju}{tt:TT}{te:TE}{it:aj}{a:jw}{tn:Nat->aD->Prop}{J:It}{Q:VK}{E:ja}{RR:ai->aj->Result->al->Prop}{E1:XK}(hp:∀ D C:aj,s.heap.objs.size<=C->Vd CX (Yl X (x::ys) scope cl C s H a (notedBy (aA X.prog X.w) X.A (compEnvC scope cl C X.env) (λe M=>RR (.ref D) C (.error e) M))) E1)(hc:X.calm=true)(ht:∀ C s H a E,PD (Yl X (x::ys) scope cl C s H a E) ifs tt)(he:∀ C s H a E,Vd CX (Yl X (x::ys) scope cl C s H a E) E1->PE (Yl X (x::ys) scope cl C s H a E) elt te)(sub:Yc X.env cl)(jn:scope.kind=.function)(hnd:(x::ys).Nodup)(hx:scope.names.lookup x=some .local)(jp:∀ y∈scope.names,y.2≠.cell)(hhas:∀ y,((relabel scope X.env).names.lookup y=some .cell\/(relabel scope X.env).names.lookup y=some .free)->∃ c,cl.lookup y=some c)(fo:YB X scope ix ys)(I:ZE X kh σ H s)(T:Vf X.prog X.w X.K (.Name x px) J a it tn)(st:tn 0 s.heap)(hf:∀ b∈a,VR X kh H b)(q:WY J σ ix tt te H Q)(hRR:∀ D C M t m,s.heap.objs.size<=C->ZE X kh σ t M->VR X kh t C->M.heap.Ns C m->Q (.ref D) t->RR (.ref D) C (.ok .next) M):
  aB (aA X.prog X.w) X.A (newList []) (λa0 l=>aB (aA X.prog X.w) X.A (newFunctionEnv scope X.env.globals cl [] X.env.qual none .none (some X.env)) (λO c0=>
   aH (aA X.prog X.w) X.A (.compStart (.ListComp elt [⟨.Name x px,iter,ifs,0⟩] scope pos) 0 (.ref it) a0 { O with scope:=relabel scope X.env }) (RR a0 O.locals) c0) E l) E s:=by
 refine wpAny_newObj_type (wpAny_newFunctionEnv jp (by intro y hy;simp at hy) (λk h f=>?_) jn)
 dsimp only at h f⊢;generalize R:s.heap.push { cls:=.type "list",dict:=none,data:=.seq ([]:je).toArray }=j at h f⊢;have hC:j.objs.size=s.heap.objs.size+1:=by rw[<-R,vQ]
 have a2:s.heap.objs.size≠j.objs.size:=by rw[hC];exact zL (xV _)
 have v:s.heap.objs.size<=j.objs.size:=by rw[hC];exact wM _
 have below:∀ b,b<s.heap.objs.size->b≠j.objs.size/\b≠s.heap.objs.size:=λb g=>⟨by rw[hC];exact zL (vX g),zL g⟩
 have a6:∀ b o,s.heap.get? b=some o->k.get? b=some o:=λb o e=>f.extBut b o (below b (zU e)).1 (zS _ (R ▸ zS _ e));have F:∃ n,k.get? s.heap.objs.size=some { cls:=.type "list",data:=.seq ([]:je).toArray n }:=⟨_,f.extBut _ _ a2 (zS _ (R ▸ yT _ rfl))⟩;obtain⟨nD,F⟩:=F;have a3:∀ b∈a,VR X kh H b/\b<s.heap.objs.size:=λb g=>⟨hf b g,by obtain⟨o,e,_⟩:=T.obj 0 _ st b g;exact zU e⟩
 have c7:H s.heap.objs.size=none:=I.hok.fresh (zY _);obtain⟨W,⟨m0,w0⟩,c1⟩:=q _ c7;generalize hE:notedBy (aA X.prog X.w) X.A (compEnvC scope cl j.objs.size X.env) (λe M=>RR (.ref s.heap.objs.size) j.objs.size (.error e) M)=z;have c8:Vd CX (Yl X (x::ys) scope cl j.objs.size s H a z) E1:=hE ▸ hp s.heap.objs.size j.objs.size v;have a4:(relabel scope X.env).names.lookup x=some .local:=lookup_relabel_local hx;have I0:ZE (Yl X (x::ys) scope cl j.objs.size s H a z) [] (HD σ ix) (upd H s.heap.objs.size (.lst [])) { s with heap:=k,toks:=s.toks+([]:jL).length }:=
  BA I a3 sub jn hhas fo (zY _) v a2 h a6 F
 have a7:tn 0 k:=T.keep _ _ _ st λb _ o e=>a6 b o e;have c5:∀ b∈a,upd H s.heap.objs.size (.lst []) b=none:=λb g=>by rw[ZO (below b (a3 b g).2).2];exact(hf b g).1
 have G:∀{t:Hp},(∀ b∈a,t b=none)->∀ b∈a,VR (Yl X (x::ys) scope cl j.objs.size s H a z) [] t b:=λhn b g=>
  ⟨hn b g,(I0.ok.exf b g).1,I0.ok.exfs b g,.inl g,(I0.ok.exf b g).2,λp hp=>absurd (show p∈([]:jv) from hp) (by simp)⟩
 have P:∀ l:al,l={ s with heap:=k,toks:=s.toks+([]:jL).length } ->
   aH (aA X.prog X.w) X.A (.compLoop (.ListComp elt [⟨.Name x px,iter,ifs,0⟩] scope pos) 0 (.ref it) (.ref s.heap.objs.size) (compEnvC scope cl j.objs.size X.env)) (RR (.ref s.heap.objs.size) j.objs.size) l:=by
  rintro l rfl;refine Fa (λn M=>∃ i L t,ZE (Yl X (x::ys) scope cl j.objs.size s H a z) [] L t M/\(∃ o,L=o::ix.map λi=>(σ[i]?).join)/\tn i M.heap/\(∀ b∈a,t b=none)/\W i n t) ?_ m0 ⟨0,_,_,I0,⟨none,rfl⟩,a7,c5,w0⟩;rintro n s3 ⟨i,V,H3,I3,⟨o3,a5⟩,a8,a1,w3⟩;rw[hE];rcases c1 i n H3 w3 with ⟨a9,qn⟩ | ⟨go,step⟩
  ·refine Z3 (T.done (Yl X (x::ys) scope cl j.objs.size s H a z) rfl rfl rfl hc i [] s3 V H3 z I3 (G a1) a8 a9) ?_;rintro r s4 ⟨hr,Y⟩;subst hr;obtain⟨m4,c9,_⟩:=Y.loc;have Ix:ZE X kh σ H3 s4:=I.call' (s':=s4) (ch:=a) Y.os Y.base Y.hok Y.bare λb g=>by
    obtain⟨_,z1,_,z3,z4,z5⟩:=hf b g;exact⟨z3,z1,z4,z5⟩
   exact hRR _ _ s4 H3 m4 v Ix (I.fpOk v Y.free) c9 qn
  ·refine Z3 (T.item (Yl X (x::ys) scope cl j.objs.size s H a z) rfl rfl rfl hc i [] s3 V H3 z I3 (G a1) a8 go) ?_;rintro r s4 ⟨u,hr,h4⟩;subst hr;refine Z3 h4 ?_;rintro _ s5 ⟨xv,H5,I5,r5,y5,U,c6⟩;have c3:=I5.pinned (G c6) (T.obj _ _ U);have B:∀{N:St}{H7:Hp}{s7:al}{S:Nat},ZE (Yl X (x::ys) scope cl j.objs.size s H a z) ([]++Oz a s5.heap) N H7 s7->(∃ o,N=o::ix.map λi=>(σ[i]?).join)->S<n->W (i+1) S H7 ->
     ∃ m,m<n/\∃ i L t,ZE (Yl X (x::ys) scope cl j.objs.size s H a z) [] L t s7/\(∃ o,L=o::ix.map λi=>(σ[i]?).join)/\tn i s7.heap/\(∀ b∈a,t b=none)/\W i m t:=fun{N H7 s7 S} Z e7 hm w7=>by
    refine⟨S,hm,i+1,N,H7,Z.unpinned,e7,T.keep _ _ _ U λb g o e=>(Z.pin (b,o) (xW _ (xW _ (NN g e)))).1,λb g=>?_,w7⟩;obtain⟨o,e,d⟩:=T.obj _ _ U b g;exact(Z.pin (b,o) (xW _ (xW _ (NN g e)))).2.1
   have hg:PG (Yl X (x::ys) scope cl j.objs.size s H a z) (.Name x px) (QD 0):=Q1 hnd rfl (.inl a4) (.inr a4);refine YG (hg _ s5 V H5 xv u (λc2 H6=>c2=Oe σ ix xv/\H6=H5) c3 r5 ⟨by rw[a5];rfl,rfl⟩) λ_ s6 c2 H6 I6 e6 c4=>?_
   subst e6 c4;refine Z3 (ht _ _ _ _ _ _ s6 _ _ _ I6 (step xv _ y5)) ?_;rintro ok s7 ⟨H7,Z,q7⟩
   cases ok with
   | false=>
    rw[aP zT] at q7⊢;obtain⟨S,hm,w7⟩:=q7;exact B Z ⟨_,rfl⟩ hm w7
   | true=>
    rw[aQ rfl] at q7⊢;refine Z3 (he _ _ _ _ _ c8 _ s7 _ _ _ Z q7) ?_;rintro y s8 ⟨yv,H8,I8,r8,e0,S,e8,z8,hm,w8⟩;refine YG (Uk _ s8 _ H8 (.ref s.heap.objs.size) [yv] (.ref s.heap.objs.size) [y] (λ_ H9=>W (i+1) S H9) I8 rfl (.cons r8 .nil) ⟨_,e0,yv,rfl,rfl,e8,z8,w8⟩) λ_ s9 _ H9 I9 _ w9=>?_;exact B I9 ⟨_,rfl⟩ hm w9
 exact codeAny_compStart_list (P _ rfl) (T.self _ 0 _ _ _ a7 (P _ rfl))
def Gg{d c:Expr}{x:Str}{G:aK}{g:jA}{a:aE}{n:aK}{M:TI}{L:TT}{K:TE}(z:jq)(i:ju)(F:VO X E)(hE:∀ cls o H,E1 cls o H->E cls o H)(hi:PI X (.Name x G) c M)(ht:∀ C s H f E,PD (Yl X (x::i) a (Xw X.env a.names []) C s H f E) g L)(he:∀ C s H f E,Vd (YC X.prog X.w) (Yl X (x::i) a (Xw X.env a.names []) C s H f E) E1->PE (Yl X (x::i) a (Xw X.env a.names []) C s H f E) d K)(Y:YB X a z i)(hk:NZ X.env a.names=true:=by rfl)(k:Oq a x=true:=by rfl)(l:(x::i).Nodup:=by decide +kernel)(hs:∀ x,foldedSetIterable c X.env x=pure x:=by intro _;rfl):
  PE X (.ListComp d [⟨.Name x G,c,g,0⟩] a n) (Ju M z L K):=by
 intro kh s σ H Q I h;have B:=Nn k;have r:=Jj I.ok hk;rw[eval_ListComp];refine wpAny_comprehension_free (use:=none) rfl hs (K0 r) B.kind B.names (Z3 (hi kh s σ H _ I h) λv s1 Z=>Z3 Z λa0 s2 h2=>?_);obtain⟨it,f,tn,J,H2,e,t,T,p,u,q2⟩:=h2;subst e;refine CO (RR:=λj C=>compPost (aA X.prog X.w) X.A X.xe none (EP X kh σ Q) j C) (E1:=E1) (λD C y=>DJ F hE t u y) F.calm ht he (JY r) B.kind l B.own B.cell (Jc B.cell) Y t T p u q2 ?_;intro D C s' N m y O W hn q;refine⟨m,hn,λh' sb=>⟨.ref D,N,?_,rfl,q⟩⟩;obtain⟨P,R,_,S,U,V⟩:=W;exact O.turned (t':=s'.toks) (λb o k e=>(sb.2 b k).trans e) P R S U V
end
section
variable{E:XK}
def MZ{x:Str}{C:aj}{S c l:aK}(F:VO X E)(O:OwnCls x C [.type "ValueError",.type "Exception",.type "BaseException",.type "object"] "ValueError.__new__" X.mg X.base)(Q:yW X.K (.ref C)=true)(R:zI X.K C (.type "BaseException")=some true)(P:yQ X.K (.ref C)=some (.type "type"))(L:Gl X x)(j:(x==("__debug__" : Str))=false:=by decide):
  PS X (.Raise (some (.Call (.Name x S) [] [] c)) none l) (λ_ _ H=>E (.ref C) none H):=by
 intro r s σ H D I h;have M:=I.ok.hd F.calm;rw[arm_exec_Raise];refine aa (ah ?_);refine Go M R P (aa (ae ?_ (λv s3 A=>aa (ah (ad A))) λ_ _ z=>z));have i:=rZ;obtain⟨tl,N,nm,q,bs,n,sn,V,Y,t,Z,k0,k1,k2,k3,k5,mN,B,G,k,T⟩:=O.obj;refine ag (Qb I L O.bound ?_ j);refine uF I.kIn Q ?_;obtain⟨hp,g,d,tk,os⟩:=s;refine wpAny_call_exc_subU (rest:=[]) i i.hasB i (T.keeps I.bk) (I.bk _ _ B) (G.keeps I.bk) k (λw b e=>?_) (yX _);obtain⟨tt,u,e2,e3⟩:=e.there;have J:=I.newx (C:=C) (ea:=b) (h':=w) e.keeps e.new ⟨_,_,u,rfl,rfl,rfl,rfl,rfl⟩;have p:H b=none:=by
  cases z:H b with
  | none=>rfl
  | some o=>
   obtain⟨U,m⟩:=I.hok.there (a:=b) (by rw[z];exact λy=>nomatch y)
   have:=e.new;rw[m] at this;cases this
 have f:X.s₀.heap.get? b=none:=by
  cases z:X.s₀.heap.get? b with
  | none=>rfl
  | some o=>
   obtain⟨U,m⟩:=I.base.there b o z (by rw[F.ex];simp)
   have:=e.new;rw[m] at this;cases this
 exact⟨b,none,rfl,J.kIn,(J.hok b _ ZR).1,G0 F (J.untrack p) f p (J.hok b _ ZR).1 h⟩
end
def Ha(K:zZ)(a:aj)(c:TS)(D:Yq)(d:St):XK:=λcls e b=>∃ C,cls=.ref C/\zI K C (.ref a)=some true/\c D d b
inductive OG(K:zZ)(e C:aj)(m:Str)(i:Sp)(t:TA)(j:TS)(D:Yq)(b:L2.St)(x:V)(c:Hp):Prop
 |mk(a h d:_)(_:x=.ref a)(_:c a=some (.ins C h d))(_:d.lookup m=none)(_:t b c λk f=>i (x::(k++[])) f (λ_ g=>D.nx b g) (Ha K e j D b))
def CG(K:zZ)(b C:aj)(m:Str)(d:Sp)(e:TE)(t:TA)(f:TS):TS:=λD a H=>e a H λx c=>OG K b C m d t f D a x c
def ZGQ{X:Cx}{k:Nat}{f C CB:aj}{fd:ao}{ps:ju}{sp:Sp}{m y:Str}{jk jj epos py ph pos:aK}{o e:Expr}{es:jA}{ta:TE}{t:TA}{b₀:aC}{suite:jO}{ts:TS}{pl:Sem Bool}(he:∀ S,PE (X.wish S) o ta)(c:Wg X.K C)(hm:UG X.K C m f)(F:ZJ X.prog X.w X.K X.mg X.base (YC X.prog X.w) k f fd ps sp)(hr:ZZ k X.A)(hb:Z8 X.K fd ps [])(ha:∀ S,PA (X.wish S) (e::es) t)(hst:X.stack=X.env::X.outer)(hfm:X.env.frame=some X.env.locals)(hy:Gl X y)(hyC:X.mg y=some (.ref CB))(ht:yQ X.K (.ref CB)=some (.type "type"))(hB:zI X.K CB (.type "BaseException")=some true)(hs:∀ E S,Xz (X.held E S) (b₀::suite) ts)(hdy:(y==("__debug__" : Str))=false:=by decide)(hse:ar (e::es) X.env=(false,aI e X.env)::ar es X.env:=by rfl)(hpl:(aG jj (ar es X.env)).any (·.1)=false:=by rfl)(hev:aI (.Call (.Attribute o m jk) (e::es) [] jj) X.env=(do
   let ov<-aI o X.env
   standAt jk.atName
   let (f,first)<-holding [ov] (getMethod ov m pl)
   callWith jj f first (aG jj (ar (e::es) X.env)) (backToKw jj (keywordEach [] X.env))):=by rfl)(hsw:aF (.Call (.Attribute o m jk) (e::es) [] jj) none epos.line X.env=pure false:=by rfl):
  PS X (.Try [.Expr (.Call (.Attribute o m jk) (e::es) [] jj) epos] [.ExceptHandler (some (.Name y py)) none (b₀::suite) ph] [] [] pos) (CG X.K CB C m sp ta t ts):=by
 intro b s R H D I h;refine wpAny_Try_except ?_;have a5:X.A.frames=some (X.env::X.outer):=by rw[I.ok.frames,hst]
 have O:∀(T:Hp)(s1:al)(i:ai)(g:al),ZE X b R T s1->YC X.prog X.w X.stack T s1 (Ha X.K CB ts D R) i g ->
   aB (aA X.prog X.w) X.A (noteFrame i X.env) (λ_ j=>aB (aA X.prog X.w) X.A (setFlight i none) (λ_ n=>aB (aA X.prog X.w) X.A (handleBy i X.env [.ExceptHandler (some (.Name y py)) none (b₀::suite) ph]) (SP X b D) X.xe n) X.xe j) X.xe g:=by
  intro T s1 i g p hx;obtain⟨E,cls,od,H',rfl,W,C,rfl,mC,q⟩:=hx;obtain⟨B,Y,YQ,a1,a0⟩:=W.ex;have a4:Xu B (X.env::X.outer) E (.ref C) od .none g.heap:=by rw[<-hst];exact Y
  refine MY a5 hfm a4 λh4 N a2=>?_;refine Qy (s:={ g with heap:=h4 }) N λh5 M a3=>?_;have J5:ZE X b R H' { g with heap:=h5 }:=NB p W YQ a1 a0 M.1 (a2.trans a3);refine wpAny_handleBy_cons (codeAny_handlers_test ?_) (by intro q;cases q)
  refine Qb (J5.held E (λ_ _=>False)) hy hyC ?_ hdy;refine Kj (s:={ g with heap:=h5 }) J5.kIn M.at.is ht hB mC ?_;refine codeAny_handlers_suite ?_;refine Qy (s:={ g with heap:=h5 }) M λh6 fl6 a6=>?_;have J6:ZE X b R H' { g with heap:=h6 }:=NB p W YQ a1 a0 fl6.1 ((a2.trans a3).trans a6);refine ae (hs E _ b _ _ _ _ (J6.held E _) q) (λY s8 h8=>?_) λ_ _ z=>z
  cases Y with
  | next=>
   obtain⟨d,G,L,P⟩:=h8;exact⟨d,G,L.unheld p.ok,P⟩
  | brk=>
   obtain⟨d,G,L,P⟩:=h8;exact⟨d,G,L.unheld p.ok,P⟩
  | cont=>
   obtain⟨d,G,L,P⟩:=h8;exact⟨d,G,L.unheld p.ok,P⟩
  | ret u=>
   obtain⟨v8,d,G,L,r8,P⟩:=h8;exact⟨v8,d,G,L.unheld p.ok,r8,P⟩
 have I':=I.wish (λi g=>aB (aA X.prog X.w) X.A (noteFrame i X.env) (λ_ j=>aB (aA X.prog X.w) X.A (setFlight i none) (λ_ n=>aB (aA X.prog X.w) X.A (handleBy i X.env [.ExceptHandler (some (.Name y py)) none (b₀::suite) ph]) (SP X b D) X.xe n) X.xe j) X.xe g);refine wpAny_execs_cons (wpAny_Expr_any ?_ I.quiet hsw);refine tS (pl:=pl) (Z3 (he _ b s R H _ I' h) λu s1 ⟨x,T,p,rx,a,dx,fs,ex,E,l,q⟩=>?_) hev;subst ex;obtain rfl:u=Value.ref a:=rx;refine Lj p.unwish E c hm l ?_;refine wF (first:=[.ref a]) (h₀:=X.base) I.ok.mod.kin hm.kp (YG (ha _ jj b s1 R T _ p q) λQ s2 vs H2 U r q2=>⟨U.kIn,?_⟩) hse hpl
 have r2:ZT (V.ref a::(vs++[])) (Value.ref a::(Q++[])):=.cons rfl (r.append .nil);have hl:(Value.ref a::Q++[]).length=ps.length:=by rw[show Value.ref a::Q++[]=Value.ref a::(Q++[]) from rfl,<-r2.length];exact F.len _ _ _ _ q2
 refine wpAny_call (codeAny_mono (F.run X.A X.stack s2 H2 ⟨.ref a::Q,[]⟩ (.ref a::Q++[]) (.ref a::(vs++[])) _ _ hr U.unwish.env0 (hb s2 (.ref a::Q) U.kIn hl) r2 q2) λrr g Z=>?_)
 cases rr with
 | error i=>exact O H2 s2 i g U.unwish Z
 | ok Y=>
  cases Y with
  | ret u=>
   obtain⟨v,H3,J,rv,q3⟩:=U.unwish.after Z;exact wpAny_execs_nil (wpAny_execs_nil ⟨R,H3,J,q3⟩)
  | next=>exact False.elim Z
  | brk=>exact False.elim Z
  | cont=>exact False.elim Z
end L2
namespace Tw
open PySem PySem.Spec L2 PyProof.Rows
variable{jh ji CS CT CH CK CP CB:aj}
structure ZH(P:am)(w:aw)(K:zZ)(mg:jc)(ki:aD)(CX:Ws)(k:Nat)(C:aj)(m:Str)(ps:ju)(sp:Sp):Prop where
 ex:∃ f fd,UG K C m f/\ZJ P w K mg ki CX k f fd ps sp/\Z8 K fd ps []
def XH{X:Cx}{j:Ws}{k:Nat}{C:aj}{m:Str}{x:ju}{l:Sp}{E:XK}{o e:Expr}{g:jA}{n:TE}{t:TA}{a d:aK}{v:Sem Bool}(q:PE X o n)(c:Wg X.K C)(D:ZH X.prog X.w X.K X.mg X.base j k C m x l)(r:ZZ k X.A)(u:Vd j X E)(p:PA X (e::g) t)(i:ar (e::g) X.env=(false,aI e X.env)::ar g X.env:=by rfl)(h:(aG a (ar g X.env)).any (·.1)=false:=by rfl)(s:aI (.Call (.Attribute o m d) (e::g) [] a) X.env=(do
   let ov<-aI o X.env
   standAt d.atName
   let (f,first)<-holding [ov] (getMethod ov m v)
   callWith a f first (aG a (ar (e::g) X.env)) (backToKw a (keywordEach [] X.env))):=by rfl):
  PE X (.Call (.Attribute o m d) (e::g) [] a) (Lg C m l [] E n t):=by
 obtain⟨f,y,M,F,b⟩:=D.ex;exact ZNT q c M F r b .nil u p i h s
def LP{X:Cx}{e:Ws}{k:Nat}{C:aj}{m:Str}{q:ju}{g:Sp}{E:XK}{o:Expr}{h:TE}{d a:aK}{p:Sem Bool}(i:PE X o h)(c:Wg X.K C)(D:ZH X.prog X.w X.K X.mg X.base e k C m q g)(j:ZZ k X.A)(n:Vd e X E)(l:aI (.Call (.Attribute o m a) [] [] d) X.env=(do
   let ov<-aI o X.env
   standAt a.atName
   let (f,first)<-holding [ov] (getMethod ov m p)
   callWith d f first (aG d (ar [] X.env)) (backToKw d (keywordEach [] X.env))):=by rfl):
  PE X (.Call (.Attribute o m a) [] [] d) (Lg C m g [] E h V3):=by
 obtain⟨f,r,M,F,b⟩:=D.ex;exact ZK7 i c M F j b .nil n l
abbrev II:Stmt:=Xy (top 28) 0
abbrev KD:Stmt:=Xy (top 36) 0
abbrev KA:Stmt:=Xy (top 36) 1
abbrev Jp:Stmt:=Xy (top 36) 3
abbrev IC:Stmt:=Xy (top 36) 7
abbrev Jy:Stmt:=Xy (top 36) 8
abbrev JI:Stmt:=Xy (top 36) 9
abbrev Js:Stmt:=Xy (top 36) 12
abbrev LK:Stmt:=Xy (top 36) 13
abbrev KY:Stmt:=Xy (top 36) 16
abbrev Kh:Stmt:=Xy (top 36) 17
abbrev LI:Stmt:=Xy (top 36) 18
abbrev Lx:Stmt:=Xy (top 36) 23
structure Yo(K:zZ)(mg:jc)(jh ji:aj):Prop where
 shelf:mg "Shelf" = some (.ref jh)
 twig:mg "Twig" = some (.ref ji)
 cS:Wg K jh
 cT:Wg K ji
 nk:YF K jh "kept"
 nf:YF K jh "following"
 nl:YF K jh "looks"
 nth:YF K ji "things"
 ntg:YF K ji "tag"
 nab:YF K ji "above"
 nho:YF K ji "holds"
abbrev Q8(d a:aj)(n:Nat):List (Str×V):=[("kept",.ref d),("following",.int n),("looks",.ref a)]
abbrev Ug(d c:V)(a:aj)(b:Nat):List (Str×V):=[("things",d),("tag",c),("above",.ref a),("holds",.int b)]
structure XI(jh:aj)(H:Hp)(S d lk:aj)(n:Nat)(kvs:List (ZV×V))(ls:jf):Prop where
 self:∃ dx,H S=some (.ins jh dx (Q8 d lk n))
 kept:H d=some (.dK kvs)
 looks:H lk=some (.lst ls)
structure Wl(ji:aj)(H:Hp)(x:aj)(th tg:V)(ab:aj)(ho:Nat)(us:jf):Prop where
 self:∃ dx,H x=some (.ins ji dx (Ug th tg ab ho))
 above:H ab=some (.lst us)
def XI.same{a:aj}{H c:Hp}{S d f:aj}{n:Nat}{b:List (ZV×V)}{g:jf}(h:XI a H S d f n b g)(s:ZA H c):XI a c S d f n b g:=by
 obtain⟨⟨i,e⟩,j,k⟩:=h;exact⟨⟨i,s _ _ e⟩,s _ _ j,s _ _ k⟩
def Wl.same{a:aj}{H b:Hp}{x:aj}{g f:V}{c:aj}{d:Nat}{i:jf}(h:Wl a H x g f c d i)(s:ZA H b):Wl a b x g f c d i:=by
 obtain⟨⟨j,e⟩,k⟩:=h;exact⟨⟨j,s _ _ e⟩,s _ _ k⟩
inductive QR(ji:aj)(h:jf)(H:Hp)(Q:VK)(_:XK):Prop
 |mk(x g:aj)(e d:V)(_:h=[.ref x,e,d])(_:H x=some (.ins ji g []))(_:∀(a:Hp)(c:aj),(∀ b o,b≠x->H b=some o->a b=some o)->H c=none->Wl ji a x e d c 1 []->Q .non a)
def ZPS:ZC zEw zEw (Zc II):=Z9
def ZOo(F:Zp K "__init__" "Twig.__init__" II f fd)(L:Yo K mg jh ji):ZJ P w K mg ki Ze 1 f fd zEw (QR ji):=by
 refine F.ko ZPS λl A j s H u Q E q h=>?_;obtain⟨x,d,t,r,rfl,m,k⟩:=h;intro p;exists _,ZQ (Qa (pv 0) (pv 1) rfl) (ZQ (Qa (pv 0) (pv 2) rfl) (ZQ (Qa (pv 0) (XF Zt) rfl) (ZX (Qa (pv 0) ZN rfl))));exists _,rfl,_,rfl,x,ji,d,_,rfl,m,L.cT,L.nth,yO rfl;exists _,rfl,_,rfl,x,ji,d,_,rfl,ZR,L.cT,L.ntg,yO rfl;exists Z7;intro i a;rw[Ox] at a⊢;have c:x≠i:=λz=>by rw[<-z,ZR] at a;cases a
 have g:H i=none:=by rw[ZO (Ne.symm c)] at a;exact a
 exists _,rfl,x,ji,d,_,rfl,(by rw[ZO c];exact ZR),L.cT,L.nab,yO rfl
 exists _,rfl,x,ji,d,_,rfl,ZR,L.cT,L.nho,yO rfl;refine k _ i (λb o n e=>?_) g ⟨⟨d,ZR⟩,?_⟩
 ·rw[Ox,ZO n,ZO (Zb e g),ZO n];exact e
 ·rw[Ox,ZO (Ne.symm c)];exact ZR
inductive QT(jh:aj)(g:jf)(H:Hp)(Q:VK)(_:XK):Prop
 |mk(x e:aj)(_:g=[.ref x])(_:H x=some (.ins jh e []))(_:∀(a:Hp)(d c:aj),(∀ b o,b≠x->H b=some o->a b=some o)->H d=none->H c=none->d≠c->XI jh a x d c 0 [] []->Q .non a)
def ZP9:ZC zEo zEo (Zc KD):=Z9
def Ay(F:Zp K "__init__" "Shelf.__init__" KD f fd)(L:Yo K mg jh ji):ZJ P w K mg ki Ze 1 f fd zEo (QT jh):=by
 refine F.ko ZP9 λu A p s H B Q E y h=>?_;obtain⟨x,j,rfl,t,k⟩:=h;intro v;exists _,ZQ (Qa (pv 0) J0 rfl) (ZQ (Qa (pv 0) ZN rfl) (ZX (Qa (pv 0) (XF Zt) rfl)));intro d m;have q:x≠d:=Zb t m;exists _,rfl,x,jh,j,_,rfl,(by rw[ZO q];exact t),L.cS,L.nk,yO rfl
 exists _,rfl,x,jh,j,_,rfl,ZR,L.cS,L.nf,yO rfl;exists Z7;intro g c;rw[Ox] at c⊢;have r:x≠g:=λz=>by rw[<-z,ZR] at c;cases c
 have a:upd H d (.dK []) g=none:=by rw[ZO (Ne.symm r)] at c;exact c
 have l:d≠g:=λz=>by rw[<-z,ZR] at a;cases a
 have i:H g=none:=by rw[ZO (Ne.symm l)] at a;exact a
 exists _,rfl,x,jh,j,_,rfl,(by rw[ZO r];exact ZR),L.cS,L.nl,yO rfl
 refine k _ d g (λb o n e=>?_) m i l ⟨⟨j,ZR⟩,?_,?_⟩
 ·rw[ZO n,ZO (Zb e i),ZO n,ZO (Zb e m)];exact e
 ·rw[ZO (Ne.symm q),ZO l,ZO (Ne.symm q)];exact ZR
 ·rw[ZO (Ne.symm r)];exact ZR
inductive Zu(jh:aj)(g:jf)(H:Hp)(Q:VK)(_:XK):Prop
 |mk(S d c:aj)(n:Nat)(a:List (ZV×V))(e:jf)(i:Int)(b:V)(_:g=[.ref S,.int i])(_:XI jh H S d c n a e)(_:YK a (.inl i)=some b)(_:Q b H)
def EQ:ZC zEa zEa (Zc LI):=Z9
def ZJ4(F:Zp K "twig_of" "Shelf.twig_of" LI f fd)(L:Yo K mg jh ji):ZJ P w K mg ki Ze 1 f fd zEa (Zu jh):=by
 refine F.ko EQ λl A a s H x Q E o h=>?_;obtain⟨S,d,u,n,q,v,i,b,rfl,⟨⟨c,e⟩,m,t⟩,p,k⟩:=h;have j:=VJ o;intro r;exists _,ZQ (Zy (Uj (Kc j (pv 1) (Wp (pv 0) rfl))) WV Z2) (ZX (Zn (VX j (Wp (pv 0) rfl) (pv 1))));have g:Zx H d (.int i) (some b):=p ▸ Zx.k (k:=Sum.inl i) m;refine⟨_,rfl,_,rfl,S,jh,c,_,.ref d,rfl,e,L.cS,L.nk,rfl,d,some b,rfl,g,_,rfl,Zk ?_⟩;exact⟨_,rfl,S,jh,c,_,.ref d,rfl,e,L.cS,L.nk,rfl,_,rfl,d,b,rfl,g,k⟩
structure Uv(P:am)(w:aw)(K:zZ)(mg:jc)(ki:aD)(k:Nat)(C:aj)(ps:ju)(sp:Sp):Prop where
 ex:∃ f fd,Mk K C f/\ZJ P w K mg ki Ze k f fd ps sp/\Z8 K fd ps []
structure ME(jh ji:aj)(H:Hp)(S d lk:aj)(n:Nat)(kvs:List (ZV×V))(ls:jf)(i:Int)(x:aj)(th tg:V)(ab:aj)(ho:Nat)(us:jf):Prop where
 sh:XI jh H S d lk n kvs ls
 val:YK kvs (.inl i)=some (.ref x)
 tw:Wl ji H x th tg ab ho us
inductive VN(jh ji:aj)(res:V->Nat->jf->V)(l:jf)(H:Hp)(Q:VK)(_:XK):Prop
 |mk(S d h:aj)(n:Nat)(a:List (ZV×V))(j:jf)(i:Int)(x:aj)(k c:V)(g:aj)(b:Nat)(e:jf)(_:l=[.ref S,.int i])(_:ME jh ji H S d h n a j i x k c g b e)(_:Q (res c b e) H)
def AS:ZC zEa zEa (Zc Jy):=Z9
def ZID(F:Zp K "outside" "Shelf.outside" Jy f fd)(L:Yo K mg jh ji)(e:ZH P w K mg ki Ze 1 jh "twig_of" zEa (Zu jh)):ZJ P w K mg ki Ze 2 f fd zEa (VN jh ji λ_ a _=>.int a):=by
 refine F.ko AS λg A c s H B Q E o h=>?_;obtain⟨S,d,q,n,b,r,i,x,y,v,u,a,z,rfl,R,k⟩:=h;intro t;exists _,ZX (Zn (Wp (XH (E:=E0) (pv 0) L.cS e o XA (ZY (pv 1))) rfl));obtain⟨l,m⟩:=R.sh.self;obtain⟨j,p⟩:=R.tw.self;exact⟨_,rfl,S,l,_,rfl,m,rfl,_,rfl,S,d,q,n,b,r,i,.ref x,rfl,R.sh,R.val,x,ji,j,_,.int a,rfl,p,L.cT,L.nho,rfl,k⟩
def FG:ZC zEa zEa (Zc LK):=Z9
def ZLA(F:Zp K "label" "Shelf.label" LK f fd)(L:Yo K mg jh ji)(e:ZH P w K mg ki Ze 1 jh "twig_of" zEa (Zu jh)):ZJ P w K mg ki Ze 2 f fd zEa (VN jh ji λc _ _=>c):=by
 refine F.ko FG λg A b s H B Q E o h=>?_;obtain⟨S,d,q,n,a,r,i,x,y,c,u,v,z,rfl,R,k⟩:=h;intro t;exists _,ZX (Zn (Wp (XH (E:=E0) (pv 0) L.cS e o XA (ZY (pv 1))) rfl));obtain⟨l,m⟩:=R.sh.self;obtain⟨j,p⟩:=R.tw.self;exact⟨_,rfl,S,l,_,rfl,m,rfl,_,rfl,S,d,q,n,a,r,i,.ref x,rfl,R.sh,R.val,x,ji,j,_,c,rfl,p,L.cT,L.ntg,rfl,k⟩
def Wn:ZC zFa zEa (Zc IC):=Z9
def Df(F:Zp K "holders" "Shelf.holders" IC f fd)(T:YX mg)(L:Yo K mg jh ji)(m:ZH P w K mg ki Ze 1 jh "twig_of" zEa (Zu jh)):ZJ P w K mg ki Ze 2 f fd zEa (VN jh ji λ_ a e=>.int ((e.length:Nat)+(a:Nat):Int)):=by
 refine F.ko Wn λo A c s H C Q E r h=>?_;obtain⟨S,d,t,n,b,u,i,x,B,z,g,a,e,rfl,R,k⟩:=h;have v:=Wn.nd;intro y;exists _,ZQ (Zs 2 v (XH (E:=E0) (pv 0) L.cS m r XA (ZY (pv 1)))) (ZX (Zn (Z0 WZ (Zq WA rfl T.len Xf (ZY (Wp (pv 2) rfl))) (Wp (pv 2) rfl))));obtain⟨p,q⟩:=R.sh.self;obtain⟨j,l⟩:=R.tw.self;exists _,rfl,S,p,_,rfl,q,rfl,_,rfl,S,d,t,n,b,u,i,.ref x,rfl,R.sh,R.val;exact⟨_,rfl,x,ji,j,_,.ref g,rfl,l,L.cT,L.nab,rfl,g,e,rfl,.inl (ZG.of R.tw.above),_,rfl,x,ji,j,_,.int a,rfl,l,L.cT,L.nho,rfl,_,_,rfl,rfl,k⟩
inductive VM(ji:aj)(g:jf)(H:Hp)(Q:VK)(_:XK):Prop
 |mk(x:aj)(d:V)(a b:aj)(c:Nat)(e:jf)(h:Int)(i:jf)(_:g=[.ref x])(_:Wl ji H x d (.ref a) b c e)(_:H a=some (.tup (.int h::i)))(_:Q (.bl (decide (h > 0))) H)
def AA:ZC ["twig"] ["twig"] (Zc Ji):=Z9
def ZNK(F:Zp K "is_stem" "is_stem" Ji f fd)(T:YX mg)(L:Yo K mg jh ji):ZJ P w K mg ki Ze 1 f fd ["twig"] (VM ji):=by
 refine F.ko AA λc A a s H u Q E p h=>?_;obtain⟨x,r,b,n,o,t,e,y,rfl,W,g,k⟩:=h;obtain⟨q,l⟩:=T.height;obtain⟨d,i⟩:=W.self;intro m;exists _,ZX (Zn (V1 P2 (Zm K (Wp (pv 0) rfl) (Wj (v:=.int 0) rfl l ⟨_,rfl⟩)) ZN (YE _)));exact⟨_,rfl,x,ji,d,_,.ref b,rfl,i,L.cT,L.ntg,rfl,.inr (.inl ⟨b,_,_,.int e,rfl,rfl,Zh.of g,Xg (j:=0) rfl,_,_,rfl,rfl,k⟩)⟩
inductive Qh(jh ji:aj)(s:jf)(H:Hp)(Q:VK)(_:XK):Prop
 |mk(S d c:aj)(n:Nat)(e:List (ZV×V))(j:jf)(i:Int)(x k m l:aj)(r:Nat)(q p u:jf)(h:Int)(_:s=[.ref S,.int i])(_:ME jh ji H S d c n e j i x (.ref k) (.ref m) l r q)(_:H k=some (.lst p))(_:H m=some (.tup (.int h::u)))(_:c≠k)(_:c≠l)(_:j.length<=900)(_:∀(a:Hp)(g t:aj),(∀ b o,b≠c->H b=some o->a b=some o)->a c=some (.lst (j++[.int i]))->H g=none->a g=some (.lst p)->a t=some (.tup [.str (if h > 0 then "stem" else "leaf"),.ref g])->Q (.ref t) a)
def QI:ZC zFa zEa (Zc Js):=Z9
def ZNs(F:Zp K "look" "Shelf.look" Js f fd)(T:YX mg)(L:Yo K mg jh ji)(DT:ZH P w K mg ki Ze 1 jh "twig_of" zEa (Zu jh))(DS:ZB P w K mg ki 1 "is_stem" ["twig"] (VM ji)):ZJ P w K mg ki Ze 2 f fd zEa (Qh jh ji):=by
 refine F.ko QI λa3 A a0 s H vs Q E hr h=>?_;obtain⟨S,d,j,n,W,p,i,x,J,tg,ab,ho,as,M,xs,U,rfl,R,V,C,Y,X,a2,k⟩:=h;have nd:=QI.nd;intro Xc;refine⟨_,ZQ (Zs 2 nd (XH (E:=E0) (pv 0) L.cS DT hr XA (ZY (pv 1))))
  (ZQ (Wz (UQ yH xJ xI Uk (Wp (pv 0) rfl) (ZY (pv 1))))
  (ZQ (Zy (Yf (Zr DS hr (ZY (pv 2)))) (ZX (Zn (Yi (Zf Ym (Vb Pq rfl T.list Qr (ZY (Wp (pv 2) rfl))))))) Z2)
  (ZX (Zn (Yi (Zf Ym (Vb Pq rfl T.list Qr (ZY (Wp (pv 2) rfl))))))))),?_⟩
 obtain⟨dx,hS⟩:=R.sh.self;obtain⟨O,hx⟩:=R.tw.self;exists _,rfl,S,dx,_,rfl,hS,rfl,_,rfl,S,d,j,n,W,p,i,.ref x,rfl,R.sh,R.val;have l:=R.sh.looks;exists _,rfl,S,jh,dx,_,.ref j,rfl,hS,L.cS,L.nl,rfl,.inl ⟨rfl,_,ZG.of l⟩,_,rfl,j,p,.int i,rfl,rfl,l,YS ∅
 have G:∀ b o,b≠j->H b=some o->upd H j (.lst (p++[.int i])) b=some o:=λb o n e=>by rw[ZO n];exact e
 have a1:x≠j:=ZD hx l;have I:tg≠j:=ZD C l;have q:=G _ _ a1 hx;have D:=G _ _ I C;have u:=G _ _ (Ne.symm X) R.tw.above;have m:=G _ _ (Ne.symm Y) V;have v:upd H j (.lst (p++[.int i])) j=some (.lst (p++[.int i])):=ZR;have r:∀(w:Str)(c t:aj),upd H j (.lst (p++[.int i])) c=none->upd (upd H j (.lst (p++[.int i]))) c (.lst M) t=none->w=(if U > 0 then ("stem" : Str) else "leaf")->Q (.ref t) (upd (upd (upd H j (.lst (p++[.int i]))) c (.lst M)) t (.tup [.str w,.ref c])):=λw c t a B ew=>by
  have g1:=Zg a (.lst M);have g2:=Zg B (.tup [.str w,.ref c]);have g:=g1.trans g2;have Z:H c=none:=by
   cases z:H c with
   | none=>rfl
   | some o=>
    have:c≠j:=λy=>by rw[y,ZR] at a;cases a
    rw[ZO this,z] at a;cases a
  refine k _ c t (λb o n e=>g _ _ (G b o n e)) (g _ _ v) Z (g2 _ _ ZR) ?_;rw[ZR,ew]
 exists _,rfl,x,.ref J,tg,ab,ho,as,U,xs,rfl,⟨⟨O,q⟩,u⟩,D,_,rfl;by_cases N:U > 0
 ·rw[aO N];refine Z1 ⟨_,rfl,x,ji,O,_,.ref J,rfl,q,L.cT,L.nth,rfl,J,M,rfl,.inl (ZG.of m),λc a=>⟨Z7,λt B=>?_⟩⟩;exact r _ c t a B (by rw[aQ N])
 ·rw[aM N];refine Zk ⟨_,rfl,x,ji,O,_,.ref J,rfl,q,L.cT,L.nth,rfl,J,M,rfl,.inl (ZG.of m),λc a=>⟨Z7,λt B=>?_⟩⟩;exact r _ c t a B (by rw[aP N])
inductive UP(jh:aj)(e:jf)(H:Hp)(Q:VK)(_:XK):Prop
 |mk(S d b:aj)(n:Nat)(a:List (ZV×V))(c:jf)(_:e=[.ref S])(_:XI jh H S d b n a c)(_:Q (.int a.length) H)
def Bn:ZC zEo zEo (Zc Kh):=Z9
def Dj(F:Zp K "many" "Shelf.many" Kh f fd)(T:YX mg)(L:Yo K mg jh ji):ZJ P w K mg ki Ze 1 f fd zEo (UP jh):=by
 refine F.ko Bn λc A b s H o Q E j h=>?_;obtain⟨S,d,l,n,a,m,rfl,R,k⟩:=h;obtain⟨e,g⟩:=R.self;intro i;exists _,ZX (Zn (Zq IQ rfl T.len Xf (ZY (Wp (pv 0) rfl))));exact⟨_,rfl,S,jh,e,_,.ref d,rfl,g,L.cS,L.nk,rfl,d,a,rfl,R.kept,k⟩
inductive Xn(jh:aj)(g:jf)(H:Hp)(Q:VK)(_:XK):Prop
 |mk(S d c:aj)(n:Nat)(a:List (ZV×V))(e:jf)(b:jC)(_:g=[.ref S])(_:XI jh H S d c n a e)(_:a.map (·.1)=b.map Sum.inl)(_:b.Pairwise (· <= ·))(_:b.length<64)(_:∀ p,H p=none->Q (.ref p) (upd H p (.lst (b.map V.int))))
def ZJI:ZC zEo zEo (Zc KY):=Z9
def E8(F:Zp K "numbers" "Shelf.numbers" KY f fd)(T:YX mg)(L:Yo K mg jh ji):ZJ P w K mg ki Ze 1 f fd zEo (Xn jh):=by
 refine F.ko ZJI λc A b s H t Q E p h=>?_;obtain⟨S,d,q,n,a,r,m,rfl,R,g,i,j,k⟩:=h;obtain⟨e,l⟩:=R.self;intro o;exists _,ZX (Zn (Zq (PR rfl) rfl T.sorted Q7 (ZY (Wp (pv 0) rfl))));exact⟨_,rfl,S,jh,e,_,.ref d,rfl,l,L.cS,L.nk,rfl,d,a,m,rfl,R.kept,g,i,j,k⟩
structure XN(P:am)(w:aw)(K:zZ)(mg:jc)(ki:aD)(nm:Str)(C:aj):Prop where
 ex:∃ fI fd,Yj K C fI "number" /\ ZJ P w K mg ki Ze 1 fI fd zEa (Nd K C fI "number")/\Z8 K fd zEa []
 at_:mg nm=some (.ref C)
 ty:yQ K (.ref C)=some (.type "type")
def JH{X:Cx}{E:XK}{g:Str}{C:aj}{e:Expr}{d:jA}{t:TA}{p a j:aK}(F:VO X E)(N:XN X.prog X.w X.K X.mg X.base g C)(n:ZZ 2 X.A)(k:PA X (e::d) t)(m:Gl X g)(h:(g==("__debug__" : Str))=false:=by decide)(l:ar (e::d) X.env=(false,aI e X.env)::ar d X.env:=by rfl)(i:(aG a (ar d X.env)).any (·.1)=false:=by rfl):PS X (.Raise (some (.Call (.Name g p) (e::d) [] a)) none j) (Ek C "number" E t):=by
 obtain⟨o,fd,c,G,b⟩:=N.ex;exact ZIz F c N.ty G n m N.at_ b k h l i
def Ul(C:aj)(x:Int)(E:XK)(H:Hp):Prop:=∀ b a,ZA H a->a b=some (.xd [("number",.int x)])->E (.ref C) (some b) a
def Ul.go{C:aj}{x:Int}{E:XK}{H b:Hp}(r:Ul C x E H)(s:ZA H b){a:aj}(h:b a=none):E (.ref C) (some a) (upd b a (.xd [("number",.int x)])):=r a _ (s.trans (Zg h _)) ZR
def Ul.mono{C:aj}{x:Int}{E:XK}{H a:Hp}(r:Ul C x E H)(s:ZA H a):Ul C x E a:=λc b d e=>r c b (s.trans d) e
inductive Xl(jh c:aj)(h:jf)(H:Hp)(Q:VK)(E:XK):Prop
 |mk(S d e:aj)(n:Nat)(a:List (ZV×V))(g:jf)(x:Int)(_:h=[.ref S,.int x])(_:XI jh H S d e n a g)(_:∀ b,YK a (.inl x)=some b->Q b H)(_:YK a (.inl x)=none->Ul c x E H)
def ZHn{m:aj}(F:Zp K "twig_of" "Shelf.twig_of" LI f fd)(L:Yo K mg jh ji)(N:XN P w K mg ki "NoTwig" m):ZJ P w K mg ki (YC P w) 3 f fd zEa (Xl jh m):=by
 refine F.okD EQ (λv H Q E h=>(by obtain⟨_,_,_,_,_,_,_,rfl,_⟩:=h;rfl)) (λr A l s H v Q E p h=>?_)
 obtain⟨S,d,C,n,j,D,x,rfl,⟨⟨e,g⟩,o,B⟩,t,u⟩:=h;have q:=VJ p;intro y;exists _,ZQ (Zy (Uj (Kc q (pv 1) (Wp (pv 0) rfl))) (ZX (JH VA N p (ZY (pv 1)) rfl)) Z2) (ZX (Zn (VX q (Wp (pv 0) rfl) (pv 1))))
 cases b:YK j (.inl x) with
 | none=>
  have a:Zx H d (.int x) none:=b ▸ Zx.k (k:=Sum.inl x) o;refine⟨_,rfl,_,rfl,S,jh,e,_,.ref d,rfl,g,L.cS,L.nk,rfl,d,none,rfl,a,_,rfl,Z1 ?_⟩;exact⟨_,rfl,_,rfl,λz i=>(u b).go (ZA.refl H) i⟩
 | some c=>
  have a:Zx H d (.int x) (some c):=b ▸ Zx.k (k:=Sum.inl x) o;refine⟨_,rfl,_,rfl,S,jh,e,_,.ref d,rfl,g,L.cS,L.nk,rfl,d,some c,rfl,a,_,rfl,Zk ?_⟩;exact⟨_,rfl,S,jh,e,_,.ref d,rfl,g,L.cS,L.nk,rfl,_,rfl,d,c,rfl,a,t c b⟩
inductive Vu(jh ji g:aj)(o:jf)(H:Hp)(Q:VK)(E:XK):Prop
 |mk(S d j:aj)(n:Nat)(b:List (ZV×V))(k:jf)(x:Int)(_:o=[.ref S,.int x])(_:XI jh H S d j n b k)(_:∀ e,YK b (.inl x)=some e->∃(a:aj)(l c:V)(h:aj)(i:Nat)(m:jf),e=.ref a/\Wl ji H a l c h i m/\Q c H)(_:YK b (.inl x)=none->Ul g x E H)
def AL{e:aj}(F:Zp K "label" "Shelf.label" LK f fd)(L:Yo K mg jh ji)(g:ZH P w K mg ki (YC P w) 3 jh "twig_of" zEa (Xl jh e)):ZJ P w K mg ki (YC P w) 4 f fd zEa (Vu jh ji e):=by
 refine F.okD FG (λB H Q E h=>(by obtain⟨_,_,_,_,_,_,_,rfl,_⟩:=h;rfl)) (λi A c s H B Q E m h=>?_)
 obtain⟨S,d,u,n,b,v,x,rfl,R,r,t⟩:=h;intro C;exists _,ZX (Zn (Wp (XH (E:=E) (pv 0) L.cS g m (Qv VA λ_ _ _ h=>h) (ZY (pv 1))) rfl));obtain⟨k,l⟩:=R.self;refine⟨_,rfl,S,k,_,rfl,l,rfl,_,rfl,S,d,u,n,b,v,x,rfl,R,λz o=>?_,t⟩;obtain⟨a,I,y,D,G,J,rfl,W,q⟩:=r z o;obtain⟨j,p⟩:=W.self;exact⟨a,ji,j,_,y,rfl,p,L.cT,L.ntg,rfl,q⟩
structure XS(P:am)(w:aw)(K:zZ)(mg:jc)(ki:aD)(CS:aj):Prop where
 stem:mg "NoStem" = some (.ref CS)
 exk:wJ K CS QZ "ValueError.__new__" = true
 kp:yW K (.ref CS)=true
 mB:zI K CS (.type "BaseException")=some true
 ty:yQ K (.ref CS)=some (.type "type")
def Ec{H:Hp}{L:YZ}{u:V}(h:ZF H L.kt u):YD H L u:=by
 unfold YZ.kt at h;rw[ZF] at h;obtain⟨a,q,rfl,e,b⟩:=h;rw[jX] at b;obtain⟨o,k,rfl,c,b⟩:=b;rw[jX] at b;obtain⟨i,l,rfl,f,b⟩:=b;rw[jX] at b;obtain⟨j,m,rfl,g,b⟩:=b;rw[jX] at b;obtain⟨p,n,rfl,d,b⟩:=b;rw[jX] at b;subst b;rw[ZF] at c d;subst c d;exact⟨a,i,j,rfl,e,f,g⟩
structure YI where
 x:aj
 th:aj
 tg:aj
 ab:aj
abbrev jy:=List YI
def YI.d:YI:=⟨0,0,0,0⟩
structure Ou(ji:aj)(H:Hp)(ts:js)(av:Nat->jq)(ho:Nat->Nat)(i:Nat)(a:YI):Prop where
 tw:Wl ji H a.x (.ref a.th) (.ref a.tg) a.ab (ho i) (iN (av i))
 things:∃ us,H a.th=some (.lst us)/\((gd ts i).h=0->jX H (Ys (gd ts i).rows) us)/\((gd ts i).h≠0->us=iN (gd ts i).bs)
 tag:YD H (YY (gd ts i)) (.ref a.tg)
def Ou.same{b:aj}{H c:Hp}{f:js}{d:Nat->jq}{e:Nat->Nat}{i:Nat}{a:YI}(h:Ou b H f d e i a)(s:ZA H c):Ou b c f d e i a:=by
 obtain⟨l,g,j,k⟩:=h.things;exact⟨h.tw.same s,⟨l,s _ _ g,λz=>(j z).sm s,k⟩,h.tag.mono (ZA.tups s)⟩
structure YJ(jh ji:aj)(H:Hp)(S d lk:aj)(ts:js)(lv:jq)(av:Nat->jq)(ho:Nat->Nat)(as:jy)(kvs:List (ZV×V))(ls:jf):Prop where
 sh:XI jh H S d lk ts.length kvs ls
 keys:kvs.map (·.1)=lv.map (λi:Nat=>(Sum.inl (i:Int):ZV))
 val:∀ i:Nat,i∈lv->YK kvs (Sum.inl (i:Int))=some (.ref (as.getD i .d).x)
 lt:∀ i:Nat,i∈lv->i<ts.length
 len:as.length=ts.length
 tw:∀ i:Nat,i∈lv->Ou ji H ts av ho i (as.getD i .d)
 own:∀ i:Nat,i∈lv->(as.getD i .d).x≠S/\(as.getD i .d).ab≠lk/\(as.getD i .d).th≠lk/\(as.getD i .d).ab≠(as.getD i .d).th
 two:∀ i j:Nat,i∈lv->j∈lv->i≠j->(as.getD i .d).x≠(as.getD j .d).x/\(as.getD i .d).ab≠(as.getD j .d).ab/\(as.getD i .d).ab≠(as.getD j .d).th/\(as.getD i .d).th≠(as.getD j .d).th
def YJ.same{a b:aj}{H e:Hp}{S d k:aj}{n:js}{m:jq}{g:Nat->jq}{j:Nat->Nat}{f:jy}{c:List (ZV×V)}{l:jf}(h:YJ a b H S d k n m g j f c l)(s:ZA H e):YJ a b e S d k n m g j f c l:=
 ⟨h.sh.same s,h.keys,h.val,h.lt,h.len,λi o=>(h.tw i o).same s,h.own,h.two⟩
def Ou.frame{b:aj}{H H':Hp}{e:js}{c:Nat->jq}{d:Nat->Nat}{i:Nat}{a:YI}(h:Ou b H e c d i a)(m:YO H H')(q:∀ o,H a.x=some o->H' a.x=some o)(p:∀ o,H a.th=some o->H' a.th=some o)(n:∀ o,H a.ab=some o->H' a.ab=some o):Ou b H' e c d i a:=by
 obtain⟨r,g,j,k⟩:=h.things;obtain⟨f,l⟩:=h.tw.self;exact⟨⟨⟨f,q _ l⟩,n _ h.tw.above⟩,⟨r,p _ g,λz=>(j z).mono m _ _,k⟩,h.tag.mono m⟩
def YJ.none{b c:aj}{H:Hp}{S d o:aj}{q:js}{f:jq}{j:Nat->jq}{n:Nat->Nat}{g:jy}{a:List (ZV×V)}{p:jf}(h:YJ b c H S d o q f j n g a p){x:Int}(e:YQ f x=false):YK a (Sum.inl x)=tR:=by
 cases z:YK a (Sum.inl x) with
 | none=>rfl
 | some v=>
  have:=MW z;rw[h.keys] at this;obtain⟨i,m,l⟩:=zE.mp this;have k:=Sum.inl.inj l;unfold YQ at e;refine absurd ⟨∅,?_⟩ (of_decide_eq_false e)
  rw[<-k];exact m
def Mu{a:jq}{x:Int}(h:YQ a x=true):∃ i:Nat,x=(i:Int)/\i∈a:=by
 unfold YQ at h;have:=of_decide_eq_true h;exact⟨x.toNat,∅,this.2⟩
def ZK1(F:Zp K "label_over" "label_over" Jr f fd)(a2:K.In ki)(T:YX mg)(L:XS P w K mg ki CS)(DS:ZB P w K mg ki 8 "stand_side_by_side" zE2 QQ):ZJ P w K mg ki (YC P w) 9 f fd ["labels"] (VL CS):=by
 refine F.kD QX λc3 A a7 s H vs Q E hr h=>?_;obtain⟨l,q,r,rfl,hl,hk,hf,a8,k⟩:=h;have nd:=QX.nd;have a1:=hk.1;obtain⟨tf,mf⟩:=T.few;obtain⟨tm,mm⟩:=T.most;obtain⟨t0,m0⟩:=T.height;obtain⟨t1,m1⟩:=T.least;obtain⟨t2,m2⟩:=T.greatest;obtain⟨t3,m3⟩:=T.many;intro Xc;refine⟨_,ZQ (Zy (XT (LC Ux Ux (Wj (v:=.int 2) rfl mf ⟨_,rfl⟩) (Zq WA rfl T.len Xf (ZY (pv 0))) (Wj (v:=.int 4) rfl mm ⟨_,rfl⟩))) (ZX (MZ VA (NK a2 L.stem L.exk) L.kp L.mB L.ty rfl)) Z2)
  (ZQ (Wo MD rfl (Nk rfl T.range (Zf ZN (Zq WA rfl T.len Xf (ZY (pv 0))))) (Yk 1 nd)
   (ZX (Zy (XT (Yf (Zr DS hr (Zf (Zm K (pv 0) (Z0 QP (pv 1) ZN)) (Zm K (pv 0) (pv 1)))))) (ZX (MZ VA (NK a2 L.stem L.exk) L.kp L.mB L.ty rfl)) Z2)))
  (ZQ (Zs 2 nd (Zq (ZOi rfl) rfl T.sum ZOu (ZY (Qz [] [] rfl (Wq (pv 0)) (λ_ _ _ _ _=>Uh) (λ_ _ _ _ _=>Zm K (pv 0) (Wj (v:=.int 3) rfl m3 ⟨_,rfl⟩)) trivial))))
  (ZX (Zn (Yi (Pm (Z0 WZ (Zm K (Zm K (pv 0) ZN) (Wj (v:=.int 0) rfl m0 ⟨_,rfl⟩)) ZN)
   (Zm K (Zm K (pv 0) ZN) (Wj (v:=.int 1) rfl m1 ⟨_,rfl⟩))
   (Zm K (Zm K (pv 0) (P6 Pt ZN)) (Wj (v:=.int 2) rfl m2 ⟨_,rfl⟩))
   (pv 2))))))),?_⟩
 have S:∀(X:Hp)(i:Nat),ZA H X->i<q.length->∃(a:aj)(I G:V),q[i]? = some (.ref a)/\X a=some (.tup [.int (r.getD i .d).h,I,G,.int (r.getD i .d).m])/\ZF X (r.getD i .d).lo I/\ZF X (r.getD i .d).hi G:=λX i s' M=>by
  have hu:q[i]? = some q[i]:=zV M;obtain⟨a,I,G,e,e1,k1,k2⟩:=(hk.2 i _ hu).mono (ZA.tups s');exact⟨a,I,G,by rw[hu,e],e1,k1,k2⟩
 exists _,rfl,l,q,rfl,.inl (ZG.of hl),_,_,rfl,rfl,_,rfl;rcases yU q.length 2 with h2 | h2
 ·rw[aM (show ¬ (2:Int)<=(q.length:Int) from nofun)]
  refine Zk ⟨_,rfl,Z1 ?_⟩;exact(k H (ZA.refl H)).1 (Gi nofun)
 rw[aO (show (2:Int)<=(q.length:Int) from nofun)]
 refine Z1 ⟨_,_,rfl,rfl,_,rfl,?_⟩;rcases yU 4 q.length with h4 | h4
 ·rw[aM (show ¬ (q.length:Int)<=4 from nofun)]
  refine Z1 ?_;exact(k H (ZA.refl H)).1 (Gi nofun)
 rw[aO (show (q.length:Int)<=4 from nofun)]
 refine Zk ?_;exists _,rfl,l,q,rfl,.inl (ZG.of hl),1,(q.length:Int),rfl,⟨nofun,nofun,nofun,nofun⟩
 refine Pb (lo:=1) (n:=((q.length:Int)-1).toNat) (λi σ Y=>∃ x:jg,σ=[some (.ref l),x,none]/\ZA H Y/\∀ j,j<i->QA (r.getD j .d) (r.getD (j+1) .d)=true) ⟨_,rfl,ZA.refl H,λj hj=>absurd hj nofun⟩ ?_ ?_
 ·rintro i σ Y M ⟨x,rfl,B,O⟩;have a3:i+1<q.length:=nofun
  have ua:q[i]? = some (q[i]'nofun):=zV nofun
  have ub:q[i+1]? = some q[i+1]:=zV a3;have e1:(1:Int)+(i:Int)=((i+1:Nat):Int):=nofun
  have e0:(1:Int)+(i:Int)-1=((i:Nat):Int):=nofun
  have t:=B _ _ hl;refine⟨_,rfl,_,rfl,_,_,rfl,rfl,.inl ⟨l,q,_,_,rfl,rfl,ZG.of t,(by rw[e0];exact Xg ua),?_⟩⟩
  refine⟨_,rfl,_,rfl,.inl ⟨l,q,_,_,rfl,rfl,ZG.of t,(by rw[e1];exact Xg ub),?_⟩⟩
  refine⟨_,_,r.getD i .d,r.getD (i+1) .d,rfl,(hk.2 i _ ua).mono (ZA.tups B),(hk.2 (i+1) _ ub).mono (ZA.tups B),hf i,hf (i+1),λu U=>⟨_,rfl,?_⟩⟩
  cases hc:QA (r.getD i .d) (r.getD (i+1) .d) with
  | true=>
   refine Zk ⟨_,rfl,B.trans U,λj hj=>?_⟩;rcases yU j i with c1 | c1
   ·exact O j c1
   ·have:j=i:=nofun
    rw[this];exact hc
  | false=>exact Z1 ((k u (B.trans U)).1 (C7 nofun hc))
 rintro σ Y ⟨x,rfl,B,O⟩;have ho:=Ab (ls:=r) nofun nofun λj hj=>O j nofun
 have t:=B _ _ hl;exists _,rfl,l,rfl,⟨q,ZG.of t⟩;refine UT (n:=q.length) (λi z=>q[i]? = some z) (λD i W u=>ZA Y u/\Y D=none/\W=((r.map YZ.m).take i).map V.int) (YS nofun)
  (λD i W u M y=>⟨q,q[i],ZG.of (y.1 _ _ t),by simp[M]⟩) (λD i W u z H4 M y hy=>⟨hy.1,hy.2 q (ZG.of (y.1 _ _ t))⟩) (λD W u y=>⟨q,ZG.of (y.1 _ _ t),zY _⟩)
  (λD hD=>⟨Zg hD _,hD,rfl⟩) (λD i W u z eD c5 M hz y R hR=>?_) (λD W u eD y=>?_)
 ·obtain⟨U,nD,rfl⟩:=y;obtain⟨a,c0,a9,ua,ea,c6,c7⟩:=S u i (B.trans U) M;rw[ua] at hz;cases hz;refine⟨_,rfl,.inr (.inl ⟨a,_,_,.int (r.getD i .d).m,rfl,rfl,Zh.of ea,rfl,?_⟩)⟩;refine hR _ u eD ⟨λb o e=>by rw[ZO (Zb e nD)];exact U b o e,nD,?_⟩
  have eg:(r.map YZ.m)[i]? = some (r.getD i .d).m:=by
   rw[zN,zW,zV (show i<r.length from nofun)]
   rfl
  rw[yP,eg,yR];rfl
 ·obtain⟨U,nD,rfl⟩:=y;rw[yK (by rw[zX];lia (splits:=8))] at eD
  exists D,r.map YZ.m,rfl,ZG.of eD;have C:=B.trans U;have N:=C _ _ hl;obtain⟨c,a0,c4,uc,ec,a6,c9⟩:=S u 0 C nofun
  obtain⟨b,c2,Z,ub,eb,c8,a5⟩:=S u (q.length-1) C nofun
  have J:Xv q (-1)=some (.ref b):=by
   have e:q=q.dropLast++[.ref b]:=by
    have a4:q≠[]:=λz=>by rw[z] at h2;simp at h2
    have hg:q.getLast a4=.ref b:=by
     rw[rL];have:=(yN.mp ub).2;exact this
    rw[<-hg,qJ]
   rw[e];exact IY _ _
  refine⟨_,rfl,.inl ⟨l,q,_,.ref c,rfl,rfl,ZG.of N,Xg (j:=0) uc,.inr (.inl ⟨c,_,_,.int (r.getD 0 .d).h,rfl,rfl,Zh.of ec,rfl,_,_,rfl,rfl,?_⟩)⟩⟩;refine⟨_,rfl,.inl ⟨l,q,_,.ref c,rfl,rfl,ZG.of N,Xg (j:=0) uc,.inr (.inl ⟨c,_,_,a0,rfl,rfl,Zh.of ec,rfl,?_⟩)⟩⟩;refine⟨_,rfl,1,rfl,.inl ⟨l,q,_,.ref b,rfl,rfl,ZG.of N,J,.inr (.inl ⟨b,_,_,Z,rfl,rfl,Zh.of eb,rfl,?_⟩)⟩⟩;exists _,rfl,Z7;intro p hp;have g:=Zg hp (.tup [.int ((r.getD 0 .d).h+1),a0,Z,.int (r.map YZ.m).sum]);refine(k _ (C.trans g)).2 _ _ ho ?_;rw[<-a1];exact .tup ZR (.cons (.int _) (.cons (a6.sm g) (.cons (a5.sm g) (.cons (.int _) .nil))))
abbrev Il:Stmt:=Xy (top 36) 19
inductive WC(jh ji CT:aj)(p:jf)(H:Hp)(Q:VK)(E:XK):Prop
 |mk(S d n l:aj)(h:js)(g:jq)(k:Nat->jq)(m:Nat->Nat)(j:jy)(e:List (ZV×V))(o:jf)(c:jC)(_:p=[.ref S,.ref l])(_:YJ jh ji H S d n h g k m j e o)(_:H l=some (.lst (c.map V.int)))(_:c.length<=100)(_:∀ x,c.find? (λx=>!YQ g x)=some x->Ul CT x E H)(_:∀ bs:jq,c=bs.map (λb:Nat=>(b:Int))->(∀ b∈bs,b∈g)->∀(D:aj)(i:jf)(a:Hp),ZA H a->H D=none->a D=some (.lst i)->Ye a (YU h bs) i->Q (.ref D) a)
def DV:ZC zEj zEj (Zc Il):=Z9
def BE(F:Zp K "labels_of" "Shelf.labels_of" Il f fd)(L:Yo K mg jh ji)(DL:ZH P w K mg ki (YC P w) 4 jh "label" zEa (Vu jh ji CT)):ZJ P w K mg ki (YC P w) 5 f fd zEj (WC jh ji CT):=by
 refine F.kD DV λa1 A Y s H vs Q E hr h=>?_;obtain⟨S,d,lk,l,B,q,av,ho,as,X,ls,j,rfl,R,I,a0,k1,k2⟩:=h;intro Xc;exists _,ZX (Zn (Gg (E1:=E) [0] zEo VA (λ_ _ _ h=>h) (Wq (pv 1)) (λ_ _ _ _ _=>Uh) (λ_ _ _ _ _ hp=>XH (E:=E) (pv 1) L.cS DL hr hp (ZY (pv 0))) ⟨rfl,.inl rfl,rfl,trivial⟩));exists _,rfl,l,rfl,⟨_,ZG.of I⟩;refine UT (n:=j.length) (λi z=>(j.map V.int)[i]? = some z) (λD i r g=>ZA H g/\H D=none/\(j.take i).find? (λx=>!YQ q x)=none/\Ye g (YU B ((j.take i).map wV)) r) (YS ∅)
  (λD i r g U k=>⟨_,.int j[i],ZG.of (k.1 _ _ I),by simp[U]⟩) (λD i r g z H4 U k o=>⟨o.1,o.2 _ (ZG.of (k.1 _ _ I))⟩) (λD r g k=>⟨_,ZG.of (k.1 _ _ I),by simp⟩)
  (λD hD=>⟨Zg hD _,hD,rfl,rfl,λi u e=>by simp at e⟩) (λD i r g z C a2 U hz k RR T=>?_) (λD us g C k=>?_)
 ·obtain⟨v,N,J,G⟩:=k;rw[zN] at hz;obtain⟨x,Z,rfl⟩:=yB.mp hz;obtain⟨f1,f2⟩:=Ni J Z;have O:=R.same v;obtain⟨dx,hS⟩:=O.sh.self;refine⟨_,rfl,S,dx,_,rfl,hS,rfl,_,rfl,S,d,lk,B.length,X,ls,x,rfl,O.sh,λtw p=>?_,λp=>?_⟩
  ·have M:YQ q x=true:=by
    cases c:YQ q x with
    | true=>rfl
    | false=>rw[R.none c] at p;cases p
   obtain⟨m,rfl,a⟩:=Mu M;rw[R.val m a] at p;cases p;have W:=O.tw m a;exists _,_,_,_,_,_,rfl,W.tw;refine T _ g C ⟨US v N,N,f2 (by rw[M];rfl),?_⟩
   have tD:YO g (upd g D (.lst (r++[.ref (as.getD m .d).tg]))):=λb xs e=>by rw[ZO (ZD e C)];exact e
   rw[yP,Z];have e2:YU B ((j.take i++(some ((m:Nat):Int)).toList).map wV)=YU B ((j.take i).map wV)++[YY (gd B m)]:=by unfold YU;simp
   rw[e2];exact(G.snoc W.tag).mono tD
  ·have M:YQ q x=false:=by
    cases c:YQ q x with
    | false=>rfl
    | true=>
     obtain⟨m,rfl,a⟩:=Mu c;rw[R.val m a] at p;cases p
   exact(k1 x (f1 (by rw[M];rfl))).mono v
 ·obtain⟨v,N,J,G⟩:=k;rw[yK (zY _)] at J G;have t:∀ y∈j,YQ q y=true:=λy o=>by
   have:=uM.mp J y o;simpa using this
  refine k2 (j.map wV) ?_ (λb hb=>?_) D us g v N C G
  ·rw[zF]
   conv=>lhs;rw[<-List.map_id j]
   refine uH λy o=>?_;obtain⟨m,rfl,_⟩:=Mu (t y o);simp
  ·obtain⟨y,o,rfl⟩:=zE.mp hb;obtain⟨m,rfl,a⟩:=Mu (t y o);simpa using a
def MN(a:Nat->jq)(b c:Nat):Nat->jq:=λi=>if i=b then a i++[c] else a i
def P5(a:Nat->Nat)(b:Nat):Nat->Nat:=λi=>if i=b then a i-1 else a i
def YJ.touch{n h:aj}{H p:Hp}{S d I:aj}{K:js}{C:jq}{j:Nat->jq}{l:Nat->Nat}{f:jy}{s:List (ZV×V)}{J:jf}(R:YJ n h H S d I K C j l f s J){b t:Nat}(q:b∈C)(W:∃ M,p (f.getD b .d).x=some (.ins h M (Ug (.ref (f.getD b .d).th) (.ref (f.getD b .d).tg) (f.getD b .d).ab (l b-1))))(U:p (f.getD b .d).ab=some (.lst (iN (j b++[t]))))(k:∀ c o,c≠(f.getD b .d).x->c≠(f.getD b .d).ab->H c=some o->p c=some o):YJ n h p S d I K C (MN j b t) (P5 l b) f s J:=by
 obtain⟨⟨L,E⟩,B,F⟩:=R.sh;have u:=R.tw b q;obtain⟨N,a⟩:=u.tw.self;have g:=u.tw.above;obtain⟨us,D,P,Q⟩:=u.things;have m:YO H p:=λc xs e=>k c _ (ZD e a) (ZD e g) e;refine⟨⟨⟨L,k _ _ (R.own b q).1.symm (ZD E g) E⟩,k _ _ (ZD B a) (ZD B g) B,k _ _ (ZD F a) (R.own b q).2.1.symm F⟩,R.keys,R.val,R.lt,R.len,λi w=>?_,R.own,R.two⟩;by_cases z:i=b
 ·subst z;have y:MN j i t i=j i++[t]:=aQ rfl;have A:P5 l i i=l i-1:=aQ rfl;refine⟨⟨?_,?_⟩,⟨us,k _ _ (ZD D a) (R.own i w).2.2.2.symm D,λz=>(P z).mono m _ _,Q⟩,u.tag.mono m⟩
  ·rw[A];exact W
  ·rw[y];exact U
 ·have y:MN j b t i=j i:=aP z;have A:P5 l b i=l i:=aP z;have v:=R.tw i w;obtain⟨Y,Z,t3,t4⟩:=R.two i b w q z;obtain⟨s1,s2,X,s4⟩:=R.two b i q w (Ne.symm z);obtain⟨O,r⟩:=v.tw.self;obtain⟨vs,T,_⟩:=v.things;have G:=v.frame m (λo e=>k _ _ Y (by have:=r.symm.trans e;exact ZD r g) e) (λo e=>k _ _ (ZD T a) X.symm e) (λo e=>k _ _ (ZD v.tw.above a) Z e)
  refine⟨?_,G.things,G.tag⟩;rw[y,A];exact G.tw
abbrev Jz:Stmt:=Xy (top 36) 20
inductive Xr(jh ji CH:aj)(n:jf)(H:Hp)(Q:VK)(E:XK):Prop
 |mk(S d j l:aj)(m:js)(g:jq)(i:Nat->jq)(a:Nat->Nat)(h:jy)(c:List (ZV×V))(k:jf)(bs:jq)(_:n=[.ref S,.ref l])(_:YJ jh ji H S d j m g i a h c k)(_:H l=some (.lst (iN bs)))(_:∀ b∈bs,b∈g)(_:∀ b,bs.find? (λb=>decide (a b=0))=some b->Ul CH (b:Nat) E H)(_:bs.find? (λb=>decide (a b=0))=none->∀ e,ZA H e->Q .non e)
def Xq:ZC ["self","numbers","number"] zEj (Zc Jz):=Z9
def ZFI(F:Zp K "check_held" "Shelf.check_held" Jz f fd)(L:Yo K mg jh ji)(N:XN P w K mg ki "NotHeld" CH)(y:ZH P w K mg ki Ze 2 jh "outside" zEa (VN jh ji λ_ g _=>.int g)):ZJ P w K mg ki (YC P w) 3 f fd zEj (Xr jh ji CH):=by
 refine F.kD Xq λz A q s H vs Q E v h=>?_;obtain⟨S,d,U,l,Y,lv,av,g,as,p,W,bs,rfl,R,t,M,O,T⟩:=h;have X:=Xq.nd;intro Z;refine⟨_,ZX (Wo MD rfl (Wq (pv 1)) (Yk 2 X)
  (ZX (Zy (Yh VT (XH (E:=E0) (pv 0) L.cS y v XA (ZY (pv 2))) ZN (YE _)) (ZX (JH VA N v (ZY (pv 2)) rfl)) Z2))),?_⟩
 refine⟨_,rfl,l,rfl,⟨_,ZG.of t⟩,PM (K:=K) (a:=l) (xs:=iN bs) (λi n k=>∃ x:jg,n=[some (.ref S),some (.ref l),x]/\k=H/\(bs.take i).find? (λb=>decide (g b=0))=none) ⟨_,rfl,rfl,rfl⟩ (λi n k _ I=>by obtain⟨_,_,rfl,_⟩:=I;exact ZG.of t) ?_ ?_⟩
 ·rintro i u n k e ⟨x,rfl,rfl,m⟩;unfold iN at e;rw[zN] at e;obtain⟨b,r,rfl⟩:=yB.mp e;have j:=M b (zB r);obtain⟨D,G⟩:=Ni m r;obtain⟨B,J⟩:=R.sh.self;exists _,rfl,S,B,_,rfl,J,rfl,_,rfl,S,d,U,Y.length,p,W,(b:Int),_,_,_,_,_,_,rfl,⟨R.sh,R.val b j,(R.tw b j).tw⟩;exists rfl,_,rfl;have C:decide (V.int (g b:Nat)=V.int 0)=decide (g b=0):=by
   rw[wS];simp
  rw[C]
  cases c:decide (g b=0) with
  | true=>exact Z1 ⟨_,rfl,_,rfl,λdd o=>(O b (D c)).go (ZA.refl _) o⟩
  | false=>exact Zk ⟨_,rfl,rfl,G c⟩
 ·rintro n k ⟨x,rfl,rfl,m⟩;rw[show (iN bs).length=bs.length from zX _,yK (zY _)] at m;exact T m _ (ZA.refl _)
def UJ(bs:jq)(b:Nat)(a:Nat->jq):Nat->jq:=λi=>if i∈bs then a i++[b] else a i
def WW(bs:jq)(a:Nat->Nat):Nat->Nat:=λi=>if i∈bs then a i-1 else a i
def Cu{bs:jq}{b a:Nat}{c:Nat->jq}(h:b∉bs):MN (UJ bs a c) b a=UJ (bs++[b]) a c:=by
 funext i
 unfold MN UJ;by_cases z:i=b
 ·subst z;rw[aQ rfl,aP h,aQ (by simp)]
 ·rw[aP z];by_cases y:i∈bs
  ·rw[aQ y,aQ (by simp[y])]
  ·rw[aP y,aP (by simp[y,z])]
def FN{bs:jq}{b:Nat}{a:Nat->Nat}(h:b∉bs):P5 (WW bs a) b=WW (bs++[b]) a:=by
 funext i
 unfold P5 WW;by_cases z:i=b
 ·subst z;rw[aQ rfl,aP h,aQ (by simp)]
 ·rw[aP z];by_cases y:i∈bs
  ·rw[aQ y,aQ (by simp[y])]
  ·rw[aP y,aP (by simp[y,z])]
abbrev Jn:Stmt:=Xy (top 36) 21
inductive WI(jh ji:aj)(q:jf)(H:Hp)(Q:VK)(_:XK):Prop
 |mk(S d k l:aj)(p:js)(g:jq)(i:Nat->jq)(j:Nat->Nat)(a:jy)(e:List (ZV×V))(m:jf)(bs:jq)(n:Nat)(_:q=[.ref S,.int n,.ref l])(_:YJ jh ji H S d k p g i j a e m)(_:H l=some (.lst (iN bs)))(_:bs.Nodup)(_:∀ b∈bs,b∈g/\1<=j b/\(i b).length<=900)(_:∀ b:Nat,b∈g->l≠(a.getD b .d).ab)(_:∀ h:Hp,(∀ c o,(∀ b:Nat,b∈g->c≠(a.getD b .d).x/\c≠(a.getD b .d).ab)->H c=some o->h c=some o)->(∀ c,h c=none->H c=none)->YJ jh ji h S d k p g (UJ bs n i) (WW bs j) a e m->Q .non h)
abbrev Co:ju:=["self","stem","branches","branch","twig"]
def WU:ZC Co zE3 (Zc Jn):=Z9
def ZF3(F:Zp K "take_over" "Shelf.take_over" Jn f fd)(L:Yo K mg jh ji)(DT:ZH P w K mg ki Ze 1 jh "twig_of" zEa (Zu jh)):ZJ P w K mg ki Ze 2 f fd zE3 (WI jh ji):=by
 refine F.ko WU λa2 A a1 s H vs Q E hr h=>?_;obtain⟨S,d,lk,l,ts,lv,v,j,g,T,ls,bs,W,rfl,R,hl,N,Y,a0,k⟩:=h;have nd:=WU.nd;intro Xc;refine⟨_,ZX (Wo PassesOwn.never rfl (Wq (pv 2)) (Yk 3 nd)
  (ZQ (Zs 4 nd (XH (E:=E0) (pv 0) L.cS DT hr XA (ZY (pv 3))))
  (ZQ (FQ (pv 4) ZN Cm)
  (ZX (Wz (UQ yH xJ xI Uk (Wp (pv 4) rfl) (ZY (pv 1)))))))),?_⟩
 refine⟨_,rfl,l,rfl,⟨_,ZG.of hl⟩,PM (K:=K) (a:=l) (xs:=iN bs) (λi Z m=>∃ x y:jg,Z=[some (.ref S),some (.int W),some (.ref l),x,y]/\(∀ c o,(∀ b:Nat,b∈lv->c≠(g.getD b .d).x/\c≠(g.getD b .d).ab)->H c=some o->m c=some o)/\(∀ c,m c=none->H c=none)/\YJ jh ji m S d lk ts lv (UJ (bs.take i) W v) (WW (bs.take i) j) g T ls)
  ⟨_,_,rfl,λc o _ e=>e,λc e=>e,(by
   have e1:UJ [] W v=v:=funext λi=>aP (by simp)
   have e2:WW [] j=j:=funext λi=>aP (by simp)
   rw[show bs.take 0=[] from rfl,e1,e2];exact R)⟩ ?_ ?_ ?_⟩
 ·rintro i Z m _ ⟨x,y,rfl,O,_,R2⟩;refine ZG.of (O _ _ (λb Y=>⟨?_,a0 b Y⟩) hl);obtain⟨dx,I⟩:=(R.tw b Y).tw.self;exact ZD hl I
 ·rintro i u Z m C ⟨x,y,rfl,O,k3,R2⟩;unfold iN at C;rw[zN] at C;obtain⟨b,eb,rfl⟩:=yB.mp C;obtain⟨r,a3,a4⟩:=Y b (zB eb);have t:b∉bs.take i:=λz=>by
   have hs:bs=bs.take i++b::bs.drop (i+1):=by
    have hi:=(yN.mp eb);obtain⟨hi,e⟩:=hi;rw[<-e,<-vS hi,tX]
   rw[hs,uP] at N;exact N.2.2 b z b (by simp) rfl
  have M:WW (bs.take i) j b=j b:=aP t;have J:UJ (bs.take i) W v b=v b:=aP t;obtain⟨dS,hS⟩:=R2.sh.self;have Wb:=R2.tw b r;obtain⟨q,I⟩:=Wb.tw.self;have B:=Wb.tw.above;rw[M] at I;rw[J] at B;exists _,rfl,S,dS,_,rfl,hS,rfl,_,rfl,S,d,lk,ts.length,T,ls,(b:Int),.ref (g.getD b .d).x,rfl,R2.sh,R2.val b r;exists _,rfl,(g.getD b .d).x,ji,q,_,.int (j b:Nat),rfl,I,L.cT,L.nho,rfl,_,_,rfl,rfl,q,_,I,yO rfl;have eh:((j b:Nat):Int)-1=((j b-1:Nat):Int):=∅
  have D:upd m (g.getD b .d).x (.ins ji q (Y7 "holds" (.int (((j b:Nat):Int)-1)) (Ug (.ref (g.getD b .d).th) (.ref (g.getD b .d).tg) (g.getD b .d).ab (j b)))) (g.getD b .d).x=some (.ins ji q (Ug (.ref (g.getD b .d).th) (.ref (g.getD b .d).tg) (g.getD b .d).ab (j b-1))):=by rw[ZR,eh];rfl
  have X:(g.getD b .d).ab≠(g.getD b .d).x:=ZD B I;have p:upd m (g.getD b .d).x (.ins ji q (Y7 "holds" (.int (((j b:Nat):Int)-1)) (Ug (.ref (g.getD b .d).th) (.ref (g.getD b .d).tg) (g.getD b .d).ab (j b)))) (g.getD b .d).ab=some (.lst (iN (v b))):=by rw[ZO X];exact B
  have G:∀ c o,c≠(g.getD b .d).x->m c=some o->upd m (g.getD b .d).x (.ins ji q (Y7 "holds" (.int (((j b:Nat):Int)-1)) (Ug (.ref (g.getD b .d).th) (.ref (g.getD b .d).tg) (g.getD b .d).ab (j b)))) c=some o:=λc o n e=>by rw[ZO n];exact e
  have U:∀ c,upd m (g.getD b .d).x (.ins ji q (Y7 "holds" (.int (((j b:Nat):Int)-1)) (Ug (.ref (g.getD b .d).th) (.ref (g.getD b .d).tg) (g.getD b .d).ab (j b)))) c=none->m c=none:=λc e=>by
   by_cases z:c=(g.getD b .d).x
   ·rw[z,ZR] at e;cases e
   ·rw[ZO z] at e;exact e
  generalize upd m (g.getD b .d).x (.ins ji q (Y7 "holds" (.int (((j b:Nat):Int)-1)) (Ug (.ref (g.getD b .d).th) (.ref (g.getD b .d).tg) (g.getD b .d).ab (j b))))=H3 at D p G U⊢;exists _,rfl,(g.getD b .d).x,ji,q,_,.ref (g.getD b .d).ab,rfl,D,L.cT,L.nab,rfl,.inl ⟨rfl,_,ZG.of p⟩,_,rfl,(g.getD b .d).ab,_,.int W,rfl,rfl,p,YS (by rw[show (iN (v b)).length=(v b).length from zX _];lia)
  have et:bs.take (i+1)=bs.take i++[b]:=by rw[yP,eb];rfl
  exists _,_,rfl,λc o hc e=>?_,λc e=>?_
  ·obtain⟨n1,n2⟩:=hc b r;rw[ZO n2];exact G _ _ n1 (O c o hc e)
  ·by_cases z:c=(g.getD b .d).ab
   ·rw[z,ZR] at e;cases e
   ·rw[ZO z] at e;exact k3 c (U c e)
  ·rw[et,<-Cu t,<-FN t];refine R2.touch r ⟨q,?_⟩ ?_ λc o n1 n2 e=>?_
   ·rw[ZO (Ne.symm X),M];exact D
   ·rw[ZR,J];simp[iN]
   ·rw[ZO n2];exact G _ _ n1 e
 ·rintro Z m ⟨x,y,rfl,O,k3,R2⟩;rw[show (iN bs).length=bs.length from zX _,yK (zY _)] at R2;exact k m O k3 R2
def Ct{X:Cx}{k:Nat}{C:aj}{x:Str}{o:ju}{h:Sp}{e:Expr}{a:jA}{t:TA}{p c:aK}(D:Uv X.prog X.w X.K X.mg X.base k C o h)(n:ZZ (k+1) X.A)(l:Gl X x)(m:X.mg x=some (.ref C))(i:PA X (e::a) t)(d:(x==("__debug__" : Str))=false:=by decide)(j:ar (e::a) X.env=(false,aI e X.env)::ar a X.env:=by rfl)(g:(aG c (ar a X.env)).any (·.1)=false:=by rfl):
  PE X (.Call (.Name x p) (e::a) [] c) (Lo C h [] E0 t):=by
 obtain⟨f,q,M,F,b⟩:=D.ex;exact ZMU M F n l m b .nil XA i d j g
def ZOK{X:Cx}{k:Nat}{C:aj}{x:Str}{i:ju}{d:Sp}{p c:aK}(D:Uv X.prog X.w X.K X.mg X.base k C i d)(h:ZZ (k+1) X.A)(e:Gl X x)(g:X.mg x=some (.ref C))(a:(x==("__debug__" : Str))=false:=by decide):PE X (.Call (.Name x p) [] [] c) (Lo C d [] E0 V3):=by
 obtain⟨f,j,M,F,b⟩:=D.ex;exact ZKt M F h e g b .nil XA a
def WS(n:Nat)(a:Nat->jq):Nat->jq:=λi=>if i=n then [] else a i
def Xb(n:Nat)(a:Nat->Nat):Nat->Nat:=λi=>if i=n then 1 else a i
def P1{a:js}{t:ZP}{i:Nat}(h:i<a.length):gd (a++[t]) i=gd a i:=by
 unfold gd;rw[zW,xB h,<-zW]
def Po{a:js}{t:ZP}:gd (a++[t]) a.length=t:=by
 unfold gd;rw[zW,xA (zY _)];simp
def Ig{b:jy}{a:YI}{i:Nat}(h:i<b.length):(b++[a]).getD i .d=b.getD i .d:=by
 rw[zW,xB h,<-zW]
def JC{b:jy}{a:YI}:(b++[a]).getD b.length .d=a:=by
 rw[zW,xA (zY _)];simp
def GS{u l:aj}{H H':Hp}{S d M:aj}{f:js}{D:jq}{B:Nat->jq}{L:Nat->Nat}{n:jy}{q:List (ZV×V)}{Y:jf}(R:YJ u l H S d M f D B L n q Y){t:ZP}{x th tg ab:aj}(O:∀ b o,b≠S->b≠d->H b=some o->H' b=some o)(nx:H x=none)(s:H th=none)(r:H ab=none)(I:ab≠th)(R':XI u H' S d M (f.length+1) (Zv q (.inl (f.length:Int)) (.ref x)) Y)(W:Wl l H' x (.ref th) (.ref tg) ab 1 [])(X:∃ k,H' th=some (.lst k)/\(t.h=0->jX H' (Ys t.rows) k)/\(t.h≠0->k=iN t.bs))(U:YD H' (YY t) (.ref tg)):
  YJ u l H' S d M (f++[t]) (D++[f.length]) (WS f.length B) (Xb f.length L) (n++[⟨x,th,tg,ab⟩]) (Zv q (.inl (f.length:Int)) (.ref x)) Y:=by
 obtain⟨⟨dS,P⟩,Q,hl⟩:=R.sh;have m:YO H H':=λc xs e=>O c _ (ZD e P) (ZD e Q) e;have en:(f++[t]).length=f.length+1:=by simp
 have nv:YK q (Sum.inl (f.length:Int))=none:=R.none (by unfold YQ;exact aM λz=>by have:=R.lt _ z.2;lia)
 have a:∀ i,i∈D++[f.length]->i∈D\/i=f.length:=λi g=>by simpa using g
 have Z:n.length=f.length:=R.len;have A:∀ i,i∈D->(n++[(⟨x,th,tg,ab⟩:YI)]).getD i .d=n.getD i .d:=λi g=>Ig (by have:=R.lt i g;lia)
 have E:(n++[(⟨x,th,tg,ab⟩:YI)]).getD f.length .d=⟨x,th,tg,ab⟩:=by rw[<-Z];exact JC
 have y:∀ i,i∈D->∃ C k o,H (n.getD i .d).x=some (.ins l C k)/\H (n.getD i .d).th=some (.lst o)/\H (n.getD i .d).ab=some (.lst (iN (B i))):=λi g=>by
  obtain⟨C,v⟩:=(R.tw i g).tw.self;obtain⟨k,p,_⟩:=(R.tw i g).things;exact⟨C,_,k,v,p,(R.tw i g).tw.above⟩
 have nS:x≠S:=(Zb P nx).symm;have F:ab≠M:=(Zb hl r).symm;have N:th≠M:=(Zb hl s).symm;refine⟨by rw[en];exact R',?_,λi g=>?_,λi g=>?_,by simp[Z],λi g=>?_,λi g=>?_,λi j g hj K=>?_⟩
 ·rw[Ke _ nv,yR,R.keys,yR];rfl
 ·rw[Qg];rcases a i g with c | rfl
  ·have T:=R.lt i c;rw[aP (λz=>by have:=Sum.inl.inj z;lia),A i c]
   exact R.val i c
  ·rw[aQ rfl,E]
 ·rw[en];rcases a i g with c | rfl
  ·exact vX (R.lt i c)
  ·exact xV _
 ·rcases a i g with c | rfl
  ·have Wi:=R.tw i c;obtain⟨C,k,o,v,p,w⟩:=y i c;have T:=R.lt i c;have ni:i≠f.length:=∅
   have G:=Wi.frame m (λo' e=>O _ _ (R.own i c).1 (ZD v Q) e) (λo' e=>O _ _ (ZD p P) (ZD p Q) e) (λo' e=>O _ _ (ZD w P) (ZD w Q) e);rw[A i c];exists ?_,?_
   ·rw[show WS f.length B i=B i from aP ni,show Xb f.length L i=L i from aP ni];exact G.tw
   ·rw[P1 T];exact G.things
   ·rw[P1 T];exact G.tag
  ·rw[E];exists ?_,?_
   ·rw[show WS f.length B f.length=[] from aQ rfl,show Xb f.length L f.length=1 from aQ rfl];exact W
   ·rw[Po];exact X
   ·rw[Po];exact U
 ·rcases a i g with c | rfl
  ·rw[A i c];exact R.own i c
  ·rw[E];exact⟨nS,F,N,I⟩
 ·rcases a i g with c | rfl
  ·rw[A i c];rcases a j hj with J | rfl
   ·rw[A j J];exact R.two i j c J K
   ·rw[E];obtain⟨C,k,o,v,p,w⟩:=y i c;exact⟨Zb v nx,Zb w r,Zb w s,Zb p s⟩
  ·rw[E];rcases a j hj with J | rfl
   ·rw[A j J];obtain⟨C,k,o,v,p,w⟩:=y j J;exact⟨(Zb v nx).symm,(Zb w r).symm,(Zb p r).symm,(Zb p s).symm⟩
   ·exact absurd rfl K
inductive Xm(jh ji:aj)(k:jf)(H:Hp)(Q:VK)(_:XK):Prop
 |mk(S d g:aj)(n:Nat)(a:List (ZV×V))(h:jf)(j i:V)(_:k=[.ref S,j,i])(_:XI jh H S d g n a h)(_:a.length<=900)(_:∀(c:Hp)(x e:aj),H x=none->H e=none->(∀ b o,b≠S->b≠d->H b=some o->c b=some o)->XI jh c S d g (n+1) (Zv a (.inl (n:Int)) (.ref x)) h->Wl ji c x j i e 1 []->Q (.int (n:Int)) c)
def Wx:ZC ["self","things","label","number"] zEz (Zc Jp):=Z9
def Cf(F:Zp K "put_twig" "Shelf.put_twig" Jp f fd)(L:Yo K mg jh ji)(DM:Uv P w K mg ki 1 ji zEw (QR ji)):ZJ P w K mg ki Ze 3 f fd zEz (Xm jh ji):=by
 refine F.ko Wx λa1 A Y s H vs Q E hr h=>?_;obtain⟨S,d,c,n,T,ls,th,tg,rfl,R,a0,k⟩:=h;have nd:=Wx.nd;have hu:=VJ hr;intro Xc;refine⟨_,ZQ (Zs 3 nd (Wp (pv 0) rfl)) (ZQ (Qa (pv 0) (Z0 WZ (pv 3) ZN) rfl)
  (ZQ (Qu hu (Wp (pv 0) rfl) (pv 3) (Ct DM hr rfl L.twig (Zf (pv 1) (pv 2))) rfl) (ZX (Zn (pv 3))))),?_⟩
 obtain⟨⟨a,y⟩,J,M⟩:=R;have Z:S≠d:=ZD y J;have Sl:S≠c:=ZD y M;have dl:d≠c:=ZD J M;exists _,rfl,S,jh,a,_,.int n,rfl,y,L.cS,L.nf,rfl;exists _,rfl,_,_,rfl,rfl,_,rfl,S,jh,a,_,rfl,y,L.cS,L.nf,yO rfl;have l:upd H S (.ins jh a (Y7 "following" (.int ((n:Int)+1)) (Q8 d c n))) S=some (.ins jh a (Q8 d c (n+1))):=ZR;have q:upd H S (.ins jh a (Y7 "following" (.int ((n:Int)+1)) (Q8 d c n))) d=some (.dK T):=by rw[ZO (Ne.symm Z)];exact J
 have r:upd H S (.ins jh a (Y7 "following" (.int ((n:Int)+1)) (Q8 d c n))) c=some (.lst ls):=by rw[ZO (Ne.symm Sl)];exact M
 have u:∀ b o,b≠S->H b=some o->upd H S (.ins jh a (Y7 "following" (.int ((n:Int)+1)) (Q8 d c n))) b=some o:=λb o n e=>by rw[ZO n];exact e
 have j:∀ b,upd H S (.ins jh a (Y7 "following" (.int ((n:Int)+1)) (Q8 d c n))) b=none->H b=none:=λb e=>by
  by_cases z:b=S
  ·rw[z,ZR] at e;cases e
  ·rw[ZO z] at e;exact e
 generalize upd H S (.ins jh a (Y7 "following" (.int ((n:Int)+1)) (Q8 d c n)))=B at l q r u j⊢;exists _,rfl,_,rfl;intro x G nx V ne;have g1:=Zg V (.own x);have X:upd B G (.own x) x=none:=by rw[ZO (Ne.symm ne)];exact nx
 have g2:=Zg X (.ins ji G []);have g:=g1.trans g2;refine⟨x,G,th,tg,rfl,ZR,λH2 C O U W=>⟨rfl,?_⟩⟩;have v:∀ b o,B b=some o->H2 b=some o:=λb o e=>O b o (Zb e nx) (g b o e);have m:=v _ _ l;have i:=v _ _ q;have N:=v _ _ r;have p:B C=none:=g.free U;obtain⟨I,t⟩:=W.self;have xd:x≠d:=ZD t i;have D:C≠d:=ZD W.above i;exists _,rfl,S,jh,a,_,.ref d,rfl,m,L.cS,L.nk,rfl,_,rfl,d,_,rfl,XU.k (k:=Sum.inl (n:Int)) i (YS ∅)
 refine⟨_,rfl,k _ x C (j _ nx) (j _ p) (λb o n1 n2 e=>?_) ⟨⟨a,?_⟩,ZR,?_⟩ ⟨⟨I,?_⟩,?_⟩⟩
 ·rw[ZO n2];exact v b o (u b o n1 e)
 ·rw[ZO Z];exact m
 ·rw[ZO (Ne.symm dl)];exact N
 ·rw[ZO xd];exact t
 ·rw[ZO D];exact W.above
end Tw
namespace Tw
open PySem PySem.Spec L2
variable{jh ji CS CT CH CK CP CB:aj}
def ZPu:ZC zE8 zE8 (Zc JS):=Z9
def ZO2(F:Zp K "has_few_figures" "has_few_figures" JS f fd)(T:YX mg):ZJ P w K mg ki Ze 1 f fd zE8 Vm:=by
 refine F.ok ZPu (λc H Q E h=>?_) (λb A a s H c Q E g h=>?_)
 ·obtain⟨i,rfl,_⟩:=h;rfl
 obtain⟨i,rfl,q⟩:=h;intro d;exists _,ZX (Zn (V1 NU (Zq Kg rfl T.abs Lu (Zi (pv 0) Zt)) (Z0 Fk ZN ZN) (YE _)));exists _,rfl,_,rfl,_,_,rfl,rfl,⟨by decide,by decide,by decide⟩,_,_,rfl,rfl
 have e:=ZOT i;rw[<-e] at q;exact q
def Bb:ZC ["sign"] ["sign"] (Zc K7):=Z9
def Du(F:Zp K "is_sign" "is_sign" K7 f fd):ZJ P w K mg ki Ze 1 f fd ["sign"] WM:=by
 refine F.ok Bb (λk H Q E h=>?_) (λi A d s H k Q E m h=>?_)
 ·obtain⟨c,rfl,_⟩:=h;rfl
 obtain⟨c,rfl,q⟩:=h;intro l;exists _,ZX (Zn (CV ED ED Ym (pv 0) Ym));have g:(wU " ").cps.toList=[32]:=by decide +kernel
 have j:(wU "~").cps.toList=[126]:=by decide +kernel
 have e:=Av c;exists _,rfl,_,_,rfl,rfl,_,rfl;refine Wu (λb=>?_) (λb=>?_)
 ·exists _,_,rfl,rfl;have a:(!decide ([c]<[32]))=true:=by rw[<-g];exact b
  rw[a,uD] at e;rw[<-e,<-j] at q;exact q
 ·have a:(!decide ([c]<[32]))=false:=by rw[<-g];exact vA.mpr b
  rw[a,uZ] at e;rw[<-e] at q;exact q
def GQ:ZC zEs zEs (Zc MT):=Z9
def ZIk{k:Nat}:ZJ P w K mg ki Ze k f fd zEs (XE 0):=by
 have c:∀ a H Q E,¬ XE 0 a H Q E:=λa H Q E h=>by
  obtain⟨v,t,r,q,_,_,_,d,_⟩:=h
  lia
 exact⟨λa H Q E h=>absurd h (c a H Q E),λA b s H args e a Q E _ _ _ _ h=>absurd h (c a H Q E)⟩
def Hb{n:Nat}(F:Zp K "fits" "fits" MT f fd)(T:YX mg)(DW:ZB P w K mg ki 1 "has_few_figures" zE8 Vm)(DS:ZB P w K mg ki 1 "is_sign" ["sign"] WM)(DF:ZB P w K mg ki (n+1) "fits" zEs (XE n)):ZJ P w K mg ki Ze (n+2) f fd zEs (XE (n+1)):=by
 refine F.ok GQ (λp H Q E h=>?_) (λa3 A a2 s H p Q E hr h=>?_)
 ·obtain⟨v,t,r,q,rfl,_⟩:=h;rfl
 obtain⟨v,t,r,q,rfl,g,Z,hn,k⟩:=h;have W:=hr.mono (show 1<=n+1 by lia)
 obtain⟨t1,m1⟩:=T.signs;obtain⟨t2,m2⟩:=T.things;intro Xc;refine⟨_,ZQ (Zy (Yf (Zq XW rfl T.isi Yw (Zi (pv 0) (Zi (XQ (v:=.ty "bool") rfl T.bool P7 rfl) Zt)))) (ZX (Zn Vz)) Z2)
  (ZQ (Zy (Yf (Zq XW rfl T.isi Yw (Zi (pv 0) (Zi (XQ (v:=.ty "int") rfl T.int Q2 rfl) Zt)))) (ZX (Zn (Zr DW W (Zi (pv 0) Zt)))) Z2)
  (ZQ (Zy (Yf (Zq XW rfl T.isi Yw (Zi (pv 0) (Zi (XQ (v:=.ty "str") rfl T.str NJ rfl) Zt))))
   (ZX (Zn (Qx (V1 Ux (Zq Do rfl T.len Xf (Zi (pv 0) Zt)) (Wj (v:=.int 40) rfl m1 ⟨_,rfl⟩) (YE _))
    (OC (Zq (Li rfl) rfl T.all Mw (Zi (Qz [] [] rfl (ZO6 (pv 0)) (λ_ _ _ _ _=>Uh) (λ_ _ _ _ _=>Zr DS W (Zi (pv 0) Zt)) trivial) Zt)))))) Z2)
  (ZQ (Zy (Yf (Zq XW rfl T.isi Yw (Zi (pv 0) (Zi (XQ (v:=.ty "tuple") rfl T.tuple Qs rfl) Zt))))
   (ZX (Zn (Qx (V1 P2 (pv 1) ZN (YE _)) (Qx (V1 Ux (Zq WA rfl T.len Xf (Zi (pv 0) Zt)) (Wj (v:=.int 4) rfl m2 ⟨_,rfl⟩) (YE _))
    (OC (Zq (Li rfl) rfl T.all Mw (Zi (Qz [1] ["room"] rfl (M9 (pv 0)) (λ_ _ _ _ _=>Uh) (λ_ _ _ _ _=>Zr DF hr (Zi (pv 0) (Zi (Z0 QP (pv 1) ZN) Zt))) ⟨rfl,.inl rfl,rfl,trivial⟩) Zt))))))) Z2)
  (ZX (Zn Vz))))),?_⟩
 cases t with
 | int i=>
  have ev:v=.int i:=by rw[ZF] at g;exact g
  subst ev;refine⟨_,rfl,_,_,_,_,rfl,g.ty,NT,_,rfl,Zk ?_⟩;refine⟨_,rfl,_,_,_,_,rfl,g.ty,OU,_,rfl,Z1 ?_⟩;have u:=k H (ZA.refl H);rw[KT.fits] at u;exact⟨_,rfl,i,rfl,u⟩
 | str x=>
  have ev:v=.str x:=by rw[ZF] at g;exact g
  subst ev;have hx:Og x=true:=by rw[KT.fits] at Z;exact Z
  have B:=hx;unfold Og at B;rw[zR] at B;have O:x.length<=40:=of_decide_eq_true B.1;refine⟨_,rfl,_,_,_,_,rfl,g.ty,FE,_,rfl,Zk ?_⟩;refine⟨_,rfl,_,_,_,_,rfl,g.ty,JT,_,rfl,Zk ?_⟩;refine⟨_,rfl,_,_,_,_,rfl,g.ty,Nq,_,rfl,Z1 ?_⟩;exists _,rfl,x,rfl,nn ∅,_,_,rfl,rfl,_,rfl
  rw[aQ (aO (show (x.length:Int)<=40 by lia))]
  exists _,rfl,x,rfl;have a7:x.cps.size<=40:=O;refine UT (n:=x.cps.size) (λi z=>∃ c,x.cps[i]? = some c/\z=.str ⟨#[c]⟩) (λD i m d=>ZA H d/\H D=none/\m=((x.cps.toList.take i).map Qo).map V.bl) (YS ∅)
   (λD i m d J _=>J) (λD i m d z H4 J _ hy=>hy) (λD m d _=>rfl) (λD N=>⟨Zg N _,N,rfl⟩) (λD i m d z G hl J hz j R hR=>?_) (λD m d G j=>?_)
  ·obtain⟨c,hc,rfl⟩:=hz;obtain⟨C,L,rfl⟩:=j;exists _,rfl,c,rfl;refine hR _ d G ⟨λb o e=>by rw[ZO (Zb e L)];exact C b o e,L,?_⟩
   have a0:x.cps.toList[i]? = some c:=by simpa using hc
   rw[yP,a0];simp
  ·obtain⟨C,L,rfl⟩:=j;exists D,_,rfl,ZG.of G;have u:=k d C;rw[KT.fits,hx] at u;have M:(x.cps.toList.take x.cps.size)=x.cps.toList:=yK (by simp)
   rw[M];have I:(x.cps.toList.map Qo).all id=true:=by rw[xT];exact B.2
   rw[I];exact u
 | tup l=>
  have X:=g;rw[ZF] at X;obtain⟨a,p,rfl,I,Y⟩:=X;have hl:=Y.length;rw[KT.fits,zR,zR] at Z;obtain⟨a6,S,U⟩:=Z;have a5:l.length<=4:=of_decide_eq_true S;refine⟨_,rfl,_,_,_,_,rfl,g.ty,Fn,_,rfl,Zk ?_⟩;refine⟨_,rfl,_,_,_,_,rfl,g.ty,Kz,_,rfl,Zk ?_⟩;refine⟨_,rfl,_,_,_,_,rfl,g.ty,Ib,_,rfl,Zk ?_⟩;refine⟨_,rfl,_,_,_,_,rfl,g.ty,Le,_,rfl,Z1 ?_⟩;exists _,rfl,_,_,rfl,rfl,_,rfl;refine Wu (λc1=>?_) (λc1=>?_)
  ·have r0:0<r:=by
    have:=of_decide_eq_true c1
    lia
   exists _,rfl,a,p,rfl,.inr (Zh.of I),_,_,rfl,rfl,_,rfl;rw[aQ (aO (show ((p.length:Nat):Int)<=4 by lia))]
   exists _,rfl,a,rfl,⟨p,Zh.of I⟩;refine UT (n:=p.length) (λi z=>p[i]? = some z) (λD i m d=>ZA H d/\H D=none/\m=((l.take i).map λt=>t.fits (r-1)).map V.bl) (YS ∅)
    (λD i m d J j=>⟨p,p[i],Zh.of (j.1 _ _ I),by simp[J]⟩) (λD i m d z H4 J j hy=>⟨hy.1,hy.2 p (Zh.of (j.1 _ _ I))⟩) (λD m d j=>⟨p,Zh.of (j.1 _ _ I),zY _⟩)
    (λD N=>⟨Zg N _,N,rfl⟩) (λD i m d z G a4 J hz j R hR=>?_) (λD m d G j=>?_)
   ·obtain⟨C,L,rfl⟩:=j;obtain⟨t,M,kt⟩:=Y.get hz;have er:(r:Int)-1=((r-1:Nat):Int):=∅
    have a1:t.fits (q-1)=true:=by
     rw[Ma] at U;exact zO.mp U t (zB M)
    exists _,rfl,_,rfl,_,_,rfl,rfl,z,t,r-1,q-1,congrArg (λy=>[z,V.int y]) er,kt.sm C,a1,by lia
    intro H4 s4;refine hR _ H4 (s4 D _ G) ⟨λb o e=>by rw[ZO (Zb e L)];exact s4 b o (C b o e),L,?_⟩
    rw[yP,M];simp
   ·obtain⟨C,L,rfl⟩:=j;exists D,_,rfl,ZG.of G;have u:=k d C;rw[KT.fits,aO r0,uD,S,uD,Ma] at u;have M:l.take p.length=l:=yK ∅
    rw[M,xT];exact u
  ·have r0:r=0:=by
    have:¬ ((0:Int)<(r:Int)):=λz=>c1 (aO z)
    lia
   subst r0;have u:=k H (ZA.refl H);rw[KT.fits] at u;exact u
def B6:ZC zE4 zE4 (Zc KO):=Z9
def Jv(T:YX mg)(L:Zl K mg "fits" MT zEs)(b:ZB P w K mg ki 1 "has_few_figures" zE8 Vm)(a:ZB P w K mg ki 1 "is_sign" ["sign"] WM):∀ n:Nat,ZB P w K mg ki (n+1) "fits" zEs (XE n)
 | 0=>L.of λ_ _ _=>ZIk
 | n+1=>L.of λ_ _ F=>Hb F T b a (Jv T L b a n)
end Tw
namespace Tw
open PySem PySem.Spec L2 PyProof.Rows
variable{jh ji CS CT CH CK CP CB:aj}
def Gy{H:Hp}{b:jJ}{c:jf}(h:jX H (Ys b) c):EI H (b.map (·.1)) c:=by
 have j:c.length=b.length:=by have:=h.length;rw[<-this];exact zX _
 exists by rw[zX];exact j
 intro i u e;obtain⟨a,l,m,g,d,f,k,_⟩:=NF h e;exists a,l,m,d,f;rw[zW,zN,g];exact k
def ZIU:ZC zE4 zE4 (Zc Ia):=Z9
def ZIc:ZC zEv zEv (Zc Ky):=Z9
def ZPE:ZC ["keys"] ["keys"] (Zc Jm):=Z9
def KS{c:Type}{R:c->c->Prop}:∀{l:List c},l.Pairwise R->∀{i j:Nat}{a b:c},i<j->l[i]? = some a->l[j]? = some b->R a b
 | [],_,_,_,_,_,_,h,_=>by simp at h
 | x::l,hp,0,j+1,a,b,_,ha,hb=>by
  simp at ha hb;subst ha;exact(wG.mp hp).1 b (zB hb)
 | x::l,hp,i+1,j+1,a,b,hij,ha,hb=>by
  simp at ha hb;exact KS (wG.mp hp).2 ∅ ha hb
def Pk(c:jJ):Prop:=(∀ r∈c,r.fit)/\0<c.length/\c.length<=4/\(c.map (·.1)).Pairwise (λa b=>a.lt b=true)
inductive WD(g:jf)(H:Hp)(Q:VK)(_:XK):Prop
 |mk(l:aj)(e:jf)(d:jJ)(_:g=[.ref l])(_:H l=some (.lst e))(_:jX H (Ys d) e)(_:Pk d)(_:∀(b:Hp)(c:aj)(a:jf),ZA H b->H c=none->b c=some (.lst a)->jX b (Ys d) a->Q (.ref c) b)
def Vt:ZC ["rows","own"] zEv (Zc Ie):=Z9
def Y5(a:jJ):ZP:=⟨0,a,[]⟩
inductive Wy(jh ji:aj)(r:jf)(H:Hp)(Q:VK)(_:XK):Prop
 |mk(S d n l:aj)(c:js)(h:jq)(k:Nat->jq)(m:Nat->Nat)(j:jy)(e:List (ZV×V))(p q:jf)(i:jJ)(_:r=[.ref S,.ref l])(_:YJ jh ji H S d n c h k m j e p)(_:h.length<=900)(_:H l=some (.lst q))(_:jX H (Ys i) q)(_:Pk i)(_:∀(g:Hp)(a:YI),H a.x=none->H a.th=none->H a.ab=none->(∀ b o,b≠S->b≠d->H b=some o->g b=some o)->YJ jh ji g S d n (c++[Y5 i]) (h++[c.length]) (WS c.length k) (Xb c.length m) (j++[a]) (Zv e (.inl (c.length:Int)) (.ref a.x)) p->Q (.int (c.length:Nat)) g)
def Wr:ZC ["self","rows","own"] zFd (Zc KA):=Z9
def Jq{jh ji:aj}{H:Hp}{S d h:aj}{j:js}{b:jq}{e:Nat->jq}{g:Nat->Nat}{c:jy}{a:List (ZV×V)}{i:jf}(R:YJ jh ji H S d h j b e g c a i):a.length=b.length:=by
 have:=congrArg yA R.keys;simpa using this
def ZIG(F:Zp K "put_leaf" "Shelf.put_leaf" KA f fd)(L:Yo K mg jh ji)(DC:ZB P w K mg ki 9 "checked_rows" zEv WD)(DL:ZB P w K mg ki 1 "label_of_rows" zEv Y2)(DT:ZH P w K mg ki Ze 3 jh "put_twig" zEz (Xm jh ji)):
  ZJ P w K mg ki Ze 10 f fd zFd (Wy jh ji):=by
 refine F.ko Wr λa1 A a0 s H vs Q E N h=>?_;obtain⟨S,d,lk,l,ts,lv,av,ho,as,W,ls,us,a,rfl,R,y,hl,hk,G,k⟩:=h;have nd:=Wr.nd;have O:=N.mono (show 1<=9 by lia)
 have T:=N.mono (show 3<=9 by lia)
 intro Xc;refine⟨_,ZQ (Zs 2 nd (Zr DC N (ZY (pv 1))))
  (ZX (Zn (XH (E:=E0) (pv 0) L.cS DT T XA (Zf (pv 2) (Zr DL O (ZY (pv 2))))))),?_⟩
 exists _,rfl,l,us,a,rfl,hl,hk,G;intro H1 p i s1 B u m;have R1:=R.same s1;obtain⟨dx,hS⟩:=R1.sh.self;have lu:i.length=a.length:=by have:=m.length;rw[<-this];exact zX _
 have X:(a.map (·.1)).length=a.length:=zX _;exists _,rfl,S,dx,_,rfl,hS,rfl,_,rfl,_,rfl,p,i,a.map (·.1),rfl,u,Gy m,by rw[lu];exact G.2.1
 intro H2 v s2 V;have q:(YY (Y5 a)).kt=O3 (a.map (·.1)):=by
  have e0:(a.map (·.1)).getD 0 (.int 0)=(a.getD 0 rd).1:=by
   rw[zW,zW,zN];cases a[0]? <;> rfl
  have e1:(a.map (·.1)).getD (a.length-1) (.int 0)=(a.getD (a.length-1) rd).1:=by
   rw[zW,zW,zN];cases a[a.length-1]? <;> rfl
  unfold O3 YY Y5 YZ.kt;rw[X,e0,e1];rfl
 rw[<-q] at V;have U:=N1 V;obtain⟨tg,a5,a4,rfl,a3,_,_⟩:=U;have U:=N1 V;have c:=s1.trans s2;have R2:=R.same c;exists S,d,lk,ts.length,W,ls,.ref p,.ref tg,rfl,R2.sh,by rw[Jq R];exact y
 intro C x I nx n D R3 W3;obtain⟨a2,r⟩:=R2.sh.self;have j:YO H2 C:=λb ys e=>D b _ (ZD e r) (ZD e R2.sh.kept) e;have g:=s2 _ _ u;have M:C p=some (.lst i):=D _ _ (ZD g r) (ZD g R2.sh.kept) g;have J:I≠p:=(Zb g n).symm;have PP:=GS (t:=Y5 a) (x:=x) (th:=p) (tg:=tg) (ab:=I) R (H':=C) (λb o Y Z e=>D b o Y Z (c b o e)) (c.free nx) B (c.free n) J R3 W3
  ⟨i,M,λ_=>m.mono (λb xs e=>j b xs (s2 _ _ e)) _ _,λz=>absurd rfl z⟩ (U.mono j)
 exact k C ⟨x,p,tg,I⟩ (c.free nx) B (c.free n) (λb o Y Z e=>D b o Y Z (c b o e)) PP
def Xp(a:js)(bs:jq):jJ:=bs.flatMap λb=>(gd a b).rows
def Yv(a:js)(bs:jq):ZP:=⟨(gd a (bs.getD 0 0)).h+1,Xp a bs,bs⟩
def LU(c:js):jq->Prop
 | a::b::r=>(YY (gd c a)).hi.lt (YY (gd c b)).lo=true/\LU c (b::r)
 | _=>True
def FV{c:js}:∀{bs:jq},(∀ j,j+1<bs.length->((YU c bs).getD j .d).hi.lt ((YU c bs).getD (j+1) .d).lo=true)->LU c bs
 | [],_=>trivial
 | [_],_=>trivial
 | a::b::r,h=>⟨h 0 (by simp),FV (bs:=b::r) λj e=>h (j+1) (by simp at e⊢;lia)⟩
def Nw{t:ZP}(a:t.rows≠[]):∃ r b,t.rows=r::b/\(YY t).lo=r.1:=by
 cases e:t.rows with
 | nil=>exact absurd e a
 | cons r b=>exact⟨r,b,rfl,by unfold YY;rw[e];rfl⟩
def IM{t:ZP}(a:t.rows≠[]):∃ b r,t.rows=b++[r]/\(YY t).hi=r.1:=by
 rcases sH t.rows with e | ⟨b,r,e⟩
 ·exact absurd e a
 ·rw[sI] at e;exists b,r,e;unfold YY;rw[e];simp[zW]
def ZPg{gt:jr}{f:js}{i:Nat}{t:ZP}(h:Z5 gt f i t){x:KT}(a:x∈t.rows.map (·.1)){y:KT}(b:(YY t).hi.lt y=true):x.lt y=true:=by
 obtain⟨g,r,e,d⟩:=IM h.ne;have c:=h.up;rw[e,yR] at c a;rw[d] at b;rcases yM.mp a with a | a
 ·have:=(vG.mp c).2.2 x a r.1 (by simp)
  exact lt_trans' _ _ _ this b
 ·simp at a;rw[a];exact b
def ZQA{l:jr}(f:l.Pairwise λa b=>a.lt b=true){z:KT}(e:l.head? = some z){x:KT}(d:x.lt z=true):∀ y∈l,x.lt y=true:=by
 cases l with
 | nil=>cases e
 | cons a l=>
  simp at e;subst e;intro y c;rcases zG.mp c with rfl | c
  ·exact d
  ·exact lt_trans' _ _ _ d ((wG.mp f).1 y c)
def Fr{gt:jr}{d:js}:∀{bs:jq},(∀ b∈bs,Z5 gt d b (gd d b))->LU d bs->((Xp d bs).map (·.1)).Pairwise (λa b=>a.lt b=true)/\bs.Nodup
 | [],_,_=>⟨List.Pairwise.nil,List.nodup_nil⟩
 | [a],g,_=>by
  refine⟨?_,by simp⟩
  have:=(g a (by simp)).up
  simpa [Xp] using this
 | a::b::r,g,hn=>by
  obtain⟨k,n⟩:=Fr (bs:=b::r) (λc o=>g c (zH _ o)) hn.2;have h:=g a (by simp)
  have v:=g b (by simp)
  obtain⟨z,A,l,m⟩:=Nw v.ne;have p:((Xp d (b::r)).map (·.1)).head? = some (YY (gd d b)).lo:=by
   rw[m];unfold Xp;rw[wY,l];rfl
  have f:∀ x∈(gd d a).rows.map (·.1),∀ y∈(Xp d (b::r)).map (·.1),x.lt y=true:=λx s=>ZQA k p (ZPg h s hn.1);refine⟨?_,xD.mpr ⟨λq=>?_,n⟩⟩
  ·have e:Xp d (a::b::r)=(gd d a).rows++Xp d (b::r):=by simp[Xp]
   rw[e,yR];exact vG.mpr ⟨h.up,k,f⟩
  ·obtain⟨i,w,j,_⟩:=Nw h.ne;have t:i.1∈(gd d a).rows.map (·.1):=by rw[j];simp
   have u:i.1∈(Xp d (b::r)).map (·.1):=zE.mpr ⟨i,uS.mpr ⟨a,q,by rw[j];simp⟩,rfl⟩
   have:=f _ t _ u;rw[M4] at this;cases this
def ND{b:js}{bs:jq}{i:Nat}(a:i<bs.length):(YU b bs).getD i .d=YY (gd b (bs.getD i 0)):=by
 unfold YU;rw[zW,zN,zV a,zW,zV a];rfl
def GT{gt:jr}{c:js}{bs:jq}(u:∀ b∈bs,Z5 gt c b (gd c b)){L:YZ}(h:over (YU c bs)=some L):
  L=YY (Yv c bs)/\bs.Nodup/\2<=bs.length/\bs.length<=4/\(∀ b∈bs,(gd c b).h+1=(Yv c bs).h)/\((Xp c bs).map (·.1)).Pairwise (λa b=>a.lt b=true)/\Xp c bs≠[]:=by
 unfold over at h;split at h
 case isFalse=>cases h
 case isTrue hc=>
  obtain⟨k,D,P⟩:=hc;have C:(YU c bs).length=bs.length:=zX _;rw[C] at k D;have n:=WP.mpr P;unfold Je at n;rw[C] at n;have x:LU c bs:=FV λj O=>(n j O).2;obtain⟨B,y⟩:=Fr u x;have N:∀ i,i<bs.length->((YU c bs).getD i .d).h=((YU c bs).getD 0 .d).h:=λi g=>by
   cases i with
   | zero=>rfl
   | succ i=>exact(n i g).1
  have f:∀ i,i<bs.length->bs.getD i 0∈bs:=λi g=>by rw[zW,zV g];exact xU _
  have E:=u _ (f 0 ∅)
  have R:=u _ (f (bs.length-1) ∅)
  have w:∀ b∈bs,(gd c b).h+1=(Yv c bs).h:=λb v=>by
   obtain⟨i,g,e⟩:=uJ v;have:=N i g;rw[ND g,ND ∅] at this
   have p:bs.getD i 0=b:=by rw[zW,zV g,e];rfl
   rw[p] at this;have:=Int.ofNat.inj this;show (gd c b).h+1=(gd c (bs.getD 0 0)).h+1
   lia
  have A:Xp c bs≠[]:=λz=>by
   obtain⟨r,o,e,_⟩:=Nw E.ne;have:r∈Xp c bs:=uS.mpr ⟨_,f 0 ∅,by rw[e];simp⟩
   rw[z] at this;simp at this
  refine⟨?_,y,k,D,w,B,A⟩;rw[<-zJ.inj h];have t:((YU c bs).getD 0 .d).lo=(YY (Yv c bs)).lo:=by
   rw[ND ∅]
   obtain⟨r,o,e,s⟩:=Nw E.ne;rw[s]
   cases bs with
   | nil=>simp at k
   | cons b bs=>
    unfold YY Yv Xp;have G:(gd c b).rows=r::o:=e;simp only[wY,G];rfl
  have q:((YU c bs).getD ((YU c bs).length-1) .d).hi=(YY (Yv c bs)).hi:=by
   rw[C,ND ∅]
   obtain⟨o,r,e,s⟩:=IM R.ne;rw[s];rcases sH bs with z | ⟨F,b,z⟩
   ·rw[z] at k;simp at k
   ·rw[sI] at z;have I:bs.getD (bs.length-1) 0=b:=by rw[z];simp[zW]
    rw[I] at e;have M:Xp c bs=Xp c F++o++[r]:=by rw[z];simp[Xp,e]
    unfold YY Yv;simp only[M];simp[zW]
  have K:((YU c bs).map YZ.m).sum=(YY (Yv c bs)).m:=by
   have:∀ l:jq,((YU c l).map YZ.m).sum=((Xp c l).length:Int):=λl=>by
    induction l with
    | nil=>rfl
    | cons b l Q=>
     have H:YU c (b::l)=YY (gd c b)::YU c l:=rfl;have p:Xp c (b::l)=(gd c b).rows++Xp c l:=by simp[Xp]
     rw[H,p,yI,tP,Q,yS];show ((gd c b).rows.length:Int)+_=_
     lia
   exact this bs
  have J:((YU c bs).getD 0 .d).h+1=(YY (Yv c bs)).h:=by
   rw[ND ∅]
   show ((gd c (bs.getD 0 0)).h:Int)+1=(((gd c (bs.getD 0 0)).h+1:Nat):Int)
   lia
  rw[t,q,K,J]
def IB{gt:jr}{c:js}(f:WF gt c){bs:jq}(e:∀ b∈bs,b<c.length){L:YZ}(h:over (YU c bs)=some L):
  L=YY (Yv c bs)/\bs.Nodup/\2<=bs.length/\bs.length<=4/\(∀ b∈bs,(gd c b).h+1=(Yv c bs).h)/\((Xp c bs).map (·.1)).Pairwise (λa b=>a.lt b=true)/\Xp c bs≠[]:=GT (λb d=>f b _ (Vg (e b d))) h
def Z5.ext{gt:jr}{a:js}{t:ZP}{i:Nat}{u:ZP}(h:Z5 gt a i u):Z5 gt (a++[t]) i u:=by
 exists h.ne,h.up,h.inn,h.leaf;intro z;obtain⟨g,j,f,k⟩:=h.stem z;have e:∀ b∈u.bs,gd (a++[t]) b=gd a b:=λb d=>P1 (f b d).1;exists g,j,λb d=>⟨by rw[yS,xH];have:=(f b d).1;lia,by rw[e b d];exact(f b d).2⟩
 rw[k];clear g j f k;have:∀ l:jq,(∀ b∈l,gd (a++[t]) b=gd a b)->(l.flatMap λb=>(gd a b).rows)=l.flatMap λb=>(gd (a++[t]) b).rows:=λl m=>by
  induction l with
  | nil=>rfl
  | cons b l o=>rw[wY,wY,m b (by simp),o λc n=>m c (zH _ n)]
 exact this _ e
def WF.push{gt:jr}{a:js}{t:ZP}(d:WF gt a)(h:Z5 gt a a.length t):WF gt (a++[t]):=λi u e=>by
 rcases yU i a.length with b | b
 ·rw[xB b] at e;exact(d i u e).ext
 ·rw[xA b] at e;have c:i-a.length=0:=by
   rcases Nat.eq_zero_or_pos (i-a.length) with z | z
   ·exact z
   ·rw[vE (by simp;lia)] at e;cases e
  rw[c] at e;simp at e;subst e;have:i=a.length:=∅
  rw[this];exact h.ext
def ZK9{gt:jr}{c:js}(i:WF gt c){bs:jq}(d:∀ b∈bs,b<c.length){L:YZ}(h:over (YU c bs)=some L):Z5 gt c c.length (Yv c bs):=by
 obtain⟨_,_,j,k,l,g,e⟩:=IB i d h;refine⟨e,g,λr m=>?_,λz=>absurd z (by show (gd c (bs.getD 0 0)).h+1≠0;lia),λ_=>⟨j,k,λb a=>⟨d b a,l b a⟩,rfl⟩⟩
 obtain⟨b,a,f⟩:=uS.mp m;exact(i b _ (Vg (d b a))).inn r f
abbrev JB:Stmt:=Xy (top 36) 2
structure Wa(P:am)(w:aw)(K:zZ)(mg:jc)(ki:aD)(k:Nat)(x:Str)(ps:ju)(sp:Sp):Prop where
 ex:∃ f fd,ZJ P w K mg ki (YC P w) k f fd ps sp/\Z8 K fd ps []/\yW K (.ref f)=true/\mg x=some (.ref f)
inductive YM(gt:jr)(jh ji CS CT CH:aj)(r:jf)(H:Hp)(Q:VK)(E:XK):Prop
 |mk(S d p l:aj)(e:js)(g:jq)(n:Nat->jq)(k:Nat->Nat)(j:jy)(i:List (ZV×V))(q:jf)(m:jC)(_:r=[.ref S,.ref l])(_:YJ jh ji H S d p e g n k j i q)(_:WF gt e)(_:g.length<=800)(_:∀ b,b∈g->(n b).length<=800)(_:H l=some (.lst (m.map V.int)))(_:m.length<=100)(_:∀ x,m.find? (λx=>!YQ g x)=some x->Ul CT x E H)(_:∀ bs:jq,m=bs.map (λb:Nat=>(b:Int))->(∀ b∈bs,b∈g)->(over (YU e bs)=none->∀ h,ZA H h->E (.ref CS) none h)/\(over (YU e bs)≠none->∀ b,bs.find? (λb=>decide (k b=0))=some b->Ul CH (b:Nat) E H)/\(over (YU e bs)≠none->bs.find? (λb=>decide (k b=0))=none->∀(h:Hp)(a:YI),H a.x=none->H a.th=none->H a.ab=none->(∀ c o,c≠S->c≠d->(∀ b:Nat,b∈g->c≠(j.getD b .d).x/\c≠(j.getD b .d).ab)->H c=some o->h c=some o)->YJ jh ji h S d p (e++[Yv e bs]) (g++[e.length]) (UJ bs e.length (WS e.length n)) (WW bs (Xb e.length k)) (j++[a]) (Zv i (.inl (e.length:Int)) (.ref a.x)) q->Q (.int (e.length:Nat)) h))
abbrev CF:ju:=["self","numbers","branches","label","number"]
def Ww:ZC CF zEj (Zc JB):=Z9
def GE{gt:jr}{c:js}{bs:jq}(e:∀ b∈bs,Z5 gt c b (gd c b))(i:Nat):((YU c bs).getD i .d).fit:=by
 rcases yU i bs.length with a | a
 ·rw[ND a];refine IH (e _ ?_);rw[zW,zV a];exact xU _
 ·rw[zW,vE (by unfold YU;rw[zX];exact a)]
  exact Ao
def NG{X:Cx}{E:XK}{k:Nat}{x:Str}{r:ju}{i:Sp}{e:Expr}{a:jA}{t:TA}{p c:aK}(D:Wa X.prog X.w X.K X.mg X.base k x r i)(n:ZZ k X.A)(o:Vd (YC X.prog X.w) X E)(j:PA X (e::a) t)(l:Gl X x:=by rfl)(d:(x==("__debug__" : Str))=false:=by decide)(h:ar (e::a) X.env=(false,aI e X.env)::ar a X.env:=by rfl)(g:(aG c (ar a X.env)).any (·.1)=false:=by rfl):PE X (.Call (.Name x p) (e::a) [] c) (Jo i [] E t):=by
 obtain⟨f,fd,F,b,q,m⟩:=D.ex;exact Fy F n l m q b .nil o j d h g
def Bu{gt:jr}(F:Zp K "put_stem" "Shelf.put_stem" JB f fd)(T:YX mg)(L:Yo K mg jh ji)(DL:ZH P w K mg ki (YC P w) 5 jh "labels_of" zEj (WC jh ji CT))(DO:Wa P w K mg ki 9 "label_over" ["labels"] (VL CS))(DC:ZH P w K mg ki (YC P w) 3 jh "check_held" zEj (Xr jh ji CH))(DT:ZH P w K mg ki Ze 3 jh "put_twig" zEz (Xm jh ji))(DK:ZH P w K mg ki Ze 2 jh "take_over" zE3 (WI jh ji)):
  ZJ P w K mg ki (YC P w) 10 f fd zEj (YM gt jh ji CS CT CH):=by
 refine F.kD Ww λc8 A c5 s H vs Q E hr h=>?_;obtain⟨S,d,lk,l,i,lv,av,W,u,q,ls,Z,rfl,R,hw,c7,C,hl,I,k1,k2⟩:=h;have nd:=Ww.nd;have c3:=hr.mono (show 5<=9 by lia)
 have Y:=hr.mono (show 3<=9 by lia)
 have c2:=hr.mono (show 2<=9 by lia)
 intro Xc;refine⟨_,ZQ (Zs 2 nd (Vb Pq rfl T.list Qr (ZY (pv 1))))
  (ZQ (Zs 3 nd (NG (E:=E) DO hr (Qv VA λ_ _ _ h=>h) (ZY (XH (E:=E) (pv 0) L.cS DL c3 (Qv VA λ_ _ _ h=>h) (ZY (pv 2))))))
  (ZQ (Wz (XH (E:=E) (pv 0) L.cS DC Y (Qv VA λ_ _ _ h=>h) (ZY (pv 2))))
  (ZQ (Zs 4 nd (XH (E:=E0) (pv 0) L.cS DT Y XA (Zf (pv 2) (pv 3))))
  (ZQ (Wz (XH (E:=E0) (pv 0) L.cS DK c2 XA (Zf (pv 4) (pv 2))))
  (ZX (Zn (pv 4))))))),?_⟩
 exists _,rfl,l,Z.map V.int,rfl,.inl (ZG.of hl);intro D nD;obtain⟨H1,eU,g1,J⟩:=Xa nD (.lst (Z.map V.int));rw[eU];have R1:=R.same g1;obtain⟨a2,a8⟩:=R1.sh.self;exists _,rfl,S,a2,_,rfl,a8,rfl,_,rfl,S,d,lk,D,i,lv,av,W,u,q,ls,Z,rfl,R1,J,I,λx hx=>(k1 x hx).mono g1;intro bs eb y D2 us H2 s2 e7 a7 U;obtain⟨q1,q2,q3⟩:=k2 bs eb y;have p:∀ b∈bs,b<i.length:=λb h=>R.lt b (y b h);have e5:Z.length=bs.length:=by rw[eb,zX]
 have e6:us.length=bs.length:=by rw[U.1];exact zX _
 have a0:=g1.trans s2;refine⟨D2,us,YU i bs,rfl,a7,U,GE (λb a=>hw b _ (Vg (p b a))),∅,λH3 s3=>⟨λm=>q1 m H3 (a0.trans s3),λLb v m kv=>?_⟩⟩
 have X:over (YU i bs)≠none:=by rw[m];exact λz=>nomatch z
 obtain⟨eL,c1,c9,e0,e1,e4,e2⟩:=IB hw p m;subst eL;have r:=a0.trans s3;have R3:=R.same r;obtain⟨a3,a9⟩:=R3.sh.self;have eI:Z.map V.int=iN bs:=by rw[eb,zF];rfl
 have M:H3 D=some (.lst (iN bs)):=by rw[<-eI];exact s3 _ _ (s2 _ _ J)
 exists _,rfl,S,a3,_,rfl,a9,rfl,_,rfl,S,d,lk,D,i,lv,av,W,u,q,ls,bs,rfl,R3,M,y,λb hf=>(q2 X b hf).mono r;intro hf H4 s4;have g:=r.trans s4;have R4:=R.same g;obtain⟨a4,n⟩:=R4.sh.self;have kl:=N1 kv;obtain⟨B,i0,e9,rfl,e3,_,_⟩:=kl;have c4:=(N1 kv).mono (ZA.tups s4);have j:=s4 _ _ M;exists _,rfl,S,a4,_,rfl,n,rfl,_,rfl,_,rfl,S,d,lk,i.length,q,ls,.ref D,.ref B,rfl,R4.sh,by rw[Jq R];lia
 intro H5 x G nx k fr R5 W5;have a1:YO H4 H5:=λb ys e=>fr b _ (ZD e n) (ZD e R4.sh.kept) e;have N:H5 D=some (.lst (iN bs)):=fr _ _ (ZD j n) (ZD j R4.sh.kept) j;have PP:=GS (t:=Yv i bs) (x:=x) (th:=D) (tg:=B) (ab:=G) R (H':=H5) (λb o n1 n2 e=>fr b o n1 n2 (g b o e)) (g.free nx) nD (g.free k) (Zb j k).symm R5 W5
  ⟨iN bs,N,λz=>absurd z (by show (gd i (bs.getD 0 0)).h+1≠0;lia),λ_=>rfl⟩ (c4.mono a1)
 obtain⟨a5,c0⟩:=R5.self;have el:u.length=i.length:=R.len;have aL:∀ b,b∈lv->(u++[(⟨x,D,B,G⟩:YI)]).getD b .d=u.getD b .d:=λb y=>Ig (by have:=R.lt b y;lia)
 have aN:(u++[(⟨x,D,B,G⟩:YI)]).getD i.length .d=⟨x,D,B,G⟩:=by rw[<-el];exact JC
 have en:(i++[Yv i bs]).length=i.length+1:=by simp
 refine⟨_,rfl,S,a5,_,rfl,c0,rfl,_,rfl,_,rfl,S,d,lk,D,_,_,_,_,_,_,ls,bs,i.length,rfl,PP,N,c1,λb a=>?_,λb a=>?_,λH6 a6 e8 R6=>⟨_,rfl,?_⟩⟩
 ·have O:=y b a;have c6:=p b a;have nb:b≠i.length:=∅
  have h0:W b≠0:=by
   have:=uM.mp hf b a;simpa using this
  exists wO _ O,?_
  ·rw[show Xb i.length W b=W b from aP nb];lia
  ·rw[show WS i.length av b=av b from aP nb];have:=C b O;lia
 ·rcases yM.mp a with c | c
  ·rw[aL b c];exact(Zb (R.tw b c).tw.above nD).symm
  ·rw[yZ.mp c,aN];exact Zb j k
 ·refine q3 X hf H6 ⟨x,D,B,G⟩ (g.free nx) nD (g.free k) (λc o n1 n2 n3 e=>?_) R6;refine a6 c o (λb a=>?_) (fr c o n1 n2 (g c o e));rcases yM.mp a with z | z
  ·rw[aL b z];exact n3 b z
  ·rw[yZ.mp z,aN];exact⟨Zb e (g.free nx),Zb e (g.free k)⟩
abbrev KU:Stmt:=Xy (top 36) 15
def Mr{g h:aj}{H l:Hp}{S d n:aj}{w:js}{v:jq}{r:Nat->jq}{u:Nat->Nat}{q:jy}{j:List (ZV×V)}{A k:jf}(R:YJ g h H S d n w v r u q j A)(f:∀ b o,b≠n->H b=some o->l b=some o)(y:l n=some (.lst k)):YJ g h l S d n w v r u q j k:=by
 obtain⟨⟨x,s⟩,t,a⟩:=R.sh;have m:YO H l:=λc C e=>f c _ (ZD e a) e;refine⟨⟨⟨x,f _ _ (ZD s a) s⟩,f _ _ (ZD t a) t,y⟩,R.keys,R.val,R.lt,R.len,λi p=>?_,R.own,R.two⟩;have W:=R.tw i p;obtain⟨B,z⟩:=W.tw.self;exact W.frame m (λo e=>f _ _ (ZD z a) e) (λo e=>f _ _ (R.own i p).2.2.1 e) (λo e=>f _ _ (R.own i p).2.1 e)
structure Va(gt:jr)(jh ji:aj)(H:Hp)(S d lk:aj)(ts:js)(lv:jq)(av:Nat->jq)(ho:Nat->Nat)(as:jy)(kvs:List (ZV×V))(ls:jf):Prop where
 sh:YJ jh ji H S d lk ts lv av ho as kvs ls
 wf:WF gt ts
 vl:Lv ts lv
 av:∀ i,i∈lv->av i=YT ts lv i
 live:∀ i,i∈lv->1<=(YT ts lv i).length+ho i
 l800:ts.length<=800
inductive VP(gt:jr)(jh ji CD:aj)(o:jf)(H:Hp)(Q:VK)(E:XK):Prop
 |mk(S d m:aj)(g:js)(a:jq)(k:Nat->jq)(c:Nat->Nat)(h:jy)(e:List (ZV×V))(n:jf)(i:Nat)(_:o=[.ref S,.int (i:Nat)])(_:Va gt jh ji H S d m g a k c h e n)(_:i∈a)(_:∀(r:aj)(l:jq) b,ZA H b->H r=none->b r=some (.lst (iN l))->Zw g a c i l->Q (.ref r) b)(_:∀ j,Sh g a c i (some j)->Ul CD (j:Nat) E H)
abbrev ZQD:ju:=["self","number","road","above"]
def QJ:ZC ZQD zEa (Zc Lx):=Z9
def Lz(l:jq)(b:Nat):Xv (iN (l++[b])) (-1)=some (.int (b:Nat)):=by
 have:iN (l++[b])=iN l++[.int (b:Nat)]:=by simp[iN]
 rw[this];exact IY _ _
def ZNR{gt:jr}(F:Zp K "road_up" "Shelf.road_up" Lx f fd)(L:Yo K mg jh ji)(N:XN P w K mg ki "Shared" CD)(DT:ZH P w K mg ki Ze 1 jh "twig_of" zEa (Zu jh))(DH:ZH P w K mg ki Ze 2 jh "holders" zEa (VN jh ji λ_ k us=>.int ((us.length:Nat)+(k:Nat):Int))):ZJ P w K mg ki (YC P w) 3 f fd zEa (VP gt jh ji CD):=by
 refine F.kD QJ λa1 A a0 s H vs Q E M h=>?_;obtain⟨S,d,lk,a,n,av,k,v,C,ls,i,rfl,U,hi,k1,k2⟩:=h;have nd:=QJ.nd;have Y:=M.mono (show 1<=2 by lia)
 intro Xc;refine⟨_,ZQ (Zs 2 nd (XF (ZY (pv 1)))) (ZX (Nz MD (Yf Vz)
  (ZQ (Zy (Yh P2 (XH (E:=E0) (pv 0) L.cS DH M XA (ZY (Zm K (pv 2) (P6 Pt ZN)))) ZN (YE _)) (ZX (JH VA N M (ZY (Zm K (pv 2) (P6 Pt ZN))) rfl)) Z2)
  (ZQ (Zs 3 nd (Wp (XH (E:=E0) (pv 0) L.cS DT Y XA (ZY (Zm K (pv 2) (P6 Pt ZN)))) rfl))
  (ZQ (Zy (Yh (Nv M.units0) (pv 3) (XF Zt) (YE _)) (ZX (Zn (pv 2))) Z2)
  (ZX (Wz (UQ yH xJ xI Uk (pv 2) (ZY (Zm K (pv 3) ZN)))))))))),?_⟩
 exists _,rfl,Z7;intro r nr;refine⟨λm σ H'=>∃(b:Nat)(D:jq)(k3:jg),m=VW a (gd a b).h/\σ=[some (.ref S),some (.int (i:Nat)),some (.ref r),k3]/\ZA H H'/\H' r=some (.lst (iN (D++[b])))/\D.length+VW a (gd a b).h<=a.length/\b∈n/\(∀ o,Sh a n k b o->Sh a n k i o)/\∀ l,Zw a n k b l->Zw a n k i (D++l),
  ⟨_,i,[],none,rfl,rfl,Zg nr _,ZR,by have:=HH a (gd a i).h;simp;lia,hi,λ_ z=>z,λ_ z=>z⟩,?_⟩
 rintro m σ H1 ⟨b,D,k3,rfl,rfl,s1,I,rl,y,up,G⟩;refine⟨_,rfl,Z1 ⟨_,λ_ _ z=>z,?_⟩⟩;have t:=U.sh.same s1;obtain⟨dx,hS⟩:=t.sh.self;have W:=t.tw b y;obtain⟨dt,hx⟩:=W.tw.self;have O:=U.av b y;have lI:(iN (av b)).length=(YT a n b).length:=by rw[O];exact zX _
 refine⟨_,rfl,S,dx,_,rfl,hS,rfl,_,rfl,1,rfl,.inl ⟨r,_,_,.int (b:Nat),rfl,rfl,ZG.of I,Lz _ _,S,d,lk,a.length,C,ls,(b:Int),_,_,_,_,_,_,rfl,⟨t.sh,t.val b y,W.tw⟩,?_⟩⟩;exists _,_,rfl,rfl,_,rfl;refine Wu (λc=>?_) (λc=>?_)
 ·have B:(YT a n b).length+k b≠1:=λz=>by
   have:=of_decide_eq_true c;rw[lI] at this
   lia
  refine⟨_,rfl,1,rfl,.inl ⟨r,_,_,.int (b:Nat),rfl,rfl,ZG.of I,Lz _ _,_,rfl,λdd R=>(k2 b (up _ (.here B))).go s1 R⟩⟩
 ·have B:(YT a n b).length+k b=1:=by
   have:¬ ((1:Int)<((iN (av b)).length:Nat)+(k b:Nat)):=λz=>c (aO z);rw[lI] at this;have:=U.live b y
   lia
  refine⟨_,rfl,S,dx,_,rfl,hS,rfl,_,rfl,1,rfl,.inl ⟨r,_,_,.int (b:Nat),rfl,rfl,ZG.of I,Lz _ _,S,d,lk,a.length,C,ls,(b:Int),.ref (v.getD b .d).x,rfl,t.sh,t.val b y,(v.getD b .d).x,ji,dt,_,.ref (v.getD b .d).ab,rfl,hx,L.cT,L.nab,rfl,?_⟩⟩;exists _,rfl,Z7;intro e0 T;have J:=Zg T (.lst []);have e:=J _ _ W.tw.above;have g:=J _ _ I;have p:=s1.trans J;exists (v.getD b .d).ab,e0,_,rfl,rfl,ZG.of e,ZG.of ZR,_,rfl;generalize upd H1 e0 (.lst [])=H3 at J e g p⊢
  cases u:YT a n b with
  | nil=>
   rw[O,u,show (iN ([]:jq)).isEmpty=true from rfl];exact Z1 ⟨_,rfl,k1 r _ H3 p nr g (G _ (.top B u))⟩
  | cons j q=>
   rw[O,u] at e⊢;rw[show (iN (j::q)).isEmpty=false from rfl];have Z:=OV U.wf U.vl (i:=b) (j:=j) (by rw[u];exact zM)
   have jt:=U.vl.lt j Z.2;have l8:=U.l800;have jm:=Mi jt Z.1;refine Zk ⟨_,rfl,.inl ⟨rfl,_,ZG.of g⟩,_,rfl,.inl ⟨(v.getD b .d).ab,_,0,.int (j:Nat),rfl,rfl,ZG.of e,Xg (j:=0) rfl,r,_,.int (j:Nat),rfl,rfl,g,YS (by simp[iN];lia),?_⟩⟩
   refine⟨VW a (gd a j).h,jm,j,D++[b],_,rfl,rfl,US p nr,?_,by simp;lia,Z.2,λo X=>up o (.up B u X),λl hl=>by rw[rS];exact G _ (.up B u hl)⟩
   rw[ZR];simp[iN]
structure XD(K:zZ)(mg:jc)(CD:aj):Prop where
 at_:mg "Shared" = some (.ref CD)
 ty:yQ K (.ref CD)=some (.type "type")
 mB:zI K CD (.type "BaseException")=some true
 self:zI K CD (.ref CD)=some true
inductive VQ(gt:jr)(jh ji:aj)(m:jf)(H:Hp)(Q:VK)(_:XK):Prop
 |mk(S d k:aj)(g:js)(b:jq)(j:Nat->jq)(e:Nat->Nat)(h:jy)(a:List (ZV×V))(l:jf)(i:Nat)(o:jQ)(_:m=[.ref S,.int (i:Nat)])(_:Va gt jh ji H S d k g b j e h a l)(_:i∈b)(_:Sh g b e i o)(_:∀ c,ZA H c->Q (.bl o.isNone) c)
def ZNU:ZC zEa zEa (Zc JI):=Z9
def ZLD{gt:jr}(F:Zp K "alone" "Shelf.alone" JI f fd)(L:Yo K mg jh ji)(N:XD K mg CD)(m:ZH P w K mg ki (YC P w) 3 jh "road_up" zEa (VP gt jh ji CD)):ZJ P w K mg ki Ze 4 f fd zEa (VQ gt jh ji):=by
 refine F.ko ZNU λu A c s H Z Q E I h=>?_;obtain⟨S,d,J,R,O,r,G,q,b,M,i,o,rfl,U,C,l,k⟩:=h;obtain⟨Y,y,p,n,t⟩:=m.ex;intro V;exists _,ZQ (ZGQ (λ_=>pv 0) L.cS p n I t (λ_=>ZY (pv 1)) rfl rfl rfl N.at_ N.ty N.mB (λX T=>ZX (Zn Vz))) (ZX (Zn Vz));obtain⟨x,B⟩:=U.sh.sh.self;refine⟨_,rfl,S,x,_,rfl,B,rfl,_,rfl,S,d,J,R,O,r,G,q,b,M,i,rfl,U,C,λv _ a g _ _ z=>?_,λj D W a g e=>?_⟩
 ·cases l.uniq z.sh;exact k a g
 ·cases l.uniq D;exact⟨CD,rfl,N.self,k a g⟩
inductive WR(jh ji:aj)(n:jf)(H:Hp)(Q:VK)(_:XK):Prop
 |mk(S d l:aj)(k:js)(j:jq)(h:Nat->jq)(i:Nat->Nat)(g:jy)(a:List (ZV×V))(m:jf)(_:n=[.ref S])(_:YJ jh ji H S d l k j h i g a m)(_:∀(e:Hp)(c:aj),H c=none->(∀ b o,b≠S->H b=some o->e b=some o)->YJ jh ji e S d c k j h i g a []->Q .non e)
def Ac:ZC zEo zEo (Zc KU):=Z9
def BM(F:Zp K "forget" "Shelf.forget" KU f fd)(L:Yo K mg jh ji):ZJ P w K mg ki Ze 1 f fd zEo (WR jh ji):=by
 refine F.ko Ac λG A u s H vs Q E X h=>?_;obtain⟨S,d,y,B,Z,T,V,O,J,Y,rfl,R,k⟩:=h;intro N;exists _,ZX (Qa (pv 0) (XF Zt) rfl);exists Z7;intro p g;have v:=Zg g (.lst []);have C:=R.same v;obtain⟨q,t⟩:=C.sh.self;exists _,rfl,S,jh,q,_,rfl,t,L.cS,L.nl,yO rfl;have D:S≠p:=λz=>by rw[z,ZR] at t;cases t
 have l:∀ b o,b≠S->H b=some o->upd (upd H p (.lst [])) S (.ins jh q (Y7 "looks" (.ref p) (Q8 d y B.length))) b=some o:=λb o n e=>by rw[ZO n];exact v _ _ e
 obtain⟨⟨U,a⟩,x,I⟩:=R.sh;have m:YO H (upd (upd H p (.lst [])) S (.ins jh q (Y7 "looks" (.ref p) (Q8 d y B.length)))):=λc xs e=>l c _ (ZD e a) e;refine k _ p g l ⟨⟨⟨q,ZR⟩,l _ _ (ZD x a) x,(by rw[ZO (Ne.symm D)];exact ZR)⟩,R.keys,R.val,R.lt,R.len,λi j=>?_,λi j=>?_,R.two⟩
 ·have W:=R.tw i j;obtain⟨M,r,_⟩:=W.things;exact W.frame m (λo e=>l _ _ (R.own i j).1 e) (λo e=>l _ _ (ZD r a) e) (λo e=>l _ _ (ZD W.tw.above a) e)
 ·obtain⟨M,r,_⟩:=(R.tw i j).things;exact⟨(R.own i j).1,Zb (R.tw i j).tw.above g,Zb r g,(R.own i j).2.2.2⟩
end Tw
namespace L2
open PySem PySem.Spec PyProof.Rows
def LZ:ai->Bool
 | .bool b=>b
 | _=>false
def IR:∀{bs:jT}{a:je},ZT (bs.map V.bl) a->a=bs.map Value.bool
 | [],_,.nil=>rfl
 | b::bs,_,.cons r t=>by
  have e:_=Value.bool b:=r;rw[e,IR t];rfl
inductive QN(x:V)(a:jf)(H:Hp)(Q:VK):Prop
 |mk(l:aj)(bs:jT)(_:x=.ref l)(_:a=[.bl true])(_:H l=some (.lst (bs.map V.bl)))(_:Q (.int (bs.countP id:Nat)) H)
def BK:Oy X "list.count" QN:=by
 intro a s A H x w v t Q I m k h;obtain⟨l,bs,rfl,rfl,f,q⟩:=h;cases m;obtain⟨u,rfl,j⟩:=k.one;cases(show u=Value.bool true from j);obtain⟨z,i,n,r,p,e⟩:=I.lstM f;have d:=IR r;subst d;refine call_meets F.slot_list_count ⟨_,e,rfl⟩ F.entry_list_count (F.args_list_count_2 _ _) (PySem.SeqAt.list_countAt l _ n none #[] (.bool true) LZ) ⟨e,λy g=>?_,?_⟩
 ·obtain⟨b,o,rfl⟩:=zE.mp (rY.mp g)
  cases b with
  | true=>exact MR (y:=.bl true) (x:=.bl true) rfl rfl rfl rfl
  | false=>exact MR (y:=.bl false) (x:=.bl true) rfl rfl rfl rfl
 ·refine⟨.int (bs.countP id:Nat),H,I.tok _,⟨s.toks,?_⟩,q⟩;have c:(bs.map Value.bool).toArray.toList.countP LZ=bs.countP id:=by
   rw[sM,List.countP_map];rfl
  rw[c]
inductive QS(x:V)(a:jf)(H:Hp)(Q:VK):Prop
 |mk(l:aj)(bs:jT)(j:Nat)(_:x=.ref l)(_:a=[.bl true])(_:H l=some (.lst (bs.map V.bl)))(_:bs[j]? = some true)(_:∀ i,i<j->bs[i]? = some false)(_:j<1000)(_:Q (.int (j:Nat)) H)
def ZLa:Oy X "list.index" QS:=by
 intro t s M H x L v K Q I G E h;obtain⟨l,bs,j,rfl,rfl,A,p,k,f,q⟩:=h;cases G;obtain⟨u,rfl,D⟩:=E.one;cases(show u=Value.bool true from D);obtain⟨z,C,n,r,J,e⟩:=I.lstM A;have w:=IR r;subst w;have g:j<bs.length:=(yN.mp p).1;have c:j<(bs.map Value.bool).toArray.size:=by simpa using g
 have a:∀ m (d:m<(bs.map Value.bool).toArray.size) b,bs[m]? = some b->LZ (bs.map Value.bool).toArray[m]=b:=λm d b o=>by
  have:(bs.map Value.bool).toArray[m]? = some (Value.bool b):=by simp[o]
  rw[vR d] at this;rw[zJ.inj this];rfl
 refine call_meets F.slot_list_index ⟨_,e,rfl⟩ F.entry_list_index (F.args_list_index_2 _ _) (PySem.SeqAt.list_indexAt l _ n none #[] (.bool true) LZ j c nofun (a j c true p) (λm d i=>a m d false (k m i))) ⟨e,λy B=>?_,?_⟩
 ·obtain⟨b,o,rfl⟩:=zE.mp (rY.mp B)
  cases b with
  | true=>exact MR (y:=.bl true) (x:=.bl true) rfl rfl rfl rfl
  | false=>exact MR (y:=.bl false) (x:=.bl true) rfl rfl rfl rfl
 ·exact⟨.int (j:Nat),H,I.tok _,⟨_,rfl⟩,q⟩
def ZKU{K:zZ}{o:Expr}{f:TE}{b a p:aK}{j:Nat}(h:PE X o f)(c:attributeBase o "count" X.env (aI o X.env)=aI o X.env:=by rfl)(e:((aG a (ar [.Constant (.bool true) j p] X.env)).all (λx=>!x.1)&&(backToKw a (keywordEach [] X.env)).all (λx=>x.1.isSome)
   && decide (([.Constant (.bool true) j p]:jA).length+([]:List Keyword).length+(if ([]:List Keyword).isEmpty then 0 else 1)<30))=true:=by rfl)(d:(b.endLine==a.line)=true:=by rfl)(g:X.K=K:=by rfl):
  PE X (.Call (.Attribute o "count" b) [.Constant (.bool true) j p] [] a) (Lp K "list" QN f (Xe (tC (.bl true)) V3)):=by
 subst g;exact UQ yH PySem.F.slot_list_count PySem.F.type_list_count BK h (Zi Vz Zt) c e d
def Dy{K:zZ}{o:Expr}{f:TE}{b a p:aK}{j:Nat}(h:PE X o f)(c:attributeBase o "index" X.env (aI o X.env)=aI o X.env:=by rfl)(e:((aG a (ar [.Constant (.bool true) j p] X.env)).all (λx=>!x.1)&&(backToKw a (keywordEach [] X.env)).all (λx=>x.1.isSome)
   && decide (([.Constant (.bool true) j p]:jA).length+([]:List Keyword).length+(if ([]:List Keyword).isEmpty then 0 else 1)<30))=true:=by rfl)(d:(b.endLine==a.line)=true:=by rfl)(g:X.K=K:=by rfl):
  PE X (.Call (.Attribute o "index" b) [.Constant (.bool true) j p] [] a) (Lp K "list" QS f (Xe (tC (.bl true)) V3)):=by
 subst g;exact UQ yH qP qN ZLa h (Zi Vz Zt) c e d
end L2
namespace Tw
open PySem PySem.Spec L2 PyProof.Rows
variable{jh ji CS CT CH CK CP CB:aj}
def ZMj{X:Cx}{K:zZ}{e:Expr}{b:TE}{f:Str}{a:aK}(g:PE X e b)(d:attributeBase e f X.env (aI e X.env)=aI e X.env)(c:X.K=K:=by rfl):PE X (.Attribute e f a) (GG K b f):=by
 subst c;exact E5 g d
structure Nm(K:zZ)(mg:jc)(CB:aj)(C:Nat->aj):Prop where
 base:mg "TwigError" = some (.ref CB)
 ty:yQ K (.ref CB)=some (.type "type")
 mB:zI K CB (.type "BaseException")=some true
 n0:mg "NoKey" = some (.ref (C 0))
 n1:mg "NoLeaf" = some (.ref (C 1))
 n2:mg "NoStem" = some (.ref (C 2))
 n3:mg "NoTwig" = some (.ref (C 3))
 n4:mg "NotHeld" = some (.ref (C 4))
 n5:mg "Shared" = some (.ref (C 5))
structure XC(K:zZ)(CB:aj)(C:Nat->aj)(j:Nat):Prop where
 exc:WH K (C j)
 sub:zI K (C j) (.ref CB)=some true
 val:yV K (.ref (C j)) (.type "ValueError")=some true
 k:∀ i,i<6->yV K (.ref (C j)) (.ref (C i))=some (decide (i=j))
def MO:Nat->Str
 | 0=> "key"
 | 1=> "leaf"
 | 2=> "stem"
 | 3=> "twig"
 | 4=> "held"
 | _=> "shared"
def ZQq(K:zZ)(d:aj)(C:Nat->aj)(Q:VK):XK:=λcls g b=>∃ j,j<6/\cls=.ref (C j)/\XC K d C j /\
 ((j<3/\∀ a t,ZA b a->a t=some (.tup [.str (MO j)])->Q (.ref t) a) \/
  (3<=j/\∃ c x e,g=some c/\b c=some (.xd [("number",.int x)])/\Yj K (C j) e "number" /\ ∀ a t,ZA b a->a t=some (.tup [.str (MO j),.int x])->Q (.ref t) a))
inductive YN(P:am)(w:aw)(K:zZ)(mg:jc)(ki:aD)(g:aj)(C:Nat->aj)(h:jf)(H:Hp)(Q:VK)(_:XK):Prop
 |mk(f:aj)(fd c:ao)(b:Sp)(_:h=[.ref f])(_:ZJ P w K mg ki (YC P w) 70 f fd [] b)(_:∀ s,BindsTo s fd ⟨[],[]⟩ [])(_:H f=some (Y1 f { cls:=.type "function",data:=.func c }))(_:∀(e:VK)(d:XK),(∀ v a,(∀ t:aj,a t=none->Q (.ref t) (upd a t (.tup [.str "told",v])))->e v a)->(∀ cls o a,ZQq K g C Q cls o a->d cls o a)->b [] H e d)
abbrev Dx:ju:=["_law_call","_law_found","e","_law_flags","_law_at"]
def Ub:ZC Dx zEx (Zc Ks):=Z9
abbrev fl6(j:Nat):jT:=[decide (0=j),decide (1=j),decide (2=j),decide (3=j),decide (4=j),decide (5=j)]
def ZLb{CB:aj}{C:Nat->aj}(F:Zp K "_law_asked" "_law_asked" Ks f fd)(T:YX mg)(L:Nm K mg CB C):ZJ P w K mg ki Ze 71 f fd zEx (YN P w K mg ki CB C):=by
 refine F.ko Ub λa2 A a1 s H vs Q E hr h=>?_;obtain⟨g,gd,M,a3,rfl,FL,bL,hg,Z⟩:=h;have y:=Ub.nd;intro Xc;refine⟨_,ZQ (Zs 1 y PY)
  (ZQ (ZHr (i:=2) (j:=1) (q:=0) FL hr bL rfl (Or.inl rfl) rfl rfl rfl rfl L.base y rfl rfl L.ty L.mB
   (λa E'=>ZQ (Zs 3 y (XF (Pm (Zq (r:=Xo K) Om rfl T.isi Yw (Zf (pv 2) (Wj (v:=.ref (C 0)) rfl L.n0 rfl))) (Zq (r:=Xo K) Om rfl T.isi Yw (Zf (pv 2) (Wj (v:=.ref (C 1)) rfl L.n1 rfl)))
     (Zq (r:=Xo K) Om rfl T.isi Yw (Zf (pv 2) (Wj (v:=.ref (C 2)) rfl L.n2 rfl))) (Zq (r:=Xo K) Om rfl T.isi Yw (Zf (pv 2) (Wj (v:=.ref (C 3)) rfl L.n3 rfl))))))
    (ZQ (Zs 3 y (Z0 PN (pv 3) (XF (Zf (Zq (r:=Xo K) Om rfl T.isi Yw (Zf (pv 2) (Wj (v:=.ref (C 4)) rfl L.n4 rfl))) (Zq (r:=Xo K) Om rfl T.isi Yw (Zf (pv 2) (Wj (v:=.ref (C 5)) rfl L.n5 rfl)))))))
    (ZQ (Zy (PW.pt (VZ (Yh PZ (ZKU (K:=K) (pv 3)) ZN (YE _))
     (Up (XT (Yf (Zq (r:=Xo K) Om rfl T.isi Yw (Zf (pv 2) (XQ (v:=.ty "ValueError") rfl T.ValueError C1 rfl)))))))) WV Z2)
    (ZQ (Zs 4 y (Dy (K:=K) (pv 3)))
    (ZQ (Zy (Yh NU (pv 4) ZN (YE _)) (ZX (Zn (Yi (ZY (Zm K (XF (MJ Ym Ym Ym)) (pv 4)))))) Z2)
    (ZX (Zn (Yi (Zf (Zm K (XF (MJ Ym Ym Ym)) (Z0 QP (pv 4) ZN)) (ZMj (pv 2) (by rfl))))))))))) rfl rfl)
  (ZX (Zn (Yi (Zf Ym (pv 1)))))),?_⟩
 exists rfl,⟨M,hg⟩;refine Z _ _ (λv B k2=>?_) λcls z B k2=>?_
 ·exact⟨_,rfl,Z7,λt n=>k2 t n⟩
 ·obtain⟨j,hj,rfl,b,u⟩:=k2;exists C j,rfl,b.sub;intro a S;have g1:=Zg S (XO PF a (C j) z);have d:O1 (upd B a (XO PF a (C j) z)) a (C j):=Ak ZR;have l:upd B a (XO PF a (C j) z) a=some (XO PF a (C j) z):=ZR;generalize upd B a (XO PF a (C j) z)=H3 at g1 d l⊢;exists _,rfl,a,C j,_,_,rfl,d,b.exc,rfl,b.k 0 ∅,_,rfl,a,C j,_,_,rfl,d,b.exc,rfl,b.k 1 ∅,_,rfl,a,C j,_,_,rfl,d,b.exc,rfl,b.k 2 ∅,_,rfl,a,C j,_,_,rfl,d,b.exc,rfl,b.k 3 ∅,Z7
  intro l1 W;have g2:=Zg W (.lst [.bl (decide (0=j)),.bl (decide (1=j)),.bl (decide (2=j)),.bl (decide (3=j))]);have o:=d.mono g2;exists _,rfl,_,rfl,a,C j,_,_,rfl,o,b.exc,rfl,b.k 4 ∅,_,rfl,a,C j,_,_,rfl,o,b.exc,rfl,b.k 5 ∅,Z7
  intro l2 X;have g3:=Zg X (.lst [.bl (decide (4=j)),.bl (decide (5=j))]);exists l1,l2,_,_,rfl,rfl,g3 _ _ ZR,ZR,Z7;intro p hp;have g4:=Zg hp (.lst ([V.bl (decide (0=j)),.bl (decide (1=j)),.bl (decide (2=j)),.bl (decide (3=j))]++[.bl (decide (4=j)),.bl (decide (5=j))]));have G:=(g2.trans g3).trans g4;generalize N:upd (upd (upd H3 l1 (.lst [.bl (decide (0=j)),.bl (decide (1=j)),.bl (decide (2=j)),.bl (decide (3=j))])) l2 (.lst [.bl (decide (4=j)),.bl (decide (5=j))])) p (.lst ([V.bl (decide (0=j)),.bl (decide (1=j)),.bl (decide (2=j)),.bl (decide (3=j))]++[.bl (decide (4=j)),.bl (decide (5=j))]))=H4 at G⊢;have D:H4 p=some (.lst ((fl6 j).map V.bl)):=by rw[<-N];exact ZR
  have a0:=d.mono G;have I:=G _ _ l;have e:=g1.trans G;have m:(fl6 j).countP id=1:=by
   have:j=0\/j=1\/j=2\/j=3\/j=4\/j=5:=∅
   rcases this with rfl | rfl | rfl | rfl | rfl | rfl <;> rfl
  have U:(fl6 j)[j]? = some true:=by
   have:j=0\/j=1\/j=2\/j=3\/j=4\/j=5:=∅
   rcases this with rfl | rfl | rfl | rfl | rfl | rfl <;> rfl
  have Y:∀ i,i<j->(fl6 j)[i]? = some false:=λi hi=>by
   have:j=0\/j=1\/j=2\/j=3\/j=4\/j=5:=∅
   have:i=0\/i=1\/i=2\/i=3\/i=4:=∅
   rename_i h1
   rcases h1 with rfl | rfl | rfl | rfl | rfl | rfl <;> rcases this with rfl | rfl | rfl | rfl | rfl <;> first | rfl | lia
  exists _,rfl,.inl ⟨rfl,_,ZG.of D⟩,p,_,rfl,rfl,D,rfl,_,rfl;refine NP (by rw[m];rfl) ?_
  refine⟨_,rfl,a,C j,_,_,rfl,a0,b.exc,rfl,b.val,_,rfl,Zk ?_⟩;exists _,rfl,.inl ⟨rfl,_,ZG.of D⟩,p,_,j,rfl,rfl,D,U,Y,by lia
  exists _,rfl,_,_,rfl,rfl,_,rfl;rcases u with ⟨j3,u⟩ | ⟨j3,dx,x,fI,rfl,R,O,u⟩
  ·rw[aO (show (j:Int)<3 by lia)]
   refine Z1 ⟨Z7,λl3 c=>⟨_,rfl,.inl ⟨l3,_,_,.str (MO j),rfl,rfl,ZG.of ZR,?_,Z7,λt n=>?_⟩⟩⟩
   ·have:j=0\/j=1\/j=2:=∅
    rcases this with rfl | rfl | rfl <;> rfl
   ·exact u _ t ((e.trans (Zg c _)).trans (Zg n _)) ZR
  ·rw[aM (show ¬ (j:Int)<3 by lia)]
   refine Zk ⟨Z7,λl3 c=>?_⟩;have J:=Zg c (.lst [.str "twig",.str "held",.str "shared"]);refine⟨_,rfl,_,_,rfl,rfl,.inl ⟨l3,_,_,.str (MO j),rfl,rfl,ZG.of ZR,?_,?_⟩⟩
   ·have:j=3\/j=4\/j=5:=∅
    rcases this with rfl | rfl | rfl <;> rfl
   ·exists _,rfl,PF,a,C j,dx,_,.int x,fI,rfl,J _ _ I,J _ _ (e _ _ R),O,rfl,Z7;intro t n;exact u _ t ((e.trans J).trans (Zg n _)) ZR
end Tw
namespace L2
open PySem PySem.Spec PyProof.Rows
inductive UB(b:zZ)(c:jf)(H:Hp)(Q:VK):Prop
 |mk(p:aj)(a:jC)(_:c=[.ref p])(_:ZG b H p (a.map V.int))(_:a≠[])(_:∀ m,m∈a->(∀ x∈a,x<=m)->Q (.int m) H)
def Hg(E:X.calm=true):VI X (.builtin "max") (UB X.K):=by
 intro A s V H U T Q I r h;obtain⟨p,o,rfl,G,n,q⟩:=h;obtain⟨u,rfl,N⟩:=VY r;cases N;obtain⟨L,O,M,S⟩:=I.list G;have b:=IP O;obtain⟨a,e⟩:=b.allInts.items;have y:=M.isList;rw[e] at y;have w:a.toList.map (·.1)=o:=by
  rw[<-nums_intItems,<-e];exact b.numsOf
 have f:a.size=o.length:=by rw[<-w];simp
 have g:0<a.size:=by
  rw[f];exact uI.mpr n
 refine max_intList (I.ok.hd E) y g λv R P z F=>?_;obtain⟨B,t⟩:=argBest_gt (numAt a) (a.size-1);generalize argBest (λi j=>decide (numAt a i > numAt a j)) (a.size-1)=j at z B t;have m:j<a.size:=∅
 have d:∀ i (b:i<a.size),numAt a i=a[i].1:=λi b=>by unfold numAt;simp[b]
 have D:v=.int (numAt a j) a[j].2:=by
  have:=z;unfold intItems at this;simp[m] at this;rw[d j m];exact this.symm
 have c:∀ i (b:i<a.size),o[i]? = some (numAt a i):=λi b=>by rw[<-w,d i b];simp[b]
 refine⟨.int (numAt a j),H,I.kept (t':=P) F,⟨_,D⟩,q _ (zB (c j m)) λx J=>?_⟩;obtain⟨i,k,C⟩:=uJ J;have l:i<a.size:=∅
 have:=c i l;rw[zV k,C] at this;rw[zJ.inj this];exact t i ∅
end L2
namespace Tw
open PySem PySem.Spec L2 PyProof.Rows
inductive UR(x:V)(c:jf)(H:Hp)(Q:VK):Prop
 |mk(l:aj)(b:jf)(a:jr)(v:V)(t:KT)(j:Nat)(_:x=.ref l)(_:c=[v])(_:H l=some (.lst b))(_:jX H a b)(_:ZF H t v)(_:∀ k∈a,k.depth<=100)(_:a[j]? = some t)(_:∀ i k,i<j->a[i]? = some k->k.eqb t=false)(_:j<1000)(_:Q (.int (j:Nat)) H)
open Classical in
def BJ{k:Nat}(V:ZZ (k+3) X.A):Oy X "list.index" UR:=by
 intro N s σ H x vs v us Q I rx rv h;obtain⟨l,ws,L,v0,t,j,rfl,rfl,S,U,W,T,K,G,B,q⟩:=h;cases rx;obtain⟨u,rfl,ru⟩:=rv.one;obtain⟨z,b,n,r,hl,e⟩:=I.lstM S;have Z:=LM I t v0 u W ru;have M:=kvals_of I L ws b U r;have lk:=M.length;have C:j<b.length:=by have:=(yN.mp K).1;lia (splits:=8)
 have p:j<b.toArray.size:=by simpa using C
 have f:∀ m (i:m<b.toArray.size),∃ k,L[m]? = some k/\Za s.heap k b.toArray[m]:=λm i=>by
  have E:m<b.length:=by simpa using i
  obtain⟨a,d,g⟩:=M.get (zV E);exact⟨a,d,by simpa using g⟩
 have o:∀(y:ai)(a:KT),Za s.heap a y->decide (∃ k,Za s.heap k y/\k.eqb t=true)=a.eqb t:=λy a w=>by
  cases c:a.eqb t with
  | true=>exact aO ⟨a,w,c⟩
  | false=>
   refine aM ?_;rintro⟨Y,P,R⟩;have d:=Mp _ _ (Za.inj a Y y w P);rw[d,R] at c;cases c
 refine call_meets F.slot_list_index ⟨_,e,rfl⟩ F.entry_list_index (F.args_list_index_2 _ _) (PySem.SeqAt.list_indexAt l _ n none #[] u (λy=>decide (∃ k,Za s.heap k y/\k.eqb t=true)) j p nofun ?_ (λm i D=>?_)) ⟨e,λy w=>?_,?_⟩
 ·obtain⟨a,d,g⟩:=f j p;rw[K] at d;cases d;exact aO ⟨t,g,N9 t⟩
 ·obtain⟨a,d,g⟩:=f m i;rw[o _ a g];exact G m a D d
 ·obtain⟨m,i,O⟩:=uJ (rY.mp w);obtain⟨a,d,g⟩:=f m (by simpa using i)
  have J:Za s.heap a y:=by rw[<-O];simpa using g
  rw[o y a J];exact IK a.depth a t _ y u (zY _) J Z ((ZZ.key V.in1) (zD (T a (zB d)) nofun))
 ·exact⟨.int (j:Nat),H,I.tok _,⟨_,rfl⟩,q⟩
end Tw
namespace Srt
open PySem PySem.W PyProof.Rows
structure Qj(lt:Nat->Nat->Bool):Prop where
 asym:∀ i j,lt i j=true->lt j i=false
 trans:∀ i j k,lt j i=false->lt k j=false->lt k i=false
def gt(p:jE)(i:Nat):Nat:=p.getD i 0
def P9(p:jE)(i:Nat):gt p i=(p[i]?).getD 0:=by unfold gt;rw[Array.getD_eq_getD_getElem?]
def LX{p:jE}{i j:Nat}(a:j<=p.size)(k:Nat):gt (kas_rev p i j) k=if i<=k/\k<j then gt p (i+j-1-k) else gt p k:=by
 rw[P9,P9,P9];unfold kas_rev;rw[getElem?_mirror_all a];split <;> rfl
def Db{p:jE}{k l:Nat}(a:k<p.size)(b:l<=k)(x:Nat):gt (bubble p k (k-l)) x=if x=l then gt p k else if l<x/\x<=k then gt p (x-1) else gt p x:=by
 rw[P9,P9,P9,P9,getElem?_bubble a (k-l) ∅]
 have e:k-(k-l)=l:=∅
 rw[e];split
 ·rfl
 ·split <;> rfl
def PB(n:Nat)(p:jE):Prop:=p.Perm (xS (zQ n))
def PB.size{n:Nat}{p:jE}(h:PB n p):p.size=n:=by rw[h.size_eq];simp
def PB.lt{n:Nat}{p:jE}(h:PB n p){i:Nat}(a:i<n):gt p i<n:=by
 have b:=h.size;rw[P9,vR ∅]
 have:p[i]'∅∈(xS (zQ n)):=h.mem_iff.mp (Array.getElem_mem _)
 simpa using this
def PB.rev{n:Nat}{p:jE}(h:PB n p)(i j:Nat):PB n (kas_rev p i j):=(mirror_perm _ _ _ _).trans h
def PB.bub{n:Nat}{p:jE}(h:PB n p)(i j:Nat):PB n (bubble p i j):=(bubble_perm _ _ _).trans h
section
variable{lt:Nat->Nat->Bool}{n:Nat}{cmp:Nat->Nat->(Bool->al->Prop)->al->Prop}
def Qw(lt:Nat->Nat->Bool)(p:jE)(k:Nat):Prop:=∀ i j,i<=j->j<k->lt (gt p j) (gt p i)=false
def Pe(lt:Nat->Nat->Bool)(p:jE)(k:Nat):Prop:=∀ i j,i<=j->j<k->lt (gt p i) (gt p j)=false
def Qj.irr(O:Qj lt)(i:Nat):lt i i=false:=by
 cases h:lt i i with
 | false=>rfl
 | true=>exact absurd (O.asym i i h) (by rw[h];decide)
def Pw(lt:Nat->Nat->Bool)(n:Nat)(cmp:Nat->Nat->(Bool->al->Prop)->al->Prop)(s:al):Prop:=∀ i j,i<n->j<n->∀ C:Bool->al->Prop,C (lt i j) s->cmp i j C s
def L0(O:Qj lt)(k:Pw lt n cmp s){p:jE}(e:PB n p):∀(f m N:Nat)(Q:Nat->al->Prop),f+m=N->N<=n->1<=m->Qw lt p m ->
  (∀ a,m<=a->a<=N->Qw lt p a->(a=N\/lt (gt p a) (gt p (a-1))=true)->Q a s)->(kas_asc p f m).kasWp cmp Q s
 | 0,m,N,Q,v,g,w,b,c=>c m (zY _) ∅ b (.inl ∅)
 | f+1,m,N,Q,v,g,w,b,c=>by
  refine k _ _ (e.lt (i:=m) ∅) (e.lt (i:=m-1) ∅) _ ?_
  show (if lt (gt p m) (gt p (m-1))=true then KasT.ret m else kas_asc p f (m+1)).kasWp cmp Q s
  cases l:lt (gt p m) (gt p (m-1)) with
  | true=>rw[aQ rfl];exact c m (zY _) ∅ b (.inr l)
  | false=>
   rw[aP zT];refine L0 O k e f (m+1) N Q ∅ g ∅ (λi j d y=>?_) λa x q r t=>c a ∅ q r t
   rcases yU j m with h | h
   ·exact b i j d h
   ·have o:j=m:=∅
    subst o;rcases yU i j with u | u
    ·exact O.trans _ _ _ (b i (j-1) ∅ ∅) l
    ·have:i=j:=∅
     rw[this];exact O.irr _
def IO(lt:Nat->Nat->Bool)(p:jE)(m q:Nat):Prop:=q+1<=m/\∀ i j,m-(q+1)<=i->i<m->m-(q+1)<=j->j<m->lt (gt p i) (gt p j)=false
def HG(O:Qj lt){p:jE}{m q:Nat}(h:m<=p.size)(e:IO lt p m q)(b:Pe lt p m):Pe lt (kas_rev p (m-(q+1)) m) m:=by
 obtain⟨l,d⟩:=e;have g (k:Nat):=LX (p:=p) (i:=m-(q+1)) h k;intro i j a f;rw[g i,g j];split
 ·rename_i c
  rw[aQ ⟨∅,∅⟩]
  exact d _ _ ∅ ∅ ∅ ∅
 ·rename_i c
  split
  ·exact b _ _ ∅ ∅
  ·exact b _ _ a f
def My(O:Qj lt)(D:Pw lt n cmp s):∀(f:Nat)(p:jE)(m q N:Nat)(Q:jE×Nat×Nat->al->Prop),PB n p->f+m=N->N<=n->Pe lt p m->IO lt p m q ->
  (∀ a c u,PB n a->m<=c->c<=N->Pe lt a c->IO lt a c u->Q (a,c,u) s)->(kas_desc f p m q).kasWp cmp Q s
 | 0,p,m,q,N,Q,b,P,F,r,o,x=>x p m q b (zY _) ∅ r o
 | f+1,p,m,q,N,Q,b,P,F,r,o,x=>by
  have S:=o.1;have V:=b.size;refine D _ _ (b.lt (i:=m) ∅) (b.lt (i:=m-1) ∅) _ ?_
  show (if lt (gt p m) (gt p (m-1))=true then (if q > 0 then kas_desc f (kas_rev p (m-(q+1)) m) (m+1) 0 else kas_desc f p (m+1) 0) else .ask (p.getD (m-1) 0) (p.getD m 0) λd=>if d=true then .ret (p,m,q) else kas_desc f p (m+1) (q+1):KasT _).kasWp cmp Q s
  have t:∀ a:jE,PB n a->Pe lt a m->gt a m=gt p m->lt (gt p m) (gt p (m-1))=true->(∀ i,i<m->lt (gt a i) (gt p (m-1))=false)->Pe lt a (m+1):=λa _ w e E R i j v U=>by
   rcases yU j m with h | h
   ·exact w i j v h
   ·have C:j=m:=∅
    subst C;rcases yU i j with l | l
    ·rw[e];exact O.trans _ _ _ (O.asym _ _ E) (R i l)
    ·have:i=j:=∅
     rw[this];exact O.irr _
  cases E:lt (gt p m) (gt p (m-1)) with
  | true=>
   rw[aQ rfl];split
   ·have w:=HG O ∅ o r
    have g (k:Nat):=LX (p:=p) (i:=m-(q+1)) (j:=m) ∅ k
    refine My O D f _ (m+1) 0 N Q (b.rev _ _) ∅ F (t _ (b.rev _ _) w (by rw[g m,aP ∅]) E λi T=>?_) ⟨∅,λi j G H I J=>?_⟩ λa c u y K z A B=>x a c u y ∅ z A B
    ·rw[g i];split
     ·exact o.2 _ _ ∅ ∅ ∅ ∅
     ·exact r _ _ ∅ ∅
    ·have:i=j:=∅
     rw[this];exact O.irr _
   ·refine My O D f _ (m+1) 0 N Q b ∅ F (t _ b r rfl E λi T=>r _ _ ∅ ∅) ⟨∅,λi j G H I J=>?_⟩ λa c u y K z A B=>x a c u y ∅ z A B
    have:i=j:=∅
    rw[this];exact O.irr _
  | false=>
   rw[aP zT];refine D _ _ (b.lt (i:=m-1) ∅) (b.lt (i:=m) ∅) _ ?_
   show (if lt (gt p (m-1)) (gt p m)=true then KasT.ret (p,m,q) else kas_desc f p (m+1) (q+1)).kasWp cmp Q s
   cases L:lt (gt p (m-1)) (gt p m) with
   | true=>rw[aQ rfl];exact x p m q b (zY _) ∅ r o
   | false=>
    rw[aP zT];refine My O D f _ (m+1) (q+1) N Q b ∅ F (λi j v U=>?_) ⟨∅,λi j G H I J=>?_⟩ λa c u y K z A B=>x a c u y ∅ z A B
    ·rcases yU j m with h | h
     ·exact r i j v h
     ·have C:j=m:=∅
      subst C;rcases yU i j with l | l
      ·exact O.trans _ _ _ L (r i (j-1) ∅ ∅)
      ·have:i=j:=∅
       rw[this];exact O.irr _
    ·rcases yU i m with h | h
     ·rcases yU j m with l | l
      ·exact o.2 i j ∅ h ∅ l
      ·have C:j=m:=∅
       subst C;exact O.trans _ _ _ L (o.2 i (j-1) ∅ h ∅ ∅)
     ·have M:i=m:=∅
      subst M;rcases yU j i with l | l
      ·exact O.trans _ _ _ (o.2 (i-1) j ∅ ∅ ∅ l) E
      ·have:i=j:=∅
       rw[this];exact O.irr _
def Bd{p:jE}{m:Nat}(b:m<=p.size)(c:Pe lt p m):Qw lt (kas_rev p 0 m) m:=λi j a d=>by
 have g (k:Nat):=LX (p:=p) (i:=0) b k;rw[g i,g j,aQ ⟨∅,∅⟩,aQ ⟨∅,∅⟩]
 exact c _ _ ∅ ∅
def Eg(O:Qj lt)(h:Pw lt n cmp s){p:jE}(b:PB n p){m N:Nat}{Q:Nat×jE->al->Prop}(f:1<=m)(l:m<=N)(g:N<=n)(i:Pe lt p m)(j:∀ a c,PB n c->1<=a->a<=N->Qw lt c a->Q (a,c) s):(kas_tail3 m N p).kasWp cmp Q s:=by
 unfold kas_tail3;rw[KasT.kasWp_bind];exact L0 O h (b.rev 0 m) (N-m) m N _ ∅ g f (Bd (by have:=b.size;lia) i) λa k d e _=>j a _ (b.rev 0 m) ∅ d e
def EZ(O:Qj lt)(e:Pw lt n cmp s){p:jE}(q:PB n p){m N:Nat}{Q:Nat×jE->al->Prop}(x:m+1<=N)(d:N<=n)(o:Pe lt p (m+1))(h:∀ a b,PB n b->1<=a->a<=N->Qw lt b a->Q (a,b) s):(kas_descPart m N p).kasWp cmp Q s:=by
 unfold kas_descPart;rw[KasT.kasWp_bind];refine My O e (N-(m+1)) p (m+1) 0 N _ q ∅ d o ⟨∅,λi j r t u v=>?_⟩ λb a k c w f g l=>?_
 ·have:i=j:=∅
  rw[this];exact O.irr _
 ·have y:=c.size;show (if k > 0 then kas_tail3 a N (kas_rev b (a-(k+1)) a) else kas_tail3 a N b).kasWp cmp Q s
  split
  ·exact Eg O e (c.rev _ _) ∅ f d (HG O ∅ l g) h
  ·exact Eg O e c ∅ f d g h
def Dt(O:Qj lt)(l:Pw lt n cmp s){p:jE}(a:PB n p){Q:Nat×jE->al->Prop}(F:1<=n)(o:∀ q v,PB n v->1<=q->q<=n->Qw lt v q->Q (q,v) s):(kas_count n p).kasWp cmp Q s:=by
 unfold kas_count;rw[KasT.kasWp_bind];have H:=a.size;refine L0 O l a (n-1) 1 n _ ∅ (zY _) (zY _) (λi j b t=>?_) λm x y c d=>?_
 ·have:i=j:=∅
  rw[this];exact O.irr _
 ·split
  ·exact o m p a x y c
  ·rename_i u
   have G:m<n:=by have:m≠n:=λe=>u (by rw[e];simp);lia
   have z:lt (gt p m) (gt p (m-1))=true:=by
    rcases d with d | d
    ·lia
    ·exact d
   split
   ·rename_i D
    refine l _ _ (a.lt (i:=0) ∅) (a.lt (i:=m-1) ∅) _ ?_
    show (if lt (gt p 0) (gt p (m-1))=true then KasT.ret (m,p) else kas_descPart m n (kas_rev p 0 m)).kasWp cmp Q s
    cases C:lt (gt p 0) (gt p (m-1)) with
    | true=>rw[aQ rfl];exact o m p a x y c
    | false=>
     rw[aP zT];have w:∀ i j,i<m->j<m->lt (gt p i) (gt p j)=false:=λi j E t=>
      O.trans _ _ _ (c j (m-1) ∅ ∅) (O.trans _ _ _ C (c 0 i ∅ E))
     have g (k:Nat):=LX (p:=p) (i:=0) (j:=m) ∅ k
     refine EZ O l (a.rev 0 m) ∅ (zY _) (λi j b t=>?_) o
     rw[g i,g j];rcases yU j m with h | h
     ·rw[aQ ⟨∅,∅⟩,aQ ⟨∅,∅⟩]
      exact w _ _ ∅ ∅
     ·have r:j=m:=∅
      subst r;rcases yU i j with f | f
      ·rw[aQ ⟨∅,f⟩,aP ∅]
       exact O.trans _ _ _ (O.asym _ _ z) (w _ _ ∅ ∅)
      ·have:i=j:=∅
       rw[this,aP ∅];exact O.irr _
   ·have B:m=1:=∅
    subst B;refine EZ O l a ∅ (zY _) (λi j b t=>?_) o
    rcases yU i j with f | f
    ·have A:i=0:=∅
     have r:j=1:=∅
     subst A r;exact O.asym _ _ z
    ·have:i=j:=∅
     rw[this];exact O.irr _
def K2(O:Qj lt)(m:Pw lt n cmp s){p:jE}(e:PB n p){k:Nat}(q:k<n)(g:Qw lt p k):∀(f l r:Nat)(Q:Nat->al->Prop),l<=r->r<=k->r-l<=f->(∀ i,i<l->lt (gt p k) (gt p i)=false)->(∀ i,r<=i->i<k->lt (gt p k) (gt p i)=true) ->
  (∀ j,j<=k->(∀ i,i<j->lt (gt p k) (gt p i)=false)->(∀ i,j<=i->i<k->lt (gt p k) (gt p i)=true)->Q j s)->(kas_place p k f l r).kasWp cmp Q s
 | 0,l,r,Q,v,t,w,a,b,c=>c l ∅ a λi d=>b i ∅
 | f+1,l,r,Q,v,t,w,a,b,c=>by
  unfold kas_place;split
  ·exact c l ∅ a λi d=>b i ∅
  ·rename_i x
   refine m _ _ (e.lt (i:=k) q) (e.lt (i:=(l+r) / 2) ∅) _ ?_
   show (if lt (gt p k) (gt p ((l+r) / 2))=true then kas_place p k f l ((l+r) / 2) else kas_place p k f ((l+r) / 2+1) r).kasWp cmp Q s
   cases u:lt (gt p k) (gt p ((l+r) / 2)) with
   | true=>
    rw[aQ rfl];refine K2 O m e q g f l ((l+r) / 2) Q ∅ ∅ ∅ a (λi d o=>?_) c
    cases h:lt (gt p k) (gt p i) with
    | true=>rfl
    | false=>
     have:=O.trans _ _ _ (g ((l+r) / 2) i d o) h;rw[u] at this;cases this
   | false=>
    rw[aP zT];refine K2 O m e q g f ((l+r) / 2+1) r Q ∅ t ∅ (λi d=>?_) b c
    exact O.trans _ _ _ (g i ((l+r) / 2) ∅ ∅) u
def HV(O:Qj lt)(v:Pw lt n cmp s):∀(f:Nat)(p:jE)(k:Nat)(Q:jE->al->Prop),PB n p->f+k=n->1<=k->Qw lt p k->(∀ o,PB n o->Qw lt o n->Q o s)->(kas_bin f p k).kasWp cmp Q s
 | 0,p,k,Q,e,u,y,c,m=>m p e (by rw[<-u,Nat.zero_add];exact c)
 | f+1,p,k,Q,e,u,y,c,m=>by
  unfold kas_bin;rw[KasT.kasWp_bind];have C:=e.size;refine K2 O v e ∅ c k 0 k _ (yX _) (zY _) ∅ (λi w=>absurd w ∅) (λi w z=>absurd z ∅) λl A a b=>?_
  have g (x:Nat):=Db (p:=p) (k:=k) (l:=l) ∅ A x
  refine HV O v f _ (k+1) Q (e.bub _ _) ∅ ∅ (λi j h B=>?_) m
  rw[g i,g j];by_cases t:i=l
  ·rw[aQ t];by_cases d:j=l
   ·rw[aQ d];exact O.irr _
   ·rw[aP d,aQ ⟨∅,∅⟩]
    exact O.asym _ _ (b (j-1) ∅ ∅)
  ·rw[aP t];by_cases d:j=l
   ·rw[aQ d,aP ∅]
    exact a i ∅
   ·rw[aP d];by_cases q:l<i/\i<=k
    ·rw[aQ q,aQ ⟨∅,∅⟩]
     exact c _ _ ∅ ∅
    ·rw[aP q];by_cases r:l<j/\j<=k
     ·rw[aQ r];exact c _ _ ∅ ∅
     ·rw[aP r];exact c _ _ h ∅
def sort_ok(O:Qj lt)(b:Pw lt n cmp s)(g:1<=n){Q:jE->al->Prop}(d:∀ p,PB n p->Qw lt p n->Q p s):(kas_sort n).kasWp cmp Q s:=by
 unfold kas_sort;rw[KasT.kasWp_bind];refine Dt O b (p:=xS (zQ n)) (Array.Perm.refl _) g λm p c f h a=>?_;show (if m<n then kas_bin (n-max m 1) p (max m 1) else .ret p:KasT _).kasWp cmp Q s
 split
 ·have e:max m 1=m:=∅
  rw[e];exact HV O b (n-m) p m Q c ∅ f a d
 ·have e:m=n:=∅
  subst e;exact d p c a
end
end Srt
namespace Tw
open PySem PySem.Spec L2 PyProof.Rows
section
variable{kh:jv}{σ:L2.St}
def F7{H:Hp}{s:al}{b:aj}(I:ZE X kh σ H s)(h:s.heap.objs.size<=b):b∉frs X.stack:=λz=>by
 obtain⟨_,o,e,_⟩:=I.stack.mem z;exact absurd (zU e) (wL.mpr h)
end
section
variable{kh:jv}{σ:L2.St}{H:Hp}
def B1{a:aj}{o:HO}(I:ZE X kh σ H s)(l:X.s₀.heap.get? a=none)(t:a≠X.env.locals)(m:∀ x c,X.env.cells.lookup x=some c->c≠a)(y:∀ p∈X.pn++kh,p.1≠a)(v:H a=none)(h:Zd X.prog X.w (upd H a o) s.heap a o):ZE X kh σ (upd H a o) s:=by
 have g:∀{b:aj}{u:HO},H b=some u->b≠a:=fun{b u} e z=>by rw[z,v] at e;cases e
 refine⟨I.ok,I.os,I.bare,⟨I.base.keep,I.base.slot,λb i q n A=>?_,I.base.there,λb k q=>?_,λb i u q=>?_,λb B q=>?_⟩,I.loc,I.cell,?_,λx c e=>?_,λp d=>?_,λb u e=>?_,I.len⟩
 ·rw[ZO (λz=>by rw[z,l] at q;cases q)];exact I.base.free b i q n A
 ·have e:=I.base.tups b k q;rw[ZO (g e)];exact e
 ·have e:=I.base.frzs b i u q;rw[ZO (g e)];exact e
 ·obtain⟨f,e⟩:=I.base.tbls b B q;exact⟨f,by rw[ZO (g e)];exact e⟩
 ·rw[ZO (Ne.symm t)];exact I.free
 ·rw[ZO (m x c e)];exact I.freeC x c e
 ·obtain⟨e,n,r⟩:=I.pin p d;exact⟨e,by rw[ZO (y p d)];exact n,r⟩
 ·by_cases j:b=a
  ·subst j;rw[ZR] at e;cases e;exact h
  ·rw[ZO j] at e;exact(I.hok b u e).stay (λ_ _ _ q=>q) (λc q=>by rw[ZO (g q)];exact q) λc k q=>by rw[ZO (g q)];exact q
def ZT.getD{b:jf}{a:je}(r:ZT b a){i:Nat}(h:i<b.length):ZW (b.getD i .non) (a.getD i Value.none):=by
 obtain⟨u,c,d⟩:=r.get (i:=i) (x:=b[i]) (by simp[h])
 rw[zW,zW,c,zV h];exact d
def Hy{b:jf}{a:je}(r:ZT b a):∀(l:jq),(∀ i∈l,i<b.length)->ZT (l.map λi=>b.getD i .non) (l.map λi=>a.getD i Value.none)
 | [],_=>.nil
 | i::l,h=>.cons (ZT.getD r (h i zM)) (Hy r l λj c=>h j (zH _ c))
def FO{b:jr}{a:jf}(d:jX H b a):∀(l:jq),(∀ i∈l,i<a.length)->jX H (l.map λi=>b.getD i (.int 0)) (l.map λi=>a.getD i .non)
 | [],_=>.nil
 | i::l,h=>by
  have c:=h i zM;obtain⟨t,e,g⟩:=d.get (i:=i) (v:=a[i]) (by simp[c])
  refine .cons (show ZF H (b.getD i (.int 0)) (a.getD i .non) from ?_) (FO d l λj f=>h j (zH _ f));rw[zW,zW,e,zV c];exact g
def range_getD{a:Type}(l:List a)(d:a):(zQ l.length).map (λi=>l.getD i d)=l:=by
 apply List.ext_getElem
 ·simp
 ·intro i c b;simp[b]
end
def Xi(t:Int×Int×Int):KT:=.tup [.int t.1,.int t.2.1,.int t.2.2]
def ZM1(t u:Int×Int×Int):(Xi t).plt (Xi u)=(Xi t).lt (Xi u):=by
 obtain⟨a,b,c⟩:=t;obtain⟨d,e,f⟩:=u;unfold Xi;simp only[KT.plt,pltL,KT.lt,ltL,KT.eqb]
def NS(h:aD)(a:jP)(b:je):Prop:=jY h (a.map Xi) b
def Id{h:aD}{t:Int×Int×Int}{v:ai}(x:Za h (Xi t) v):∃(a:aj)(c d e:Tok),v=.ref a/\IsTup h a #[.int t.1 c,.int t.2.1 d,.int t.2.2 e]:=by
 unfold Xi at x;rw[Za] at x;obtain⟨a,n,rfl,f,b⟩:=x;rw[jY] at b;obtain⟨o,k,rfl,c,b⟩:=b;rw[jY] at b;obtain⟨p,l,rfl,d,b⟩:=b;rw[jY] at b;obtain⟨q,m,rfl,e,b⟩:=b;rw[jY] at b;subst b;rw[Za] at c d e;obtain⟨g,rfl⟩:=c;obtain⟨i,rfl⟩:=d;obtain⟨j,rfl⟩:=e;exact⟨a,g,i,j,rfl,f⟩
def ZPA{t u:Int×Int×Int}{x y:ai}{Q:Bool->al->Prop}(R:Za s.heap (Xi t) x)(S:Za s.heap (Xi u) y)(Z:A.units+2<cLine)(h:Q ((Xi t).lt (Xi u)) s):aB (aA prog w) A (keyLt' (tuples' true) x y) Q E s:=by
 obtain⟨a,m,o,r,rfl,T⟩:=Id R;obtain⟨c,v,z,B,rfl,U⟩:=Id S;obtain⟨C,D,F⟩:=t;obtain⟨G,H,I⟩:=u;rw[<-ZM1] at h;unfold Xi at h;rw[KT.plt,pltL,pltL,pltL,pltL] at h;obtain⟨⟨X,Y,J,sl⟩,O,M,n,N⟩:=T;obtain⟨⟨cl2,L,K,V⟩,i,l,n2,g⟩:=U;refine PySem.W.kat_lt O N i g ?_;show PySem.W.KatLex prog w A true _ Q [(.int C m,.int G v),(.int D o,.int H z),(.int F r,.int I B)] 0 s;have d:∀(p q:Int)(j k:Tok)(f:Bool->al->Prop),f ((KT.int p).plt (KT.int q)) s->aB (aA prog w) A (oneLt' false (.int p j) (.int q k)) f (λ_ _=>False) s:=λp q j k f P=>by
  refine PySem.W.kat_one _ _ (Io 0 (.int p) (.int q) A _ _ (by simp[KT.depth]) ⟨j,rfl⟩ ⟨k,rfl⟩ (by simp[KT.cmp]) (by simp[KT.depth];lia) prog w _ _ ?_)
  exact P
 have b:∀ p q:Int,(KT.int p).eqb (KT.int q)=(p==q):=λp q=>by rw[KT.eqb]
 refine rQ (SeqAt.EqAt.int_int C m G v prog w _ _ ?_);refine tF (λe=>rW ?_) (λe=>tE ?_)
 ·rw[b,e,aQ rfl] at h;refine rQ (SeqAt.EqAt.int_int D o H z prog w _ _ ?_);refine tF (λe=>rW ?_) (λe=>tE ?_)
  ·rw[b,e,aQ rfl] at h;refine rQ (SeqAt.EqAt.int_int F r I B prog w _ _ ?_);refine tF (λe=>rW (PySem.W.kat_nil ?_)) (λe=>tE ?_)
   ·rw[b,e,aQ rfl] at h;exact h
   ·rw[b,e,aP zT] at h;exact d _ _ _ _ _ h
  ·rw[b,e,aP zT] at h;exact d _ _ _ _ _ h
 ·rw[b,e,aP zT,KT.plt] at h;exact oneLt_int h
def Hw{h:aD}:∀{ts:jP}{vs:je},NS h ts vs->∃ b,PySem.W.KatTups h vs b/\b.length=vs.length/\∀ v∈b,∃ k t,v=Value.int k t
 | [],vs,x=>by
  unfold NS at x;rw[wB,jY] at x;subst x;exact⟨[],.nil,rfl,λv c=>absurd c (by simp)⟩
 | t::ts,vs,x=>by
  unfold NS at x;rw[yI,jY] at x;obtain⟨v,r,rfl,m,x⟩:=x;obtain⟨b,d,e,f⟩:=Hw (ts:=ts) (vs:=r) x;obtain⟨a,l,q,u,rfl,p⟩:=Id m;obtain⟨o,j,g,n,i⟩:=p;exists .int t.1 l::b,.cons j g i rfl d,by simp[e]
  intro v c;rcases zG.mp c with rfl | c
  ·exact⟨_,_,rfl⟩
  ·exact f v c
def ZLP{f:jP}{a:je}{Q:PyProof.Rows.SortKind->al->Prop}(j:0<a.length)(h:NS s.heap f a)(d:Q (tuples' true) s):aB (aA prog w) A (keyKind' a.toArray) Q E s:=by
 obtain⟨g,b,i,c⟩:=Hw h;refine PySem.W.kat_kind (T:=.type "int") b ∅ (λv e=>?_) (by decide) d
 obtain⟨k,t,rfl⟩:=c v e;exact yJ.of_pure rfl
def ZM7{c:jP}{a:je}{Q:SortSt->al->Prop}(z:2<=a.length)(l:a.length<64)(h:NS s.heap c a)(I:A.units+2<cLine)(H:∀ (p:jE) (b:SortSt),Srt.PB a.length p->arrOf b=p.map (PySem.W.kas_item (a.toArray.zip a.toArray))->failedOf b=none->Q b s):
  aB (aA prog w) A ((sortRuns').run (SortSt.mk' (tuples' true) (a.toArray.zip a.toArray) #[] 7 none)) (λr e=>Q r.2 e) E s:=by
 have F:c.length=a.length:=by have:=jY.length h;rwa [zX] at this
 refine PySem.W.kat_run (G:=λp e=>e=s/\Srt.PB a.length p) rfl z l (λp b e M n o q=>?_) ?_
 ·obtain⟨rfl,f⟩:=q;exact H p b f n o
 ·refine Srt.sort_ok (lt:=λi j=>((c.map Xi).getD i (.int 0)).lt ((c.map Xi).getD j (.int 0))) ⟨λi j=>Nr _ _,λi j k=>le_trans'⟩ (λi j d D C B=>?_) ∅ λp f N=>⟨rfl,f⟩
  unfold PySem.W.kas_ask;have g:∀ i,i<a.length->∃ t,(c.map Xi).getD i (.int 0)=Xi t/\Za s.heap (Xi t) (a.getD i Value.none):=λi d=>by
   obtain⟨t,m,v⟩:=jY.get h (zV d);rw[zN] at m;obtain⟨L,u,rfl⟩:=yB.mp m;exists L,by rw[zW,zN,u];rfl
   rw[zW,zV d];exact v
  obtain⟨O,x,J⟩:=g i d;obtain⟨P,y,K⟩:=g j D;refine ZPA J K I ?_;rw[<-x,<-y];exact B
section
variable{kh:jv}{σ:L2.St}{H:Hp}
def ZIJ{k:Nat}{l:aj}{L:jf}{C:jP}{Q:VK}(hr:ZZ (k+2) X.A)(I:ZE X kh σ H s)(hl:ZG X.K H l L)(hk:jX H (C.map Xi) L)(c1:L.length<64)(q:∀ (D:aj) (ws:jf) (rs:jP) (U:Hp),ZA H U->H D=none->U D=some (.lst ws)->jX U (rs.map Xi) ws->rs.Perm C->Q (.ref D) U):
  aB (aA X.prog X.w) X.A (call (.builtin "sorted") [.ref l]) (EP X kh σ Q) X.xe s:=by
 obtain⟨c,rv,pl,hz⟩:=I.list hl;have c0:=rv.length;have a4:=hk.length;rw[zX] at a4;have a9:ZZ k X.A.in1.in1:=(ZZ.in1 (k:=k+1) hr).in1;refine Calls.call_function_entry kind_sorted plain_sorted entry_sorted (args_sorted1 _) ?_;unfold Builtin.«sorted»;refine aa (m:=checkCount "sorted" 1 1 _) (ad ?_);refine aa (collect_list pl.isList ?_ (by rw[sizeLine_eq];lia))
 refine aa (wpAny_newList ?_ (by rw[sizeLine_eq];lia))
 have y:((s.heap.push (seqObj "list" #[] 0)).update s.heap.objs.size (Obj.mapSeq (· ++ c.toArray))).objs.size=s.heap.objs.size+1:=by rw[Heap.size_update,size_push']
 obtain⟨f,x⟩:∃ f,((s.heap.push (seqObj "list" #[] 0)).update s.heap.objs.size (Obj.mapSeq (· ++ c.toArray))).push (seqObj "list" c.toArray 0)=f:=⟨_,rfl⟩;have u:f.get? (s.heap.objs.size+1)=some (seqObj "list" c.toArray 0):=by rw[<-x,<-y];exact yT _ rfl
 have P:∀ b o,s.heap.get? b=some o->f.get? b=some o:=λb o z=>by
  have G:b<s.heap.objs.size:=zU z;rw[<-x,Heap.get?_push_ne _ _ _ (by rw[y];exact zL (vX G)),sP _ _ _ _ (zL G),Heap.get?_push_ne _ _ _ (zL G)]
  exact z
 have c4:f.objs.size=s.heap.objs.size+2:=by rw[<-x,size_push',y]
 obtain⟨D,eD⟩:∃ D,s.heap.objs.size+1=D:=⟨_,rfl⟩;rw[eD] at u;have F:s.heap.objs.size<=D:=∅
 have j:H D=none:=I.hok.fresh F;have d:VR X kh H D:=I.fpOk F j;have a1:X.s₀.heap.get? D=none:=uG (zD I.sz F);have I1:ZE X kh σ H { s with heap:=f }:=I.kept (t':=s.toks) P;have a0:((s.heap.push (seqObj "list" #[] 0)).update s.heap.objs.size (Obj.mapSeq (· ++ c.toArray))).objs.size=D:=y.trans eD;show aB _ _ _ _ _ { s with heap:=((s.heap.push (seqObj "list" #[] 0)).update s.heap.objs.size (Obj.mapSeq (· ++ c.toArray))).push (seqObj "list" c.toArray 0) };rw[x,a0];refine aa (af (wpAny_call_entry slot_list_sort ⟨_,u,rfl⟩ entry_list_sort ?body (args_list_sort _)));rw[list_sort_plain];refine aa (listItems_at u rfl ?_);refine aa (listUpdate_at u rfl ?_ (by rw[zK,sizeLine_eq];lia) (yX _))
 have T:=wK.update f D (Obj.mapSeq λ_=>(#[]:jx));obtain⟨e1,J⟩:∃ e1,(f.update D (Obj.mapSeq λ_=>(#[]:jx))).get? D=some (seqObj "list" #[] e1):=⟨_,get?_update_seq u λ_=>#[]⟩;obtain⟨h,M⟩:∃ h,f.update D (Obj.mapSeq λ_=>(#[]:jx))=h:=⟨_,rfl⟩;rw[M] at J T;show aB _ _ _ _ _ { s with heap:=f.update D (Obj.mapSeq λ_=>(#[]:jx)) };rw[M];have I2:ZE X kh σ H { s with heap:=h }:=ZE.turned (s:={ s with heap:=f }) (t':=s.toks) (it:=D) I1 (λb o n z=>(T.2 b n).trans z) d.1 d.2.1 d.2.2.2.1 d.2.2.2.2.1 d.2.2.2.2.2;refine aa (seqEpoch_at J rfl ?_);refine aa (wpAny_newTuple ?_ (by show c.length<=_;rw[sizeLine_eq];lia))
 refine aa (wpAny_newList ?_ (yX _));refine af ?_;obtain⟨e,N⟩:∃ e,(h.push (seqObj "tuple" c.toArray 0)).push (seqObj "list" #[] 0)=e:=⟨_,rfl⟩;have v:∀ b o,h.get? b=some o->e.get? b=some o:=λb o z=>by rw[<-N];exact zS _ (zS _ z)
 have I3:ZE X kh σ H { s with heap:=e }:=I2.kept (t':=s.toks) v;have R:e.get? D=some (seqObj "list" #[] e1):=v _ _ J;have sv:NS e C c:=kvals_of I3 _ _ _ hk rv;show aB _ _ _ _ _ { s with heap:=(h.push (seqObj "tuple" c.toArray 0)).push (seqObj "list" #[] 0) };rw[N];dsimp only;have E:∀(p:jE),Srt.PB c.length p->EP X kh σ Q (.ref D) { s with heap:=e.update D (Obj.mapSeq λ_=>xS (p.toList.map λi=>c.getD i Value.none)) }:=by
  intro p hp;have a7:=hp.size;have t:∀ i∈p.toList,i<L.length:=λi hi=>by
   have:i∈(xS (zQ c.length)):=hp.mem_iff.mp (rP.mp hi);have:=(xX.mp (by simpa using this):i<c.length)
   lia
  have a5:p.toList.length=c.length:=by rw[vU,a7]
  have s2:=wK.update e D (Obj.mapSeq λ_=>xS (p.toList.map λi=>c.getD i Value.none));obtain⟨c2,a2⟩:∃ c2,(e.update D (Obj.mapSeq λ_=>xS (p.toList.map λi=>c.getD i Value.none))).get? D=some (seqObj "list" (xS (p.toList.map λi=>c.getD i Value.none)) c2):=⟨_,get?_update_seq R λ_=>xS (p.toList.map λi=>c.getD i Value.none)⟩;have J2:ZE X kh σ H { s with heap:=e.update D (Obj.mapSeq λ_=>xS (p.toList.map λi=>c.getD i Value.none)) }:=ZE.turned (s:={ s with heap:=e }) (t':=s.toks) (it:=D) I3 (λb o n z=>(s2.2 b n).trans z) j d.2.1 d.2.2.2.1 d.2.2.2.2.1 d.2.2.2.2.2;have J3:=B1 (a:=D) (o:=.lst (p.toList.map λi=>L.getD i .non)) J2 a1 d.2.1 d.2.2.2.2.1 d.2.2.2.2.2 j ⟨by rw[zX,a5,sizeLine_eq];lia,_,c2,Hy rv _ t,a2⟩
  have g:=Zg j (.lst (p.toList.map λi=>L.getD i .non));refine⟨.ref D,_,J3,rfl,q D _ (p.toList.map λi=>C.getD i (0,0,0)) _ g j ZR ?_ ?_⟩
  ·have:=FO (hk.sm g) _ t;have e2:(p.toList.map λi=>(C.map Xi).getD i (.int 0))=(p.toList.map λi=>C.getD i (0,0,0)).map Xi:=by
    rw[zF];refine uH λi hi=>?_;have c3:=t i hi;have a3:i<C.length:=∅
    simp[zW,zV a3]
   rw[e2] at this;exact this
  ·have a6:p.toList.Perm (zQ c.length):=by simpa using Array.perm_iff_toList_perm.mp hp
   have:=a6.map (λi=>C.getD i (0,0,0));rw[show c.length=C.length by lia,range_getD] at this
   exact this
 by_cases h:c.length<2
 ·rw[aQ (by rw[zK];exact h),aQ (by rw[zK];exact h)]
  refine aa (ad (aa (ad ?_)));dsimp only;have e0:((arrOf (SortSt.mk' general' (c.toArray.zip c.toArray) #[] 7 none)).map (·.2))=xS ((xS (zQ c.length)).toList.map λi=>c.getD i Value.none):=by
   show ((c.toArray.zip c.toArray).map (·.2))=_;apply Array.toList_inj.mp;rw[Array.toList_map,ksk_zip];simp only[sM];rw[range_getD,List.map_snd_zip ∅]
  rw[e0];refine aa (seqEpoch_at R rfl ?_);refine aa (listUpdate_at R rfl ?_ (yX _) (by rw[zK,zX,sM,rR,sizeLine_eq];lia))
  simp only[bne_self_eq_false,vW,if_false];exact ad ⟨.none,rfl,ad ⟨_,rfl,E _ (Array.Perm.refl _)⟩⟩
 ·rw[aP (by rw[zK];exact h),aP (by rw[zK];exact h)]
  refine aa (ZLP ∅ sv ?_)
  refine aa (Z3 (ZM7 (Q:=λB S=>S={ s with heap:=e }/\∃ p:jE,Srt.PB c.length p/\arrOf B=p.map (PySem.W.kas_item (c.toArray.zip c.toArray))/\failedOf B=none)
   ∅ ∅ sv (by have a:=a9.un;lia) λp B Y Z b4=>⟨rfl,p,Y,Z,b4⟩) λr S a8=>?_)
  obtain⟨⟨⟩,B⟩:=r;obtain⟨rfl,p,Y,Z,b4⟩:=a8;have O:=PySem.W.kat_snds rfl Z;dsimp only;rw[O];refine aa (seqEpoch_at R rfl ?_);refine aa (listUpdate_at R rfl ?_ (yX _) (by rw[zK,zX,vU,Y.size,sizeLine_eq];lia))
  rw[b4];simp only[bne_self_eq_false,vW,if_false];exact ad ⟨.none,rfl,ad ⟨_,rfl,E p Y⟩⟩
end
end Tw
namespace L2
open PySem PySem.Spec PyProof.Rows
section
variable{σ:St}{H:Hp}
def ZJ1{J:It}{K:zZ}{r:jq}{z:TT}{w:TE}{Q:VK}{n:Nat}(h:Nat->V->Prop)(g:aj->Nat->jf->Hp->Prop)(S:n<aq)(q:∀ D i b H,i<n->g D i b H->J.go i H)(I:∀ D i b H x k,i<n->g D i b H->J.yld i H x k->k=H/\h i x)(j:∀ D b H,g D n b H->J.stop n H)(B:∀ D,H D=none->g D 0 [] (upd H D (.lst [])))(step:∀ D i b H x,H D=some (.lst b)->b.length<=i->i<n->h i x->g D i b H->∃ a u v,x=.ref a/\Zh K H a [u,v]/\∀ (R:VK) (N:Hp->Prop),(∀ y f,f D=some (.lst b)->g D (i+1) (b++[y]) (upd f D (.lst (b++[y])))->R y f)->(∀ f,f D=some (.lst b)->g D (i+1) b f->N f) ->
   z ([some u,some v]++r.map λi=>(σ[i]?).join) H λc t=>if c=true then w ([some u,some v]++r.map λi=>(σ[i]?).join) t R else N t)(o:∀ D b H,H D=some (.lst b)->g D n b H->Q (.ref D) H):LB J 2 (KG K) σ r z w H Q:=by
 intro D C;exists λi m H=>m=n-i/\i<=n/\∃ b,H D=some (.lst b)/\b.length<=i/\g D i b H,⟨n,rfl,yX _,[],ZR,zY _,B D C⟩;rintro i m H ⟨rfl,P,b,e,E,p⟩;by_cases d:i<n
 ·refine .inr ⟨q D i b H d p,λx k y M F=>?_⟩;obtain⟨rfl,L⟩:=I D i b H x k d p y;obtain⟨a,u,v,rfl,G,O⟩:=step D i b _ x e E d L p
  match M,F with
  | [T,U],_=>
   exists a,_,rfl,G,rfl,u,_,rfl,v,_,rfl,rfl,⟨[some u,some v],rfl,rfl⟩;refine O _ _ (λy f l s=>?_) (λf l s=>?_)
   ·exact⟨b,n-(i+1),l,∅,∅,rfl,d,b++[y],ZR,by rw[yS,xH];lia,s⟩
   ·exact⟨n-(i+1),∅,rfl,d,b,l,∅,s⟩
 ·have A:i=n:=∅
  subst A;exact .inl ⟨j D b H p,o D b H e p⟩
end
end L2
namespace Tw
open PySem PySem.Spec L2 PyProof.Rows
variable{jh ji CS CT CH CK CP CB:aj}
def Lh{X:Cx}{K:zZ}{k:Nat}{o e:Expr}{h:TE}{t:TA}{c a:aK}(m:ZZ (k+3) X.A)(l:PE X o h)(j:PA X [e] t)(d:attributeBase o "index" X.env (aI o X.env)=aI o X.env:=by rfl)(g:((aG a (ar [e] X.env)).all (λx=>!x.1)&&(backToKw a (keywordEach [] X.env)).all (λx=>x.1.isSome)
   && decide (([e]:jA).length+([]:List Keyword).length+(if ([]:List Keyword).isEmpty then 0 else 1)<30))=true:=by rfl)(f:(c.endLine==a.line)=true:=by rfl)(n:ar [e] X.env=(false,aI e X.env)::ar [] X.env:=by rfl)(b:(aG a (ar [] X.env)).any (·.1)=false:=by rfl)(i:X.K=K:=by rfl):
  PE X (.Call (.Attribute o "index" c) [e] [] a) (Lp K "list" UR h t):=by
 subst i;exact UQ yH qP qN (BJ m) l j d g f n b
inductive OT(f:jf)(H:Hp)(Q:VK):Prop
 |mk(l:aj)(b:jf)(d:jP)(_:f=[.ref l])(_:H l=some (.lst b))(_:jX H (d.map Xi) b)(_:b.length<64)(_:∀(D:aj)(e:jf)(c:jP)(a:Hp),ZA H a->H D=none->a D=some (.lst e)->jX a (c.map Xi) e->c.Perm d->Q (.ref D) a)
def ZHu{X:Cx}{k:Nat}(e:ZZ (k+2) X.A):VI X (.builtin "sorted") OT:=by
 intro b s n H m i Q I r h;obtain⟨l,j,g,rfl,d,c,a,q⟩:=h;obtain⟨u,rfl,f⟩:=VY r;cases f;exact ZIJ e I (ZG.of d) c a q
def AY{H:Hp}{k:jP}{l:jf}{i:Nat}{u:V}(h:jX H (k.map Xi) l)(e:l[i]? = some u):∃ t a,t∈k/\u=.ref a/\H a=some (.tup [.int t.1,.int t.2.1,.int t.2.2]):=by
 obtain⟨t,d,c⟩:=h.get e;rw[zN] at d;obtain⟨r,m,rfl⟩:=yB.mp d;unfold Xi at c;rw[ZF] at c;obtain⟨a,x,rfl,n,b⟩:=c;rw[jX] at b;obtain⟨s,o,rfl,f,b⟩:=b;rw[jX] at b;obtain⟨v,p,rfl,g,b⟩:=b;rw[jX] at b;obtain⟨w,q,rfl,j,b⟩:=b;rw[jX] at b;subst b;rw[ZF] at f g j;subst f g j;exact⟨r,a,zB m,rfl,n⟩
structure Xx(H:Hp)(dT:aj)(ts:js)(lv:jq)(bs:jw)(kvs:List (ZV×V)):Prop where
 dict:H dT=some (.dK kvs)
 vl:Lv ts lv
 keys:kvs.map (·.1)=lv.map (λi:Nat=>(Sum.inl (i:Int):ZV))
 len:bs.length=ts.length
 tw:∀ i:Nat,i∈lv->∃ tp us,YK kvs (Sum.inl (i:Int))=some (.ref tp)/\H tp=some (.tup [.str (kindOf (gd ts i)),.ref (bs.getD i 0)])/\H (bs.getD i 0)=some (.lst us)/\((gd ts i).h=0->jX H (Ys (gd ts i).rows) us)/\((gd ts i).h≠0->us=iN (gd ts i).bs)
def Xx.at{H:Hp}{d:aj}{c:js}{b:jq}{bs:jw}{a:List (ZV×V)}(h:Xx H d c b bs a):Vn H c b a:=⟨h.keys,λi l=>by
 obtain⟨m,n,e,f,g,j,k⟩:=h.tw i l;exact⟨_,e,m,_,n,rfl,f,g,j,k⟩⟩
def Xx.frame{H H':Hp}{b:aj}{e:js}{c:jq}{bs:jw}{a:List (ZV×V)}(h:Xx H b e c bs a)(m:YO H H')(p:H' b=some (.dK a))(n:∀ i:Nat,i∈c->∀ o,H (bs.getD i 0)=some o->H' (bs.getD i 0)=some o):Xx H' b e c bs a:=by
 exists p,h.vl,h.keys,h.len;intro i d;obtain⟨q,r,f,g,j,k,l⟩:=h.tw i d;exact⟨q,r,f,m _ _ g,n i d _ j,λz=>(k z).mono m _ _,l⟩
def Xx.same{H b:Hp}{c:aj}{f:js}{d:jq}{bs:jw}{a:List (ZV×V)}(h:Xx H c f d bs a)(s:ZA H b):Xx b c f d bs a:=h.frame (ZA.tups s) (s _ _ h.dict) λi g o e=>s _ _ e
def Xx.sx{H c:Hp}{p d:aj}{f:js}{b:jq}{bs:jw}{a:List (ZV×V)}(h:Xx H d f b bs a)(W:ZM H p)(k:∀ i:Nat,i∈b->bs.getD i 0≠p)(s:ZI p H c):Xx c d f b bs a:=by
 obtain⟨l,e⟩:=W.some;exact h.frame (s.tupsW W) (s _ _ h.dict (ZD h.dict e)) λi j o g=>s _ _ g (k i j)
def Xx.lawT{gt:jr}{H:Hp}{e:aj}{d:js}{f:jq}{bs:jw}{c:List (ZV×V)}(h:Xx H e d f bs c)(i:WF gt d)(g:gt.length=64)(j:gt.Pairwise λa b=>a.lt b=true):Y8 gt H e d f c:=⟨h.dict,h.at,h.vl,i,g,j⟩
def LY{gt:jr}(n:gt.Pairwise λa b=>a.lt b=true){t:KT}(h:t∈gt):∃ j,j<gt.length/\gt[j]? = some t/\∀ i k,i<j->gt[i]? = some k->k.eqb t=false:=by
 obtain⟨j,f,e⟩:=uJ h;have d:gt[j]? = some t:=by rw[zV f,e]
 exists j,f,d;intro i k l m;have:=KS n l m d
 cases c:k.eqb t with
 | false=>rfl
 | true=>
  have g:=Mp _ _ c;subst g;rw[M4] at this;cases this
def LD{gt:jr}{g:js}{i:Nat}{t:ZP}(h:Z5 gt g i t):(YY t).lo∈gt/\(YY t).hi∈gt:=by
 obtain⟨r,j,e,c⟩:=Nw h.ne;obtain⟨f,d,a,b⟩:=IM h.ne;rw[c,b];exact⟨(h.inn r (by rw[e];simp)).1,(h.inn d (by rw[a];simp)).1⟩
structure Us(gt:jr)(H:Hp)(gl:aj)(gs:jf):Prop where
 at_:H gl=some (.lst gs)
 keys:jX H gt gs
 fit:∀ t∈gt,t.fits 3=true
 len:gt.length=64
 up:gt.Pairwise λa b=>a.lt b=true
def Us.frame{gt:jr}{H H':Hp}{a:aj}{b:jf}(g:Us gt H a b)(m:YO H H')(k:H' a=some (.lst b)):Us gt H' a b:=⟨k,g.keys.mono m _ _,g.fit,g.len,g.up⟩
def Us.same{gt:jr}{H a:Hp}{b:aj}{c:jf}(g:Us gt H b c)(s:ZA H a):Us gt a b c:=g.frame (ZA.tups s) (s _ _ g.at_)
def Us.sx{gt:jr}{H b:Hp}{p a:aj}{c:jf}(g:Us gt H a c)(W:ZM H p)(n:a≠p)(s:ZI p H b):Us gt b a c:=g.frame (s.tupsW W) (s _ _ g.at_ n)
inductive UZ(gt:jr)(o:jf)(H:Hp)(Q:VK)(_:XK):Prop
 |mk(p k j e:aj)(l:js)(a:jq)(bs:jw)(g c:List (ZV×V))(n:Nat->Nat)(m:jf)(_:o=[.ref p,.ref k,.ref j,.ref e])(_:ZM H p)(_:Xx H k l a bs g)(_:∀ i:Nat,i∈a->bs.getD i 0≠p)(_:WF gt l)(_:H j=some (.dK c))(_:UV c a n)(_:Us gt H e m)(_:e≠p)(_:0<a.length)(_:a.length<64)(_:∀(d:Hp)(D:aj)(h:jq),ZI p H d->ZM d p->H D=none->d D=some (.lst (iN h))->(∀ b∈h,b∈a)->h.length<=4->Q (.ref D) d)
abbrev AO:ju:=["_law_well_here","_law_twigs","_law_holds","_law_grid_here","_law_some","_law_run_here","_law_last","_law_at","_law_most","_law_labels","_law_low","_law_top","_law_number"]
def P8:ZC AO zEg (Zc Ij):=Z9
def nd2:(["_law_label_here","_law_number","_law_grid_here","_law_last"]:ju).Nodup:=by decide +kernel
def Cg{gt:jr}(F:Zp K "_law_run" "_law_run" Ij f fd)(T:YX mg)(DP:ZB P w K mg ki 1 "_law_pull" zEe YR)(DK:ZB P w K mg ki 2 "_law_picked" zEi Ya)(DL:ZB P w K mg ki 2 "_law_label" zEb (Yb gt)):
  ZJ P w K mg ki Ze 4 f fd zEg (UZ gt):=by
 refine F.ko P8 λt8 A t4 s H vs Q E hr h=>?_;obtain⟨p,dT,dH,gl,ts,d,bs,a8,hvs,ho,gs,rfl,W,Y,bp,hw,r6,hH,G,m2,l0,a0,k⟩:=h;have nd:=P8.nd;have hu:=VJ hr;have m8:=hr.mono (show 1<=3 by lia)
 have c4:=hr.mono (show 2<=3 by lia)
 intro Xc;refine⟨_,ZQ (MX (i:=4) [2] ["_law_holds"] nd rfl rfl rfl (Wq (Zq (PR rfl) rfl T.sorted Q7 (ZY (pv 1)))) (λ_ _ _ _ _=>Mo (Yh P2 (VX hu (pv 1) (pv 0)) ZN (YE _))) (λ_ _ _ _ _=>pv 0) ⟨rfl,.inl rfl,rfl,trivial⟩)
  (ZQ (Zy (PW.pt (VZ (Yh VT (Zr DP m8 (Zf (pv 0) ZN)) ZN (YE _)) (Up (Yh (Nv hr.units0) (pv 4) (XF Zt) (YE _))))) (ZX (Zs 4 nd (Zq (PR rfl) rfl T.sorted Q7 (ZY (pv 1))))) Z2)
  (ZQ (Zs 5 nd (XF (ZY (Zr DK c4 (Zf (pv 0) (pv 4))))))
  (ZQ (OW (i:=6) nd rfl (Or.inr rfl) (Zr DL c4 (Zf (pv 1) (Zm K (pv 5) ZN))))
  (ZQ (Zs 7 nd (Lh (K:=K) hr (pv 3) (ZY (Zm K (pv 6) ZN))))
  (ZQ (Zs 8 nd (Z0 WZ ZN (Zr DP m8 (Zf (pv 0) ZN))))
  (ZQ (MX (i:=9) [1] ["_law_twigs"] nd rfl rfl rfl (Wq (pv 4)) (λ_ _ _ _ _=>Uh) (λ_ _ _ _ _=>Yi (Zf (Zr DL c4 (Zf (pv 1) (pv 0))) (pv 0))) ⟨rfl,.inl rfl,rfl,trivial⟩)
  (ZQ (HZ (g:=KG K) ["_law_label_here","_law_number"] "_law_label_here" (i:=4) [3,6] ["_law_grid_here","_law_last"] nd rfl rfl rfl (λ_ _ _ _ _=>ZMV rfl nd2 rfl rfl rfl rfl) (Wq (pv 9))
   (λ_ _ _ _ _=>Mo (Yh VT (Zm K (pv 0) ZN) (Zm K (pv 3) ZN) (YE _)))
   (λ_ _ _ _ _=>Yi (MJ (Lh (K:=K) hr (pv 2) (ZY (Zm K (pv 0) ZN))) (Lh (K:=K) hr (pv 2) (ZY (Zm K (pv 0) ZN))) (pv 1)))
   ⟨rfl,.inl rfl,rfl,rfl,.inl rfl,rfl,trivial⟩)
  (ZQ (Wo PassesOwn.never rfl (Wq (Zq (ZHu c4) rfl T.sorted Q7 (ZY (pv 4)))) (P3 rfl (XY (Yk 10 nd) (XY (Yk 11 nd) (XY (Yk 12 nd) Pv))))
   (ZX (Zy (PW.pt (Nu (Yh P2 (pv 10) (pv 7) (YE _)) (Mc (Yh NU (Zq WA rfl T.len Xf (ZY (pv 5))) (pv 8) (YE _)))))
    (ZQ (Wz (UQ yH xJ xI Uk (pv 5) (ZY (pv 12)))) (ZX (Zs 7 nd (pv 11)))) Z2)))
  (ZX (Zn (pv 5))))))))))),?_⟩
 have eI:(d.map λi:Nat=>(i:Int)).map V.int=iN d:=by rw[zF];rfl
 obtain⟨xsP,r9⟩:=W.some;have M:∀ c,H c=none->c≠p:=λc e=>(Zb r9 e).symm;have i0:∀ t∈gt,t.depth<=100:=λt ht=>zD (Pa t 3 (G.fit t ht)) ∅
 exists _,rfl,dT,a8,d.map λi:Nat=>(i:Int),rfl,Y.dict,(by rw[Y.keys,zF];rfl),Uz Y.vl.up,by simpa using a0
 intro q nq;rw[eI];obtain⟨H1,eU,g1,hq⟩:=Xa nq (.lst (iN d));rw[eU];refine⟨q,rfl,⟨_,ZG.of hq⟩,Ea d (λj=>decide (0<ho j)) ∅ (λi H3 s3 hi=>⟨_,.int (d[i]:Nat),ZG.of (s3 _ _ hq),by simp[iN,zV hi]⟩) (λi H3 x H4 s3 hi hy=>⟨hy.1,hy.2 _ (ZG.of (s3 _ _ hq))⟩) (λH3 s3=>⟨_,ZG.of (s3 _ _ hq),by simp[iN]⟩) (λH2 j R hj s2 hR=>?_) (λD5 H2 s2 i6 Z=>?_)⟩
 ·have jl:j∈d:=hj;have hg:Zx H2 dH (.int (j:Nat)) (some (.int (ho j:Nat))):=hH.2 j jl ▸ Zx.k (k:=Sum.inl (j:Int)) ((g1.trans s2) _ _ r6);have ed:decide (((ho j:Nat):Int) > 0)=decide (0<ho j):=by rw[decide_eq_decide];lia
  exists _,rfl,_,rfl,dH,.int (ho j:Nat),rfl,hg,_,_,rfl,rfl,_,rfl;rw[ed];exact hR
 have i9:=g1.trans s2;have W2:=W.same i9;have n5:H D5=none:=ZA.free g1 i6;have b5:∀ b∈d.filter (λj=>decide (0<ho j)),b∈d:=λb hb=>(xM.mp hb).1;have l5:(d.filter (λj=>decide (0<ho j))).length<64:=xK (sG _ _) a0;generalize d.filter (λj=>decide (0<ho j))=l at Z b5 l5;clear hq i6;exists _,rfl,p,8,rfl,W2,Vq (by decide) (by decide)
 intro r H5 r0 r1 W5 s3;have U:ZI p H H5:=(ZI.of i9).trans s3
 replace Z:=s3 _ _ Z (M _ n5)
 clear s3 i9 W2 g1 s2;exists rfl,_,rfl;have L:∀(H6:Hp)(q:aj),ZI p H H6->ZM H6 p->H6 q=none->H q=none:=λH6 q x6 W6 e=>by
  cases z:H q with
  | none=>rfl
  | some o=>
   by_cases y:q=p
   ·subst y;obtain⟨xs,e'⟩:=W6.some;rw[e'] at e;cases e
   ·rw[x6 _ _ z y] at e;cases e
 refine Wu (λc=>?gT) (λc=>?gE)
 case' gE=>
  exists _,rfl,Z7;intro e0 m4;have g0:=Zg m4 (.lst []);exists D5,e0,iN l,rfl,rfl,ZG.of (g0 _ _ Z),ZG.of ZR,_,rfl
  replace Z:=g0 _ _ Z
  replace W5:=W5.same g0
  replace U:=U.trans (ZI.of g0)
  generalize upd H5 e0 (.lst [])=H6 at g0 Z W5 U⊢;clear g0 m4;refine Wu (λc2=>?gT2) (λc2=>?gF)
 case' gF=>
  have p5:0<l.length:=by
   cases l with
   | nil=>exact absurd rfl c2
   | cons _ _=>simp
 case' gT=>
  exists _,rfl,dT,a8,d.map λi:Nat=>(i:Int),rfl,(Y.sx W bp U).dict,(by rw[Y.keys,zF];rfl),Uz Y.vl.up,by simpa using a0
  intro D5 nq;rw[eI];have i4:H D5=none:=L _ D5 U W5 nq;have g:=Zg nq (.lst (iN d))
  replace U:=U.trans (ZI.of g)
  replace W5:=W5.same g
  clear n5;have n5:=i4
  replace Z:=ZR (H:=H5) (a:=D5) (o:=HO.lst (iN d))
  replace l5:d.length<64:=by simpa using a0
  have p5:0<d.length:=by simpa using l0
  generalize i2:d=l at l5 p5 W5 U Z g⊢
  replace b5:∀ b∈l,b∈d:=λb hb=>by rw[i2];exact hb
 case' gT2=>
  exists _,rfl,dT,a8,d.map λi:Nat=>(i:Int),rfl,(Y.sx W bp U).dict,(by rw[Y.keys,zF];rfl),Uz Y.vl.up,by simpa using a0
  intro D5 nq;rw[eI];have i4:H D5=none:=L _ D5 U W5 nq;have g:=Zg nq (.lst (iN d))
  replace U:=U.trans (ZI.of g)
  replace W5:=W5.same g
  clear n5;have n5:=i4
  replace Z:=ZR (H:=H6) (a:=D5) (o:=HO.lst (iN d))
  replace l5:d.length<64:=by simpa using a0
  have p5:0<d.length:=by simpa using l0
  generalize i2:d=l at l5 p5 W5 U Z g⊢
  replace b5:∀ b∈l,b∈d:=λb hb=>by rw[i2];exact hb
 all_goals
  have a5:=M _ n5;exists _,rfl,_,rfl,p,D5,iN l,rfl,W5,a5,Z,by simpa [iN] using p5,by simp[iN];lia
  intro x H7 x7 W7 hx;obtain⟨b0,r5,rfl⟩:=zE.mp hx;have o2:=U.trans x7;have p3:=x7 _ _ Z a5;exists Z7;intro X n6;have g8:=Zg n6 (.lst [.int (b0:Nat)]);have h6:upd H7 X (.lst [.int (b0:Nat)]) X=some (.lst [.int (b0:Nat)]):=ZR;have i5:H X=none:=L _ X o2 W7 n6;generalize upd H7 X (.lst [.int (b0:Nat)])=H8 at g8 h6⊢;have o3:=o2.trans (ZI.of g8);have W8:=W7.same g8;have p4:=g8 _ _ p3;have e9:=b5 b0 r5;refine⟨_,rfl,_,rfl,.inl ⟨X,_,0,.int (b0:Nat),rfl,rfl,ZG.of h6,rfl,dT,b0,ts,d,a8,rfl,((Y.sx W bp o3).lawT hw G.len G.up).g,e9,λH9 v s9 hv=>?_⟩⟩;obtain⟨ta,vlo,o5,rfl,c5,t6,n3⟩:=hv;have o4:=o3.trans (ZI.of s9);have W9:=W8.same s9;have t3:=hw b0 _ (Vg (Y.vl.lt b0 e9));obtain⟨j0,t9,p6,t0⟩:=LY G.up (LD t3).2;have G9:=G.sx W m2 o4;have t7:=G.len;refine⟨_,rfl,.inl ⟨rfl,_,ZG.of G9.at_⟩,_,rfl,.inr (.inl ⟨ta,_,2,o5,rfl,rfl,Zh.of c5,rfl,gl,gs,gt,o5,_,j0,rfl,rfl,G9.at_,G9.keys,n3,i0,p6,t0,∅,?_⟩)⟩
  refine⟨_,rfl,p,3,rfl,W9,Vq (by decide) (by decide),λr2 l8 r20 r21 o8 c8=>⟨_,_,rfl,rfl,?_⟩⟩
  have e3:=o4.trans c8;have S:=c8 _ _ (s9 _ _ p4) a5;have e2:=M _ i5;have c9:=c8 _ _ (s9 _ _ h6) e2;have t5:ta≠p:=λz=>by
   obtain⟨xs,q⟩:=W9.some;rw[z,q] at c5;cases c5
  have m9:=c8 _ _ c5 t5;exists _,rfl,D5,rfl,⟨_,ZG.of S⟩;refine UT (n:=l.length) (λi z=>(iN l)[i]? = some z) (λD i ys I=>ZA l8 I/\l8 D=none/\jX I ((l.take i).map λb:Nat=>KT.tup [(YY (gd ts b)).kt,.int (b:Nat)]) ys) (YS ∅)
   (λD i ys I hi C=>⟨_,.int (l[i]:Nat),ZG.of (C.1 _ _ S),by simp[iN,hi]⟩) (λD i ys I z o6 hi C hy=>⟨hy.1,hy.2 _ (ZG.of (C.1 _ _ S))⟩) (λD ys I C=>⟨_,ZG.of (C.1 _ _ S),by simp[iN]⟩)
   (λD hD=>⟨Zg hD _,hD,.nil⟩) (λD i ys I z eD r7 hi hz C R hR=>?_) (λD9 a3 l9 c0 C=>?_)
  ·obtain⟨s',nD,s6⟩:=C;have s7:z=.int (l[i]:Nat):=by
    unfold iN at hz;rw[zN,zV hi] at hz;exact(zJ.inj hz).symm
   subst s7;have mi:l[i]∈l:=xU _;have i8:=e3.trans (ZI.of s');refine⟨_,rfl,_,rfl,dT,l[i],ts,d,a8,rfl,((Y.sx W bp i8).lawT hw G.len G.up).g,b5 _ mi,λe6 v a2 hv=>⟨_,rfl,Z7,λtq i7=>?_⟩⟩;have g:=Zg i7 (.tup [v,.int (l[i]:Nat)]);have sA:=a2.trans g;have a4:=sA _ _ eD;have tD:YO (upd e6 tq (.tup [v,.int (l[i]:Nat)])) (upd (upd e6 tq (.tup [v,.int (l[i]:Nat)])) D (.lst (ys++[.ref tq]))):=λb xs e=>by rw[ZO (ZD e a4)];exact e
   refine hR _ _ a4 ⟨US (s'.trans sA) nD,nD,?_⟩;rw[yP,zV hi,yR];exact((s6.sm sA).mono tD _ _).append (.cons (.tup (tD _ _ ZR) (.cons (((hv.key).sm g).mono tD _ _) (.cons (.int _) .nil))) .nil)
  obtain⟨a9,nD9,a7⟩:=C;rw[yK (zY _)] at a7;have s8:=a7.length;rw[zX] at s8;have e4:=e3.trans (ZI.of a9);have o9:=o8.same a9;have n0:=a9 _ _ m9;exists _,rfl,D9,rfl,⟨_,ZG.of c0⟩;refine ZJ1 (K:=K) (n:=l.length) (λi z=>a3[i]? = some z) (λD i zs I=>ZA l9 I/\l9 D=none/\∃ O:jP,jX I (O.map Xi) zs/\(∀ t∈O,∃ b:Nat,b∈d/\t.2.2=(b:Int))/\zs.length<=i) (YS ∅)
   (λD i ys I hi C=>⟨a3,a3[i],ZG.of (C.1 _ _ c0),by simp[show i<a3.length by lia]⟩) (λD i ys I z o6 hi C hy=>⟨hy.1,hy.2 a3 (ZG.of (C.1 _ _ c0))⟩) (λD ys I C=>⟨a3,ZG.of (C.1 _ _ c0),∅⟩)
   (λD hD=>⟨Zg hD _,hD,[],.nil,λt ht=>absurd ht (by simp),zY _⟩) (λD i zs I z eD r7 hi hz C=>?_) (λD4 zs e6 p9 C=>?_)
  ·obtain⟨s',nD,O,c7,c6,r8⟩:=C;obtain⟨kt,m0,m6⟩:=a7.get hz;rw[zN,zV hi] at m0;have m1:=(zJ.inj m0).symm;subst m1;have mi:l[i]∈l:=xU _;rw[ZF] at m6;obtain⟨pa,us2,rfl,c3,J⟩:=m6;rw[jX] at J;obtain⟨v1,r1,rfl,k1,J⟩:=J;rw[jX] at J;obtain⟨v2,r3,rfl,k2,J⟩:=J;rw[jX] at J;subst J;rw[ZF] at k2;subst k2;have lb:=(N1 k1).mono (ZA.tups s');obtain⟨tb,n7,m5,rfl,i3,n4,n2⟩:=lb;have i8:=e4.trans (ZI.of s');have G':=G.sx W m2 i8;have s0:=s' _ _ n0;have n9:=hw _ _ (Vg (Y.vl.lt _ (b5 _ mi)));obtain⟨j1,hj1,p7,t1⟩:=LY G.up (LD n9).1;obtain⟨j2,hj2,p8,t2⟩:=LY G.up (LD n9).2;exists pa,_,_,rfl,Zh.of (s' _ _ c3);intro R N hR hN;refine⟨_,rfl,.inr (.inl ⟨tb,_,0,_,rfl,rfl,Zh.of i3,rfl,_,rfl,.inr (.inl ⟨ta,_,0,_,rfl,rfl,Zh.of s0,rfl,rfl,_,rfl,?_⟩)⟩)⟩;refine Wu (λc=>?_) (λc=>hN _ eD ⟨s',nD,O,c7,c6,∅⟩)
   refine⟨_,rfl,.inl ⟨rfl,_,ZG.of G'.at_⟩,_,rfl,.inr (.inl ⟨tb,_,1,n7,rfl,rfl,Zh.of i3,rfl,gl,gs,gt,n7,_,j1,rfl,rfl,G'.at_,G'.keys,n4,i0,p7,t1,∅,?_⟩)⟩
   refine⟨_,rfl,.inl ⟨rfl,_,ZG.of G'.at_⟩,_,rfl,.inr (.inl ⟨tb,_,2,m5,rfl,rfl,Zh.of i3,rfl,gl,gs,gt,m5,_,j2,rfl,rfl,G'.at_,G'.keys,n2,i0,p8,t2,∅,?_⟩)⟩
   exists _,rfl,Z7;intro tq i7;have g:=Zg i7 (.tup [.int (j1:Nat),.int (j2:Nat),.int (l[i]:Nat)]);have a4:=g _ _ eD;have tD:YO (upd I tq (.tup [.int (j1:Nat),.int (j2:Nat),.int (l[i]:Nat)])) (upd (upd I tq (.tup [.int (j1:Nat),.int (j2:Nat),.int (l[i]:Nat)])) D (.lst (zs++[.ref tq]))):=λb xs e=>by rw[ZO (ZD e a4)];exact e
   refine hR _ _ a4 ⟨US (s'.trans g) nD,nD,O++[((j1:Int),(j2:Int),(l[i]:Int))],?_,λt ht=>?_,by simp;lia⟩
   ·rw[yR];exact((c7.sm g).mono tD _ _).append (.cons (.tup (tD _ _ ZR) (.cons (.int _) (.cons (.int _) (.cons (.int _) .nil)))) .nil)
   ·rcases yM.mp ht with h | h
    ·exact c6 t h
    ·rw[yZ.mp h];exact⟨l[i],b5 _ mi,rfl⟩
  obtain⟨a2,i6,O,c7,c6,r8⟩:=C;have o0:=e4.trans (ZI.of a2);have p0:=o9.same a2;exists _,rfl,D4,zs,O,rfl,p9,c7,by lia
  intro Ds ws rs o7 l1 n8 m3 s4 i1;have o1:=o0.trans (ZI.of l1);have p1:=p0.same l1;have e1:=l1 _ _ (a2 _ _ (a9 _ _ c9));have l7:Ds≠X:=λz=>by
   rw[z,a2 _ _ (a9 _ _ c9)] at n8;cases n8
  refine⟨Ds,rfl,⟨_,ZG.of m3⟩,PM (K:=K) (a:=Ds) (xs:=ws) (λi σ I=>∃(l2 l3 l6:jg)(e8:Int)(ns:jq),σ=[some (.ref p),some (.ref dT),some (.ref dH),some (.ref gl),some (.ref D4),some (.ref X),some (.ref ta),some (.int e8),some (.int (2+r2)),some (.ref D9),l2,l3,l6]/\(∀ c o,c≠X->o7 c=some o->I c=some o)/\I X=some (.lst (iN ns))/\(∀ b∈ns,b∈d)/\ns.length<=4)
   ⟨_,_,_,_,[b0],rfl,λc o _ e=>e,e1,λb hb=>by rw[yZ.mp hb];exact e9,by simp⟩ (λi σ I _ C=>?_) ?_ ?_⟩
  ·obtain⟨_,_,_,_,_,_,k',_⟩:=C;exact ZG.of (k' _ _ l7 m3)
  ·rintro i u σ e7 n1 ⟨l2,l3,l6,e8,ns,rfl,m,B,a6,l4⟩;obtain⟨t,pa,mt,rfl,c3⟩:=AY s4 n1;obtain⟨b,hb,eb⟩:=c6 t (i1.subset mt);have m7:=m _ _ (ZD c3 e1) c3;exists pa,_,rfl,Zh.of m7,rfl,_,_,rfl,_,_,rfl,_,_,rfl,rfl;refine⟨_,rfl,_,rfl,_,_,rfl,rfl,_,rfl,Wu (λc1=>?_) (λc1=>?_)⟩
   ·refine⟨_,rfl,X,_,rfl,.inl (ZG.of B),_,rfl,_,_,rfl,rfl,_,rfl,Wu (λc2=>?_) (λc2=>?_)⟩
    ·have hlt:ns.length<4:=by
      have:=of_decide_eq_true c2;simp[iN] at this
      lia
     exists _,rfl,.inl ⟨rfl,_,ZG.of B⟩,_,rfl,X,_,_,rfl,rfl,B,YS (by simp[iN];lia)
     refine⟨_,rfl,_,_,_,_,ns++[b],rfl,λc o n e=>by rw[ZO n];exact m _ _ n e,?_,λb' r4=>?_,by simp;lia⟩
     ·rw[ZR,eb];simp[iN]
     ·rcases yM.mp r4 with h | h
      ·exact a6 b' h
      ·rw[yZ.mp h];exact hb
    ·exact⟨_,_,_,_,ns,rfl,m,B,a6,l4⟩
   ·exact⟨_,_,_,_,ns,rfl,m,B,a6,l4⟩
  ·rintro σ e7 ⟨l2,l3,l6,e8,ns,rfl,m,B,a6,l4⟩;have p2:ZM e7 p:=by
    obtain⟨a1,b1,c1,d1,s1,rr⟩:=p1.ex;exact⟨a1,b1,c1,d1,m _ _ (Ne.symm e2) s1,rr⟩
   exact⟨_,rfl,k e7 X ns (λc o e n=>m _ _ (Zb e i5) (o1 _ _ e n)) p2 i5 B a6 l4⟩
def Gs{a:js}{b:jq}(d:Lv a b)(t:ZP)(i:Nat):YT (a++[t]) (b++[a.length]) i=YT a b i++(if i∈t.bs then [a.length] else []):=by
 unfold YT;rw[sT]
 congr 1
 ·refine List.filter_congr λj c=>?_;rw[P1 (d.lt j c)]
 ·by_cases h:i∈t.bs
  ·simp[Po,h]
  ·simp[Po,h]
def HR{gt:jr}{a:js}{b:jq}(d:WF gt a)(c:Lv a b){i:Nat}(h:a.length<=i):YT a b i=[]:=by
 cases e:YT a b i with
 | nil=>rfl
 | cons j r=>
  have g:=OV d c (i:=i) (j:=j) (by rw[e];exact zM)
  have l:=d j _ (Vg (c.lt j g.2));have k:i∈(gd a j).bs:=by
   have:j∈YT a b i:=by rw[e];exact zM
   unfold YT at this;exact of_decide_eq_true (xM.mp this).2
  have f:(gd a j).h≠0:=∅
  have:=((l.stem f).2.2.1 i k).1
  lia
def Lv.push{g:js}{f:jq}{t:ZP}(h:Lv g f)(d:∀ b∈t.bs,b∈f):Lv (g++[t]) (f++[g.length]):=by
 refine⟨λi e=>?_,λi e b c=>?_,vG.mpr ⟨h.up,rJ _ _,λa j b d=>by rw[yZ.mp d];exact h.lt a j⟩⟩
 ·rw[yS,xH];rcases yM.mp e with z | z
  ·have:=h.lt i z
   lia
  ·rw[yZ.mp z]
   lia
 ·rcases yM.mp e with z | z
  ·rw[P1 (h.lt i z)] at c;exact wO _ (h.cl i z b c)
  ·rw[yZ.mp z,Po] at c;exact wO _ (d b c)
def Ej{gt:jr}{ts:js}{a:jJ}(g:Pk a)(h:(a.map (·.1)).Sublist gt):Z5 gt ts ts.length (Y5 a):=by
 obtain⟨f,c,e,b⟩:=g;refine⟨λz=>?_,b,λr d=>⟨h.subset (zE.mpr ⟨r,d,rfl⟩),f r d⟩,λ_=>⟨rfl,e⟩,λz=>absurd rfl z⟩;have i:a=[]:=z;rw[i] at c;simp at c
def Es{gt:jr}{c:jJ}(h:gt.Pairwise λa b=>a.lt b=true)(f:∀ r∈c,r.fit)(g:(c.map (·.1)).Sublist gt)(d:0<c.length)(e:c.length<=4):Pk c:=⟨f,d,e,h.sublist g⟩
def Bs{gt:jr}{f g:aj}{H r:Hp}{S d q:aj}{a:js}{e:jq}{h:Nat->jq}{j:Nat->Nat}{t l:jy}{p c:List (ZV×V)}{w n:jf}{k:jJ}(U:Va gt f g H S d q a e h j t p w)(A:a.length<=700)(x:Z5 gt a a.length (Y5 k))(R:YJ f g r S d q (a++[Y5 k]) (e++[a.length]) (WS a.length h) (Xb a.length j) l c n):Va gt f g r S d q (a++[Y5 k]) (e++[a.length]) (WS a.length h) (Xb a.length j) l c n:=by
 have W:=U.wf.push x;have u:(a++[Y5 k]).length=a.length+1:=by simp
 have s:Lv (a++[Y5 k]) (e++[a.length]):=U.vl.push λb v=>by cases v
 have o:∀ i,YT (a++[Y5 k]) (e++[a.length]) i=YT a e i:=λi=>by
  rw[Gs U.vl,aP (by show i∉([]:jq);simp),vP]
 have inl:∀ i,i∈e++[a.length]->i≠a.length->i∈e:=λi m z=>(yM.mp m).elim id λy=>absurd (yZ.mp y) z;refine⟨R,W,s,λi m=>?_,λi m=>?_,by rw[u];lia⟩
 ·by_cases z:i=a.length
  ·subst z;rw[show WS a.length h a.length=[] from aQ rfl];rw[o];rw[HR U.wf U.vl (zY _)]
  ·rw[show WS a.length h i=h i from aP z,o];exact U.av i (inl i m z)
 ·by_cases z:i=a.length
  ·subst z;rw[show Xb a.length j a.length=1 from aQ rfl]
   lia
  ·rw[show Xb a.length j i=j i from aP z,o];exact U.live i (inl i m z)
def ZLO{gt:jr}{j k:aj}{H v:Hp}{S d u:aj}{a:js}{f:jq}{e:Nat->jq}{c:Nat->Nat}{x m:jy}{t g:List (ZV×V)}{C o:jf}{bs:jq}(U:Va gt j k H S d u a f e c x t C)(D:a.length<=700)(p:∀ b∈bs,b∈f){L:YZ}(s:over (YU a bs)=some L)(B:∀ b∈bs,1<=c b)(R:YJ j k v S d u (a++[Yv a bs]) (f++[a.length]) (UJ bs a.length (WS a.length e)) (WW bs (Xb a.length c)) m g o):Va gt j k v S d u (a++[Yv a bs]) (f++[a.length]) (UJ bs a.length (WS a.length e)) (WW bs (Xb a.length c)) m g o:=by
 have W:=U.wf.push (ZK9 U.wf (λb h=>U.vl.lt b (p b h)) s);have A:(a++[Yv a bs]).length=a.length+1:=by simp
 have w:Lv (a++[Yv a bs]) (f++[a.length]):=U.vl.push p;have r:∀ i,YT (a++[Yv a bs]) (f++[a.length]) i=YT a f i++(if i∈bs then [a.length] else []):=λi=>Gs U.vl (Yv a bs) i
 have inl:∀ i,i∈f++[a.length]->i≠a.length->i∈f:=λi l z=>(yM.mp l).elim id λy=>absurd (yZ.mp y) z;refine⟨R,W,w,λi l=>?_,λi l=>?_,by rw[A];lia⟩
 ·by_cases z:i=a.length
  ·subst z;have q:a.length∉bs:=λy=>by have:=U.vl.lt _ (p _ y);lia
   rw[show UJ bs a.length (WS a.length e) a.length=WS a.length e a.length from aP q,show WS a.length e a.length=[] from aQ rfl];rw[r];rw[HR U.wf U.vl (zY _)];rw[aP q];rfl
  ·rw[r];have n:WS a.length e i=e i:=aP z;by_cases y:i∈bs
   ·rw[show UJ bs a.length (WS a.length e) i=WS a.length e i++[a.length] from aQ y,n,aQ y,U.av i (inl i l z)]
   ·rw[show UJ bs a.length (WS a.length e) i=WS a.length e i from aP y,n,aP y,vP];exact U.av i (inl i l z)
 ·by_cases z:i=a.length
  ·subst z;have q:a.length∉bs:=λy=>by have:=U.vl.lt _ (p _ y);lia
   rw[show WW bs (Xb a.length c) a.length=Xb a.length c a.length from aP q,show Xb a.length c a.length=1 from aQ rfl]
   lia
  ·rw[r];have n:Xb a.length c i=c i:=aP z;have f:=U.live i (inl i l z);by_cases y:i∈bs
   ·rw[show WW bs (Xb a.length c) i=Xb a.length c i-1 from aQ y,n,aQ y,yS,xH];have:=B i y
    lia
   ·rw[show WW bs (Xb a.length c) i=Xb a.length c i from aP y,n,aP y,vP];exact f
structure Pl where
 S:aj
 d:aj
 lk:aj
 dT:aj
 dH:aj
 gl:aj
 tl:aj
 as:jy
 bs:jw
structure Md where
 ts:js
 lv:jq
 av:Nat->jq
 ho:Nat->Nat
def Pl.ab(p:Pl)(i:Nat):Addr:=(p.as.getD i .d).ab
def Pl.th(p:Pl)(i:Nat):Addr:=(p.as.getD i .d).th
def Pl.x(p:Pl)(i:Nat):Addr:=(p.as.getD i .d).x
def Pl.b(p:Pl)(i:Nat):Addr:=p.bs.getD i 0
structure LS(gt:jr)(jh ji:aj)(H:Hp)(a:Pl)(m:Md):Prop where
 sh:∃ kvs ls,Va gt jh ji H a.S a.d a.lk m.ts m.lv m.av m.ho a.as kvs ls/\ls.length<=100
 lw:∃ kvs,Xx H a.dT m.ts m.lv a.bs kvs
 hd:∃ hvs,H a.dH=some (.dK hvs)/\UV hvs m.lv m.ho
 gr:∃ gs,Us gt H a.gl gs
 told:H a.tl=some (.lst (iN (zQ m.ts.length)))
 dd:a.dT≠a.d/\a.dH≠a.d/\a.dT≠a.dH
 tt:a.tl≠a.lk/\a.tl≠a.gl/\a.lk≠a.gl
 t2:∀ i:Nat,i∈m.lv->a.tl≠a.ab i/\a.tl≠a.th i/\a.gl≠a.ab i
 t3:∀ i:Nat,i∈m.lv->a.b i≠a.tl/\a.b i≠a.lk/\∀ j:Nat,j∈m.lv->a.b i≠a.ab j
 l64:m.lv.length<64
 l700:m.ts.length<=700
structure WK(a:Pl)(m:Md)(p:aj):Prop where
 lk:a.lk≠p
 gl:a.gl≠p
 tl:a.tl≠p
 tw:∀ i:Nat,i∈m.lv->a.ab i≠p/\a.th i≠p/\a.b i≠p
section
variable{gt:jr}{jh ji:aj}{H H':Hp}{a:Pl}{m:Md}{p:aj}
def LS.shp(h:LS gt jh ji H a m):∃ b c,YJ jh ji H a.S a.d a.lk m.ts m.lv m.av m.ho a.as b c:=by
 obtain⟨b,c,U,_⟩:=h.sh;exact⟨b,c,U.sh⟩
def LS.wf(h:LS gt jh ji H a m):WF gt m.ts:=by
 obtain⟨b,c,U,_⟩:=h.sh;exact U.wf
def LS.off(h:LS gt jh ji H a m)(n:H p=none):WK a m p:=by
 obtain⟨c,g,U,_⟩:=h.sh;obtain⟨Yy,L⟩:=h.lw;obtain⟨f,G⟩:=h.gr;refine⟨Zb U.sh.sh.looks n,Zb G.at_ n,Zb h.told n,λi b=>⟨Zb (U.sh.tw i b).tw.above n,?_,?_⟩⟩
 ·obtain⟨d,e,_⟩:=(U.sh.tw i b).things;exact Zb e n
 ·obtain⟨j,d,_,_,e,_⟩:=L.tw i b;exact Zb e n
def LS.sx{A:jf}(h:LS gt jh ji H a m)(o:WK a m p)(c:H p=some (.lst A))(s:ZI p H H'):LS gt jh ji H' a m:=by
 obtain⟨j,z,U,f⟩:=h.sh;obtain⟨Yy,L⟩:=h.lw;obtain⟨g,r,w⟩:=h.hd;obtain⟨v,G⟩:=h.gr;have l:YO H H':=λb C e=>s b _ e (ZD e c);have R:=U.sh;obtain⟨⟨u,q⟩,t,x⟩:=R.sh;refine⟨⟨j,z,⟨⟨⟨⟨u,s _ _ q (ZD q c)⟩,s _ _ t (ZD t c),s _ _ x o.lk⟩,R.keys,R.val,R.lt,R.len,λi d=>?_,R.own,R.two⟩,U.wf,U.vl,U.av,U.live,U.l800⟩,f⟩,
  ⟨Yy,L.frame l (s _ _ L.dict (ZD L.dict c)) λi d k e=>s _ _ e (o.tw i d).2.2⟩,⟨g,s _ _ r (ZD r c),w⟩,⟨v,G.frame l (s _ _ G.at_ o.gl)⟩,s _ _ h.told o.tl,h.dd,h.tt,h.t2,h.t3,h.l64,h.l700⟩
 have n:=R.tw i d;obtain⟨B,y⟩:=n.tw.self;exact n.frame l (λk e=>s _ _ e (ZD y c)) (λk e=>s _ _ e (o.tw i d).2.1) (λk e=>s _ _ e (o.tw i d).1)
def LS.same(h:LS gt jh ji H a m)(s:ZA H H'):LS gt jh ji H' a m:=by
 obtain⟨d,i,U,b⟩:=h.sh;obtain⟨Yy,L⟩:=h.lw;obtain⟨c,g,f⟩:=h.hd;obtain⟨e,G⟩:=h.gr;exact⟨⟨d,i,⟨U.sh.same s,U.wf,U.vl,U.av,U.live,U.l800⟩,b⟩,⟨Yy,L.same s⟩,⟨c,s _ _ g,f⟩,⟨e,G.same s⟩,s _ _ h.told,h.dd,h.tt,h.t2,h.t3,h.l64,h.l700⟩
end
structure LO(gt:jr)(H:Hp)(a:Pl)(m:Md):Prop where
 lw:∃ kvs,Xx H a.dT m.ts m.lv a.bs kvs
 hd:∃ hvs,H a.dH=some (.dK hvs)/\UV hvs m.lv m.ho
 gr:∃ gs,Us gt H a.gl gs
 told:H a.tl=some (.lst (iN (zQ m.ts.length)))
def LS.lo{gt:jr}{s q:aj}{H H':Hp}{a:Pl}{m:Md}(h:LS gt s q H a m)(t:∀ c o,c≠a.S->c≠a.d->c≠a.lk->(∀ i:Nat,i∈m.lv->c≠a.x i/\c≠a.ab i)->H c=some o->H' c=some o):LO gt H' a m:=by
 obtain⟨J,N,U,B⟩:=h.sh;obtain⟨Yy,L⟩:=h.lw;obtain⟨v,F,E⟩:=h.hd;obtain⟨D,G⟩:=h.gr;have R:=U.sh;obtain⟨⟨M,u⟩,z,A⟩:=R.sh;have w:∀ i:Nat,i∈m.lv->∃ n p,H (a.x i)=some (.ins q n p):=λi f=>by
  obtain⟨n,e⟩:=(R.tw i f).tw.self;exact⟨n,_,e⟩
 have r:∀ i:Nat,i∈m.lv->H (a.ab i)=some (.lst (iN (m.av i))):=λi f=>(R.tw i f).tw.above;have C:YO H H':=λb P e=>t b _ (ZD e u) (ZD e z) (ZD e A) (λi f=>by
  obtain⟨n,p,k⟩:=w i f;exact⟨ZD e k,ZD e (r i f)⟩) e
 have g:∀(c:aj)(l:jf),H c=some (.lst l)->c≠a.lk->(∀ i:Nat,i∈m.lv->c≠a.ab i)->H' c=some (.lst l):=λc l e y K=>t c _ (ZD e u) (ZD e z) y (λi f=>by
  obtain⟨n,p,k⟩:=w i f;exact⟨ZD e k,K i f⟩) e
 have dict:∀(c:aj)(l:List (ZV×V)),H c=some (.dK l)->c≠a.d->H' c=some (.dK l):=λc l e y=>t c _ (ZD e u) y (ZD e A) (λi f=>by
  obtain⟨n,p,k⟩:=w i f;exact⟨ZD e k,ZD e (r i f)⟩) e
 refine⟨⟨Yy,L.frame C (dict _ _ L.dict h.dd.1) λi f o e=>?_⟩,⟨v,dict _ _ F h.dd.2.1,E⟩,⟨D,G.frame C (g _ _ G.at_ h.tt.2.2.symm λi f=>(h.t2 i f).2.2)⟩,g _ _ h.told h.tt.1 λi f=>(h.t2 i f).1⟩;obtain⟨O,p,_,_,k,_⟩:=L.tw i f;have:o=.lst p:=by have:=e.symm.trans k;exact zJ.inj this
 subst this;exact g _ _ e (h.t3 i f).2.1 λj I=>(h.t3 i f).2.2 j I
def Y4{i j:Nat}:((Sum.inl ((i:Nat):Int):ZV)=Sum.inl ((j:Nat):Int)) ↔ i=j:=⟨λz=>by have:=Sum.inl.inj z;lia,λz=>by rw[z]⟩
def UH{a:jq}{n i:Nat}(h:i∈a++[n])(z:i≠n):i∈a:=(yM.mp h).elim id λy=>absurd (yZ.mp y) z
def Bi{a:List (ZV×V)}{b:jq}{n:Nat}(e:∀ i∈b,i<n)(h:a.map (·.1)=b.map (λi:Nat=>(Sum.inl (i:Int):ZV))):YK a (Sum.inl (n:Int))=none:=by
 cases z:YK a (Sum.inl (n:Int)) with
 | none=>rfl
 | some v=>
  have:=MW z;rw[h] at this;obtain⟨i,d,c⟩:=zE.mp this;have f:=Y4.mp c;have g:=e i d
  lia
def EA{a:List (ZV×V)}{b:jq}{n:Nat}{v:V}(c:∀ i∈b,i<n)(h:a.map (·.1)=b.map (λi:Nat=>(Sum.inl (i:Int):ZV))):(Zv a (.inl (n:Int)) v).map (·.1)=(b++[n]).map (λi:Nat=>(Sum.inl (i:Int):ZV)):=by
 rw[Ke v (Bi c h),yR,h,yR];rfl
def HS{b:List (ZV×V)}{c:jq}{n:Nat}{a:Nat->Nat}(e:∀ i∈c,i<n)(h:UV b c a):UV (Zv b (.inl (n:Int)) (.int 1)) (c++[n]) (Xb n a):=by
 exists EA e h.1;intro i d;rw[Qg];by_cases z:i=n
 ·subst z;rw[aQ rfl,show Xb i a i=1 from aQ rfl];rfl
 ·rw[aP (λy=>z (Y4.mp y)),show Xb n a i=a i from aP z];exact h.2 i (UH d z)
def LV{a:List (ZV×V)}{k:ZV}{v w:V}(h:YK a k=some w):(Zv a k v).map (·.1)=a.map (·.1):=by
 have d:=MW h;unfold Zv;split
 ·rw[zF];refine uH λp _=>?_;show (if p.1=k then (p.1,v) else p).1=p.1
  split <;> rfl
 ·rename_i c
  exfalso
  apply c;obtain⟨p,b,e⟩:=zE.mp d;simp
  first | exact⟨p.2,by rw[<-e];exact b⟩ | exact⟨p.1,p.2,b,e⟩
def ZOf{c:List (ZV×V)}{d:jq}{b:Nat}{a:Nat->Nat}(h:UV c d a)(e:b∈d):UV (Zv c (.inl (b:Int)) (.int ((a b-1:Nat):Int))) d (P5 a b):=by
 exists by rw[LV (h.2 b e)];exact h.1
 intro i f;rw[Qg];by_cases z:i=b
 ·subst z;rw[aQ rfl,show P5 a i i=a i-1 from aQ rfl]
 ·rw[aP (λy=>z (Y4.mp y)),show P5 a b i=a i from aP z];exact h.2 i f
def Fw{bs:jw}{D:aj}{i:Nat}(h:i<bs.length):(bs++[D]).getD i 0=bs.getD i 0:=by
 rw[zW,xB h,<-zW]
def Hl{bs:jw}{D:aj}:(bs++[D]).getD bs.length 0=D:=by
 rw[zW,xA (zY _)];simp
def GN{H a:Hp}{k:aj}{f:js}{g:jq}{bs:jw}{e:List (ZV×V)}{t:ZP}{tp D:aj}{us:jf}(L:Xx H k f g bs e)(l:∀ b∈t.bs,b∈g)(m:YO H a)(F:∀ i:Nat,i∈g->∀ o,H (bs.getD i 0)=some o->a (bs.getD i 0)=some o)(B:a k=some (.dK (Zv e (.inl (f.length:Int)) (.ref tp))))(E:a tp=some (.tup [.str (kindOf t),.ref D]))(A:a D=some (.lst us))(w:t.h=0->jX a (Ys t.rows) us)(x:t.h≠0->us=iN t.bs):Xx a k (f++[t]) (g++[f.length]) (bs++[D]) (Zv e (.inl (f.length:Int)) (.ref tp)):=by
 exists B,L.vl.push l,EA L.vl.lt L.keys,by simp[L.len]
 intro i C;by_cases z:i=f.length
 ·subst z;have j:(bs++[D]).getD f.length 0=D:=by rw[<-L.len];exact Hl
  exists tp,us,by rw[Qg,aQ rfl],?_,?_,?_
  ·rw[Po,j];exact E
  ·rw[j];exact A
  ·rw[Po];exact w
  ·rw[Po];exact x
 ·have c:i∈g:=UH C z;have d:=L.vl.lt i c;obtain⟨n,p,j,r,s,u,v⟩:=L.tw i c;have q:(bs++[D]).getD i 0=bs.getD i 0:=Fw (by have:=L.len;lia)
  exists n,p,by rw[Qg,aP (λy=>z (Y4.mp y))];exact j,?_,?_,?_
  ·rw[P1 d,q];exact m _ _ r
  ·rw[q];exact F i c _ s
  ·rw[P1 d];exact λy=>(u y).mono m _ _
  ·rw[P1 d];exact v
def Pl.push(a:Pl)(b:YI)(D:aj):Pl:={ a with as:=a.as++[b],bs:=a.bs++[D] }
section
variable{gt:jr}{jh ji:aj}{H H':Hp}{a:Pl}{m:Md}{p:aj}{new:YI}{D:aj}
def LS.asl(h:LS gt jh ji H a m):a.as.length=m.ts.length/\a.bs.length=m.ts.length:=by
 obtain⟨b,c,R⟩:=h.shp;obtain⟨Yy,L⟩:=h.lw;exact⟨R.len,L.len⟩
def LS.lt(h:LS gt jh ji H a m){i:Nat}(b:i∈m.lv):i<m.ts.length:=by
 obtain⟨c,d,R⟩:=h.shp;exact R.lt i b
def OJ(h:LS gt jh ji H a m){i:Nat}(c:i∈m.lv):(a.push new D).ab i=a.ab i/\(a.push new D).th i=a.th i/\(a.push new D).x i=a.x i/\(a.push new D).b i=a.b i:=by
 obtain⟨g,j⟩:=h.asl;have f:=h.lt c;have e:(a.as++[new]).getD i .d=a.as.getD i .d:=Ig ∅
 unfold Pl.ab Pl.th Pl.x Pl.b Pl.push;dsimp only;rw[e,Fw ∅]
 exact⟨rfl,rfl,rfl,rfl⟩
def OR(h:LS gt jh ji H a m):(a.push new D).ab m.ts.length=new.ab/\(a.push new D).th m.ts.length=new.th/\(a.push new D).x m.ts.length=new.x/\(a.push new D).b m.ts.length=D:=by
 obtain⟨f,g⟩:=h.asl;have e:(a.as++[new]).getD m.ts.length .d=new:=by rw[<-f];exact JC
 have c:(a.bs++[D]).getD m.ts.length 0=D:=by rw[<-g];exact Hl
 unfold Pl.ab Pl.th Pl.x Pl.b Pl.push;dsimp only;rw[e,c];exact⟨rfl,rfl,rfl,rfl⟩
def GV(h:LS gt jh ji H a m){t:ZP}{s:Nat->jq}{k:Nat->Nat}(U:H new.th=none)(K:H new.ab=none)(L:H D=none)(x:D≠new.ab)(P:∃ c I,Va gt jh ji H' a.S a.d a.lk (m.ts++[t]) (m.lv++[m.ts.length]) s k (a.as++[new]) c I/\I.length<=100)(J:∃ c,Xx H' a.dT (m.ts++[t]) (m.lv++[m.ts.length]) (a.bs++[D]) c)(F:∃ u,H' a.dH=some (.dK u)/\UV u (m.lv++[m.ts.length]) k)(C:∃ N,Us gt H' a.gl N)(n:H' a.tl=some (.lst (iN (zQ (m.ts.length+1)))))(l:m.lv.length+1<64)(T:m.ts.length+1<=700):LS gt jh ji H' (a.push new D) ⟨m.ts++[t],m.lv++[m.ts.length],s,k⟩:=by
 have M:(m.ts++[t]).length=m.ts.length+1:=by simp
 obtain⟨N,G⟩:=h.gr;obtain⟨c,I,R⟩:=h.shp;have E:∀ i:Nat,i∈m.lv->H (a.ab i)=some (.lst (iN (m.av i))):=λi f=>(R.tw i f).tw.above;obtain⟨Yy,O⟩:=h.lw;have Q:∀ i:Nat,i∈m.lv->∃ w,H (a.b i)=some (.lst w):=λi f=>by
  obtain⟨Y,w,_,_,e,_⟩:=O.tw i f;exact⟨w,e⟩
 refine⟨P,J,F,C,by rw[M];exact n,h.dd,h.tt,λi f=>?_,λi f=>?_,by simpa using l,by rw[M];exact T⟩
 ·by_cases z:i=m.ts.length
  ·subst z;obtain⟨A,B,_,_⟩:=OR (new:=new) (D:=D) h;rw[A,B];exact⟨Zb h.told K,Zb h.told U,Zb G.at_ K⟩
  ·obtain⟨A,B,_,_⟩:=OJ (new:=new) (D:=D) h (i:=i) (UH f z);rw[A,B];exact h.t2 i (UH f z)
 ·have r:∀ j:Nat,j∈m.lv++[m.ts.length]->(j∈m.lv/\(a.push new D).ab j=a.ab j)\/(j=m.ts.length/\(a.push new D).ab j=new.ab):=λj q=>by
   by_cases y:j=m.ts.length
   ·subst y;exact .inr ⟨rfl,(OR h).1⟩
   ·exact .inl ⟨UH q y,(OJ h (UH q y)).1⟩
  by_cases z:i=m.ts.length
  ·subst z;rw[(OR (new:=new) (D:=D) h).2.2.2];exists (Zb h.told L).symm,(Zb R.sh.looks L).symm;intro j q;rcases r j q with ⟨v,o⟩ | ⟨v,o⟩
   ·rw[o];exact(Zb (E j v) L).symm
   ·rw[o];exact x
  ·have g:i∈m.lv:=UH f z;rw[(OJ (new:=new) (D:=D) h g).2.2.2];obtain⟨V,W,X⟩:=h.t3 i g;exists V,W;intro j q;rcases r j q with ⟨v,o⟩ | ⟨v,o⟩
   ·rw[o];exact X j v
   ·obtain⟨w,e⟩:=Q i g;rw[o];exact Zb e K
def WK.push(h:LS gt jh ji H a m)(o:WK a m p){t:ZP}{b:Nat->jq}{f:Nat->Nat}(j:new.th≠p)(k:new.ab≠p)(l:D≠p):WK (a.push new D) ⟨m.ts++[t],m.lv++[m.ts.length],b,f⟩ p:=by
 exists o.lk,o.gl,o.tl;intro i g;by_cases z:i=m.ts.length
 ·subst z;obtain⟨c,d,_,e⟩:=OR (new:=new) (D:=D) h;rw[c,d,e];exact⟨k,j,l⟩
 ·obtain⟨c,d,_,e⟩:=OJ (new:=new) (D:=D) h (i:=i) (UH g z);rw[c,d,e];exact o.tw i (UH g z)
def Zo(a:Pl)(m:Md)(c:aj):Prop:=c≠a.S/\c≠a.d/\c≠a.lk/\c≠a.dT/\c≠a.dH/\c≠a.tl/\∀ i:Nat,i∈m.lv->c≠a.x i/\c≠a.ab i
def Zo.push(h:LS gt jh ji H a m){c:aj}(v:Zo a m c){t:ZP}{b:Nat->jq}{f:Nat->Nat}(j:c≠new.x)(k:c≠new.ab):Zo (a.push new D) ⟨m.ts++[t],m.lv++[m.ts.length],b,f⟩ c:=by
 obtain⟨l,n,o,q,r,s,u⟩:=v;exists l,n,o,q,r,s;intro i g;by_cases z:i=m.ts.length
 ·subst z;obtain⟨d,_,e,_⟩:=OR (new:=new) (D:=D) h;rw[d,e];exact⟨j,k⟩
 ·obtain⟨d,_,e,_⟩:=OJ (new:=new) (D:=D) h (i:=i) (UH g z);rw[d,e];exact u i (UH g z)
def LS.tup(h:LS gt jh ji H a m){c:aj}{o:jf}(e:H c=some (.tup o)):Zo a m c:=by
 obtain⟨n,s,R⟩:=h.shp;obtain⟨Yy,L⟩:=h.lw;obtain⟨k,f,_⟩:=h.hd;obtain⟨⟨q,d⟩,g,j⟩:=R.sh;exists ZD e d,ZD e g,ZD e j,ZD e L.dict,ZD e f,ZD e h.told;intro i b;obtain⟨r,l⟩:=(R.tw i b).tw.self;exact⟨ZD e l,ZD e (R.tw i b).tw.above⟩
end
def YJ.frame{b c:aj}{H H':Hp}{S d g:aj}{p:js}{j:jq}{k:Nat->jq}{l:Nat->Nat}{a:jy}{e:List (ZV×V)}{n:jf}(R:YJ b c H S d g p j k l a e n)(m:YO H H')(u:∀ o,H S=some o->H' S=some o)(v:∀ o,H d=some o->H' d=some o)(w:∀ o,H g=some o->H' g=some o)(h:∀ i:Nat,i∈j->(∀ o,H (a.getD i .d).x=some o->H' (a.getD i .d).x=some o)/\(∀ o,H (a.getD i .d).th=some o->H' (a.getD i .d).th=some o)/\(∀ o,H (a.getD i .d).ab=some o->H' (a.getD i .d).ab=some o)):YJ b c H' S d g p j k l a e n:=by
 obtain⟨⟨q,r⟩,s,t⟩:=R.sh;exact⟨⟨⟨q,u _ r⟩,v _ s,w _ t⟩,R.keys,R.val,R.lt,R.len,λi f=>(R.tw i f).frame m (h i f).1 (h i f).2.1 (h i f).2.2,R.own,R.two⟩
def Va.frame{gt:jr}{a b:aj}{H H':Hp}{S d h:aj}{k:js}{j:jq}{f:Nat->jq}{g:Nat->Nat}{e:jy}{c:List (ZV×V)}{i:jf}(U:Va gt a b H S d h k j f g e c i)(R:YJ a b H' S d h k j f g e c i):Va gt a b H' S d h k j f g e c i:=⟨R,U.wf,U.vl,U.av,U.live,U.l800⟩
def IE{f g:aj}{H:Hp}{S d m:aj}{u:js}{p:jq}{q:Nat->jq}{r:Nat->Nat}{j:jy}{h:List (ZV×V)}{s z:jf}{c:aj}{o':HO}(R:YJ f g H S d m u p q r j h s)(e:H c=some (.lst z))(y:m≠c)(t:∀ i:Nat,i∈p->(j.getD i .d).ab≠c/\(j.getD i .d).th≠c):YJ f g (upd H c o') S d m u p q r j h s:=by
 obtain⟨⟨A,v⟩,w,C⟩:=id R.sh;have k:∀ b o,b≠c->H b=some o->upd H c o' b=some o:=λb o n e=>by rw[ZO n];exact e
 refine R.frame (λb D a=>k _ _ (ZD a e) a) (λo a=>k _ _ (ZD v e) a) (λo a=>k _ _ (ZD w e) a) (λo a=>k _ _ y a) λi l=>?_;obtain⟨B,x⟩:=(R.tw i l).tw.self;exact⟨λo a=>k _ _ (ZD x e) a,λo a=>k _ _ (t i l).2 a,λo a=>k _ _ (t i l).1 a⟩
def N3{f g:aj}{H:Hp}{S d q:aj}{t:js}{s:jq}{m:Nat->jq}{p:Nat->Nat}{l:jy}{h z:List (ZV×V)}{r:jf}{c:aj}{o':HO}(R:YJ f g H S d q t s m p l h r)(e:H c=some (.dK z))(y:d≠c):YJ f g (upd H c o') S d q t s m p l h r:=by
 obtain⟨⟨A,u⟩,C,v⟩:=id R.sh;have k:∀ b o,b≠c->H b=some o->upd H c o' b=some o:=λb o n e=>by rw[ZO n];exact e
 refine R.frame (λb E a=>k _ _ (ZD a e) a) (λo a=>k _ _ (ZD u e) a) (λo a=>k _ _ y a) (λo a=>k _ _ (ZD v e) a) λi j=>?_;obtain⟨B,x⟩:=(R.tw i j).tw.self;obtain⟨D,w,_⟩:=(R.tw i j).things;exact⟨λo a=>k _ _ (ZD x e) a,λo a=>k _ _ (ZD w e) a,λo a=>k _ _ (ZD (R.tw i j).tw.above e) a⟩
def Mt{H a:Hp}{p:aj}(W:ZM H p)(k:∀ o,H p=some o->a p=some o):ZM a p:=by
 obtain⟨b,c,d,e,f,g⟩:=W.ex;exact⟨b,c,d,e,k _ f,g⟩
def WG(a:Pl):jf:=[.ref a.S,.ref a.dT,.ref a.dH,.ref a.gl,.ref a.tl]
inductive XL(gt:jr)(jh ji:aj)(i:jf)(H:Hp)(Q:VK)(_:XK):Prop
 |mk(p h:aj)(b:Int)(a:Pl)(m:Md)(_:i=[.ref p,.ref h,.int b])(_:ZM H p)(_:H h=some (.tup (WG a)))(_:LS gt jh ji H a m)(_:WK a m p)(_:0<=b)(_:b<16)(_:m.lv.length<=50)(_:m.ts.length<=600)(_:∀(e:Hp)(g:Pl)(d:Md),(∀ c o,H c=some o->Zo a m c->Zo g d c/\(c≠p->e c=some o))->ZM e p->LS gt jh ji e g d->WK g d p->WG g=WG a->d.ts.length=m.ts.length+1->d.lv=m.lv++[m.ts.length]->Q (.bl true) e)
abbrev C9:ju:=["_law_well_here","_law_state","_law_block","_law_shelf","_law_twigs","_law_holds","_law_grid_here","_law_told","_law_rows","_law_number"]
def WE:ZC C9 zEn (Zc JN):=Z9
def Fs(n:Nat):iN (zQ n)++[.int (n:Nat)]=iN (zQ (n+1)):=by rw[List.range_succ];simp[iN]
def ZOE{e:jq}{n:Nat}(h:∀ b∈e,b<n):Nl (-1) (e.map λb:Nat=>(b:Int))<(n:Int):=by
 have i:∀(l:jC)(x:Int),x<(n:Int)->(∀ y∈l,y<(n:Int))->QG x l<(n:Int):=λl=>by
  induction l with
  | nil=>intro x a _;exact a
  | cons c l k=>
   intro x a g;unfold QG;rw[tM];refine k _ ?_ λy d=>g y (zH _ d);split
   ·exact g c zM
   ·exact a
 cases e with
 | nil=>show (-1:Int)<_;lia
 | cons b r=>
  show QG _ _<_;refine i _ _ (show ((b:Nat):Int)<(n:Int) by have:=h b zM;lia) λy d=>?_
  obtain⟨z,j,rfl⟩:=zE.mp d;have:=h z (zH _ j);show ((z:Nat):Int)<(n:Int)
  lia
def ZGi{gt:jr}(F:Zp K "_law_put_leaf" "_law_put_leaf" JN f fd)(T:YX mg)(L:Yo K mg jh ji)(DR:ZB P w K mg ki 2 "_law_leaf_rows" zEh Yd)(DM:ZH P w K mg ki Ze 10 jh "put_leaf" zFd (Wy jh ji)):
  ZJ P w K mg ki Ze 11 f fd zEn (XL gt jh ji):=by
 refine F.ko WE λi6 A i1 s H vs Q E hr h=>?_;obtain⟨p,st,b,a,m,rfl,W,e6,q,O,b0,b1,l1,i5,k⟩:=h;have nd:=WE.nd;have hu:=VJ hr;have e5:=hr.mono (show 2<=10 by lia)
 intro Xc;refine⟨_,ZQ (PQ (pv 1) (P3 rfl (XY (Yk 3 nd) (XY (Yk 4 nd) (XY (Yk 5 nd) (XY (Yk 6 nd) (XY (Yk 7 nd) Pv)))))))
  (ZQ (Zs 8 nd (Zr DR e5 (Ut (pv 0) (Zf (pv 6) (pv 2)))))
  (ZQ (Zs 9 nd (XH (E:=E0) (pv 3) L.cS DM hr XA (ZY (Vb Pq rfl T.list Qr (ZY (pv 8))))))
  (ZQ (Zy (PW.pt (VZ (XT (Yf (Zq XW rfl T.isi Yw (Zf (pv 9) (XQ (v:=.ty "int") rfl T.int Q2 rfl))))) (VZ (Yf (Zq XW rfl T.isi Yw (Zf (pv 9) (XQ (v:=.ty "bool") rfl T.bool P7 rfl))))
   (Up (Yh Ux (pv 9) (Cb rfl rfl T.max (ZY (pv 7)) (Dn (P6 Pt ZN) ZOW)) (YE _)))))) WV Z2)
  (ZQ (Wz (UQ yH xJ xI Uk (pv 7) (ZY (pv 9))))
  (ZQ (Qu hu (pv 4) (pv 9) (Yi (Zf Ym (pv 8))) rfl)
  (ZQ (Qu hu (pv 5) (pv 9) ZN rfl)
  (ZX (Zn Vz)))))))),?_⟩
 obtain⟨l5,c1⟩:=W.some;obtain⟨gs,G⟩:=q.gr;have e8:gs.length=64:=by rw[<-G.keys.length,G.len]
 exists _,rfl,st,_,rfl,Zh.of e6,rfl,_,_,rfl,_,_,rfl,_,_,rfl,_,_,rfl,_,_,rfl,rfl;exists _,rfl,_,rfl,_,rfl,p,a.gl,b,gs,gt,rfl,W,O.gl,G.at_,G.keys,G.fit,e8,b0,b1;intro D us rs H1 s1 W1 nD a1 a2 e3 c2 i7 i8;have S1:=q.sx O c1 s1;have l4:us.length=rs.length:=by have:=a2.length;rw[<-this];exact zX _
 have Gd:=Es G.up e3 c2 ∅ ∅
 obtain⟨e7,ls,U1,c4⟩:=S1.sh;obtain⟨dx,e0⟩:=U1.sh.sh.self;exists _,rfl,a.S,dx,_,rfl,e0,rfl,_,rfl,D,us,rfl,.inl (ZG.of a1);intro l9 n9;obtain⟨H2,eU,X,e9⟩:=Xa n9 (.lst us);rw[eU];have S2:=S1.same X;have U2:=U1.sh.same X;exists a.S,a.d,a.lk,l9,m.ts,m.lv,m.av,m.ho,a.as,e7,ls,us,rs,rfl,U2,∅,e9,a2.sm X,Gd
 intro R u nx a5 M fr R3;have i0:∀ y∈(zQ m.ts.length),y<m.ts.length:=λy hy=>xX.mp hy;have U3:=Bs (U1.frame U1.sh) ∅ (Ej Gd c2) R3
 have U:=S2.lo (H':=R) λc o n1 n2 n3 n4 e=>fr c o n1 n2 e;have j:=U.told;have c0:(iN (zQ m.ts.length))=((zQ m.ts.length).map λb:Nat=>(b:Int)).map V.int:=by rw[zF];rfl
 refine⟨_,rfl,_,_,_,_,rfl,.int _,OU,_,rfl,Zk ?_⟩;refine⟨_,rfl,_,_,_,_,rfl,.int _,NT,_,rfl,Zk ?_⟩;exists _,rfl,_,rfl,1,rfl,a.tl,(zQ m.ts.length).map (λb:Nat=>(b:Int)),-1,rfl,rfl,ZG.of (by rw[<-c0];exact j),_,_,rfl,rfl,_,rfl
 rw[aM (by have:=ZOE i0;lia)]
 refine Zk ?_;exists _,rfl,.inl ⟨rfl,_,ZG.of j⟩,_,rfl,a.tl,_,.int (m.ts.length:Nat),rfl,rfl,j,YS (by simp[iN];lia)
 obtain⟨x,r,hH⟩:=U.hd;obtain⟨Yy,l⟩:=U.lw;obtain⟨c8,G3⟩:=U.gr;have c9:R D=some (.lst us):=by
  have e:=X _ _ a1;obtain⟨⟨dS,hS⟩,hk,_⟩:=U2.sh;exact fr _ _ (ZD e hS) (ZD e hk) e
 have i3:YO H1 R:=λc ys e=>by
  obtain⟨⟨dS,hS⟩,hk,_⟩:=U2.sh;have C:=X _ _ e;exact fr _ _ (ZD C hS) (ZD C hk) C
 have e4:=a2.mono i3 _ _;have g:∀ c,H2 c=none->H c=none:=λc e=>by
  cases z:H c with
  | none=>rfl
  | some o=>
   by_cases y:c=p
   ·subst y;obtain⟨xs,C⟩:=W1.some;rw[X _ _ C] at e;cases e
   ·rw[X _ _ (s1 _ _ z y)] at e;cases e
 have N:a.tl≠u.ab/\a.tl≠u.th:=⟨Zb S2.told M,Zb S2.told a5⟩;have c5:∀ i:Nat,i∈m.lv++[m.ts.length]->((a.as++[u]).getD i .d).ab≠a.tl/\((a.as++[u]).getD i .d).th≠a.tl:=λi hi=>by
  by_cases z:i=m.ts.length
  ·subst z;obtain⟨e1,e2,_,_⟩:=OR (new:=u) (D:=D) q;exact⟨λy=>N.1 (by rw[<-e1];exact y.symm),λy=>N.2 (by rw[<-e2];exact y.symm)⟩
  ·obtain⟨e1,e2,_,_⟩:=OJ (new:=u) (D:=D) q (i:=i) (UH hi z);have t2:=q.t2 i (UH hi z);exact⟨λy=>t2.1 (by rw[<-e1];exact y.symm),λy=>t2.2.1 (by rw[<-e2];exact y.symm)⟩
 have R4:=IE (o':=.lst (iN (zQ m.ts.length)++[.int (m.ts.length:Nat)])) R3 j q.tt.1.symm c5;have B:∀ c o,c≠a.tl->R c=some o->upd R a.tl (.lst (iN (zQ m.ts.length)++[.int (m.ts.length:Nat)])) c=some o:=λc o n e=>by rw[ZO n];exact e
 have Y:upd R a.tl (.lst (iN (zQ m.ts.length)++[.int (m.ts.length:Nat)])) a.tl=some (.lst (iN (zQ (m.ts.length+1)))):=by rw[ZR,Fs]
 generalize upd R a.tl (.lst (iN (zQ m.ts.length)++[.int (m.ts.length:Nat)]))=H4 at R4 B Y⊢;exists _,rfl,Z7;intro t nt;obtain⟨H5,eU,g5,t5⟩:=Xa nt (.tup [.str "leaf",.ref D]);rw[eU];have R5:=R4.same g5;have a0:H5 a.dT=some (.dK Yy):=g5 _ _ (B _ _ (ZD l.dict j) l.dict);have l3:Yy.length=m.lv.length:=by have:=congrArg yA l.keys;simpa using this
 have l2:x.length=m.lv.length:=by have:=congrArg yA hH.1;simpa using this
 exists _,rfl,_,rfl,a.dT,_,rfl,XU.k (k:=Sum.inl (m.ts.length:Int)) a0 (YS ∅)
 have R6:=N3 (o':=.dK (Zv Yy (.inl (m.ts.length:Int)) (.ref t))) R5 a0 q.dd.1.symm;have I:∀ c o,c≠a.dT->H5 c=some o->upd H5 a.dT (.dK (Zv Yy (.inl (m.ts.length:Int)) (.ref t))) c=some o:=λc o n e=>by rw[ZO n];exact e
 have a9:upd H5 a.dT (.dK (Zv Yy (.inl (m.ts.length:Int)) (.ref t))) a.dT=some (.dK (Zv Yy (.inl (m.ts.length:Int)) (.ref t))):=ZR;generalize upd H5 a.dT (.dK (Zv Yy (.inl (m.ts.length:Int)) (.ref t)))=H6 at R6 I a9⊢;have a7:H6 a.dH=some (.dK x):=I _ _ q.dd.2.2.symm (g5 _ _ (B _ _ (ZD r j) r));exists _,rfl,_,rfl,a.dH,_,rfl,XU.k (k:=Sum.inl (m.ts.length:Int)) a7 (YS ∅)
 have R7:=N3 (o':=.dK (Zv x (.inl (m.ts.length:Int)) (.int 1))) R6 a7 q.dd.2.1.symm;have J:∀ c o,c≠a.dH->H6 c=some o->upd H6 a.dH (.dK (Zv x (.inl (m.ts.length:Int)) (.int 1))) c=some o:=λc o n e=>by rw[ZO n];exact e
 have a8:upd H6 a.dH (.dK (Zv x (.inl (m.ts.length:Int)) (.int 1))) a.dH=some (.dK (Zv x (.inl (m.ts.length:Int)) (.int 1))):=ZR;generalize upd H6 a.dH (.dK (Zv x (.inl (m.ts.length:Int)) (.int 1)))=Z at R7 J a8⊢;have a3:∀ c o,c≠a.tl->c≠a.dT->c≠a.dH->R c=some o->Z c=some o:=λc o n1 n2 n3 e=>J _ _ n3 (I _ _ n2 (g5 _ _ (B _ _ n1 e)));have a6:YO R Z:=λc ys e=>a3 _ _ (ZD e j) (ZD e l.dict) (ZD e r) e;have a4:∀ c xs,c≠a.tl->R c=some (.lst xs)->Z c=some (.lst xs):=λc xs n e=>a3 _ _ n (ZD e l.dict) (ZD e r) e;have tD:a.tl≠D:=Zb q.told nD;have c6:D≠u.ab:=Zb (X _ _ a1) M;have i2:Z t=some (.tup [.str "leaf",.ref D]):=J _ _ (ZD t5 (g5 _ _ (B _ _ (ZD r j) r))) (I _ _ (ZD t5 a0) t5);have c7:LS gt jh ji Z (a.push u D) ⟨m.ts++[Y5 rs],m.lv++[m.ts.length],WS m.ts.length m.av,Xb m.ts.length m.ho⟩:=by
  refine GV q (g _ a5) (g _ M) nD c6 ⟨_,ls,U3.frame R7,c4⟩ ⟨_,GN (tp:=t) l (λb hb=>by cases hb) a6 (λi hi o e=>?_) ?_ ?_ (a4 _ _ tD.symm c9) (λ_=>e4.mono a6 _ _) (λz=>absurd rfl z)⟩ ⟨_,a8,HS (λi hi=>q.lt hi) hH⟩ ⟨c8,G3.frame a6 (a4 _ _ q.tt.2.1.symm G3.at_)⟩ ?_ ∅ ∅
  ·obtain⟨tp,i4,_,_,C,_⟩:=l.tw i hi;have:o=.lst i4:=by have:=e.symm.trans C;exact zJ.inj this
   subst this;exact a4 _ _ (q.t3 i hi).1 e
  ·exact J _ _ q.dd.2.2 a9
  ·exact i2
  ·exact J _ _ (ZD Y (B _ _ (ZD r j) r)) (I _ _ (ZD Y (B _ _ (ZD l.dict j) l.dict)) (g5 _ _ Y))
 have c3:∀ c o,c≠a.S->c≠a.d->c≠a.tl->c≠a.dT->c≠a.dH->H1 c=some o->Z c=some o:=λc o n1 n2 n3 n4 n5 e=>a3 _ _ n3 n4 n5 (fr _ _ n1 n2 (X _ _ e));have W7:ZM Z p:=Mt W1 λo e=>by
  obtain⟨xs,C⟩:=W1.some;have eo:o=.lst xs:=by have:=e.symm.trans C;exact zJ.inj this
  subst eo;obtain⟨⟨dS,hS⟩,hk,_⟩:=U1.sh.sh;obtain⟨l0,LA⟩:=S1.lw;obtain⟨i9,hA,_⟩:=S1.hd;exact c3 _ _ (ZD C hS) (ZD C hk) O.tl.symm (ZD C LA.dict) (ZD C hA) C
 have pn:∀ c,H c=none->c≠p:=λc e=>(Zb c1 e).symm;refine k Z _ _ (λc o e v=>?_) W7 c7 (O.push q (pn _ (g _ a5)) (pn _ (g _ M)) (pn _ nD)) rfl (by simp) rfl
 obtain⟨v1,v2,v3,v4,v5,v6,v7⟩:=id v;exact⟨v.push q (Zb e (g _ nx)) (Zb e (g _ M)),λcp=>c3 _ _ v1 v2 v6 v4 v5 (s1 _ _ e cp)⟩
abbrev JO:Stmt:=Xy (top 36) 4
structure Z4(K:zZ)(C:aj)(m q:Str)(st:aC)(ps:ju):Prop where
 ex:∃ f fd,UG K C m f/\Zp K m q st f fd/\Z8 K fd ps []
def Z4.of{P:am}{w:aw}{K:zZ}{g:jc}{a:aD}{e:Ws}{C:aj}{m q:Str}{j:aC}{d:ju}{k:Nat}{i:Sp}(L:Z4 K C m q j d)(h:∀ f c,Zp K m q j f c->ZJ P w K g a e k f c d i):ZH P w K g a e k C m d i:=by
 obtain⟨f,c,M,F,b⟩:=L.ex;exact⟨f,c,M,h f c F,b⟩
section
variable{jh ji:aj}{H H':Hp}{S d lk:aj}{ts:js}{lv:jq}{av:Nat->jq}{ho:Nat->Nat}{as:jy}{kvs:List (ZV×V)}{ls:jf}{b i:Nat}
def YJ.set1(R:YJ jh ji H S d lk ts lv av ho as kvs ls)(g:b∈lv){av':Nat->jq}{ho':Nat->Nat}(B:∀ c,c≠b->av' c=av c)(C:∀ c,c≠b->ho' c=ho c)(F:∃ u,H' (as.getD b .d).x=some (.ins ji u (Ug (.ref (as.getD b .d).th) (.ref (as.getD b .d).tg) (as.getD b .d).ab (ho' b))))(E:H' (as.getD b .d).ab=some (.lst (iN (av' b))))(k:∀ c o,c≠(as.getD b .d).x->c≠(as.getD b .d).ab->H c=some o->H' c=some o):YJ jh ji H' S d lk ts lv av' ho' as kvs ls:=by
 obtain⟨⟨t,r⟩,n,s⟩:=R.sh;have h:=R.tw b g;obtain⟨v,a⟩:=h.tw.self;have f:=h.tw.above;obtain⟨L,q,y,A⟩:=h.things;have m:YO H H':=λc U e=>k c _ (ZD e a) (ZD e f) e;refine⟨⟨⟨t,k _ _ (R.own b g).1.symm (ZD r f) r⟩,k _ _ (ZD n a) (ZD n f) n,k _ _ (ZD s a) (R.own b g).2.1.symm s⟩,R.keys,R.val,R.lt,R.len,λi l=>?_,R.own,R.two⟩;by_cases z:i=b
 ·subst z;exact⟨⟨F,E⟩,⟨L,k _ _ (ZD q a) (R.own i l).2.2.2.symm q,λz=>(y z).mono m _ _,A⟩,h.tag.mono m⟩
 ·have j:=R.tw i l;obtain⟨J,K,P,Q⟩:=R.two i b l g z;obtain⟨M,N,I,O⟩:=R.two b i g l (Ne.symm z);obtain⟨w,p⟩:=j.tw.self;obtain⟨T,D,_⟩:=j.things;have G:=j.frame m (λo e=>k _ _ J (ZD p f) e) (λo e=>k _ _ (ZD D a) I.symm e) (λo e=>k _ _ (ZD j.tw.above a) K e);refine⟨?_,G.things,G.tag⟩;rw[B i z,C i z];exact G.tw
end
def Oj(a:Nat->Nat)(b:Nat):Nat->Nat:=λi=>if i=b then a i+1 else a i
inductive Qm(jh ji:aj)(n:jf)(H:Hp)(Q:VK)(_:XK):Prop
 |mk(S d k:aj)(m:js)(h:jq)(i:Nat->jq)(j:Nat->Nat)(g:jy)(a:List (ZV×V))(l:jf)(b:Nat)(_:n=[.ref S,.int (b:Nat)])(_:YJ jh ji H S d k m h i j g a l)(_:b∈h)(_:∀ e:Hp,(∀ c o,c≠(g.getD b .d).x->H c=some o->e c=some o)->YJ jh ji e S d k m h i (Oj j b) g a l->Q .non e)
def Ql:ZC zFa zEa (Zc JO):=Z9
def AV(F:Zp K "hold" "Shelf.hold" JO f fd)(L:Yo K mg jh ji)(u:ZH P w K mg ki Ze 1 jh "twig_of" zEa (Zu jh)):ZJ P w K mg ki Ze 2 f fd zEa (Qm jh ji):=by
 refine F.ko Ql λy A q s H T Q E C h=>?_;obtain⟨S,d,D,M,O,v,i,g,p,G,b,rfl,R,l,k⟩:=h;have J:=Ql.nd;intro N;refine⟨_,ZQ (Zs 2 J (XH (E:=E0) (pv 0) L.cS u C XA (ZY (pv 1))))
  (ZX (FQ (pv 2) ZN Ex)),?_⟩
 obtain⟨z,B⟩:=R.sh.self;have t:=R.tw b l;obtain⟨j,m⟩:=t.tw.self;have a:=t.tw.above;exists _,rfl,S,z,_,rfl,B,rfl,_,rfl,S,d,D,M.length,p,G,(b:Int),.ref (g.getD b .d).x,rfl,R.sh,R.val b l;exists _,rfl,(g.getD b .d).x,ji,j,_,.int (i b:Nat),rfl,m,L.cT,L.nho,rfl,_,_,rfl,rfl,j,_,m,yO rfl;have r:(g.getD b .d).ab≠(g.getD b .d).x:=ZD a m;refine k _ (λc o n e=>by rw[ZO n];exact e) (R.set1 l (av':=v) (ho':=Oj i b) (λ_ _=>rfl) (λc n=>aP n) ⟨j,?_⟩ ?_ λc o I _ e=>by rw[ZO I];exact e)
 ·rw[ZR,show Oj i b b=i b+1 from aQ rfl];rfl
 ·rw[ZO r];exact a
def ZOx{c:List (ZV×V)}{d:jq}{b:Nat}{a:Nat->Nat}(h:UV c d a)(e:b∈d):UV (Zv c (.inl (b:Int)) (.int (((a b:Nat):Int)+1))) d (Oj a b):=by
 exists by rw[LV (h.2 b e)];exact h.1
 intro i f;rw[Qg];by_cases z:i=b
 ·subst z;rw[aQ rfl,show Oj a i i=a i+1 from aQ rfl];rfl
 ·rw[aP (λy=>z (Y4.mp y)),show Oj a b i=a i from aP z];exact h.2 i f
inductive VE(gt:jr)(jh ji:aj)(g:jf)(H:Hp)(Q:VK)(_:XK):Prop
 |mk(p e:aj)(a:Pl)(m:Md)(_:g=[.ref p,.ref e])(_:ZM H p)(_:H e=some (.tup (WG a)))(_:LS gt jh ji H a m)(_:WK a m p)(_:0<m.lv.length)(_:∀(b:Hp)(d:Md),(∀ c o,c≠p->Zo a m c->H c=some o->b c=some o)->ZM b p->LS gt jh ji b a d->d.ts=m.ts->d.lv=m.lv->Q (.bl true) b)
abbrev ZO0:ju:=["_law_well_here","_law_state","_law_shelf","_law_twigs","_law_holds","_law_grid_here","_law_told","_law_number"]
def UY:ZC ZO0 zEf (Zc Ka):=Z9
def ZKW{gt:jr}(F:Zp K "_law_hold" "_law_hold" Ka f fd)(T:YX mg)(L:Yo K mg jh ji)(DK:ZB P w K mg ki 2 "_law_picked" zEi Ya)(DM:ZH P w K mg ki Ze 2 jh "hold" zEa (Qm jh ji)):
  ZJ P w K mg ki Ze 3 f fd zEf (VE gt jh ji):=by
 refine F.ko UY λa6 A a4 s H vs Q E hr h=>?_;obtain⟨p,st,a,m,rfl,W,a2,r,O,l0,k⟩:=h;have D:=UY.nd;have hu:=VJ hr;intro Xc;refine⟨_,ZQ (PQ (pv 1) (P3 rfl (XY (Yk 2 D) (XY (Yk 3 D) (XY (Yk 4 D) (XY (Yk 5 D) (XY (Yk 6 D) Pv)))))))
  (ZQ (Zs 7 D (Zr DK hr (Zf (pv 0) (Zq (PR rfl) rfl T.sorted Q7 (ZY (pv 3))))))
  (ZQ (Qu hu (pv 4) (pv 7) (Z0 WZ (VX hu (pv 4) (pv 7)) ZN) rfl)
  (ZX (Zn (Gb (OS (XH (E:=E0) (pv 2) L.cS DM hr XA (ZY (pv 7))))))))),?_⟩
 obtain⟨a7,J⟩:=W.some;obtain⟨a5,Lw⟩:=r.lw;have a3:=r.l64;have eL:(m.lv.map λi:Nat=>(i:Int)).map V.int=iN m.lv:=by rw[zF];rfl
 exists _,rfl,st,_,rfl,Zh.of a2,rfl,_,_,rfl,_,_,rfl,_,_,rfl,_,_,rfl,_,_,rfl,rfl;exists _,rfl,_,rfl,a.dT,a5,m.lv.map λi:Nat=>(i:Int),rfl,Lw.dict,(by rw[Lw.keys,zF];rfl),Uz Lw.vl.up,by simpa using a3
 intro q nq;rw[eL];obtain⟨H1,eU,g1,hq⟩:=Xa nq (.lst (iN m.lv));rw[eU];exists p,q,iN m.lv,rfl,W.same g1,(Zb J nq).symm,hq,by rw[zX];exact l0,by rw[zX];lia
 intro x t x2 W2 hx;obtain⟨b,I,rfl⟩:=zE.mp hx;have xx:ZI p H t:=(ZI.of g1).trans x2;have B:=r.sx O J xx;obtain⟨R,ls,U,X⟩:=B.sh;obtain⟨Yy,u⟩:=B.lw;obtain⟨j,g,hH⟩:=B.hd;obtain⟨gs,G⟩:=B.gr;have lh:j.length=m.lv.length:=by have:=congrArg yA hH.1;simpa using this
 have hg:Zx t a.dH (.int (b:Nat)) (some (.int (m.ho b:Nat))):=hH.2 b I ▸ Zx.k (k:=Sum.inl (b:Int)) g;exists _,rfl,_,rfl,a.dH,.int (m.ho b:Nat),rfl,hg,_,_,rfl,rfl,_,rfl,_,rfl,a.dH,_,rfl,XU.k (k:=Sum.inl (b:Int)) g (YS ∅)
 have Y:=N3 (o':=.dK (Zv j (.inl (b:Int)) (.int (((m.ho b:Nat):Int)+1)))) U.sh g r.dd.2.1.symm;have Z:∀ c o,c≠a.dH->t c=some o->upd t a.dH (.dK (Zv j (.inl (b:Int)) (.int (((m.ho b:Nat):Int)+1)))) c=some o:=λc o n e=>by rw[ZO n];exact e
 have y:upd t a.dH (.dK (Zv j (.inl (b:Int)) (.int (((m.ho b:Nat):Int)+1)))) a.dH=some (.dK (Zv j (.inl (b:Int)) (.int (((m.ho b:Nat):Int)+1)))):=ZR;generalize upd t a.dH (.dK (Zv j (.inl (b:Int)) (.int (((m.ho b:Nat):Int)+1))))=H3 at Y Z y⊢;obtain⟨dS,hS⟩:=Y.sh.self;obtain⟨dx,N⟩:=(Y.tw b I).tw.self;exists _,rfl,a.S,dS,_,rfl,hS,rfl,_,rfl,a.S,a.d,a.lk,m.ts,m.lv,m.av,m.ho,a.as,R,ls,b,rfl,Y,I;intro H4 fr R4;have l:∀ c o,c≠a.dH->(∀ C dx fs,o≠.ins C dx fs)->t c=some o->H4 c=some o:=λc o n ni e=>fr _ _ (ZD (Z c o n e) N (ni _ _ _)) (Z c o n e);have tu:YO t H4:=λc ys e=>l c _ (ZD e g) (by intro _ _ _ z;cases z) e
 have a0:=fr _ _ (ZD y N) y;refine k H4 ⟨m.ts,m.lv,m.av,Oj m.ho b⟩ (λc o np v e=>fr _ _ (v.2.2.2.2.2.2 b I).1 (Z c o v.2.2.2.2.1 (xx _ _ e np))) (by obtain⟨a1,b1,c1,d1,M,rr⟩:=W2.ex;exact⟨a1,b1,c1,d1,l _ _ (ZD M g) (by intro _ _ _ z;cases z) M,rr⟩) ⟨⟨R,ls,⟨R4,U.wf,U.vl,U.av,λi hi=>zD (U.live i hi) (Nat.add_le_add_left ?_ _),U.l800⟩,X⟩,⟨Yy,u.frame tu (l _ _ r.dd.2.2 (by intro _ _ _ z;cases z) u.dict) λi hi o e=>?_⟩,⟨_,a0,ZOx hH I⟩,⟨gs,G.frame tu (l _ _ (ZD G.at_ g) (by intro _ _ _ z;cases z) G.at_)⟩,l _ _ (ZD B.told g) (by intro _ _ _ z;cases z) B.told,r.dd,r.tt,r.t2,r.t3,r.l64,r.l700⟩ rfl rfl
 ·show m.ho i<=(if i=b then m.ho i+1 else m.ho i)
  split <;> lia
 ·obtain⟨tp,us,_,_,e3,_⟩:=u.tw i hi;have:=e.symm.trans e3;cases this;exact l _ _ (ZD e g) (by intro _ _ _ z;cases z) e
abbrev XB:=jR×jR
abbrev jG:=List XB
inductive Uo(H:Hp):jR->V->Prop
 | key {t:KT} {v:V}:ZF H t v->t.fits 3=true->Uo H (some t) v
 | tru:Uo H none (.bl true)
 | non:Uo H none .non
inductive V5(H:Hp)(r:XB)(u:V):Prop
 |mk(a:aj)(b c:V):u=.ref a->H a=some (.tup [b,c])->Uo H r.1 b->Uo H r.2 c->V5 H r u
structure Zj(H:Hp)(rs:jG)(us:jf):Prop where
 len:us.length=rs.length
 at_:∀ i u,us[i]? = some u->V5 H (rs.getD i (none,none)) u
def Uo.mono{H a:Hp}{o:jR}{v:V}(h:Uo H o v)(m:YO H a):Uo a o v:=by
 cases h with
 | key k f=>exact .key (k.mono m _ _) f
 | tru=>exact .tru
 | non=>exact .non
def V5.mono{H b:Hp}{r:XB}{u:V}(h:V5 H r u)(m:YO H b):V5 b r u:=by
 obtain⟨a,g,i,c,d,e,f⟩:=h;exact⟨a,g,i,c,m _ _ d,e.mono m,f.mono m⟩
def Zj.mono{H a:Hp}{b:jG}{c:jf}(h:Zj H b c)(m:YO H a):Zj a b c:=⟨h.len,λi u e=>(h.at_ i u e).mono m⟩
def Zj.app{H:Hp}{f a:jG}{c b:jf}(h:Zj H f c)(d:Zj H a b):Zj H (f++a) (c++b):=by
 exists by rw[yS,yS,h.len,d.len]
 intro i u e;rw[zW];rcases yU i c.length with z | z
 ·rw[xB z] at e;rw[xB (by rw[<-h.len];exact z),<-zW]
  exact h.at_ i u e
 ·rw[xA z] at e;rw[xA (by rw[<-h.len];exact z),<-h.len,<-zW]
  exact d.at_ _ u e
def Zj.nil{H:Hp}:Zj H [] []:=⟨rfl,λi u e=>by simp at e⟩
def Zj.one{H:Hp}{r:XB}{u:V}(h:V5 H r u):Zj H [r] [u]:=⟨rfl,λi v e=>by
 cases i with
 | zero=>cases e;exact h
 | succ i=>simp at e⟩
def OH(r:Xt):XB:=(some r.1,some r.2)
def Yt(r:XB):Xt:=(r.1.getD (.int 0),r.2.getD (.int 0))
def EJ{H:Hp}{b:jJ}{c:jf}(h:jX H (Ys b) c)(f:∀ r∈b,r.fit):Zj H (b.map OH) c:=by
 have l:c.length=b.length:=by have:=h.length;rw[<-this];exact zX _
 exists by rw[zX];exact l
 intro i u e;obtain⟨a,o,p,d,j,k,m,n⟩:=NF h e;have g:=f _ (zB d);rw[zW,zN,d];exact⟨a,o,p,j,k,.key m g.1,.key n g.2⟩
def Ml(a:jJ):(a.map OH).map Yt=a:=by
 rw[zF]
 conv=>rhs;rw[<-List.map_id a]
 rfl
def Vi(a:jG):Bool:=a.all λr=>r.1.isSome&&r.2.isSome
def Uy(a:jr):Bool:=((zQ (a.length-1)).map λj=>(a.getD j (.int 0)).lt (a.getD (j+1) (.int 0))).all id
def Y6(a:jG):Nat:=if Vi a=true then (if 1<=a.length/\a.length<=4/\Uy ((a.map Yt).map (·.1))=true then 2 else 1) else 0
def Kw{a:jG}{r:XB}{i:Nat}(e:a[i]? = some r)(h:(r.1.isSome&&r.2.isSome)=false):Vi a=false:=by
 refine vA.mpr λz=>?_;have:=zO.mp z r (zB e);rw[h] at this;cases this
def Kn{d:jr}(h:Uy d=true):d.Pairwise λa b=>a.lt b=true:=by
 unfold Uy at h;rw[xT,zO] at h;have i:∀ j,j+1<d.length->(d.getD j (.int 0)).lt (d.getD (j+1) (.int 0))=true:=λj k=>h j (xX.mpr ∅)
 clear h
 induction d with
 | nil=>exact .nil
 | cons a d l=>
  have e:=l λj k=>by
   have:=i (j+1) (by rw[yY];lia)
   simpa using this
  refine wG.mpr ⟨λb g=>?_,e⟩
  cases d with
  | nil=>cases g
  | cons c d=>
   have f:a.lt c=true:=by
    have:=i 0 (by simp)
    simpa using this
   rcases zG.mp g with z | z
   ·rw[z];exact f
   ·exact lt_trans' _ _ _ f ((wG.mp e).1 b z)
def ZPl{P:am}{w:aw}{K:zZ}{l:jc}{a:aD}{f:aj}{i:ao}{n:Ws}{j k:Nat}{m:ju}{x g:Sp}(F:ZJ P w K l a Ze j f i m x)(G:ZJ P w K l a n k f i m g)(h:j<=k):ZJ P w K l a n k f i m (λd H Q E=>x d H Q E\/g d H Q E):=by
 exists λd H Q E z=>z.elim (F.len d H Q E) (G.len d H Q E);intro A b s H args y d Q E t q p v z;rcases z with z | z
 ·refine codeAny_mono (F.run A b s H args y d Q E (t.mono h) q p v z) λr B c=>?_
  cases r with
  | ok o=>
   cases o with
   | ret u=>exact c
   | _=>exact c.elim
  | error e=>exact c.elim
 ·exact G.run A b s H args y d Q E t q p v z
def UW{K:zZ}:yV K (.type "NoneType") (.type "bool")=some false/\yV K (.type "NoneType") (.type "int")=some false/\yV K (.type "NoneType") (.type "str")=some false/\yV K (.type "NoneType") (.type "tuple")=some false:=⟨by kernel_rfl,by kernel_rfl,by kernel_rfl,by kernel_rfl⟩
inductive VS:Sp
 |mk{v:V}{r:Int}{H:Hp}{Q:VK}{E:XK}:v=.bl true\/v=.non->Q (.bl false) H->VS [v,.int r] H Q E
def Bj{n:Nat}(F:Zp K "fits" "fits" MT f fd)(T:YX mg)(c:ZB P w K mg ki 1 "has_few_figures" zE8 Vm)(j:ZB P w K mg ki 1 "is_sign" ["sign"] WM)(i:ZB P w K mg ki (n+1) "fits" zEs (XE n)):ZJ P w K mg ki Ze (n+2) f fd zEs VS:=by
 refine F.ko GQ λd A b s H r Q E e h=>?_;obtain⟨g,k⟩:=h;have a:=e.mono (show 1<=n+1 by lia)
 obtain⟨p,m⟩:=T.signs;obtain⟨q,o⟩:=T.things;intro l;refine⟨_,ZQ (Zy (Yf (Zq XW rfl T.isi Yw (Zi (pv 0) (Zi (XQ (v:=.ty "bool") rfl T.bool P7 rfl) Zt)))) (ZX (Zn Vz)) Z2)
  (ZQ (Zy (Yf (Zq XW rfl T.isi Yw (Zi (pv 0) (Zi (XQ (v:=.ty "int") rfl T.int Q2 rfl) Zt)))) (ZX (Zn (Zr c a (Zi (pv 0) Zt)))) Z2)
  (ZQ (Zy (Yf (Zq XW rfl T.isi Yw (Zi (pv 0) (Zi (XQ (v:=.ty "str") rfl T.str NJ rfl) Zt)))) WV Z2)
  (ZQ (Zy (Yf (Zq XW rfl T.isi Yw (Zi (pv 0) (Zi (XQ (v:=.ty "tuple") rfl T.tuple Qs rfl) Zt)))) WV Z2)
  (ZX (Zn Vz))))),?_⟩
 rcases g with rfl | rfl
 ·exact⟨_,rfl,_,_,_,_,rfl,.bl true,Kk,_,rfl,Z1 k⟩
 ·refine⟨_,rfl,_,_,_,_,rfl,.non,UW.1,_,rfl,Zk ?_⟩;refine⟨_,rfl,_,_,_,_,rfl,.non,UW.2.1,_,rfl,Zk ?_⟩;refine⟨_,rfl,_,_,_,_,rfl,.non,UW.2.2.1,_,rfl,Zk ?_⟩;exact⟨_,rfl,_,_,_,_,rfl,.non,UW.2.2.2,_,rfl,Zk k⟩
inductive WO:Sp
 |mk{v:V}{o:jR}{H:Hp}{Q:VK}{E:XK}:Uo H o v->(∀ a,ZA H a->Q (.bl o.isSome) a)->WO [v] H Q E
def ZJX(F:Zp K "is_key" "is_key" KO f fd)(T:YX mg)(d:ZB P w K mg ki 5 "fits" zEs (λb H Q E=>XE 4 b H Q E\/VS b H Q E)):ZJ P w K mg ki Ze 6 f fd zE4 WO:=by
 refine F.ko B6 λg A a s H b Q E j h=>?_;obtain⟨l,k⟩:=h;obtain⟨p,m⟩:=T.deep;intro o;exists _,ZX (Zn (Zr d j (Zi (pv 0) (Zi (Wj (v:=.int 3) rfl m ⟨_,rfl⟩) Zt))))
 cases l with
 | key i c=>exact⟨_,rfl,.inl ⟨_,_,3,3,rfl,i,c,by decide,λe n=>by rw[c];exact k e n⟩⟩
 | tru=>exact⟨_,rfl,.inr ⟨.inl rfl,k H (ZA.refl H)⟩⟩
 | non=>exact⟨_,rfl,.inr ⟨.inr rfl,k H (ZA.refl H)⟩⟩
structure XZ(K:zZ)(mg:jc)(nm:Str)(C:aj):Prop where
 at_:mg nm=some (.ref C)
 exk:wJ K C QZ "ValueError.__new__" = true
 kp:yW K (.ref C)=true
 mB:zI K C (.type "BaseException")=some true
 ty:yQ K (.ref C)=some (.type "type")
inductive Ue(CK:aj):Sp
 |mk{v:V}{o:jR}{H:Hp}{Q:VK}{E:XK}:Uo H o v->(o.isSome=true->∀ a,ZA H a->Q v a)->(o.isSome=false->∀ a,ZA H a->E (.ref CK) none a)->Ue CK [v] H Q E
def ZGd(F:Zp K "checked" "checked" Ia f fd)(a:K.In ki)(L:XZ K mg "NoKey" CK)(g:ZB P w K mg ki 6 "is_key" zE4 WO):ZJ P w K mg ki (YC P w) 7 f fd zE4 (Ue CK):=by
 refine F.kD ZIU λi A b s H p Q E j h=>?_;obtain⟨k,l,m⟩:=h;intro n;exists _,ZQ (Zy (XT (Yf (Zr g j (ZY (pv 0))))) (ZX (MZ VA (NK a L.at_ L.exk) L.kp L.mB L.ty rfl)) Z2) (ZX (Zn (pv 0)));refine⟨_,rfl,k,λc d=>⟨_,rfl,?_⟩⟩;rename_i v o
 cases e:o.isSome with
 | true=>exact Zk ⟨_,rfl,l e c d⟩
 | false=>exact Z1 (m e c d)
inductive VC(CK:aj):Sp
 |mk{l:aj}{e:jf}{b:jG}{H:Hp}{Q:VK}{E:XK}:H l=some (.lst e)->Zj H b e->e.length<=100->(Vi b=false->∀ a,ZA H a->E (.ref CK) none a) ->
  (Vi b=true->∀(a:Hp)(d:aj)(c:jf),ZA H a->H d=none->a d=some (.lst c)->jX a (Ys (b.map Yt)) c->(∀ r∈b.map Yt,r.fit)->Q (.ref d) a)->VC CK [.ref l] H Q E
def BS(F:Zp K "own_rows" "own_rows" Ky f fd)(DC:Wa P w K mg ki 7 "checked" zE4 (Ue CK)):ZJ P w K mg ki (YC P w) 8 f fd zEv (VC CK):=by
 refine F.kD ZIc λa5 A a3 s H vs Q E U h=>?_;obtain⟨T,hk,a4,k1,k2⟩:=h;rename_i l B c
 have lk:=hk.len;intro Xc;refine⟨_,ZX (Zn (Gg (E1:=E) [] [] VA (λ_ _ _ h=>h) (Wq (pv 0)) (λ_ _ _ _ _=>Uh)
   (λ_ _ _ _ _ hp=>Yi (Zf (NG (E:=E) DC U hp (ZY (Zm K (pv 0) ZN))) (NG (E:=E) DC U hp (ZY (Zm K (pv 0) ZN))))) trivial)),?_⟩
 exists _,rfl,l,rfl,⟨B,ZG.of T⟩;refine UT (n:=B.length) (λi z=>B[i]? = some z) (λD i y x=>ZA H x/\H D=none/\jX x (Ys ((c.take i).map Yt)) y/\(∀ r∈(c.take i).map Yt,r.fit)/\Vi (c.take i)=true) (YS ∅)
  (λD i y x Z t=>⟨B,B[i],ZG.of (t.1 _ _ T),by simp[Z]⟩) (λD i y x z X Z t hy=>⟨hy.1,hy.2 B (ZG.of (t.1 _ _ T))⟩) (λD y x t=>⟨B,ZG.of (t.1 _ _ T),zY _⟩)
  (λD hD=>⟨Zg hD _,hD,.nil,λr U=>by simp at U,rfl⟩) (λD i y x z Y a6 Z hz t R hR=>?_) (λD y x Y t=>?_)
 ·obtain⟨p,V,v,u,k⟩:=t;obtain⟨a,L,M,e1,e2,O,S⟩:=hk.at_ i z hz;subst e1;have e3:=p _ _ e2;have a0:i<c.length:=∅
  have C:c[i]? = some c[i]:=zV a0;have eg:c.getD i (none,none)=c[i]:=by rw[zW,C];rfl
  rw[eg] at O S;refine⟨_,rfl,.inr (.inl ⟨a,_,_,L,rfl,rfl,Zh.of e3,rfl,O.mono (ZA.tups p),λd X G=>?_,λd X G=>k1 (Kw C (by rw[d];rfl)) X (p.trans G)⟩)⟩
  refine⟨_,rfl,.inr (.inl ⟨a,_,_,M,rfl,rfl,Zh.of (G _ _ e3),rfl,S.mono (ZA.tups (p.trans G)),λj N s5=>?_,λj N s5=>k1 (Kw C (by rw[j,Bool.and_false])) N ((p.trans G).trans s5)⟩)⟩
  exists Z7;intro q hq;have g:=Zg hq (.tup [L,M]);have m:=(G.trans s5).trans g;have I:=m _ _ Y;have W:YO (upd N q (.tup [L,M])) (upd (upd N q (.tup [L,M])) D (.lst (y++[.ref q]))):=λb xs e=>by rw[ZO (ZD e I)];exact e
  obtain⟨a1,f1⟩:ZF H (Yt c[i]).1 L/\(Yt c[i]).1.fits 3=true:=by
   unfold Yt;generalize c[i].1=o at O d
   cases O with
   | key a b=>exact⟨a,b⟩
   | tru=>cases d
   | non=>cases d
  obtain⟨a2,f2⟩:ZF H (Yt c[i]).2 M/\(Yt c[i]).2.fits 3=true:=by
   unfold Yt;generalize c[i].2=o at S j
   cases S with
   | key a b=>exact⟨a,b⟩
   | tru=>cases j
   | non=>cases j
  refine hR _ _ I ⟨US (p.trans m) V,V,?_,?_,?_⟩
  ·rw[yP,C,yR,Iu];refine((v.sm m).mono W _ _).append (.cons (.tup (W _ _ ZR) (.cons ?_ (.cons ?_ .nil))) .nil)
   ·exact(a1.sm (p.trans m)).mono W _ _
   ·exact(a2.sm (p.trans m)).mono W _ _
  ·intro r J;rw[yP,C,yR] at J;rcases yM.mp J with z | z
   ·exact u r z
   ·have:r=Yt c[i]:=by simpa using z
    rw[this];exact⟨f1,f2⟩
  ·rw[yP,C];unfold Vi at k⊢;rw[uW,k];show (true&&((c[i].1.isSome&&c[i].2.isSome)&&true))=true;rw[d,j];rfl
 ·obtain⟨p,V,v,u,k⟩:=t;rw[yK ∅] at v k u
  exact k2 k x D y p V Y v u
inductive VB:Sp
 |mk{l:aj}{b:jf}{a:jr}{H:Hp}{Q:VK}{E:XK}:H l=some (.lst b)->jX H a b->(∀ t∈a,t.fits 3=true)->b.length<=100->(∀ c,ZA H c->Q (.bl (Uy a)) c)->VB [.ref l] H Q E
def ZKc(F:Zp K "rise" "rise" Jm f fd)(T:YX mg)(U:ZB P w K mg ki 7 "ahead" zE6 Yp):ZJ P w K mg ki Ze 8 f fd ["keys"] VB:=by
 refine F.ko ZPE λW A z s H vs Q E hr h=>?_;obtain⟨M,v,L,I,k⟩:=h;rename_i l c p
 have lk:=v.length;intro Xc;refine⟨_,ZX (Zn (Zq (Li rfl) rfl T.all Mw (ZY (Qz [0] ["keys"] rfl (Nk rfl T.range (Zf ZN (Zq WA rfl T.len Xf (ZY (pv 0))))) (λ_ _ _ _ _=>Uh)
  (λ_ _ _ _ _=>Zr U hr (Zf (Zm K (pv 1) (Z0 QP (pv 0) ZN)) (Zm K (pv 1) (pv 0)))) ⟨rfl,.inl rfl,rfl,trivial⟩)))),?_⟩
 exists _,rfl,l,c,rfl,.inl (ZG.of M),1,(c.length:Int),rfl,⟨nofun,nofun,nofun,nofun⟩
 refine UT (n:=((c.length:Int)-1).toNat) (λi x=>x=.int (1+(i:Int))) (λD i m d=>ZA H d/\H D=none/\m=((zQ i).map λj=>(p.getD j (.int 0)).lt (p.getD (j+1) (.int 0))).map V.bl) (YS nofun)
  (λD i m d t _=>t) (λD i m d x B t _ hy=>hy) (λD m d _=>zY _) (λD J=>⟨Zg J _,J,rfl⟩) (λD i m d x q a0 t hx r R Z=>?_) (λD m d q r=>?_)
 ·subst hx;obtain⟨g,y,rfl⟩:=r;have u:i+1<c.length:=nofun
  have O:c[i]? = some (c[i]'nofun):=zV nofun
  have S:c[i+1]? = some c[i+1]:=zV u;have Y:(1:Int)+(i:Int)=((i+1:Nat):Int):=nofun
  have X:(1:Int)+(i:Int)-1=((i:Nat):Int):=nofun
  obtain⟨a,C,ka⟩:=v.get O;obtain⟨b,G,kb⟩:=v.get S;have o:=g _ _ M;refine⟨_,rfl,_,rfl,_,_,rfl,rfl,.inl ⟨l,c,_,_,rfl,rfl,ZG.of o,(by rw[X];exact Xg O),?_⟩⟩
  refine⟨_,rfl,_,rfl,.inl ⟨l,c,_,_,rfl,rfl,ZG.of o,(by rw[Y];exact Xg S),?_⟩⟩
  exists _,_,a,b,rfl,ka.sm g,kb.sm g,L a (zB C),L b (zB G);intro B N;refine Z _ B (N D _ q) ⟨US (g.trans N) y,y,?_⟩;rw[List.range_succ,yR,yR]
  congr 1
  show [V.bl (a.lt b)]=[V.bl ((p.getD i (.int 0)).lt (p.getD (i+1) (.int 0)))];rw[zW,zW,C,G];rfl
 ·obtain⟨g,y,rfl⟩:=r;exists D,_,rfl,ZG.of q;have e:((c.length:Int)-1).toNat=p.length-1:=nofun
  rw[e];exact k d g
inductive Vh(CK CL:aj):Sp
 |mk{l:aj}{e:jf}{b:jG}{H:Hp}{Q:VK}{E:XK}:H l=some (.lst e)->Zj H b e->e.length<=100->(Y6 b=0->∀ a,ZA H a->E (.ref CK) none a)->(Y6 b=1->∀ a,ZA H a->E (.ref CL) none a) ->
  (Y6 b=2->Pk (b.map Yt)->∀(a:Hp)(d:aj)(c:jf),ZA H a->H d=none->a d=some (.lst c)->jX a (Ys (b.map Yt)) c->Q (.ref d) a)->Vh CK CL [.ref l] H Q E
def Hr(F:Zp K "checked_rows" "checked_rows" Ie f fd)(X:K.In ki)(T:YX mg)(L:XZ K mg "NoLeaf" CL)(DC:Wa P w K mg ki 8 "own_rows" zEv (VC CK))(DR:ZB P w K mg ki 8 "rise" ["keys"] VB):ZJ P w K mg ki (YC P w) 9 f fd zEv (Vh CK CL):=by
 refine F.kD Vt λa0 A Z s H vs Q E hr h=>?_;obtain⟨hl,hk,B,k0,W,k2⟩:=h;rename_i l us d
 have nd:=Vt.nd;have lk:=hk.len;obtain⟨t4,m4⟩:=T.rows;intro Xc;refine⟨_,ZQ (Zs 1 nd (NG (E:=E) DC hr (Qv VA λ_ _ _ h=>h) (ZY (pv 0))))
  (ZQ (Zy (PW.pt (VZ (XT (LC Ux Ux ZN (Zq WA rfl T.len Xf (ZY (pv 1))) (Wj (v:=.int 4) rfl m4 ⟨_,rfl⟩)))
   (Up (XT (Yf (Zr DR hr (ZY (Qz [] [] rfl (Wq (pv 1)) (λ_ _ _ _ _=>Uh) (λ_ _ _ _ _=>Zm K (pv 0) ZN) trivial)))))))) (ZX (MZ VA (NK X L.at_ L.exk) L.kp L.mB L.ty rfl)) Z2)
  (ZX (Zn (pv 1)))),?_⟩
 exists _,rfl,hl,hk,B,λe=>k0 (by unfold Y6;rw[aP (by rw[e];exact zT)])
 intro I y D b M nD u p G;have ly:b.length=d.length:=by have:=p.length;rw[<-this];exact(zX _).trans (zX _)
 have lr:(d.map Yt).length=d.length:=zX _;have Y:¬ (1<=d.length/\d.length<=4/\Uy ((d.map Yt).map (·.1))=true)->Y6 d=1:=λz=>by unfold Y6;rw[aQ I,aP z]
 exists _,rfl,D,b,rfl,.inl (ZG.of u),_,_,rfl,rfl,_,rfl;rcases yU b.length 1 with h2 | h2
 ·rw[aM (show ¬ (1:Int)<=(b.length:Int) by lia)]
  exact Zk ⟨_,rfl,Z1 (Z1 (W (Y ∅) y M))⟩
 rw[aO (show (1:Int)<=(b.length:Int) by lia)]
 refine Z1 ⟨_,_,rfl,rfl,_,rfl,?_⟩;rcases yU 4 b.length with h4 | h4
 ·rw[aM (show ¬ (b.length:Int)<=4 by lia)]
  exact Z1 (Z1 (W (Y ∅) y M))
 rw[aO (show (b.length:Int)<=4 by lia)]
 refine Zk ?_;exists _,rfl,D,rfl,⟨b,ZG.of u⟩;refine UT (n:=b.length) (λi z=>b[i]? = some z) (λk i x m=>ZA y m/\y k=none/\jX y (((d.map Yt).map (·.1)).take i) x) (YS ∅)
  (λk i x m U g=>⟨b,b[i],ZG.of (g.1 _ _ u),by simp[U]⟩) (λk i x m z N U g hy=>⟨hy.1,hy.2 b (ZG.of (g.1 _ _ u))⟩) (λk x m g=>⟨b,ZG.of (g.1 _ _ u),zY _⟩)
  (λk C=>⟨Zg C _,C,.nil⟩) (λk i x m z o a1 U hz g R hR=>?_) (λk x m o g=>?_)
 ·obtain⟨J,q,c⟩:=g;obtain⟨a,vk,vv,er,rfl,O,q1,_⟩:=NF p hz;refine⟨_,rfl,.inr (.inl ⟨a,_,_,vk,rfl,rfl,Zh.of (J _ _ O),rfl,?_⟩)⟩;refine hR _ m o ⟨US J q,q,?_⟩;rw[yP,zN,er];exact c.append (.cons q1 .nil)
 ·obtain⟨J,q,c⟩:=g;rw[yK (by rw[zX];lia)] at c
  have lz:=c.length;rw[zX] at lz;refine⟨o,c.sm J,λt ht=>?_,∅,λN s5=>⟨_,rfl,?_⟩⟩
  ·obtain⟨r,V,rfl⟩:=zE.mp ht;exact(G r V).1
  have j:=J.trans s5
  cases S:Uy ((d.map Yt).map (·.1)) with
  | false=>exact Z1 (W (Y λz=>by rw[S] at z;cases z.2.2) N (M.trans j))
  | true=>
   have O:Y6 d=2:=by unfold Y6;rw[aQ I,aQ ⟨∅,∅,S⟩]
   exact Zk ⟨_,rfl,k2 O ⟨G,∅,∅,Kn S⟩ N D b (M.trans j) nD (j _ _ u) (p.sm j)⟩
def ZPU{k:Nat}{g:ju}{i d:Sp}(F:ZJ P w K mg ki (YC P w) k f fd g i)(h:∀ b H Q E,d b H Q E->i b H Q E0):ZJ P w K mg ki Ze k f fd g d:=by
 refine⟨λb H Q E z=>F.len b H Q E0 (h _ _ _ _ z),λA a s H args p b Q E m l j n z=>codeAny_mono (F.run A a s H args p b Q E0 m l j n (h _ _ _ _ z)) λr q c=>?_⟩
 cases r with
 | ok o=>
  cases o with
  | ret u=>exact c
  | _=>exact c.elim
 | error e=>
  obtain⟨_,_,_,_,_,_,c⟩:=c;exact c.elim
def ZNN{o:jf}{H:Hp}{Q:VK}{E:XK}(h:WD o H Q E):Vh CK CL o H Q E0:=by
 obtain⟨l,y,a,rfl,t,m,G,k⟩:=h;have C:y.length=a.length:=by have:=m.length;rw[<-this];exact zX _
 obtain⟨s,A,B,b⟩:=id G;have g:Y6 (a.map OH)=2:=by
  unfold Y6;rw[Ml,aQ (show Vi (a.map OH)=true by unfold Vi;rw[xT];exact zO.mpr λr _=>rfl)]
  refine aQ ⟨by rw[zX];lia,by rw[zX];lia,?_⟩
  unfold Uy;rw[xT,zO];intro j i;have i:=xX.mp i;have d:j<(a.map (·.1)).length:=∅
  have e:j+1<(a.map (·.1)).length:=∅
  have:=KS b (xV j) (zV d) (zV e);rw[Function.comp_apply,zW,zW,zV d,zV e];exact this
 refine .mk t (EJ m s) ∅ (λz=>by rw[g] at z;cases z) (λz=>by rw[g] at z;cases z) λ_ _ p u c x v q n=>k p u c x v q (by rw[Ml] at n;exact n)
def Pz{a:js}{s i:Nat}{t:ZP}(h:s<a.length):gd (a.set s t) i=if i=s then t else gd a i:=by
 unfold gd;rw[zW,zW];by_cases z:i=s
 ·subst z;rw[aQ rfl,vD h];rfl
 ·rw[aP z,vT (Ne.symm z)]
def Xs(a:js):jq->Option (js)
 | []=>some a
 | s::r=>if over (YU a (gd a s).bs)=none then none else Xs (a.set s (Yv a (gd a s).bs)) r
def Z5.like{gt:jr}{a ts':js}{i:Nat}{t:ZP}(h:Z5 gt a i t)(d:ts'.length=a.length)(e:∀ b∈t.bs,gd ts' b=gd a b):Z5 gt ts' i t:=by
 exists h.ne,h.up,h.inn,h.leaf;intro z;obtain⟨j,k,f,m⟩:=h.stem z;exists j,k,λb g=>⟨by rw[d];exact(f b g).1,by rw[e b g];exact(f b g).2⟩
 rw[m];clear j k f m;have:∀ l:jq,(∀ b∈l,gd ts' b=gd a b)->(l.flatMap λb=>(gd a b).rows)=l.flatMap λb=>(gd ts' b).rows:=λl d=>by
  induction l with
  | nil=>rfl
  | cons b l o=>rw[wY,wY,d b (by simp),o λc n=>d c (zH _ n)]
 exact this _ e
section
variable{gt:jr}{ts:js}{lv:jq}{ho:Nat->Nat}
def EX{i j:Nat}(a:j∈lv)(h:i∈(gd ts j).bs):j∈YT ts lv i:=by
 unfold YT;exact xM.mpr ⟨a,aO h⟩
def Zw.ne{i:Nat}{l:jq}(h:Zw ts lv ho i l):∃ r,l=i::r:=by
 cases h with
 | top=>exact⟨_,rfl⟩
 | up=>exact⟨_,rfl⟩
def Hq{i j:Nat}{r:jq}(h:(YT ts lv i).length+ho i=1)(e:YT ts lv i=j::r):YT ts lv i=[j]:=by
 rw[e] at h⊢;rw[yY] at h;have:r=[]:=rK.mp ∅
 rw[this]
def Zw.facts(t:WF gt ts)(w:Lv ts lv){i:Nat}{l:jq}(h:Zw ts lv ho i l)(o:i∈lv):(∀ j∈l,j∈lv/\(gd ts i).h<=(gd ts j).h)/\(∀ j∈l.tail,(gd ts i).h<(gd ts j).h)/\l.Nodup/\∀ b∈l,∀ j∈lv,b∈(gd ts j).bs->j∈l.tail:=by
 induction h with
 | top a b=>
  exists λj g=>by rw[yZ.mp g];exact⟨o,zY _⟩,λj g=>(by cases g),by simp
  intro c f j g k;rw[yZ.mp f] at k;have:=EX g k;rw[b] at this;cases this
 | up a b p u=>
  rename_i i j l r
  have g:=OV t w (i:=i) (j:=j) (by rw[b];exact zM)
  obtain⟨m,x,q,s⟩:=u g.2;refine⟨λc f=>?_,λc f=>?_,xD.mpr ⟨λz=>?_,q⟩,λc f d n k=>?_⟩
  ·rcases zG.mp f with z | z
   ·rw[z];exact⟨o,zY _⟩
   ·have:=m c z;exact⟨this.1,∅⟩
  ·have:=(m c f).2
   lia
  ·have:=(m i z).2
   lia
  ·rcases zG.mp f with z | z
   ·rw[z] at k;have:=EX n k;rw[Hq a b] at this;rw[yZ.mp this];obtain⟨v,e⟩:=p.ne;rw[e];exact zM
   ·obtain⟨v,e⟩:=p.ne;have:=s c z d n k;rw[e] at this⊢;exact zH _ this
structure Vx(gt:jr)(ts:js)(lv:jq)(cur:js)(done rest:jq):Prop where
 len:cur.length=ts.length
 sh:∀ i,(gd cur i).bs=(gd ts i).bs/\(gd cur i).h=(gd ts i).h
 ok:∀ i∈lv,i∉rest->Z5 gt cur i (gd cur i)
 old:∀ i,i∉done->gd cur i=gd ts i
def Mh(k:WF gt ts)(f:Lv ts lv){n:Nat}{rest:jq}(r:Zw ts lv ho n (n::rest))(j:n∈lv){t:ZP}(o:t.h=(gd ts n).h)(m:t.bs=(gd ts n).bs)(e:Z5 gt ts n t):Vx gt ts lv (ts.set n t) [n] rest:=by
 have d:=f.lt n j;have g:∀ i,gd (ts.set n t) i=if i=n then t else gd ts i:=λi=>Pz d
 obtain⟨s,u,v,l⟩:=r.facts k f j;have q:n∉t.bs:=λz=>by
  by_cases y:t.h=0
  ·rw[(e.leaf y).1] at z;cases z
  ·have:=((e.stem y).2.2.1 n z).2
   lia
 refine⟨wR,λi=>?_,λi c p=>?_,λi c=>?_⟩
 ·rw[g];by_cases z:i=n
  ·rw[aQ z,z];exact⟨m,o⟩
  ·rw[aP z];exact⟨rfl,rfl⟩
 ·rw[g];by_cases z:i=n
  ·rw[aQ z,z];exact e.like wR λb a=>by rw[g,aP (show ¬ b=n from λy=>q (y ▸ a))]
  ·rw[aP z];refine(k i _ (Vg (f.lt i c))).like wR λb a=>?_;rw[g,aP];intro y;exact p (l n zM i c (y ▸ a))
 ·rw[g,aP (λz=>c (by rw[z];exact zM))]
def Vx.branches(i:WF gt ts)(f:Lv ts lv){a:js}{c rest:jq}{s:Nat}(p:Vx gt ts lv a c (s::rest))(r:Zw ts lv ho s (s::rest))(e:s∈lv)(l:(gd ts s).h≠0):∀ b∈(gd a s).bs,b∈lv/\b∉s::rest/\Z5 gt a b (gd a b):=λb d=>by
 rw[(p.sh s).1] at d;have g:=f.cl s e b d;obtain⟨k,_,_,_⟩:=r.facts i f e;have m:=((i s _ (Vg (f.lt s e))).stem l).2.2.1 b d;have j:b∉s::rest:=λz=>by
  have:=(k b z).2
  lia
 exact⟨g,j,p.ok b g j⟩
def Ku(A:WF gt ts)(k:Lv ts lv){a:js}{e rest:jq}{s:Nat}(p:Vx gt ts lv a e (s::rest))(r:Zw ts lv ho s (s::rest))(o:s∈lv)(q:(gd ts s).h≠0){L:YZ}(M:over (YU a (gd a s).bs)=some L):
  L=YY (Yv a (gd a s).bs)/\Vx gt ts lv (a.set s (Yv a (gd a s).bs)) (e++[s]) rest:=by
 have m:=p.branches A k r o q;obtain⟨H,V,J,K,C,x,u⟩:=GT (λb d=>(m b d).2.2) M;have Q:s<a.length:=by rw[p.len];exact k.lt s o
 have g:∀ i,gd (a.set s (Yv a (gd a s).bs)) i=if i=s then Yv a (gd a s).bs else gd a i:=λi=>Pz Q
 obtain⟨S,T,U,I⟩:=r.facts A k o;have B:(Yv a (gd a s).bs).h=(gd ts s).h:=by
  obtain⟨b,d⟩:∃ b,b∈(gd a s).bs:=tZ ∅
  have G:=C b d;rw[(p.sh b).2] at G;rw[(p.sh s).1] at d;have R:=(((A s _ (Vg (k.lt s o))).stem q).2.2.1 b d).2
  lia
 refine⟨H,(wR).trans p.len,λi=>?_,λi j E=>?_,λi j=>?_⟩
 ·rw[g];by_cases z:i=s
  ·rw[aQ z,z];exact⟨(p.sh s).1,B⟩
  ·rw[aP z];exact p.sh i
 ·have f:∀ b,b≠s->gd (a.set s (Yv a (gd a s).bs)) b=gd a b:=λb n=>by rw[g,aP n]
  have F:∀ b∈(gd a s).bs,b≠s:=λb d z=>(m b d).2.1 (by rw[z];exact zM)
  rw[g];by_cases z:i=s
  ·rw[aQ z];refine⟨u,x,λP v=>?_,λy=>absurd y (by rw[B];exact q),λ_=>⟨J,K,λb d=>⟨?_,?_⟩,?_⟩⟩
   ·obtain⟨b,t,w⟩:=uS.mp v;exact(m b t).2.2.inn P w
   ·rw[wR,p.len];exact k.lt b (m b d).1
   ·rw[f b (F b d)];exact C b d
   ·show Xp a (gd a s).bs=_;unfold Xp;have:∀ l:jq,(∀ b∈l,b≠s)->(l.flatMap λb=>(gd a b).rows)=l.flatMap λb=>(gd (a.set s (Yv a (gd a s).bs)) b).rows:=λl D=>by
     induction l with
     | nil=>rfl
     | cons b l O=>rw[wY,wY,f b (D b (by simp)),O λc N=>D c (zH _ N)]
    exact this _ F
  ·rw[aP z];refine(p.ok i j (λy=>(zG.mp y).elim z E)).like (wR) λb d=>f b λy=>?_;rw[(p.sh i).1,y] at d;exact E (I s zM i j d)
 ·rw[g,aP (λz=>j (by rw[z];simp))]
  exact p.old i λz=>j (wO _ z)
def Vx.closed(l:WF gt ts)(g:Lv ts lv){a:js}{c rest:jq}{s:Nat}(p:Vx gt ts lv a c (s::rest))(r:Zw ts lv ho s (s::rest))(k:s∈lv):∀ i∈lv.filter (λi=>decide (i∉s::rest)),∀ b∈(gd a i).bs,b∈lv.filter (λi=>decide (i∉s::rest)):=λi j b d=>by
 obtain⟨m,n,o,h⟩:=r.facts l g k;obtain⟨f,e⟩:=xM.mp j;have e:=of_decide_eq_true e;rw[(p.sh i).1] at d;refine xM.mpr ⟨g.cl i f b d,aO λz=>e ?_⟩;exact zH _ (h b z i f d)
def Vp(lv:jq)(t:ZP)(ts:js):js:=(zQ ts.length).map λi=>if i∈lv then gd ts i else t
def Yx{t:ZP}:(Vp lv t ts).length=ts.length:=by unfold Vp;simp
def FF{t:ZP}{i:Nat}(h:i<ts.length):gd (Vp lv t ts) i=if i∈lv then gd ts i else t:=by
 unfold gd Vp;rw[zW,zN,List.getElem?_range h];rfl
def Kv{t:ZP}{i:Nat}(h:i<ts.length)(a:i∈lv):gd (Vp lv t ts) i=gd ts i:=by rw[FF h,aQ a]
def ZOF{t:ZP}(c:Lv ts lv)(j:∀ i∈lv,Z5 gt ts i (gd ts i))(h:∀ a i,Z5 gt a i t):WF gt (Vp lv t ts):=λi u e=>by
 have g:i<(Vp lv t ts).length:=(yN.mp e).1;have d:=ZPD e;rw[Yx] at g;rw[FF g] at d;rw[<-d];by_cases z:i∈lv
 ·rw[aQ z];exact(j i z).like Yx λb f=>Kv (c.lt b (c.cl i z b f)) (c.cl i z b f)
 ·rw[aP z];exact h _ _
def Fu{t:ZP}(c:Lv ts lv):Lv (Vp lv t ts) lv:=⟨λi a=>by rw[Yx];exact c.lt i a,λi a b d=>by rw[Kv (c.lt i a) a] at d;exact c.cl i a b d,c.up⟩
def Dv{a:js}(e:∀ i∈lv,(gd a i).bs=(gd ts i).bs)(i:Nat):YT a lv i=YT ts lv i:=by
 unfold YT;exact List.filter_congr λj b=>by rw[e j b]
def Vx.vl(e:Lv ts lv){a:js}{c rest:jq}(p:Vx gt ts lv a c rest):Lv a lv:=⟨λi d=>by rw[p.len];exact e.lt i d,λi d b f=>e.cl i d b (by rw[<-(p.sh i).1];exact f),e.up⟩
def IX{h:jJ}(g:Pk h)(j:(h.map (·.1)).Sublist gt):∀ f i,Z5 gt f i (Y5 h):=λf i=>by
 obtain⟨a,b,c,d,e⟩:=Ej (ts:=f) g j;exact⟨a,b,c,d,e⟩
def JP(k:WF gt ts)(l:Lv ts lv):∀{rest g:jq}{d f:js}{s:Nat},Zw ts lv ho s (s::rest)->s∈lv->(gd ts s).h≠0->Vx gt ts lv d g (s::rest)->Xs d (s::rest)=some f->Vx gt ts lv f (g++s::rest) []
 | rest,g,d,f,s,r,w,u,p,e=>by
  rw[Xs] at e;split at e
  ·cases e
  ·rename_i c
   cases m:over (YU d (gd d s).bs) with
   | none=>exact absurd m c
   | some L=>
    obtain⟨_,o⟩:=Ku k l p r w u m
    cases r with
    | top a b=>
     rw[Xs] at e;cases e;exact o
    | up a b n=>
     rename_i j q
     obtain⟨x,t⟩:=n.ne;subst t;have v:=OV k l (i:=s) (j:=j) (by rw[b];exact zM)
     have:=JP k l n v.2 ∅ o e
     rw[rS] at this;exact this
end
end Tw
namespace L2
open PySem PySem.Spec PyProof.Rows
section
variable{kh:jv}{σ:St}{H:Hp}
def AX:HO->Prop
 | .dK _=>True
 | .frz _ (.dK _)=>True
 | _=>False
def ZE.re{d:aj}{v u:HO}(I:ZE X kh σ H s)(e:H d=some v)(h:AX v)(B:∀ o x,X.H₀ d≠some (.frz o x))(g:Zd X.prog X.w H s.heap d u):ZE X kh σ (upd H d u) s:=by
 have f:∀{b:aj},H b=none->b≠d:=fun{b} q z=>by rw[z,e] at q;cases q
 have C:∀{b y:aj},H b=some (.own y)->b≠d:=fun{b y} q z=>by rw[z,e] at q;cases q;exact h
 have j:∀{b:aj}{a:jf},H b=some (.tup a)->b≠d:=fun{b a} q z=>by rw[z,e] at q;cases q;exact h
 have A:∀{b:aj}{a:jx},H b=some (.tbl a)->b≠d:=fun{b a} q z=>by rw[z,e] at q;cases q;exact h
 refine⟨I.ok,I.os,I.bare,⟨I.base.keep,I.base.slot,λb o q n t=>?_,I.base.there,λb a q=>?_,λb o x q=>?_,λb D q=>?_⟩,I.loc,I.cell,?_,λx c q=>?_,λp r=>?_,λb o q=>?_,I.len⟩
 ·have z:=I.base.free b o q n t;rw[ZO (f z)];exact z
 ·have z:=I.base.tups b a q;rw[ZO (j z)];exact z
 ·have z:=I.base.frzs b o x q;rw[ZO (show b≠d from λy=>B o x (y ▸ q))];exact z
 ·obtain⟨m,z⟩:=I.base.tbls b D q;exact⟨m,by rw[ZO (A z)];exact z⟩
 ·rw[ZO (f I.free)];exact I.free
 ·rw[ZO (f (I.freeC x c q))];exact I.freeC x c q
 ·obtain⟨E,l,F⟩:=I.pin p r;exact⟨E,by rw[ZO (f l)];exact l,F⟩
 ·have k:∀{b o},Zd X.prog X.w H s.heap b o->Zd X.prog X.w (upd H d u) s.heap b o:=λx=>x.stay (λ_ _ _ q=>q) (λc q=>by rw[ZO (C q)];exact q) λc a q=>by rw[ZO (j q)];exact q
  by_cases i:b=d
  ·subst i;rw[ZR] at q;cases q;exact k g
  ·rw[ZO i] at q;exact k (I.hok b o q)
def ZE.nofrz{d:aj}{a:List (ZV×V)}(I:ZE X kh σ H s)(e:H d=some (.dK a)):∀ o x,X.H₀ d≠some (.frz o x):=λo x q=>by
 have:=I.base.frzs d o x q;rw[e] at this;cases this
inductive Nt(t:TS)(D:Yq)(σ:L2.St)(H:Hp):Prop
 |mk(d a:_)(_:H d=some (.dK a))(_:t ⟨λb c=>∃ o u,c d=some (.frz o (.dK u))/\D.nx b (upd c d (.dK u)),λ_ _=>False,λ_ _=>False,λ_ _=>False⟩ σ H)
def Bw{g:aC}{t:TS}(h:PS X g t):PS X g (Nt t):=by
 rintro kh s σ H D I ⟨d,i,e,q⟩;refine Z3 (h kh s σ H _ I q) λf m z=>?_;have j:=I.nofrz e
 cases f with
 | next=>
  obtain⟨a,l,b,o,u,c,k⟩:=z;exact⟨a,_,b.re c trivial j (b.hok d _ c).2,k⟩
 | brk=>obtain⟨_,_,_,z⟩:=z;exact z.elim
 | cont=>obtain⟨_,_,_,z⟩:=z;exact z.elim
 | ret u=>obtain⟨_,_,_,_,_,z⟩:=z;exact z.elim
def MH(d:aj)(o:aJ)(a:List (ZV×V)):It:=
 ⟨λi H=>H d=some (.frz o (.dK a))/\i<a.length,λi H x b=>b=H/\∃ p,a[i]? = some p/\x=kV p.1,λi H=>H d=some (.frz o (.dK a))/\a.length<=i⟩
def Gw{a:Type}:∀{c:List (a×V)}{d:List (a×ai)}{i:Nat}{p:a×V},KV c d->c[i]? = some p->∃ u,d[i]? = some (p.1,u)
 | _,_,_,_,.nil,e=>by simp at e
 | _,_,0,p,.cons (b:=b) r _,e=>by simp at e;subst e;exact⟨b.2,by rw[r.1];rfl⟩
 | _,_,i+1,p,.cons _ t,e=>by
  obtain⟨u,h⟩:=Gw (i:=i) (p:=p) t (by simpa using e)
  exact⟨u,by simpa using h⟩
def ZQS{k:ZV}{v:ai}(h:Pn k v=true):ZW (kV k) v:=by
 rcases Qe h with ⟨i,t,rfl,rfl⟩ | ⟨x,t,rfl,rfl⟩
 ·exact⟨t,rfl⟩
 ·exact⟨t,rfl⟩
def HC{P:am}{w:aw}{h:aD}{d:aj}{o:aJ}{a:List (ZV×V)}{j:Array DictEntry}{i:Nat}(k:o.data=.dict j i)(x:Zd P w H h d (.frz o (.dK a))):∃ b,KV a b/\h.DictAt (Wk P w) d b i:=by
 obtain⟨e,_,_,b,r,n,m,l,g,c,f,q⟩:=x;rw[e] at g;cases g;rw[k] at f;cases f;exact⟨b,r,o,j,e,c,k,q⟩
def IU{c:Type}{a:List (c×V)}{b:List (c×ai)}(h:KV a b):a.length=b.length:=Paired.length h
def Ez{P:am}{w:aw}{K:zZ}{tg:Expr}{d:aj}{o:aJ}{j:List (ZV×V)}{U:Array DictEntry}{N:Nat}(Q:o.data=.dict U N)(g:aj):Vf P w K tg (MH d o j) [g] g (λi h=>h.IsKeyIter g d i j.length N) where
 mem:=by simp
 obj:=λi h a b f=>by
  have e:b=g:=by simpa using f
  subst e;obtain⟨o,e,c,d⟩:=a;exact⟨o,e,λv z=>by rw[d] at z;cases z⟩
 keep:=λi h m a k=>a.at λo e=>k g (by simp) o e
 item:=by
  intro X F L D O i kh s σ H E I n a G;subst F L D;obtain⟨J,q⟩:=G;obtain⟨vs,r,t⟩:=HC Q (I.hok d _ J);obtain⟨p,R⟩:∃ p,j[i]? = some p:=⟨_,zV q⟩;obtain⟨u,hu⟩:=Gw r R;obtain⟨x,y,Y,A,B,C⟩:=n g (by simp)
  rw[IU r] at a⊢;refine wpAny_pyNext_dict_item a t hu λM m Z l sb=>?_;have S:ZE X kh σ H { s with heap:=m }:=I.turned (t':=s.toks) (λb o f e=>(sb.2 b f).trans e) x y A B C;exact⟨M,rfl,letGo_keyiter (s':={ s with heap:=m }) l ⟨_,H,S,ZQS Z,⟨rfl,p,R,rfl⟩,l,λb f=>(n b f).1⟩⟩
 done:=by
  intro X F L D O i kh s σ H E I n a G;subst F L D;obtain⟨J,q⟩:=G;obtain⟨vs,r,t⟩:=HC Q (I.hok d _ J);obtain⟨x,y,Y,A,B,C⟩:=n g (by simp)
  rw[IU r] at a q;exact wpAny_pyNext_dict_end (I.ok.hd O) a t (List.getElem?_eq_none_iff.mpr q) λm T=>⟨rfl,I.turned (t':=s.toks) (λb o f e=>T b o f e) x y A B C⟩
 self:=λ_ _ _ _ _ a h=>wpAny_pyIter_keyiter a h
inductive OO(R:It->Hp->Prop)(x:V)(b:Hp):Prop
 |mk(d a:_)(_:x=.ref d)(_:b d=some (.dK a))(_:∀ o,R (MH d o a) (upd b d (.frz o (.dK a))))
def ZPd(b:TE):TI:=λσ H R=>b σ H λx a=>OO R x a
def ZNV{C l:Expr}{m:TE}(z:PE X l m):PI X C l (ZPd m):=by
 intro kh s σ H R I h;refine YG (z kh s σ H _ I h) λv a x F f B A=>?_;obtain⟨d,j,rfl,e,q⟩:=A;cases B;obtain⟨G,E,D,r,o,t,p,g,c,k,rest⟩:=id (f.hok d _ e);have n:a.heap.DictAt (Wk X.prog X.w) d D p:=⟨o,t,g,c,k,rest⟩;refine wpAny_pyIter_dict E n ?_;rw[<-IU r];have i:=f.re (u:=.frz o (.dK j)) e trivial (f.nofrz e) ⟨g,f.hok d _ e⟩;refine⟨a.heap.objs.size,[a.heap.objs.size],_,_,_,rfl,i.kept (t':=a.toks) λb o e=>zS _ e,Ez k _,⟨_,yT _ rfl,rfl,rfl⟩,λb y=>?_,q o⟩;have e:b=a.heap.objs.size:=by simpa using y
 subst e;exact i.fpOk (zY _) (i.hok.fresh (zY _))
end
end L2
namespace Tw
open PySem PySem.Spec L2 PyProof.Rows
variable{jh ji CS CT CH CK CP CB:aj}
abbrev Ik:Stmt:=Xy (top 36) 24
abbrev JV:Stmt:=Xy (top 36) 25
abbrev kI(i:Nat):ZV:=Sum.inl (i:Int)
def Kd{i j:Nat}(h:i≠j):kI i≠kI j:=λz=>h (by have:=Sum.inl.inj z;lia)
def Zw.drop{f:js}{d:jq}{c:Nat->Nat}{i:Nat}{l:jq}(h:Zw f d c i l):∀(k s:Nat),l[k]? = some s->Zw f d c s (l.drop k):=by
 induction h with
 | top a b=>
  intro k s e
  cases k with
  | zero=>cases e;exact .top a b
  | succ k=>simp at e
 | up a b g j=>
  intro k s e
  cases k with
  | zero=>cases e;exact .up a b g
  | succ k=>exact j k s (by simpa using e)
structure Q3(H:Hp)(cur:js)(done:jq)(lkv:List (ZV×V)):Prop where
 keys:lkv.map (·.1)=done.map kI
 at_:∀ i∈done,∃ v,YK lkv (kI i)=some v/\YD H (YY (gd cur i)) v
def Q3.no{H:Hp}{d:js}{a:jq}{c:List (ZV×V)}(h:Q3 H d a c){b:Nat}(f:b∉a):YK c (kI b)=none:=by
 cases z:YK c (kI b) with
 | none=>rfl
 | some v=>
  have:=MW z;rw[h.keys] at this;obtain⟨i,g,e⟩:=zE.mp this;exact absurd (show b∈a by
   have:i=b:=by have:=Sum.inl.inj e;lia
   rw[<-this];exact g) f
def Q3.mono{H d:Hp}{b:js}{a:jq}{c:List (ZV×V)}(h:Q3 H b a c)(m:YO H d):Q3 d b a c:=⟨h.keys,λi f=>by
 obtain⟨v,e,k⟩:=h.at_ i f;exact⟨v,e,k.mono m⟩⟩
def Q3.push{H:Hp}{c b:js}{a:jq}{f:List (ZV×V)}{s:Nat}{v:V}(h:Q3 H c a f)(j:s∉a)(e:∀ i∈a,gd b i=gd c i)(k:YD H (YY (gd b s)) v):Q3 H b (a++[s]) (Zv f (kI s) v):=by
 exists by rw[Ke v (h.no j),yR,h.keys,yR];rfl
 intro i g;rw[Qg];by_cases z:i=s
 ·subst z;rw[aQ rfl];exact⟨v,rfl,k⟩
 ·rw[aP (Kd z)];have d:i∈a:=(yM.mp g).elim id λy=>absurd (yZ.mp y) z;rw[e i d];exact h.at_ i d
inductive X9(gt:jr)(jh ji CS:aj):Sp
 |mk{S d lk r:aj}{ts:js}{lv:jq}{av:Nat->jq}{ho:Nat->Nat}{as:jy}{kvs:List (ZV×V)}{ls:jf}{n:Nat}{rest:jq}{v:V}{t:ZP}{H:Hp}{Q:VK}{E:XK}:
  YJ jh ji H S d lk ts lv av ho as kvs ls->WF gt ts->Lv ts lv->n∈lv->Zw ts lv ho n (n::rest)->rest.length<=800->H r=some (.lst (iN (n::rest)))->t.h=(gd ts n).h->t.bs=(gd ts n).bs->Z5 gt ts n t->YD H (YY t) v ->
  (Xs (ts.set n t) rest=none->∀ H',ZA H H'->E (.ref CS) none H') ->
  (∀ cur,Xs (ts.set n t) rest=some cur->∀(H':Hp)(D:aj)(lkv:List (ZV×V)),ZA H H'->H D=none->H' D=some (.dK lkv)->Q3 H' cur (n::rest) lkv->Q (.ref D) H')->X9 gt jh ji CS [.ref S,.ref r,v] H Q E
abbrev ZPF:ju:=["self","road","label","labels","stem","branches"]
def UU:ZC ZPF zE1 (Zc Ik):=Z9
inductive FT(gt:jr)(S r D q:aj)(n:Nat)(v:V)(ts:js)(lv rest:jq)(t:ZP)(H:Hp):Nat->L2.St->Hp->Prop
 |mk{k:Nat}{H2:Hp}{x y:jg}{cur:js}{lkv:List (ZV×V)}:ZA H H2->H2 q=some (.lst (iN rest))->H2 D=some (.dK lkv)->Vx gt ts lv cur (n::rest.take k) (rest.drop k)->Xs (ts.set n t) rest=Xs cur (rest.drop k)->Q3 H2 cur (n::rest.take k) lkv ->
  FT gt S r D q n v ts lv rest t H k [some (.ref S),some (.ref r),some v,some (.ref D),x,y] H2
def ZKS{gt:jr}(F:Zp K "labels_up" "Shelf.labels_up" Ik f fd)(L:Yo K mg jh ji)(DT:ZH P w K mg ki Ze 1 jh "twig_of" zEa (Zu jh))(DL:ZH P w K mg ki Ze 2 jh "label" zEa (VN jh ji λtg _ _=>tg))(DO:Wa P w K mg ki 9 "label_over" ["labels"] (VL CS)):
  ZJ P w K mg ki (YC P w) 10 f fd zE1 (X9 gt jh ji CS):=by
 refine F.kD UU λi0 A e7 s H vs Q E hr h=>?_;obtain⟨R,hw,vl,hn,rd,e9,c0,th,tb,e8,hv,k1,k2⟩:=h;rename_i S d lk r m lv av ho as c2 ls n rest v t
 have nd:=UU.nd;have hu:=VJ hr;have e3:=hr.mono (show 1<=9 by lia)
 have e4:=hr.mono (show 2<=9 by lia)
 intro Xc;refine⟨_,ZQ (OW (i:=3) nd rfl (Or.inr rfl) (AT (ZKo (Zm K (pv 1) ZN) (pv 2) ZNw) rfl rfl (by intro z;cases z) (by decide)))
  (ZQ (Wo MD rfl (Wq (Bz Ba (pv 1) (AZ ZN) ZNG)) (Yk 4 nd)
   (ZQ (Zs 5 nd (Wp (XH (E:=E0) (pv 0) L.cS DT e3 XA (ZY (pv 4))) rfl))
   (ZX (Qu hu (pv 3) (pv 4) (NG (E:=E) DO hr (Qv VA λ_ _ _ h=>h) (ZY (Qz [3,0] ["labels","self"] rfl (Wq (pv 5)) (λ_ _ _ _ _=>Uh) (λ_ _ _ _ _=>ZK8 hu (pv 1) (pv 0) (XH (E:=E0) (pv 2) L.cS DL e4 XA (ZY (pv 0))) ⟨rfl,rfl,rfl,rfl⟩) ⟨rfl,.inl rfl,rfl,rfl,.inl rfl,rfl,trivial⟩))) rfl))))
  (ZX (Zn (pv 3)))),?_⟩
 intro D nD;have g1:=Zg nD (.dK []);refine⟨_,rfl,.inl ⟨r,_,0,.int (n:Nat),rfl,rfl,ZG.of (g1 _ _ c0),Xg (j:=0) rfl,_,rfl,?_⟩⟩;exists ZR,[(kI n,v)],rfl,(by show 1<=15;lia)
 have e0:NM [] [(kI n,v)]=[(kI n,v)]:=rfl;rw[e0,Ox];have s0:ZA H (upd H D (.dK [(kI n,v)])):=Zg nD _;have a0:upd H D (.dK [(kI n,v)]) D=some (.dK [(kI n,v)]):=ZR;generalize upd H D (.dK [(kI n,v)])=H1 at s0 a0⊢;exists _,rfl,_,rfl,r,_,rfl,ZG.of (s0 _ _ c0);intro q nq;have a3:NE (iN (n::rest)) (some 1) none=iN rest:=by
  unfold NE;have e1:HT.sIx (iN (n::rest)).length 0 (some 1)=1:=by
   unfold HT.sIx;simp[iN]
   try lia
  have e2:HT.sIx (iN (n::rest)).length (iN (n::rest)).length none=(iN (n::rest)).length:=rfl;rw[e1,e2];simp[iN];exact yK (by simp)
 rw[a3];have g2:=Zg nq (.lst (iN rest));have hq:upd H1 q (.lst (iN rest)) q=some (.lst (iN rest)):=ZR;have a5:=g2 _ _ a0;have s1:=s0.trans g2;have qD:q≠D:=λz=>by rw[z,a0] at nq;cases nq
 have c1:=hv.mono (ZA.tups s1);generalize upd H1 q (.lst (iN rest))=H2 at g2 hq a5 s1 c1⊢;obtain⟨f1,f2,f3,f4⟩:=rd.facts hw vl hn;have p0:=Mh hw vl rd hn th tb e8;have gn:gd (m.set n t) n=t:=by rw[Pz (vl.lt n hn),aQ rfl]
 refine⟨q,rfl,⟨_,ZG.of hq⟩,PM (K:=K) (a:=q) (xs:=iN rest) (FT gt S r D q n v m lv rest t H) (.mk s1 hq a5 p0 rfl ⟨rfl,λi V=>?_⟩) (λi σ H3 _ G=>by obtain⟨_,X,_⟩:=G;exact ZG.of X) ?_ ?_⟩
 ·rw[yZ.mp V,gn];exact⟨v,by rw[U0 rfl],c1⟩
 ·rintro k u σ H3 a1 ⟨s3,X,U,p,ec,hb⟩;unfold iN at a1;rw[zN] at a1;obtain⟨g,es,rfl⟩:=yB.mp a1;rename_i x y l o
  have hk:k<rest.length:=(yN.mp es).1;have eg:rest[k]=g:=(yN.mp es).2;have ed:rest.drop k=g::rest.drop (k+1):=by rw[vS hk,eg]
  have et:rest.take (k+1)=rest.take k++[g]:=by rw[yP,es];rfl
  have c4:Zw m lv ho g (g::rest.drop (k+1)):=by
   have:=rd.drop (k+1) g (by simpa using es)
   rw[sO,ed] at this;exact this
  have sm:g∈rest:=zB es;have B:=(f1 g (zH _ sm)).1;have h0:(gd m g).h≠0:=by have:=f2 g sm;lia
  rw[ed] at p ec;have R3:=R.same s3;obtain⟨dS,hS⟩:=R3.sh.self;have W:=R3.tw g B;obtain⟨dt,hx⟩:=W.tw.self;obtain⟨us,T,_,Z⟩:=W.things;have Z:=Z h0;subst Z;have O:(gd m g).bs=(gd l g).bs:=(p.sh g).1.symm;have br:=p.branches hw vl c4 B h0;have b4:(gd m g).bs.length<=4:=((hw g _ (Vg (vl.lt g B))).stem h0).2.1;exists _,rfl,S,dS,_,rfl,hS,rfl,_,rfl,S,d,lk,m.length,c2,ls,(g:Int),.ref (as.getD g .d).x,rfl,R3.sh,R3.val g B,(as.getD g .d).x,ji,dt,_,.ref (as.getD g .d).th,rfl,hx,L.cT,L.nth,rfl;exists _,rfl,(as.getD g .d).th,rfl,⟨_,ZG.of T⟩;refine UT (n:=(gd m g).bs.length) (λi z=>(iN (gd m g).bs)[i]? = some z) (λM i ys C=>ZA H3 C/\H3 M=none/\Ye C ((YU l (gd m g).bs).take i) ys) (YS ∅)
   (λM i ys C V G=>⟨_,.int ((gd m g).bs[i]:Nat),ZG.of (G.1 _ _ T),by simp[iN,V]⟩) (λM i ys C z H5 V G hy=>⟨hy.1,hy.2 _ (ZG.of (G.1 _ _ T))⟩) (λM ys C G=>⟨_,ZG.of (G.1 _ _ T),by simp[iN]⟩)
   (λM a6=>⟨Zg a6 _,a6,rfl,λi u e=>by simp at e⟩) (λM i ys C z N i1 V hz G RR c6=>?_) (λM us C N G=>?_)
  ·obtain⟨s4,a2,I⟩:=G;have ez:z=.int ((gd m g).bs[i]:Nat):=by
    unfold iN at hz;rw[zN,zV V] at hz;exact(zJ.inj hz).symm
   subst ez;have a9:(gd m g).bs[i]∈(gd m g).bs:=xU _;have a4:(YU l (gd m g).bs)[i]? = some (YY (gd l (gd m g).bs[i])):=by unfold YU;rw[zN,zV V];rfl
   generalize (gd m g).bs[i]=b at a9 a4⊢;obtain⟨bl,i3,_⟩:=br b (O ▸ a9);have R4:=R3.same s4;obtain⟨c5,c7⟩:=R4.sh.self;have Wb:=R4.tw b bl;have a7:=s4 _ _ U;exists _,rfl,D,rfl,.inl ⟨_,.inl a7⟩,_,rfl,_,rfl,S,c5,_,rfl,c7,rfl,_,rfl,S,d,lk,m.length,c2,ls,(b:Int),_,_,_,_,_,_,rfl,⟨R4.sh,R4.val b bl,Wb.tw⟩,YK o (kI b),Zx.k (k:=kI b) a7;have tD:∀ vv,YO C (upd C M (.lst (ys++[vv]))):=λvv c xs e=>by rw[ZO (ZD e N)];exact e
   have e6:YD C (YY (gd l b)) ((YK o (kI b)).getD (.ref (as.getD b .d).tg)):=by
    by_cases c:b∈n::rest.take k
    ·obtain⟨v',e',k'⟩:=hb.at_ b c;rw[e'];exact k'.mono (ZA.tups s4)
    ·rw[hb.no c,p.old b c];exact Wb.tag
   refine c6 _ C N ⟨US s4 a2,a2,?_⟩;rw[yP,a4];exact(I.snoc e6).mono (tD _)
  obtain⟨s4,a2,I⟩:=G;have ll:(YU l (gd m g).bs).length=(gd m g).bs.length:=zX _;rw[yK ∅] at I
  refine⟨M,us,_,rfl,N,I,?_,by rw[I.1,ll];lia,λH5 s5=>⟨λJ=>?_,λLb vv J c9=>?_⟩⟩
  ·rw[O];exact GE λb c8=>(br b c8).2.2
  ·refine k1 ?_ H5 ((s3.trans s4).trans s5);rw[ec,Xs,aQ (by rw[<-O];exact J)]
  ·rw[O] at J;obtain⟨eL,p2⟩:=Ku hw vl p c4 B h0 J;have Y:=s4.trans s5;have a8:=Y _ _ U;have e5:g<l.length:=by rw[p.len];exact vl.lt g B
   have i2:o.length<=801:=by
    have:=congrArg yA hb.keys;rw[zX,zX,yY,sW] at this
    lia
   exists _,rfl,_,rfl,D,_,rfl,XU.k (k:=kI g) a8 (YS ∅)
   have sD:ZA H (upd H5 D (.dK (Zv o (kI g) vv))):=US (s3.trans Y) nD;have tD:YO H5 (upd H5 D (.dK (Zv o (kI g) vv))):=λc xs e=>by rw[ZO (ZD e a8)];exact e
   have c3:g∉n::rest.take k:=λz=>by
    have nn':=f3;have e2:n::rest=(n::rest.take k)++g::rest.drop (k+1):=by
     show n::rest=n::(rest.take k++g::rest.drop (k+1));rw[<-ed,tX]
    rw[e2,uP] at nn';exact nn'.2.2 g z g zM rfl
   have gs:∀ i,gd (l.set g (Yv l (gd l g).bs)) i=if i=g then Yv l (gd l g).bs else gd l i:=λi=>Pz e5
   refine .mk sD (by rw[ZO qD];exact Y _ _ X) ZR (cur:=l.set g (Yv l (gd l g).bs)) ?_ ?_ ?_
   ·rw[et,<-uT];exact p2
   ·rw[ec,Xs,aP (by rw[J];exact λz=>nomatch z)]
   ·rw[et,<-uT];refine((hb.mono (ZA.tups Y)).mono tD).push c3 (λi V=>?_) ?_
    ·rw[gs,aP (show ¬ i=g from λz=>c3 (z ▸ V))]
    ·rw[gs,aQ rfl,<-eL];exact(Ec c9).mono tD
 ·rintro σ H3 ⟨s3,X,U,p,ec,hb⟩;rename_i x y l o
  rw[show (iN rest).length=rest.length from zX _,yK (zY _)] at hb;rw[show (iN rest).length=rest.length from zX _,List.drop_of_length_le (zY _),Xs] at ec;exact⟨_,rfl,k2 l ec H3 D o s3 nD U hb⟩
end Tw
namespace L2
open PySem PySem.Spec PyProof.Rows
def D6:PySem.entryFor PySem.table "proto.unchain" = some Builtin.«proto.unchain» :=entryFor_of_fast (by kernel_rfl)
def ZPZ:jx->Prop:=λa=>a[1]? = some .none
section
variable{kh:jv}{σ:St}{H:Hp}{E:XK}
def ZE.newg{g:jx->Prop}{C:aj}{h':aD}{ea:aj}(I:ZE X kh σ H s)(d:∀ b o,s.heap.get? b=some o->h'.get? b=some o)(n:s.heap.get? ea=none)(j:WJ g ea C none h'):ZE X kh σ (upd H ea (XO g ea C none)) { s with heap:=h' }:=by
 have i:H ea=none:=by
  cases z:H ea with
  | none=>rfl
  | some o=>
   obtain⟨m,q⟩:=I.hok.there (a:=ea) (by rw[z];exact λy=>nomatch y)
   rw[n] at q;cases q
 have f:∀{b:aj}{o:HO},H b=some o->b≠ea:=fun{b o} q z=>by rw[z,i] at q;cases q
 refine I.call' (s':={ s with heap:=h' }) (ch:=[]) rfl ⟨λb o q _ _ _=>d b o q,λb o q _ _ _=>⟨o.slots,d b o q⟩,λb o q z _=>?_,λb o q _=>⟨o,d b o q⟩,λb l q=>?_,λb o u q=>?_,λb p q=>⟨#[],?_⟩⟩ (λb k q=>?_) I.bare (λb h=>absurd h (by simp))
 ·rw[ZO (λy=>by rw[y,n] at q;cases q)];exact z
 ·rw[ZO (f q)];exact q
 ·rw[ZO (f q)];exact q
 ·rw[ZO (f q),q];simp
 ·by_cases z:b=ea
  ·rw[z,ZR] at q;cases q;rw[z];exact Ln j
  ·rw[ZO z] at q;exact(I.hok b k q).stay (λc u _ r=>d c u r) (λc e=>by rw[ZO (f e)];exact e) (λc l e=>by rw[ZO (f e)];exact e)
def ZMq{a C:aj}{j:jz}{h:aD}(F:VO X E)(J:ZE X kh σ H s)(d:X.s₀.heap.get? a=none)(l:H a=none)(g:Xu (xQ s.heap (a::L2.frs X.stack)) X.outer a (.ref C) j .none h)(t:s.heap.UpToSlots h)(p:E (.ref C) j H):
  YC X.prog X.w X.outer X.H₀ X.s₀ E (.ref a) { s with heap:=h }:=by
 have c:∀ b o,b≠a->s.heap.get? b=some o->b∉L2.frs X.stack->(xQ s.heap (a::L2.frs X.stack)).get? b=some o:=λb o n q e=>uE _ q (λz=>by
  rcases zG.mp z with z | z
  ·exact n z
  ·exact e z)
 have YQ:∀ b o,s.heap.get? b=some o->H b≠none->(xQ s.heap (a::L2.frs X.stack)).get? b=some o:=λb o q n=>c b o (λz=>n (by rw[z];exact l)) q λz=>n (J.stkFree b z)
 refine⟨a,_,j,H,rfl,⟨⟨_,g,λb o q n=>?_,λb o q n e=>?_,λb o q e=>?_⟩,J.os,J.bare,Hj F J g.1 c t d,J.hok.keptT λb o q n=>g.1 b o (YQ b o q n),d,l⟩,p⟩
 ·obtain⟨f,i⟩:=J.hok.there n;have r:=g.1 b f (YQ b f i n);have m:h.get? b=some o:=q;rw[r] at m;rw[<-zJ.inj m];exact YQ b f i n
 ·have k:=J.base;rw[F.ex] at k;exact c b o (λz=>by rw[z,d] at q;cases q) (k.keep b o q n e (by simp)) (F.off J q e)
 ·obtain⟨f,i⟩:=J.base.there b o q (by rw[F.ex];simp)
  exact⟨f,c b f (λz=>by rw[z,d] at q;cases q) i (F.off J q e)⟩
end
def Ai{a:am}{w:aw}{A:ax}{E:ja}{s:al}{K:zZ}{C e:aj}{j:jx}{c:String}{Q:ja}(n:zI K C (.type "BaseException")=some true)(k:K.In s.heap)(f:s.heap.get? e=some ⟨.ref C,none,.fields j,#[]⟩)(h:Q (.ref e) s):aB (aA a w) A (excFromValue (.ref e) c) Q E s:=by
 obtain⟨i,g,d,p,o⟩:=s;have l:yJ (aA a w) i (typeOf (.ref e)) (.ref C):=Xh.ty ⟨_,f,rfl⟩ _;have m:=vH (M:=aA a w) k n;have b:i.get? e=some ⟨.ref C,none,.fields j,#[]⟩:=f;unfold excFromValue isExcClass isInstance isType
 repeat (first | with_reducible refine wpAny_loadPart_at b ?_ | with_reducible refine m.at ?_ | with_reducible refine l.at ?_ | wp_step)
 all_goals exact h
def Aj{a:am}{w:aw}{A:ax}{E:ja}{s:al}{C e:aj}{c:jx}{Q:Bool->al->Prop}(b:s.heap.get? e=some ⟨.ref C,none,.fields c,#[]⟩)(h:Q false s):aB (aA a w) A (isType (.ref e)) Q E s:=by
 unfold isType
 repeat (first | with_reducible refine wpAny_loadPart_at b ?_ | wp_step)
 all_goals exact h
def ZK6{a:am}{w:aw}{A:ax}{E:ja}{s:al}{K:zZ}{C e:aj}{l:jx}{Q:ja}(k:yQ K (.ref C)=some (.type "type"))(b:K.In s.heap)(i:s.heap.get? e=some ⟨.ref C,none,.fields l,#[]⟩)(h:Q (.ref e) s):aB (aA a w) A (raisedInstance (.ref e)) Q E s:=by
 obtain⟨j,g,d,n,m⟩:=s;have c:yJ (aA a w) j (typeOf (.ref e)) (.ref C):=Xh.ty ⟨_,i,rfl⟩ _;have f:=sF (M:=aA a w) b k;unfold raisedInstance
 repeat (first | with_reducible refine c.at ?_ | with_reducible refine f.at ?_ | wp_step)
 all_goals exact h
def ZH6{f:am}{w:aw}{A:ax}{E:ja}{s:al}{t:Env}{K:zZ}{C h:aj}{x c:Sem ai}{Q:Flow->al->Prop}(V:A.handled=some (.ref h))(mB:zI K C (.type "BaseException")=some true)(X:yQ K (.ref C)=some (.type "type"))(U:∀ (a:al) (R:ja),R .none a->aB (aA f w) A c R E a)(Y:aB (aA f w) A x (λv a=>∃ e g q F,v=.ref e/\(∀ l:aD,(∀ b,b≠e->l.get? b=a.heap.get? b)->K.In l)/\a.heap.get? e=some ⟨.ref C,none,.fields g,#[]⟩/\4<g.size/\g[1]? = some .none/\h≠e/\a.heap.get? h=some q/\q.data=.fields F/\F[2]? = some .none /\
   ∀ l:aD,(∀ b,b≠e->l.get? b=a.heap.get? b)->WJ ZPZ e C none l->E (.ref e) { a with heap:=l }) E s):aB (aA f w) A (raiseStmt t (some x) (some c)) Q E s:=by
 unfold raiseStmt;refine aa (ae Y (λv a S=>?_) λ_ _ z=>z);obtain⟨e,g,q,F,rfl,G,u,n4,v1,J,P,O,w2,T⟩:=S;refine aa (af (U a _ (aa (ad ?_))));refine aa (af (Ai mB (G _ λ_ _=>rfl) u ?_));have I:(Value.none==Value.none)=true:=rfl;dsimp only;rw[aQ I];refine aa (ad ?_);have step:∀(m:aD)(D:jx)(i:Nat)(y:ai),(∀ b,b≠e->m.get? b=a.heap.get? b)->m.get? e=some ⟨.ref C,none,.fields D,#[]⟩->(∀ b,b≠e->(m.update e (Obj.mapFields (·.setIfInBounds i y))).get? b=a.heap.get? b)/\(m.update e (Obj.mapFields (·.setIfInBounds i y))).get? e=some ⟨.ref C,none,.fields (D.setIfInBounds i y),#[]⟩:=λm D i y Z k2=>
  ⟨λb n=>(yC _ _ n.symm).trans (Z b n),wW _ k2 rfl⟩
 refine aa (wpAny_setField u rfl ∅ ?_)
 obtain⟨H,r⟩:=step a.heap g 3 .none (λ_ _=>rfl) u;generalize a.heap.update e (Obj.mapFields (·.setIfInBounds 3 .none))=j at H r⊢;refine aa (wpAny_setField (s:={ a with heap:=j }) r rfl (by simp;lia) ?_)
 obtain⟨p,k⟩:=step j _ 4 (.bool true) H r;dsimp only;generalize j.update e (Obj.mapFields (·.setIfInBounds 4 (.bool true)))=d at p k⊢;refine aa (Aj (s:={ a with heap:=d }) k ?_);rw[aP zT];refine aa (ZK6 (s:={ a with heap:=d }) X (G _ p) k ?_);have o:((g.setIfInBounds 3 Value.none).setIfInBounds 4 (Value.bool true))[1]? = some Value.none:=by
  rw[tY (by decide),tY (by decide)];exact v1
 unfold setFlight;refine aa (aa (wpAny_field (s:={ a with heap:=d }) k rfl o ?_));rw[aP (by decide)]
 refine ad ?_;unfold raiseNew;refine aa (wpAny_handled ?_);rw[V];dsimp only;have nb:(Value.ref h != Value.ref e)=true:=by simp[J]
 rw[aQ nb];refine aa (af (wpAny_runValue (codeAny_builtin D6 ?_)));have B:d.get? h=some q:=(p h J).trans P;unfold Builtin.«proto.unchain»;dsimp only;refine aa (wpAny_field (s:={ a with heap:=d }) B O w2 ?_);rw[aQ I];refine aa (ad (ad ?_));dsimp only;have L:2<((g.setIfInBounds 3 Value.none).setIfInBounds 4 (Value.bool true)).size:=by simp;lia
 obtain⟨M,N⟩:=step d _ 2 (.ref h) p k;refine aa (wpAny_setField (s:={ a with heap:=d }) k rfl L ?_);refine wpAny_throw (T _ M ⟨_,_,N,rfl,rfl,rfl,?_⟩);show (((g.setIfInBounds 3 Value.none).setIfInBounds 4 (Value.bool true)).setIfInBounds 2 (Value.ref h))[1]? = some Value.none;rw[tY (by decide)]
 exact o
def HW(a b:aj)(E:XK):XK:=λcls d c=>cls=.ref a/\E (.ref b) none c
inductive Oo(e f C:aj)(E:XK)(m:Str)(k:Sp)(t:TA)(j:Nat)(D:Yq)(d:L2.St)(x:V)(b:Hp):Prop
 |mk(a i c:_)(_:x=.ref a)(_:b a=some (.ins C i c))(_:c.lookup m=none)(_:t d b λl g=>k (x::(l++[])) g (λv h=>D.nx (d.set j (some v)) h) (HW e f E))
def ZPP(b c C:aj)(E:XK)(m:Str)(e:Sp)(f:TE)(t:TA)(j:Nat):TS:=λD a H=>f a H λx d=>Oo b c C E m e t j D a x d
def Pr(K:zZ)(C:aj)(n:Str):Bool:=match uY K C with
 | some a=>a.name==n
 | none=>false
def EY{K:zZ}{C:aj}{n:Str}(h:Pr K C n=true):∃ o a,K.lookup C=some o/\o.data=.cls a/\a.name=n:=by
 unfold Pr at h;split at h
 ·rename_i a e
  unfold uY at e;split at e
  ·rename_i b
   cases e;exact⟨_,_,b,rfl,eq_of_beq h⟩
  ·cases e
 ·cases h
def ZIB{X:Cx}{E:XK}{k:Nat}{f C CB CZ:aj}{fd:ao}{ps:ju}{sp:Sp}{m y z n0:Str}{p0 jk jj epos py pz zpos npos rpos ph pos:aK}{kc:Nat}{o e:Expr}{es:jA}{ta:TE}{t:TA}{j:Nat}{pl:Sem Bool}(FX:VO X E)(he:∀ E',PE (X.wish E') o ta)(c:Wg X.K C)(hm:UG X.K C m f)(F:ZJ X.prog X.w X.K X.mg X.base (YC X.prog X.w) k f fd ps sp)(hr:ZZ k X.A)(hb:Z8 X.K fd ps [])(ha:∀ E',PA (X.wish E') (e::es) t)(hN:X.N.Nodup)(hj:X.N[j]? = some n0)(hn0:X.env.scope.names.lookup n0=some .local)(hy:Gl X y)(hyC:X.mg y=some (.ref CB))(ht:yQ X.K (.ref CB)=some (.type "type"))(hB:zI X.K CB (.type "BaseException")=some true)(hBB:zI X.K CB (.ref CB)=some true)(hnm:Pr X.K CB "NoStem" = true)(hz:Gl X z)(O:OwnCls z CZ [.type "ValueError",.type "Exception",.type "BaseException",.type "object"] "ValueError.__new__" X.mg X.base)(kp:yW X.K (.ref CZ)=true)(mBZ:zI X.K CZ (.type "BaseException")=some true)(htZ:yQ X.K (.ref CZ)=some (.type "type"))(hnz:Pr X.K CZ "NoLeaf" = true)(hdy:(y==("__debug__" : Str))=false:=by decide)(hdz:(z==("__debug__" : Str))=false:=by decide)(hse:ar (e::es) X.env=(false,aI e X.env)::ar es X.env:=by rfl)(hpl:(aG jj (ar es X.env)).any (·.1)=false:=by rfl)(hev:aI (.Call (.Attribute o m jk) (e::es) [] jj) X.env=(do
   let ov<-aI o X.env
   standAt jk.atName
   let (f,first)<-holding [ov] (getMethod ov m pl)
   callWith jj f first (aG jj (ar (e::es) X.env)) (backToKw jj (keywordEach [] X.env))):=by rfl)(hsw:aF (.Call (.Attribute o m jk) (e::es) [] jj) (some (.Name n0 p0)) epos.line X.env=pure false:=by rfl):
  PS X (.Try [.Assign [.Name n0 p0] (.Call (.Attribute o m jk) (e::es) [] jj) epos] [.ExceptHandler (some (.Name y py)) none [.Raise (some (.Call (.Name z pz) [] [] zpos)) (some (.Constant .none kc npos)) rpos] ph] [] [] pos) (ZPP CB CZ C E m sp ta t j):=by
 intro d s σ H D I h;refine wpAny_Try_except ?_;have a4:=FX.stack;have a2:=FX.frame;have a3:X.A.frames=some (X.env::X.outer):=by rw[I.ok.frames,a4]
 have a6:∀(H1:Hp)(s1:al)(G:ai)(i:al),ZE X d σ H1 s1->YC X.prog X.w X.stack H1 s1 (HW CB CZ E) G i ->
   aB (aA X.prog X.w) X.A (noteFrame G X.env) (λ_ M=>aB (aA X.prog X.w) X.A (setFlight G none) (λ_ P=>aB (aA X.prog X.w) X.A (handleBy G X.env [.ExceptHandler (some (.Name y py)) none [.Raise (some (.Call (.Name z pz) [] [] zpos)) (some (.Constant .none kc npos)) rpos] ph]) (SP X d D) X.xe P) X.xe M) X.xe i:=by
  intro H1 s1 G i U hx;obtain⟨Y,cls,od,H',rfl,W,rfl,q⟩:=hx;obtain⟨B,fl,YQ,a7,a5⟩:=W.ex;have c7:Xu B (X.env::X.outer) Y (.ref CB) od .none i.heap:=by rw[<-a4];exact fl
  refine MY a3 a2 c7 λh4 a1 a9=>?_;refine Qy (s:={ i with heap:=h4 }) a1 λh5 Z c0=>?_;have J5:ZE X d σ H' { i with heap:=h5 }:=NB U W YQ a7 a5 Z.1 (a9.trans c0);refine wpAny_handleBy_cons (codeAny_handlers_test ?_) (by intro q;cases q)
  refine Qb (J5.held Y (λ_ _=>False)) hy hyC ?_ hdy;refine Kj (s:={ i with heap:=h5 }) J5.kIn Z.at.is ht hB hBB ?_;refine codeAny_handlers_suite ?_;refine Qy (s:={ i with heap:=h5 }) Z λh6 fl6 e9=>?_;have Q:ZE X d σ H' { i with heap:=h6 }:=NB U W YQ a7 a5 fl6.1 ((a9.trans c0).trans e9);obtain⟨oB,c3,lB,dB,nB⟩:=EY hnm;have F7:CB∉frs X.stack:=λz=>by
   have g0:=(U.stack.mem z).1;rw[U.ok.mod.kin _ _ lB] at g0;cases g0
  obtain⟨S,gB⟩:=a5 CB oB (U.kIn _ _ lB) F7;have eo:S=oB:=by
   have e1:=fl6.1 CB S gB;have g:=Q.kIn CB oB lB;exact zJ.inj (e1.symm.trans g)
  obtain⟨_,_,_,oe,vs,T,oT,ts,⟨ge,c1,c2,dd,v1⟩,TB,Te,gT,dT,t3,cx⟩:=id fl6;have w2:vs[2]? = some .none:=cx.elim id λz=>absurd nB (z CB S c3 rfl gB (by rw[eo];exact dB))
  refine wpAny_execs_cons ?_;rw[arm_exec_Raise];refine aa (ah ?_);have I6:=Q.held Y (λ_ _=>False);refine ZH6 (K:=X.K) (C:=CZ) (h:=Y) rfl mBZ htZ (λs2 R hR=>aa (Constant_none (aa (ah (ad hR))))) (aa (ae ?_ (λv s3 n=>aa (ah (ad n))) λ_ _ z=>z));have FB:=rZ;obtain⟨tl,N,nm,q',bs,i4,sn,l1,ab,i7,i8,k0,k1,k2,k3,k5,mN,hC,e3,e4,T'⟩:=O.obj;refine ag (Qb I6 hz O.bound ?_ hdz);refine uF Q.kIn kp ?_;refine wpAny_call_exc_subU (rest:=[]) FB FB.hasB FB (T'.keeps Q.bk) (Q.bk _ _ hC) (e3.keeps Q.bk) e4 (λh' g p=>?_) (yX _);obtain⟨tt,e1,_,_⟩:=p.there;have e8:Y≠g:=λz=>by
   have:=p.new;rw[<-z,ge] at this;cases this
  have L:∀ n:aD,(∀ b,b≠g->n.get? b=h'.get? b)->∀ b o,h6.get? b=some o->n.get? b=some o:=λn k b o q=>(k b λz=>by
   have:=p.new;rw[<-z,q] at this;cases this).trans (p.keeps b o q)
  exists g,_,oe,vs,rfl,λn k=>Q.kIn.keeps (L n k),e1,(by show 4<6;lia),rfl,e8,p.keeps _ _ ge,dd,w2
  intro n k hx;have nw:h6.get? g=none:=p.new;have J:=Q.newg (C:=CZ) (ea:=g) (h':=n) (L n k) nw hx;have hn:H' g=none:=by
   cases z:H' g with
   | none=>rfl
   | some o=>
    obtain⟨S,q'⟩:=Q.hok.there (a:=g) (by rw[z];exact λy=>nomatch y)
    rw[show h6.get? g=some S from q'] at nw;cases nw
  have a8:X.s₀.heap.get? g=none:=by
   cases z:X.s₀.heap.get? g with
   | none=>rfl
   | some o=>
    obtain⟨S,q'⟩:=Q.base.there g o z (by rw[FX.ex];simp)
    rw[show h6.get? g=some S from q'] at nw;cases nw
  have J3:=J.untrack hn;obtain⟨oz,vz,gz,z1,z2,z3,zg⟩:=hx;have ff:n.FunFrames (xQ n (g::L2.frs X.stack)) (X.env::X.outer):=by
   have:=qX (as:=g::L2.frs X.stack) J3.stack (λc6 he a ha=>zH _ (xO.mpr ⟨c6,he,ha⟩));rw[a4] at this⊢;exact this
  have eB:(xQ n (g::L2.frs X.stack)).get? g=none:=tW _ (by simp)
  obtain⟨oZ,i6,lZ,dZ,nZ⟩:=EY hnz;have c4:O6 (xQ n (g::L2.frs X.stack)) oz.cls vz:=.inr λC' S i5 y1 y2 y3 y4=>by
   rw[z1] at y1;cases y1;have e5:=vV _ y2;have e6:=J3.kIn CZ oZ lZ;have e7:S=oZ:=zJ.inj (e5.symm.trans e6);rw[e7,dZ] at y3;cases y3;rw[nZ] at y4;exact absurd y4 (by decide)
  refine EO (s:={ i with heap:=n }) (A:=X.A.mark (some (.ref Y))) a3 ff a2 gz (λb o q=>vV _ q) eB z2 zg c4 λh7 a0 i0=>?_;rw[z1,z3] at a0;obtain⟨_,_,_,l0,l3,T7,i9,l2,⟨e0,_,_,c5,i3⟩,_⟩:=id a0;show cameBackBy (aA X.prog X.w) X.A X.env X.xe (.ref g) { i with heap:=h7 };unfold cameBackBy;refine aa (wpAny_field e0 c5 i3 ?_);rw[aP (show ¬ ((Value.ref T7==Value.none)=true) from by simp)]
  refine EH (s:={ i with heap:=h7 }) a0 λh8 c8 i1=>?_;refine FX.xe _ _ ?_;refine Em (s:={ i with heap:=h8 }) a3 a2 c8 λh9 c9 i2=>?_;exact ZMq (s:={ i with heap:=n }) FX J3 a8 hn c9 ((i0.trans i1).trans i2) q
 have I':=I.wish (λG i=>aB (aA X.prog X.w) X.A (noteFrame G X.env) (λ_ M=>aB (aA X.prog X.w) X.A (setFlight G none) (λ_ P=>aB (aA X.prog X.w) X.A (handleBy G X.env [.ExceptHandler (some (.Name y py)) none [.Raise (some (.Call (.Name z pz) [] [] zpos)) (some (.Constant .none kc npos)) rpos] ph]) (SP X d D) X.xe P) X.xe M) X.xe i);refine wpAny_execs_cons (wpAny_Assign_Name ?_ hsw);refine tS (pl:=pl) (Z3 (he _ d s σ H _ I' h) λu s1 ⟨x,H1,U,rx,a,dx,fs,ex,Y,l,q⟩=>?_) hev;subst ex;obtain rfl:u=Value.ref a:=rx;refine Lj U.unwish Y c hm l ?_;refine wF (first:=[.ref a]) (h₀:=X.base) I.ok.mod.kin hm.kp (YG (ha _ jj d s1 σ H1 _ U q) λus s2 vs H2 I2 r q2=>⟨I2.kIn,?_⟩) hse hpl
 have r2:ZT (V.ref a::(vs++[])) (Value.ref a::(us++[])):=.cons rfl (r.append .nil);have hl:(Value.ref a::us++[]).length=ps.length:=by rw[show Value.ref a::us++[]=Value.ref a::(us++[]) from rfl,<-r2.length];exact F.len _ _ _ _ q2
 refine wpAny_call (codeAny_mono (F.run X.A X.stack s2 H2 ⟨.ref a::us,[]⟩ (.ref a::us++[]) (.ref a::(vs++[])) _ _ hr I2.unwish.env0 (hb s2 (.ref a::us) I2.kIn hl) r2 q2) λrr i hq=>?_)
 cases rr with
 | error G=>exact a6 H2 s2 G i I2.unwish hq
 | ok fl=>
  cases fl with
  | ret u=>
   obtain⟨v,H3,J,rv,q3⟩:=I2.unwish.after hq;exact Nx J hN hj (.inl hn0) rv (λs4 I4=>wpAny_execs_nil (wpAny_execs_nil ⟨_,H3,I4,q3⟩)) (.inr hn0)
  | next=>exact False.elim hq
  | brk=>exact False.elim hq
  | cont=>exact False.elim hq
def C3{d:aj}{o:aJ}{a:List (ZV×V)}{g:TG}{r:TS}{D:Yq}{b:St}{H:Hp}(c:Nat->St->Hp->Prop)(u:c 0 b H)(z:∀ i b H,i<=a.length->c i b H->H d=some (.frz o (.dK a)))(A:∀ i p b H,a[i]? = some p->c i b H->g (kV p.1) b H λj l=>r { D with nx:=c (i+1),ct:=c (i+1),bk:=D.nx } j l)(v:∀ b H,c a.length b H->D.nx b H):
  ∃ W:Nat->Nat->St->Hp->Prop,(∃ m,W 0 m b H)/\∀ i m b H,W i m b H ->
   ((MH d o a).stop i H/\D.nx b H)\/((MH d o a).go i H/\∃ N:St->Hp->Prop,(∀ h f,N h f->∃ n,n<m/\W (i+1) n h f)/\∀ x f,(MH d o a).yld i H x f->g x b f λj l=>r { D with nx:=N,ct:=N,bk:=D.nx } j l):=by
 exists λi m b H=>m=a.length-i/\i<=a.length/\c i b H,⟨a.length,by simp,yX _,u⟩
 rintro i m b H ⟨rfl,w,p⟩;have q:=z i b H w p;by_cases k:i<a.length
 ·refine .inr ⟨⟨q,k⟩,c (i+1),λh f B=>⟨a.length-(i+1),∅,rfl,k,B⟩,λx f y=>?_⟩
  obtain⟨e,C,s,t⟩:=y;subst e t;exact A i C b _ s p
 ·have e:i=a.length:=∅
  subst e;exact .inl ⟨⟨q,zY _⟩,v b H p⟩
end L2
namespace Tw
open PySem PySem.Spec L2 PyProof.Rows
variable{jh ji CS CT CH CK CP CB:aj}
inductive N6(ji:aj)(H:Hp)(x:Nat->aj)(e d:Nat->V)(a:Nat->aj)(c:Nat->Nat)(i:Nat):Prop
 |mk(b:_)(_:H (x i)=some (.ins ji b (Ug (e i) (d i) (a i) (c i))))
inductive UM(jh ji:aj):Sp
 |mk{S d lk D:aj}{N:Nat}{kvs lkv:List (ZV×V)}{ls:jf}{rd:jq}{x ab:Nat->aj}{th tg vl:Nat->V}{ho:Nat->Nat}{H:Hp}{Q:VK}{E:XK}:
  XI jh H S d lk N kvs ls->(∀ i∈rd,YK kvs (kI i)=some (.ref (x i))/\x i≠S)->(∀ i∈rd,N6 ji H x th tg ab ho i)->H D=some (.dK lkv)->D≠d->lkv.map (·.1)=rd.map kI->rd.Nodup->(∀ i∈rd,YK lkv (kI i)=some (vl i))->(∀ i∈rd,∀ j∈rd,i≠j->x i≠x j) ->
  (∀ H',(∀ c o,(∀ i∈rd,c≠x i)->H c=some o->H' c=some o)->(∀ i∈rd,N6 ji H' x th vl ab ho i)->Q .non H')->UM jh ji [.ref S,.ref D] H Q E
abbrev BL:ju:=["self","labels","number","twig"]
def Qq:ZC BL zFc (Zc JV):=Z9
inductive Iw(ji S D:aj)(o:aJ)(lkv:List (ZV×V))(rd:jq)(x ab:Nat->aj)(th tg vl:Nat->V)(ho:Nat->Nat)(H:Hp):Nat->L2.St->Hp->Prop
 |mk{k:Nat}{y z:jg}{H2:Hp}:(∀ c o,(∀ i∈rd,c≠x i)->c≠D->H c=some o->H2 c=some o)->H2 D=some (.frz o (.dK lkv))->(∀ i∈rd.take k,N6 ji H2 x th vl ab ho i)->(∀ i∈rd.drop k,N6 ji H2 x th tg ab ho i) ->
  Iw ji S D o lkv rd x ab th tg vl ho H k [some (.ref S),some (.ref D),y,z] H2
def Cs(F:Zp K "give_labels" "Shelf.give_labels" JV f fd)(L:Yo K mg jh ji)(DT:ZH P w K mg ki Ze 1 jh "twig_of" zEa (Zu jh)):ZJ P w K mg ki Ze 2 f fd zFc (UM jh ji):=by
 refine F.ko Qq λa9 A a8 s H vs Q E hr h=>?_;obtain⟨R,hv,hl,I,a6,hk,a7,a3,hx,k⟩:=h;rename_i S d lk D N a5 m ls rd x ab th tg vl ho
 have nd:=Qq.nd;have hu:=VJ hr;have ll:m.length=rd.length:=by have:=congrArg yA hk;simpa using this
 intro Xc;refine⟨_,ZX (Bw (Wo PassesOwn.never rfl (ZNV (pv 1)) (Yk 2 nd)
  (ZQ (Zs 3 nd (XH (E:=E0) (pv 0) L.cS DT hr XA (ZY (pv 2))))
  (ZX (Qa (pv 3) (VX hu (pv 1) (pv 2)) rfl))))),?_⟩
 obtain⟨⟨dS,hS⟩,hd,u⟩:=R;have T:∀ i∈rd,∃ g W,H (x i)=some (.ins ji g W):=λi a=>by
  obtain⟨g,e⟩:=hl i a;exact⟨g,_,e⟩
 have nD:∀ i∈rd,x i≠D:=λi a=>by
  obtain⟨g,W,e⟩:=T i a;exact ZD e I
 exists D,m,I,_,rfl,D,m,rfl,I;intro o;refine C3 (Iw ji S D o m rd x ab th tg vl ho H) (.mk (λc Y _ n e=>by rw[ZO n];exact e) ZR (λi a=>by simp at a) (λi a=>?_)) (λi σ Z _ hP=>by obtain⟨_,h2,_,_⟩:=hP;exact h2) ?_ ?_
 ·obtain⟨g,e⟩:=hl i a;exact⟨g,by rw[ZO (nD i a)];exact e⟩
 ·rintro i p σ Z hp ⟨G,r,t,B⟩;have a:i<rd.length:=by rw[<-ll];exact(yN.mp hp).1
  have ep:p.1=kI rd[i]:=by
   have:=congrArg (λl=>l[i]?) hk;simp only[zN,hp,zV a] at this;exact zJ.inj this
  have er:rd[i]? = some rd[i]:=zV a;have X:rd.drop i=rd[i]::rd.drop (i+1):=vS a;have et:rd.take (i+1)=rd.take i++[rd[i]]:=by rw[yP,er];rfl
  have V:rd=rd.take i++rd[i]::rd.drop (i+1):=by rw[<-X,tX]
  have J:rd[i]∈rd:=xU _;have v:=a7;rw[V,uP,xD] at v;rw[ep];generalize rd[i]=b at X et V J v⊢;have nS:∀ j∈rd,S≠x j:=λj q=>(hv j q).2.symm;have U:∀(c:aj)(o:HO),H c=some o->(∀ C g W,o≠.ins C g W)->∀ j∈rd,c≠x j:=λc o e n j q=>by
   obtain⟨g,W,e2⟩:=T j q;exact ZD e e2 (n _ _ _)
  have M:=G _ _ nS (ZD hS I) hS;have a0:=G _ _ (U _ _ hd (by intro _ _ _ z;cases z)) a6.symm hd
  have a2:=G _ _ (U _ _ u (by intro _ _ _ z;cases z)) (ZD u I) u
  obtain⟨g,a4⟩:=B b (by rw[X];exact zM)
  have a1:Zx Z D (.int (b:Nat)) (some (vl b)):=.inl ⟨m,kI b,.inr ⟨o,r⟩,rfl,(a3 b J).symm⟩;exists _,rfl,S,dS,_,rfl,M,rfl,_,rfl,S,d,lk,N,a5,ls,(b:Int),.ref (x b),rfl,⟨⟨dS,M⟩,a0,a2⟩,(hv b J).1;exists _,rfl,_,rfl,D,vl b,rfl,a1,_,rfl,x b,ji,g,_,rfl,a4,L.cT,L.ntg,yO rfl;have ne:∀ j∈rd,j≠b->x j≠x b:=λj q n=>hx j q b J n;refine .mk (λc Y n1 n2 e=>by rw[ZO (n1 b J)];exact G c Y n1 n2 e) (by rw[ZO (nD b J).symm];exact r) (λj q=>?_) (λj q=>?_)
  ·rw[et] at q;by_cases z:j=b
   ·subst z;exact⟨g,ZR⟩
   ·have O:j∈rd.take i:=(yM.mp q).elim id λy=>absurd (yZ.mp y) z;obtain⟨dj,ej⟩:=t j O;exact⟨dj,by rw[ZO (ne j (List.mem_of_mem_take O) z)];exact ej⟩
  ·have z:j≠b:=λz=>v.2.1.1 (z ▸ q);obtain⟨dj,ej⟩:=B j (by rw[X];exact zH _ q)
   exact⟨dj,by rw[ZO (ne j (List.mem_of_mem_drop q) z)];exact ej⟩
 ·rintro σ Z ⟨G,r,t,B⟩;rw[ll,yK (zY _)] at t;refine⟨o,m,r,k _ (λc Y n e=>?_) λi a=>?_⟩
  ·by_cases z:c=D
   ·subst z;rw[ZR,<-e,I]
   ·rw[ZO z];exact G c Y n z e
  ·obtain⟨g,e⟩:=t i a;exact⟨g,by rw[ZO (nD i a)];exact e⟩
abbrev KR:Stmt:=Xy (top 36) 10
def Zw.short{gt:jr}{c:js}{e:jq}{g:Nat->Nat}(k:WF gt c)(f:Lv c e){i:Nat}{l:jq}(h:Zw c e g i l):l.length<=VW c (gd c i).h+1:=by
 induction h with
 | top a b=>exact Nat.le_add_left _ _
 | up a b m n=>
  rename_i i j l r
  have d:=OV k f (i:=i) (j:=j) (by rw[b];exact zM)
  have:=Mi (f.lt j d.2) d.1;rw[yY]
  lia
def ID:∀{l:jq}{b a:js}{i:Nat},Xs b l=some a->i∉l->gd a i=gd b i
 | [],b,a,i,h,_=>by rw[Xs] at h;cases h;rfl
 | s::l,b,a,i,h,hi=>by
  rw[Xs] at h;split at h
  ·cases h
  ·rw[ID h λz=>hi (zH _ z)];unfold gd;rw[zW,vT (λz=>hi (by rw[z];exact zM)),<-zW]
def Py(a:jy)(rd:jq)(n b:Nat)(c:Nat->aj):jy:=(zQ a.length).map λi=>if i∈rd then ⟨(a.getD i .d).x,if i=n then b else (a.getD i .d).th,c i,(a.getD i .d).ab⟩ else a.getD i .d
def MA{a:jy}{rd:jq}{n own:Nat}{tg:Nat->aj}{i:Nat}(h:i<a.length):(Py a rd n own tg).getD i .d=if i∈rd then ⟨(a.getD i .d).x,if i=n then own else (a.getD i .d).th,tg i,(a.getD i .d).ab⟩ else a.getD i .d:=by
 unfold Py;rw[zW,zN,List.getElem?_range h];rfl
structure IG(H:Hp)(lv:jq)(as as':jy):Prop where
 x:∀ i∈lv,(as'.getD i .d).x=(as.getD i .d).x
 ab:∀ i∈lv,(as'.getD i .d).ab=(as.getD i .d).ab
 th:∀ i∈lv,(as'.getD i .d).th=(as.getD i .d).th\/H (as'.getD i .d).th=none
section
variable{jh ji:aj}{H H':Hp}{S d lk:aj}{ts cur:js}{lv rd:jq}{av:Nat->jq}{ho:Nat->Nat}{as:jy}{kvs:List (ZV×V)}{ls us:jf}{n own:aj}{tg:Nat->aj}
def Dd(R:YJ jh ji H S d lk ts lv av ho as kvs ls)(t:cur.length=ts.length)(hn:n∈rd)(s:∀ i∈rd,i∈lv)(J:H own=none)(L:∀ c o,(∀ i∈rd,c≠(as.getD i .d).x)->H c=some o->H' c=some o)(Z:∀ i,(gd cur i).bs=(gd ts i).bs/\(gd cur i).h=(gd ts i).h)(E:∀ i,i∉rd->gd cur i=gd ts i)(D:∀ i∈rd,i≠n->(gd ts i).h≠0)(A:∀ i∈rd,N6 ji H' (λi=>(as.getD i .d).x) (λi=>.ref (if i=n then own else (as.getD i .d).th)) (λi=>.ref (tg i)) (λi=>(as.getD i .d).ab) ho i)(M:∀ i∈rd,YD H' (YY (gd cur i)) (.ref (tg i)))(B:H' own=some (.lst us))(h0:(gd cur n).h=0->jX H' (Ys (gd cur n).rows) us)(h1:(gd cur n).h≠0->us=iN (gd cur n).bs):
  YJ jh ji H' S d lk cur lv av ho (Py as rd n own tg) kvs ls/\IG H lv as (Py as rd n own tg):=by
 obtain⟨⟨dS,hS⟩,hd,V⟩:=R.sh;have N:∀ i∈lv,∃ g us,H (as.getD i .d).x=some (.ins ji g us):=λi a=>by
  obtain⟨g,e⟩:=(R.tw i a).tw.self;exact⟨g,_,e⟩
 have k:∀ c o,(∀ C g fs,o≠.ins C g fs)->H c=some o->H' c=some o:=λc o n e=>L c o (λi a=>by
  obtain⟨g,us,I⟩:=N i (s i a);exact ZD e I (n _ _ _)) e
 have m:YO H H':=λc xs e=>k c _ (by intro _ _ _ z;cases z) e
 have u:∀ i∈lv,i<as.length:=λi a=>by rw[R.len];exact R.lt i a
 have F:∀ i∈lv,∃ us,H (as.getD i .d).th=some (.lst us):=λi a=>by
  obtain⟨us,e,_⟩:=(R.tw i a).things;exact⟨us,e⟩
 have r:∀ i∈lv,H (as.getD i .d).ab=some (.lst (iN (av i))):=λi a=>(R.tw i a).tw.above;have v:∀ i∈lv,((Py as rd n own tg).getD i .d).x=(as.getD i .d).x:=λi a=>by rw[MA (u i a)];split <;> rfl
 have b:∀ i∈lv,((Py as rd n own tg).getD i .d).ab=(as.getD i .d).ab:=λi a=>by rw[MA (u i a)];split <;> rfl
 have f:∀ i∈lv,((Py as rd n own tg).getD i .d).th=if i=n then own else (as.getD i .d).th:=λi a=>by
  rw[MA (u i a)];by_cases z:i∈rd
  ·rw[aQ z]
  ·rw[aP z,aP (λy=>z (by rw[y];exact hn))]
 have l:∀ i∈lv,own≠(as.getD i .d).th/\own≠(as.getD i .d).ab:=λi a=>by
  obtain⟨us,e⟩:=F i a;exact⟨(Zb e J).symm,(Zb (r i a) J).symm⟩
 have O:own≠lk:=(Zb V J).symm;refine⟨⟨⟨⟨dS,by rw[t];exact L _ _ (λi a=>(R.own i (s i a)).1.symm) hS⟩,k _ _ (by intro _ _ _ z;cases z) hd,k _ _ (by intro _ _ _ z;cases z) V⟩,R.keys,λi a=>by rw[v i a];exact R.val i a,λi a=>by rw[t];exact R.lt i a,by unfold Py;simp[R.len,t],λi a=>?_,λi a=>?_,λi j a p w=>?_⟩,v,b,λi a=>?_⟩
 ·have W:=R.tw i a;by_cases z:i∈rd
  ·have e:=MA (rd:=rd) (n:=n) (own:=own) (tg:=tg) (u i a);rw[aQ z] at e;obtain⟨g,U⟩:=A i z;exists ?_,?_
   ·rw[e];exact⟨⟨g,U⟩,k _ _ (by intro _ _ _ z;cases z) (r i a)⟩
   ·rw[e];by_cases y:i=n
    ·subst y;rw[aQ rfl];exact⟨us,B,h0,h1⟩
    ·rw[aP y];obtain⟨T,e1,I,e3⟩:=W.things;have hh:=D i z y;rw[(Z i).2,(Z i).1];exact⟨T,k _ _ (by intro _ _ _ z;cases z) e1,λq=>absurd q hh,e3⟩
   ·rw[e];exact M i z
  ·have e:=MA (rd:=rd) (n:=n) (own:=own) (tg:=tg) (u i a);rw[aP z] at e;rw[e];obtain⟨g,U⟩:=W.tw.self;have G:=W.frame m (λo e=>L _ _ (λj p=>(R.two i j a (s j p) λy=>z (by rw[y];exact p)).1) e) (λo e=>k _ _ (by obtain⟨us,I⟩:=F i a;have:=e.symm.trans I;cases this;intro _ _ _ z;cases z) e) (λo e=>k _ _ (by have:=e.symm.trans (r i a);cases this;intro _ _ _ z;cases z) e)
   exists G.tw,?_
   ·rw[E i z];exact G.things
   ·rw[E i z];exact G.tag
 ·rw[v i a,b i a,f i a];obtain⟨X,Y,o3,o4⟩:=R.own i a;by_cases y:i=n
  ·rw[aQ y];exact⟨X,Y,O,(l i a).2.symm⟩
  ·rw[aP y];exact⟨X,Y,o3,o4⟩
 ·rw[v i a,b i a,f i a,v j p,b j p,f j p];obtain⟨P,Q,t3,t4⟩:=R.two i j a p w;by_cases y:i=n
  ·have K:j≠n:=λz=>w (y.trans z.symm);rw[aQ y,aP K];exact⟨P,Q,t3,(l j p).1⟩
  ·rw[aP y];by_cases K:j=n
   ·rw[aQ K];exact⟨P,Q,(l i a).2.symm,(l i a).1.symm⟩
   ·rw[aP K];exact⟨P,Q,t3,t4⟩
 ·rw[f i a];by_cases y:i=n
  ·rw[aQ y];exact .inr J
  ·rw[aP y];exact .inl rfl
end
inductive VU(ts:js)(lv:jq)(ho:Nat->Nat)(n:Nat)(rs:jG):jf->Prop
 | stem:(gd ts n).h≠0->VU ts lv ho n rs [.str "leaf"]
 | shared {j:Nat}:(gd ts n).h=0->Sh ts lv ho n (some j)->VU ts lv ho n rs [.str "shared",.int (j:Nat)]
 | key {rest:jq}:(gd ts n).h=0->Zw ts lv ho n (n::rest)->Y6 rs=0->VU ts lv ho n rs [.str "key"]
 | leaf {rest:jq}:(gd ts n).h=0->Zw ts lv ho n (n::rest)->Y6 rs=1->VU ts lv ho n rs [.str "leaf"]
 | up {rest:jq}:(gd ts n).h=0->Zw ts lv ho n (n::rest)->Y6 rs=2->Xs (ts.set n (Y5 (rs.map Yt))) rest=none->VU ts lv ho n rs [.str "leaf"]
inductive Ny(c:js)(e:jq)(d:Nat->Nat)(n:Nat)(b:jG)(rest:jq)(a:js):Prop
 | mk:(gd c n).h=0->Zw c e d n (n::rest)->Y6 b=2->Pk (b.map Yt)->Xs (c.set n (Y5 (b.map Yt))) rest=some a->Ny c e d n b rest a
section
variable{ts:js}{lv:jq}{ho:Nat->Nat}{n:Nat}{rs:jG}
def VU.uniq{f i:jf}(h:VU ts lv ho n rs f)(g:VU ts lv ho n rs i):f=i:=by
 cases h with
 | stem a=>
  cases g with
  | stem=>rfl
  | shared b=>exact absurd b a
  | key b=>exact absurd b a
  | leaf b=>exact absurd b a
  | up b=>exact absurd b a
 | shared a b=>
  cases g with
  | stem c=>exact absurd a c
  | shared c d=>cases b.uniq d;rfl
  | key c d=>cases b.uniq d.sh
  | leaf c d=>cases b.uniq d.sh
  | up c d=>cases b.uniq d.sh
 | key a b c=>
  cases g with
  | stem d=>exact absurd a d
  | shared _ d=>cases d.uniq b.sh
  | key=>rfl
  | leaf _ _ d=>exact absurd (c.symm.trans d) (by decide)
  | up _ _ d=>exact absurd (c.symm.trans d) (by decide)
 | leaf a b c=>
  cases g with
  | stem d=>exact absurd a d
  | shared _ d=>cases d.uniq b.sh
  | key _ _ d=>exact absurd (c.symm.trans d) (by decide)
  | leaf=>rfl
  | up _ _ d=>exact absurd (c.symm.trans d) (by decide)
 | up a b c e=>
  cases g with
  | stem d=>exact absurd a d
  | shared _ d=>cases d.uniq b.sh
  | key _ _ d=>exact absurd (c.symm.trans d) (by decide)
  | leaf _ _ d=>exact absurd (c.symm.trans d) (by decide)
  | up=>rfl
def VU.no{k:jf}{rest:jq}{d:js}(h:VU ts lv ho n rs k)(g:Ny ts lv ho n rs rest d):False:=by
 obtain⟨j,rd,f,_,i⟩:=g
 cases h with
 | stem a=>exact a j
 | shared _ b=>cases b.uniq rd.sh
 | key _ _ c=>rw[f] at c;cases c
 | leaf _ _ c=>rw[f] at c;cases c
 | up _ b _ e=>
  cases b.uniq rd;rw[e] at i;cases i
def VU.word{b:jf}(h:VU ts lv ho n rs b):∃ a:jr,(∀ H:Hp,jX H a b)/\(KT.tup a).wide 5=true:=by
 cases h with
 | stem=>exact⟨[.str "leaf"],λH=>.cons (.str _) .nil,rfl⟩
 | shared=>exact⟨[.str "shared",.int _],λH=>.cons (.str _) (.cons (.int _) .nil),rfl⟩
 | key=>exact⟨[.str "key"],λH=>.cons (.str _) .nil,rfl⟩
 | leaf=>exact⟨[.str "leaf"],λH=>.cons (.str _) .nil,rfl⟩
 | up=>exact⟨[.str "leaf"],λH=>.cons (.str _) .nil,rfl⟩
end
inductive YA(gt:jr)(jh ji CK CL CD:aj):Sp
 |mk{S d t l:aj}{p:js}{b:jq}{s:Nat->jq}{g:Nat->Nat}{q:jy}{m:List (ZV×V)}{u r:jf}{n:Nat}{e:jG}{H:Hp}{Q:VK}{E:XK}:
  Va gt jh ji H S d t p b s g q m u->n∈b->H l=some (.lst r)->Zj H e r->r.length<=100->(Y6 e=2->((e.map Yt).map (·.1)).Sublist gt) ->
  (VU p b g n e [.str "leaf"]->∀ a,ZA H a->E (.ref CL) none a) ->
  (∀ j:Nat,VU p b g n e [.str "shared",.int (j:Nat)]->Ul CD (j:Nat) E H) ->
  (VU p b g n e [.str "key"]->∀ a,ZA H a->E (.ref CK) none a) ->
  (∀ rest k,Ny p b g n e rest k->∀(a:Hp)(h:jy),(∀ c o,(∀ i∈b,c≠(q.getD i .d).x)->H c=some o->a c=some o)->YJ jh ji a S d t k b s g h m u->IG H b q h->Q .non a) ->
  YA gt jh ji CK CL CD [.ref S,.int (n:Nat),.ref l] H Q E
abbrev CW:ju:=["self","number","rows","twig","road","own","labels"]
def Vv:ZC CW zEm (Zc KR):=Z9
def AK{gt:jr}(F:Zp K "change_leaf" "Shelf.change_leaf" KR f fd)(kin:K.In ki)(L:Yo K mg jh ji)(ZL:XZ K mg "NoLeaf" CL)(ZS:XZ K mg "NoStem" CS)(sS:zI K CS (.ref CS)=some true)(nS:Pr K CS "NoStem" = true)(nL:Pr K CL "NoLeaf" = true)(DT:ZH P w K mg ki Ze 1 jh "twig_of" zEa (Zu jh))(DI:ZB P w K mg ki 1 "is_stem" ["twig"] (VM ji))(DR:ZH P w K mg ki (YC P w) 3 jh "road_up" zEa (VP gt jh ji CD))(DC:Wa P w K mg ki 9 "checked_rows" zEv (Vh CK CL))(DU:ZH P w K mg ki (YC P w) 10 jh "labels_up" zE1 (X9 gt jh ji CS))(DL:ZB P w K mg ki 1 "label_of_rows" zEv Y2)(DG:ZH P w K mg ki Ze 2 jh "give_labels" zFc (UM jh ji)):
  ZJ P w K mg ki (YC P w) 11 f fd zEm (YA gt jh ji CK CL CD):=by
 refine F.kD Vv λcdv A outer s H vs Q E hr h=>?_;obtain⟨U,hn,hl,hrs,l100,hsub,kL,kD,kK,kC⟩:=h;rename_i S d lk l ts lv av ho as kvs ls us n rs
 have nd:=Vv.nd;have hr1:=hr.mono (show 1<=10 from nofun)
 have hr2:=hr.mono (show 2<=10 from nofun)
 have hr3:=hr.mono (show 3<=10 from nofun)
 have hr9:=hr.mono (show 9<=10 from nofun)
 obtain⟨fU,fdU,MU,FU,bU⟩:=DU.ex;intro Xc;refine⟨_,ZQ (Zs 3 nd (XH (E:=E0) (pv 0) L.cS DT hr1 XA (ZY (pv 1))))
  (ZQ (Zy (Yf (Zr DI hr1 (ZY (pv 3)))) (ZX (MZ VA (NK kin ZL.at_ ZL.exk) ZL.kp ZL.mB ZL.ty rfl)) Z2)
  (ZQ (Zs 4 nd (XH (E:=E) (pv 0) L.cS DR hr3 (Qv VA λ_ _ _ h=>h) (ZY (pv 1))))
  (ZQ (Zs 5 nd (NG (E:=E) DC hr9 (Qv VA λ_ _ _ h=>h) (ZY (pv 2))))
  (ZQ (ZIB (E:=E) (j:=6) VA (λ_=>pv 0) L.cS MU FU hr bU (λ_=>Zf (pv 4) (Zr DL hr1 (ZY (pv 5)))) nd rfl rfl rfl ZS.at_ ZS.ty ZS.mB sS nS rfl (NK kin ZL.at_ ZL.exk) ZL.kp ZL.mB ZL.ty nL)
  (ZQ (Qa (pv 3) (pv 5) rfl)
  (ZX (Wz (XH (E:=E0) (pv 0) L.cS DG hr2 XA (ZY (pv 6)))))))))),?_⟩
 have R:=U.sh;obtain⟨dS,hS⟩:=R.sh.self;have W:=R.tw n hn;obtain⟨dt,hx⟩:=W.tw.self;obtain⟨tga,vlo,vhi,etg,htg,_,_⟩:=id W.tag;have etg:(as.getD n .d).tg=tga:=V.ref.inj etg;exists _,rfl,S,dS,_,rfl,hS,rfl,_,rfl,S,d,lk,ts.length,kvs,ls,(n:Int),.ref (as.getD n .d).x,rfl,R.sh,R.val n hn;exists _,rfl,(as.getD n .d).x,_,(as.getD n .d).tg,_,_,_,_,_,rfl,W.tw,by rw[etg];exact htg,_,rfl
 by_cases h0:(gd ts n).h=0
 case neg=>
  rw[aO (show (YY (gd ts n)).h > 0 by show ((gd ts n).h:Int) > 0;lia (splits:=8))]
  exact Z1 (kL (.stem h0) H (ZA.refl H))
 rw[aM (show ¬ (YY (gd ts n)).h > 0 by show ¬ ((gd ts n).h:Int) > 0;lia (splits:=8))]
 refine Zk ?_;refine⟨_,rfl,S,dS,_,rfl,hS,rfl,_,rfl,S,d,lk,ts,lv,av,ho,as,kvs,ls,n,rfl,U,hn,λr l' H1 s1 nr hr' rd=>?_,λj hj=>kD j (.shared h0 hj)⟩;obtain⟨rest,el⟩:=rd.ne;subst el;refine⟨_,rfl,.mk (s1 _ _ hl) (hrs.mono (ZA.tups s1)) l100 (λe H' s'=>kK (.key h0 rd e) H' (s1.trans s')) (λe H' s'=>kL (.leaf h0 rd e) H' (s1.trans s')) λe2 G H2 own us' s2 nown hown hk=>?_⟩;have kno:Xs (ts.set n (Y5 (rs.map Yt))) rest=none->_:=λec=>kL (.up h0 rd e2 ec);have kyes:=λcur ec=>kC rest cur ⟨h0,rd,e2,G,ec⟩;have hsb:=hsub e2;generalize rs.map Yt=rr at G hsb hk kno kyes;have s12:=s1.trans s2;have R2:=R.same s12;obtain⟨dS2,hS2⟩:=R2.sh.self;have lu:us'.length=rr.length:=by have:=hk.length;rw[<-this];exact zX _
 have lks:(rr.map (·.1)).length=rr.length:=zX _;exists _,rfl,S,dS2,_,rfl,hS2,rfl,_,rfl,_,rfl,own,us',rr.map (·.1),rfl,hown,Gy hk,by rw[lu];exact G.2.1
 intro H3 v s3 kv;have eLab:(YY (Y5 rr)).kt=O3 (rr.map (·.1)):=by
  have e0:(rr.map (·.1)).getD 0 (.int 0)=(rr.getD 0 Tw.rd).1:=by
   rw[zW,zW,zN];cases rr[0]? <;> rfl
  have e1:(rr.map (·.1)).getD (rr.length-1) (.int 0)=(rr.getD (rr.length-1) Tw.rd).1:=by
   rw[zW,zW,zN];cases rr[rr.length-1]? <;> rfl
  unfold O3 YY Y5 YZ.kt;rw[lks,e0,e1];rfl
 rw[<-eLab] at kv;have s13:=s12.trans s3;have hb0:(gd ts n).bs=[]:=((U.wf n _ (Vg (U.vl.lt n hn))).leaf h0).1;have tok:Z5 gt ts n (Y5 rr):=IX G hsb _ _;have l8:=U.l800;have rsh:=rd.short U.wf U.vl;have ral:=HH ts (gd ts n).h;have rl:rest.length<=800:=by
  rw[yY] at rsh
  lia (splits:=8)
 obtain⟨f1,f2,f3,f4⟩:=rd.facts U.wf U.vl hn;refine .mk (R.same s13) U.wf U.vl hn rd rl ((s2.trans s3) _ _ hr') h0.symm hb0.symm tok (Ec kv) (λec H' s'=>⟨rfl,kno ec H' (s13.trans s')⟩) λcur ec H4 D lkv s4 nD hD hb=>?_;have s14:=s13.trans s4;have R4:=R.same s14;obtain⟨dS4,hS4⟩:=R4.sh.self;have W4:=R4.tw n hn;obtain⟨dt4,hx4⟩:=W4.tw.self;have hown4:=(s3.trans s4) _ _ hown;exists _,rfl,_,rfl,(as.getD n .d).x,ji,dt4,_,rfl,hx4,L.cT,L.nth,yO rfl;have fr5:∀ c o,c≠(as.getD n .d).x->H4 c=some o->upd H4 (as.getD n .d).x (.ins ji dt4 (Y7 "things" (.ref own) (Ug (.ref (as.getD n .d).th) (.ref (as.getD n .d).tg) (as.getD n .d).ab (ho n)))) c=some o:=λc o n e=>by rw[ZO n];exact e
 have hx5:upd H4 (as.getD n .d).x (.ins ji dt4 (Y7 "things" (.ref own) (Ug (.ref (as.getD n .d).th) (.ref (as.getD n .d).tg) (as.getD n .d).ab (ho n)))) (as.getD n .d).x=some (.ins ji dt4 (Ug (.ref own) (.ref (as.getD n .d).tg) (as.getD n .d).ab (ho n))):=ZR;generalize upd H4 (as.getD n .d).x (.ins ji dt4 (Y7 "things" (.ref own) (Ug (.ref (as.getD n .d).th) (.ref (as.getD n .d).tg) (as.getD n .d).ab (ho n))))=H5 at fr5 hx5⊢;have nl:∀ i∈n::rest,i∈lv:=λi hi=>(f1 i hi).1;have p0:=Mh U.wf U.vl rd hn (t:=Y5 rr) h0.symm hb0.symm tok;have pp:Vx gt ts lv cur (n::rest) []:=by
  cases rest with
  | nil=>rw[Xs] at ec;cases ec;exact p0
  | cons s rest=>
   have rd2:Zw ts lv ho s (s::rest):=rd.drop 1 s rfl;have:=JP U.wf U.vl rd2 (nl s (by simp)) (by have:=f2 s (by simp);lia (splits:=8)) p0 ec
   exact this
 let tgv:Nat->Addr:=λi=>match YK lkv (kI i) with | some (.ref a)=>a | _=>0
 have htv:∀ i∈n::rest,YK lkv (kI i)=some (.ref (tgv i))/\YD H4 (YY (gd cur i)) (.ref (tgv i)):=λi hi=>by
  obtain⟨v',e',k'⟩:=hb.at_ i hi;obtain⟨a,b1,b2,rfl,b3⟩:=id k';have:tgv i=a:=by show (match YK lkv (kI i) with | some (.ref a)=>a | _=>0)=a;rw[e']
  rw[this];exact⟨e',k'⟩
 have nS5:∀ i∈n::rest,(as.getD i .d).x≠S:=λi hi=>(R.own i (nl i hi)).1;have hS5:=fr5 _ _ (nS5 n zM).symm hS4;have hd5:=fr5 _ _ (ZD R4.sh.kept hx4) R4.sh.kept;have hl5:=fr5 _ _ (ZD R4.sh.looks hx4) R4.sh.looks;have hD5:=fr5 _ _ (ZD hD hx4) hD;refine⟨_,rfl,S,dS4,_,rfl,hS5,rfl,_,rfl,.mk (rd:=n::rest) (x:=λi=>(as.getD i .d).x) (ab:=λi=>(as.getD i .d).ab) (th:=λi=>.ref (if i=n then own else (as.getD i .d).th)) (tg:=λi=>.ref (as.getD i .d).tg) (vl:=λi=>.ref (tgv i)) (ho:=ho) ⟨⟨dS4,hS5⟩,hd5,hl5⟩ (λi hi=>⟨R.val i (nl i hi),nS5 i hi⟩) (λi hi=>?_) hD5 (Zb (s13 _ _ R.sh.kept) nD).symm hb.keys f3 (λi hi=>(htv i hi).1) (λi hi j hj n'=>(R.two i j (nl i hi) (nl j hj) n').1) λH6 fr6 hl6=>?_⟩
 ·by_cases z:i=n
  ·subst z;exact⟨dt4,by(try dsimp only);rw[aQ rfl];exact hx5⟩
  ·obtain⟨dx,e⟩:=(R4.tw i (nl i hi)).tw.self;exact⟨dx,by(try dsimp only);rw[aP z];exact fr5 _ _ (R.two i n (nl i hi) hn z).1 e⟩
 have fr46:∀ c o,(∀ i∈n::rest,c≠(as.getD i .d).x)->H4 c=some o->H6 c=some o:=λc o n1 e=>fr6 c o n1 (fr5 c o (n1 n zM) e);have insx:∀ i∈n::rest,∃ dx us,H4 (as.getD i .d).x=some (.ins ji dx us):=λi hi=>by
  obtain⟨dx,e⟩:=(R4.tw i (nl i hi)).tw.self;exact⟨dx,_,e⟩
 have k46:∀ c o,(∀ C dx fs,o≠.ins C dx fs)->H4 c=some o->H6 c=some o:=λc o n1 e=>fr46 c o (λi hi=>by
  obtain⟨dx,us,e2⟩:=insx i hi;exact ZD e e2 (n1 _ _ _)) e
 have m46:YO H4 H6:=λc xs e=>k46 c _ (by intro _ _ _ z;cases z) e
 have gcn:gd cur n=Y5 rr:=by
  rw[ID ec (xD.mp f3).1,Pz (U.vl.lt n hn),aQ rfl]
 obtain⟨R6,A6⟩:=Dd (cur:=cur) (rd:=n::rest) (n:=n) (own:=own) (tg:=tgv) (us:=us') (H':=H6) R pp.len zM nl (s1.free nown) (λc o n1 e=>fr46 c o n1 (s14 _ _ e)) pp.sh pp.old (λi hi z=>by have:=f2 i ((zG.mp hi).resolve_left z);lia (splits:=8)) hl6 (λi hi=>(htv i hi).2.mono m46) (k46 _ _ (by intro _ _ _ z;cases z) hown4) (λ_=>by rw[gcn];exact((hk.sm (s3.trans s4)).mono m46 _ _)) (λz=>absurd z (by rw[(pp.sh n).2,h0];exact λy=>y rfl))
 exact kyes cur ec H6 _ (λc o n1 e=>fr46 c o (λi hi=>n1 i (nl i hi)) (s14 _ _ e)) R6 A6
end Tw
namespace L2
open PySem PySem.Spec PyProof.Rows
inductive Ov(c:jf)(H:Hp)(Q:VK):Prop
 |mk(a:aj)(b:List (ZV×V))(_:c=[.ref a])(_:H a=some (.dK b))(_:∀ q,H q=none->Q (.ref q) (upd H q (.dK b)))
def D0:VI X (.type "dict") Ov:=by
 intro f s y H x t Q I r h;obtain⟨a,c,rfl,i,q⟩:=h;obtain⟨u,rfl,l⟩:=VY r;cases l;obtain⟨k,z,v,d,g⟩:=LT I.hok i;have p:=KV.length d;refine kt_call_dict (knd:=Wk X.prog X.w) z g ∅ λn j m=>?_
 refine⟨.ref s.heap.objs.size,_,I.laid (a:=s.heap.objs.size) (o:=.dK c) (t':=s.toks) (λb o e=>?_) (zY _) (IV k (beq_eq_false_iff_ne.mpr (Ne.symm (zL I.big))) d j),rfl,q _ (I.hok.fresh (zY _))⟩;exact(m.2 b (zL (zU e))).trans (zS _ e)
end L2
namespace Tw
open PySem PySem.Spec L2 PyProof.Rows
variable{jh ji CS CT CH CK CP CB:aj}
def B7:ay "dict" = some (.type "dict"):=by decide +kernel
def Q4.like{H:Hp}{t a:ZP}{v:V}(h:Q4 H t v)(b:a.h=t.h)(i:a.bs=t.bs)(j:t.h=0->a.rows=t.rows):Q4 H a v:=by
 obtain⟨l,k,m,d,c,e,f,g⟩:=h;refine⟨l,k,m,d,by unfold kindOf at c⊢;rw[b];exact c,e,λz=>?_,λz=>?_⟩
 ·rw[b] at z;rw[j z];exact f z
 ·rw[b] at z;rw[i];exact g z
section
variable{gt:jr}{H:Hp}{d D:aj}{ts cur:js}{lv done rest:jq}{ho:Nat->Nat}{kvs:List (ZV×V)}{n s:Nat}{tw:V}{t:ZP}
def ZNy(L:Y8 gt H d ts lv kvs)(p:Vx gt ts lv cur done (s::rest))(r:Zw ts lv ho s (s::rest))(k:s∈lv)(g:H D=some (.dK (Zv kvs (kI n) tw)))(o:n∈lv)(l:Q4 H t tw)(c:gd cur n=t)(j:∀ i∈done,i≠n->(gd ts i).h≠0):
  Wh gt H D cur (lv.filter λi=>decide (i∉s::rest)) (Zv kvs (kI n) tw):=by
 refine⟨g,λi a=>?_,p.closed L.wf L.lv r k,λi a=>?_,L.len,L.up⟩
 ·obtain⟨b,_⟩:=xM.mp a;rw[Qg];by_cases z:i=n
  ·subst z;rw[aQ rfl,c];exact⟨tw,rfl,l⟩
  ·rw[aP (Kd z)];obtain⟨v,e,h⟩:=L.tws.2 i b;refine⟨v,e,h.like (p.sh i).2 (p.sh i).1 λf=>?_⟩;rw[p.old i λy=>j i y z f]
 ·obtain⟨b,m⟩:=xM.mp a;exact p.ok i b (of_decide_eq_true m)
end
inductive X8(gt:jr):Sp
 |mk{d tw:aj}{ts:js}{lv:jq}{kvs:List (ZV×V)}{ho:Nat->Nat}{n:Nat}{rest:jq}{t:ZP}{H:Hp}{Q:VK}{E:XK}:
  Y8 gt H d ts lv kvs->lv.length<64->n∈lv->Zw ts lv ho n (n::rest)->t.h=(gd ts n).h->t.bs=(gd ts n).bs->Z5 gt ts n t->Q4 H t (.ref tw)->(∀ H',ZA H H'->Q (.bl (Xs (ts.set n t) rest).isSome) H')->X8 gt [.ref d,.int (n:Nat),.ref tw] H Q E
abbrev BV:ju:=["_law_twigs","_law_number","_law_what","_law_other","_law_here"]
def Ua:ZC BV zEp (Zc KL):=Z9
inductive LQ(gt:jr)(d tw D:aj)(ts:js)(lv:jq)(n:Nat)(rest:jq)(t:ZP)(H:Hp):Nat->L2.St->Hp->Prop
 |mk{k b:Nat}{cur:js}{H2:Hp}:(n::rest)[k]? = some b->ZA H H2->Vx gt ts lv cur ((n::rest).take (k+1)) ((n::rest).drop (k+1))->Xs (ts.set n t) rest=Xs cur (rest.drop k)->gd cur n=t ->
  LQ gt d tw D ts lv n rest t H (rest.length-k) [some (.ref d),some (.int (n:Nat)),some (.ref tw),some (.ref D),some (.int (b:Nat))] H2
def BG{gt:jr}(F:Zp K "_law_rises" "_law_rises" KL f fd)(T:YX mg)(Td:mg "dict" = none)(DA:ZB P w K mg ki 1 "_law_above" zEb (XR gt))(DW:ZB P w K mg ki 8 "_law_wrong" zEl (XX gt)):
  ZJ P w K mg ki Ze 9 f fd zEp (X8 gt):=by
 refine F.ko Ua λc4 A c0 s H vs Q E hr h=>?_;obtain⟨L,a2,hn,rd,th,tb,c3,hw,k⟩:=h;rename_i d tw o M r ho n rest t
 have nd:=Ua.nd;have hu:=VJ hr;have a1:=hr.mono (show 1<=8 by lia)
 intro Xc;refine⟨_,ZQ (Zs 3 nd (Vb D0 rfl Td B7 (ZY (pv 0))))
  (ZQ (Qu hu (pv 3) (pv 1) (pv 2) rfl)
  (ZQ (Zs 4 nd (pv 1))
  (ZQ (Nz PassesOwn.never (Yh (HP hr.units0) (Zr DA a1 (Zf (pv 0) (pv 4))) (XF Zt) (YE _))
   (ZQ (Zs 4 nd (Ui Z6 (Zr DA a1 (Zf (pv 0) (pv 4))) ZN (λ_ _=>rfl)))
   (ZX (Zy (Uj (MV (Zr DW hr (Ut (pv 3) (Zf (Zm K (VX hu (pv 0) (pv 4)) ZN) PY))))) (ZX (Zn Vz)) Z2))))
  (ZX (Zn Vz))))),?_⟩
 exists _,rfl,d,r,rfl,L.dict;intro D nD;have lk:r.length<64:=by have:=congrArg yA L.tws.1;simp at this;lia
 exists _,rfl,_,rfl,_,rfl,D,_,rfl,XU.k (k:=kI n) ZR (YS ∅)
 rw[Ox];obtain⟨H1,eU,g2,hD⟩:=Xa nD (.dK (Zv r (kI n) (.ref tw)));rw[eU];obtain⟨f1,f2,f3,f4⟩:=rd.facts L.wf L.lv hn;have p0:=Mh L.wf L.lv rd hn th tb c3;have gn:gd (o.set n t) n=t:=by rw[Pz (L.lv.lt n hn),aQ rfl]
 have L1:=L.same g2;have a9:=hw.same g2;exists _,rfl,LQ gt d tw D o M n rest t H1,⟨_,LQ.mk (k:=0) (b:=n) (cur:=o.set n t) rfl (ZA.refl H1) p0 rfl gn⟩;rintro m σ H2 ⟨eb,s2,p,W,Y⟩;rename_i q b u
 have bl:=(f1 b (zB eb)).1;have L2:=L1.same s2;exists _,rfl,_,rfl,d,b,o,M,r,rfl,L2,a2;intro H3 D3 s3 c7 a6;exists Z7;intro e0 a7;have g4:=Zg a7 (.lst []);exists D3,e0,_,rfl,rfl,ZG.of (g4 _ _ a6),ZG.of ZR,_,rfl;have s4:=(s2.trans s3).trans g4;generalize upd H3 e0 (.lst [])=H4 at s4⊢;have B:=rd.drop q b eb;have kl:q<(n::rest).length:=(yN.mp eb).1;rw[yY] at kl;have a4:(n::rest).drop q=b::(n::rest).drop (q+1):=by rw[vS (by rw[yY];exact kl),(yN.mp eb).2]
 rw[a4] at B;rw[sO] at B p
 cases g:rest.drop q with
 | nil=>
  rw[g] at B W;have y:YT o M b=[]:=by
   cases B with
   | top a c=>exact c
   | up a c N=>obtain⟨_,e⟩:=N.ne;cases e
  rw[y];refine Zk ?_;rw[Xs] at W;have:=k H4 (g2.trans s4);rw[W] at this;exact this
 | cons l r'=>
  rw[g] at B W p;have y:YT o M b=[l]/\Zw o M ho l (l::r'):=by
   cases B with
   | up a c N=>
    obtain⟨_,e⟩:=N.ne;cases e;exact⟨Hq a c,N⟩
  obtain⟨y,U⟩:=y;rw[y];have es:rest[q]? = some l:=by
   have:=congrArg List.head? g;rw[List.head?_drop] at this;exact this
  have sm:l∈rest:=zB es;have C:=(f1 l (zH _ sm)).1;have h0:(gd o l).h≠0:=by have:=f2 l sm;lia
  refine Z1 ⟨_,λ_ _ z=>z,?_⟩;have L4:=L1.same s4;exists _,rfl,_,rfl,d,b,o,M,r,rfl,L4,a2;intro H5 D5 s5 c8 Z;rw[y] at Z;exists D5,_,0,.int (l:Nat),rfl,rfl,ZG.of Z,Xg (j:=0) rfl;have J:=s4.trans s5;have L5:=L1.same J;obtain⟨tp,tl,ws,q1,X,e3,e4,e5⟩:=L5.get C;have ew:=e5 h0;subst ew;have a0:=J _ _ hD;have a3:n∉l::r':=λz=>by
   have:n∈rest:=by
    have:n∈rest.drop q:=by rw[g];exact z
    exact List.mem_of_mem_drop this
   exact(xD.mp f3).1 this
  have LG:=ZNy L5 p U C a0 hn (a9.same J) Y λi hi z=>by
   have a8:i∈rest:=by
    have:=List.mem_of_mem_take hi;exact(zG.mp this).resolve_left z
   have:=f2 i a8
   lia
  have G:(gd u l).bs=(gd o l).bs:=(p.sh l).1;have br:=p.branches L.wf L.lv U C h0;have b4:(gd o l).bs.length<=4:=((L.at_ C).stem h0).2.1;refine⟨_,rfl,_,rfl,_,rfl,d,.ref tp,rfl,q1,.inr (.inl ⟨tp,_,1,_,rfl,rfl,Zh.of X,rfl,?_⟩)⟩;have eI:iN (gd o l).bs=((gd o l).bs.map λb:Nat=>(b:Int)).map V.int:=by rw[zF];rfl
  have inl:∀ b':jq,(gd o l).bs.map (λb:Nat=>(b:Int))=b'.map (λb:Nat=>(b:Int))->b'=(gd o l).bs:=λb' e=>by
   have:=congrArg (List.map wV) e;simpa [zF,Function.comp_def] using this.symm
  have S:(Zv r (kI n) (V.ref tw)).map (·.1)=M.map (λi:Nat=>(Sum.inl (i:Int):ZV)):=by
   obtain⟨v0,a5,_⟩:=L.tws.2 n hn;rw[LV a5];exact L.tws.1
  refine⟨D,tl,(gd o l).bs.map λb:Nat=>(b:Int),u,M,M.filter (λi=>decide (i∉l::r')),Zv r (kI n) (.ref tw),rfl,LG,S,λi hi=>?_,λi hi hm=>?_,by rw[<-eI];exact e3,by rw[zX];lia,λx hx=>?_,λO R _ I t' H6 s6 c6=>?_,λO R _ I H6 s6=>?_⟩
  ·rw[Qg];by_cases z:i=n
   ·subst z;rw[aQ rfl];exact⟨_,rfl⟩
   ·rw[aP (Kd z)];obtain⟨v,e,_⟩:=L.tws.2 i hi;exact⟨v,e⟩
  ·obtain⟨c,hc,e⟩:=zE.mp hm;have:c=i:=∅
   subst this;obtain⟨c1,c2,_⟩:=br c (by rw[G];exact hc)
   exact xM.mpr ⟨c1,aO c2⟩
  ·exfalso
   have h1:=List.find?_some hx;obtain⟨c,hc,e⟩:=zE.mp (rF hx);have c1:=(br c (by rw[G];exact hc)).1
   have:YQ M x=true:=by
    unfold YQ;rw[<-e];exact aO ⟨∅,by simpa using c1⟩
   rw[this] at h1;cases h1
  ·rw[inl O R] at I;refine⟨_,rfl,Z1 ?_⟩;have:=k H6 ((g2.trans J).trans s6);rw[W,Xs,aQ (by rw[G];exact I)] at this
   exact this
  ·rw[inl O R] at I;refine⟨_,rfl,Zk ?_⟩
   cases hL:over (YU u (gd o l).bs) with
   | none=>exact absurd hL I
   | some Lb=>
    obtain⟨_,p2⟩:=Ku L.wf L.lv p U C h0 (by rw[G];exact hL)
    have c5:q<rest.length:=(yN.mp es).1;refine⟨rest.length-(q+1),∅,LQ.mk (k:=q+1) (b:=l) (cur:=u.set l (Yv u (gd u l).bs)) (by simpa using es) (J.trans s6) ?_ ?_ ?_⟩
    ·have e1:(n::rest).take (q+1+1)=(n::rest).take (q+1)++[l]:=by
      rw[yP (i:=q+1),List.getElem?_cons_succ,es];rfl
     have X:(n::rest).drop (q+1+1)=r':=by
      rw[sO,<-List.drop_drop,g];rfl
     rw[e1,X];exact p2
    ·have X:rest.drop (q+1)=r':=by
      rw[<-List.drop_drop,g];rfl
     rw[W,Xs,aP (by rw[G,hL];exact λz=>nomatch z),X]
    ·have:n≠l:=λz=>a3 (by rw[z];exact zM)
     rw[Pz (by rw[p.len];exact L.lv.lt l C),aP this]
     exact Y
def Uo.get{H:Hp}{o:jR}{v:V}(h:Uo H o v)(e:o.isSome=true):ZF H (o.getD (.int 0)) v/\(o.getD (.int 0)).fits 3=true:=by
 cases h with
 | key a b=>exact⟨a,b⟩
 | tru=>cases e
 | non=>cases e
def Gr{a:jG}(h:Vi a=true){i:Nat}(b:i<a.length):(a.getD i (none,none)).1.isSome=true/\(a.getD i (none,none)).2.isSome=true:=by
 have:=zO.mp h (a.getD i (none,none)) (by rw[zW,zV b];exact xU _)
 rw[zR] at this;exact this
def Zj.keys{H:Hp}:∀{b:jG}{c:jf},Zj H b c->Vi b=true->jX H (Ys (b.map Yt)) c/\∀ r∈b.map Yt,r.fit
 | [],c,h,_=>by
  have:c=[]:=rK.mp h.len;subst this;exact⟨.nil,λr p=>by cases p⟩
 | r::b,[],h,_=>by have:=h.len;simp at this
 | r::b,u::c,h,ok=>by
  have m:Zj H b c:=⟨by have:=h.len;simpa using this,λi v e=>by
   have:=h.at_ (i+1) v (by simpa using e)
   simpa using this⟩
  have d:Vi b=true:=by
   unfold Vi at ok⊢;rw[vO,zR] at ok;exact ok.2
  obtain⟨k,f⟩:=Zj.keys m d;obtain⟨a,A,B,rfl,g,n,o⟩:=h.at_ 0 u rfl;obtain⟨w,y⟩:=Gr ok (i:=0) (by simp)
  obtain⟨s,j⟩:=n.get w;obtain⟨t,l⟩:=o.get y;exists .cons (.tup g (.cons s (.cons t .nil))) k;intro x q;rcases zG.mp q with z | z
  ·rw[z];exact⟨j,l⟩
  ·exact f x z
def Fh{H:Hp}{a:jG}{b:jf}(h:Zj H a b)(e:Y6 a=2):Pk (a.map Yt)/\jX H (Ys (a.map Yt)) b:=by
 unfold Y6 at e;split at e
 ·rename_i d
  split at e
  ·rename_i c
   obtain⟨k,f⟩:=h.keys d;exact⟨⟨f,by rw[zX];lia,by rw[zX];lia,Kn c.2.2⟩,k⟩
  ·cases e
 ·cases e
inductive Xk:Sp
 |mk{l:aj}{c:jf}{b:jG}{H:Hp}{Q:VK}{E:XK}:H l=some (.lst c)->Zj H b c->c.length<=100->(Y6 b=0->∀ t a,ZA H a->a t=some (.tup [.str "key"])->Q (.ref t) a)->(Y6 b=1->∀ t a,ZA H a->a t=some (.tup [.str "leaf"])->Q (.ref t) a)->(Y6 b=2->∀ a,ZA H a->Q .non a)->Xk [.ref l] H Q E
abbrev ZKz:ju:=["_law_rows","_law_row","_law_thing","_law_j"]
def Wm:ZC ZKz ["_law_rows"] (Zc JX):=Z9
inductive Ei(l:aj)(rs:jG)(H:Hp):Nat->L2.St->Hp->Prop
 |mk{i:Nat}{x y:jg}:Vi (rs.take i)=true->Ei l rs H i [some (.ref l),x,y,none] H
inductive Km(l a:aj)(r:XB)(H:Hp):Nat->L2.St->Hp->Prop
 |mk{i:Nat}{y:jg}:(1<=i->r.1.isSome=true)->(2<=i->r.2.isSome=true)->Km l a r H i [some (.ref l),some (.ref a),y,none] H
inductive Ht(l:aj)(ks:jr)(x y:jg)(H:Hp):Nat->L2.St->Hp->Prop
 |mk{i:Nat}{z:jg}{H2:Hp}:ZA H H2->(∀ j,j<i->(ks.getD j (.int 0)).lt (ks.getD (j+1) (.int 0))=true)->Ht l ks x y H i [some (.ref l),x,y,z] H2
def As(F:Zp K "_law_rows_due" "_law_rows_due" JX f fd)(T:YX mg)(DS:ZB P w K mg ki 7 "_law_less" zEt Yp):ZJ P w K mg ki Ze 8 f fd ["_law_rows"] Xk:=by
 refine F.ko Wm λa5 A a3 s H vs Q E hr h=>?_;obtain⟨U,J,a4,k0,k1,k2⟩:=h;rename_i l d c
 have nd:=Wm.nd;have ll:=J.len;intro Xc;refine⟨_,ZQ (Wo PassesOwn.never rfl (Wq (pv 0)) (Yk 1 nd)
   (ZX (Wo PassesOwn.never rfl (M9 (pv 1)) (Yk 2 nd)
    (ZX (Zy (PW.pt (VZ (Uj (OS (pv 2))) (Up (Yf (Zq XW rfl T.isi Yw (Zf (pv 2) (XQ (v:=.ty "bool") rfl T.bool P7 rfl))))))) (ZX (Zn (Yi (ZY Ym)))) Z2)))))
  (ZQ (Zy (XT (LC Ux Ux ZN (Zq WA rfl T.len Xf (ZY (pv 0))) ZN)) (ZX (Zn (Yi (ZY Ym)))) Z2)
  (ZQ (Wo PassesOwn.never rfl (Nk rfl T.range (Zf ZN (Zq WA rfl T.len Xf (ZY (pv 0))))) (Yk 3 nd)
   (ZX (Zy (XT (Yf (Zr DS hr (Zf (Zm K (Zm K (pv 0) (Z0 QP (pv 3) ZN)) ZN) (Zm K (Zm K (pv 0) (pv 3)) ZN))))) (ZX (Zn (Yi (ZY Ym)))) Z2)))
  (ZX (Zn PY)))),?_⟩
 have a1:∀(i:Nat)(I:i<c.length)(t:aj),H t=none->((c.getD i (none,none)).1.isSome&&(c.getD i (none,none)).2.isSome)=false->Q (.ref t) (upd H t (.tup [.str "key"])):=λi I t k z=>by
  refine k0 ?_ t _ (Zg k _) ZR;have er:c[i]? = some (c.getD i (none,none)):=by rw[zW,zV I];rfl
  unfold Y6;rw[aP (by rw[Kw er z];exact zT)]
 refine⟨_,rfl,l,rfl,⟨_,ZG.of U⟩,PM (K:=K) (a:=l) (xs:=d) (Ei l c H) (.mk rfl) (λi M q _ hP=>by obtain⟨_⟩:=hP;exact ZG.of U) ?_ ?_⟩
 ·rintro i u M q Y ⟨g⟩;have I:i<c.length:=by rw[<-ll];exact(yN.mp Y).1
  obtain⟨a,R,vv,rfl,e2,h1,h2⟩:=J.at_ i u Y;have er:c[i]? = some (c.getD i (none,none)):=by rw[zW,zV I];rfl
  have G:=a1 i I;generalize c.getD i (none,none)=r at h1 h2 er G;refine⟨_,rfl,a,rfl,⟨_,Zh.of e2⟩,ZNj (K:=K) (a:=a) (xs:=[R,vv]) (Km l a r H) (.mk (λz=>absurd z nofun) λz=>absurd z nofun) (λi M q _ hP=>by obtain⟨_,_⟩:=hP;exact Zh.of e2) ?_ ?_⟩
  ·rintro j v M q L ⟨O,q2⟩;obtain⟨o,ho,z1,z2⟩:∃ o:jR,Uo H o v/\(o.isSome=false->(r.1.isSome&&r.2.isSome)=false)/\(o.isSome=true->(1<=j+1->r.1.isSome=true)/\(2<=j+1->r.2.isSome=true)):=by
    match j,L,O,q2 with
    | 0,L,O,q2=>
     cases L;exact⟨r.1,h1,λz=>by rw[z];rfl,λz=>⟨λ_=>z,λy=>absurd y nofun⟩⟩
    | 1,L,O,q2=>
     cases L;exact⟨r.2,h2,λz=>by rw[z,Bool.and_false],λz=>⟨λ_=>O nofun,λ_=>z⟩⟩
    | j+2,L,_,_=>simp at L
   have a0:∀ t:aj,H t=none->o.isSome=false->Q (.ref t) (upd H t (.tup [.str "key"])):=λt k z=>G t k (z1 z);have N:o.isSome=true->Km l a r H (j+1) [some (.ref l),some (.ref a),some v,none] H:=λz=>.mk (z2 z).1 (z2 z).2
   cases ho with
   | key hk hf=>
    rename_i kt
    have nn':decide (v=.non)=false:=aM λz=>by
     subst z;cases kt <;> simp[ZF] at hk
    have kb:yV K kt.ty (.type "bool")=some false:=by
     cases kt
     ·exact NT
     ·exact FE
     ·exact Fn
    exists _,rfl,_,rfl;rw[nn'];exact Zk ⟨_,rfl,_,_,_,_,rfl,hk.ty,kb,_,rfl,Zk (N rfl)⟩
   | tru=>exact⟨_,rfl,_,rfl,Zk ⟨_,rfl,_,_,_,_,rfl,.bl true,Kk,_,rfl,Z1 ⟨Z7,λt k=>a0 t k rfl⟩⟩⟩
   | non=>exact⟨_,rfl,_,rfl,Z1 (Z1 ⟨Z7,λt k=>a0 t k rfl⟩)⟩
  ·rintro M q ⟨O,q2⟩;refine .mk ?_;rw[yP,er];unfold Vi at g⊢;rw[uW,g];show (true&&((r.1.isSome&&r.2.isSome)&&true))=true;rw[O (by simp),q2 (by simp)]
   rfl
 rintro M q ⟨g⟩;rename_i x y
 rw[ll,yK (zY _)] at g;have N:¬ (1<=c.length/\c.length<=4/\Uy ((c.map Yt).map (·.1))=true)->Y6 c=1:=λz=>by unfold Y6;rw[aQ g,aP z]
 have p:∀(q:Hp)(t:aj),Y6 c=1->ZA H q->q t=none->Q (.ref t) (upd q t (.tup [.str "leaf"])):=λq t e s2 k=>k1 e t _ (s2.trans (Zg k _)) ZR;exists _,rfl,l,d,rfl,.inl (ZG.of U),_,_,rfl,rfl,_,rfl;rcases yU d.length 1 with c2 | c2
 ·rw[aM (show ¬ (1:Int)<=(d.length:Int) from nofun)]
  exact Zk ⟨_,rfl,Z1 ⟨Z7,λt k=>p H t (N nofun) (ZA.refl H) k⟩⟩
 rw[aO (show (1:Int)<=(d.length:Int) from nofun)]
 refine Z1 ⟨_,_,rfl,rfl,_,rfl,?_⟩;rcases yU 4 d.length with c4 | c4
 ·rw[aM (show ¬ (d.length:Int)<=4 from nofun)]
  exact Z1 ⟨Z7,λt k=>p H t (N nofun) (ZA.refl H) k⟩
 rw[aO (show (d.length:Int)<=4 from nofun)]
 refine Zk ?_;exists _,rfl,l,d,rfl,.inl (ZG.of U),1,(d.length:Int),rfl,⟨nofun,nofun,nofun,nofun⟩
 obtain⟨B,C⟩:∃ B:jr,(c.map Yt).map (·.1)=B:=⟨_,rfl⟩;rw[C] at N;have a6:B.length=c.length:=by rw[<-C,zX,zX]
 have Z:∀ i,i<d.length->∃(a:aj)(R vv:V),d[i]? = some (.ref a)/\H a=some (.tup [R,vv])/\ZF H (B.getD i (.int 0)) R/\(B.getD i (.int 0)).fits 3=true:=λi I=>by
  have Y:d[i]? = some d[i]:=zV I;obtain⟨a,R,vv,e1,e2,h1,h2⟩:=J.at_ i _ Y;have S:i<c.length:=nofun
  obtain⟨k',f'⟩:=h1.get (Gr g S).1;have e3:B.getD i (.int 0)=(c.getD i (none,none)).1.getD (.int 0):=by
   rw[<-C,zW,zN,zN,zW,zV S];rfl
  rw[e3];exact⟨a,R,vv,by rw[Y,e1],e2,k',f'⟩
 refine Pb (lo:=1) (n:=((d.length:Int)-1).toNat) (Ht l B x y H) (.mk (ZA.refl H) λj hj=>absurd hj nofun) ?_ ?_
 ·rintro i M H4 I ⟨D,m⟩;have a2:i+1<d.length:=nofun
  have e1:(1:Int)+(i:Int)=((i+1:Nat):Int):=nofun
  have e0:(1:Int)+(i:Int)-1=((i:Nat):Int):=nofun
  obtain⟨a,ak,av,ua,ta,ka,fa⟩:=Z i nofun
  obtain⟨b,bk,bv,ub,tb,kb,fb⟩:=Z (i+1) a2;have X:=D _ _ U;refine⟨_,rfl,_,rfl,_,_,rfl,rfl,.inl ⟨l,d,_,.ref a,rfl,rfl,ZG.of X,by rw[e0];exact Xg ua,.inr (.inl ⟨a,_,0,_,rfl,rfl,Zh.of (D _ _ ta),rfl,?_⟩)⟩⟩
  refine⟨_,rfl,_,rfl,.inl ⟨l,d,_,.ref b,rfl,rfl,ZG.of X,by rw[e1];exact Xg ub,.inr (.inl ⟨b,_,0,_,rfl,rfl,Zh.of (D _ _ tb),rfl,?_⟩)⟩⟩
  refine⟨ak,bk,_,_,rfl,ka.sm D,kb.sm D,fa,fb,λH5 s5=>⟨_,rfl,?_⟩⟩
  cases hc:(B.getD i (.int 0)).lt (B.getD (i+1) (.int 0)) with
  | false=>
   refine Z1 ⟨Z7,λt k=>p H5 t (N λz=>?_) (D.trans s5) k⟩;have:=z.2.2;unfold Uy at this;rw[xT,zO] at this;have:=this i (xX.mpr nofun)
   rw[Function.comp_apply,hc] at this;cases this
  | true=>
   refine Zk (.mk (D.trans s5) λj hj=>?_);rcases yU j i with z | z
   ·exact m j z
   ·have:j=i:=nofun
    subst this;exact hc
 ·rintro M H4 ⟨D,m⟩;refine k2 ?_ H4 D;have hc:Uy B=true:=by
   unfold Uy;rw[xT,zO];exact λj hj=>m j (by have:=xX.mp hj;lia (splits:=8))
  unfold Y6;rw[aQ g,C,aQ ⟨nofun,nofun,hc⟩]
inductive Wg(ts:js)(lv:jq)(ho:Nat->Nat)(n:Nat)(rs:jG)(H:Hp):V->Prop
 | no {xs:jf} {td:aj}:VU ts lv ho n rs xs->H td=some (.tup xs)->Wg ts lv ho n rs H (.ref td)
 | yes {rest:jq} {cur:js}:Ny ts lv ho n rs rest cur->Wg ts lv ho n rs H .non
inductive YL(gt:jr):Sp
 |mk{d i l:aj}{k:js}{b:jq}{g a:List (ZV×V)}{j:Nat->Nat}{n:Nat}{h:jf}{c:jG}{H:Hp}{Q:VK}{E:XK}:
  Y8 gt H d k b g->b.length<64->n∈b->H i=some (.dK a)->UV a b j->H l=some (.lst h)->Zj H c h->h.length<=100->(Y6 c=2->((c.map Yt).map (·.1)).Sublist gt) ->
  (∀ v e,ZA H e->Wg k b j n c e v->Q v e)->YL gt [.ref d,.ref i,.int (n:Nat),.ref l] H Q E
abbrev BW:ju:=["_law_twigs","_law_holds","_law_number","_law_rows","_law_first","_law_due"]
def Wv:ZC BW zEd (Zc Ih):=Z9
def ZH4{gt:jr}(F:Zp K "_law_leaf_due" "_law_leaf_due" Ih f fd)(DS:ZB P w K mg ki 2 "_law_shared" zEk (Y0 gt))(DR:ZB P w K mg ki 8 "_law_rows_due" ["_law_rows"] Xk)(DI:ZB P w K mg ki 9 "_law_rises" zEp (X8 gt)):
  ZJ P w K mg ki Ze 10 f fd zEd (YL gt):=by
 refine F.ko Wv λa0 A W s H vs Q E B h=>?_;obtain⟨L,r,y,I,hH,Z,i,q,p,k⟩:=h;rename_i d dh l g lv S R ho n us rs
 have T:=Wv.nd;have hu:=VJ B;have J:=B.mono (show 2<=9 by lia)
 have M:=B.mono (show 8<=9 by lia)
 intro Xc;refine⟨_,ZQ (Zy (Yh VT (Zm K (VX hu (pv 0) (pv 2)) ZN) Ym (YE _)) (ZX (Zn (Yi (ZY Ym)))) Z2)
  (ZQ (Zs 4 T (Zr DS J (Ut (pv 0) (Zf (pv 1) (pv 2)))))
  (ZQ (Zy (Uj (MV (pv 4))) (ZX (Zn (Yi (Zf Ym (pv 4))))) Z2)
  (ZQ (Zs 5 T (Zr DR M (ZY (pv 3))))
  (ZQ (Zy (PW.pt (Nu (Uj (OS (pv 5))) (Mc (XT (Yf (Zr DI B (Ut (pv 0) (Zf (pv 2) (Yi (Zf Ym (pv 3))))))))))) (ZX (Zs 5 T (Yi (ZY Ym)))) Z2)
  (ZX (Zn (pv 5))))))),?_⟩
 obtain⟨tp,tl,ws,q1,e2,e3,e4,e5⟩:=L.get y;refine⟨_,rfl,_,rfl,d,.ref tp,rfl,q1,.inr (.inl ⟨tp,_,0,_,rfl,rfl,Zh.of e2,rfl,?_⟩)⟩;exists rfl,_,rfl;by_cases b:(gd g n).h=0
 case neg=>
  have C:decide (V.str (kindOf (gd g n))=V.str "stem")=true:=aO (by unfold kindOf;rw[aP b])
  rw[C];exact Z1 ⟨Z7,λt u=>k _ _ (Zg u _) (.no (.stem b) ZR)⟩
 have C:decide (V.str (kindOf (gd g n))=V.str "stem")=false:=aM (by unfold kindOf;rw[aQ b];decide)
 rw[C];refine Zk ⟨_,rfl,_,rfl,_,rfl,d,dh,n,g,lv,S,R,ho,rfl,L,r,y,I,hH,λH1 o c m=>?_⟩
 cases o with
 | some j=>exact⟨_,rfl,_,rfl,Z1 ⟨_,rfl,Z7,λt u=>k _ _ (c.trans (Zg u _)) (.no (.shared b m) ZR)⟩⟩
 | none=>
  obtain⟨l',rd⟩:=m.road rfl;obtain⟨rest,el⟩:=rd.ne;subst el;refine⟨_,rfl,_,rfl,Zk ⟨_,rfl,.mk (c _ _ Z) (i.mono (ZA.tups c)) q (λe t x v O=>?_) (λe t x v O=>?_) λe x v=>?_⟩⟩
  ·exact⟨_,rfl,_,rfl,Zk (Zk ⟨_,rfl,k _ x (c.trans v) (.no (.key b rd e) O)⟩)⟩
  ·exact⟨_,rfl,_,rfl,Zk (Zk ⟨_,rfl,k _ x (c.trans v) (.no (.leaf b rd e) O)⟩)⟩
  ·obtain⟨G,kk⟩:=Fh i e;have N:=p e;have X:=c.trans v;refine⟨_,rfl,_,rfl,Z1 ⟨_,rfl,_,rfl,_,rfl,Z7,λtw U=>?_⟩⟩;have g3:=Zg U (.tup [.str "leaf",.ref l]);have a:=X.trans g3;have D:(gd g n).bs=[]:=((L.at_ y).leaf b).1;refine .mk (L.same a) r y rd b.symm D.symm (IX G N _ _) ⟨tw,l,us,rfl,ZR,a _ _ Z,λ_=>kk.sm a,λz=>absurd rfl z⟩ λH4 s4=>⟨_,rfl,?_⟩
   cases Y:Xs (g.set n (Y5 (rs.map Yt))) rest with
   | none=>exact Z1 ⟨Z7,λt u=>⟨_,rfl,k _ _ ((a.trans s4).trans (Zg u _)) (.no (.up b rd e Y) ZR)⟩⟩
   | some a1=>exact Zk ⟨_,rfl,k _ H4 (a.trans s4) (.yes ⟨b,rd,e,G,Y⟩)⟩
end Tw
namespace L2
open PySem PySem.Spec PyProof.Rows
inductive V6(d:zZ)(x y:V)(H:Hp)(Q:VK):Prop
 |mk(p b:aj)(c:jf)(_:x=.ref p)(_:y=.ref b)(_:ZG d H p c)(_:ZG d H b c)(_:∀ v∈c,∃ a,v=.ref a)(_:Q (.bl false) H)
def Cj(n:X.A.units<cLine):Yu X (az .NotEq) (V6 X.K):=by
 intro k s T H x y v u Q I F G h;obtain⟨p,b,d,rfl,rfl,l,m,f,q⟩:=h;cases F;cases G;obtain⟨z,D,B,R⟩:=I.list l;obtain⟨i,E,C,S⟩:=I.list m;have e:∀{d:jf}{a b:je},(∀ v∈d,∃ a,v=.ref a)->ZT d a->ZT d b->a=b:=by
  intro d
  induction d with
  | nil=>intro a b _ x y;cases x;cases y;rfl
  | cons v r t=>
   intro a b f x y
   cases x with
   | cons J L=>
    cases y with
    | cons M N=>
     obtain⟨c,rfl⟩:=f _ zM;rw[show _=Value.ref c from J,show _=Value.ref c from M,t (λv o=>f v (zH _ o)) L N]
 have g:=e f D E;subst g;refine PySem.SeqAt.RcNeAt.lists (e:=λ_=>true) B.isList C.isList rfl n (λj O P=>PySem.SeqAt.EqAt.same _) X.prog X.w X.xe _ (Yr I q (by simp))
def Yg(H a:Hp):Prop:=(∀ b d,H b=some (.ext d)->a b=some (.ext d))/\∀ b c,H b=some (.tbl c)->a b=some (.tbl c)
def Yg.same{H a:Hp}(s:ZA H a):Yg H a:=⟨λb _ e=>s b _ e,λb _ e=>s b _ e⟩
def Yg.trans{H d f:Hp}(a:Yg H d)(b:Yg d f):Yg H f:=⟨λc h e=>b.1 c h (a.1 c h e),λc g e=>b.2 c g (a.2 c g e)⟩
def ZU.ext{H b:Hp}{T:aj}{q:Str}(h:ZU H T q)(e:Yg H b):ZU b T q:=by
 obtain⟨l,g,i,j⟩:=h;exists l,e.2 _ _ g,i;intro a f k;obtain⟨c,d,m,n,o⟩:=j a f k;exact⟨c,d,m,e.1 _ _ n,o⟩
section
variable{cs:jw}{HL Hc H' H3:Hp}
def La(d:∀ c∈cs,H' c=none)(f:ZA (reT cs Hc H') H3){b:aj}{o:HO}(e:H' b=some o):unT cs H3 b=some o:=by
 have a:b∉cs:=λz=>by rw[d b z] at e;cases e
 rw[Vy a];exact f _ _ (by rw[UA a];exact e)
def P4(a:∀ c∈cs,∃ o,Hc c=some (Y1 c o))(b:ZA (reT cs Hc H') H3):∀ c∈cs,H3 c=Hc c:=λc h=>by
 obtain⟨o,e⟩:=a c h;rw[e];exact b _ _ (by rw[MC h];exact e)
def OD(a:∀ c∈cs,∃ o,Hc c=some (Y1 c o))(f:ZA (reT cs Hc H') H3){t:aj}{b:jf}(e:H3 t=some (.tup b)):unT cs H3 t=some (.tup b):=by
 rw[Vy λz=>?_]
 ·exact e
 ·rw[P4 a f t z] at e;obtain⟨o,d⟩:=a t z;rw[d] at e;cases e
end
end L2
namespace Tw
open PySem PySem.Spec L2 PyProof.Rows
variable{jh ji CS CT CH CK CP CB:aj}
abbrev qS:Str:=("_law_put_stem" ++ ".<locals>.") ++ "<lambda>"
abbrev cl2(n:Nat):jF:=[((("_law_shelf" : String):Str),n+4),((("_law_handed" : String):Str),n+3)]
def Q0(j:Nat):Arguments×Expr×Scope:=match (Xd Vw)[j]? with
 | some (.Assign _ (.Call _ [.Lambda a b c _] _ _) _)=>(a,b,c)
 | _=>(⟨[],[],none,[],[],none,[]⟩,.Name "" ⟨0,0,0,0⟩,(Zc Vw))
def Hu{f g:aj}{H l:Hp}{S d r T:aj}{u:js}{t:jq}{n:Nat->jq}{p:Nat->Nat}{m:jy}{h:List (ZV×V)}{s:jf}{q:Str}(R:YJ f g H S d r u t n p m h s)(k:ZU H T q)(a:∀ b o,b≠T->H b=some o->l b=some o):YJ f g l S d r u t n p m h s:=by
 obtain⟨C,c,_⟩:=id k;obtain⟨⟨A,v⟩,w,x⟩:=id R.sh;refine R.frame (λb E e=>a _ _ (ZD e c) e) (λo e=>a _ _ (ZD v c) e) (λo e=>a _ _ (ZD w c) e) (λo e=>a _ _ (ZD x c) e) λi j=>?_;obtain⟨B,z⟩:=(R.tw i j).tw.self;obtain⟨D,y,_⟩:=(R.tw i j).things;exact⟨λo e=>a _ _ (ZD z c) e,λo e=>a _ _ (ZD y c) e,λo e=>a _ _ (ZD (R.tw i j).tw.above c) e⟩
def Al{gt:jr}{o q m f c':aj}{co:aJ}{pm ctv:ai}{n:Nat}(i:WN co qS)(L:Yo K mg jh ji)(t:ZH P w K mg ki (YC P w) 10 jh "put_stem" zEj (YM gt jh ji o q m)):
  ZJ P w K mg ki (YC P w) 70 f (sZ "<lambda>" qS (Q0 6).1 (Q0 6).2.1 (Q0 6).2.2 (cl2 n) pm (.ref c') ctv) []
   (K3 f c' (wP "<lambda>" qS (Q0 6).1 (Q0 6).2.1 (Q0 6).2.2 (cl2 n) pm c' ctv) co (cl2 n) zE7 (YM gt jh ji o q m)):=by
 refine ES (k:=69) (λx y c v B=>?_) (λx h=>?_) (λx c h=>?_) (by decide +kernel) rfl rfl rfl (by decide +kernel) i λA j s H V Q E D h=>?_
 ·have a:=PySem.mem_of_lookup v;have b:=PySem.mem_of_lookup B;simp only[zG,vK,or_false,Prod.mk.injEq] at a b;rcases a with ⟨a,e⟩ | ⟨a,e⟩ <;> rcases b with ⟨b,g⟩ | ⟨b,g⟩
  ·rw[a,b]
  ·exact absurd (e.symm.trans g) (xG (xV (n+3)))
  ·exact absurd (g.symm.trans e) (xG (xV (n+3)))
  ·rw[a,b]
 ·have r:∀ p∈(Q0 6).2.2.names,(p.2=.cell\/p.2=.free)->p.1=(("_law_handed" : String):Str)\/p.1=(("_law_shelf" : String):Str):=by decide +kernel
  have:x=(("_law_handed" : String):Str)\/x=(("_law_shelf" : String):Str):=by
   rcases h with h | h
   ·exact r _ (PySem.mem_of_lookup h) (.inl rfl)
   ·exact r _ (PySem.mem_of_lookup h) (.inr rfl)
  rcases this with z | z
  ·exact⟨n+3,by rw[z];rfl⟩
  ·exact⟨n+4,by rw[z];rfl⟩
 ·have a:=PySem.mem_of_lookup h;exact zE.mpr ⟨_,a,rfl⟩
 ·obtain⟨S,d,M,l,U,O,I,J,G,F,N,T,rfl,R,_⟩:=id h;obtain⟨u,C⟩:=R.sh.self;exact⟨_,XH (E:=E) (pv 0) L.cS t (D.mono ∅) (Qv (E1:=E) Hd λ_ _ _ h=>h) (ZY (pv 1)),_,rfl,S,u,_,rfl,C,rfl,_,rfl,h⟩
def Mv{gt:jr}{CB:aj}{C:Nat->aj}{n:Nat}{σ:L2.St}{H2:Hp}{Q:VK}{T hd S d lk:aj}{ts:js}{lv:jq}{av:Nat->jq}{ho:Nat->Nat}{as:jy}{kvs:List (ZV×V)}{ls:jf}{ns:jC}{NX:ju}{j0 j1:Nat}{f3 f4:aj}(L:Yo K mg jh ji)(X2:XC K CB C 2)(X3:XC K CB C 3)(X4:XC K CB C 4)(F3:Yj K (C 3) f3 "number")(F4:Yj K (C 4) f4 "number")(DM:ZH P w K mg ki (YC P w) 10 jh "put_stem" zEj (YM gt jh ji (C 2) (C 3) (C 4)))(tab:ZU H2 T qS)(hj:NX[j0]? = some (("_law_handed" : String):Str))(hσ:σ[j0]? = some (some (.ref hd)))(hj1:NX[j1]? = some (("_law_shelf" : String):Str))(hσ1:σ[j1]? = some (some (.ref S)))(hhd:H2 hd=some (.lst (ns.map V.int)))(R:YJ jh ji H2 S d lk ts lv av ho as kvs ls)(hw:WF gt ts)(t800:lv.length<=800)(a800:∀ b,b∈lv->(av b).length<=800)(h100:ns.length<=100)(k1:∀ x,ns.find? (λx=>!YQ lv x)=some x->∀ (h:Hp) (t:aj),(∀ b o,b≠T->H2 b=some o->h b=some o)->ZU h T qS->h t=some (.tup [.str "twig",.int x])->Q (.ref t) h)(k2:∀ bs:jq,ns=bs.map (λb:Nat=>(b:Int))->(∀ b∈bs,b∈lv) ->
   (over (YU ts bs)=none->∀ (h:Hp) (t:aj),(∀ b o,b≠T->H2 b=some o->h b=some o)->ZU h T qS->h t=some (.tup [.str "stem"])->Q (.ref t) h) /\
   (over (YU ts bs)≠none->∀ b,bs.find? (λb=>decide (ho b=0))=some b->∀ (h:Hp) (t:aj),(∀ b o,b≠T->H2 b=some o->h b=some o)->ZU h T qS->h t=some (.tup [.str "held",.int (b:Nat)])->Q (.ref t) h) /\
   (over (YU ts bs)≠none->bs.find? (λb=>decide (ho b=0))=none->∀ (h:Hp) (t:aj) (a:YI),H2 a.x=none->H2 a.th=none->H2 a.ab=none ->
    (∀ c o,c≠S->c≠d->c≠T->(∀ b:Nat,b∈lv->c≠(as.getD b .d).x/\c≠(as.getD b .d).ab)->H2 c=some o->h c=some o)->ZU h T qS ->
    YJ jh ji h S d lk (ts++[Yv ts bs]) (lv++[ts.length]) (UJ bs ts.length (WS ts.length av)) (WW bs (Xb ts.length ho)) (as++[a]) (Zv kvs (.inl (ts.length:Int)) (.ref a.x)) ls->h t=some (.tup [.str "told",.int (ts.length:Nat)])->Q (.ref t) h)):
  KH (YN P w K mg ki CB C) (cl2 n) zE7 NX (Xe (JJ T (Q0 6).1 (Q0 6).2.1 (Q0 6).2.2 qS (cl2 n)) V3) σ H2 Q:=by
 exists tab;intro I f c' co pm a1 a6 hf a5 N u c3;refine⟨[.ref S,.ref hd],rfl,λi x v U H=>?_,λY eU c1 E CA=>?_⟩
 ·have i2:=(yN.mp H).1
  match i,i2,U,H with
  | 0,_,U,H=>cases U;cases H;exact⟨j1,hj1,hσ1⟩
  | 1,_,U,H=>cases U;cases H;exact⟨j0,hj,hσ⟩
  | i+2,i2,_,_=>exact absurd (show i+2<2 from i2) ∅
 have k:∀ c∈(cl2 n).map (·.2),∃ o,Y c=some (Y1 c o):=λc hc=>by
  obtain⟨o,v,e,_⟩:=CA.all c hc;exact⟨o,e⟩
 obtain⟨ps,hT,_⟩:=id tab;obtain⟨c4,a3,_⟩:=id u;have W:=N _ _ (ZD hhd hT) hhd;have Z:=Hu R tab N;have l:∀ b,I b=none->H2 b=none:=λb e=>by
  cases z:H2 b with
  | none=>rfl
  | some o=>
   by_cases y:b=T
   ·rw[y,a3] at e;cases e
   ·rw[N _ _ y z] at e;cases e
 exists f,_,_,_,rfl,Al (n:=n) (f:=f) (c':=c') (co:=co) (pm:=pm) (ctv:=a1) a6 L DM,λs=>.of_eq rfl,E _ _ hf;intro Q' E' hQ hE;exists rfl,E _ _ hf,E _ _ a5,[.ref S,.ref hd],CA;rw[eU];have q:∀(j h:Hp),ZA I j->(∀ c∈(cl2 n).map (·.2),j c=none)->ZA (reT ((cl2 n).map (·.2)) Y j) h->(∀ b o,b≠T->H2 b=some o->unT ((cl2 n).map (·.2)) h b=some o)/\ZU (unT ((cl2 n).map (·.2)) h) T qS:=by
  intro j h B m p;have bk:ZA j (unT ((cl2 n).map (·.2)) h):=λb o e=>La m p e;exact⟨λb o nb e=>bk _ _ (B _ _ (N b o nb e)),u.ext (Yg.same (B.trans bk))⟩
 have A:∀(j:Hp)(b:aj)(o:HO),(∀ c∈(cl2 n).map (·.2),j c=none)->j b=some o->reT ((cl2 n).map (·.2)) Y j b=some o:=λj b o m e=>by
  have:b∉(cl2 n).map (·.2):=λz=>by rw[m b z] at e;cases e
  unfold reT;rw[aP this];exact e
 refine⟨S,d,lk,hd,ts,lv,av,ho,as,kvs,ls,ns,rfl,Z,hw,t800,a800,W,h100,λx hx G j B D m=>?_,λbs eb hb=>?_⟩
 ·refine hE _ _ _ ⟨3,∅,rfl,X3,.inr ⟨∅,G,x,f3,rfl,A _ _ _ m D,F3,λh t p F=>?_⟩⟩
  obtain⟨J,M⟩:=q j h B m p;exact⟨P4 k p,k1 x hx _ t J M (OD k p F)⟩
 ·obtain⟨q1,q2,q3⟩:=k2 bs eb hb;refine⟨λr j B m=>?_,λr b a4 G j B D m=>?_,λr a8 j a nx c0 a9 O R' m=>hQ _ _ λt F=>?_⟩
  ·refine hE _ _ _ ⟨2,∅,rfl,X2,.inl ⟨∅,λh t p F=>?_⟩⟩
   obtain⟨J,M⟩:=q j h B m p;exact⟨P4 k p,q1 r _ t J M (OD k p F)⟩
  ·refine hE _ _ _ ⟨4,∅,rfl,X4,.inr ⟨∅,G,(b:Nat),f4,rfl,A _ _ _ m D,F4,λh t p F=>?_⟩⟩
   obtain⟨J,M⟩:=q j h B m p;exact⟨P4 k p,q2 r b a4 _ t J M (OD k p F)⟩
  ·have g:=Zg F (.tup [.str "told",.int (ts.length:Nat)]);have bk:ZA j (unT ((cl2 n).map (·.2)) (upd (reT ((cl2 n).map (·.2)) Y j) t (.tup [.str "told",.int (ts.length:Nat)]))):=λb o z=>La m g z;obtain⟨⟨c2,a2⟩,a7,_⟩:=Z.sh;have a0:∀(b:aj)(o:HO),I b=some o->(∀ i:Nat,i∈lv->b≠(as.getD i .d).x/\b≠(as.getD i .d).ab)->b≠S->b≠d->j b=some o:=λb o e n1 n2 n3=>O b o n2 n3 n1 e;have kx:∀(b:aj)(o:HO),I b=some o->(∀ C G X,o≠.ins C G X)->(∀ X,o≠.lst X)->(∀ X,o≠.dK X)->j b=some o:=λb o e m1 m2 m3=>a0 b o e (λi hi=>by
    obtain⟨G,hx⟩:=(Z.tw i hi).tw.self;exact⟨ZD e hx (m1 _ _ _),ZD e (Z.tw i hi).tw.above (m2 _)⟩) (ZD e a2 (m1 _ _ _)) (ZD e a7 (m3 _))
   have ex:Yg I j:=⟨λb φ z=>kx _ _ z (by intro _ _ _ y;cases y) (by intro _ y;cases y) (by intro _ y;cases y),λb φ z=>kx _ _ z (by intro _ _ _ y;cases y) (by intro _ y;cases y) (by intro _ y;cases y)⟩
   exact⟨P4 k g,q3 r a8 _ t a (l _ nx) (l _ c0) (l _ a9) (λc o n1 n2 n3 n4 e=>bk _ _ (O c o n1 n2 n4 (N _ _ n3 e))) (u.ext (ex.trans (Yg.same bk))) (R'.same bk) (OD k g ZR)⟩
abbrev qC:Str:=("_law_change_leaf" ++ ".<locals>.") ++ "<lambda>"
abbrev X6(n:Nat):jF:=[((("_law_shelf" : String):Str),n+5),((("_law_number" : String):Str),n+3),((("_law_handed" : String):Str),n+4)]
def Q5(j:Nat):Arguments×Expr×Scope:=match (Xd WT)[j]? with
 | some (.Assign _ (.Call _ [.Lambda a b c _] _ _) _)=>(a,b,c)
 | _=>(⟨[],[],none,[],[],none,[]⟩,.Name "" ⟨0,0,0,0⟩,(Zc WT))
def B2{gt:jr}{l m j f c':aj}{co:aJ}{pm ctv:ai}{n:Nat}(g:WN co qC)(L:Yo K mg jh ji)(q:ZH P w K mg ki (YC P w) 11 jh "change_leaf" zEm (YA gt jh ji l m j)):
  ZJ P w K mg ki (YC P w) 70 f (sZ "<lambda>" qC (Q5 11).1 (Q5 11).2.1 (Q5 11).2.2 (X6 n) pm (.ref c') ctv) []
   (K3 f c' (wP "<lambda>" qC (Q5 11).1 (Q5 11).2.1 (Q5 11).2.2 (X6 n) pm c' ctv) co (X6 n) zEy (YA gt jh ji l m j)):=by
 refine ES (k:=69) (λx y c t u=>?_) (λx h=>?_) (λx c h=>?_) (by decide +kernel) rfl rfl rfl (by decide +kernel) g λA i s H C Q E B h=>?_
 ·have a:=PySem.mem_of_lookup t;have b:=PySem.mem_of_lookup u;simp only[zG,vK,or_false,Prod.mk.injEq] at a b;rcases a with ⟨a,d⟩ | ⟨a,d⟩ | ⟨a,d⟩ <;> rcases b with ⟨b,e⟩ | ⟨b,e⟩ | ⟨b,e⟩ <;> first | (exact absurd (Nat.add_left_cancel (show n+_=n+_ from d.symm.trans e)) (by decide)) | (rw[a,b])
 ·have o:∀ p∈(Q5 11).2.2.names,(p.2=.cell\/p.2=.free)->p.1=(("_law_handed" : String):Str)\/p.1=(("_law_number" : String):Str)\/p.1=(("_law_shelf" : String):Str):=by decide +kernel
  have:x=(("_law_handed" : String):Str)\/x=(("_law_number" : String):Str)\/x=(("_law_shelf" : String):Str):=by
   rcases h with h | h
   ·exact o _ (PySem.mem_of_lookup h) (.inl rfl)
   ·exact o _ (PySem.mem_of_lookup h) (.inr rfl)
  rcases this with z | z | z
  ·exact⟨n+4,by rw[z];rfl⟩
  ·exact⟨n+3,by rw[z];rfl⟩
  ·exact⟨n+5,by rw[z];rfl⟩
 ·have a:=PySem.mem_of_lookup h;exact zE.mpr ⟨_,a,rfl⟩
 ·obtain⟨U,_⟩:=id h;obtain⟨r,v⟩:=U.sh.sh.self;exact⟨_,XH (E:=E) (pv 0) L.cS q (B.mono ∅) (Qv (E1:=E) Hd λ_ _ _ h=>h) (Zf (pv 1) (pv 2)),_,rfl,_,r,_,rfl,v,rfl,_,rfl,_,rfl,h⟩
def ZQm{gt:jr}{CB:aj}{C:Nat->aj}{n:Nat}{σ:L2.St}{l:Hp}{Q:VK}{T hd S d lk:aj}{ts:js}{D:jq}{av:Nat->jq}{Z:Nat->Nat}{as:jy}{a3:List (ZV×V)}{ls us:jf}{N:jG}{b:Nat}{NX:ju}{j0 j1 j2:Nat}{f5:aj}(L:Yo K mg jh ji)(X0:XC K CB C 0)(X1:XC K CB C 1)(X5:XC K CB C 5)(F5:Yj K (C 5) f5 "number")(DM:ZH P w K mg ki (YC P w) 11 jh "change_leaf" zEm (YA gt jh ji (C 0) (C 1) (C 5)))(H:ZU l T qC)(hj:NX[j0]? = some (("_law_number" : String):Str))(c5:σ[j0]? = some (some (.int (b:Nat))))(c2:NX[j1]? = some (("_law_shelf" : String):Str))(a1:σ[j1]? = some (some (.ref S)))(c3:NX[j2]? = some (("_law_handed" : String):Str))(a2:σ[j2]? = some (some (.ref hd)))(U:Va gt jh ji l S d lk ts D av Z as a3 ls)(hb:b∈D)(X:l hd=some (.lst us))(c4:Zj l N us)(a4:us.length<=100)(a0:Y6 N=2->((N.map Yt).map (·.1)).Sublist gt)(k1:∀ I,VU ts D Z b N I->∀ (h:Hp) (t:aj),(∀ c o,c≠T->l c=some o->h c=some o)->ZU h T qC->h t=some (.tup I)->Q (.ref t) h)(k2:∀ rest r,Ny ts D Z b N rest r->∀ (h:Hp) (t:aj) (q:jy),(∀ c o,c≠T->(∀ i∈D,c≠(as.getD i .d).x)->l c=some o->h c=some o)->ZU h T qC->YJ jh ji h S d lk r D av Z q a3 ls->IG l D as q->h t=some (.tup [.str "told",.non])->Q (.ref t) h):
  KH (YN P w K mg ki CB C) (X6 n) zEy NX (Xe (JJ T (Q5 11).1 (Q5 11).2.1 (Q5 11).2.2 qC (X6 n)) V3) σ l Q:=by
 exists H;intro J f c' co pm a6 a9 hf a8 M m c8;refine⟨[.ref S,.int (b:Nat),.ref hd],rfl,λi x v F B=>?_,λR eU c7 G CA=>?_⟩
 ·have i2:=(yN.mp B).1
  match i,i2,F,B with
  | 0,_,F,B=>cases F;cases B;exact⟨j1,c2,a1⟩
  | 1,_,F,B=>cases F;cases B;exact⟨j0,hj,c5⟩
  | 2,_,F,B=>cases F;cases B;exact⟨j2,c3,a2⟩
  | i+3,i2,_,_=>exact absurd (show i+3<3 from i2) ∅
 have k:∀ c∈(X6 n).map (·.2),∃ o,R c=some (Y1 c o):=λc hc=>by
  obtain⟨o,v,e,_⟩:=CA.all c hc;exact⟨o,e⟩
 obtain⟨ps,hT,_⟩:=id H;obtain⟨c9,a7,_⟩:=id m;have Y:=M _ _ (ZD X hT) X;have c6:YO l J:=λc I e=>M _ _ (ZD e hT) e;have UL:=U.frame (Hu U.sh H M);have E:∀ b,J b=none->l b=none:=λb e=>by
  cases z:l b with
  | none=>rfl
  | some o=>
   by_cases y:b=T
   ·rw[y,a7] at e;cases e
   ·rw[M _ _ y z] at e;cases e
 exists f,_,_,_,rfl,B2 (n:=n) (f:=f) (c':=c') (co:=co) (pm:=pm) (ctv:=a6) a9 L DM,λs=>.of_eq rfl,G _ _ hf;intro Q' E' hQ hE;exists rfl,G _ _ hf,G _ _ a8,[.ref S,.int (b:Nat),.ref hd],CA;rw[eU];have A:∀(a h:Hp),ZA J a->(∀ c∈(X6 n).map (·.2),a c=none)->ZA (reT ((X6 n).map (·.2)) R a) h->(∀ b o,b≠T->l b=some o->unT ((X6 n).map (·.2)) h b=some o)/\ZU (unT ((X6 n).map (·.2)) h) T qC:=by
  intro a h O p u;have bk:ZA a (unT ((X6 n).map (·.2)) h):=λb o e=>La p u e;exact⟨λb o nb e=>bk _ _ (O _ _ (M b o nb e)),m.ext (Yg.same (O.trans bk))⟩
 have a5:∀(a:Hp)(b:aj)(o:HO),(∀ c∈(X6 n).map (·.2),a c=none)->a b=some o->reT ((X6 n).map (·.2)) R a b=some o:=λa b o p e=>by
  have:b∉(X6 n).map (·.2):=λz=>by rw[p b z] at e;cases e
  unfold reT;rw[aP this];exact e
 have rf:∀(j:Nat)(I:jf),j<3->XC K CB C j->I=[.str (MO j)]->VU ts D Z b N I->∀ a,ZA J a->(∀ c∈(X6 n).map (·.2),a c=none)->E' (.ref (C j)) none (reT ((X6 n).map (·.2)) R a):=λj I hj XJ ex hc a O p=>by
  subst ex;refine hE _ _ _ ⟨j,∅,rfl,XJ,.inl ⟨hj,λh t u ht=>?_⟩⟩
  obtain⟨b1,b2⟩:=A a h O p u;exact⟨P4 k u,k1 _ hc _ t b1 b2 (OD k u ht)⟩
 refine .mk UL hb Y (c4.mono c6) a4 a0 (rf 1 _ ∅ X1 rfl) (λj c1 dx a O c0 p=>?_) (rf 0 _ ∅ X0 rfl) (λrest r hy a q W R' A' p=>hQ _ _ λt ht=>?_)
 ·refine hE _ _ _ ⟨5,∅,rfl,X5,.inr ⟨∅,dx,(j:Nat),f5,rfl,a5 _ _ _ p c0,F5,λh t u ht=>?_⟩⟩
  obtain⟨b1,b2⟩:=A a h O p u;exact⟨P4 k u,k1 _ c1 _ t b1 b2 (OD k u ht)⟩
 ·have g:=Zg ht (.tup [.str "told",.non]);have bk:ZA a (unT ((X6 n).map (·.2)) (upd (reT ((X6 n).map (·.2)) R a) t (.tup [.str "told",.non]))):=λb o z=>La p g z;have kx:∀(c:aj)(o:HO),J c=some o->(∀ C dx us,o≠.ins C dx us)->a c=some o:=λc o e m1=>W c o (λi hi=>by
   obtain⟨dx,hx⟩:=(UL.sh.tw i hi).tw.self;exact ZD e hx (m1 _ _ _)) e
  have ex:Yg J a:=⟨λb φ z=>kx _ _ z (by intro _ _ _ y;cases y),λb φ z=>kx _ _ z (by intro _ _ _ y;cases y)⟩
  exact⟨P4 k g,k2 rest r hy _ t q (λc o nT n1 e=>bk _ _ (W c o n1 (M c o nT e))) (m.ext (ex.trans (Yg.same bk))) (R'.same bk) ⟨A'.x,A'.ab,λi hi=>(A'.th i hi).imp id λz=>E _ z⟩ (OD k g ZR)⟩
end Tw
namespace L2
open PySem PySem.Spec PyProof.Rows
inductive UN(a:zZ)(x y:V)(H:Hp)(Q:VK):Prop
 |mk(p b:aj)(c:jC)(_:x=.ref p)(_:y=.ref b)(_:ZG a H p (c.map V.int))(_:ZG a H b (c.map V.int))(_:Q (.bl false) H)
def A4(F:X.A.units<cLine):Yu X (az .NotEq) (UN X.K):=by
 intro l s Y H x y v u Q I O P h;obtain⟨p,b,a,rfl,rfl,C,D,q⟩:=h;cases O;cases P;obtain⟨d,m,M,U⟩:=I.list C;obtain⟨c,n,N,W⟩:=I.list D;have L:=m.length;have R:=n.length;refine PySem.SeqAt.RcNeAt.lists (e:=λ_=>true) M.isList N.isList (by simp;lia) F (λj i B=>?_) X.prog X.w X.xe _ (Yr I q (by simp))
 have E:j<a.length:=by simp at i;simp at L;lia
 have k:(a.map V.int)[j]? = some (.int a[j]):=by simp[E]
 obtain⟨S,t,o⟩:=m.get k;obtain⟨T,z,r⟩:=n.get k;obtain⟨f,rfl⟩:=o;obtain⟨g,rfl⟩:=r;have G:d.toArray[j]=Value.int a[j] f:=by
  have:d.toArray[j]? = some (Value.int a[j] f):=by simpa using t
  rw[vR i] at this;exact zJ.inj this
 have J:c.toArray[j]=Value.int a[j] g:=by
  have:c.toArray[j]? = some (Value.int a[j] g):=by simpa using z
  rw[vR B] at this;exact zJ.inj this
 rw[G,J];have:=PySem.SeqAt.EqAt.int_int (A:=X.A.in1) (s:=s) a[j] f a[j] g;simpa using this
end L2
namespace Tw
open PySem PySem.Spec L2 PyProof.Rows
variable{jh ji CS CT CH CK CP CB:aj}
def ZOs{n:Nat}{y:Str}{c:aj}(h:(cl2 n).lookup y=some c):(cellsFrom (n+1) (Zc Vw).names []).lookup y=some c:=by
 have e:=PySem.mem_of_lookup h;simp only[zG,vK,or_false,Prod.mk.injEq] at e;rcases e with ⟨a,b⟩ | ⟨a,b⟩
 ·rw[a,b];rfl
 ·rw[a,b];rfl
def BT{n:Nat}:∀ c∈(cl2 n).map (·.2),∃ y,(cl2 n).lookup y=some c:=λc a=>by
 have e:c=n+4\/c=n+3:=by simpa using a
 rcases e with e | e
 ·exact⟨(("_law_shelf" : String):Str),by rw[e];rfl⟩
 ·exact⟨(("_law_handed" : String):Str),by rw[e];rfl⟩
def ZMW:(Zc Vw).names.lookup (("_law_handed" : String):Str)=some .cell:=by decide +kernel
def ZNZ:(Zc Vw).names.lookup (("_law_shelf" : String):Str)=some .cell:=by decide +kernel
def nmS{n:Nat}:∀ y∈[(("_law_shelf" : String):Str),(("_law_handed" : String):Str)],(Zc Vw).names.lookup y=some .cell/\∃ c,(cl2 n).lookup y=some c:=λy a=>by
 have e:y=(("_law_shelf" : String):Str)\/y=(("_law_handed" : String):Str):=by simpa using a
 rcases e with e | e
 ·rw[e];exact⟨ZNZ,_,rfl⟩
 ·rw[e];exact⟨ZMW,_,rfl⟩
def Ga{gt:jr}{g j:aj}{H p:Hp}{a:Pl}{m:Md}(h:LS gt g j H a m)(f:∀ c o,(∀ D,o≠.tbl D)->H c=some o->p c=some o):LS gt g j p a m:=by
 obtain⟨l,s,U,n⟩:=h.sh;obtain⟨Yy,L⟩:=h.lw;obtain⟨q,x,v⟩:=h.hd;obtain⟨u,G⟩:=h.gr;have r:YO H p:=λc K e=>f _ _ (by intro _ z;cases z) e
 obtain⟨⟨F,w⟩,y,A⟩:=id U.sh.sh;have R:YJ g j p a.S a.d a.lk m.ts m.lv m.av m.ho a.as l s:=by
  refine U.sh.frame r (λo e=>f _ _ (by have b:=e.symm.trans w;cases b;intro _ z;cases z) e) (λo e=>f _ _ (by have b:=e.symm.trans y;cases b;intro _ z;cases z) e) (λo e=>f _ _ (by have b:=e.symm.trans A;cases b;intro _ z;cases z) e) λi k=>?_
  obtain⟨I,C⟩:=(U.sh.tw i k).tw.self;obtain⟨E,B,_⟩:=(U.sh.tw i k).things;exact⟨λo e=>f _ _ (by have b:=e.symm.trans C;cases b;intro _ z;cases z) e,λo e=>f _ _ (by have b:=e.symm.trans B;cases b;intro _ z;cases z) e,λo e=>f _ _ (by have b:=e.symm.trans (U.sh.tw i k).tw.above;cases b;intro _ z;cases z) e⟩
 refine⟨⟨l,s,U.frame R,n⟩,⟨Yy,L.frame r (f _ _ (by intro _ z;cases z) L.dict) λi k o e=>?_⟩,⟨q,f _ _ (by intro _ z;cases z) x,v⟩,⟨u,G.frame r (f _ _ (by intro _ z;cases z) G.at_)⟩,f _ _ (by intro _ z;cases z) h.told,h.dd,h.tt,h.t2,h.t3,h.l64,h.l700⟩
 obtain⟨J,E,_,_,t,_⟩:=L.tw i k;exact f _ _ (by have b:=e.symm.trans t;cases b;intro _ z;cases z) e
def Ax{gt:jr}{s q:aj}{H H':Hp}{a:Pl}{m:Md}(h:LS gt s q H a m)(t:∀ c o,(∀ N,o≠.tbl N)->c≠a.S->c≠a.d->c≠a.lk->(∀ i:Nat,i∈m.lv->c≠a.x i/\c≠a.ab i)->H c=some o->H' c=some o):LO gt H' a m:=by
 obtain⟨K,P,U,C⟩:=h.sh;obtain⟨Yy,L⟩:=h.lw;obtain⟨v,I,F⟩:=h.hd;obtain⟨E,G⟩:=h.gr;have R:=U.sh;obtain⟨⟨O,u⟩,A,B⟩:=R.sh;have w:∀ i:Nat,i∈m.lv->∃ n p,H (a.x i)=some (.ins q n p):=λi f=>by
  obtain⟨n,e⟩:=(R.tw i f).tw.self;exact⟨n,_,e⟩
 have r:∀ i:Nat,i∈m.lv->H (a.ab i)=some (.lst (iN (m.av i))):=λi f=>(R.tw i f).tw.above;have D:YO H H':=λb T e=>t b _ (by intro _ z;cases z) (ZD e u) (ZD e A) (ZD e B) (λi f=>by
  obtain⟨n,p,k⟩:=w i f;exact⟨ZD e k,ZD e (r i f)⟩) e
 have g:∀(c:aj)(l:jf),H c=some (.lst l)->c≠a.lk->(∀ i:Nat,i∈m.lv->c≠a.ab i)->H' c=some (.lst l):=λc l e y M=>t c _ (by intro _ z;cases z) (ZD e u) (ZD e A) y (λi f=>by
  obtain⟨n,p,k⟩:=w i f;exact⟨ZD e k,M i f⟩) e
 have dict:∀(c:aj)(l:List (ZV×V)),H c=some (.dK l)->c≠a.d->H' c=some (.dK l):=λc l e y=>t c _ (by intro _ z;cases z) (ZD e u) y (ZD e B) (λi f=>by
  obtain⟨n,p,k⟩:=w i f;exact⟨ZD e k,ZD e (r i f)⟩) e
 refine⟨⟨Yy,L.frame D (dict _ _ L.dict h.dd.1) λi f o e=>?_⟩,⟨v,dict _ _ I h.dd.2.1,F⟩,⟨E,G.frame D (g _ _ G.at_ h.tt.2.2.symm λi f=>(h.t2 i f).2.2)⟩,g _ _ h.told h.tt.1 λi f=>(h.t2 i f).1⟩;obtain⟨Q,p,_,_,k,_⟩:=L.tw i f;have:o=.lst p:=by have:=e.symm.trans k;exact zJ.inj this
 subst this;exact g _ _ e (h.t3 i f).2.1 λj J=>(h.t3 i f).2.2 j J
def Ge{bs:jq}{a:Nat->Nat}:(bs.map (λb:Nat=>(b:Int))).find? (λn=>decide (((a n.toNat:Nat):Int)=0))=(bs.find? λb=>decide (a b=0)).map λb:Nat=>(b:Int):=by
 rw[List.find?_map]
 congr 1
 refine congrArg (λq=>List.find? q bs) (funext λb=>?_);show decide (((a ((b:Nat):Int).toNat:Nat):Int)=0)=decide (a b=0);rw[decide_eq_decide];simp
def C0{bs:jq}{n:Nat}{a:Nat->Nat}(h:n∉bs):Xb n (WW bs a)=WW bs (Xb n a):=by
 funext i
 by_cases z:i=n
 ·subst z;show (if i=i then 1 else WW bs a i)=(if i∈bs then (if i=i then 1 else a i)-1 else (if i=i then 1 else a i))
  rw[aQ rfl,aP h];simp
 ·show (if i=n then 1 else (if i∈bs then a i-1 else a i))=(if i∈bs then (if i=n then 1 else a i)-1 else (if i=n then 1 else a i))
  rw[aP z,aP z]
def WK.av{gt:jr}{b c:aj}{H:Hp}{a:Pl}{m:Md}{p:aj}{q:jf}(o:WK a m p)(h:LS gt b c H a m)(e:H p=some (.lst q)):Zo a m p:=by
 obtain⟨n,u,R⟩:=h.shp;obtain⟨Yy,L⟩:=h.lw;obtain⟨k,g,_⟩:=h.hd;obtain⟨⟨r,f⟩,j,t⟩:=R.sh;exists ZD e f,ZD e j,o.lk.symm,ZD e L.dict,ZD e g,o.tl.symm;intro i d;obtain⟨s,l⟩:=(R.tw i d).tw.self;exact⟨ZD e l,(o.tw i d).1.symm⟩
inductive XM(gt:jr)(jh ji T:aj)(h:jf)(H:Hp)(Q:VK)(_:XK):Prop
 |mk(p g:aj)(a:Pl)(m:Md)(_:h=[.ref p,.ref g])(_:ZM H p)(_:H g=some (.tup (WG a)))(_:LS gt jh ji H a m)(_:WK a m p)(_:0<m.lv.length)(_:m.lv.length<=60)(_:m.ts.length<=600)(_:ZU H T qS)(_:∀(d:Hp)(e:Pl)(b:Md),(∀ c o,H c=some o->Zo a m c->Zo e b c/\(c≠p->c≠T->d c=some o))->LS gt jh ji d e b->ZM d p->WK e b p->WG e=WG a->m.ts.length<=b.ts.length->b.ts.length<=m.ts.length+1->m.lv.length<=b.lv.length->b.lv.length<=m.lv.length+1->ZU d T qS->Q (.bl true) d)
abbrev HX:ju:=["_law_well_here","_law_state","_law_shelf","_law_twigs","_law_holds","_law_grid_here","_law_told","_law_numbers","_law_some","_law_due","_law_handed","_law_found","_law_number"]
def XG:ZC HX zEf (Zc Vw):=Z9
def Dz{A:ax}{outer:jB}{s:al}{Hs:Hp}{E:XK}{gt:jr}{CB:aj}{C:Nat->aj}{c T f3 f4:aj}(CC:xZ ki c T)(t1:ki.BuiltinsAt mg T)(X:YX mg)(L:Yo K mg jh ji)(X2:XC K CB C 2)(X3:XC K CB C 3)(X4:XC K CB C 4)(F3:Yj K (C 3) f3 "number")(F4:Yj K (C 4) f4 "number")(DM:ZH P w K mg ki (YC P w) 10 jh "put_stem" zEj (YM gt jh ji (C 2) (C 3) (C 4)))(DQ:ZB P w K mg ki 71 "_law_asked" zEx (YN P w K mg ki CB C))(DR:ZB P w K mg ki 4 "_law_run" zEg (UZ gt))(DP:ZB P w K mg ki 1 "_law_pull" zEe YR)(DK:ZB P w K mg ki 2 "_law_picked" zEi Ya)(DW:ZB P w K mg ki 8 "_law_wrong" zEl (XX gt))(DU:ZB P w K mg ki 1 "_law_unheld" zEu XV)(r7:ZB P w K mg ki 7 "_law_alike" zEc (YH 6))(hr:ZZ 71 (A.deeper (envOfC "_law_put_stem" (Zc Vw) s.heap.objs.size f (.ref c)))):
  ∃ t,Xz (Wt Ze P w K mg ki HX "_law_put_stem" (Zc Vw) f (.ref c) A outer s Hs E) ((Xd Vw).drop 3) t /\
   ∀(H H3:Hp)(Q:VK)(p st LN:aj)(a:Pl)(m:Md)(x8:jg)(ns:jC),ZM H p->LS gt jh ji H a m->WK a m p->0<m.lv.length->m.lv.length<=60->m.ts.length<=600->ZU H T qS->ZI p H H3->ZM H3 p->H LN=none->H3 LN=some (.lst (ns.map V.int))->ns.length<=6 ->
    (∀(H':Hp)(a':Pl)(m':Md),(∀ c o,H c=some o->Zo a m c->Zo a' m' c/\(c≠p->c≠T->H' c=some o))->LS gt jh ji H' a' m'->ZM H' p->WK a' m' p->WG a'=WG a->m.ts.length<=m'.ts.length->m'.ts.length<=m.ts.length+1->m.lv.length<=m'.lv.length->m'.lv.length<=m.lv.length+1->ZU H' T qS->Q (.bl true) H') ->
    t { nx:=λ_ H'=>Q .non H',rt:=Q } [some (.ref p),some (.ref st),some (.ref a.S),some (.ref a.dT),some (.ref a.dH),some (.ref a.gl),some (.ref a.tl),some (.ref LN),x8,none,none,none,none] H3:=by
 have nd:=XG.nd;have hu:=VJ hr;have t8:=hr.mono (show 1<=71 by lia)
 have t9:=hr.mono (show 7<=71 by lia)
 have hr8:=hr.mono (show 8<=71 by lia)
 obtain⟨fA,fdA,FA,bA,kA,mA⟩:=DQ.ex;refine⟨_,ZQ (Zs 9 nd (Zr DW hr8 (Ut (pv 3) (Zf (pv 7) PY))))
  (ZQ (Zy (Uj (OS (pv 9))) (ZX (Zs 9 nd (Zr DU t8 (Zf (pv 4) (pv 7))))) Z2)
  (ZQ (OW (i:=10) nd rfl (Or.inr rfl) (Vb Pq rfl X.list Qr (ZY (pv 7))))
  (ZQ (Zs 11 nd (Ee (cl:=cl2 s.heap.objs.size) (N:=zE7) FA hr rfl mA kA bA (ZY (HA (P:=T) (cl:=cl2 s.heap.objs.size) rfl CC t1 rfl rfl)) (λy c h=>ZOs h) BT nmS λ_=>rfl))
  (ZQ (Zy (Yh (A4 hr.units0) (pv 10) (pv 7) (YE _)) WV Z2)
  (ZQ (Zy (Uj (MV (pv 9))) (ZX (Zn (Zr r7 t9 (Zf (pv 11) (pv 9))))) Z2)
  (ZQ (Wz (Mb yH uB uA Mg (pv 10)))
  (ZQ (Zy (PW.pt (VZ (Yh PZ (Zm K (pv 11) ZN) Ym (YE _)) (VZ (XT (Yf (Zq XW rfl X.isi Yw (Zf (Zm K (pv 11) ZN) (XQ (v:=.ty "int") rfl X.int Q2 rfl)))))
   (VZ (Yf (Zq XW rfl X.isi Yw (Zf (Zm K (pv 11) ZN) (XQ (v:=.ty "bool") rfl X.bool P7 rfl)))) (Up (Yh Ux (Zm K (pv 11) ZN) (Zq (Hg rfl) rfl X.max Nf (ZY (pv 6))) (YE _))))))) WV Z2)
  (ZQ (Wz (UQ yH xJ xI Uk (pv 6) (ZY (Zm K (pv 11) ZN))))
  (ZQ (Wo MD rfl (Wq (pv 7)) (Yk 12 nd) (ZX (Qu hu (pv 4) (pv 12) (Z0 QP (VX hu (pv 4) (pv 12)) ZN) rfl)))
  (ZQ (Qu hu (pv 3) (Zm K (pv 11) ZN) (Yi (Zf Ym (pv 7))) rfl)
  (ZQ (Qu hu (pv 4) (Zm K (pv 11) ZN) ZN rfl)
  (ZX (Zn Vz))))))))))))),λH H3 Q p st LN a m x8' ns W R O l0 l60 l600 tab x3 W3 o6 I lns k=>?_⟩
 obtain⟨xsP,l2⟩:=W.some;obtain⟨kvs,ls,U,l100⟩:=R.sh;obtain⟨gs,G⟩:=R.gr;have lt0:0<m.ts.length:=by
  obtain⟨i,B⟩:=tZ l0;have:=R.lt B
  lia
 have eI:((zQ m.ts.length).map λi:Nat=>(i:Int)).map V.int=iN (zQ m.ts.length):=by rw[zF];rfl
 have S3:=R.sx O l2 x3;obtain⟨kvs3,ls3,U3,l3⟩:=S3.sh;obtain⟨r5,n9⟩:=S3.lw;obtain⟨n5,t4,s6⟩:=S3.hd;have i1:ZU H3 T qS:=ZU.ext tab ⟨λb φ e=>x3 _ _ e (ZD e l2),λb φ e=>x3 _ _ e (ZD e l2)⟩;have OL:=R.off o6;have i0:∀ b,b∈m.lv->(m.av b).length<=800:=λb hb=>by
  rw[U.av b hb];have:=Dq m.ts m.lv b
  lia
 obtain⟨xs3,m0⟩:=W3.some;have c5:∀(H4 H6:Hp),ZA H3 H4->(∀ b o,b≠T->H4 b=some o->H6 b=some o)->ZU H4 T qS->ZU H6 T qS->∀ H7,ZA H6 H7->Q (.bl true) H7:=λH4 H6 s4 q r4 a0 H7 s7=>by
  obtain⟨ps4,p7,_⟩:=id r4;refine k H7 a m (λc o e v=>⟨v,λn1 n2=>s7 _ _ (q _ _ n2 (s4 _ _ (x3 _ _ e n1)))⟩) (Ga (S3.same s4) λc o z e=>s7 _ _ (q _ _ (ZD e p7 (z _)) e)) (Mt W3 λo e=>s7 _ _ (q _ _ (ZD (s4 _ _ m0) p7) (s4 _ _ e))) O rfl (zY _) ∅ (zY _) ∅ (ZU.ext a0 (Yg.same s7))
 have o3:∀ bs c2:jq,ns=bs.map (λb:Nat=>(b:Int))->ns=c2.map (λb:Nat=>(b:Int))->bs=c2:=λbs c2 e1 e2=>by
  have e3:=e1.symm.trans e2;have:=congrArg (List.map wV) e3;simpa [zF,Function.comp_def] using this
 have i5:∀(bs:jq)(x:Int),ns=bs.map (λb:Nat=>(b:Int))->(∀ b∈bs,b∈m.lv)->ns.find? (λx=>!YQ m.lv x)=some x->False:=λbs x e1 hb hx=>by
  have h1:=rF hx;have h2:=List.find?_some hx;rw[e1] at h1;obtain⟨b,c8,rfl⟩:=zE.mp h1;have:=hb b c8;unfold YQ at h2;simp at h2;exact h2 this
 refine⟨_,rfl,_,rfl,a.dT,LN,ns,m.ts,m.lv,m.lv,r5,rfl,(n9.lawT R.wf G.len G.up).g,n9.keys,(λi B=>by obtain⟨tp,us,e,_⟩:=n9.tw i B;exact⟨_,e⟩),λi B _=>B,I,∅,λx hx t H4 s4 ht=>?_,λbs eb hb i3 t H4 s4 ht=>?_,λbs eb hb i3 H4 s4=>?_⟩
 ·refine⟨_,rfl,_,rfl,Zk ?_⟩;exists _,rfl,LN,_,rfl,.inl (ZG.of (s4 _ _ I));intro hd J;obtain⟨H5,eU,g5,M⟩:=Xa J (.lst (ns.map V.int));rw[eU];have j:=s4.trans g5;have r:=ZU.ext i1 (Yg.same j);refine Mv (CB:=CB) (C:=C) (f3:=f3) (f4:=f4) (j0:=10) (j1:=2) (hd:=hd) (ns:=ns) L X2 X3 X4 F3 F4 DM r rfl rfl rfl rfl M (U3.sh.same j) R.wf ∅ i0 ∅ (λx' e9 H6 tf q a0 e0=>?_) λbs eb hb=>⟨λZ=>(i5 bs x eb hb hx).elim,λZ=>(i5 bs x eb hb hx).elim,λZ=>(i5 bs x eb hb hx).elim⟩
  cases hx.symm.trans e9;obtain⟨o7,Y,_⟩:=id r;have l:=q _ _ (ZD M Y) M;have a3:=j _ _ I;have c4:=q _ _ (ZD a3 Y) a3;have c9:=g5 _ _ ht;have l4:=q _ _ (ZD c9 Y) c9;refine⟨_,rfl,_,rfl,hd,LN,ns,rfl,rfl,ZG.of l,ZG.of c4,_,rfl,Zk ?_⟩;refine⟨_,rfl,_,rfl,Z1 ?_⟩;exact⟨_,rfl,_,rfl,.ref tf,.ref t,.tup [.str "twig",.int x],5,rfl,.tup e0 (.cons (.str _) (.cons (.int _) .nil)),.tup l4 (.cons (.str _) (.cons (.int _) .nil)),rfl,by decide,λH7 s7=>c5 H5 H6 j q r a0 H7 s7⟩
 ·refine⟨_,rfl,_,rfl,Zk ?_⟩;exists _,rfl,LN,_,rfl,.inl (ZG.of (s4 _ _ I));intro hd J;obtain⟨H5,eU,g5,M⟩:=Xa J (.lst (ns.map V.int));rw[eU];have j:=s4.trans g5;have r:=ZU.ext i1 (Yg.same j);refine Mv (CB:=CB) (C:=C) (f3:=f3) (f4:=f4) (j0:=10) (j1:=2) (hd:=hd) (ns:=ns) L X2 X3 X4 F3 F4 DM r rfl rfl rfl rfl M (U3.sh.same j) R.wf ∅ i0 ∅ (λx' e9=>(i5 bs x' eb hb e9).elim) λc2 i8 c8=>?_
  cases o3 bs c2 eb i8;refine⟨λZ H6 tf q a0 e0=>?_,λZ=>absurd i3 Z,λZ=>absurd i3 Z⟩;obtain⟨o7,Y,_⟩:=id r;have l:=q _ _ (ZD M Y) M;have a3:=j _ _ I;have c4:=q _ _ (ZD a3 Y) a3;have c9:=g5 _ _ ht;have l4:=q _ _ (ZD c9 Y) c9;refine⟨_,rfl,_,rfl,hd,LN,ns,rfl,rfl,ZG.of l,ZG.of c4,_,rfl,Zk ?_⟩;refine⟨_,rfl,_,rfl,Z1 ?_⟩;exact⟨_,rfl,_,rfl,.ref tf,.ref t,.tup [.str "stem"],5,rfl,.tup e0 (.cons (.str _) .nil),.tup l4 (.cons (.str _) .nil),rfl,by decide,λH7 s7=>c5 H5 H6 j q r a0 H7 s7⟩
 ·refine⟨_,rfl,_,rfl,Z1 ?_⟩;have hv:∀ n∈ns,YK n5 (.inl n)=some (.int ((m.ho n.toNat:Nat):Int)):=λn hn=>by
   rw[eb] at hn;obtain⟨b,c8,rfl⟩:=zE.mp hn;simpa using s6.2 b (hb b c8)
  refine⟨_,rfl,_,rfl,a.dH,LN,n5,ns,(λn=>((m.ho n.toNat:Nat):Int)),rfl,s4 _ _ t4,s4 _ _ I,hv,λn hn t r9 o8 ht=>?_,λhn r9 o8=>?_⟩
  ·have c6:=s4.trans o8;exists _,rfl,LN,_,rfl,.inl (ZG.of (c6 _ _ I));intro hd J;obtain⟨H5,eU,g5,M⟩:=Xa J (.lst (ns.map V.int));rw[eU];have j:=c6.trans g5;have r:=ZU.ext i1 (Yg.same j);have l1:=hn;rw[eb,Ge] at l1;obtain⟨b0,p8,rfl⟩:=yB.mp l1;refine Mv (CB:=CB) (C:=C) (f3:=f3) (f4:=f4) (j0:=10) (j1:=2) (hd:=hd) (ns:=ns) L X2 X3 X4 F3 F4 DM r rfl rfl rfl rfl M (U3.sh.same j) R.wf ∅ i0 ∅ (λx' e9=>(i5 bs x' eb hb e9).elim) λc2 i8 c8=>?_
   cases o3 bs c2 eb i8;refine⟨λZ=>absurd Z i3,λZ b l9 H6 tf q a0 e0=>?_,λZ hf=>by rw[p8] at hf;cases hf⟩
   cases p8.symm.trans l9;obtain⟨o7,Y,_⟩:=id r;have l:=q _ _ (ZD M Y) M;have a3:=j _ _ I;have c4:=q _ _ (ZD a3 Y) a3;have c9:=g5 _ _ ht;have l4:=q _ _ (ZD c9 Y) c9;refine⟨_,rfl,_,rfl,hd,LN,ns,rfl,rfl,ZG.of l,ZG.of c4,_,rfl,Zk ?_⟩;refine⟨_,rfl,_,rfl,Z1 ?_⟩;exact⟨_,rfl,_,rfl,.ref tf,.ref t,.tup [.str "held",.int (b0:Nat)],5,rfl,.tup e0 (.cons (.str _) (.cons (.int _) .nil)),.tup l4 (.cons (.str _) (.cons (.int _) .nil)),rfl,by decide,λH7 s7=>c5 H5 H6 j q r a0 H7 s7⟩
  ·have c6:=s4.trans o8;exists _,rfl,LN,_,rfl,.inl (ZG.of (c6 _ _ I));intro hd J;obtain⟨H5,eU,g5,M⟩:=Xa J (.lst (ns.map V.int));rw[eU];have j:=c6.trans g5;have r:=ZU.ext i1 (Yg.same j);have l1:=hn;rw[eb,Ge] at l1;have p9:bs.find? (λb=>decide (m.ho b=0))=none:=Option.map_eq_none_iff.mp l1;refine Mv (CB:=CB) (C:=C) (f3:=f3) (f4:=f4) (j0:=10) (j1:=2) (hd:=hd) (ns:=ns) L X2 X3 X4 F3 F4 DM r rfl rfl rfl rfl M (U3.sh.same j) R.wf ∅ i0 ∅ (λx' e9=>(i5 bs x' eb hb e9).elim) λc2 i8 c8=>?_
   cases o3 bs c2 eb i8;exists λZ=>absurd Z i3,λZ b l9=>by(rw[p9] at l9;cases l9)
   intro Z hf' H6 tf e5 nx m2 i4 q a0 R6 e0;obtain⟨o7,Y,_⟩:=id r;obtain⟨Lb,p6⟩:=Option.ne_none_iff_exists'.mp i3;obtain⟨_,t7,_,_,_,_,_⟩:=IB R.wf (λb h=>R.lt (hb b h)) p6;have h1:∀ b∈bs,1<=m.ho b:=λb c8=>by
    have:=uM.mp p9 b c8;simp at this
    lia
   have S5:=S3.same j;have S4:=S3.same c6;have c1:=Ax S5 (H':=H6) λc o z n1 n2 n3 n4 e=>q c o n1 n2 (ZD e Y (z _)) n4 e;obtain⟨kv4,ls4,R4⟩:=S4.shp;obtain⟨kv5,ls5,R5⟩:=S5.shp;obtain⟨⟨dS5,s9⟩,t5,hl5⟩:=id R5.sh;have n7:∀(c:aj)(xs:jf),H5 c=some (.lst xs)->(∀ i:Nat,i∈m.lv->c≠a.ab i)->H6 c=some (.lst xs):=λc xs e n4=>q _ _ (ZD e s9) (ZD e t5) (ZD e Y) (λi B=>by
    obtain⟨dx,hx⟩:=(R5.tw i B).tw.self;exact⟨ZD e hx,n4 i B⟩) e
   have m8:∀ i:Nat,i∈m.lv->a.ab i≠hd/\a.th i≠hd:=λi B=>by
    obtain⟨us,e,_⟩:=(R4.tw i B).things;exact⟨Zb (R4.tw i B).tw.above J,Zb e J⟩
   have l:=n7 _ _ M λi B=>(m8 i B).1.symm;have a3:=j _ _ I;have c4:=n7 _ _ a3 λi B=>(OL.tw i B).1.symm;have m3:LN≠hd:=Zb (c6 _ _ I) J;have r6:a.tl≠hd:=Zb S4.told J;refine⟨_,rfl,_,rfl,hd,LN,ns,rfl,rfl,ZG.of l,ZG.of c4,_,rfl,Zk ?_⟩;refine⟨_,rfl,_,rfl,Zk ?_⟩;exists _,rfl,.inl ⟨rfl,_,ZG.of l⟩,hd,_,rfl,rfl,l;have en:(m.ts++[Yv m.ts bs]).length=m.ts.length+1:=by simp
   have r3:∀ c,a.lk≠c->(∀ i:Nat,i∈m.lv->a.ab i≠c/\a.th i≠c)->e5.ab≠c->e5.th≠c->∀ i:Nat,i∈m.lv++[m.ts.length]->((a.as++[e5]).getD i .d).ab≠c/\((a.as++[e5]).getD i .d).th≠c:=λc _ n2 n3 n4 i B=>by
    by_cases z:i=m.ts.length
    ·subst z;obtain⟨e1,e2,_,_⟩:=OR (new:=e5) (D:=LN) R;exact⟨λy=>n3 (by rw[<-e1];exact y),λy=>n4 (by rw[<-e2];exact y)⟩
    ·obtain⟨e1,e2,_,_⟩:=OJ (new:=e5) (D:=LN) R (i:=i) (UH B z);have:=n2 i (UH B z);exact⟨λy=>this.1 (by rw[<-e1];exact y),λy=>this.2 (by rw[<-e2];exact y)⟩
   have R7:=IE (o':=.lst []) R6 l (Zb R4.sh.looks J) (r3 hd (Zb R4.sh.looks J) m8 (Zb M i4).symm (Zb M m2).symm);have m1:∀ c o,c≠hd->H6 c=some o->upd H6 hd (.lst []) c=some o:=λc o n e=>by rw[ZO n];exact e
   generalize upd H6 hd (.lst [])=H7 at R7 m1⊢;have a4:=m1 _ _ (ZD e0 l) e0;have a5:=m1 _ _ r6 c1.told;refine⟨_,rfl,.inr (.inl ⟨tf,_,0,.str "told",rfl,rfl,Zh.of a4,rfl,rfl,_,rfl,NP rfl ?_⟩)⟩;refine⟨_,rfl,.inr (.inl ⟨tf,_,1,.int (m.ts.length:Nat),rfl,rfl,Zh.of a4,rfl,_,_,_,_,rfl,.int _,OU,_,rfl,Zk ?_⟩)⟩;refine⟨_,rfl,.inr (.inl ⟨tf,_,1,.int (m.ts.length:Nat),rfl,rfl,Zh.of a4,rfl,_,_,_,_,rfl,.int _,NT,_,rfl,Zk ?_⟩)⟩;refine⟨_,rfl,.inr (.inl ⟨tf,_,1,.int (m.ts.length:Nat),rfl,rfl,Zh.of a4,rfl,_,rfl,a.tl,(zQ m.ts.length).map (λi:Nat=>(i:Int)),rfl,ZG.of (by rw[eI];exact a5),rE (by rw[zX,rR];exact lt0),λmx t6 hmax=>⟨_,_,rfl,rfl,_,rfl,?_⟩⟩)⟩
   have mxn:¬ ((m.ts.length:Int)<=mx):=by
    obtain⟨i,B,rfl⟩:=zE.mp t6;have:=xX.mp B;show ¬ ((m.ts.length:Int)<=((i:Nat):Int))
    lia
   rw[aM mxn];refine Zk ?_;refine⟨_,rfl,.inl ⟨rfl,_,ZG.of a5⟩,_,rfl,.inr (.inl ⟨tf,_,1,.int (m.ts.length:Nat),rfl,rfl,Zh.of a4,rfl,a.tl,_,.int (m.ts.length:Nat),rfl,rfl,a5,YS (by simp[iN];lia),?_⟩)⟩
   have R8:=IE (o':=.lst (iN (zQ m.ts.length)++[.int (m.ts.length:Nat)])) R7 a5 R.tt.1.symm (r3 a.tl R.tt.1.symm (λi B=>⟨(R.t2 i B).1.symm,(R.t2 i B).2.1.symm⟩) (Zb S5.told i4).symm (Zb S5.told m2).symm);have o5:∀ c o,c≠a.tl->H7 c=some o->upd H7 a.tl (.lst (iN (zQ m.ts.length)++[.int (m.ts.length:Nat)])) c=some o:=λc o n e=>by rw[ZO n];exact e
   have p0:upd H7 a.tl (.lst (iN (zQ m.ts.length)++[.int (m.ts.length:Nat)])) a.tl=some (.lst (iN (zQ (m.ts.length+1)))):=by rw[ZR,Fs]
   generalize upd H7 a.tl (.lst (iN (zQ m.ts.length)++[.int (m.ts.length:Nat)]))=H8 at R8 o5 p0⊢;have o4:∀ c o,c≠hd->c≠a.tl->H6 c=some o->H8 c=some o:=λc o n1 n2 e=>o5 _ _ n2 (m1 _ _ n1 e);obtain⟨r2,e7,s8⟩:=c1.hd;obtain⟨c0,a6⟩:=c1.lw;obtain⟨s5,G6⟩:=c1.gr;have a7:=o4 _ _ (ZD e7 l) (ZD e7 c1.told) e7;have m4:LN≠a.tl:=OL.tl.symm;have o0:=o4 _ _ m3 m4 c4;have n0:=o5 _ _ (ZD a4 a5) a4;refine⟨_,rfl,LN,rfl,⟨_,ZG.of o0⟩,PM (K:=K) (a:=LN) (xs:=ns.map V.int) (λi σ H'=>∃(x8 p1:jg)(a2:List (ZV×V)),σ=[some (.ref p),some (.ref st),some (.ref a.S),some (.ref a.dT),some (.ref a.dH),some (.ref a.gl),some (.ref a.tl),some (.ref LN),x8,some .non,some (.ref hd),some (.ref tf),p1]/\(∀ c o,c≠a.dH->H8 c=some o->H' c=some o)/\H' a.dH=some (.dK a2)/\UV a2 m.lv (WW (bs.take i) m.ho))
    ⟨_,_,r2,rfl,λc o _ e=>e,a7,(by
     have e2:WW [] m.ho=m.ho:=funext λi=>aP (by simp)
     rw[show bs.take 0=[] from rfl,e2];exact s8)⟩ (λi σ H' _ hP=>?_) ?_ ?_⟩
   ·obtain⟨_,_,_,_,k',_⟩:=hP;exact ZG.of (k' _ _ (ZD o0 a7) o0)
   ·rintro i u σ H9 r1 ⟨x8,p1,a2,rfl,a1,l8,e6⟩;rw[eb,zF,zN] at r1;obtain⟨b,o1,rfl⟩:=yB.mp r1;have mb:=zB o1;have bl:=hb b mb;have r0:b∉bs.take i:=λz=>by
     have hs:bs=bs.take i++b::bs.drop (i+1):=by
      obtain⟨B,e⟩:=yN.mp o1;rw[<-e,<-vS B,tX]
     have m9:=t7;rw[hs,uP] at m9;exact m9.2.2 b z b (by simp) rfl
    have p5:WW (bs.take i) m.ho b=m.ho b:=aP r0;have hg:Zx H9 a.dH (.int (b:Nat)) (some (.int (m.ho b:Nat))):=by
     have:=e6.2 b bl;rw[p5] at this;exact this ▸ Zx.k (k:=Sum.inl (b:Int)) l8
    have lhv:a2.length=m.lv.length:=by have:=congrArg yA e6.1;simpa using this
    exists _,rfl,_,rfl,a.dH,.int (m.ho b:Nat),rfl,hg,_,_,rfl,rfl,_,rfl,_,rfl,a.dH,_,rfl,XU.k (k:=Sum.inl (b:Int)) l8 (YS ∅)
    have e1:((m.ho b:Nat):Int)-1=((WW (bs.take i) m.ho b-1:Nat):Int):=by
     rw[p5];have:=h1 b mb
     lia
    exists _,_,_,rfl,λc o n e=>by rw[ZO n];exact a1 _ _ n e,ZR
    have et:bs.take (i+1)=bs.take i++[b]:=by rw[yP,o1];rfl
    rw[et,<-FN r0];show UV (Zv a2 (.inl (b:Int)) (.int (((m.ho b:Nat):Int)-1))) _ _;rw[e1];exact ZOf e6 bl
   ·rintro σ H9 ⟨x8,p1,a2,rfl,a1,l8,e6⟩;rw[show (ns.map V.int).length=bs.length by rw[eb];simp,yK (zY _)] at e6
    have R9:=R8.frame (H':=H9) (λc ys e=>a1 _ _ (ZD e a7) e) (λo e=>a1 _ _ (by obtain⟨⟨dS8,t0⟩,_,_⟩:=R8.sh;exact ZD t0 a7) e) (λo e=>a1 _ _ R.dd.2.1.symm e) (λo e=>a1 _ _ (ZD R8.sh.looks a7) e) λi B=>by
     obtain⟨dx,hx⟩:=(R8.tw i B).tw.self;obtain⟨us,ht,_⟩:=(R8.tw i B).things;exact⟨λo e=>a1 _ _ (ZD hx a7) e,λo e=>a1 _ _ (ZD ht a7) e,λo e=>a1 _ _ (ZD (R8.tw i B).tw.above a7) e⟩
    exists _,rfl,Z7;intro t nt;obtain⟨i6,eU,i9,o9⟩:=Xa nt (.tup [.str "stem",.ref LN]);rw[eU];have s0:=R9.same i9;have n6:∀ c o,c≠hd->c≠a.tl->c≠a.dH->H6 c=some o->i6 c=some o:=λc o n1 n2 n3 e=>i9 _ _ (a1 _ _ n3 (o4 _ _ n1 n2 e));have c7:=n6 _ _ (ZD a6.dict l) (ZD a6.dict c1.told) R.dd.2.2 a6.dict;have e8:=i9 _ _ (a1 _ _ (ZD n0 a7) n0);have i7:=i9 _ _ l8;have l6:=i9 _ _ (a1 _ _ (ZD p0 a7) p0);have ltk:c0.length=m.lv.length:=by have:=congrArg yA a6.keys;simpa using this
    have lhv:a2.length=m.lv.length:=by have:=congrArg yA e6.1;simpa using this
    refine⟨_,rfl,_,rfl,.inr (.inl ⟨tf,_,1,.int (m.ts.length:Nat),rfl,rfl,Zh.of e8,rfl,a.dT,_,rfl,XU.k (k:=Sum.inl (m.ts.length:Int)) c7 (YS ∅),?_⟩)⟩
    have p3:=N3 (o':=.dK (Zv c0 (.inl (m.ts.length:Int)) (.ref t))) s0 c7 R.dd.1.symm;have a9:∀ c o,c≠a.dT->i6 c=some o->upd i6 a.dT (.dK (Zv c0 (.inl (m.ts.length:Int)) (.ref t))) c=some o:=λc o n e=>by rw[ZO n];exact e
    have m7:upd i6 a.dT (.dK (Zv c0 (.inl (m.ts.length:Int)) (.ref t))) a.dT=some (.dK (Zv c0 (.inl (m.ts.length:Int)) (.ref t))):=ZR;generalize upd i6 a.dT (.dK (Zv c0 (.inl (m.ts.length:Int)) (.ref t)))=l7 at p3 a9 m7⊢;have m5:=a9 _ _ R.dd.2.2.symm i7;have o2:=a9 _ _ (ZD e8 c7) e8;refine⟨_,rfl,_,rfl,.inr (.inl ⟨tf,_,1,.int (m.ts.length:Nat),rfl,rfl,Zh.of o2,rfl,a.dH,_,rfl,XU.k (k:=Sum.inl (m.ts.length:Int)) m5 (YS ∅),?_⟩)⟩
    have p4:=N3 (o':=.dK (Zv a2 (.inl (m.ts.length:Int)) (.int 1))) p3 m5 R.dd.2.1.symm;have e4:∀ c o,c≠a.dH->l7 c=some o->upd l7 a.dH (.dK (Zv a2 (.inl (m.ts.length:Int)) (.int 1))) c=some o:=λc o n e=>by rw[ZO n];exact e
    have m6:upd l7 a.dH (.dK (Zv a2 (.inl (m.ts.length:Int)) (.int 1))) a.dH=some (.dK (Zv a2 (.inl (m.ts.length:Int)) (.int 1))):=ZR;generalize upd l7 a.dH (.dK (Zv a2 (.inl (m.ts.length:Int)) (.int 1)))=i2 at p4 e4 m6⊢;have a8:∀ c o,c≠hd->c≠a.tl->c≠a.dH->c≠a.dT->H6 c=some o->i2 c=some o:=λc o n1 n2 n3 n4 e=>e4 _ _ n3 (a9 _ _ n4 (n6 _ _ n1 n2 n3 e));have n8:YO H6 i2:=λc ys e=>a8 _ _ (ZD e l) (ZD e c1.told) (ZD e e7) (ZD e a6.dict) e;have l5:∀ c xs,c≠hd->c≠a.tl->H6 c=some (.lst xs)->i2 c=some (.lst xs):=λc xs n1 n2 e=>a8 _ _ n1 n2 (ZD e e7) (ZD e a6.dict) e;have c3:∀ c,H5 c=none->H c=none:=λc e=>by
     cases z:H c with
     | none=>rfl
     | some o=>
      by_cases y:c=p
      ·subst y;obtain⟨xs,e'⟩:=W3.some;rw[j _ _ e'] at e;cases e
      ·rw[j _ _ (x3 _ _ z y)] at e;cases e
    have ek:kindOf (Yv m.ts bs) = "stem" :=aP (by show (gd m.ts (bs.getD 0 0)).h+1≠0;lia)
    have r8:LN≠e5.ab:=Zb a3 i4;have s3:ns.map V.int=iN bs:=by rw[eb,zF];rfl
    have nn':m.ts.length∉bs:=λz=>by have:=R.lt (hb _ z);lia
    have s2:∀ i:Nat,i∈m.lv->a.b i≠hd:=λi B=>by
     obtain⟨kvA,LA⟩:=S4.lw;obtain⟨tp,us,_,_,e,_⟩:=LA.tw i B;exact Zb e J
    have p2:LS gt jh ji i2 (a.push e5 LN) ⟨m.ts++[Yv m.ts bs],m.lv++[m.ts.length],UJ bs m.ts.length (WS m.ts.length m.av),WW bs (Xb m.ts.length m.ho)⟩:=by
     refine GV R (c3 _ m2) (c3 _ i4) o6 r8 ⟨_,ls3,ZLO U3 ∅ hb p6 h1 p4,l3⟩ ⟨_,GN (tp:=t) (us:=ns.map V.int) a6 hb n8 (λi B o e=>?_) ?_ ?_ ?_ (λz=>absurd z (by show (gd m.ts (bs.getD 0 0)).h+1≠0;lia)) (λ_=>s3)⟩ ⟨_,m6,by rw[<-C0 nn'];exact HS (λi B=>R.lt B) e6⟩ ⟨s5,G6.frame n8 (l5 _ _ ?_ R.tt.2.1.symm G6.at_)⟩ ?_ ∅ ∅
     ·obtain⟨tp,us',_,_,e',_⟩:=a6.tw i B;have:o=.lst us':=by have:=e.symm.trans e';exact zJ.inj this
      subst this;exact l5 _ _ (s2 i B) (R.t3 i B).1 e
     ·exact e4 _ _ R.dd.2.2 m7
     ·rw[ek];exact e4 _ _ (ZD o9 i7) (a9 _ _ (ZD o9 c7) o9)
     ·exact l5 _ _ m3 m4 c4
     ·obtain⟨gsA,GA⟩:=S4.gr;exact Zb GA.at_ J
     ·exact e4 _ _ (ZD l6 i7) (a9 _ _ (ZD l6 c7) l6)
    have vp:=O.av R l2;have s1:ZM i2 p:=Mt W3 λo e=>a8 _ _ (Zb (c6 _ _ e) J) vp.2.2.2.2.2.1 vp.2.2.2.2.1 vp.2.2.2.1 (q _ _ vp.1 vp.2.1 (ZD (j _ _ m0) Y) vp.2.2.2.2.2.2 (j _ _ e));refine k i2 _ _ (λc o e v=>?_) p2 s1 (O.push R (Zb (j _ _ m0) m2).symm (Zb (j _ _ m0) i4).symm (Zb l2 o6).symm) rfl (by simp) (by simp) (by simp) (by simp) (ZU.ext a0 ⟨λb φ e=>?_,λb φ e=>?_⟩)
    ·obtain⟨v1,v2,v3,v4,v5,v6,v7⟩:=id v;exists v.push R (Zb e (c3 _ nx)) (Zb e (c3 _ i4));intro cp cT;have e3:=x3 _ _ e cp;exact a8 _ _ (Zb (c6 _ _ e3) J) v6 v5 v4 (q _ _ v1 v2 cT v7 (j _ _ e3))
    ·exact a8 _ _ (ZD e l) (ZD e c1.told) (ZD e e7) (ZD e a6.dict) e
    ·exact a8 _ _ (ZD e l) (ZD e c1.told) (ZD e e7) (ZD e a6.dict) e
def ZF4{gt:jr}{CB:aj}{C:Nat->aj}{c T f3 f4:aj}(F:Zp K "_law_put_stem" "_law_put_stem" Vw f fd)(hf:zP K ap "_law_put_stem" = some (some (.ref f)))(a6:yF K "_law_put_stem" = some (c,T))(CC:xZ ki c T)(c5:ki.BuiltinsAt mg T)(X:YX mg)(L:Yo K mg jh ji)(X2:XC K CB C 2)(X3:XC K CB C 3)(X4:XC K CB C 4)(F3:Yj K (C 3) f3 "number")(F4:Yj K (C 4) f4 "number")(DM:ZH P w K mg ki (YC P w) 10 jh "put_stem" zEj (YM gt jh ji (C 2) (C 3) (C 4)))(DQ:ZB P w K mg ki 71 "_law_asked" zEx (YN P w K mg ki CB C))(DR:ZB P w K mg ki 4 "_law_run" zEg (UZ gt))(DP:ZB P w K mg ki 1 "_law_pull" zEe YR)(DK:ZB P w K mg ki 2 "_law_picked" zEi Ya)(DW:ZB P w K mg ki 8 "_law_wrong" zEl (XX gt))(DU:ZB P w K mg ki 1 "_law_unheld" zEu XV)(c1:ZB P w K mg ki 7 "_law_alike" zEc (YH 6)):
  ZJ P w K mg ki Ze 72 f fd zEf (XM gt jh ji T):=by
 refine F.okC hf a6 XG (λvs H Q E h=>(by obtain⟨_,_,_,_,rfl,_⟩:=h;rfl)) (λA Z s H vs Q E hr h=>?_)
 obtain⟨p,st,a,m,rfl,W,e0,t,O,l0,e2,a7,e5,k⟩:=h;obtain⟨tT,hT,qT⟩:=Dz (Hs:=H) (outer:=Z) (E:=E) CC c5 X L X2 X3 X4 F3 F4 DM DQ DR DP DK DW DU c1 hr;have B:=XG.nd;have J:=hr.mono (show 1<=71 by lia)
 have c8:=hr.mono (show 2<=71 by lia)
 have c9:=hr.mono (show 4<=71 by lia)
 obtain⟨fA,i1,FA,bA,kA,mA⟩:=DQ.ex;refine⟨_,ZQ (PQ (pv 1) (P3 rfl (XY (Q1 (i:=2) B rfl (Or.inr rfl)) (XY (Yk 3 B) (XY (Yk 4 B) (XY (Yk 5 B) (XY (Yk 6 B) Pv)))))))
  (ZQ (Zs 7 B (Zr DR c9 (Ut (pv 0) (Ut (pv 3) (Zf (pv 4) (pv 5))))))
  (ZQ (Zy (Yh VT (Zr DP J (Zf (pv 0) ZN)) ZN (YE _))
   (ZQ (OW (i:=8) B rfl (Or.inr rfl) (Z0 PN (Zq (PR rfl) rfl X.sorted Q7 (ZY (pv 3))) (XF (ZY (Z0 WZ (Z0 WZ (Zq (Hg rfl) rfl X.max Nf (ZY (pv 6))) ZN) (Zr DP J (Zf (pv 0) ZN)))))))
   (ZX (MX (i:=7) [0,8] zEi B rfl rfl rfl (Os rfl X.range (ZY (Zr DP J (Zf (pv 0) ZN)))) (λ_ _ _ _ _=>Uh) (λ_ _ _ _ _=>Zr DK c8 (Zf (pv 1) (pv 2))) ⟨rfl,.inl rfl,rfl,rfl,.inl rfl,rfl,trivial⟩))) Z2) hT)),?_⟩
 obtain⟨i9,a3⟩:=W.some;obtain⟨i4,ls,U,e8⟩:=t.sh;obtain⟨c0,Lw⟩:=t.lw;obtain⟨e1,c6,hH⟩:=t.hd;obtain⟨gs,G⟩:=t.gr;have bp:∀ i:Nat,i∈m.lv->a.bs.getD i 0≠p:=λi I=>(O.tw i I).2.2;have a8:=t.l64;have d:∀ c,H c=none->c≠p:=λc e=>(Zb a3 e).symm;have eI:((zQ m.ts.length).map λi:Nat=>(i:Int)).map V.int=iN (zQ m.ts.length):=by rw[zF];rfl
 have eL:(m.lv.map λi:Nat=>(i:Int)).map V.int=iN m.lv:=by rw[zF];rfl
 have e3:0<m.ts.length:=by
  obtain⟨i,I⟩:=tZ l0;have:=t.lt I
  lia
 have g:∀(H6:Hp)(q:aj),ZI p H H6->ZM H6 p->H6 q=none->H q=none:=λH6 q x6 W6 e=>by
  cases z:H q with
  | none=>rfl
  | some o=>
   by_cases y:q=p
   ·subst y;obtain⟨xs,e'⟩:=W6.some;rw[e'] at e;cases e
   ·rw[x6 _ _ z y] at e;cases e
 exists _,rfl,st,_,rfl,Zh.of e0,rfl,_,_,rfl,_,_,rfl,_,_,rfl,_,_,rfl,_,_,rfl,rfl;exists _,rfl,_,rfl,_,rfl,_,rfl,p,a.dT,a.dH,a.gl,m.ts,m.lv,a.bs,c0,e1,m.ho,gs,rfl,W,Lw,bp,t.wf,c6,hH,G,O.gl,l0,a8;intro H1 LN a1 s1 W1 S c4 e6 e9;refine⟨_,rfl,p,5,rfl,W1,Vq (by decide) (by decide),λr v r0 r1 W3 s2=>⟨rfl,_,rfl,?_⟩⟩
 have x3:ZI p H v:=s1.trans s2;refine Wu (λc=>?gT) (λc=>?gF)
 case' gF=>
  obtain⟨l,a2⟩:∃ l:jC,iN a1=l.map V.int:=⟨a1.map λb:Nat=>(b:Int),by rw[zF];rfl⟩
  have M:l.length<=6:=by
   have:=congrArg yA a2;simp[iN] at this
   lia
  have j:=s2 _ _ c4 (d _ S);rw[a2] at j
 case' gT=>
  exists _,rfl,a.dT,c0,m.lv.map λi:Nat=>(i:Int),rfl,(Lw.sx W bp x3).dict,(by rw[Lw.keys,zF];rfl),Uz Lw.vl.up,by simpa using a8
  intro q nq;rw[eL];have g4:=Zg nq (.lst (iN m.lv));have hq:upd v q (.lst (iN m.lv)) q=some (.lst (iN m.lv)):=ZR;have e4:=g _ q x3 W3 nq;generalize upd v q (.lst (iN m.lv))=H4 at g4 hq⊢;have x4:=x3.trans (ZI.of g4);have W4:=W3.same g4;have a0:=(t.sx O a3 x4).told;refine⟨_,rfl,a.tl,(zQ m.ts.length).map (λi:Nat=>(i:Int)),rfl,ZG.of (by rw[eI];exact a0),rE (by rw[zX,rR];exact e3),λN i3 e7=>⟨_,_,rfl,rfl,?_⟩⟩
  refine⟨_,rfl,p,3,rfl,W4,Vq (by decide) (by decide),λr3 H5 i5 i6 W5 s5=>⟨_,_,rfl,rfl,Z7,λl9 n9=>?_⟩⟩
  have c7:=s5 _ _ hq (d _ e4);have x5:=x4.trans s5;have g6:=Zg n9 (.lst [.int (N+1+r3)]);exists q,l9,_,_,rfl,rfl,g6 _ _ c7,ZR,yE (YS (by simp[iN];lia))
  intro q2 n2;have g7:=Zg n2 (.lst (iN m.lv++[.int (N+1+r3)]));have a4:upd (upd H5 l9 (.lst [.int (N+1+r3)])) q2 (.lst (iN m.lv++[.int (N+1+r3)])) q2=some (.lst (iN m.lv++[.int (N+1+r3)])):=ZR;have x7:=x5.trans (ZI.of (g6.trans g7));have W7:=W5.same (g6.trans g7);have Y:=g _ q2 (x5.trans (ZI.of g6)) (W5.same g6) n2;generalize upd (upd H5 l9 (.lst [.int (N+1+r3)])) q2 (.lst (iN m.lv++[.int (N+1+r3)]))=H7 at a4 x7 W7⊢;exists _,rfl,p,6,rfl,W7,Vq (by decide) (by decide)
  intro r6 H8 i7 i8 W8 s8;have x8:=x7.trans s8;have a5:=s8 _ _ a4 (d _ Y);have u:∀ c,H8 c=none->c≠p:=λc e z=>by
   obtain⟨xs,e'⟩:=W8.some;rw[z,e'] at e;cases e
  refine⟨r6,rfl,∅,∅,UT (n:=r6.toNat) (λi z=>z=.int (0+(i:Int))) (λD i ys H'=>ZI p H8 H'/\ZM H' p/\H8 D=none/\∃ l:jC,ys=l.map V.int/\l.length<=i) (YS ∅)
   (λD i ys v I _=>I) (λD i ys v x H4 I _ hy=>hy) (λD ys v _=>zY _) (λD hD=>⟨ZI.of (Zg hD _),W8.same (Zg hD _),hD,[],rfl,zY _⟩) (λD i ys H' z eD i2 I hz hP R hR=>?gStep) (λLN ys v eD hP=>?gEnd)⟩
  case' gStep=>
   obtain⟨s',W',nD,l,rfl,M⟩:=hP;exists _,rfl,_,rfl,p,q2,_,rfl,W',d _ Y,s' _ _ a5 (d _ Y),by simp,by simp[iN];lia
   intro x c2 a9 c3 hx;obtain⟨y,rfl⟩:∃ y:Int,x=.int y:=by
    rcases yM.mp hx with h | h
    ·obtain⟨b,_,rfl⟩:=zE.mp h;exact⟨_,rfl⟩
    ·exact⟨_,yZ.mp h⟩
   have Dp:=u _ nD;refine hR _ c2 (a9 _ _ eD Dp) ⟨λc o e n=>by rw[ZO (Zb e nD)];exact a9 _ _ (s' _ _ e n) n,Mt c3 (λo e=>by rw[ZO (Ne.symm Dp)];exact e),nD,l++[y],by simp,by simp;lia⟩
  case' gEnd=>
   obtain⟨s',W3,nD,l,rfl,i0⟩:=hP;have x3:=x8.trans s';have S:=g _ LN x8 W8 nD;have j:=eD;have M:l.length<=6:=∅
 all_goals exact qT H v Q p st LN a m _ l W t O l0 e2 a7 e5 x3 W3 S j M k
end Tw
namespace L2
open PySem PySem.Spec PyProof.Rows
def IT:V->Bool
 | .int _=>true
 | .str _=>true
 | .bl _=>true
 | .non=>true
 | _=>false
def ZJd{A:ax}{s:al}{v:V}{a b:ai}(h:IT v=true)(c:ZW v a)(d:ZW v b):PySem.SeqAt.EqAt A s a b true:=by
 cases v with
 | int i=>
  obtain⟨e,rfl⟩:=c;obtain⟨f,rfl⟩:=d;have:=PySem.SeqAt.EqAt.int_int (A:=A) (s:=s) i e i f
  rwa [show (i==i)=true by simp] at this
 | str x=>
  obtain⟨e,rfl⟩:=c;obtain⟨f,rfl⟩:=d;have:=PySem.SeqAt.EqAt.str_str (A:=A) (s:=s) x e x f
  rwa [show (x==x)=true by simp] at this
 | bl x=>
  obtain rfl:a=.bool x:=c;obtain rfl:b=.bool x:=d;exact PySem.SeqAt.EqAt.same _
 | non=>
  obtain rfl:a=.none:=c;obtain rfl:b=.none:=d;exact PySem.SeqAt.EqAt.same _
 | _=>cases h
def B8{kh:jv}{σ:St}{H:Hp}{s:al}{c:jf}{b a:je}(p:∀ v∈c,IT v=true)(g:ZT c b)(t:ZT c a)(j:Nat)(d:j<b.toArray.size)(o:j<a.toArray.size):PySem.SeqAt.EqAt X.A.in1 s b.toArray[j] a.toArray[j] true:=by
 have u:=g.length;have e:j<c.length:=by simp at d;lia
 have f:c[j]? = some c[j]:=zV e;obtain⟨h,m,k⟩:=g.get f;obtain⟨i,n,l⟩:=t.get f;have q:b.toArray[j]=h:=by
  have:b.toArray[j]? = some h:=by simpa using m
  rw[vR d] at this;exact zJ.inj this
 have r:a.toArray[j]=i:=by
  have:a.toArray[j]? = some i:=by simpa using n
  rw[vR o] at this;exact zJ.inj this
 rw[q,r];exact ZJd (p _ (xU e)) k l
inductive MK(K:zZ)(b:Bool)(x y:V)(H:Hp)(Q:VK):Prop
 |mk(p q:aj)(a:jf)(_:x=.ref p)(_:y=.ref q)(_:Zh K H p a)(_:Zh K H q a)(_:∀ v∈a,IT v=true)(_:Q (.bl b) H)
def Ck(n:X.A.units<cLine):Yu X (az .Eq) (MK X.K true):=by
 intro a s B H x y v u Q I w z h;obtain⟨p,b,E,rfl,rfl,k,l,m,q⟩:=h;cases w;cases z;obtain⟨o,d,r,F⟩:=I.tuple k;obtain⟨c,f,t,G⟩:=I.tuple l;have C:=d.length;have D:=f.length;exact PySem.SeqAt.eq_tupleAt (e:=λ_=>true) r t n (λj g i=>B8 (X:=X) (kh:=a) (σ:=B) (H:=H) m d f j g i) (Yr I q (by simp;lia))
inductive QF(x y:V)(H:Hp)(Q:VK):Prop
 |mk(a:aj)(v:V)(_:x=.ref a)(_:y=.int 4)(_:H a=some (.lst [v]))(_:∀ p,H p=none->Q (.ref p) (upd H p (.lst [v,v,v,v])))
def AJ:Yu X (binaryOp .Mult) (QF):=by
 intro j s E H x y v u Q I A B h;obtain⟨a,z,rfl,rfl,n,q⟩:=h;cases A;obtain⟨t,rfl⟩:=B;obtain⟨p,w,r,_⟩:=I.list (ZG.of n);obtain⟨d,rfl,c⟩:=VY w;obtain⟨⟨cls,D,data,k⟩,m,g,e,f,i⟩:=id r;simp only at e f i;subst e f i;refine wpAny_binaryOp_repeat_ref (T:= "list") (U:= "int") (by decide) ⟨_,g,rfl⟩ (λC=>typeIs_int C 4 t) noFill_list_mul rH tU repeat_list rA.lookup
  (call_meets tU (typeIs_int s 4 t) rB (qV _ _) (lm_int_rmul_list_any 4 t a _ m none k) ⟨g,rfl,⟨_,g,rfl⟩,?_⟩)
 refine call_meets PySem.F.slot_list_mul ⟨_,g,rfl⟩ PySem.F.entry_list_mul (PySem.F.args_list_mul_2 _ _) (lm_list_mul_any a #[d] m none k 4 t (by decide) (by simp) (show ¬ Builtin.List.listTooLong (1 * wV 4)=true by decide)) ⟨g,?_⟩
 have l:=I.laid (a:=s.heap.objs.size) (o:=.lst [z,z,z,z]) (h':=s.heap.push { cls:=.type "list",data:=.seq #[d,d,d,d] }) (t':=s.toks) (λb u q=>zS _ q) (zY _)
  ⟨yE (YS (show 4<=1000 by decide)),[d,d,d,d],_,.cons c (.cons c (.cons c (.cons c .nil))),yT _ rfl⟩
 exact⟨.ref s.heap.objs.size,_,l,rfl,q _ (I.hok.fresh (zY _))⟩
end L2
namespace Tw
open PySem PySem.Spec L2 PyProof.Rows
variable{jh ji CS CT CH CK CP CB:aj}
def YJ.like{b c:aj}{H:Hp}{S d n:aj}{j ts':js}{h:jq}{l:Nat->jq}{m:Nat->Nat}{k:jy}{f:List (ZV×V)}{o:jf}(R:YJ b c H S d n j h l m k f o)(g:ts'.length=j.length)(e:∀ i∈h,gd ts' i=gd j i):YJ b c H S d n ts' h l m k f o:=
 ⟨by rw[g];exact R.sh,R.keys,R.val,λi a=>by rw[g];exact R.lt i a,by rw[g];exact R.len,λi a=>⟨(R.tw i a).tw,by rw[e i a];exact(R.tw i a).things,by rw[e i a];exact(R.tw i a).tag⟩,R.own,R.two⟩
def D7{b f:aj}{H s:Hp}{S d q g n:aj}{z:js}{r:jq}{t:Nat->jq}{v:Nat->Nat}{l:jy}{j D:List (ZV×V)}{x G:jf}(R:YJ b f H S d q z r t v l j x)(k:∀ c o,c≠g->c≠n->H c=some o->s c=some o)(E:q≠g)(F:d≠n)(y:∀ i∈r,(l.getD i .d).th≠g/\(l.getD i .d).ab≠g)(m:H g=some (.lst G))(a:H n=some (.dK D)):YJ b f s S d q z r t v l j x:=by
 obtain⟨⟨I,u⟩,p,B⟩:=id R.sh;refine R.frame (λc L e=>k _ _ (ZD e m) (ZD e a) e) (λo e=>k _ _ (ZD u m) (ZD u a) e) (λo e=>k _ _ (ZD p m) F e) (λo e=>k _ _ E (ZD B a) e) λi h=>?_;obtain⟨J,w⟩:=(R.tw i h).tw.self;obtain⟨K,C,_⟩:=(R.tw i h).things;have A:=(R.tw i h).tw.above;exact⟨λo e=>k _ _ (ZD w m) (ZD w a) e,λo e=>k _ _ (y i h).1 (ZD C a) e,λo e=>k _ _ (y i h).2 (ZD A a) e⟩
def ML{bs:jw}{n i:Nat}{D:aj}(h:n<bs.length):(bs.set n D).getD i 0=if i=n then D else bs.getD i 0:=by
 rw[zW,zW];by_cases z:i=n
 ·subst z;rw[aQ rfl,vD h];rfl
 ·rw[aP z,vT (Ne.symm z)]
def ZOC{H b:Hp}{g f D:aj}{e ts':js}{d:jq}{bs:jw}{c:List (ZV×V)}{us:jf}{n:Nat}(L:Xx H g e d bs c)(s:n∈d)(q:Lv ts' d)(A:ts'.length=e.length)(m:YO H b)(I:∀ i:Nat,i∈d->∀ o,H (bs.getD i 0)=some o->b (bs.getD i 0)=some o)(F:b g=some (.dK (Zv c (.inl (n:Int)) (.ref f))))(G:b f=some (.tup [.str (kindOf (gd ts' n)),.ref D]))(E:b D=some (.lst us))(B:(gd ts' n).h=0->jX b (Ys (gd ts' n).rows) us)(C:(gd ts' n).h≠0->us=iN (gd ts' n).bs)(M:∀ i∈d,i≠n->(gd ts' i).h=(gd e i).h/\(gd ts' i).bs=(gd e i).bs/\((gd e i).h=0->(gd ts' i).rows=(gd e i).rows)):Xx b g ts' d (bs.set n D) (Zv c (.inl (n:Int)) (.ref f)):=by
 have a:n<bs.length:=by rw[L.len];exact L.vl.lt n s
 obtain⟨N,O,t,_⟩:=L.tw n s;exists F,q,by rw[LV t];exact L.keys,by rw[wR,L.len,A]
 intro i j;by_cases z:i=n
 ·subst z;refine⟨f,us,by rw[Qg,aQ rfl],?_,?_,B,C⟩
  ·rw[ML a,aQ rfl];exact G
  ·rw[ML a,aQ rfl];exact E
 ·obtain⟨l,p,u,r,v,w,x⟩:=L.tw i j;obtain⟨k,J,K⟩:=M i j z;refine⟨l,p,by rw[Qg,aP (λy=>z (Y4.mp y))];exact u,?_,?_,λy=>?_,λy=>?_⟩
  ·rw[ML a,aP z];unfold kindOf at r⊢;rw[k];exact m _ _ r
  ·rw[ML a,aP z];exact I i j _ v
  ·rw[k] at y;rw[K y];exact(w y).mono m _ _
  ·rw[k] at y;rw[J];exact x y
def ZO4{n:Nat}{y:Str}{c:aj}(h:(X6 n).lookup y=some c):(cellsFrom (n+1) (Zc WT).names []).lookup y=some c:=by
 have e:=PySem.mem_of_lookup h;simp only[zG,vK,or_false,Prod.mk.injEq] at e;rcases e with ⟨a,b⟩ | ⟨a,b⟩ | ⟨a,b⟩
 ·rw[a,b];rfl
 ·rw[a,b];rfl
 ·rw[a,b];rfl
def Be{n:Nat}:∀ c∈(X6 n).map (·.2),∃ y,(X6 n).lookup y=some c:=λc a=>by
 have e:c=n+5\/c=n+3\/c=n+4:=by simpa using a
 rcases e with e | e | e
 ·exact⟨(("_law_shelf" : String):Str),by rw[e];rfl⟩
 ·exact⟨(("_law_number" : String):Str),by rw[e];rfl⟩
 ·exact⟨(("_law_handed" : String):Str),by rw[e];rfl⟩
def Qc:(Zc WT).names.lookup (("_law_number" : String):Str)=some .cell/\(Zc WT).names.lookup (("_law_shelf" : String):Str)=some .cell/\(Zc WT).names.lookup (("_law_handed" : String):Str)=some .cell:=by decide +kernel
def nmC{n:Nat}:∀ y∈[(("_law_shelf" : String):Str),(("_law_number" : String):Str),(("_law_handed" : String):Str)],(Zc WT).names.lookup y=some .cell/\∃ c,(X6 n).lookup y=some c:=λy a=>by
 have e:y=(("_law_shelf" : String):Str)\/y=(("_law_number" : String):Str)\/y=(("_law_handed" : String):Str):=by simpa using a
 rcases e with e | e | e
 ·rw[e];exact⟨Qc.2.1,_,rfl⟩
 ·rw[e];exact⟨Qc.1,_,rfl⟩
 ·rw[e];exact⟨Qc.2.2,_,rfl⟩
def M6(gt:jr)(jh ji T p:aj)(H:Hp)(a:Pl)(m:Md)(Q:VK):Prop:=∀(b:Hp)(d:Pl)(e:Md),(∀ c o,c≠T->c≠p->Zo a m c->H c=some o->Zo d e c/\b c=some o)->ZU b T qC->LS gt jh ji b d e->WG d=WG a->e.lv.length=m.lv.length->Q (.bl true) b
abbrev Lk:ju:=["_law_well_here","_law_state","_law_shelf","_law_twigs","_law_holds","_law_grid_here","_law_told","_law_some","_law_number","_law_block","_law_rows","_law_way","_law_due","_law_handed","_law_found"]
def Vr:ZC Lk zEf (Zc WT):=Z9
def ZKO{A:ax}{outer:jB}{s:al}{Hs:Hp}{E:XK}{gt:jr}{CB:aj}{C:Nat->aj}{c T f5:aj}(CC:xZ ki c T)(m4:ki.BuiltinsAt mg T)(X:YX mg)(L:Yo K mg jh ji)(X0:XC K CB C 0)(X1:XC K CB C 1)(X5:XC K CB C 5)(F5:Yj K (C 5) f5 "number")(DM:ZH P w K mg ki (YC P w) 11 jh "change_leaf" zEm (YA gt jh ji (C 0) (C 1) (C 5)))(DQ:ZB P w K mg ki 71 "_law_asked" zEx (YN P w K mg ki CB C))(DD:ZB P w K mg ki 10 "_law_leaf_due" zEd (YL gt))(l5:ZB P w K mg ki 7 "_law_alike" zEc (YH 6))(hr:ZZ 71 (A.deeper (envOfC "_law_change_leaf" (Zc WT) s.heap.objs.size f (.ref c)))):
  ∃ t,Xz (Wt Ze P w K mg ki Lk "_law_change_leaf" (Zc WT) f (.ref c) A outer s Hs E) ((Xd WT).drop 9) t /\
   ∀(H Y:Hp)(Q:VK)(p st LN r:aj)(a:Pl)(m:Md)(n:Nat)(B:jf)(rs:jG)(kb kw:V),ZM H p->LS gt jh ji H a m->WK a m p->ZU H T qC->ZI p H Y->H r=none->Y r=some (.lst B)->Zj Y rs B->B.length<=8->n∈m.lv->(Y6 rs=2->((rs.map Yt).map (·.1)).Sublist gt)->M6 gt jh ji T p H a m Q ->
    t { nx:=λ_ H'=>Q .non H',rt:=Q } [some (.ref p),some (.ref st),some (.ref a.S),some (.ref a.dT),some (.ref a.dH),some (.ref a.gl),some (.ref a.tl),some (.ref LN),some (.int (n:Nat)),some kb,some (.ref r),some kw,none,none,none] Y:=by
 have nd:=Vr.nd;have hu:=VJ hr;have m7:=hr.mono (show 7<=71 by lia)
 have i4:=hr.mono (show 10<=71 by lia)
 obtain⟨fA,o5,FA,bA,kA,mA⟩:=DQ.ex;refine⟨_,ZQ (Zs 12 nd (Zr DD i4 (Pm (pv 3) (pv 4) (pv 8) (pv 10))))
  (ZQ (OW (i:=13) nd rfl (Or.inr rfl) (Vb Pq rfl X.list Qr (ZY (pv 10))))
  (ZQ (Zs 14 nd (Ee (cl:=X6 s.heap.objs.size) (N:=zEy) FA hr rfl mA kA bA (ZY (HA (P:=T) (cl:=X6 s.heap.objs.size) rfl CC m4 rfl rfl)) (λy c h=>ZO4 h) Be nmC λ_=>rfl))
  (ZQ (Zy (Yh (Cj hr.units0) (pv 13) (pv 10) (YE _)) WV Z2)
  (ZQ (Zy (Uj (MV (pv 12))) (ZX (Zn (Zr l5 m7 (Zf (pv 14) (pv 12))))) Z2)
  (ZQ (Wz (Mb yH uB uA Mg (pv 13)))
  (ZQ (Qu hu (pv 3) (pv 8) (Yi (Zf Ym (pv 10))) rfl)
  (ZX (Zn (V1 (Ck hr.units0) (pv 14) (Yi (Zf Ym PY)) (YE _)))))))))),λH Y Q p st LN r a m n B rs kb kw W J O n9 x3 n6 a4 c2 l8 hn a5 k=>?_⟩
 obtain⟨p1,c9⟩:=W.some;have S3:=J.sx O c9 x3;have c6:ZU Y T qC:=ZU.ext n9 ⟨λb φ e=>x3 _ _ e (ZD e c9),λb φ e=>x3 _ _ e (ZD e c9)⟩;obtain⟨n4,ls,U3,l0⟩:=S3.sh;obtain⟨R,l⟩:=S3.lw;obtain⟨i6,a9,e8⟩:=S3.hd;obtain⟨gs,G3⟩:=S3.gr;have n5:=J.l64;have c5:∀ v∈B,∃ a,v=.ref a:=λv hv=>by
  obtain⟨i,g⟩:=List.getElem?_of_mem hv;obtain⟨a,_,_,e,_⟩:=c2.at_ i v g;exact⟨a,e⟩
 refine⟨_,rfl,_,rfl,_,rfl,_,rfl,.mk (l.lawT J.wf G3.len G3.up) n5 hn a9 e8 a4 c2 ∅ a5 λv H4 s4 cls=>?_⟩
 exists _,rfl,r,B,rfl,.inl (ZG.of (s4 _ _ a4));intro Z e1;obtain⟨H5,eU,g5,c1⟩:=Xa e1 (.lst B);rw[eU];have D:=s4.trans g5;have S5:=S3.same D;have c7:=ZU.ext c6 (Yg.same D);obtain⟨o8,i2,_⟩:=id c7;have U5:=U3.frame (U3.sh.same D);have i0:=D _ _ a4;refine ZQm (CB:=CB) (C:=C) (f5:=f5) (j0:=8) (j1:=2) (j2:=13) L X0 X1 X5 F5 DM c7 rfl rfl rfl rfl rfl rfl U5 hn c1 (c2.mono (ZA.tups D)) ∅ a5 (λxs hc H6 t a2 a8 ht=>?_) (λrest u hy H6 t U a2 a8 R6 A6 ht=>?_)
 ·have M:∀ c o,(∀ ps,o≠.tbl ps)->H5 c=some o->H6 c=some o:=λc o n e=>a2 _ _ (ZD e i2 (n _)) e;refine⟨_,rfl,_,rfl,Z,r,B,rfl,rfl,ZG.of (M _ _ (by intro _ z;cases z) c1),ZG.of (M _ _ (by intro _ z;cases z) i0),c5,_,rfl,Zk ?_⟩
  cases cls with
  | yes hy=>exact(hc.no hy).elim
  | no m5 m9=>
   cases hc.uniq m5;obtain⟨kt,i3,n0⟩:=hc.word;refine⟨_,rfl,_,rfl,Z1 ⟨_,rfl,_,rfl,.ref t,.ref _,.tup kt,5,rfl,.tup ht (i3 _),.tup (M _ _ (by intro _ z;cases z) (g5 _ _ m9)) (i3 _),n0,by decide,λH7 s7=>?_⟩⟩
   exact k H7 a m (λc o nT np v e=>⟨v,s7 _ _ (a2 _ _ nT (D _ _ (x3 _ _ e np)))⟩) (ZU.ext a8 (Yg.same s7)) (Ga S5 λc o z e=>s7 _ _ (M c o z e)) rfl rfl
 ·have M:∀ c o,(∀ ps,o≠.tbl ps)->(∀ C dx B,o≠.ins C dx B)->H5 c=some o->H6 c=some o:=λc o n n2 e=>a2 _ _ (ZD e i2 (n _)) (λi g=>by
   obtain⟨dx,hx⟩:=(U5.sh.tw i g).tw.self;exact ZD e hx (n2 _ _ _)) e
  have q:=M _ _ (by intro _ z;cases z) (by intro _ _ _ z;cases z) c1
  have m1:=M _ _ (by intro _ z;cases z) (by intro _ _ _ z;cases z) i0
  refine⟨_,rfl,_,rfl,Z,r,B,rfl,rfl,ZG.of q,ZG.of m1,c5,_,rfl,Zk ?_⟩
  cases cls with
  | no hc=>exact(hc.no hy).elim
  | yes _=>
   refine⟨_,rfl,_,rfl,Zk ?_⟩;exists _,rfl,.inl ⟨rfl,_,ZG.of q⟩,Z,_,rfl,rfl,q;obtain⟨h0,rd,e2,G,ec⟩:=hy;obtain⟨f1,f2,f3,f4⟩:=rd.facts J.wf l.vl hn;have o2:r≠Z:=Zb (s4 _ _ a4) e1;have e0:∀ c o,c≠Z->H6 c=some o->upd H6 Z (.lst []) c=some o:=λc o n e=>by rw[ZO n];exact e
   have m6:∀ c,upd H6 Z (.lst []) c=none->H6 c=none:=λc e=>by
    by_cases z:c=Z
    ·rw[z,ZR] at e;cases e
    ·rw[ZO z] at e;exact e
   generalize upd H6 Z (.lst [])=H7 at e0 m6⊢;have a1:=M _ _ (by intro _ z;cases z) (by intro _ _ _ z;cases z) (D _ _ l.dict)
   have e5:=e0 _ _ (ZD a1 q) a1;exists _,rfl,Z7;intro tp l1;have g8:=Zg l1 (.tup [.str "leaf",.ref r]);have lk:R.length<64:=by have:=congrArg yA l.keys;simp at this;lia
   have m0:=g8 _ _ e5;exists _,rfl,_,rfl,a.dT,_,rfl,XU.k (k:=kI n) m0 (YS ∅)
   have i9:∀ c o,c≠a.dT->upd H7 tp (.tup [.str "leaf",.ref r]) c=some o->upd (upd H7 tp (.tup [.str "leaf",.ref r])) a.dT (.dK (Zv R (kI n) (.ref tp))) c=some o:=λc o n e=>by rw[ZO n];exact e
   have c3:upd (upd H7 tp (.tup [.str "leaf",.ref r])) a.dT (.dK (Zv R (kI n) (.ref tp))) tp=some (.tup [.str "leaf",.ref r]):=i9 _ _ (Zb e5 l1).symm ZR;have e6:upd (upd H7 tp (.tup [.str "leaf",.ref r])) a.dT (.dK (Zv R (kI n) (.ref tp))) a.dT=some (.dK (Zv R (kI n) (.ref tp))):=ZR;have i8:∀ c o,c≠a.dT->H7 c=some o->upd (upd H7 tp (.tup [.str "leaf",.ref r])) a.dT (.dK (Zv R (kI n) (.ref tp))) c=some o:=λc o n e=>i9 c o n (g8 _ _ e);generalize upd (upd H7 tp (.tup [.str "leaf",.ref r])) a.dT (.dK (Zv R (kI n) (.ref tp)))=H9 at c3 e6 i8⊢;have i7:∀ c o,c≠Z->c≠a.dT->H6 c=some o->H9 c=some o:=λc o n1 n2 e=>i8 c o n2 (e0 c o n1 e);have m8:=i7 _ _ (ZD ht q) (ZD ht a1) ht;exists _,rfl,Z7;intro t2 n7;have a3:=Zg n7 (.tup [.str "told",.non]);exists t,t2,[.str "told",.non],rfl,rfl,Zh.of (a3 _ _ m8),Zh.of ZR,λv hv=>?_
   ·rcases zG.mp hv with z | z
    ·rw[z];rfl
    ·rw[yZ.mp z];rfl
   generalize upd H9 t2 (.tup [.str "told",.non])=I at a3⊢;have a0:∀ c o,c≠Z->c≠a.dT->H6 c=some o->I c=some o:=λc o n1 n2 e=>a3 _ _ (i7 c o n1 n2 e);have c0:∀ c o,Y c=some o->c≠Z:=λc o e=>Zb (s4 _ _ e) e1;have fr:∀ c o,c≠T->(∀ i∈m.lv,c≠a.x i)->c≠a.dT->Y c=some o->I c=some o:=λc o n1 n2 n3 e=>a0 c o (c0 c o e) n3 (a2 c o n1 n2 (D _ _ e));obtain⟨o4,i1,_⟩:=id c6;have c4:∀ i∈m.lv,∃ dx fs,Y (a.x i)=some (.ins ji dx fs):=λi g=>by
    obtain⟨dx,e⟩:=(U3.sh.tw i g).tw.self;exact⟨dx,_,e⟩
   have a6:∀ c o,(∀ ps,o≠.tbl ps)->(∀ C dx B,o≠.ins C dx B)->(∀ B,o≠.dK B)->Y c=some o->I c=some o:=λc o n1 n2 n3 e=>fr c o (ZD e i1 (n1 _)) (λi g=>by
    obtain⟨dx,fs,e'⟩:=c4 i g;exact ZD e e' (n2 _ _ _)) (ZD e l.dict (n3 _)) e
   have tu:YO Y I:=λc xs e=>a6 c _ (by intro _ z;cases z) (by intro _ _ _ z;cases z) (by intro _ z;cases z) e
   have e9:I r=some (.lst B):=a6 _ _ (by intro _ z;cases z) (by intro _ _ _ z;cases z) (by intro _ z;cases z) a4
   have m2:(gd m.ts n).bs=[]:=((J.wf n _ (Vg (l.vl.lt n hn))).leaf h0).1;have i5:=a5 e2;have kk:jX Y (Ys (rs.map Yt)) B:=(Fh c2 e2).2;generalize rs.map Yt=rr at G ec i5 kk;have l3:∀ o0 i,Z5 gt o0 i (Y5 rr):=IX G i5;have p0:=Mh J.wf l.vl rd hn (t:=Y5 rr) h0.symm m2.symm (l3 _ _);have nl:∀ i∈n::rest,i∈m.lv:=λi g=>(f1 i g).1;have pp:Vx gt m.ts m.lv u (n::rest) []:=by
    cases rest with
    | nil=>rw[Xs] at ec;cases ec;exact p0
    | cons s' rest=>
     have n8:Zw m.ts m.lv m.ho s' (s'::rest):=rd.drop 1 s' rfl;exact JP J.wf l.vl n8 (nl s' (by simp)) (by have:=f2 s' (by simp);lia) p0 ec
   have c8:gd u n=Y5 rr:=by
    rw[ID ec (xD.mp f3).1,Pz (l.vl.lt n hn),aQ rfl]
   have vc:=pp.vl l.vl;have gf:∀ i∈m.lv,gd (Vp m.lv (Y5 rr) u) i=gd u i:=λi g=>Kv (vc.lt i g) g;have fl:(Vp m.lv (Y5 rr) u).length=m.ts.length:=Yx.trans pp.len;have o1:WF gt (Vp m.lv (Y5 rr) u):=ZOF vc (λi g=>pp.ok i g (by simp)) l3
   have e7:∀ i,YT (Vp m.lv (Y5 rr) u) m.lv i=YT m.ts m.lv i:=λi=>Dv (λj hj=>by rw[gf j hj];exact(pp.sh j).1) i
   have l2:∀ i∈m.lv,(U.getD i .d).th≠Z/\(U.getD i .d).ab≠Z:=λi g=>by
    exists ?_
    ·rcases A6.th i g with z | z
     ·rw[z];obtain⟨vs,e,_⟩:=(U3.sh.tw i g).things;exact c0 _ _ e
     ·exact(Zb c1 z).symm
    ·rw[A6.ab i g];exact c0 _ _ (U3.sh.tw i g).tw.above
   have l6:=D7 (R6.like (ts':=Vp m.lv (Y5 rr) u) Yx gf) a0 (c0 _ _ U3.sh.sh.looks) J.dd.1.symm l2 q a1;have l7:=J.l700;have l9:∀ i∈m.lv,(U.getD i .d).th=(a.as.getD i .d).th\/Y (U.getD i .d).th=none:=λi g=>(A6.th i g).imp id λz=>D.free z;have m3:∀ i∈m.lv,∃ B,Y (a.b i)=some (.lst B):=λi g=>by
    obtain⟨o9,l4,_,_,e,_⟩:=l.tw i g;exact⟨l4,e⟩
   have nb:n<a.bs.length:=by rw[l.len];exact l.vl.lt n hn
   have e4:∀ i,(a.bs.set n r).getD i 0=if i=n then r else a.b i:=λi=>ML nb
   have e3:Xx I a.dT (Vp m.lv (Y5 rr) u) m.lv (a.bs.set n r) (Zv R (.inl (n:Int)) (.ref tp)):=by
    refine ZOC (us:=B) (ts':=Vp m.lv (Y5 rr) u) l hn (Fu vc) fl tu (λi g o e=>?_) (a3 _ _ e6) ?_ e9 (λ_=>?_) (λz=>?_) λi g z=>?_
    ·obtain⟨l4,e'⟩:=m3 i g;have:=e.symm.trans e';cases this;exact a6 _ _ (by intro _ z;cases z) (by intro _ _ _ z;cases z) (by intro _ z;cases z) e
    ·rw[gf n hn,c8];exact a3 _ _ c3
    ·rw[gf n hn,c8];exact kk.mono tu _ _
    ·rw[gf n hn,c8] at z;exact absurd rfl z
    ·rw[gf i g];exists (pp.sh i).2,(pp.sh i).1;intro h;rw[pp.old i λy=>by have:=f2 i ((zG.mp y).resolve_left z);lia]
   have o6:=G3.at_;have a7:∀ c o,H c=some o->c≠r:=λc o e=>Zb e n6;obtain⟨o3,o7,R0⟩:=J.shp;refine k I { a with as:=U,bs:=a.bs.set n r } ⟨Vp m.lv (Y5 rr) u,m.lv,m.av,m.ho⟩ (λc o nT np v e=>⟨?_,?_⟩) (ZU.ext a8 ⟨λb φ e=>a0 _ _ (ZD e q) (ZD e a1) e,λb φ e=>a0 _ _ (ZD e q) (ZD e a1) e⟩)
    ⟨⟨n4,ls,⟨l6,o1,Fu vc,λi g=>by rw[e7];exact U3.av i g,λi g=>by rw[e7];exact U3.live i g,by rw[fl];lia⟩,l0⟩,⟨_,e3⟩,⟨i6,fr _ _ (ZD a9 i1) (λi g=>by
     obtain⟨dx,fs,e'⟩:=c4 i g;exact ZD a9 e') J.dd.2.2.symm a9,e8⟩,⟨gs,G3.frame tu (a6 _ _ (by intro _ z;cases z) (by intro _ _ _ z;cases z) (by intro _ z;cases z) G3.at_)⟩,?_,J.dd,J.tt,λi g=>?_,λi g=>?_,J.l64,by rw[fl];exact l7⟩ rfl rfl
   ·obtain⟨v1,v2,v3,v4,v5,v6,v7⟩:=v;exists v1,v2,v3,v4,v5,v6;intro i g;obtain⟨q1,q2⟩:=v7 i g;exact⟨λy=>q1 (y.trans (A6.x i g)),λy=>q2 (y.trans (A6.ab i g))⟩
   ·exact fr c o nT (λi g=>(v.2.2.2.2.2.2 i g).1) v.2.2.2.1 (x3 _ _ e np)
   ·show I a.tl=some (.lst (iN (zQ (Vp m.lv (Y5 rr) u).length)));rw[fl];exact a6 _ _ (by intro _ z;cases z) (by intro _ _ _ z;cases z) (by intro _ z;cases z) S3.told
   ·obtain⟨q1,q2,q3⟩:=J.t2 i g;refine⟨λy=>q1 (y.trans (A6.ab i g)),λy=>?_,λy=>q3 (y.trans (A6.ab i g))⟩;have y:a.tl=(U.getD i .d).th:=y;rcases l9 i g with z | z
    ·exact q2 (y.trans z)
    ·rw[<-y,S3.told] at z;cases z
   ·show (a.bs.set n r).getD i 0≠a.tl/\(a.bs.set n r).getD i 0≠a.lk/\∀ j:Nat,j∈m.lv->(a.bs.set n r).getD i 0≠(U.getD j .d).ab;rw[e4];by_cases z:i=n
    ·rw[aQ z];exact⟨(a7 _ _ J.told).symm,(a7 _ _ R0.sh.looks).symm,λj hj=>by rw[A6.ab j hj];exact(a7 _ _ (R0.tw j hj).tw.above).symm⟩
    ·rw[aP z];obtain⟨q1,q2,q3⟩:=J.t3 i g;exact⟨q1,q2,λj hj=>by rw[A6.ab j hj];exact q3 j hj⟩
def Aa{J:It}{A:jq}{C:L2.St}{H:Hp}{B:TT}{Q:VK}(c:jq)(L:c.length<=900)(r:∀ i a,ZA H a->i<c.length->J.go i a)(I:∀ i a x h,ZA H a->i<c.length->J.yld i a x h->h=a/\(iN c)[i]? = some x)(f:∀ a,ZA H a->J.stop c.length a)(k:∀ a n (R:Bool->Hp->Prop),n∈c->ZA H a->(∀ b h,ZA a h->R b h)->B (Oe C A (.int (n:Nat))) a R)(o:∀ (D:aj) (a:Hp) (l:jq),ZA H a->H D=none->a D=some (.lst (iN l))->(∀ b∈l,b∈c)->l.length<=c.length->Q (.ref D) a):WY J C A B (Uq 0) H Q:=by
 intro D p;exists λi m a=>m=c.length-i/\i<=c.length/\∃ l:jq,a D=some (.lst (iN l))/\l.length<=i/\(∀ b∈l,b∈c)/\ZA H a,⟨c.length,rfl,yX _,[],ZR,zY _,λb j=>(by cases j),Zg p _⟩
 rintro i m a ⟨rfl,K,l,e,v,j,g⟩;by_cases d:i<c.length
 ·refine .inr ⟨r i a g d,λx E y=>?_⟩;obtain⟨rfl,s⟩:=I i a x E g d y;unfold iN at s;rw[zN] at s;obtain⟨n,G,rfl⟩:=yB.mp s;have w:=zB G;refine k _ n _ w g λb h t=>?_;have u:=t _ _ e
  cases b with
  | true=>
   refine Z1 ⟨_,rfl,iN l,c.length-(i+1),u,YS (by rw[zX];lia),∅,rfl,d,l++[n],by rw[ZR];simp[iN],by rw[yS,xH];lia,λb q=>?_,US (g.trans t) p⟩
   rcases yM.mp q with z | z
   ·exact j b z
   ·rw[yZ.mp z];exact w
  | false=>exact Zk ⟨c.length-(i+1),∅,rfl,d,l,u,vB v,j,g.trans t⟩
 ·have F:i=c.length:=∅
  subst F;exact .inl ⟨f a g,o D a l g p e j v⟩
inductive Xj(gt:jr)(jh ji T:aj)(c:jf)(H:Hp)(Q:VK)(_:XK):Prop
 |mk(p b:aj)(a:Pl)(m:Md)(_:c=[.ref p,.ref b])(_:ZM H p)(_:H b=some (.tup (WG a)))(_:LS gt jh ji H a m)(_:WK a m p)(_:0<m.lv.length)(_:ZU H T qC)(_:M6 gt jh ji T p H a m Q)
def ZMl{A:ax}{outer:jB}{s:al}{Hs:Hp}{E:XK}{gt:jr}{CB:aj}{C:Nat->aj}{c T f5:aj}(CC:xZ ki c T)(m1:ki.BuiltinsAt mg T)(X:YX mg)(L:Yo K mg jh ji)(X0:XC K CB C 0)(X1:XC K CB C 1)(X5:XC K CB C 5)(F5:Yj K (C 5) f5 "number")(DM:ZH P w K mg ki (YC P w) 11 jh "change_leaf" zEm (YA gt jh ji (C 0) (C 1) (C 5)))(DQ:ZB P w K mg ki 71 "_law_asked" zEx (YN P w K mg ki CB C))(DD:ZB P w K mg ki 10 "_law_leaf_due" zEd (YL gt))(i8:ZB P w K mg ki 7 "_law_alike" zEc (YH 6))(DP:ZB P w K mg ki 1 "_law_pull" zEe YR)(DR:ZB P w K mg ki 2 "_law_leaf_rows" zEh Yd)(hr:ZZ 71 (A.deeper (envOfC "_law_change_leaf" (Zc WT) s.heap.objs.size f (.ref c)))):
  ∃ t,Xz (Wt Ze P w K mg ki Lk "_law_change_leaf" (Zc WT) f (.ref c) A outer s Hs E) ((Xd WT).drop 6) t /\
   ∀(H H3:Hp)(Q:VK)(p st LN:aj)(a:Pl)(m:Md)(n:Nat)(b:Int),ZM H p->LS gt jh ji H a m->WK a m p->ZU H T qC->ZI p H H3->ZM H3 p->0<=b->b<16->n∈m.lv->M6 gt jh ji T p H a m Q ->
    t { nx:=λ_ H'=>Q .non H',rt:=Q } [some (.ref p),some (.ref st),some (.ref a.S),some (.ref a.dT),some (.ref a.dH),some (.ref a.gl),some (.ref a.tl),some (.ref LN),some (.int (n:Nat)),some (.int b),none,none,none,none,none] H3:=by
 obtain⟨t9,h9,q9⟩:=ZKO (Hs:=Hs) (outer:=outer) (E:=E) CC m1 X L X0 X1 X5 F5 DM DQ DD i8 hr;have nd:=Vr.nd;have m7:=hr.mono (show 1<=71 by lia)
 have m8:=hr.mono (show 2<=71 by lia)
 refine⟨_,ZQ (Zs 10 nd (Zr DR m8 (Ut (pv 0) (Zf (pv 5) (pv 9)))))
  (ZQ (Zs 11 nd (Zr DP m7 (Zf (pv 0) ZN)))
  (ZQ (Zy (Yh P2 (pv 11) ZN (YE _)) (ZX (Zs 10 nd (Zm K (XF (GD (XF Zt) (Z0 PN (pv 10) (pv 10)) (Z0 PN (XF (ZY (Yi (Zf Vz ZN)))) (pv 10)) (Z0 PN (pv 10) (XF (ZY (Yi (Zf (Zm K (Zm K (pv 10) (P6 Pt ZN)) ZN) PY))))) (Z0 PN (pv 10) (Z0 AJ (XF (ZY (Yi (Zf ZN ZN)))) ZN)))) (Z0 QP (pv 11) ZN)))) Z2) h9)),λH H3 Q p st LN a m n b W S0 O i6 x3 W3 b0 b1 hn k=>?_⟩
 obtain⟨p0,m2⟩:=W.some;have S3:=S0.sx O m2 x3;obtain⟨gs,G3⟩:=S3.gr;have n0:gs.length=64:=by have:=G3.keys.length;rw[<-this];exact G3.len
 have Y:∀{H':Hp}{q:aj},ZI p H H'->ZM H' p->H' q=none->H q=none/\q≠p:=fun{H' q} x' W' hq=>by
  have qp:q≠p:=λy=>by
   obtain⟨xs,e⟩:=W'.some;rw[y,e] at hq;cases hq
  refine⟨?_,qp⟩
  cases z:H q with
  | none=>rfl
  | some o=>rw[x' q o z qp] at hq;cases hq
 exists _,rfl,_,rfl,_,rfl,p,a.gl,b,gs,gt,rfl,W3,O.gl,G3.at_,G3.keys,G3.fit,n0,b0,b1;intro D x g H4 x4 W4 nD hD hk hf hs l0 l4;obtain⟨n1,n2⟩:=Y x3 W3 nD;exists _,rfl,p,16,rfl,W4,Vq (by decide) (by decide)
 intro l H5 w0 w1 W5 x5;have o4:=x4.trans x5;have c0:=x3.trans o4;have F:=x5 _ _ hD n2;have c8:=hk.mono (x5.tupsW W4) _ _;have rb:=EJ c8 hf;have o8:x.length=g.length:=by have:=hk.length;rw[<-this];exact zX _
 clear hk hD;refine⟨_,rfl,_,_,rfl,rfl,_,rfl,Wu (λc=>?_) (λc=>?_)⟩
 case refine_2=>exact q9 H H5 Q p st LN D a m n x (g.map OH) _ _ W S0 O i6 c0 n1 F rb ∅ hn (λe=>by rw[Ml];exact hs) k
 have o9:10<l:=of_decide_eq_true c;obtain⟨u1,c3⟩:∃ u,x[x.length-1]? = some u:=⟨_,zV ∅⟩
 obtain⟨a1,vk,vv,c2,rfl,o3,e0,_⟩:=NF c8 c3;have c7:=hf _ (zB c2);generalize g.getD (x.length-1) rd=r1 at c2 e0 c7;exists Z7;intro l1 i0;obtain⟨J1,d,g1,e1⟩:=Xa i0 (.lst []);rw[d];exists _,rfl,_,rfl,D,D,x,x,rfl,rfl,g1 _ _ F,g1 _ _ F,yE (YS ∅)
 intro l2 i1;obtain⟨J2,d,g2,e2⟩:=Xa i1 (.lst (x++x));rw[d];have s2:=g1.trans g2;exists Z7;intro t3 n9;obtain⟨J3,d,g3,e3⟩:=Xa n9 (.tup [.bl true,.int 1]);rw[d];exists Z7;intro m3 n5;obtain⟨J4,d,g4,e4⟩:=Xa n5 (.lst [.ref t3]);rw[d];have s4:=(s2.trans g3).trans g4;exists _,rfl,m3,D,[.ref t3],x,rfl,rfl,e4,s4 _ _ F,yE (YS (by simp;lia))
 intro l3 i2;obtain⟨J5,d,g5,e5⟩:=Xa i2 (.lst ([.ref t3]++x));rw[d];have s5:=s4.trans g5;refine⟨_,rfl,_,rfl,1,rfl,.inl ⟨D,x,-1,.ref a1,rfl,rfl,ZG.of (s5 _ _ F),F8 (j:=1) (zY _) l0 c3,.inr (.inl ⟨a1,_,0,vk,rfl,rfl,Zh.of (s5 _ _ o3),rfl,?_⟩)⟩⟩;exists Z7;intro t4 o0;obtain⟨J6,d,g6,e6⟩:=Xa o0 (.tup [vk,.non]);rw[d];exists Z7;intro m4 n6;obtain⟨J7,d,g7,e7⟩:=Xa n6 (.lst [.ref t4]);rw[d];have s7:=(s5.trans g6).trans g7;exists D,m4,x,[.ref t4],rfl,rfl,s7 _ _ F,e7,yE (YS (by simp;lia))
 intro M i3;obtain⟨J8,d,g8,e8⟩:=Xa i3 (.lst (x++[.ref t4]));rw[d];have s8:=s7.trans g8;exists _,rfl,Z7;intro i o1;obtain⟨J9,d,g9,e9⟩:=Xa o1 (.tup [.int 0,.int 0]);rw[d];exists Z7;intro m5 n7;obtain⟨o5,d,c4,i9⟩:=Xa n7 (.lst [.ref i]);rw[d];exists m5,.ref i,rfl,rfl,i9;intro m6 n8;obtain⟨o6,d,c5,l6⟩:=Xa n8 (.lst [.ref i,.ref i,.ref i,.ref i]);rw[d];have a6:=(g9.trans c4).trans c5;have a9:=s8.trans a6;exists D,m6,x,[.ref i,.ref i,.ref i,.ref i],rfl,rfl,a9 _ _ F,l6,yE (YS (by simp;lia))
 intro l5 i4;obtain⟨o7,d,l9,l7⟩:=Xa i4 (.lst (x++[.ref i,.ref i,.ref i,.ref i]));rw[d];exists Z7;intro LL n3;obtain⟨B,d,c6,R⟩:=Xa n3 (.lst [.ref l1,.ref l2,.ref l3,.ref M,.ref l5]);rw[d];have J:=l9.trans c6;have I:=a9.trans J;have a7:=a6.trans J;have Z:=g8.trans a7;have a5:=(g6.trans g7).trans Z;have a4:=g5.trans a5;have a3:=(g3.trans g4).trans a4;have i5:=g2.trans a3;have i7:ZI p H B:=c0.trans (ZI.of I);have v:=rb.mono (ZA.tups I);have nr:0<g.length:=∅
 have U:∀(LR:aj)(ws:jf)(G:jG),H5 LR=none->B LR=some (.lst ws)->Zj B G ws->ws.length<=8->Y6 G≠2->t9 { nx:=λ_ H'=>Q .non H',rt:=Q } [some (.ref p),some (.ref st),some (.ref a.S),some (.ref a.dT),some (.ref a.dH),some (.ref a.gl),some (.ref a.tl),some (.ref LN),some (.int (n:Nat)),some (.int b),some (.ref LR),some (.int l),none,none,none] B:=λLR ws G n4 m0 m9 l8 hd=>q9 H B Q p st LN LR a m n ws G _ _ W S0 O i6 i7 (Y c0 W5 n4).1 m0 m9 l8 hn (λe=>absurd e hd) k;have c1:∀ G:jG,Vi G=false->Y6 G≠2:=λG e z=>by unfold Y6 at z;rw[aP (by rw[e];exact zT)] at z;cases z
 have a8:∀ G:jG,¬ (1<=G.length/\G.length<=4/\Uy ((G.map Yt).map (·.1))=true)->Y6 G≠2:=λG h z=>by
  unfold Y6 at z;by_cases e:Vi G=true
  ·rw[aQ e,aP h] at z;cases z
  ·rw[aP e] at z;cases z
 have a0:l-11=0\/l-11=1\/l-11=2\/l-11=3\/l-11=4:=∅
 have N:∀(j:Nat)(LR:aj),l-11=(j:Int)->[V.ref l1,.ref l2,.ref l3,.ref M,.ref l5][j]? = some (.ref LR)->Xv [V.ref l1,.ref l2,.ref l3,.ref M,.ref l5] (l-11)=some (.ref LR):=λj LR e h=>by rw[e];exact Xg h
 rcases a0 with z | z | z | z | z
 ·refine⟨_,rfl,_,_,rfl,rfl,.inl ⟨LL,_,_,.ref l1,rfl,rfl,ZG.of R,N 0 l1 z rfl,U l1 [] [] i0 (i5 _ _ e1) Zj.nil (by simp) (a8 _ (by simp))⟩⟩
 ·refine⟨_,rfl,_,_,rfl,rfl,.inl ⟨LL,_,_,.ref l2,rfl,rfl,ZG.of R,N 1 l2 z rfl,U l2 _ _ (g1.free i1) (a3 _ _ e2) (v.app v) (by simp;lia) (a8 _ λh=>?_)⟩⟩
  have hp:=Kn h.2.2;rw[<-yR,Ml,yR,vG] at hp;obtain⟨r,c9⟩:=tZ nr;have:=hp.2.2 r.1 (zE.mpr ⟨r,c9,rfl⟩) r.1 (zE.mpr ⟨r,c9,rfl⟩);rw[M4] at this;cases this
 ·refine⟨_,rfl,_,_,rfl,rfl,.inl ⟨LL,_,_,.ref l3,rfl,rfl,ZG.of R,N 2 l3 z rfl,U l3 _ ([(none,some (.int 1))]++g.map OH) (s4.free i2) (a5 _ _ e5) ((Zj.one ⟨t3,_,_,rfl,((g4.trans a4) _ _ e3),.tru,.key (.int _) (by decide +kernel)⟩).app v) (by simp;lia) (c1 _ rfl)⟩⟩
 ·refine⟨_,rfl,_,_,rfl,rfl,.inl ⟨LL,_,_,.ref M,rfl,rfl,ZG.of R,N 3 M z rfl,U M _ (g.map OH++[(some r1.1,none)]) (s7.free i3) (a7 _ _ e8) (v.app (Zj.one ⟨t4,_,_,rfl,((g7.trans Z) _ _ e6),.key (e0.sm I) c7.1,.non⟩)) (by simp;lia) (c1 _ ?_)⟩⟩
  unfold Vi;rw[uW];simp
 ·have a2:V5 B (some (.int 0),some (.int 0)) (.ref i):=⟨i,_,_,rfl,(((c4.trans c5).trans J) _ _ e9),.key (.int _) (by decide +kernel),.key (.int _) (by decide +kernel)⟩
  have o2:Zj B ([(some (.int 0),some (.int 0))]++([(some (.int 0),some (.int 0))]++([(some (.int 0),some (.int 0))]++[(some (.int 0),some (.int 0))]))) [.ref i,.ref i,.ref i,.ref i]:=(Zj.one a2).app ((Zj.one a2).app ((Zj.one a2).app (Zj.one a2)));refine⟨_,rfl,_,_,rfl,rfl,.inl ⟨LL,_,_,.ref l5,rfl,rfl,ZG.of R,N 4 l5 z rfl,U l5 _ _ (a9.free i4) (c6 _ _ l7) (v.app o2) (by simp;lia) (a8 _ λh=>?_)⟩⟩
  have h4:=h.2.1;rw[yS,zX,show ([(some (KT.int 0),some (KT.int 0))]++([(some (KT.int 0),some (KT.int 0))]++([(some (KT.int 0),some (KT.int 0))]++[(some (KT.int 0),some (KT.int 0))]) ):jG).length=4 from rfl] at h4
  lia
def Bp{A:ax}{outer:jB}{s:al}{Hs:Hp}{E:XK}{gt:jr}{G:aj}{C:Nat->aj}{c T f5:aj}(CC:xZ ki c T)(a0:ki.BuiltinsAt mg T)(X:YX mg)(L:Yo K mg jh ji)(X0:XC K G C 0)(X1:XC K G C 1)(X5:XC K G C 5)(F5:Yj K (C 5) f5 "number")(DM:ZH P w K mg ki (YC P w) 11 jh "change_leaf" zEm (YA gt jh ji (C 0) (C 1) (C 5)))(DQ:ZB P w K mg ki 71 "_law_asked" zEx (YN P w K mg ki G C))(DD:ZB P w K mg ki 10 "_law_leaf_due" zEd (YL gt))(N:ZB P w K mg ki 7 "_law_alike" zEc (YH 6))(R:ZB P w K mg ki 1 "_law_pull" zEe YR)(DR:ZB P w K mg ki 2 "_law_leaf_rows" zEh Yd)(DK:ZB P w K mg ki 2 "_law_picked" zEi Ya)(DL:ZB P w K mg ki 2 "_law_label" zEb (Yb gt))(J:ZZ 71 (A.deeper (envOfC "_law_change_leaf" (Zc WT) s.heap.objs.size f (.ref c)))):
  ∃ t,Xz (Wt Ze P w K mg ki Lk "_law_change_leaf" (Zc WT) f (.ref c) A outer s Hs E) ((Xd WT).drop 3) t /\
   ∀(H l:Hp)(Q:VK)(p M e:aj)(a:Pl)(m:Md)(j:jq),ZM H p->LS gt jh ji H a m->WK a m p->ZU H T qC->ZI p H l->ZM l p->e≠p->l e=some (.lst (iN j))->0<j.length->j.length<=900->(∀ b∈j,b∈m.lv)->M6 gt jh ji T p H a m Q ->
    t { nx:=λ_ H'=>Q .non H',rt:=Q } [some (.ref p),some (.ref M),some (.ref a.S),some (.ref a.dT),some (.ref a.dH),some (.ref a.gl),some (.ref a.tl),some (.ref e),none,none,none,none,none,none,none] l:=by
 obtain⟨t6,h6,q6⟩:=ZMl (Hs:=Hs) (outer:=outer) (E:=E) CC a0 X L X0 X1 X5 F5 DM DQ DD N R DR J;have nd:=Vr.nd;have o:=J.mono (show 1<=71 by lia)
 have q:=J.mono (show 2<=71 by lia)
 have a3:=J.mono (show 3<=71 by lia)
 refine⟨_,ZQ (OW (i:=8) nd rfl (Or.inr rfl) (Zr DK q (Zf (pv 0) (pv 7))))
  (ZQ (Zs 9 nd (Z0 M8 (Lh (K:=K) (k:=0) a3 (pv 5) (ZY (Zm K (Zr DL q (Zf (pv 3) (pv 8))) ZN))) ZN))
  (ZQ (Zy (Yh VT (Zr R o (Zf (pv 0) ZN)) ZN (YE _)) (ZX (Zs 9 nd (Zr R o (Zf (pv 0) ZN)))) Z2) h6)),λH l Q p M e a m j W h O z x3 W3 a5 Z l0 y a1 k=>?_⟩
 obtain⟨c3,a2⟩:=W.some;exists _,rfl,_,rfl,p,e,iN j,rfl,W3,a5,Z,by rw[zX];exact l0,by rw[zX];exact y
 intro x H4 x4 W4 hx;obtain⟨n,bn,rfl⟩:=zE.mp hx;have I:=a1 n bn;have D:=x3.trans x4;have S4:=h.sx O a2 D;obtain⟨a9,U⟩:=S4.lw;obtain⟨gs,d⟩:=S4.gr;have V:∀ t∈gt,t.depth<=100:=λt ht=>zD (Pa t 3 (d.fit t ht)) ∅
 have lg:=d.len;exists _,rfl,.inl ⟨rfl,_,ZG.of d.at_⟩,_,rfl,_,rfl,a.dT,n,m.ts,m.lv,a9,rfl,(U.lawT h.wf d.len d.up).g,I;intro H5 v s5 hv;obtain⟨ta,B,c2,rfl,a4,u,c0⟩:=hv;have ob:=h.wf n _ (Vg (h.lt I));obtain⟨j0,c1,Y,a6⟩:=LY d.up (LD ob).1;have G5:=d.same s5;refine .inr (.inl ⟨ta,_,1,B,rfl,rfl,Zh.of a4,rfl,a.gl,gs,gt,B,_,j0,rfl,rfl,G5.at_,G5.keys,u,V,Y,a6,∅,_,_,rfl,rfl,⟨by decide,by decide⟩,?_⟩)
 have F:=D.trans (ZI.of s5);have W5:=W4.same s5;have jb:0<=((j0:Nat):Int) / 4/\((j0:Nat):Int) / 4<16:=∅
 refine⟨_,rfl,p,4,rfl,W5,Vq (by decide) (by decide),λr H6 r0 r1 W6 x6=>⟨rfl,_,rfl,Wu (λc=>?_) (λc=>?_)⟩⟩
 ·exists _,rfl,p,16,rfl,W6,Vq (by decide) (by decide)
  intro r' H7 a7 a8 W7 x7;exact q6 H H7 Q p M e a m n _ W h O z ((F.trans x6).trans x7) W7 a7 a8 I k
 ·exact q6 H H6 Q p M e a m n _ W h O z (F.trans x6) W6 jb.1 jb.2 I k
def Bv{gt:jr}{CB:aj}{C:Nat->aj}{c T f5:aj}(F:Zp K "_law_change_leaf" "_law_change_leaf" WT f fd)(hf:zP K ap "_law_change_leaf" = some (some (.ref f)))(Y:yF K "_law_change_leaf" = some (c,T))(CC:xZ ki c T)(a1:ki.BuiltinsAt mg T)(X:YX mg)(L:Yo K mg jh ji)(X0:XC K CB C 0)(X1:XC K CB C 1)(X5:XC K CB C 5)(F5:Yj K (C 5) f5 "number")(DM:ZH P w K mg ki (YC P w) 11 jh "change_leaf" zEm (YA gt jh ji (C 0) (C 1) (C 5)))(DQ:ZB P w K mg ki 71 "_law_asked" zEx (YN P w K mg ki CB C))(DD:ZB P w K mg ki 10 "_law_leaf_due" zEd (YL gt))(a0:ZB P w K mg ki 7 "_law_alike" zEc (YH 6))(DP:ZB P w K mg ki 1 "_law_pull" zEe YR)(DR:ZB P w K mg ki 2 "_law_leaf_rows" zEh Yd)(DK:ZB P w K mg ki 2 "_law_picked" zEi Ya)(DL:ZB P w K mg ki 2 "_law_label" zEb (Yb gt))(DS:ZB P w K mg ki 2 "_law_shared" zEk (Y0 gt)):
  ZJ P w K mg ki Ze 72 f fd zEf (Xj gt jh ji T):=by
 refine F.okC hf Y Vr (λvs H Q E h=>(by obtain⟨_,_,_,_,rfl,_⟩:=h;rfl)) (λA I s H vs Q E hr h=>?_)
 obtain⟨p,st,a,m,rfl,W,a8,u,O,l0,J,k⟩:=h;obtain⟨tT,hT,qT⟩:=Bp (Hs:=H) (outer:=I) (E:=E) CC a1 X L X0 X1 X5 F5 DM DQ DD a0 DP DR DK DL hr;have D:=Vr.nd;have a6:=hr.mono (show 1<=71 by lia)
 have a7:=hr.mono (show 2<=71 by lia)
 refine⟨_,ZQ (PQ (pv 1) (P3 rfl (XY (Q1 (i:=2) D rfl (Or.inr rfl)) (XY (Q1 (i:=3) D rfl (Or.inr rfl)) (XY (Q1 (i:=4) D rfl (Or.inr rfl)) (XY (Yk 5 D) (XY (Yk 6 D) Pv)))))))
  (ZQ (MX (i:=7) [3,4] ["_law_twigs","_law_holds"] D rfl rfl rfl (Wq (Zq (PR rfl) rfl X.sorted Q7 (ZY (pv 3)))) (λ_ _ _ _ _=>Mo (Uj (OS (Zr DS a7 (Ut (pv 1) (Zf (pv 2) (pv 0))))))) (λ_ _ _ _ _=>pv 0) ⟨rfl,.inl rfl,rfl,rfl,.inl rfl,rfl,trivial⟩)
  (ZQ (Zy (PW.pt (VZ (Yh VT (Zr DP a6 (Zf (pv 0) ZN)) ZN (YE _)) (Up (Yh (Nv hr.units0) (pv 7) (XF Zt) (YE _))))) (ZX (Zs 7 D (Zq (PR rfl) rfl X.sorted Q7 (ZY (pv 3))))) Z2) hT)),?_⟩
 obtain⟨c4,a5⟩:=W.some;obtain⟨c2,ls,U,c1⟩:=u.sh;obtain⟨y,n⟩:=u.lw;obtain⟨a9,a2,hH⟩:=u.hd;obtain⟨gs,G⟩:=u.gr;have bp:∀ i:Nat,i∈m.lv->a.bs.getD i 0≠p:=λi hi=>(O.tw i hi).2.2;have v:=u.l64;have g:∀ c,H c=none->c≠p:=λc e=>(Zb a5 e).symm;have eL:(m.lv.map λi:Nat=>(i:Int)).map V.int=iN m.lv:=by rw[zF];rfl
 exists _,rfl,st,_,rfl,Zh.of a8,rfl,_,_,rfl,_,_,rfl,_,_,rfl,_,_,rfl,_,_,rfl,rfl;exists _,rfl,a.dT,y,m.lv.map λi:Nat=>(i:Int),rfl,n.dict,(by rw[n.keys,zF];rfl),Uz n.vl.up,by simpa using v
 intro q nq;rw[eL];obtain⟨H1,eU,g1,hq⟩:=Xa nq (.lst (iN m.lv));rw[eU];refine⟨q,rfl,⟨_,ZG.of hq⟩,Aa m.lv ∅ (λi B t hi=>⟨_,.int (m.lv[i]:Nat),ZG.of (t _ _ hq),by simp[iN,zV hi]⟩) (λi B x H4 t hi hy=>⟨hy.1,hy.2 _ (ZG.of (t _ _ hq))⟩) (λB t=>⟨_,ZG.of (t _ _ hq),by simp[iN]⟩) (λH2 j R hj s2 hR=>?_) (λD5 H2 l s2 c0 e5 a4 c3=>?_)⟩
 ·refine⟨_,rfl,_,rfl,_,rfl,a.dT,a.dH,j,m.ts,m.lv,y,a9,m.ho,rfl,(n.same (g1.trans s2)).lawT u.wf G.len G.up,v,hj,(g1.trans s2) _ _ a2,hH,λB o t _=>⟨_,rfl,hR _ B t⟩⟩
 have Z:=g1.trans s2;have n5:H D5=none:=ZA.free g1 c0;refine⟨_,rfl,p,4,rfl,W.same Z,Vq (by decide) (by decide),λr B r0 r1 W3 t=>⟨rfl,_,rfl,?_⟩⟩
 have x3:ZI p H B:=(ZI.of Z).trans t;have M:=t _ _ e5 (g _ n5);refine Wu (λc=>Z1 ?_) (λc=>?_)
 ·exists _,rfl,a.dT,y,m.lv.map λi:Nat=>(i:Int),rfl,(n.sx W bp x3).dict,(by rw[n.keys,zF];rfl),Uz n.vl.up,by simpa using v
  intro q2 d;rw[eL];have S:=Zg d (.lst (iN m.lv));refine qT H _ Q p st q2 a m m.lv W u O J (x3.trans (ZI.of S)) (W3.same S) (λz=>?_) ZR l0 ∅ (λb hb=>hb) k
  obtain⟨xs,e'⟩:=W3.some;rw[z,e'] at d;cases d
 ·exists _,rfl,Z7;intro e0 a3;have g0:=Zg a3 (.lst []);exists D5,e0,iN l,rfl,rfl,ZG.of (g0 _ _ M),ZG.of ZR,_,rfl;have N:=g0 _ _ M;have W4:=W3.same g0;have x4:=x3.trans (ZI.of g0);generalize upd B e0 (.lst [])=H4 at N W4 x4⊢
  cases l with
  | nil=>
   refine Z1 ⟨_,rfl,a.dT,y,m.lv.map λi:Nat=>(i:Int),rfl,(n.sx W bp x4).dict,(by rw[n.keys,zF];rfl),Uz n.vl.up,by simpa using v,λq2 d=>?_⟩
   rw[eL];have S:=Zg d (.lst (iN m.lv));refine qT H _ Q p st q2 a m m.lv W u O J (x4.trans (ZI.of S)) (W4.same S) (λz=>?_) ZR l0 ∅ (λb hb=>hb) k
   obtain⟨xs,e'⟩:=W4.some;rw[z,e'] at d;cases d
  | cons j l=>
   refine Zk ?_;exact qT H _ Q p st D5 a m (j::l) W u O J x4 W4 (g _ n5) N (by simp) ∅ a4 k
def ER{K:zZ}:yV K (.type "list") (.type "list")=some true:=by kernel_rfl
def FK{gt:jr}{a:js}{b:jq}{ho:Nat->Nat}(k:WF gt a)(f:Lv a b):∀(n j:Nat),j∈b->VW a (gd a j).h<n->∃ o,Sh a b ho j o
 | 0,j,l,h=>absurd h (Nat.not_lt_zero _)
 | n+1,j,l,h=>by
  by_cases c:(YT a b j).length+ho j=1
  ·cases e:YT a b j with
   | nil=>exact⟨none,.top c e⟩
   | cons i r=>
    have d:=OV k f (i:=j) (j:=i) (by rw[e];exact zM)
    have m:=f.lt i d.2;obtain⟨o,g⟩:=FK k f n i d.2 (by have:=Mi m d.1;lia)
    exact⟨o,.up c e g⟩
  ·exact⟨some j,.here c⟩
def OP(t:ZP):jr:=if t.h=0 then Ys t.rows else t.bs.map λb:Nat=>KT.int (b:Nat)
def LJ{H:Hp}:∀(l:jq),jX H (l.map λb:Nat=>KT.int (b:Nat)) (iN l)
 | []=>.nil
 | b::l=>.cons (.int _) (LJ l)
def FP{H:Hp}{t:ZP}{a:jf}(b:t.h=0->jX H (Ys t.rows) a)(d:t.h≠0->a=iN t.bs):jX H (OP t) a:=by
 unfold OP;by_cases c:t.h=0
 ·rw[aQ c];exact b c
 ·rw[aP c,d c];exact LJ _
def Fm(l:jq)(h:l.length<=100):(KT.tup (l.map λb:Nat=>KT.int (b:Nat))).wide 5=true:=by
 rw[KT.wide,NQ];have:(l.map λb:Nat=>KT.int (b:Nat)).all (·.wide (5-1))=true:=by
  rw[xT];exact zO.mpr λ_ _=>by simp[KT.wide]
 rw[this,zX,aO h];rfl
def ZNo{gt:jr}{f:js}{i:Nat}{t:ZP}(a:Z5 gt f i t):(KT.tup (OP t)).wide 5=true:=by
 unfold OP;by_cases c:t.h=0
 ·rw[aQ c];have g:=(a.leaf c).2;rw[KT.wide,NQ];have:(Ys t.rows).all (·.wide (5-1))=true:=by
   unfold Ys;rw[xT];refine zO.mpr λr e=>?_;obtain⟨b,d⟩:=(a.inn r e).2;show (KT.tup [r.1,r.2]).wide 4=true;rw[KT.wide,NQ];simp[MF _ 3 b,MF _ 3 d]
  rw[this,show (Ys t.rows).length=t.rows.length from zX _,aO (show t.rows.length<=100 by lia)]
  rfl
 ·rw[aP c];have:=(a.stem c).2.1;exact Fm _ ∅
def ZMR{L:YZ}(h:L.fit):L.kt.wide 5=true:=by
 unfold YZ.kt;have a:=MF _ 4 (Kq _ 3 4 h.1 (vB (Pa _ 3 h.1)));have b:=MF _ 4 (Kq _ 3 4 h.2 (vB (Pa _ 3 h.2)));rw[KT.wide,NQ];simp[KT.wide,a,b]
inductive X7(gt:jr)(jh ji:aj)(e:jf)(H:Hp)(Q:VK)(_:XK):Prop
 |mk(a:Pl)(m:Md)(_:e=[.ref a.S,.ref a.dT,.ref a.dH])(_:LS gt jh ji H a m)(_:∀(b:Hp)(d:Pl),(∀ c o,H c=some o->Zo a m c->Zo d m c/\b c=some o)->(∀ T q,ZU H T q->ZU b T q)->LS gt jh ji b d m->WG d=WG a->Q (.bl true) b)
abbrev ZOt:ju:=["_law_shelf","_law_twigs","_law_holds","_law_numbers","_law_number","_law_kind","_law_what","_law_seen","_law_found"]
def UX:ZC ZOt zEq (Zc JL):=Z9
def ZKn{gt:jr}(F:Zp K "_law_exact" "_law_exact" JL f fd)(T:YX mg)(L:Yo K mg jh ji)(DN:ZH P w K mg ki Ze 1 jh "numbers" zEo (Xn jh))(DY:ZH P w K mg ki Ze 1 jh "many" zEo (UP jh))(n7:ZH P w K mg ki Ze 2 jh "look" zEa (Qh jh ji))(n6:ZH P w K mg ki Ze 2 jh "label" zEa (VN jh ji λtg _ _=>tg))(n8:ZH P w K mg ki Ze 2 jh "outside" zEa (VN jh ji λ_ ho _=>.int ho))(n0:ZH P w K mg ki Ze 2 jh "holders" zEa (VN jh ji λ_ ho us=>.int ((us.length:Nat)+(ho:Nat):Int)))(m8:ZH P w K mg ki Ze 4 jh "alone" zEa (VQ gt jh ji))(m9:ZH P w K mg ki Ze 1 jh "forget" zEo (WR jh ji))(c1:ZB P w K mg ki 7 "_law_alike" zEc (YH 6))(c2:ZB P w K mg ki 1 "_law_count" zEc VD)(n5:ZB P w K mg ki 2 "_law_label" zEb (Yb gt))(m7:ZB P w K mg ki 1 "_law_above" zEb (XR gt))(n9:ZB P w K mg ki 2 "_law_shared" zEk (Y0 gt)):
  ZJ P w K mg ki Ze 8 f fd zEq (X7 gt jh ji):=by
 refine F.ko UX λt4 A r2 s H vs Q E hr h=>?_;obtain⟨a,m,rfl,y,k⟩:=h;have nd:=UX.nd;have hu:=VJ hr;have M:=hr.mono (show 1<=7 by lia)
 have Y:=hr.mono (show 2<=7 by lia)
 have p3:=hr.mono (show 4<=7 by lia)
 intro Xc;refine⟨_,ZQ (Zs 3 nd (LP (E:=E0) (pv 0) L.cS DN M XA))
  (ZQ (Zy (PW.pt (VZ (XT (Yf (Zq XW rfl T.isi Yw (Zf (pv 3) (XQ (v:=.ty "list") rfl T.list Qr rfl))))) (Up (XT (Yf (Zr c1 hr (Zf (Vb NO rfl T.tuple Qs (ZY (pv 3))) (Vb NO rfl T.tuple Qs (ZY (Zq (PR rfl) rfl T.sorted Q7 (ZY (pv 1)))))))))))) WV Z2)
  (ZQ (Zy (XT (Yf (Zr c2 M (Zf (LP (E:=E0) (pv 0) L.cS DY M XA) (Zq IQ rfl T.len Xf (ZY (pv 1))))))) WV Z2)
  (ZQ (Wo PassesOwn.never rfl (Wq (pv 3)) (Yk 4 nd)
   (ZQ (PQ (VX hu (pv 1) (pv 4)) (P3 rfl (XY (Yk 5 nd) (XY (Yk 6 nd) Pv))))
   (ZQ (Zs 7 nd (XH (E:=E0) (pv 0) L.cS n7 Y XA (ZY (pv 4))))
   (ZQ (Zy (PW.pt (VZ (XT (Yf (Zq XW rfl T.isi Yw (Zf (pv 7) (XQ (v:=.ty "tuple") rfl T.tuple Qs rfl))))) (VZ (Yh PZ (Zq WA rfl T.len Xf (ZY (pv 7))) ZN (YE _)) (VZ (Yh PZ (Zm K (pv 7) ZN) (pv 5) (YE _))
    (Up (XT (Yf (Zq XW rfl T.isi Yw (Zf (Zm K (pv 7) ZN) (XQ (v:=.ty "list") rfl T.list Qr rfl)))))))))) WV Z2)
   (ZQ (Zy (XT (Yf (Zr c1 hr (Zf (Vb NO rfl T.tuple Qs (ZY (Zm K (pv 7) ZN))) (Vb NO rfl T.tuple Qs (ZY (pv 6))))))) WV Z2)
   (ZQ (Zy (XT (Yf (Zr c1 hr (Zf (XH (E:=E0) (pv 0) L.cS n6 Y XA (ZY (pv 4))) (Zr n5 Y (Zf (pv 1) (pv 4))))))) WV Z2)
   (ZQ (Wz (Mb yH uB uA Mg (Zm K (pv 7) ZN)))
   (ZQ (Zy (XT (Yf (Zr c2 M (Zf (XH (E:=E0) (pv 0) L.cS n8 Y XA (ZY (pv 4))) (VX hu (pv 2) (pv 4)))))) WV Z2)
   (ZQ (Zy (XT (Yf (Zr c2 M (Zf (XH (E:=E0) (pv 0) L.cS n0 Y XA (ZY (pv 4))) (Z0 WZ (VX hu (pv 2) (pv 4)) (Zq WA rfl T.len Xf (ZY (Zr m7 M (Zf (pv 1) (pv 4)))))))))) WV Z2)
   (ZQ (Zs 8 nd (XH (E:=E0) (pv 0) L.cS m8 p3 XA (ZY (pv 4))))
   (ZX (Zy (PW.pt (VZ (XT (Yf (Zq XW rfl T.isi Yw (Zf (pv 8) (XQ (v:=.ty "bool") rfl T.bool P7 rfl))))) (Up (Yh PZ (pv 8) (Gb (OS (Zr n9 Y (Ut (pv 1) (Zf (pv 2) (pv 4)))))) (YE _))))) WV Z2))))))))))))
  (ZQ (Wz (Mb yH uB uA Mg (pv 3)))
  (ZQ (Wz (LP (E:=E0) (pv 0) L.cS m9 M XA))
  (ZX (Zn (V1 VT (Zq WA rfl T.len Xf (ZY (LP (E:=E0) (pv 0) L.cS DN M XA))) (Zq IQ rfl T.len Xf (ZY (pv 1))) (YE _))))))))),?_⟩
 obtain⟨l,ls,U,r9⟩:=y.sh;obtain⟨r,Lw⟩:=y.lw;obtain⟨c8,p1,hH⟩:=y.hd;obtain⟨gs,G⟩:=y.gr;have a1:=y.l64;have eI:(m.lv.map λi:Nat=>(i:Int)).map V.int=iN m.lv:=by rw[zF];rfl
 have wN:=Fm m.lv ∅
 have p6:l.length=m.lv.length:=Jq U.sh;have p7:r.length=m.lv.length:=by have:=congrArg yA Lw.keys;simpa using this
 exists _,rfl,a.S,_,_,rfl,U.sh.sh.self.choose_spec,rfl,a.S,a.d,a.lk,m.ts.length,l,ls,m.lv.map (λi:Nat=>(i:Int)),rfl,U.sh.sh,(by rw[U.sh.keys,zF];rfl),Uz Lw.vl.up,by simpa using a1
 intro q nq;rw[eI];obtain⟨H1,eU,g1,hq⟩:=Xa nq (.lst (iN m.lv));rw[eU];refine⟨_,rfl,_,_,_,_,rfl,.lst hq,ER,_,rfl,Zk ?_⟩;refine⟨_,rfl,q,_,rfl,.inl ⟨ZG.of hq,λt1 r0=>?_⟩⟩;have ga:=Zg r0 (.tup (iN m.lv));exists _,rfl,a.dT,r,m.lv.map (λi:Nat=>(i:Int)),rfl,(g1.trans ga) _ _ Lw.dict,(by rw[Lw.keys,zF];rfl),Uz Lw.vl.up,by simpa using a1
 intro q2 p8;rw[eI];have gb:=Zg p8 (.lst (iN m.lv));refine⟨q2,_,rfl,.inl ⟨ZG.of ZR,λt2 r1=>?_⟩⟩;have gc:=Zg r1 (.tup (iN m.lv));refine⟨.ref t1,.ref t2,.tup (m.lv.map λb:Nat=>KT.int (b:Nat)),5,rfl,.tup ((gb.trans gc) _ _ ZR) (LJ _),.tup ZR (LJ _),wN,by decide,λH2 s2=>⟨_,rfl,Zk ?_⟩⟩
 have a3:=((ga.trans gb).trans gc).trans s2;have a5:=g1.trans a3;have l2:=a3 _ _ hq;clear s2;have U2:=U.frame (U.sh.same a5);exists _,rfl,a.S,_,_,rfl,U2.sh.sh.self.choose_spec,rfl,a.S,a.d,a.lk,m.ts.length,l,ls,rfl,U2.sh.sh;refine⟨_,rfl,a.dT,r,rfl,a5 _ _ Lw.dict,(l.length:Int),by rw[p6,p7];rfl,λH3 s3=>⟨_,rfl,Zk ?_⟩⟩
 have a6:=a5.trans s3;have c6:=s3 _ _ l2;have U3:=U.frame (U.sh.same a6);have c3:=Lw.same a6;have i7:=a6 _ _ p1;have W:=U3.sh.sh.looks;have e7:q≠a.lk:=(Zb U.sh.sh.looks nq).symm;clear s3 l2 U2 a3 a5;refine⟨_,rfl,q,rfl,⟨_,ZG.of c6⟩,PM (K:=K) (a:=q) (xs:=iN m.lv) (λi σ H'=>∃(x4 x5 x6 x7 x8:jg)(l9:jf),σ=[some (.ref a.S),some (.ref a.dT),some (.ref a.dH),some (.ref q),x4,x5,x6,x7,x8]/\(∀ c o,c≠a.lk->H3 c=some o->H' c=some o)/\H' a.lk=some (.lst l9)/\l9.length<=100+i)
  ⟨_,_,_,_,_,ls,rfl,λc o _ e=>e,W,∅⟩ (λi σ H' _ hP=>?_) ?_ ?_⟩
 ·obtain⟨_,_,_,_,_,_,_,k',_⟩:=hP;exact ZG.of (k' _ _ e7 c6)
 ·rintro i u σ R c7 ⟨x4,x5,x6,x7,x8,p,rfl,z,C,l4⟩;unfold iN at c7;rw[zN] at c7;obtain⟨j,ej,rfl⟩:=yB.mp c7;have D:j∈m.lv:=zB ej;have ii:i<m.lv.length:=(yN.mp ej).1;have J:Va gt jh ji R a.S a.d a.lk m.ts m.lv m.av m.ho a.as l p:=⟨Mr U3.sh z C,U3.wf,U3.vl,U3.av,U3.live,U3.l800⟩;have r7:YO H3 R:=λb ys e=>z b _ (ZD e W) e;have I:Xx R a.dT m.ts m.lv a.bs r:=c3.frame r7 (z _ _ (ZD c3.dict W) c3.dict) λb hb o e=>z _ _ (y.t3 b hb).2.1 e;have i8:R a.dH=some (.dK c8):=z _ _ (ZD i7 W) i7;obtain⟨tp,us,e1,e2,e3,e4,e5⟩:=I.tw j D;have m3:=U.wf j _ (Vg (U.vl.lt j D));have p2:Zx R a.dT (.int (j:Nat)) (some (.ref tp)):=e1 ▸ Zx.k (k:=Sum.inl (j:Int)) I.dict;exists _,rfl,_,rfl,a.dT,.ref tp,rfl,p2,tp,_,rfl,Zh.of e2,rfl,_,_,rfl,_,_,rfl,rfl;have W4:=J.sh.tw j D;obtain⟨vs,w1,w2,w3⟩:=W4.things;obtain⟨ta,vlo,t9,o9,p5,t8,t7⟩:=W4.tag;cases o9;obtain⟨o1,o2,o3,o4⟩:=J.sh.own j D;exists _,rfl,a.S,_,_,rfl,J.sh.sh.self.choose_spec,rfl,_,rfl,a.S,a.d,a.lk,m.ts.length,l,p,(j:Int),_,_,_,_,_,_,vs,_,_,rfl,⟨J.sh.sh,J.sh.val j D,W4.tw⟩,w1,p5,Ne.symm o3,Ne.symm o2,by lia
  intro H5 l' t B a2 m0 c5 O;have eK:(if (YY (gd m.ts j)).h > 0 then ("stem" : Str) else "leaf")=kindOf (gd m.ts j):=by
   unfold kindOf;show (if (((gd m.ts j).h:Nat):Int) > 0 then ("stem" : Str) else "leaf")=_
   by_cases c:(gd m.ts j).h=0
   ·rw[aQ c,aP ∅]
   ·rw[aP c,aQ ∅]
  rw[eK] at O;refine⟨_,rfl,_,_,_,_,rfl,.tup O,Le,_,rfl,Zk ?_⟩;refine⟨_,rfl,t,_,rfl,.inr (Zh.of O),rfl,_,rfl,NP rfl ?_⟩;refine⟨_,rfl,.inr (.inl ⟨t,_,0,_,rfl,rfl,Zh.of O,rfl,_,rfl,rfl,_,rfl,NP rfl ?_⟩)⟩;refine⟨_,rfl,.inr (.inl ⟨t,_,1,_,rfl,rfl,Zh.of O,rfl,_,_,_,_,rfl,.lst c5,ER,_,rfl,Zk ?_⟩)⟩;have e9:YO R H5:=λb ys e=>B b _ (ZD e C) e;refine⟨_,rfl,.inr (.inl ⟨t,_,1,_,rfl,rfl,Zh.of O,rfl,l',vs,rfl,.inl ⟨ZG.of c5,λr5 m1=>?_⟩⟩)⟩;have i3:=Zg m1 (.tup vs);have o5:Xx H5 a.dT m.ts m.lv a.bs r:=I.frame e9 (B _ _ (ZD I.dict C) I.dict) λb hb o e=>B _ _ (y.t3 b hb).2.1 e;have o8:=B _ _ (y.t3 j D).2.1 e3;refine⟨_,rfl,a.b j,us,rfl,.inl ⟨ZG.of (i3 _ _ o8),λr6 m2=>?_⟩⟩;have i4:=Zg m2 (.tup us);have c4:=i3.trans i4;have kV:jX R (OP (gd m.ts j)) vs:=FP w2 w3;have kU:jX R (OP (gd m.ts j)) us:=FP e4 e5;refine⟨.ref r5,.ref r6,.tup (OP (gd m.ts j)),5,rfl,.tup (i4 _ _ ZR) ((kV.mono e9 _ _).sm c4),.tup ZR ((kU.mono e9 _ _).sm c4),ZNo m3,by decide,λH6 s6=>⟨_,rfl,Zk ?_⟩⟩
  have e8:=c4.trans s6;have U5:Va gt jh ji H5 a.S a.d a.lk m.ts m.lv m.av m.ho a.as l (p++[.int (j:Nat)]):=⟨Mr J.sh B a2,J.wf,J.vl,J.av,J.live,J.l800⟩;have U6:=U5.frame (U5.sh.same e8);have W6:=U6.sh.tw j D;exists _,rfl,a.S,_,_,rfl,U6.sh.sh.self.choose_spec,rfl,_,rfl,a.S,a.d,a.lk,m.ts.length,l,_,(j:Int),_,_,_,_,_,_,rfl,⟨U6.sh.sh,U6.sh.val j D,W6.tw⟩;have o6:=o5.same e8;have o0:Y8 gt H6 a.dT m.ts m.lv r:=o6.lawT U.wf G.len G.up;exists _,rfl,_,rfl,a.dT,j,m.ts,m.lv,r,rfl,o0.g,D;intro H7 v7 s7 l8;refine⟨_,v7,(YY (gd m.ts j)).kt,5,rfl,(W6.tag.mono (ZA.tups s7)).key,l8.key,ZMR (IH m3),by decide,λH8 s8=>⟨_,rfl,Zk ?_⟩⟩
  have a8:=(e8.trans s7).trans s8;have p4:=a8 _ _ O;have l1:=a8 _ _ c5;refine⟨_,rfl,.inr (.inl ⟨t,_,1,_,rfl,rfl,Zh.of p4,rfl,.inl ⟨rfl,_,ZG.of l1⟩,l',vs,rfl,rfl,l1,?_⟩)⟩;have N:∀ c o,c≠a.lk->R c=some o->upd H8 l' (.lst []) c=some o:=λc o n e=>by rw[ZO (Zb e m0)];exact a8 _ _ (B _ _ n e)
  have e6:upd H8 l' (.lst []) a.lk=some (.lst (p++[.int (j:Nat)])):=by rw[ZO (Zb C m0)];exact a8 _ _ a2
  generalize upd H8 l' (.lst [])=H9 at N e6⊢;have r8:YO R H9:=λb ys e=>N b _ (ZD e C) e;have U9:Va gt jh ji H9 a.S a.d a.lk m.ts m.lv m.av m.ho a.as l (p++[.int (j:Nat)]):=⟨Mr J.sh N e6,J.wf,J.vl,J.av,J.live,J.l800⟩;have i1:Xx H9 a.dT m.ts m.lv a.bs r:=I.frame r8 (N _ _ (ZD I.dict C) I.dict) λb hb o e=>N _ _ (y.t3 b hb).2.1 e;have i9:H9 a.dH=some (.dK c8):=N _ _ (ZD i8 C) i8;have W9:=U9.sh.tw j D;have l0:∀ H',ZA H9 H'->Zx H' a.dH (.int (j:Nat)) (some (.int (m.ho j:Nat))):=λH' s'=>hH.2 j D ▸ Zx.k (k:=Sum.inl (j:Int)) (s' _ _ i9);exists _,rfl,a.S,_,_,rfl,U9.sh.sh.self.choose_spec,rfl,_,rfl,a.S,a.d,a.lk,m.ts.length,l,_,(j:Int),_,_,_,_,_,_,rfl,⟨U9.sh.sh,U9.sh.val j D,W9.tw⟩;refine⟨_,rfl,_,rfl,a.dH,.int (m.ho j:Nat),rfl,l0 _ (ZA.refl _),(m.ho j:Nat),rfl,λs1 a7=>⟨_,rfl,Zk ?_⟩⟩;have a4:=U9.frame (U9.sh.same a7);have o7:=a4.sh.tw j D;exists _,rfl,a.S,_,_,rfl,a4.sh.sh.self.choose_spec,rfl,_,rfl,a.S,a.d,a.lk,m.ts.length,l,_,(j:Int),_,_,_,_,_,_,rfl,⟨a4.sh.sh,a4.sh.val j D,o7.tw⟩;exists _,rfl,_,rfl,a.dH,.int (m.ho j:Nat),rfl,l0 _ a7,_,rfl,_,rfl,a.dT,j,m.ts,m.lv,r,rfl,(i1.same a7).lawT U.wf G.len G.up,a1;intro s4 m6 r3 s0 i5;refine⟨m6,_,rfl,.inl (ZG.of i5),_,_,rfl,rfl,((iN (m.av j)).length:Nat)+(m.ho j:Nat),?_,λs5 a3=>⟨_,rfl,Zk ?_⟩⟩
  ·rw[U.av j D];show [V.int _,V.int _]++[]=_;rw[Int.add_comm (m.ho j:Int)];rfl
  have m5:=(a7.trans r3).trans a3;have i2:=U9.frame (U9.sh.same m5);obtain⟨o,l5⟩:=FK (ho:=m.ho) U.wf U.vl _ j D (xV _);exists _,rfl,a.S,_,_,rfl,i2.sh.sh.self.choose_spec,rfl,_,rfl,a.S,a.d,a.lk,m.ts,m.lv,m.av,m.ho,a.as,l,_,j,o,rfl,i2,D,l5;intro s9 r4;have a9:=m5.trans r4;refine⟨_,rfl,_,_,_,_,rfl,.bl _,Kk,_,rfl,Zk ?_⟩;exists _,rfl,_,rfl,_,rfl,_,rfl,a.dT,a.dH,j,m.ts,m.lv,r,c8,m.ho,rfl,(i1.same a9).lawT U.wf G.len G.up,a1,D,a9 _ _ i9,hH;intro t0 o' m4 l6;cases l5.uniq l6;have eo:V.bl o.isNone=V.bl (decide (oV o=V.non)):=by
   cases o with
   | none=>rfl
   | some k=>rfl
  refine⟨rfl,_,rfl,NP eo ?_⟩;refine⟨_,_,_,_,_,p++[.int (j:Nat)],rfl,λc o' n e=>(a9.trans m4) _ _ (N _ _ n (z _ _ n e)),(a9.trans m4) _ _ e6,by rw[yS,xH];lia⟩
 ·rintro σ R ⟨x4,x5,x6,x7,x8,p,rfl,z,C,l4⟩;have l3:=z _ _ e7 c6;exists _,rfl,.inl ⟨rfl,_,ZG.of l3⟩,q,_,rfl,rfl,l3;have B:∀ c o,c≠a.lk->c≠q->H3 c=some o->upd R q (.lst []) c=some o:=λc o n1 n2 e=>by rw[ZO n2];exact z _ _ n1 e
  have a2:upd R q (.lst []) a.lk=some (.lst p):=by rw[ZO (Ne.symm e7)];exact C
  generalize upd R q (.lst [])=H5 at B a2⊢;have x:∀ c o,c≠a.lk->H c=some o->H5 c=some o:=λc o n e=>B _ _ n (Zb e nq) (a6 _ _ e);have U5:Va gt jh ji H5 a.S a.d a.lk m.ts m.lv m.av m.ho a.as l p:=⟨Mr U.sh x a2,U.wf,U.vl,U.av,U.live,U.l800⟩;exists _,rfl,a.S,_,_,rfl,U5.sh.sh.self.choose_spec,rfl,a.S,a.d,a.lk,m.ts,m.lv,m.av,m.ho,a.as,l,p,rfl,U5.sh;intro H6 e0 X p0 R6;exists _,rfl,a.S,_,_,rfl,R6.sh.self.choose_spec,rfl,a.S,a.d,e0,m.ts.length,l,[],m.lv.map (λi:Nat=>(i:Int)),rfl,R6.sh,(by rw[U.sh.keys,zF];rfl),Uz Lw.vl.up,by simpa using a1
  intro q7 p9;rw[eI];have g7:=Zg p9 (.lst (iN m.lv));have a0:∀ c o,c≠a.lk->c≠a.S->H c=some o->upd H6 q7 (.lst (iN m.lv)) c=some o:=λc o n1 n2 e=>g7 _ _ (p0 _ _ n2 (x _ _ n1 e));have U7:Va gt jh ji (upd H6 q7 (.lst (iN m.lv))) a.S a.d e0 m.ts m.lv m.av m.ho a.as l []:=⟨R6.same g7,U.wf,U.vl,U.av,U.live,U.l800⟩;exists q7,_,rfl,.inl (ZG.of ZR);generalize upd H6 q7 (.lst (iN m.lv))=H7 at a0 U7⊢;have Z:=y.lo (H':=H7) λc o n1 n2 n3 n4 e=>a0 c o n3 n1 e;obtain⟨c9,i0⟩:=Z.lw;have l7:c9.length=m.lv.length:=by have:=congrArg yA i0.keys;simpa using this
  exists _,rfl,a.dT,c9,rfl,i0.dict,rfl;have ed:decide (V.int ((iN m.lv).length:Nat)=V.int (c9.length:Nat))=true:=aO (by rw[l7];simp[iN])
  rw[ed];obtain⟨⟨t5,i6⟩,t6,c0⟩:=U.sh.sh;refine k H7 { a with lk:=e0 } (λc o e v=>?_) (λT' q' tb=>?_) ⟨⟨l,[],U7,by simp⟩,Z.lw,Z.hd,Z.gr,Z.told,y.dd,?_,y.t2,λi hi=>?_,y.l64,y.l700⟩ rfl
  ·obtain⟨v1,v2,v3,v4,v5,v6,v7⟩:=v;exact⟨⟨v1,v2,Zb (x _ _ v3 e) X,v4,v5,v6,v7⟩,a0 _ _ v3 v1 e⟩
  ·exact ZU.ext (T:=T') (q:=q') tb ⟨λb φ e=>a0 _ _ (ZD e c0) (ZD e i6) e,λb φ e=>a0 _ _ (ZD e c0) (ZD e i6) e⟩
  ·exact⟨Zb (x _ _ y.tt.1 y.told) X,y.tt.2.1,(Zb (x _ _ y.tt.2.2.symm G.at_) X).symm⟩
  ·obtain⟨t1,t2,t3⟩:=y.t3 i hi;obtain⟨tp,us,_,_,e,_⟩:=Lw.tw i hi;exact⟨t1,Zb (x _ _ t2 e) X,t3⟩
section
variable{gt:jr}{jh ji:aj}{H H':Hp}{a:Pl}{m m':Md}
def LS.kd(h:LS gt jh ji H a m){c:aj}{o:HO}(e:H c=some o)(k:∀ C g l,o≠.ins C g l)(b:∀ f,o≠.dK f)(d:∀ f,o≠.lst f):Zo a m c:=by
 obtain⟨u,w,R⟩:=h.shp;obtain⟨Yy,L⟩:=h.lw;obtain⟨s,p,_⟩:=h.hd;obtain⟨⟨v,n⟩,q,r⟩:=R.sh;exists ZD e n (k _ _ _),ZD e q (b _),ZD e r (d _),ZD e L.dict (b _),ZD e p (b _),ZD e h.told (d _);intro i j;obtain⟨g,t⟩:=(R.tw i j).tw.self;exact⟨ZD e t (k _ _ _),ZD e (R.tw i j).tw.above (d _)⟩
def LS.tabs(h:LS gt jh ji H a m){p T:aj}{q:Str}{i:jf}(g:H p=some (.lst i))(d:ZU H T q)(f:∀ c o,H c=some o->Zo a m c->c≠p->H' c=some o):ZU H' T q:=
 ZU.ext d ⟨λb j e=>f _ _ e (h.kd e (by intro _ _ _ z;cases z) (by intro _ z;cases z) (by intro _ z;cases z)) (ZD e g),λb j e=>f _ _ e (h.kd e (by intro _ _ _ z;cases z) (by intro _ z;cases z) (by intro _ z;cases z)) (ZD e g)⟩
end
inductive VG(b c:aj)(K:zZ)(f:jf)(H:Hp)(Q:VK)(_:XK):Prop
 |mk(a:aj)(d:jC)(_:f=[.ref a])(_:ZG K H a (d.map V.int))(_:d.length<=63)(_:H b=some (.tbl #[]))(_:H c=some (.tbl #[]))(_:b≠c)(_:∀ e,Q (.bl true) e)
def DX{K:zZ}{H c:Hp}{a:aj}{d:jf}(m:∀ b o,H b=some o->(∀ e,o≠.tbl e)->c b=some o)(h:ZG K H a d):ZG K c a d:=by
 rcases h with (h | ⟨o,h⟩) | h
 ·exact .inl (.inl (m _ _ h (by intro _ z;cases z)))
 ·exact .inl (.inr ⟨o,m _ _ h (by intro _ z;cases z)⟩)
 ·exact .inr h
def U4(a:jr->Sp):Sp:=λb H Q E=>∃ g,a g b H Q E
def MG{P:am}{w:aw}{K:zZ}{n:jc}{e:aD}{l:Ws}{k:Nat}{f:aj}{m:ao}{o:ju}{p:jr->Sp}(h:∀ g,ZJ P w K n e l k f m o (p g)):ZJ P w K n e l k f m o (U4 p):=
 ⟨λj H Q E ⟨g,x⟩=>(h g).len j H Q E x,λA i s H args q j Q E a b c d ⟨g,x⟩=>(h g).run A i s H args q j Q E a b c d x⟩
inductive Ud(jh ji T:aj)(e:jf)(H:Hp)(Q:VK)(_:XK):Prop
 |mk(p:aj)(_:e=[.ref p,.int 12,.int 8])(_:ZM H p)(_:ZU H T qS)(_:∀(b:Hp)(d:aj)(gt:jr)(a:Pl)(m:Md),(∀ c o,H c=some o->Zo a m c/\(c≠p->c≠T->b c=some o))->b d=some (.tup (WG a))->LS gt jh ji b a m->m.ts.length<=20->ZM b p->WK a m p->12<=m.lv.length->Q (.ref d) b)
abbrev ZOP:ju:=["_law_well_here","_law_leaves","_law_stems","_law_state","_law_j"]
def Uf:ZC ZOP zEr (Zc Kl):=Z9
def ZKf{T:aj}(F:Zp K "_law_begun" "_law_begun" Kl f fd)(X:YX mg)(L:Yo K mg jh ji)(DI:Uv P w K mg ki 1 jh zEo (QT jh))(DG:ZB P w K mg ki 2 "_law_grid" zE9 QC)(e7:ZB P w K mg ki 11 "_law_put_leaf" zEn (U4 λgt=>XL gt jh ji))(e8:ZB P w K mg ki 72 "_law_put_stem" zEf (U4 λgt=>XM gt jh ji T)):
  ZJ P w K mg ki Ze 73 f fd zEr (Ud jh ji T):=by
 refine F.ko Uf λl9 A l5 s H vs Q E hr h=>?_;obtain⟨p,rfl,W,e2,k⟩:=h;have nd:=Uf.nd;have c9:=hr.mono (show 2<=72 by lia)
 have c8:=hr.mono (show 11<=72 by lia)
 intro Xc;refine⟨_,ZQ (Zs 3 nd (Yi (GD (ZOK DI c9 rfl L.shelf) J0 J0 (Zr DG c9 (ZY (pv 0))) (XF Zt))))
  (ZQ (Wo PassesOwn.never rfl (Os rfl X.range (ZY (pv 1))) (Yk 4 nd) (ZX (Zy (XT (Yf (Zr e7 c8 (Ut (pv 0) (Zf (pv 3) (pv 4)))))) WV Z2)))
  (ZQ (Wo PassesOwn.never rfl (Os rfl X.range (ZY (pv 2))) (Yk 4 nd) (ZX (Zy (XT (Yf (Zr e8 hr (Zf (pv 0) (pv 3))))) WV Z2)))
  (ZX (Zn (pv 3))))),?_⟩
 obtain⟨m6,R⟩:=W.some;intro S e nS ne z1;have i1:∀ b o,H b=some o->upd (upd H e (.own S)) S (.ins jh e []) b=some o:=λb o q=>by
  rw[ZO (Zb q nS),ZO (Zb q ne)];exact q
 have f1:∀ b,upd (upd H e (.own S)) S (.ins jh e []) b=none->H b=none:=λb q=>by
  cases z:H b with
  | none=>rfl
  | some o=>rw[i1 b o z] at q;cases q
 refine⟨S,e,rfl,ZR,λH1 d lk i0 i9 a2 m0 R1=>⟨rfl,?_⟩⟩;have e0:ZA H H1:=λb o q=>i0 b o (Zb q nS) (i1 b o q);intro B a7;have g2:=Zg a7 (.dK []);intro r a6;have g3:=Zg a6 (.dK []);have a4:upd (upd H1 B (.dK [])) r (.dK []) B=some (.dK []):=g3 _ _ ZR;have a3:upd (upd H1 B (.dK [])) r (.dK []) r=some (.dK []):=ZR;have c0:=g2.trans g3;have e9:B≠r:=Zb ZR a6;have a1:H1 r=none:=g2.free a6;generalize upd (upd H1 B (.dK [])) r (.dK [])=H3 at a4 a3 c0⊢;have a9:=e0.trans c0;have R3:=R1.same c0;exists _,rfl,p,rfl,W.same a9;intro Z gs gt H4 s4 W4 a8 c6 c7 i5 i6 i8;exists Z7;intro u G;have g5:=Zg G (.lst []);exists Z7;intro J l0;have g6:=Zg l0 (.tup [.ref S,.ref B,.ref r,.ref Z,.ref u]);have c1:upd (upd H4 u (.lst [])) J (.tup [.ref S,.ref B,.ref r,.ref Z,.ref u]) u=some (.lst []):=g6 _ _ ZR;have a0:upd (upd H4 u (.lst [])) J (.tup [.ref S,.ref B,.ref r,.ref Z,.ref u]) J=some (.tup [.ref S,.ref B,.ref r,.ref Z,.ref u]):=ZR;have U:=g5.trans g6;generalize upd (upd H4 u (.lst [])) J (.tup [.ref S,.ref B,.ref r,.ref Z,.ref u])=H6 at c1 a0 U⊢;have O:=a9 _ _ R;have D:∀ c o,c≠p->H3 c=some o->H6 c=some o:=λc o n q=>U _ _ (s4 _ _ q n);obtain⟨⟨dS,c2⟩,c5,N⟩:=R3;have m1:H S=none:=nS;have a5:lk≠p:=(Zb R (f1 _ a2)).symm;have i2:Z≠p:=λz=>by rw[z,O] at a8;cases a8
 have e5:u≠p:=λz=>by
  obtain⟨xs,q⟩:=W4.some;rw[z,q] at G;cases G
 have n4:∀ c o,c≠p->H3 c=some o->H4 c=some o:=λc o n q=>s4 _ _ q n;have A0:LS gt jh ji H6 ⟨S,d,lk,B,r,Z,u,[],[]⟩ ⟨[],[],λ_=>[],λ_=>0⟩:=by
  have e6:Lv [] []:=⟨λi h=>(by cases h),λi h=>(by cases h),.nil⟩
  refine⟨⟨[],[],⟨⟨⟨⟨dS,D _ _ (ZD c2 O) c2⟩,D _ _ (ZD c5 O) c5,D _ _ a5 N⟩,rfl,λi g=>absurd g (by simp),λi g=>absurd g (by simp),rfl,λi g=>absurd g (by simp),λi g=>absurd g (by simp),λi j g=>absurd g (by simp)⟩,λi t q=>by simp at q,e6,λi g=>absurd g (by simp),λi g=>absurd g (by simp),by simp⟩,by simp⟩,
   ⟨[],D _ _ (ZD a4 O) a4,e6,rfl,rfl,λi g=>absurd g (by simp)⟩,⟨[],D _ _ (ZD a3 O) a3,rfl,λi g=>absurd g (by simp)⟩,⟨gs,U _ _ c6,c7.sm U,i5,by rw[c7.length,i6],i8⟩,c1,?_,?_,λi g=>absurd g (by simp),λi g=>absurd g (by simp),by simp,by simp⟩
  ·obtain⟨_,c4,_⟩:=id R1;exact⟨(Zb c4 a7).symm,(Zb c4 a1).symm,e9⟩
  ·exact⟨(Zb (n4 _ _ a5 N) G).symm,(Zb c6 G).symm,Zb N a8⟩
 have O0:WK ⟨S,d,lk,B,r,Z,u,[],[]⟩ ⟨[],[],λ_=>[],λ_=>0⟩ p:=⟨a5,i2,e5,λi g=>absurd g (by simp)⟩
 have V0:∀ c o,H c=some o->Zo ⟨S,d,lk,B,r,Z,u,[],[]⟩ ⟨[],[],λ_=>[],λ_=>0⟩ c/\(c≠p->H6 c=some o):=λc o q=>by
  have q1:=e0 _ _ q;have q3:=a9 _ _ q;have l6:c≠u:=by
   by_cases y:c=p
   ·rw[y];exact e5.symm
   ·exact Zb (n4 _ _ y q3) G
  exact⟨⟨Zb q nS,Zb q (f1 _ i9),Zb q (f1 _ a2),Zb q1 a7,Zb q1 a1,l6,λi g=>absurd g (by simp)⟩,λy=>D _ _ y q3⟩
 have W6:ZM H6 p:=W4.same U;have e1:J≠p:=λz=>by
  obtain⟨xs,q⟩:=W6.some;rw[z,q] at a0;cases a0
 obtain⟨m2,i3,_⟩:=id e2;have Tp:T≠p:=ZD i3 R;have e3:ZU H6 T qS:=ZU.ext e2 ⟨λb φ e=>(V0 _ _ e).2 (ZD e R),λb φ e=>(V0 _ _ e).2 (ZD e R)⟩;refine⟨_,rfl,12,rfl,by decide,by decide,Pb (n:=12) (λi σ M=>∃(x:jg)(a:Pl)(m:Md),σ=[some (.ref p),some (.int 12),some (.int 8),some (.ref J),x]/\M J=some (.tup (WG a))/\ZM M p/\LS gt jh ji M a m/\WK a m p/\m.ts.length=i/\m.lv.length=i/\ZU M T qS/\∀ c o,H c=some o->Zo a m c/\(c≠p->c≠T->M c=some o))
  ⟨none,⟨S,d,lk,B,r,Z,u,[],[]⟩,⟨[],[],λ_=>[],λ_=>0⟩,rfl,a0,W6,A0,O0,rfl,rfl,e3,λc o e=>⟨(V0 c o e).1,λn _=>(V0 c o e).2 n⟩⟩ ?_ ?_⟩
 ·rintro i σ H7 g ⟨x,a,m,rfl,l,W7,A7,O7,l7,v7,C,V7⟩;refine⟨_,rfl,_,rfl,_,rfl,gt,p,J,_,a,m,rfl,W7,l,A7,O7,∅,∅,∅,∅,λH8 a' m' I W8 A8 O8 eS el ev=>⟨_,rfl,Zk ⟨_,a',m',rfl,?_,W8,A8,O8,∅,by rw[ev,yS,xH];lia,?_,λc o q=>?_⟩⟩⟩
  ·rw[eS];exact(I _ _ l (A7.tup l)).2 e1
  ·obtain⟨m5,i7⟩:=W7.some;exact A7.tabs i7 C λc o e v n=>(I c o e v).2 n
  ·obtain⟨v1,v2⟩:=V7 c o q;by_cases y:c=p
   ·subst y;obtain⟨xs,q'⟩:=W7.some;exact⟨(I _ _ q' v1).1,λz=>absurd rfl z⟩
   ·by_cases y2:c=T
    ·subst y2;obtain⟨m3,i4,_⟩:=id C;exact⟨(I _ _ i4 v1).1,λ_ z=>absurd rfl z⟩
    ·exact⟨(I _ _ (v2 y y2) v1).1,λ_ _=>(I _ _ (v2 y y2) v1).2 y⟩
 ·rintro σ H7 ⟨x,a,m,rfl,l,W7,A7,O7,l7,v7,C,V7⟩;refine⟨_,rfl,8,rfl,by decide,by decide,Pb (n:=8) (λi σ M=>∃(x:jg)(a:Pl)(m:Md),σ=[some (.ref p),some (.int 12),some (.int 8),some (.ref J),x]/\M J=some (.tup (WG a))/\ZM M p/\LS gt jh ji M a m/\WK a m p/\m.ts.length<=12+i/\12<=m.lv.length/\m.lv.length<=12+i/\ZU M T qS/\∀ c o,H c=some o->Zo a m c/\(c≠p->c≠T->M c=some o))
   ⟨x,a,m,rfl,l,W7,A7,O7,∅,∅,∅,C,V7⟩ ?_ ?_⟩
  ·rintro i σ H8 g ⟨x,a,m,rfl,l,W8,A8,O8,l8,v8,u8,Y,V8⟩;obtain⟨m4,c3,_⟩:=id Y;refine⟨_,rfl,_,rfl,gt,p,J,a,m,rfl,W8,l,A8,O8,∅,∅,∅,Y,λH9 a' m' I A9 W9 O9 eS l1 l2 l3 l4 e4=>⟨_,rfl,Zk ⟨_,a',m',rfl,?_,W9,A9,O9,∅,∅,∅,e4,λc o q=>?_⟩⟩⟩
   ·rw[eS];exact(I _ _ l (A8.tup l)).2 e1 (ZD l c3)
   ·obtain⟨v1,v2⟩:=V8 c o q;by_cases y:c=p
    ·subst y;obtain⟨xs,q'⟩:=W8.some;exact⟨(I _ _ q' v1).1,λz=>absurd rfl z⟩
    ·by_cases y2:c=T
     ·subst y2;exact⟨(I _ _ c3 v1).1,λ_ z=>absurd rfl z⟩
     ·exact⟨(I _ _ (v2 y y2) v1).1,λ_ _=>(I _ _ (v2 y y2) v1).2 y y2⟩
  ·rintro σ H8 ⟨x,a,m,rfl,l,W8,A8,O8,l8,v8,u8,Y,V8⟩;exact⟨_,rfl,k _ J gt a m V8 l A8 ∅ W8 O8 v8⟩
abbrev ZQY:ju:=["_law_script","_law_ground","_law_state","_law_j","_law_k"]
def Ps:ZC ZQY zFe (Zc Pi):=Z9
def E9{T1 T2:aj}(F:Zp K "law" "law" Pi f fd)(X:YX mg)(DW:ZB P w K mg ki 1 "_law_well" zE0 (UI K))(DP:ZB P w K mg ki 1 "_law_pull" zEe YR)(DB:ZB P w K mg ki 73 "_law_begun" zEr (Ud jh ji T1))(DH:ZB P w K mg ki 3 "_law_hold" zEf (U4 λgt=>VE gt jh ji))(DD:ZB P w K mg ki 72 "_law_change_leaf" zEf (U4 λgt=>Xj gt jh ji T2))(DE:ZB P w K mg ki 8 "_law_exact" zEq (U4 λgt=>X7 gt jh ji)):ZJ P w K mg ki Ze 80 f fd zFe (VG T1 T2 K):=by
 refine F.ko Ps λe7 A e3 s H vs Q E hr h=>?_;obtain⟨z,O,rfl,a8,hn,a9,c0,c8,k⟩:=h;have nd:=Ps.nd;have a0:=hr.to 1;have c9:=hr.to 3;have c5:=hr.to 8;have c3:=hr.to 72;have c4:=hr.to 73;intro Xc;refine⟨_,ZQ (Zs 1 nd (Zr DW a0 (Zf (pv 0) ZN)))
  (ZQ (Zs 2 nd (Zr DB c4 (Ut (pv 1) (Zf ZN ZN))))
  (ZQ (Zy (Uj (OS (pv 2))) WV Z2)
  (ZQ (Wo PassesOwn.never rfl (Os rfl X.range (ZY (Zr DP a0 (Zf (pv 1) ZN)))) (Yk 3 nd) (ZX (Zy (XT (Yf (Zr DH c9 (Zf (pv 1) (pv 2))))) WV Z2)))
  (ZQ (Wo PassesOwn.never rfl (Nk rfl X.range (Zf ZN (Zq (GL rfl) rfl X.max Nf (Zf ZN (Zq (ZI9 rfl) rfl X.min Di (Zf (Zq WA rfl X.len Xf (ZY (pv 0))) ZN)))))) (Yk 4 nd)
   (ZQ (Zy (XT (Yf (Zr DD c3 (Zf (Zr DW a0 (Zf (pv 0) (pv 4))) (pv 2))))) WV Z2)
   (ZX (Zy (PW.pt (Nu (Yh VT (Z0 Qt (pv 4) ZN) ZN (YE _)) (Mc (XT (Yf (Zr DE c5 (MJ (Zm K (pv 2) ZN) (Zm K (pv 2) ZN) (Zm K (pv 2) ZN)))))))) WV Z2))))
  (ZX (Zn (Zr DE c5 (MJ (Zm K (pv 2) ZN) (Zm K (pv 2) ZN) (Zm K (pv 2) ZN))))))))),?_⟩
 have c6:∀{T:aj}{q:Str},H T=some (.tbl #[])->ZU H T q:=λhT=>⟨#[],hT,trivial,λe4 cv h=>by simp[PySem.codeAmong] at h⟩
 obtain⟨M,eM,M3,e6⟩:∃ M:Int,(if (if (31:Int)<((O.map V.int).length:Int) then (31:Int) else ((O.map V.int).length:Int)) > 12 then (if (31:Int)<((O.map V.int).length:Int) then (31:Int) else ((O.map V.int).length:Int)) else 12)=M/\12<=M/\M<=31:=by
  exists _,rfl,?_
  ·(repeat' split) <;> lia
  ·(repeat' split) <;> lia
 exists _,rfl,z,O,0,rfl,a8,hn,∅,by lia
 intro p H1 np s1 W1;exists _,rfl,p,rfl,W1,ZU.ext (c6 a9) (Yg.same s1);intro H2 u gt a m V2 a1 A2 e0 W2 O2 e5;have D:∀ c o,H c=some o->(∀ I,o≠.tbl I)->Zo a m c/\H2 c=some o:=λc o e q=>⟨(V2 _ _ (s1 _ _ e)).1,(V2 _ _ (s1 _ _ e)).2 (Zb e np) (ZD e a9 (q _))⟩;have R:ZU H2 T2 qC:=⟨#[],(V2 _ _ (s1 _ _ c0)).2 (Zb c0 np) c8.symm,trivial,λe4 cv h=>by simp[PySem.codeAmong] at h⟩
 have sq:∀(j:Hp),(∀ c o,H c=some o->(∀ I,o≠.tbl I)->j c=some o)->ZG K j z (O.map V.int):=λj e2=>DX e2 a8;have a4:∀(j:Hp)(a:Pl)(m:Md)(Q':VK),LS gt jh ji j a m->(∀(Y:Hp)(a':Pl),(∀ c o,j c=some o->Zo a m c->Zo a' m c/\Y c=some o)->(∀ T q,ZU j T q->ZU Y T q)->LS gt jh ji Y a' m->WG a'=WG a->Q' (.bl true) Y) ->
   (U4 λgt=>X7 gt jh ji) [.ref a.S,.ref a.dT,.ref a.dH] j Q' E0:=λj a m Q' h2 h3=>⟨gt,a,m,rfl,h2,h3⟩
 refine⟨_,rfl,_,rfl,Zk ?_⟩;obtain⟨e9,N⟩:=W2.some;exists _,rfl,p,5,rfl,W2,Vq (by decide) (by decide)
 intro r j r0 r1 W3 x3;have A3:=A2.sx O2 N x3;have d:j u=some (.tup (WG a)):=x3 _ _ a1 (ZD a1 N);have l:∀ c o,H c=some o->(∀ I,o≠.tbl I)->Zo a m c/\j c=some o:=λc o e q=>⟨(D c o e q).1,x3 _ _ (D c o e q).2 (Zb e np)⟩;have B:ZU j T2 qC:=A2.tabs N R λc o e _ n=>x3 _ _ e n;clear V2 D R A2 a1 x3 W2 N;have e1:H p=none:=np;refine⟨r,rfl,∅,∅,Pb (n:=r.toNat) (λi σ H'=>∃(x:jg)(m:Md),σ=[some (.ref z),some (.ref p),some (.ref u),x,none]/\H' u=some (.tup (WG a))/\ZM H' p/\LS gt jh ji H' a m/\WK a m p/\m.ts.length<=20/\12<=m.lv.length/\ZU H' T2 qC/\∀ c o,H c=some o->(∀ I,o≠.tbl I)->Zo a m c/\H' c=some o)
  ⟨none,m,rfl,d,W3,A3,O2,e0,e5,B,l⟩ ?_ ?_⟩
 ·rintro i σ Y hi ⟨x,m,rfl,g,W4,U,O4,l4,v4,J,t⟩;obtain⟨i0,c2⟩:=W4.some;refine⟨_,rfl,_,rfl,gt,p,u,a,m,rfl,W4,g,U,O4,∅,λH5 m' Z W5 W et el=>⟨_,rfl,Zk ⟨_,m',rfl,?_,W5,W,?_,by rw[et];exact l4,by rw[el];exact v4,?_,λc o e q=>?_⟩⟩⟩
  ·exact Z _ _ (ZD g c2) (U.tup g) g
  ·exact⟨O4.lk,O4.gl,O4.tl,λi hi=>O4.tw i (by rw[<-el];exact hi)⟩
  ·exact U.tabs c2 J λc o e v n=>Z c o n v e
  ·obtain⟨v1,v2⟩:=t c o e q;refine⟨?_,Z _ _ (Zb e e1) v1 v2⟩;obtain⟨b1,b2,b3,b4,b5,b6,b7⟩:=v1;exact⟨b1,b2,b3,b4,b5,b6,λi hi=>b7 i (by rw[<-el];exact hi)⟩
 rintro σ Y ⟨x,m,rfl,g,W4,U,O4,l4,v4,J,t⟩;exists _,rfl,z,O.map V.int,rfl,.inl (sq _ λc o e q=>(t c o e q).2),_,_,rfl,_,_,rfl,1,M,congrArg (λz=>[V.int 1,V.int z]) eM,⟨∅,∅,∅,∅⟩
 clear eM;refine Pb (lo:=1) (n:=(M-1).toNat) (λi σ j=>∃(y:jg)(a:Pl)(m:Md),σ=[some (.ref z),some (.ref p),some (.ref u),x,y]/\j u=some (.tup (WG a))/\LS gt jh ji j a m/\12<=m.lv.length/\ZU j T2 qC/\∀ c o,H c=some o->(∀ I,o≠.tbl I)->Zo a m c/\j c=some o)
  ⟨_,a,m,rfl,g,U,∅,J,t⟩ ?_ ?_
 ·rintro i σ j hi ⟨y,a,m,rfl,d,A3,v3,B,l⟩;obtain⟨e8,c1,_⟩:=id B;exists _,rfl,_,rfl,z,O,_,rfl,sq _ λc o e q=>(l c o e q).2,hn,∅,by lia
  intro p' Y a3 s4 W4;have U:=A3.same s4;refine⟨_,rfl,gt,p',u,a,m,rfl,W4,s4 _ _ d,U,A3.off a3,∅,B.ext (Yg.same s4),λH5 C m5 kp L W eS ev=>⟨_,rfl,Zk ?_⟩⟩
  have G:∀ c o,H c=some o->(∀ I,o≠.tbl I)->Zo C m5 c/\H5 c=some o:=λc o e q=>by
   obtain⟨v1,v2⟩:=l c o e q;exact kp c o (ZD v2 c1 (q _)) (Zb v2 a3) v1 (s4 _ _ v2)
  have b:H5 u=some (.tup (WG C)):=by
   rw[eS];exact(kp _ _ (ZD d c1) (Zb d a3) (A3.tup d) (s4 _ _ d)).2
  refine⟨_,rfl,_,_,rfl,rfl,(by show (0:Int)<4;decide),rfl,_,rfl,Wu (λc=>?_) (λc=>?_)⟩
  ·refine⟨_,rfl,.inr (.inl ⟨u,_,0,.ref C.S,rfl,rfl,Zh.of b,rfl,_,rfl,.inr (.inl ⟨u,_,1,.ref C.dT,rfl,rfl,Zh.of b,rfl,_,rfl,.inr (.inl ⟨u,_,2,.ref C.dH,rfl,rfl,Zh.of b,rfl,a4 H5 C m5 _ W λH6 a6 a2 c7 A6 a7=>⟨_,rfl,Zk ?_⟩⟩)⟩)⟩)⟩;refine⟨_,a6,m5,rfl,?_,A6,∅,c7 _ _ L,λc o e q=>?_⟩
   ·rw[a7];exact(a2 _ _ b (W.tup b)).2
   ·obtain⟨v1,v2⟩:=G c o e q;exact a2 _ _ v2 v1
  ·exact⟨_,C,m5,rfl,b,W,∅,L,G⟩
 ·rintro σ H5 ⟨y,C,m5,rfl,b,W,u5,L,G⟩;exact⟨_,rfl,.inr (.inl ⟨u,_,0,.ref C.S,rfl,rfl,Zh.of b,rfl,_,rfl,.inr (.inl ⟨u,_,1,.ref C.dT,rfl,rfl,Zh.of b,rfl,_,rfl,.inr (.inl ⟨u,_,2,.ref C.dH,rfl,rfl,Zh.of b,rfl,a4 H5 C m5 _ W λH6 a6 a2 c7 A6 a7=>k H6⟩)⟩)⟩)⟩
end Tw
namespace L2
open PySem PySem.Spec
def xC(K:zZ)(C:aj):Bool:=
 (zC K (.ref C) "__getattribute__" == some (some (.builtin "BaseException.__getattribute__")))&&((zC K (.ref C) "__getattr__" == some none)&&((zI K C (.type "BaseException")==some true)&&((zI K C (.type "object")==some true) &&
 ((zC K (.ref C) "__class__" == some (some (.builtin "object.__class__")))&&((PySem.W.specialIn K (.builtin "object.__class__") "__get__" == some (some (.builtin "getset_descriptor.__get__")))&&(PySem.W.takesIn K (.builtin "object.__class__")==some true))))))
def Gq{K:zZ}{C:aj}(h:xC K C=true):WH K C:=by
 unfold xC at h;simp only[zR,beq_iff_eq] at h;obtain⟨a,b,c,d,e,f,g⟩:=h;exact⟨a,b,c,d,e,f,g⟩
def xF(K:zZ)(C a:aj)(f:Str):Bool:=
 xC K C&&(Hx K C&&((zC K (.ref C) "__init__" == some (some (.ref a)))&&(wT K (.ref a)&&(yW K (.ref C)&&((zC K (.ref C) "__setattr__" == some (some (.builtin "object.__setattr__"))) &&
 ((zC K (.ref C) f==some none)&&(wH K C&&HE K C)))))))
def O5{K:zZ}{C k:aj}{f:Str}(h:xF K C k f=true):Yj K C k f:=by
 unfold xF at h;simp only[zR,beq_iff_eq] at h;obtain⟨a,b,c,d,e,f,g,i,j⟩:=h;exact⟨Gq a,b,c,d,e,f,g,i,j⟩
def Ki(K:zZ)(a:jw)(b:je):Bool:=
 (zQ a.length).all λk=>xC K (a.getD k 0)&&((zQ a.length).all (λj=>yV K (.ref (a.getD k 0)) (.ref (a.getD j 0))==some (k==j))&&b.all λv=>yV K (.ref (a.getD k 0)) v==some true)
def ZNF{K:zZ}{a:jw}{c:je}(h:Ki K a c=true){k:Nat}(e:k<a.length):WH K (a.getD k 0)/\(∀ j,j<a.length->yV K (.ref (a.getD k 0)) (.ref (a.getD j 0))=some (k==j))/\∀ v∈c,yV K (.ref (a.getD k 0)) v=some true:=by
 have b:=zO.mp h k (xX.mpr e);simp only[zR] at b;exact⟨Gq b.1,λj d=>beq_iff_eq.mp (zO.mp b.2.1 j (xX.mpr d)),λv f=>beq_iff_eq.mp (zO.mp b.2.2 v f)⟩
end L2
namespace Tw
open PySem PySem.Spec L2 PyProof.Rows
variable{jh ji CS CT CH CK CP CB:aj}
def NL{K:zZ}{c:aj}{a:jw}(h:Ki K a [.type "ValueError"]=true)(j:a.length=6){k:Nat}(m:k<6)(b:zI K (a.getD k 0) (.ref c)=some true):XC K c (λi=>a.getD i 0) k:=by
 obtain⟨d,e,f⟩:=ZNF h (k:=k) ∅
 exists d,b,f _ (by simp)
 intro i l;have:=e i ∅
 rw[this]
 congr 1
 by_cases z:k=i
 ·subst z;simp
 ·have g:¬ i=k:=λy=>z y.symm;simp[z,g]
abbrev OB:Stmt:=Xy (top 6) 0
def ZIi:ZC zEa zEa (Zc OB):=Z9
def Eu{C:aj}(F:Zp K "__init__" "NoTwig.__init__" OB f fd):ZJ P w K mg ki Ze 1 f fd zEa (Nd K C f "number"):=by
 refine F.ok ZIi (λg H Q E h=>(by obtain⟨_,_,_,rfl,_⟩:=h;rfl)) (λb A a s H g Q E i h=>?_)
 obtain⟨c,d,y,rfl,e,k⟩:=h;exact⟨_,ZX (Jg (pv 0) (pv 1) rfl),⟨_,rfl,_,rfl,QE,d,_,_,rfl,e,c,k⟩⟩
abbrev OM:Stmt:=Xy (top 7) 0
def ZHo:ZC zEa zEa (Zc OM):=Z9
def Bx{C:aj}(F:Zp K "__init__" "NotHeld.__init__" OM f fd):ZJ P w K mg ki Ze 1 f fd zEa (Nd K C f "number"):=by
 refine F.ok ZHo (λg H Q E h=>(by obtain⟨_,_,_,rfl,_⟩:=h;rfl)) (λb A a s H g Q E i h=>?_)
 obtain⟨c,d,y,rfl,e,k⟩:=h;exact⟨_,ZX (Jg (pv 0) (pv 1) rfl),⟨_,rfl,_,rfl,QE,d,_,_,rfl,e,c,k⟩⟩
abbrev Ol:Stmt:=Xy (top 8) 0
def Dl:ZC zEa zEa (Zc Ol):=Z9
def Cw{C:aj}(F:Zp K "__init__" "Shared.__init__" Ol f fd):ZJ P w K mg ki Ze 1 f fd zEa (Nd K C f "number"):=by
 refine F.ok Dl (λg H Q E h=>(by obtain⟨_,_,_,rfl,_⟩:=h;rfl)) (λb A a s H g Q E i h=>?_)
 obtain⟨c,d,y,rfl,e,k⟩:=h;exact⟨_,ZX (Jg (pv 0) (pv 1) rfl),⟨_,rfl,_,rfl,QE,d,_,_,rfl,e,c,k⟩⟩
end Tw
namespace L2
open PySem PySem.Spec PyProof.Rows
def BU{P:am}{w:aw}{K:zZ}{L mb:jc}{k:Nat}{fa a:aj}{l:List (aj×aj)}{fd:ao}{x:Str}{sp:Sp}{c:al}{N:je}{ns:jC}(KX:K.In c.heap)(R:c.heap.Ns ap L)(i:c.heap.Ns builtinsNs mb)(c0:∀ x:Str,x ≠ "__name__"->mb x=ay x)(a4:c.heap.NoLimit)(hg:c.gens=#[])(c1:∃ Y M,L "__builtins__" = some (.ref Y)/\Y≠builtinsNs/\c.heap.get? Y=some M/\M.cls=.type "module" /\ M.dict=some builtinsNs/\M.data=.plain)(hC:∀ x∈l,xZ c.heap x.1 x.2)(B:∀ x∈l,c.heap.get? x.2=some (wI #[]))(c5:sY K=true)(U:c.heap.get? a=some { cls:=.type "list",data:=.seq N.toArray })(hi:IntsAre N ns)(hl:ns.length<=aq)(hr:ZZ k callerA)(F:∀ t:aD,K.In t->t.Ns ap L->(∀ x∈l,xZ t x.1 x.2/\t.BuiltinsAt L x.2)->ZJ P w K L t Ze k fa fd [x] sp)(Q:∀ (s:al) (u:ai),BindsTo s fd ⟨[u],[]⟩ [(x,u)])(c2:∀ H:Hp,(∀ x∈l,H x.2=some (.tbl #[]))->ZG K H a (ns.map V.int)->sp [.ref a] H (λv _=>v=.bl true) λ_ _ _=>False):
  aH (aA P w) callerA (.call (.ref fa) ⟨[.ref a],[]⟩) (λr y=>r=.ok (.ret (.bool true))/\OldK c.heap y.heap/\y.os=c.os/\AllBare y.gens) c:=by
 have rv:=M7 hi;have a6:=hi.length;have hT:∀ b∈l.map (·.2),c.heap.get? b=some (wI #[]):=λb i=>by
  obtain⟨x,j,rfl⟩:=zE.mp i;exact B x j
 have mT:∀ x∈l,x.2∈l.map (·.2):=λx j=>zE.mpr ⟨x,j,rfl⟩;have aT:a∉l.map (·.2):=λz=>by rw[hT a z] at U;cases U
 have E:∀ H:Hp,(∀ x∈l,H x.2=some (.tbl #[]))->ZG K H a (ns.map V.int)->YW P w H c.heap->(∀ b,H b≠none->b=a\/b∈l.map (·.2))->(H a≠none->K.lookup a=none/\∃ o xs,H a=some (.frz o (.lst xs))) ->
   aH (aA P w) callerA (.call (.ref fa) ⟨[.ref a],[]⟩) (λr y=>r=.ok (.ret (.bool true))/\OldK c.heap y.heap/\y.os=c.os/\AllBare y.gens) c:=by
  intro H hO hS a5 hA hK;have f:∀{b:aj}{o:aJ},c.heap.get? b=some o->H b=none->(V4 c.heap H).get? b=some o:=λe n=>GM e n;have S:∀{b:aj}{o:aJ},c.heap.get? b=some o->(∀ c4 n,o.data≠.seq c4 n)->(∀ v,o≠wI v)->H b=none:=fun{b o} e d1 d2=>by
   cases q:H b with
   | none=>rfl
   | some u=>
    rcases hA b (by rw[q];simp) with A | A
    ·subst A;rw[U] at e;cases e;exact absurd rfl (d1 _ _)
    ·rw[hT b A] at e;cases e;exact absurd rfl (d2 _)
  have C:∀{b:aj}{m:jc},c.heap.Ns b m->(V4 c.heap H).Ns b m:=fun{b m} ⟨o,es,ep,e,d,r⟩=>⟨o,es,ep,f e (S e (λ_ _ z=>by rw[d] at z;cases z) (λ_ z=>by rw[z] at d;cases d)),d,r⟩
  have a2:K.In (V4 c.heap H):=λb o e=>f (KX b o e) (by
   cases q:H b with
   | none=>rfl
   | some u=>
    rcases hA b (by rw[q];simp) with A | A
    ·subst A;rw[(hK (by rw[q];simp)).1] at e;cases e
    ·have G:=KX _ _ e;rw[hT b A] at G;cases G;have h2:=zO.mp c5 _ (PySem.W.mem_of_lookupK e);exact absurd (show false=true from h2) zT)
  have hM:Mod K L (V4 c.heap H):=⟨a2,C R,⟨mb,C i,c0⟩,let ⟨mc,h1,h2⟩:=a4;⟨mc,C h1,h2⟩⟩;have a9:∀ x∈l,xZ (V4 c.heap H) x.1 x.2:=λx j=>by
   obtain⟨o,N,a0,tf,O,tg,c3,a7,tt,Z,G,e3,r⟩:=hC x j;exact⟨o,N,a0,tf,O,tg,c3,a7,tt,f Z (S Z (λ_ _ z=>by rw[e3] at z;cases z) (λ_ z=>by rw[z] at G;cases G)),G,e3,r⟩
  have a8:∀ x∈l,(V4 c.heap H).BuiltinsAt L x.2:=λx j=>by
   obtain⟨Y,M,b1,b2,T,b4,b5,b6⟩:=c1;refine⟨Y,M,b1,b2,λz=>?_,λz=>?_,f T (S T (λ_ _ z=>by rw[b6] at z;cases z) (λ_ z=>by rw[z] at b4;cases b4)),b4,b5,b6⟩
   ·obtain⟨o,es,ep,e,d,_⟩:=R;rw[z,e] at T;cases T;rw[d] at b6;cases b6
   ·rw[z,B x j] at T;cases T;cases b4
  have e0:We P w K L (V4 c.heap H) callerA [] c H:=⟨rfl,hM,λb o e=>Gx e,wC (Fe _ _),trivial,λb i=>absurd (show b∈([]:jw) from i) (by simp),a5,.of_eq hg⟩
  refine codeAny_mono ((F _ a2 (C R) λx j=>⟨a9 x j,a8 x j⟩).run callerA [] c H ⟨[.ref a],[]⟩ [.ref a] [.ref a] _ _ hr e0 (Q c (.ref a)) (.cons rfl .nil) (c2 H hO hS)) λr y h=>?_
  cases r with
  | error e=>exact h.elim
  | ok fl=>
   cases fl with
   | next=>exact False.elim h
   | brk=>exact False.elim h
   | cont=>exact False.elim h
   | ret u=>
    obtain⟨v,H',os,X,un,I,r',q⟩:=h;have q':v=.bl true:=q;subst q';obtain rfl:u=Value.bool true:=r';have a1:∀ x∈l,∃ p,y.heap.get? x.2=some (wI (#[]++p)):=λx j=>by
     obtain⟨p,z⟩:=un.tbls x.2 #[] (hO x j);exact⟨p,I x.2 _ z⟩
    have J:∀ b o,b∉l.map (·.2)->c.heap.get? b=some o->y.heap.get? b=some o:=λb o n e=>by
     cases q:H b with
     | none=>exact un.keep b o e q (by intro z;exact absurd (show b∈([]:jw) from z) (by simp)) (by simp)
     | some u=>
      have A:b=a:=(hA b (by rw[q];simp)).resolve_right n
      subst A;obtain⟨_,M,xs,z⟩:=hK (by rw[q];simp)
      have z2:=un.frzs b M _ z;obtain⟨Z,_⟩:=a5 b _ z;obtain⟨G,_⟩:=I b _ z2;rw[e] at Z;cases Z;exact G
    refine⟨rfl,⟨λb o e=>?_,λb o e=>?_⟩,os,X⟩
    ·by_cases z:b∈l.map (·.2)
     ·obtain⟨x,j,rfl⟩:=zE.mp z;obtain⟨p,g⟩:=a1 x j;rw[B x j] at e;cases e;exact .inr (.inl ⟨((hC x j).tab (B x j)).isCodeTable,rfl,#[],p,rfl,g⟩)
     ·exact .inl (J b o z e)
    ·by_cases z:b∈l.map (·.2)
     ·obtain⟨x,j,rfl⟩:=zE.mp z;obtain⟨p,g⟩:=a1 x j;exact⟨_,g⟩
     ·exact⟨o,J b o z e⟩
 cases hk:K.lookup a with
 | some o=>
  have e:=KX a o hk;rw[U] at e;cases e;refine E (λb=>if b∈l.map (·.2) then some (.tbl #[]) else none) (λx j=>aQ (mT x j)) (.inr ⟨_,N.toArray,_,hk,rfl,rfl,rfl,by rw[zK,a6];exact hl,by simpa using rv⟩) (λb u z=>?_) (λb z=>?_) λz=>absurd (aP aT) z
  ·by_cases i:b∈l.map (·.2)
   ·have D:=(aQ i).symm.trans z;cases D;exact hT b i
   ·have D:=(aP i).symm.trans z;cases D
  ·by_cases i:b∈l.map (·.2)
   ·exact .inr i
   ·exact absurd (aP i) z
 | none=>
  refine E (λb=>if b∈l.map (·.2) then some (.tbl #[]) else if b=a then some (.frz { cls:=.type "list",data:=.seq N.toArray } (.lst (ns.map V.int))) else none) (λx j=>aQ (mT x j)) (.inl (.inr ⟨{ cls:=.type "list",data:=.seq N.toArray },(aP aT).trans (aQ rfl)⟩)) (λb u z=>?_) (λb z=>?_) λ_=>⟨hk,_,_,(aP aT).trans (aQ rfl)⟩
  ·by_cases i:b∈l.map (·.2)
   ·have D:=(aQ i).symm.trans z;cases D;exact hT b i
   ·have z:=(aP i).symm.trans z;by_cases i:b=a
    ·have D:=(aQ i).symm.trans z;cases D;subst i;exact⟨U,by rw[zX];exact hl,N,_,rv,U⟩
    ·have D:=(aP i).symm.trans z;cases D
  ·by_cases i:b∈l.map (·.2)
   ·exact .inr i
   ·by_cases a3:b=a
    ·exact .inl a3
    ·exact absurd ((aP i).trans (aP a3)) z
def Jk(K:zZ)(a:ju):List (aj×aj):=a.filterMap λp=>yF K p
def NV{l:uR}{n k:Nat}{q:am}{t:ju}{Z:(jc)->aD->Prop}{R:aw->aD->Prop}{d:DefRec}{K:Params->zZ}{sp:zZ->Sp}{x:Str}{ps:ju}(hn:l.most=some n)(N:n<=aq)(L:d.params.defaults=[])(hr:ZZ k callerA)(hY:∀ (w:aw) (h:aD),R w h->(K w.params).In h)(B:∀ p∈ps,((recsOf q).find? (λe=>e.name==p)).isSome=true)(O:∀ w:aw,sY (K w.params)=true)(F:∀ (w:aw) (z:jc) (D:aj) (h:aD),(K w.params).In h->h.Ns ap z->z d.name=some (.ref D) ->
   ∃ J:ao,(∀ (s:al) (u:ai),BindsTo s J ⟨[u],[]⟩ [(x,u)]) /\
    ∀ i:aD,(K w.params).In i->i.Ns ap z->(∀ y∈Jk (K w.params) ps,xZ i y.1 y.2/\i.BuiltinsAt z y.2)->ZJ l.prog w (K w.params) z i Ze k D J [x] (sp (K w.params)))(Q:∀ (w:aw) (H:Hp) (a:aj) (E:jC),E.length<=n->(∀ y∈Jk (K w.params) ps,H y.2=some (.tbl #[]))->ZG (K w.params) H a (E.map V.int)->sp (K w.params) [.ref a] H (λv _=>v=.bl true) λ_ _ _=>False):
  tN q t Z R l.row.toRowW d [] (λf X=>PySem.call f X):=by
 refine Att.attach_call hn L λw S m z mb D o pm cd a0 a X E G Y ho hd a1 M A r j hg=>?_;have I:=hY w _ Y;obtain⟨J,hb,hF⟩:=F w z D _ I G.T.g M;have U:∀ y∈Jk (K w.params) ps,xZ m.heap y.1 y.2/\m.heap.get? y.2=some (wI #[]):=λy C=>by
  obtain⟨p,hp,e⟩:=xO.mp C;exact PySem.W.tab_of (c:=y.1) (P:=y.2) G.T I (Option.some_get (B p hp)).symm e
 exact BU I G.T.g G.T.b G.T.builtins G.T.nolimit hg G.T.bmain (λy C=>(U y C).1) (λy C=>(U y C).2) (O w) A r (zD j N) hr hF hb (λH hO hS=>Q w H a E j hO hS)
end L2
namespace Tw
open PySem PySem.Spec L2 PyProof.Rows
def MB{K:zZ}{C f:aj}{m q:Str}{d:aC}{j:ju}{t e:jz}{u:Array (jd)}{s kV o i n ct:ai}(v:zC K (.ref C) m=some (some (.ref f)))(l:K.lookup f=some ⟨s,t,.func (yG m q (Ve d) (Xd d) (Zc d) .none kV o i e n ct),u⟩)(p:wT K (.ref f)=true)(c:xR K n q=true)(k:yW K (.ref f)=true)(r:∀ (kV h i:ai) (e:jz) (g ct:ai) (a:je),a.length=j.length->bindArgs (yG m q (Ve d) (Xd d) (Zc d) .none kV h i e g ct) ⟨a,[]⟩=pure (j.zip a):=by first | exact(λ_ _ _ _ _ _ a b=>match a,b with | [_],_=>rfl) | exact(λ_ _ _ _ _ _ a b=>match a,b with | [_,_],_=>rfl) | exact(λ_ _ _ _ _ _ a b=>match a,b with | [_,_,_],_=>rfl) | exact(λ_ _ _ _ _ _ a b=>match a,b with | [_,_,_,_],_=>rfl) | exact(λ_ _ _ _ _ _ a b=>match a,b with | [_,_,_,_,_],_=>rfl)):Z4 K C m q d j:=
 ⟨f,_,⟨v,p,k⟩,Vk (st:=d) l c k,(Vk (st:=d) l c k).binds r⟩
structure Qi(K:zZ)(C:aj)(q:Str)(st:aC)(ps:ju):Prop where
 ex:∃ f fd,zC K (.ref C) "__init__" = some (some (.ref f))/\wT K (.ref f)=true/\Zp K "__init__" q st f fd/\Z8 K fd ps []
def MQ{K:zZ}{C f:aj}{q:Str}{d:aC}{j:ju}{s e:jz}{t:Array (jd)}{r kV n i m ct:ai}(v:zC K (.ref C) "__init__" = some (some (.ref f)))(l:K.lookup f=some ⟨r,s,.func (yG "__init__" q (Ve d) (Xd d) (Zc d) .none kV n i e m ct),t⟩)(o:wT K (.ref f)=true)(c:xR K m q=true)(k:yW K (.ref f)=true)(p:∀ (kV h i:ai) (e:jz) (g ct:ai) (a:je),a.length=j.length->bindArgs (yG "__init__" q (Ve d) (Xd d) (Zc d) .none kV h i e g ct) ⟨a,[]⟩=pure (j.zip a):=by first | exact(λ_ _ _ _ _ _ a b=>match a,b with | [_],_=>rfl) | exact(λ_ _ _ _ _ _ a b=>match a,b with | [_,_],_=>rfl) | exact(λ_ _ _ _ _ _ a b=>match a,b with | [_,_,_],_=>rfl) | exact(λ_ _ _ _ _ _ a b=>match a,b with | [_,_,_,_],_=>rfl) | exact(λ_ _ _ _ _ _ a b=>match a,b with | [_,_,_,_,_],_=>rfl)):Qi K C q d j:=
 ⟨f,_,v,o,Vk (st:=d) l c k,(Vk (st:=d) l c k).binds p⟩
def ZQQ{K:zZ}{x:Str}{f c P:aj}{k:ai}{m:jz}{h:ao}{n:Array (jd)}{b:ai}{d:jz}{i:jx}{g:Array (jd)}(a:zP K ap x=some (some (.ref f)))(l:K.lookup f=some ⟨k,m,.func h,n⟩)(e:h.code=.ref c)(j:K.lookup c=some ⟨b,d,.fields i,g⟩)(v:i[11]? = some (.ref P)):yF K x=some (c,P):=by
 unfold yF;rw[a];simp only;rw[l];simp only;rw[e];simp only;rw[j];simp only;rw[v]
def IF{l:uR}{w:aw}{K:zZ}{h:aD}{mg:jc}{fa cb0 tb0 cb1 tb1 f35 f39 f41 CB CK CL CS CT CH CD jh ji jN jH jD:aj}(X:K.In h)(G:h.Ns ap mg)(hfa:mg "law" = some (.ref fa))(hta:yF K "_law_put_stem" = some (cb0,tb0))(htb:yF K "_law_change_leaf" = some (cb1,tb1)){od35 an35 od39 an39 od41 an41:jz}{sl35 sl39 sl41:Array (jd)}{oc35 kV35 dc35 pm35 cd35 ct35 oc39 kV39 dc39 pm39 cd39 ct39 oc41 kV41 dc41 pm41 cd41 ct41:ai}{t1 t2 t3 t4 t5 t6 t7 t8 t9 t10:Tok}(L1:Zl K mg "is_key" KO zE4)(L2:Zl K mg "checked" Ia zE4)(L3:Zl K mg "fits" MT zEs)(L4:Zl K mg "has_few_figures" JS zE8)(L5:Zl K mg "is_sign" K7 ["sign"])(L6:Zl K mg "ahead" Ly zE6)(L7:Zl K mg "standing" Mn zFb)(L8:Zl K mg "checked_rows" Ie zEv)(L9:Zl K mg "own_rows" Ky zEv)(L10:Zl K mg "rise" Jm ["keys"])(L11:Zl K mg "label_of_rows" Jl zEv)(L12:Zl K mg "label_over" Jr ["labels"])(L13:Zl K mg "stand_side_by_side" KQ zE2)(L14:Zl K mg "is_stem" Ji ["twig"])(L15:Zl K mg "_law_well" KK zE0)(L16:Zl K mg "_law_pull" IN zEe)(L17:Zl K mg "_law_rank" Mq zE5)(L18:Zl K mg "_law_less" K1 zEt)(L19:Zl K mg "_law_alike" Lm zEc)(L20:Zl K mg "_law_grid" Ko zE9)(L21:Zl K mg "_law_leaf_rows" Kr zEh)(L22:Zl K mg "_law_rows_of" Kt zEb)(L23:Zl K mg "_law_label" IW zEb)(L24:Zl K mg "_law_above" Jb zEb)(L25:Zl K mg "_law_shared" KI zEk)(L26:Zl K mg "_law_count" Jh zEc)(L27:Zl K mg "_law_exact" JL zEq)(L28:Zl K mg "_law_asked" Ks zEx)(L29:Zl K mg "_law_wrong" JG zEl)(L30:Zl K mg "_law_unheld" IS zEu)(L31:Zl K mg "_law_rises" KL zEp)(L32:Zl K mg "_law_picked" IZ zEi)(L33:Zl K mg "_law_run" Ij zEg)(L34:Zl K mg "_law_put_leaf" JN zEn)(a35:zP K ap "_law_put_stem" = some (some (.ref f35)))(l35:K.lookup f35=some ⟨oc35,od35,.func (yG "_law_put_stem" "_law_put_stem" (Ve Vw) (Xd Vw) (Zc Vw) .none kV35 dc35 pm35 an35 cd35 ct35),sl35⟩)(c35:xR K cd35 "_law_put_stem" = true)(k35:yW K (.ref f35)=true)(L36:Zl K mg "_law_hold" Ka zEf)(L37:Zl K mg "_law_rows_due" JX ["_law_rows"])(L38:Zl K mg "_law_leaf_due" Ih zEd)(a39:zP K ap "_law_change_leaf" = some (some (.ref f39)))(l39:K.lookup f39=some ⟨oc39,od39,.func (yG "_law_change_leaf" "_law_change_leaf" (Ve WT) (Xd WT) (Zc WT) .none kV39 dc39 pm39 an39 cd39 ct39),sl39⟩)(c39:xR K cd39 "_law_change_leaf" = true)(k39:yW K (.ref f39)=true)(L40:Zl K mg "_law_begun" Kl zEr)(a41:zP K ap "law" = some (some (.ref f41)))(l41:K.lookup f41=some ⟨oc41,od41,.func (yG "law" "law" (Ve Pi) (Xd Pi) (Zc Pi) .none kV41 dc41 pm41 an41 cd41 ct41),sl41⟩)(c41:xR K cd41 "law" = true)(k41:yW K (.ref f41)=true)(z1:zP K ap "isinstance" = some none)(z2:zP K ap "bool" = some none)(z3:zP K ap "int" = some none)(z4:zP K ap "str" = some none)(z5:zP K ap "tuple" = some none)(z6:zP K ap "list" = some none)(z7:zP K ap "len" = some none)(z8:zP K ap "all" = some none)(z9:zP K ap "abs" = some none)(z10:zP K ap "max" = some none)(z11:zP K ap "min" = some none)(z12:zP K ap "range" = some none)(z13:zP K ap "sorted" = some none)(z14:zP K ap "ValueError" = some none)(z15:zP K ap "sum" = some none)(z16:zP K ap "dict" = some none)(z17:zP K ap "reversed" = some none)(m1_:zP K ap "MOST_SIGNS" = some (some (.int 40 t1)))(m2_:zP K ap "MOST_THINGS" = some (some (.int 4 t2)))(m3_:zP K ap "MOST_DEEP" = some (some (.int 3 t3)))(m4_:zP K ap "MOST_ROWS" = some (some (.int 4 t4)))(m5_:zP K ap "FEWEST_BRANCHES" = some (some (.int 2 t5)))(m6_:zP K ap "MOST_BRANCHES" = some (some (.int 4 t6)))(m7_:zP K ap "HEIGHT" = some (some (.int 0 t7)))(m8_:zP K ap "LEAST" = some (some (.int 1 t8)))(m9_:zP K ap "GREATEST" = some (some (.int 2 t9)))(m10_:zP K ap "MANY" = some (some (.int 3 t10)))(IjS:Qi K jh "Shelf.__init__" KD zEo)(IjT:Qi K ji "Twig.__init__" II zEw){ocjN kVjN dcjN pmjN cdjN ctjN:ai}{odjN anjN:jz}{sljN:Array (jd)}(iljN:K.lookup jN=some ⟨ocjN,odjN,.func (yG "__init__" "NoTwig.__init__" (Ve OB) (Xd OB) (Zc OB) .none kVjN dcjN pmjN anjN cdjN ctjN),sljN⟩)(icjN:xR K cdjN "NoTwig.__init__" = true)(ikjN:yW K (.ref jN)=true){ocjH kVjH dcjH pmjH cdjH ctjH:ai}{odjH anjH:jz}{sljH:Array (jd)}(iljH:K.lookup jH=some ⟨ocjH,odjH,.func (yG "__init__" "NotHeld.__init__" (Ve OM) (Xd OM) (Zc OM) .none kVjH dcjH pmjH anjH cdjH ctjH),sljH⟩)(icjH:xR K cdjH "NotHeld.__init__" = true)(ikjH:yW K (.ref jH)=true){ocjD kVjD dcjD pmjD cdjD ctjD:ai}{odjD anjD:jz}{sljD:Array (jd)}(iljD:K.lookup jD=some ⟨ocjD,odjD,.func (yG "__init__" "Shared.__init__" (Ve Ol) (Xd Ol) (Zc Ol) .none kVjD dcjD pmjD anjD cdjD ctjD),sljD⟩)(icjD:xR K cdjD "Shared.__init__" = true)(ikjD:yW K (.ref jD)=true)(Mm1:Z4 K jh "put_leaf" "Shelf.put_leaf" KA zFd)(Mm2:Z4 K jh "put_stem" "Shelf.put_stem" JB zEj)(Mm3:Z4 K jh "put_twig" "Shelf.put_twig" Jp zEz)(Mm4:Z4 K jh "holders" "Shelf.holders" IC zEa)(Mm5:Z4 K jh "outside" "Shelf.outside" Jy zEa)(Mm6:Z4 K jh "alone" "Shelf.alone" JI zEa)(Mm7:Z4 K jh "look" "Shelf.look" Js zEa)(Mm8:Z4 K jh "label" "Shelf.label" LK zEa)(Mm9:Z4 K jh "forget" "Shelf.forget" KU zEo)(Mm10:Z4 K jh "numbers" "Shelf.numbers" KY zEo)(Mm11:Z4 K jh "many" "Shelf.many" Kh zEo)(Mm12:Z4 K jh "twig_of" "Shelf.twig_of" LI zEa)(Mm13:Z4 K jh "labels_of" "Shelf.labels_of" Il zEj)(Mm14:Z4 K jh "check_held" "Shelf.check_held" Jz zEj)(Mm15:Z4 K jh "take_over" "Shelf.take_over" Jn zE3)(Mm16:Z4 K jh "road_up" "Shelf.road_up" Lx zEa)(Mm17:Z4 K jh "hold" "Shelf.hold" JO zEa)(Mm18:Z4 K jh "change_leaf" "Shelf.change_leaf" KR zEm)(Mm19:Z4 K jh "labels_up" "Shelf.labels_up" Ik zE1)(Mm20:Z4 K jh "give_labels" "Shelf.give_labels" JV zFc)(xCB:zP K ap "TwigError" = some (some (.ref CB)))(xCK:zP K ap "NoKey" = some (some (.ref CK)))(xCL:zP K ap "NoLeaf" = some (some (.ref CL)))(xCS:zP K ap "NoStem" = some (some (.ref CS)))(xCT:zP K ap "NoTwig" = some (some (.ref CT)))(xCH:zP K ap "NotHeld" = some (some (.ref CH)))(xCD:zP K ap "Shared" = some (some (.ref CD)))(xCSh:zP K ap "Shelf" = some (some (.ref jh)))(xCTw:zP K ap "Twig" = some (some (.ref ji)))(vjN:zC K (.ref CT) "__init__" = some (some (.ref jN)))(vjH:zC K (.ref CH) "__init__" = some (some (.ref jH)))(vjD:zC K (.ref CD) "__init__" = some (some (.ref jD)))(mkCSh:uQ K jh=true)(kpCSh:yW K (.ref jh)=true)(pgCSh:vY K jh Str.empty=true)(hdCSh:wH K jh=true)(poCSh:uL K jh=true)(saCSh:zC K (.ref jh) "__setattr__" = some (some (.builtin "object.__setattr__")))(mkCTw:uQ K ji=true)(kpCTw:yW K (.ref ji)=true)(pgCTw:vY K ji Str.empty=true)(hdCTw:wH K ji=true)(poCTw:uL K ji=true)(saCTw:zC K (.ref ji) "__setattr__" = some (some (.builtin "object.__setattr__")))(na_kept:zC K (.ref jh) "kept" = some none)(na_following:zC K (.ref jh) "following" = some none)(na_looks:zC K (.ref jh) "looks" = some none)(na_things:zC K (.ref ji) "things" = some none)(na_tag:zC K (.ref ji) "tag" = some none)(na_above:zC K (.ref ji) "above" = some none)(na_holds:zC K (.ref ji) "holds" = some none)(tyB:yQ K (.ref CB)=some (.type "type"))(mB:zI K CB (.type "BaseException")=some true)(kitx:Ki K [CK,CL,CS,CT,CH,CD] [.type "ValueError"]=true)(wCT:xF K CT jN "number" = true)(tyCT:yQ K (.ref CT)=some (.type "type"))(wCH:xF K CH jH "number" = true)(tyCH:yQ K (.ref CH)=some (.type "type"))(wCD:xF K CD jD "number" = true)(tyCD:yQ K (.ref CD)=some (.type "type"))(sbCS:zI K CS (.ref CB)=some true)(sbCT:zI K CT (.ref CB)=some true)(sbCH:zI K CH (.ref CB)=some true)(sbCK:zI K CK (.ref CB)=some true)(sbCL:zI K CL (.ref CB)=some true)(sbCD:zI K CD (.ref CB)=some true)(exCK:wJ K CK QZ "ValueError.__new__" = true)(kpCK:yW K (.ref CK)=true)(mBCK:zI K CK (.type "BaseException")=some true)(tyCK:yQ K (.ref CK)=some (.type "type"))(exCL:wJ K CL QZ "ValueError.__new__" = true)(kpCL:yW K (.ref CL)=true)(mBCL:zI K CL (.type "BaseException")=some true)(tyCL:yQ K (.ref CL)=some (.type "type"))(slCS:zI K CS (.ref CS)=some true)(nmCS:Pr K CS "NoStem" = true)(nmCL:Pr K CL "NoLeaf" = true)(exCS:wJ K CS QZ "ValueError.__new__" = true)(kpCS:yW K (.ref CS)=true)(mBCS:zI K CS (.type "BaseException")=some true)(tyCS:yQ K (.ref CS)=some (.type "type"))(mBCD:zI K CD (.type "BaseException")=some true)(slCD:zI K CD (.ref CD)=some true):
  ∃ g:ao,(∀(s:al)(v:ai),BindsTo s g ⟨[v],[]⟩ [("_law_script",v)])/\∀ a:aD,K.In a->a.Ns ap mg->xZ a cb0 tb0->a.BuiltinsAt mg tb0->xZ a cb1 tb1->a.BuiltinsAt mg tb1->ZJ l.prog w K mg a Ze 80 fa g zFe (VG tb0 tb1 K):=by
 have e:=hfa.symm.trans (zA X G a41);cases e;have T:YX mg:=⟨yD X G z1,yD X G z2,yD X G z3,yD X G z4,yD X G z5,yD X G z6,yD X G z7,yD X G z8,yD X G z9,yD X G z10,yD X G z11,yD X G z12,yD X G z13,yD X G z14,yD X G z15,⟨_,zA X G m1_⟩,⟨_,zA X G m2_⟩,⟨_,zA X G m3_⟩,⟨_,zA X G m4_⟩,⟨_,zA X G m5_⟩,⟨_,zA X G m6_⟩,⟨_,zA X G m7_⟩,⟨_,zA X G m8_⟩,⟨_,zA X G m9_⟩,⟨_,zA X G m10_⟩⟩;exists yG "law" "law" (Ve Pi) (Xd Pi) (Zc Pi) .none kV41 dc41 pm41 an41 cd41 ct41,λs v=>.of_eq rfl;intro a P _ hC hB l0 i9;have Tr:mg "reversed" = none:=yD X G z17;have i4:Nm K mg CB (λi=>[CK,CL,CS,CT,CH,CD].getD i 0):=⟨zA X G xCB,tyB,mB,zA X G xCK,zA X G xCL,zA X G xCS,zA X G xCT,zA X G xCH,zA X G xCD⟩;have c:Yo K mg jh ji:=⟨zA X G xCSh,zA X G xCTw,⟨pgCSh,hdCSh,poCSh,saCSh⟩,⟨pgCTw,hdCTw,poCTw,saCTw⟩,na_kept,na_following,na_looks,na_things,na_tag,na_above,na_holds⟩;have i6:XN l.prog w K mg a "NoTwig" CT:=⟨⟨jN,_,O5 wCT,Eu (Vk (st:=OB) iljN icjN ikjN),(Vk (st:=OB) iljN icjN ikjN).binds λ_ _ _ _ _ _ p o=>match p,o with | [_,_],_=>rfl⟩,zA X G xCT,tyCT⟩
 have i3:XN l.prog w K mg a "NotHeld" CH:=⟨⟨jH,_,O5 wCH,Bx (Vk (st:=OM) iljH icjH ikjH),(Vk (st:=OM) iljH icjH ikjH).binds λ_ _ _ _ _ _ p o=>match p,o with | [_,_],_=>rfl⟩,zA X G xCH,tyCH⟩
 have i5:XN l.prog w K mg a "Shared" CD:=⟨⟨jD,_,O5 wCD,Cw (Vk (st:=Ol) iljD icjD ikjD),(Vk (st:=Ol) iljD icjD ikjD).binds λ_ _ _ _ _ _ p o=>match p,o with | [_,_],_=>rfl⟩,zA X G xCD,tyCD⟩
 have i8:XS l.prog w K mg a CS:=⟨zA X G xCS,exCS,kpCS,mBCS,tyCS⟩;have i7:XD K mg CD:=⟨zA X G xCD,tyCD,mBCD,slCD⟩;have a6:Uv l.prog w K mg a 1 jh zEo (QT jh):=by obtain⟨f,g,v,fn,F,b⟩:=IjS.ex;exact⟨f,g,⟨mkCSh,v,fn,kpCSh⟩,Ay F c,b⟩
 have a7:Uv l.prog w K mg a 1 ji zEw (QR ji):=by obtain⟨f,g,v,fn,F,b⟩:=IjT.ex;exact⟨f,g,⟨mkCTw,v,fn,kpCTw⟩,ZOo F c,b⟩
 have d:ZH l.prog w K mg a Ze 1 jh "twig_of" zEa (Zu jh):=Mm12.of λ_ _ F=>ZJ4 F c;have M:=Mm5.of λ_ _ F=>ZID F c d;have L:=Mm8.of λ_ _ F=>ZLA F c d;have J:=Mm4.of λ_ _ F=>Df F T c d;have O:∀ gt,ZH l.prog w K mg a (YC l.prog w) 3 jh "road_up" zEa (VP gt jh ji CD):=λgt=>Mm16.of λ_ _ F=>ZNR F c i5 d J;have c7:∀ gt,ZH l.prog w K mg a Ze 4 jh "alone" zEa (VQ gt jh ji):=λgt=>Mm6.of λ_ _ F=>ZLD F c i7 (O gt);have e0:ZH l.prog w K mg a Ze 1 jh "forget" zEo (WR jh ji):=Mm9.of λ_ _ F=>BM F c;have y:ZB l.prog w K mg a 1 "is_stem" ["twig"] (VM ji):=L14.of λ_ _ F=>ZNK F T c;have e4:=Mm7.of λ_ _ F=>ZNs F T c d y;have e7:ZH l.prog w K mg a Ze 1 jh "many" zEo (UP jh):=Mm11.of λ_ _ F=>Dj F T c;have e8:ZH l.prog w K mg a Ze 1 jh "numbers" zEo (Xn jh):=Mm10.of λ_ _ F=>E8 F T c;have N:=Mm3.of λ_ _ F=>Cf F c a7;have i2:=Mm15.of λ_ _ F=>ZF3 F c d;have i1:ZH l.prog w K mg a (YC l.prog w) 3 jh "twig_of" zEa (Xl jh CT):=Mm12.of λ_ _ F=>ZHn F c i6;have e3:=Mm8.of λ_ _ F=>AL F c i1;have e5:=Mm13.of λ_ _ F=>BE F c e3;have c8:=Mm14.of λ_ _ F=>ZFI F c i3 M;have t:ZB l.prog w K mg a 1 "_law_pull" zEe (YR):=L16.of λ_ _ F=>ZMM F;have DW:ZB l.prog w K mg a 1 "_law_well" zE0 (UI K):=L15.of λ_ _ F=>ZMk F T;have Q:ZB l.prog w K mg a 1 "has_few_figures" zE8 (Vm):=L4.of λ_ _ F=>ZO2 F T;have n:ZB l.prog w K mg a 1 "is_sign" ["sign"] (WM):=L5.of λ_ _ F=>Du F;have c5:ZB l.prog w K mg a 6 "standing" zFb (V9 5):=FZ T L7 5;have x:=L6.of λ_ _ F=>ZKh F c5;have ZK:XZ K mg "NoKey" CK:=⟨zA X G xCK,exCK,kpCK,mBCK,tyCK⟩;have ZL:XZ K mg "NoLeaf" CL:=⟨zA X G xCL,exCL,kpCL,mBCL,tyCL⟩;have ZS:XZ K mg "NoStem" CS:=⟨zA X G xCS,exCS,kpCS,mBCS,tyCS⟩;have a0:=L3.of λ_ _ F=>ZPl (Hb F T Q n (Jv T L3 Q n 3)) (Bj F T Q n (Jv T L3 Q n 3)) (zY _);have a4:=L1.of λ_ _ F=>ZJX F T a0;have U:Wa l.prog w K mg a 7 "checked" zE4 (Ue CK):=by obtain⟨f,g,F,b,m⟩:=(L2).ex;exact⟨f,g,ZGd F P ZK a4,b,F.kp,m⟩
 have H:Wa l.prog w K mg a 8 "own_rows" zEv (VC CK):=by obtain⟨f,g,F,b,m⟩:=(L9).ex;exact⟨f,g,BS F U,b,F.kp,m⟩
 have E:=L10.of λ_ _ F=>ZKc F T x;have a2:Wa l.prog w K mg a 9 "checked_rows" zEv (Vh CK CL):=by obtain⟨f,g,F,b,m⟩:=(L8).ex;exact⟨f,g,Hr F P T ZL H E,b,F.kp,m⟩
 have Y:ZB l.prog w K mg a 9 "checked_rows" zEv (WD):=L8.of λ_ _ F=>ZPU (Hr F P T ZL H E) λ_ _ _ _=>ZNN;have z:ZB l.prog w K mg a 1 "label_of_rows" zEv (Y2):=L11.of λ_ _ F=>Bt F T;have e9:=Mm1.of λ_ _ F=>ZIG F c Y z N;have c4:=L13.of λ_ _ F=>ZNM F T x;have D:Wa l.prog w K mg a 9 "label_over" ["labels"] (VL CS):=by obtain⟨f,g,F,b,m⟩:=(L12).ex;exact⟨f,g,ZK1 F P T i8 c4,b,F.kp,m⟩
 have i0:∀ gt,ZH l.prog w K mg a (YC l.prog w) 10 jh "put_stem" zEj (YM gt jh ji CS CT CH):=λgt=>Mm2.of λ_ _ F=>Bu F T c e5 D c8 N i2;have A:ZB l.prog w K mg a 7 "_law_less" zEt (Yp):=L18.of λ_ _ F=>ZNE F (Iz T L17 5);have r:ZB l.prog w K mg a 7 "_law_alike" zEc (YH 6):=Eo T L19 6;have a1:=L20.of λ_ _ F=>ZM3 F T t;have B:=L21.of λ_ _ F=>Dm F T t;have c2:∀ gt,ZB l.prog w K mg a 1 "_law_rows_of" zEb (WQ gt):=λgt=>L22.of λ_ _ F=>ZIj F T Tr;have j:∀ gt,ZB l.prog w K mg a 2 "_law_label" zEb (Yb gt):=λgt=>L23.of λ_ _ F=>Aq F T (c2 gt);have q:∀ gt,ZB l.prog w K mg a 1 "_law_above" zEb (XR gt):=λgt=>L24.of λ_ _ F=>Et F T;have u:∀ gt,ZB l.prog w K mg a 2 "_law_shared" zEk (Y0 gt):=λgt=>L25.of λ_ _ F=>Ca F T (q gt);have V:ZB l.prog w K mg a 1 "_law_count" zEc (VD):=L26.of λ_ _ F=>Ew F T;have k:=L32.of λ_ _ F=>ZJt F T t;have c6:ZB l.prog w K mg a 1 "_law_unheld" zEu (XV):=L30.of λ_ _ F=>ZJe F T;have I:∀ gt,ZB l.prog w K mg a 8 "_law_wrong" zEl (XX gt):=λgt=>L29.of λ_ _ F=>Bm F T (j gt) A;have c1:∀ gt,ZB l.prog w K mg a 4 "_law_run" zEg (UZ gt):=λgt=>L33.of λ_ _ F=>Cg F T t k (j gt);have DQ:ZB l.prog w K mg a 71 "_law_asked" zEx (YN l.prog w K mg a CB (λi=>[CK,CL,CS,CT,CH,CD].getD i 0)):=L28.of λ_ _ F=>ZLb F T i4;have Z:ZB l.prog w K mg a 8 "_law_exact" zEq (U4 λgt=>X7 gt jh ji):=L27.of λ_ _ F=>MG λgt=>ZKn F T c e8 e7 e4 L M J (c7 gt) e0 r V (j gt) (q gt) (u gt);have a8:ZB l.prog w K mg a 11 "_law_put_leaf" zEn (U4 λgt=>XL gt jh ji):=L34.of λ_ _ F=>MG λgt=>ZGi F T c B e9;have a9:ZB l.prog w K mg a 72 "_law_put_stem" zEf (U4 λgt=>XM gt jh ji tb0):=⟨f35,_,MG (λgt=>ZF4 (C:=λi=>[CK,CL,CS,CT,CH,CD].getD i 0) (Vk (st:=Vw) l35 c35 k35) a35 hta hC hB T c (NL kitx rfl (by decide) sbCS) (NL kitx rfl (by decide) sbCT) (NL kitx rfl (by decide) sbCH) (O5 wCT) (O5 wCH) (i0 gt) DQ (c1 gt) t k (I gt) c6 r),(Vk (st:=Vw) l35 c35 k35).binds λ_ _ _ _ _ _ p o=>match p,o with | [_,_],_=>rfl,k35,zA X G a35⟩
 have R:=L40.of λ_ _ F=>ZKf F T c a6 a1 a8 a9;have e2:=Mm17.of λ_ _ F=>AV F c d;have Td:mg "dict" = none:=yD X G z16;have e6:∀ gt,ZH l.prog w K mg a (YC l.prog w) 10 jh "labels_up" zE1 (X9 gt jh ji CS):=λgt=>Mm19.of λ_ _ F=>ZKS F c d L D;have e1:=Mm20.of λ_ _ F=>Cs F c d;have c9:∀ gt,ZH l.prog w K mg a (YC l.prog w) 11 jh "change_leaf" zEm (YA gt jh ji CK CL CD):=λgt=>Mm18.of λ_ _ F=>AK F P c ZL ZS slCS nmCS nmCL d y (O gt) a2 (e6 gt) z e1;have c3:∀ gt,ZB l.prog w K mg a 9 "_law_rises" zEp (X8 gt):=λgt=>L31.of λ_ _ F=>BG F T Td (q gt) (I gt);have c0:=L37.of λ_ _ F=>As F T A;have a5:∀ gt,ZB l.prog w K mg a 10 "_law_leaf_due" zEd (YL gt):=λgt=>L38.of λ_ _ F=>ZH4 F (u gt) c0 (c3 gt);have a3:ZB l.prog w K mg a 3 "_law_hold" zEf (U4 λgt=>VE gt jh ji):=L36.of λ_ _ F=>MG λgt=>ZKW F T c k e2;have S:ZB l.prog w K mg a 72 "_law_change_leaf" zEf (U4 λgt=>Xj gt jh ji tb1):=⟨f39,_,MG (λgt=>Bv (C:=λi=>[CK,CL,CS,CT,CH,CD].getD i 0) (Vk (st:=WT) l39 c39 k39) a39 htb l0 i9 T c (NL kitx rfl (by decide) sbCK) (NL kitx rfl (by decide) sbCL) (NL kitx rfl (by decide) sbCD) (O5 wCD) (c9 gt) DQ (a5 gt) r t B k (j gt) (u gt)),(Vk (st:=WT) l39 c39 k39).binds λ_ _ _ _ _ _ p o=>match p,o with | [_,_],_=>rfl,k39,zA X G a39⟩
 exact E9 (Vk (st:=Pi) l41 c41 k41) T DW t R a3 S Z
def tT(K:zZ)(p:Str):Addr:=((yF K p).getD (0,0)).2
def JA(K:zZ):Bool:=match yF K "_law_put_stem",yF K "_law_change_leaf" with
 | some a,some b=>a.2 != b.2
 | _,_=>false
def G2{K:zZ}(h:JA K=true):∃ g e i f,yF K "_law_put_stem" = some (g,e)/\yF K "_law_change_leaf" = some (i,f)/\e≠f:=by
 unfold JA at h
 cases c:yF K "_law_put_stem" with
 | none=>rw[c] at h;cases h
 | some a=>
  cases d:yF K "_law_change_leaf" with
  | none=>rw[c,d] at h;cases h
  | some b=>
   rw[c,d] at h;exact⟨a.1,a.2,b.1,b.2,rfl,rfl,by simpa using h⟩
def walk{l:uR}{q:am}{m:ju}{V:(jc)->aD->Prop}{M:aw->aD->Prop}{d:DefRec}{K:Params->zZ}(hn:l.most=some 63)(J:d.params.defaults=[])(hY:∀ (w:aw) (h:aD),M w h->(K w.params).In h)(A:((recsOf q).find? (λe=>e.name==(("_law_put_stem" : String):Str))).isSome=true)(j:((recsOf q).find? (λe=>e.name==(("_law_change_leaf" : String):Str))).isSome=true)(g:∀ w:aw,JA (K w.params)=true)(L:∀ w:aw,sY (K w.params)=true)(F:∀ (w:aw) (i:jc) (E:aj) (h:aD) (c T N B:aj),(K w.params).In h->h.Ns ap i->i d.name=some (.ref E)->yF (K w.params) "_law_put_stem" = some (c,T)->yF (K w.params) "_law_change_leaf" = some (N,B) ->
   ∃ I:ao,(∀ (s:al) (u:ai),BindsTo s I ⟨[u],[]⟩ [("_law_script",u)])/\∀ b:aD,(K w.params).In b->b.Ns ap i->xZ b c T->b.BuiltinsAt i T->xZ b N B->b.BuiltinsAt i B->ZJ l.prog w (K w.params) i b Ze 80 E I zFe (VG T B (K w.params))):
  tN q m V M l.row.toRowW d [] (λf vs=>PySem.call f vs):=by
 refine L2.NV (n:=63) (k:=80) (x:= "_law_script") (ps:=["_law_put_stem","_law_change_leaf"]) (sp:=λK=>VG (tT K "_law_put_stem") (tT K "_law_change_leaf") K) hn (by decide) J ⟨rfl,by decide,by decide⟩ hY (λp hp=>?_) L (λw i E h U G hm=>?_) (λw H a ns hl P hS=>?_)
 ·rcases zG.mp hp with z | z
  ·rw[z];exact A
  ·rw[yZ.mp z];exact j
 ·obtain⟨C,v,D,y,r,t,Q⟩:=G2 (g w);obtain⟨I,hb,Z⟩:=F w i E h C v D y U G hm r t;exists I,hb;intro b X Y O;obtain⟨p1,p2⟩:=O (C,v) (xO.mpr ⟨_,zM,r⟩);obtain⟨p3,p4⟩:=O (D,y) (xO.mpr ⟨_,zH _ zM,t⟩);have:=Z b X Y p1 p2 p3 p4
  rwa [show tT (K w.params) "_law_put_stem" = v from congrArg (λo:jW=>(o.getD (0,0)).2) r,show tT (K w.params) "_law_change_leaf" = y from congrArg (λo:jW=>(o.getD (0,0)).2) t]
 ·obtain⟨C,v,D,y,r,t,Q⟩:=G2 (g w);have q1:=P (C,v) (xO.mpr ⟨_,zM,r⟩);have q2:=P (D,y) (xO.mpr ⟨_,zH _ zM,t⟩);have R:tT (K w.params) "_law_put_stem" = v:=congrArg (λo:jW=>(o.getD (0,0)).2) r;have S:tT (K w.params) "_law_change_leaf" = y:=congrArg (λo:jW=>(o.getD (0,0)).2) t;exact⟨a,ns,rfl,hS,hl,by rw[R];exact q1,by rw[S];exact q2,by rw[R,S];exact Q,λ_=>rfl⟩
end Tw
open PySem PySem.W PyProof.Rows
namespace PySem.W.Fast
local macro_rules|`(universe $x*)=>return .node .none `null (←x.mapM λi=>`(def $i:ident:=0))
universe tw10024784829694938163 tw10039464419016270619 tw10122043699326010540 tw10234562234599772797 tw10269822370027340856 tw10334200661259094062 tw10359320008317292230 tw10407462904106633161 tw10432641344068070792 tw10450856059345985348 tw10478396008048753722 tw10482971991673642962 tw10539307449897101703 tw10577080308419567788 tw10658408490193146096 tw10674949422093323736 tw10676273070219611865 tw1068423215454802374 tw10690725847958548401 tw10693573885702333678 tw10699475000829302986 tw10707966232190486714 tw10812007047398195273 tw10817683469684223768 tw10821159158340713363 tw1083625204194280936 tw10866010120773561839 tw10880868931677990597 tw1094670073645124198 tw10997664663991569332 tw11029118894719342011 tw11034948911914322097 tw11045834569720087594 tw11089002412006494397 tw11090489826156033434 tw11113278488424355874 tw11168002525006117900 tw11184260878609899672 tw11213356617041798463 tw11275086585639980753 tw11295614279969606453 tw11306543473659233560 tw11318902583727308619 tw11339506260279130560 tw11347308560309671760 tw11353897717924440611 tw11354374974815169642 tw11424492004237505804 tw11489405271564756880 tw11492197344947149334 tw11527904194532618977 tw11531470173999815914 tw11541869564072298070 tw11547164520130652207 tw11555498516541398998 tw11567021039445622805 tw11580811054382778160 tw11581992006518201324 tw11595684424538557695 tw11619047552313175110 tw11659849858405462053 tw11662459687673478787 tw11666463838552628434 tw11683683119660104088 tw11700976229716783323 tw11719393697811502004 tw11747968827061040691 tw11759979794075802398 tw11770782252614292507 tw11782301053982817597 tw11819151553990431940 tw11826236186197137861 tw118329816577707819 tw11886468050301680624 tw11897131411875269013 tw1193455521031293045 tw11969670214506852560 tw12065666261774492743 tw12110290661209801413 tw12204769861067181451 tw12236634663254933020 tw12256676722948826038 tw12279862971434014935 tw12341560620065868819 tw12395498238137690439 tw12409687169016228066 tw12410089966335281965 tw12415011579377928234 tw12533852649375827806 tw12580697425036852794 tw12618889255299641208 tw12741354749873444766 tw12814104709440852074 tw128187803553362240 tw1286877446599132930 tw12898184883812053823 tw12952121598030007747 tw12995530093763525958 tw13052185804089402709 tw1307180275355642311 tw13102982779545778977 tw1314889560800920976 tw13152344757689311007 tw13171267726330819919 tw13203850892231466625 tw13209131006914494124 tw13262368247547037766 tw13361083126033563367 tw13395540589605982193 tw13420835065323651010 tw13462708696796892485 tw13482504438772553107 tw13494641947819573495 tw13518187098835892887 tw13530321747955076566 tw13543849220296099842 tw1357523187974627012 tw1359726459328753245 tw13604315424782400107 tw13619558693248804070 tw13640823899846478379 tw13697020281611498883 tw13697394932535695010 tw13727743373433911513 tw13736287048501185687 tw13792410910120565978 tw13875557989761396004 tw13886863414770881943 tw13950139085172345846 tw14014810735535227267 tw14050233510865768477 tw14076831514073762111 tw14104816832573271244 tw1412414477732319637 tw14170907553830508070 tw1419925142937143217 tw14228049531681578085 tw14229988121969961692 tw14306025196661352295 tw14378687711219017273 tw14455763633857979084 tw14486151443648384141 tw14506578050470174399 tw14515346385478492271 tw14631129593571886703 tw14652033369909978769 tw14674141821271996619 tw14682265514102078685 tw14682509703163974846 tw14709957989086705158 tw14711509342173228036 tw1474317859955067343 tw14764016792084566945 tw14773512854343208668 tw14790946528357992482 tw14794071094247372435 tw14815475463803215679 tw14842327667035517727 tw14860331196703559559 tw14864858809353088439 tw14917694081022490551 tw14975665599716438951 tw15075185288130525483 tw15085342419945601438 tw15146930906393278474 tw15166371450444598570 tw15170545223630708549 tw15226070801998673180 tw15240505523462430849 tw15240751269311668338 tw15281492912378692390 tw15295813510039818104 tw15336413692240035945 tw15378119285393917152 tw15505338250220722715 tw15537800409446478763 tw15571421965819660910 tw15583150368709628850 tw15587301014202836725 tw15597901821434678781 tw15609704801388191461 tw15621418413900771117 tw15650637495297020935 tw15651029324598983067 tw15654177540297910669 tw15676225832264606328 tw15684086705574610694 tw15691742956667440714 tw15764297495246580784 tw15770370199649383265 tw15796604390993580830 tw15807835294745705755 tw1581161758489144819 tw15812443453212979610 tw15831954089384810603 tw15832405934141697115 tw15934233263080655644 tw15943298767815043525 tw16027773971159541144 tw16102282778196694937 tw16139416712686543894 tw16141473304809438856 tw16200518537800671093 tw16209258051532779592 tw16209678422792683999 tw1621278741447462654 tw16222920222624077977 tw16224087490889005698 tw16307125371802545833 tw16403577078940214979 tw1645995121129302031 tw16504938018746819792 tw16541445377343841016 tw16547094819724904592 tw16620583544090965234 tw16649986637603595678 tw16653272362707365384 tw16719814686766568379 tw16734289944791313831 tw16739205451538775192 tw16764442018672673905 tw16801686236558559421 tw16812956340706070966 tw1686825122330808147 tw16899359955415166424 tw16970062895659421056 tw16971562440430995219 tw16981325637538144935 tw16986281660096908459 tw16998119203709978240 tw17002851635289584177 tw17022283004470121026 tw17036882270978366203 tw17065357425815328615 tw17073050653643328229 tw17075123982194319960 tw17117063423986960884 tw17133246126382276202 tw17135271692019718585 tw17172021194425927597 tw17203544744695385317 tw17238735885994942020 tw17262061972129765280 tw17329880825675449334 tw17330564403224326496 tw17377034722153945959 tw17423167085658930455 tw1742985234004238159 tw17441960271292915664 tw17446065910395790672 tw17462424524045192413 tw17508615207295740211 tw17552375786074843329 tw17555262702049066158 tw17558645943014216157 tw17615356280717909541 tw17649973346760756447 tw17701660485801178228 tw17757408199418340344 tw17864195298963454585 tw17918594093668121242 tw17953703795580938665 tw17962453564783196992 tw17974822982565331995 tw17975512499736878988 tw17980139382115468776 tw18055204023039034982 tw18098956496855235888 tw18140459674672159128 tw18163401138111257039 tw18169967229204888149 tw18237128262421108521 tw18261036483216864225 tw18386610041362720600 tw18389198958361214756 tw18409195512414061684 tw1872565381083598047 tw1885945536506815353 tw1953853228581222126 tw2064764360041028497 tw2140942323028511722 tw2147094282613541995 tw2238967518442120212 tw2244551478406543544 tw2257683651939407074 tw2258231504475831731 tw2296228485169968045 tw2329949550644759682 tw2346502676396812825 tw2464883763773774801 tw2501672338124536590 tw2514501806248374173 tw2536736544353818740 tw2582611509479445676 tw2620141955739076329 tw2621024872528691798 tw2664806778295377725 tw2718967863126595003 tw2737232365988992816 tw2784805323055461422 tw2797230096811021285 tw2868317853282479412 tw2874791062017949743 tw2878309631262545388 tw2930610130264250 tw2974011009814624440 tw3002862739066243826 tw3015103888427601251 tw3045975196690070886 tw3053266588342856377 tw3065204386590896131 tw306576870469133946 tw3072219877804523172 tw3076935210381593369 tw3086523002845021607 tw3141911845195475697 tw3180547707704094567 tw3211683782218593671 tw3229246295719509037 tw3251483503762365570 tw327705154235034741 tw3285099984794215788 tw3322193496070625330 tw3489682182718306409 tw3516070887119916045 tw3530010700598812775 tw3616032871630886804 tw3619218317118931470 tw364126773637480657 tw3646351228069405017 tw3676199378324184637 tw3745695589940806071 tw3775440287090001945 tw3871899371368130254 tw3901656413007264794 tw3910985575434677118 tw391106108141352811 tw3939142730577108106 tw3945136541392252001 tw3954286960664270740 tw4027992282470861429 tw4030989177522874196 tw4054304106261237845 tw4057108718786475323 tw408118189428906418 tw4093152574320576038 tw4206284005228484799 tw4261348541991363112 tw4272750033797766576 tw4323555300392586974 tw4390915172663532308 tw4479004944260101469 tw4496661790151578400 tw4543101396321610750 tw4556194038469311658 tw4574346475484119869 tw4579916090110968598 tw4601369730305703274 tw4676079230972737384 tw4712926910332869688 tw4733351902045818669 tw475649480216767311 tw4762679300202627710 tw476982054034182961 tw4775940372434493791 tw4817185264413971841 tw4824506512708575166 tw484395091418986645 tw4865131244081218235 tw4879868210628378311 tw4903413354897748152 tw4978989585360738483 tw4996898521409567278 tw5008280244066997960 tw5094075284198156862 tw5127303123136607172 tw5133508244811425599 tw5142187067128018070 tw5172078752180463987 tw5224049653683164456 tw5267519095200663013 tw5276956820274862013 tw5373747832742728973 tw5388195604682370182 tw5488054924696209462 tw5513439123886436025 tw5544203199496451779 tw562432461863338293 tw564790266581830897 tw5660768984903569096 tw5662969718693513471 tw5664972388579873412 tw5670406010949723544 tw5674134673106365080 tw5694956712963748787 tw5827301678351913640 tw585421619164084900 tw5879485506095597708 tw5945696869507002945 tw5947148737355456096 tw5955083103534543998 tw5995224378159920380 tw6015032643632184457 tw6032956620657052909 tw6042435641303289731 tw6056516702821330476 tw6087848698581206912 tw6107653355802663249 tw6147054584105080997 tw6178522173216828402 tw6236246431919941392 tw6287043116831332288 tw6347909953233719862 tw6378877087804583698 tw6444712046138766675 tw6467260577214564431 tw6526992339471789819 tw6530118771681778850 tw6530838955432940424 tw6548497697622974242 tw6548627527213803867 tw6570712390832636882 tw6572828558887863460 tw65947153912136049 tw6661227464300088553 tw6715040434617788638 tw6728302611934537261 tw6742588737205727949 tw6767732138508737674 tw6818018013947554593 tw6894971416051784208 tw6908917394177032781 tw6925207103032579659 tw6935564769340378625 tw6984622606083287214 tw7050522747153278239 tw7055609545876105817 tw710944952030899336 tw7118754098335182553 tw7119889829439481492 tw7124549396272804937 tw7134359650773814781 tw7151668687273703989 tw7176428025187626886 tw7207789797898092064 tw7231006163252748626 tw7266393059394316517 tw7269656349379879934 tw7270052517214389356 tw7287136197816917176 tw7312531729748667282 tw7364143292946693940 tw7385005323143891153 tw7385380578010942294 tw7439386965629794248 tw7443932357635475151 tw747505089834340148 tw7486176557525658934 tw7489041384313447646 tw7522173471702127121 tw755541250901690059 tw7625396545140334754 tw772557824061178125 tw7799462712867970661 tw78264632204035728 tw7889347186112640461 tw7900042098001636205 tw7904744121564430057 tw7920762693418557210 tw7955004510377600150 tw7973077842034792352 tw8042361367633103881 tw809654798861788897 tw8108303280766296449 tw8129040727731720913 tw8131423619558564632 tw8134922563580231367 tw8136002672190008461 tw8194187846086859325 tw8244523019380637510 tw8275211263174073569 tw8282417301181438530 tw8301094519536267035 tw8317475688301522934 tw8328334748366130943 tw8329010407976922786 tw8352643904153115983 tw8360105801354062091 tw8371810518518162001 tw8377494812667870650 tw8419746950015121953 tw8434889923106697437 tw8440679761268037036 tw8457379244887820805 tw846765366008033869 tw8499530253026965922 tw8500876839711058171 tw8532981924739061238 tw8533251112925685596 tw8620503496298381842 tw8629458206822527528 tw8654964593071968863 tw8808746752339532877 tw8830115722279034467 tw8854785594520562489 tw8868567662187649267 tw8914787216955963439 tw8931723740845080069 tw8934629263919440719 tw8956001012835633614 tw8985895825573674608 tw903176210023926129 tw9049890688481812358 tw9076485432289023978 tw9126919041768708490 tw9169936397267736344 tw920173797252157498 tw9229032429608354600 tw9234147382008668959 tw9245208811737596938 tw92625904636268272 tw9288450513573065263 tw9291707664243442937 tw9298351138301479232 tw9312525150006541461 tw9316077831412976825 tw932643078688762252 tw934372868351028755 tw9343810727950475736 tw9344333580665997955 tw9400575332741840741 tw9412527993061755124 tw9448825542765348457 tw947199878637060497 tw9516223377723643832 tw9541466065995919955 tw9563173950016065677 tw9573250840055322383 tw9583366015630053382 tw9653607549319180863 tw9654514604426470338 tw9708378950347325801 tw9721614972601919953 tw9827474355352385807 tw9834801066322669128 tw9870717646843380361 tw9876055832949662234 tw9884731100580758684 tw9890561020422627474 tw9891621977410939087 tw9912802007578699760 tw9917244587075106910 tw9937591637339439533 tw9937848737720892199 tw9958104055323288220 tw9961476138325361803 tw9982297256972030531 tw9987353514662356581
end PySem.W.Fast
set_option maxRecDepth 100000 in
set_option maxHeartbeats 0 in
theorem PySem.Challenge.cw_twigmap_k25_leaves_changed_holds : PySem.Challenge.rw_twigmap_k25_leaves_changed.Holds := by
 w_on;o_law;k_head;(case hw=>w_witness2)
 k_fill
 refine Tw.walk (l:=PySem.Challenge.rw_twigmap_k25_leaves_changed) rfl rfl (λw h Y=>PySem.W.km_in_of Y) ?qRec ?qRec2 ?qTab ?qNot ?qFun
 case qRec=>first | kernel_rfl | exact rfl
 case qRec2=>first | kernel_rfl | exact rfl
 case qTab=>intro w;kernel_rfl
 case qNot=>intro w;kernel_rfl
 case qFun=>
  intro w mg fa h cb tb cc tc KX G hmg hta htb;refine' Tw.IF KX G hmg hta htb (Tw.Lc KX G ?a1 ?l1 ?c1 ?k1) (Tw.Lc KX G ?a2 ?l2 ?c2 ?k2) (Tw.Lc KX G ?a3 ?l3 ?c3 ?k3) (Tw.Lc KX G ?a4 ?l4 ?c4 ?k4) (Tw.Lc KX G ?a5 ?l5 ?c5 ?k5) (Tw.Lc KX G ?a6 ?l6 ?c6 ?k6) (Tw.Lc KX G ?a7 ?l7 ?c7 ?k7) (Tw.Lc KX G ?a8 ?l8 ?c8 ?k8) (Tw.Lc KX G ?a9 ?l9 ?c9 ?k9) (Tw.Lc KX G ?A0 ?A1 ?A2 ?A3) (Tw.Lc KX G ?A4 ?A5 ?A6 ?A7) (Tw.Lc KX G ?A8 ?A9 ?Aa ?Ab) (Tw.Lc KX G ?Ac ?Ad ?Ae ?Af) (Tw.Lc KX G ?Ag ?Ah ?Ai ?Aj) (Tw.Lc KX G ?Ak ?Al ?Am ?An) (Tw.Lc KX G ?Ao ?Ap ?Aq ?Ar) (Tw.Lc KX G ?As ?At ?Au ?Av) (Tw.Lc KX G ?Aw ?Ax ?Ay ?Az) (Tw.Lc KX G ?B0 ?B1 ?B2 ?B3) (Tw.Lc KX G ?B4 ?B5 ?B6 ?B7) (Tw.Lc KX G ?B8 ?B9 ?Ba ?Bb) (Tw.Lc KX G ?Bc ?Bd ?Be ?Bf) (Tw.Lc KX G ?Bg ?Bh ?Bi ?Bj) (Tw.Lc KX G ?Bk ?Bl ?Bm ?Bn) (Tw.Lc KX G ?Bo ?Bp ?Bq ?Br) (Tw.Lc KX G ?Bs ?Bt ?Bu ?Bv) (Tw.Lc KX G ?Bw ?Bx ?By ?Bz) (Tw.Lc KX G ?C0 ?C1 ?C2 ?C3) (Tw.Lc KX G ?C4 ?C5 ?C6 ?C7) (Tw.Lc KX G ?C8 ?C9 ?Ca ?Cb) (Tw.Lc KX G ?Cc ?Cd ?Ce ?Cf) (Tw.Lc KX G ?Cg ?Ch ?Ci ?Cj) (Tw.Lc KX G ?Ck ?Cl ?Cm ?Cn) (Tw.Lc KX G ?Co ?Cp ?Cq ?Cr) ?Cs ?Ct ?Cu ?Cv (Tw.Lc KX G ?Cw ?Cx ?Cy ?Cz) (Tw.Lc KX G ?D0 ?D1 ?D2 ?D3) (Tw.Lc KX G ?D4 ?D5 ?D6 ?D7) ?D8 ?D9 ?Da ?Db (Tw.Lc KX G ?Dc ?Dd ?De ?Df) ?Dg ?Dh ?Di ?Dj ?z1 ?z2 ?z3 ?z4 ?z5 ?z6 ?z7 ?z8 ?z9 ?Dk ?Dl ?Dm ?Dn ?Do ?Dp ?Dq ?Dr ?Ds ?Dt ?Du ?Dv ?Dw ?Dx ?Dy ?Dz ?E0 ?E1 (Tw.MQ ?E2 ?E3 ?E4 ?E5 ?E6) (Tw.MQ ?E7 ?E8 ?E9 ?Ea ?Eb) ?Ec ?Ed ?Ee ?Ef ?Eg ?Eh ?Ei ?Ej ?Ek (Tw.MB ?El ?Em ?En ?Eo ?Ep) (Tw.MB ?Eq ?Er ?Es ?Et ?Eu) (Tw.MB ?Ev ?Ew ?Ex ?Ey ?Ez) (Tw.MB ?F0 ?F1 ?F2 ?F3 ?F4) (Tw.MB ?F5 ?F6 ?F7 ?F8 ?F9) (Tw.MB ?Fa ?Fb ?Fc ?Fd ?Fe) (Tw.MB ?Ff ?Fg ?Fh ?Fi ?Fj) (Tw.MB ?Fk ?Fl ?Fm ?Fn ?Fo) (Tw.MB ?Fp ?Fq ?Fr ?Fs ?Ft) (Tw.MB ?Fu ?Fv ?Fw ?Fx ?Fy) (Tw.MB ?Fz ?G0 ?G1 ?G2 ?G3) (Tw.MB ?G4 ?G5 ?G6 ?G7 ?G8) (Tw.MB ?G9 ?Ga ?Gb ?Gc ?Gd) (Tw.MB ?Ge ?Gf ?Gg ?Gh ?Gi) (Tw.MB ?Gj ?Gk ?Gl ?Gm ?Gn) (Tw.MB ?Go ?Gp ?Gq ?Gr ?Gs) (Tw.MB ?Gt ?Gu ?Gv ?Gw ?Gx) (Tw.MB ?Gy ?Gz ?H0 ?H1 ?H2) (Tw.MB ?H3 ?H4 ?H5 ?H6 ?H7) (Tw.MB ?H8 ?H9 ?Ha ?Hb ?Hc) ?Hd ?He ?Hf ?Hg ?Hh ?Hi ?Hj ?Hk ?Hl ?Hm ?Hn ?Ho ?Hp ?Hq ?Hr ?Hs ?Ht ?Hu ?Hv ?Hw ?Hx ?Hy ?Hz ?I0 ?I1 ?I2 ?I3 ?I4 ?I5 ?I6 ?I7 ?I8 ?mB ?I9 ?Ia ?Ib ?Ic ?Id ?Ie ?If ?Ig ?Ih ?Ii ?Ij ?Ik ?Il ?Im ?In ?Io ?Ip ?Iq ?Ir ?Is ?It ?Iu ?Iv ?Iw ?Ix ?Iy ?Iz ?J0 ?J1 ?J2
  (case Hd|He|Hf|Hg|Hh|Hi|Hj|Hk|Hl|E2|E7|Hm|Hn|Ho|El|Eq|Ev|F0|F5|Fa|Ff|Fk|Fp|Fu|Fz|G4|G9|Ge|Gj|Go|Gt|Gy|H3|H8|a1|l1|c1|k1|a2|l2|c2|k2|a3|l3|c3|k3|a4|l4|c4|k4|a5|l5|c5|k5|a6|l6|c6|k6|a7|l7|c7|k7|a8|l8|c8|k8|a9|l9|c9|k9|A0|A1|A2|A3|A4|A5|A6|A7|A8|A9|Aa|Ab|Ac|Ad|Ae|Af|Ag|Ah|Ai|Aj|Ak|Al|Am|An|Ao|Ap|Aq|Ar|As|At|Au|Av|Aw|Ax|Ay|Az|B0|B1|B2|B3|B4|B5|B6|B7|B8|B9|Ba|Bb|Bc|Bd|Be|Bf|Bg|Bh|Bi|Bj|Bk|Bl|Bm|Bn|Bo|Bp|Bq|Br|Bs|Bt|Bu|Bv|Bw|Bx|By|Bz|C0|C1|C2|C3|C4|C5|C6|C7|C8|C9|Ca|Cb|Cc|Cd|Ce|Cf|Cg|Ch|Ci|Cj|Ck|Cl|Cm|Cn|Co|Cp|Cq|Cr|Cs|Ct|Cu|Cv|Cw|Cx|Cy|Cz|D0|D1|D2|D3|D4|D5|D6|D7|D8|D9|Da|Db|Dc|Dd|De|Df|Dg|Dh|Di|Dj|z1|z2|z3|z4|z5|z6|z7|z8|z9|Dk|Dl|Dm|Dn|Do|Dp|Dq|Dr|Ds|Dt|Du|Dv|Dw|Dx|Dy|Dz|E0|E1|E3|E5|E6|E8|Ea|Eb|Ec|Ed|Ee|Ef|Eg|Eh|Ei|Ej|Ek|Em|Eo|Ep|Er|Et|Eu|Ew|Ey|Ez|F1|F3|F4|F6|F8|F9|Fb|Fd|Fe|Fg|Fi|Fj|Fl|Fn|Fo|Fq|Fs|Ft|Fv|Fx|Fy|G0|G2|G3|G5|G7|G8|Ga|Gc|Gd|Gf|Gh|Gi|Gk|Gm|Gn|Gp|Gr|Gs|Gu|Gw|Gx|Gz|H1|H2|H4|H6|H7|H9|Hb|Hc|E4|E9|En|Es|Ex|F2|F7|Fc|Fh|Fm|Fr|Fw|G1|G6|Gb|Gg|Gl|Gq|Gv|H0|H5|Ha|Hp|Hq|Hr|Hs|Ht|Hu|Hv|Hw|Hx|Hy|Hz|I0|I1|I2|I3|I4|I5|I6|I7|I8|mB=>k_is)
  (case I9|Ia=>kernel_rfl)
  (case Ib=>k_is)
  (case Ic=>kernel_rfl)
  (case Id=>k_is)
  (case Ie=>kernel_rfl)
  (case If|Ig|Ih|Ii|Ij|Ik|Il=>k_is)
  (case Im=>k_exc)
  (case In|Io|Ip=>k_is)
  (case Iq=>k_exc)
  (case Ir|Is|It|Iu=>k_is)
  (case Iv|Iw=>kernel_rfl)
  (case Ix=>k_exc)
  (case Iy|Iz|J0|J1|J2=>k_is)
