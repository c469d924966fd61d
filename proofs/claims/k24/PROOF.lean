import PyProof.Rows.All
import Wide.All
import OpenK.AllK
import Wide.FinOn
import Lean
import PyProof.EqAt
import PyProof.EqKinds
import PyProof.TupleCall
import PyProof.NsDelKeeps
import PyProof.ExcBaseAll.ValueError
import KE.KIsAll
import PyProof.ExcArgsOwn
import PyProof.ExcAttrAll.ValueError
import PyProof.NeKinds
import KE.KLam
import PyProof.Rows.SumAny
import PyProof.ListMulRoad
import PyProof.FactsAll.tuple
import KE.KDictList
import PyProof.Rows.SortWalk
import KE.KEqDict
import KE.KRevIter
import PyProof.InstStoreFacts
import PyProof.ExcClass3
import PyProof.WalkInts
import PyProof.SeqI3
import KE.KSortTup
import KE.KFind
import PySem.Challenge.RW_twigmap_k24_holds_counted
open PySem renaming wpAny_bind→aa,wpAny_pure→ad,wpAny_mono→ae,wpAny_holding→af,wpAny_Call_Name_kw→ag,wpAny_standAt→ah,Value→ai,Addr→aj,Shared→ak,Program→al,FuncData→am,mainGlobals→ao,sizeLine→ap,starEach→aq,World→ar,Around→aw,bootBuiltins→ax,compareOp→ay,model→az,wpAny→aA,Stmt→aB,Heap→aC,Scope→aD,backTo→aE,codeAny→aF,eval→aG,Obj→aH,Pos→aI
universe u
def aJ{p:Prop}[Decidable p](h:¬p):decide p=false:=decide_eq_false h
def aK{p:Prop}[Decidable p](h:p):decide p=true:=decide_eq_true h
def aM{c:Prop}{h:Decidable c}(n:¬c){α:Sort u}{t e:α}:(ite c t e)=e:=if_neg n
def aO{c:Prop}{h:Decidable c}(n:c){α:Sort u}{t e:α}:(ite c t e)=t:=if_pos n
set_option Elab.async false
set_option linter.all false
set_option maxRecDepth 100000
set_option maxHeartbeats 8000000
open PySem.W renaming Frag->zZ,nsIn->zR,findIn->zG,mg_of->zB,keepIn->yU,kitOne->yT,mroIn->yV,mg_none_of->yC,tabIn->yK,Looks->yL,typeIn->yA,fnOf->yI,CodeHd->xV,kia_one->xQ,codeIn->xR,emptyDict->xB,kla_obj->wV,instObj->wW,hasDictIn->wM,callWith_K->vV,tabObj->wP,plainGet->vY,isFn->wY,hideAll->wA,looks_findIn->uE,looks_mroIn->uH,envX->vR,lookIn->vN,plainOver->uM,any_some->uO,methodCall_KW->sR,makesIn->uR,OpenLaw->uS,hideAll_none->sT,plainGet_of->sW,looks_clsIn->sX,hideAll_get->sY,callWith_K0->sZ,of_hideAll->tF,excIn->uX,methodObj->tL,kat_cons->tN,takerIn->sE,kat_yes->sF,noTabs->sK,kla_fn->sL,kat_no->sM,kat_go->tR,KdlSrc->tS,InstAt->tU,WalkO->tZ,cellsFrom_some->rJ,looks_typeIn->rT,tail_of_in->rY
open List renaming getElem?_eq_getElem->zU,getD_eq_getElem?_getD->zP,length_map->zX,size_toArray->zN,mem_cons_self->zF,mem_cons_of_mem->zD,getElem?_map->zJ,mem_of_getElem?->zA,all_eq_true->zK,length_append->zE,mem_singleton->zC,getElem?_eq_some_iff->yJ,mem_map->zM,mem_append_right->yN,map_map->zL,mem_append->yY,take_of_length_le->yF,range->zQ,mem_cons->yZ,map_append->yR,mem_append_left->xW,length_cons->yH,take_add_one->yD,map_cons->yS,length_singleton->xI,getElem?_append_right->wR,mem_filter->xU,getElem?_append_left->wS,mem_filterMap->xJ,drop_eq_getElem_cons->wK,lookup_cons->xM,eq_nil_of_length_eq_zero->vS,getElem_mem->xG,length->xY,mem_range->xN,toArray->xS,flatMap_cons->wU,find?_cons->xD,append_nil->wX,lookup->xO,length_pos_iff->vU,nodup_cons->wO,length_filter_le->vD,getElem?_eq_none->vE,cons_lt_cons_iff->vF,pairwise_append->vG,replicate->wQ,not_mem_nil->vZ,pairwise_cons->vJ,find?_eq_none->vK,filter_append->vL,eq_nil_or_concat->uF,concat_eq_append->uG,all_map->wG,exists_mem_of_length_pos->sD,any_cons->vQ,not_lt_nil->vC,map_congr_left->uJ,getElem_of_mem->uK,filterMap_cons->uL,erase_sublist->uN,Sublist->wC,mem_flatMap->uT,filter_cons->uU,getElem?_set_self->sS,take_append_drop->sV,map_nil->vP,getElem?_set_ne->tE,toList_toArray->tH,length_reverse->tI,filter_sublist->tJ,all_cons->uZ,take_succ_eq_append_getElem->qV,length_range->tO,filter_congr->tP,eraseIdx_eq_take_drop_succ->qW,nil_lt_cons->sG,mem_toArray->sH,mem_reverse->sI,cons_append->sJ,dropLast_concat_getLast->qX,sum_append->tW,of_mem_zip->tX,foldl_cons->tY,perm_ext_iff_of_nodup->rH,ne_nil_of_length_pos->rM,mem_of_find?_eq_some->rN,sum_cons->uB,pairwise_singleton->rV,getLast_eq_getElem->rW,mem_of_mem_erase->rZ
open PySem.Heap renaming get?_push_of_some->zS,lt_size->zW,get?_push_size->yW,get?_update_other->yB,get?_update_self->wT,get?_none_of_le->vH,size_push->wB,SameBut->wH,get?_update_ne->tK
open Bool renaming false_ne_true->zV,and_eq_true->zT,eq_iff_iff->xH,false_eq_true->vW,eq_false_iff->uP,false_and->uY,true_and->vA,not_eq_true'->tQ
open Nat renaming le_refl->zY,le_of_ble_eq_true->yP,ne_of_lt->zO,lt_of_lt_of_le->yQ,le_trans->zI,zero_le->yX,lt_succ_self->yE,lt_or_ge->yO,lt_of_le_of_lt->xP,le_of_lt->xX,ne_of_gt->xT,lt_irrefl->xE,succ->xZ,lt_succ_of_lt->vX,le_succ->xA,le_of_eq->wD,le_succ_of_le->uQ,le_of_not_lt->uW,not_lt->wE,sub_lt_sub_left->tM,le_add_right->tV,add_le_add->uA,sub_le->vB
open PySem.F renaming plainAttrs_list->yM,type_list_append->xK,slot_list_append->xL,plain_max_loop->wL,slot_tuple_mul->uI,type_list_clear->sO,slot_list_clear->sP,entry_max_loop->sQ,excBase_ValueError->qU,store_ValueError->qY,args_tuple_mul_2->qZ,args_tuple_add_2->rA,type_list_index->rB,slot_tuple_rmul->rC,slot_list_index->rD,plain_list_iadd->rE,entry_tuple_mul->rF,entry_tuple_add->rG,slot_tuple_add->rK,type_list_pop->rP,slot_list_pop->rQ,slot_int_rmul->rR,slot_dict_pop->rS
open Option renaming map_eq_some_iff->yG,some->zH,isSome_iff_exists->sN,map_some->uV,bind_eq_some_iff->rL,none->uD
open Array renaming getElem?_eq_some_iff->wI,getElem?_eq_getElem->wJ,length_toList->vT,append_assoc->vI,toList_append->tG,toList->uC,getElem?_toList->rX,toArray_toList->sB,mem_toList_iff->sC
open PySem.Str renaming ofString->wZ
open Int renaming emod_lt_of_pos->vM,emod_nonneg->vO,toNat->wF,fdiv_eq_ediv_of_nonneg->rO
local macro_rules|`(tactic|exists $e,*)=>`(tactic|refine ⟨$e,*, ?_⟩)
local macro_rules|`(∅)=>`(by lia)
abbrev ja:=PySem.Value->PySem.Shared->Prop
abbrev jb:=PySem.Str->Option PySem.Value
abbrev jc:=Option PySem.Value
abbrev jd:=List PySem.Value
abbrev zEa:List PySem.Str:=["self","number"]
abbrev zEb:List PySem.Str:=["_law_well_here","_law_state"]
abbrev zEc:List PySem.Str:=["_law_twigs","_law_number"]
abbrev zEd:List PySem.Str:=["_law_found","_law_due"]
abbrev zEe:List PySem.Str:=["_law_well_here","_law_twigs","_law_holds","_law_grid_here"]
abbrev zEf:List PySem.Str:=["_law_well_here","_law_many"]
abbrev zEg:List PySem.Str:=["_law_well_here","_law_some"]
abbrev zEh:List PySem.Str:=["self","numbers"]
abbrev zEi:List PySem.Str:=["_law_well_here","_law_state","_law_block"]
abbrev zEj:List PySem.Str:=["_law_twigs","_law_numbers","_law_high"]
abbrev zEk:List PySem.Str:=["_law_well_here","_law_grid_here","_law_block"]
abbrev zEl:List PySem.Str:=["_law_well_here","_law_leaves","_law_stems"]
abbrev zEm:List PySem.Str:=["_law_twigs","_law_holds","_law_number"]
abbrev zEn:List PySem.Str:=["self"]
abbrev zEo:List PySem.Str:=["_law_shelf","_law_twigs","_law_holds"]
abbrev zEp:List PySem.Str:=["_law_holds","_law_numbers"]
abbrev zEq:List PySem.Str:=["_law_twigs","_law_holds"]
abbrev zEr:List PySem.Str:=["_law_one","_law_other"]
abbrev zEs:List PySem.Str:=["self","things","label"]
abbrev zEt:List PySem.Str:=["thing","room"]
abbrev zEu:List PySem.Str:=["self","things","tag"]
abbrev zEv:List PySem.Str:=["rows"]
abbrev zEw:List PySem.Str:=["self","stem","branches"]
abbrev zEx:List PySem.Str:=["label","following"]
abbrev zEy:List PySem.Str:=["_law_script","_law_k"]
abbrev zEz:List PySem.Str:=["thing"]
abbrev zE0:List PySem.Str:=["one","other"]
abbrev zE1:List PySem.Str:=["_law_call"]
abbrev zE2:List PySem.Str:=["_law_key"]
abbrev zE3:List PySem.Str:=["self","number","twig"]
abbrev zE4:List PySem.Str:=["_law_well_here"]
abbrev zE5:List PySem.Str:=["_law_shelf","_law_handed"]
abbrev zE6:List PySem.Str:=["_law_shelf","_law_number"]
abbrev zE7:List PySem.Str:=["self","rows"]
abbrev zE8:List PySem.Str:=["key"]
abbrev zE9:List PySem.Str:=["number"]
abbrev zFa:List PySem.Str:=["_law_script"]
abbrev jo:=List Nat
abbrev jr:=List PySem.Str
abbrev js:=List (aj×aH)
abbrev ju:=List aj
abbrev jv:=Option aj
abbrev jw:=Array ai
abbrev jy:=List PySem.Expr
abbrev jz:=List Int
abbrev jA:=List PySem.Env
abbrev jB:=Array Nat
abbrev jC:=List (PySem.Str×aj)
abbrev jG:=List (PySem.Str×ai)
abbrev jJ:=List aB
abbrev jK:=List (Int×Int×Int)
abbrev jL:=Option Nat
abbrev jM:=List Bool
abbrev jO:=Option (aj×aj)
namespace L2
open PySem PySem.Spec PyProof.Rows
abbrev ZR:=Sum Int Str
abbrev jE:=List ZR
def PJ:ZR->ai->Bool
 | .inl k,v=>Value.isInt k v
 | .inr x,v=>Value.isStrOf x v
def Fp(w:ar):ZR->Int
 | .inl k=>hashInt k
 | .inr x=>hashStr w x
def Ub:∀{k:ZR}{v:ai},PJ k v=true->(∃ i t,k=Sum.inl i/\v=Value.int i t)\/(∃ x t,k=Sum.inr x/\v=Value.str x t)
 | .inl i,v,h=>by
  obtain⟨t,e⟩:=Value.isInt_shape (k:=i) (v:=v) h;exact .inl ⟨i,t,rfl,e⟩
 | .inr x,v,h=>by
  obtain⟨t,e⟩:=Value.isStrOf_shape (x:=x) (v:=v) h;exact .inr ⟨x,t,rfl,e⟩
def C8(i:Int)(t:Tok):PJ (.inl i) (.int i t)=true:=by simp[PJ,Value.isInt]
def ZHc(x:Str)(t:Tok):PJ (.inr x) (.str x t)=true:=by simp[PJ,Value.isStrOf]
def EC(a b:Int):decide ((Sum.inl a:ZR)=Sum.inl b)=(a==b):=by
 by_cases e:a=b
 ·subst e;simp
 ·have h:¬ (Sum.inl a:ZR)=Sum.inl b:=λq=>e (Sum.inl.inj q);rw[aJ h];exact(beq_eq_false_iff_ne.mpr e).symm
def Dc(a b:Str):decide ((Sum.inr a:ZR)=Sum.inr b)=decide (a=b):=by
 by_cases e:a=b
 ·subst e;simp
 ·have h:¬ (Sum.inr a:ZR)=Sum.inr b:=λq=>e (Sum.inr.inj q);rw[aJ h,aJ e]
def FP(a:Int)(b:Str):decide ((Sum.inl a:ZR)=Sum.inr b)=false:=aJ (λq=>nomatch q)
def Ac(a:Str)(b:Int):decide ((Sum.inr a:ZR)=Sum.inl b)=false:=aJ (λq=>nomatch q)
def VD(c:al)(w:ar):PySem.KeyKind c w ZR where
 is:=PJ
 hash:=Fp w
 inj:=λv a b g f=>by
  rcases Ub g with ⟨i,t,rfl,rfl⟩ | ⟨x,t,rfl,rfl⟩
  ·rcases Ub f with ⟨j,u,rfl,e⟩ | ⟨y,u,rfl,e⟩
   ·injection e with e1 _;rw[e1]
   ·exact nomatch e
  ·rcases Ub f with ⟨j,u,rfl,e⟩ | ⟨y,u,rfl,e⟩
   ·exact nomatch e
   ·injection e with e1 _;rw[e1]
 byValue:=λk v h=>by
  rcases Ub h with ⟨i,t,rfl,rfl⟩ | ⟨x,t,rfl,rfl⟩ <;> rfl
 pyHash:=λd h=>by
  rcases Ub d with ⟨i,t,rfl,rfl⟩ | ⟨x,t,rfl,rfl⟩
  ·exact wpAny_pyHash_int h
  ·exact wpAny_pyHash_str h
 eqBool:=λl d h=>by
  rcases Ub l with ⟨i,t,rfl,rfl⟩ | ⟨x,t,rfl,rfl⟩
  ·rcases Ub d with ⟨j,u,rfl,rfl⟩ | ⟨y,u,rfl,rfl⟩
   ·rw[EC] at h;exact wpAny_eqBool_int h
   ·rw[FP] at h;exact SeqAt.EqAt.int_str i t y u _ _ _ _ h
  ·rcases Ub d with ⟨j,u,rfl,rfl⟩ | ⟨y,u,rfl,rfl⟩
   ·rw[Ac] at h;exact SeqAt.EqAt.str_int x t j u _ _ _ _ h
   ·rw[Dc] at h;exact wpAny_eqBool_str h
 «strs» :=λk x t v h=>by
  rcases Ub h with ⟨i,u,rfl,e⟩ | ⟨y,u,rfl,e⟩
  ·exact nomatch e
  ·injection e with e1 _;subst e1;cases v <;> rfl
def AY(a:al)(w:ar)(i:Int)(t:Tok):(VD a w).is (.inl i) (.int i t)=true:=C8 i t
def ZF4(a:al)(w:ar)(x:Str)(t:Tok):(VD a w).is (.inr x) (.str x t)=true:=ZHc x t
inductive V where
 | non | bl (b:Bool) | int (i:Int) | str (x:Str) | byt (b:Array UInt8) | flt (b:UInt64) | ref (a:aj) | ty (n:String)
 deriving DecidableEq
abbrev je:=List V
abbrev jf:=Option V
def ZS:V->ai->Prop
 | .non,u=>u=Value.none
 | .bl b,u=>u=Value.bool b
 | .int i,u=>∃ t,u=Value.int i t
 | .str x,u=>∃ t,u=Value.str x t
 | .byt b,u=>∃ t,u=Value.bytes b t
 | .flt b,u=>∃ t,u=Value.float b t
 | .ref a,u=>u=Value.ref a
 | .ty n,u=>u=Value.type n
abbrev ZO:je->jd->Prop:=Paired ZS
def ZO.length{b:je}{a:jd}(r:ZO b a):b.length=a.length:=Paired.length r
def ZO.get:∀{b:je}{a:jd}{i:Nat}{x:V},ZO b a->b[i]? = some x->∃ u,a[i]? = some u/\ZS x u
 | _,_,_,_,.nil,e=>by simp at e
 | _,_,0,_,.cons r _,e=>by simp at e;subst e;exact⟨_,rfl,r⟩
 | _,_,i+1,x,.cons _ t,e=>by
  obtain⟨u,c,d⟩:=ZO.get (i:=i) (x:=x) t (by simpa using e)
  exact⟨u,by simpa using c,d⟩
def ZO.set{x:V}{u:ai}(r:ZS x u):∀{b:je}{a:jd}(i:Nat),ZO b a->ZO (b.set i x) (a.set i u)
 | _,_,_,.nil=>.nil
 | _,_,0,.cons _ t=>.cons r t
 | _,_,i+1,.cons q t=>.cons q (ZO.set r i t)
def ZO.append:∀{c d:je}{a b:jd},ZO c a->ZO d b->ZO (c++d) (a++b):=by intro _ _ _ _ h g;induction h with
 | nil=>exact g
 | cons r _ e=>exact .cons r e
def ZO.take:∀{b:je}{a:jd}(n:Nat),ZO b a->ZO (b.take n) (a.take n)
 | _,_,0,_=>.nil
 | _,_,_+1,.nil=>.nil
 | _,_,n+1,.cons r t=>.cons r (ZO.take n t)
def ZO.drop:∀{b:je}{a:jd}(n:Nat),ZO b a->ZO (b.drop n) (a.drop n)
 | _,_,0,r=>r
 | _,_,_+1,.nil=>.nil
 | _,_,n+1,.cons _ t=>ZO.drop n t
def Yc:jf->jc->Prop
 | some v,some u=>ZS v u
 | none,none=>True
 | _,_=>False
def KV{a:Type}:List (a×V)->List (a×ai)->Prop:=Paired fun(p:a×V)(q:a×ai)=>p.1=q.1/\ZS p.2 q.2
def kV:ZR->V
 | .inl i=>.int i
 | .inr x=>.str x
inductive HO where
 | lst (xs:je)
 | tup (xs:je)
 | dK (kvs:List (ZR×V)) | dT (kvs:List (jE×V))
 | set (S:Int->Bool) (n:Nat)
 | ins (C dx:aj) (fs:List (Str×V))
 | own (x:aj)
 | xd (fs:List (Str×V))
 | met (f x:aj)
 | rng (lo hi:Int)
 | frz (o:aH) (u:HO)
 | tbl (ps:jw)
 | ext (φ:aC->Prop)
abbrev Hp:=aj->Option HO
def upd(H:Hp)(a:aj)(o:HO):Hp:=λb=>if b=a then some o else H b
def ZK{H:Hp}{a:aj}{o:HO}:upd H a o a=some o:=by unfold upd;rw[aO rfl]
def ZM{H:Hp}{a b:aj}{o:HO}(h:b≠a):upd H a o b=H b:=by unfold upd;rw[aM h]
def MB{H:Hp}{a:aj}{o u:HO}:upd (upd H a o) a u=upd H a u:=by
 funext b;unfold upd;split <;> rfl
def ZD{H:Hp}{a b:aj}{o u:HO}(h:H a=some o)(c:H b=some u)(d:o≠u:=by intro z;cases z):a≠b:=by
 intro e;subst e;rw[h] at c;exact d (zH.inj c)
def ZY{H:Hp}{a b:aj}{o:HO}(h:H a=some o)(c:H b=none):a≠b:=by
 intro e;subst e;rw[h] at c;cases c
section
variable(P:al)(w:ar)
def Zb(H:Hp)(h:aC)(a:aj):HO->Prop
 | .lst c=>c.length<=ap/\∃(b:jd)(n:Nat),ZO c b/\h.get? a=some { cls:=.type "list",data:=.seq b.toArray n }
 | .tup c=>c.length<=ap/\∃ b:jd,ZO c b/\IsTup h a b.toArray
 | .dK kvs=>kvs.length<=ap/\(a==sysModules)=false/\∃ l,KV kvs l/\h.DictOf (VD P w) a l
 | .dT kvs=>kvs.length<=ap/\(a==sysModules)=false/\∃ c:List (jE×aj×ai),
   Paired (fun(p:jE×V)(q:jE×aj×ai)=>p.1=q.1/\H q.2.1=some (.tup (p.1.map kV))/\ZS p.2 q.2.2) kvs c /\
   ∃ o i m,h.get? a=some o/\o.ExactDict/\o.data=.dict i m/\i.toList=c.map (entryOfKey (tupleKind (VD P w)))/\(c.map (·.1)).Nodup
 | .set S n=>h.SetOf (intKind P w) a S n
 | .ins C g e=>H g=some (.own a)/\e.length<=1000/\g≠a/\h.get? a=some (wW C g) /\
   ∃ d,h.Ns1 g d/\(∀ f,Yc (e.lookup f) (d f))/\PySem.Within d (e.map (·.1))
 | .own _=>∃ o,h.get? a=some o
 | .xd e=>∃ d,h.Ns1 a d/\∀ f,Yc (e.lookup f) (d f)
 | .rng lo r=>∃ t u v,h.get? a=some { cls:=.type "range",data:=.fields #[.int lo t,.int r u,.int 1 v] }
 | .frz o u=>h.get? a=some o/\Zb H h a u
 | .tbl ps=>h.get? a=some { cls:=.none,data:=.fields ps }
 | .met f x=>h.get? a=some (tL (.ref f) (.ref x))
 | .ext φ=>φ h/\(∃ o,h.get? a=some o)/\∀ j k:aC,φ j->(∀ o,j.get? a=some o->k.get? a=some o)->φ k
def YG(H:Hp)(h:aC):Prop:=∀ a o,H a=some o->Zb P w H h a o
end
section
variable{P:al}{w:ar}{H H':Hp}{h h':aC}{a:aj}{o:HO}
def Zb.lt(x:Zb P w H h a o):a<h.objs.size:=by
 cases o with
 | lst d=>obtain⟨_,_,_,_,e⟩:=x;exact zW e
 | tup d=>obtain⟨_,_,_,p⟩:=x;exact p.lt
 | dK b=>obtain⟨_,_,_,_,o,_,_,e,_⟩:=x;exact zW e
 | dT b=>obtain⟨_,_,_,_,o,_,_,e,_⟩:=x;exact zW e
 | set S n=>obtain⟨o,_,_,_,e,_⟩:=x;exact zW e
 | ins C g c=>obtain⟨_,_,_,e,_⟩:=x;exact zW e
 | own y=>obtain⟨_,e⟩:=x;exact zW e
 | xd c=>obtain⟨_,⟨_,_,_,e,_⟩,_⟩:=x;exact zW e
 | rng j i=>obtain⟨_,_,_,e⟩:=x;exact zW e
 | frz k u=>obtain⟨e,_⟩:=x;exact zW e
 | tbl l=>exact zW (show h.get? a=some _ from x)
 | met f y=>exact zW (show h.get? a=some _ from x)
 | ext m=>obtain⟨_,⟨_,e⟩,_⟩:=x;exact zW e
def Paired.mapP{e g:Type}{F G:e->g->Prop}:∀{c:List e}{d:List g},Paired F c d->(∀ a b,F a b->G a b)->Paired G c d:=by intro _ _ h f;induction h with
 | nil=>exact .nil
 | cons r _ i=>exact .cons (f _ _ r) i
def Zb.stay(x:Zb P w H h a o)(k:∀ b u,(b=a\/H b=some (.own a))->h.get? b=some u->h'.get? b=some u)(I:∀ b,H b=some (.own a)->H' b=some (.own a))(J:∀ b m,H b=some (.tup m)->H' b=some (.tup m)):Zb P w H' h' a o:=by
 induction o with
 | lst m=>obtain⟨z,l,n,r,e⟩:=x;exact⟨z,l,n,r,k _ _ (.inl rfl) e⟩
 | tup m=>obtain⟨z,l,r,g,e,c⟩:=x;exact⟨z,l,r,g,k _ _ (.inl rfl) e,c⟩
 | dK s=>obtain⟨z,y,M,r,g,j,i,e,c⟩:=x;exact⟨z,y,M,r,g,j,i,k _ _ (.inl rfl) e,c⟩
 | dT s=>
  obtain⟨z,y,m,r,g,j,i,e,c⟩:=x;exact⟨z,y,m,Paired.mapP r λp q z=>⟨z.1,J _ _ z.2.1,z.2.2⟩,g,j,i,k _ _ (.inl rfl) e,c⟩
 | set S n=>obtain⟨g,j,i,t,e,c⟩:=x;exact⟨g,j,i,t,k _ _ (.inl rfl) e,c⟩
 | ins C N G=>
  obtain⟨d,z,L,e,A,⟨B,j,i,F,c⟩,r⟩:=x;exact⟨I _ d,z,L,k _ _ (.inl rfl) e,A,⟨B,j,i,k _ _ (.inr d) F,c⟩,r⟩
 | own y=>obtain⟨g,e⟩:=x;exact⟨g,k _ _ (.inl rfl) e⟩
 | xd G=>obtain⟨A,⟨B,j,i,e,c⟩,r⟩:=x;exact⟨A,⟨B,j,i,k _ _ (.inl rfl) e,c⟩,r⟩
 | rng Q O=>obtain⟨t,u,v,e⟩:=x;exact⟨t,u,v,k _ _ (.inl rfl) e⟩
 | frz g u K=>obtain⟨e,q⟩:=x;exact⟨k _ _ (.inl rfl) e,K q⟩
 | tbl D=>
  have e:h.get? a=some { cls:=.none,data:=.fields D }:=x;show h'.get? a=some { cls:=.none,data:=.fields D };exact k a _ (.inl rfl) e
 | met f y=>
  have e:h.get? a=some (tL (.ref f) (.ref y)):=x;show h'.get? a=some (tL (.ref f) (.ref y));exact k a _ (.inl rfl) e
 | ext R=>obtain⟨p,⟨o,e⟩,E⟩:=x;exact⟨E _ _ p λo q=>k _ _ (.inl rfl) q,⟨o,k _ _ (.inl rfl) e⟩,E⟩
def YG.lt(x:YG P w H h)(e:H a=some o):a<h.objs.size:=(x a o e).lt
def YG.fresh(x:YG P w H h)(e:h.objs.size<=a):H a=none:=by
 cases q:H a with
 | none=>rfl
 | some u=>exact absurd (yQ (x.lt q) e) (xE _)
def YG.kept(x:YG P w H h)(k:∀ b u,h.get? b=some u->h'.get? b=some u):YG P w H h':=λa o e=>
 (x a o e).stay (λb u _ q=>k b u q) (λ_ q=>q) λ_ _ q=>q
def YG.laid(x:YG P w H h)(k:∀ b u,h.get? b=some u->h'.get? b=some u)(i:h.objs.size<=a)(d:Zb P w (upd H a o) h' a o):YG P w (upd H a o) h':=λb u e=>by
 have g:=x.fresh i;by_cases f:b=a
 ·subst f;rw[ZK] at e;cases e;exact d
 ·rw[ZM f] at e;exact(x b u e).stay (λc v _ q=>k c v q) (λc q=>by rw[ZM (ZY q g)];exact q) λc j q=>by rw[ZM (ZY q g)];exact q
end
def Rd(H:Hp)(a:aj)(u:HO):Prop:=H a=some u\/∃ o,H a=some (.frz o u)
def Rd.of{H:Hp}{a:aj}{u:HO}(h:H a=some u):Rd H a u:=.inl h
def Rd.ok{P:al}{w:ar}{H:Hp}{h:aC}{a:aj}{u:HO}(r:Rd H a u)(x:YG P w H h):Zb P w H h a u:=by
 rcases r with r | ⟨o,r⟩
 ·exact x a u r
 ·obtain⟨_,q⟩:=x a _ r;exact q
def O6:Option HO->Prop
 | some (.lst _)=>True
 | some (.dK _)=>True
 | some (.dT _)=>True
 | some (.set _ _)=>True
 | some (.ins _ _ _)=>True
 | some (.ext _)=>True
 | _=>False
section
variable{P:al}{w:ar}{H:Hp}{h h':aC}{x e:aj}{o':HO}
def YG.write(t:YG P w H h)(j:O6 (H x))(o:e=x\/H e=some (.own x))(k:∀ b u,b≠e->h.get? b=some u->h'.get? b=some u)(m:∃ u,h'.get? e=some u)(n:Zb P w (upd H x o') h' x o'):YG P w (upd H x o') h':=λb u q=>by
 have d:∀ c y,H c=some (.own y)->c≠x:=λc y r z=>by subst z;rw[r] at j;exact j
 have f:∀ c l,H c=some (.tup l)->c≠x:=λc l r z=>by subst z;rw[r] at j;exact j
 by_cases g:b=x
 ·subst g;rw[ZK] at q;cases q;exact n
 ·rw[ZM g] at q;by_cases a:b=e
  ·have p:H b=some (.own x):=by
    rcases o with z | z
    ·exact absurd (a.trans z) g
    ·rw[a];exact z
   rw[q] at p;cases p;obtain⟨v,s⟩:=m;exact⟨v,by rw[a];exact s⟩
  ·refine(t b u q).stay (λc v i r=>k c v ?_ r) (λc r=>by rw[ZM (d c b r)];exact r) λc l r=>by rw[ZM (f c l r)];exact r
   rcases i with rfl | i
   ·exact a
   ·rintro rfl;rcases o with z | z
    ·exact d c b i z
    ·rw[i] at z;cases z;exact g rfl
end
structure Un(fs ex:ju)(H H':Hp)(h h':aC):Prop where
 keep:∀ b o,h.get? b=some o->H b=none->b∉fs->b∉ex->h'.get? b=some o
 slot:∀ b o,h.get? b=some o->H b=none->b∈fs->b∉ex->∃ sl,h'.get? b=some { o with slots:=sl }
 free:∀ b o,h.get? b=some o->H b=none->b∉ex->H' b=none
 there:∀ b o,h.get? b=some o->b∉ex->∃ o',h'.get? b=some o'
 tups:∀ b xs,H b=some (.tup xs)->H' b=some (.tup xs)
 frzs:∀ b o u,H b=some (.frz o u)->H' b=some (.frz o u)
 tbls:∀ b ps,H b=some (.tbl ps)->∃ more,H' b=some (.tbl (ps++more))
section
variable{fs fs' ex ex':ju}{H H1 H2:Hp}{h h1 h2 h':aC}{a x e:aj}{o:HO}
def Un.any(u:Un fs ex H H1 h h1){b:aj}{c:aH}(q:h.get? b=some c)(n:H b=none)(f:b∉ex):∃ g,h1.get? b=some { c with slots:=g }:=by
 by_cases d:b∈fs
 ·exact u.slot b c q n d f
 ·exact⟨c.slots,u.keep b c q n d f⟩
def Un.kept(k:∀ b u,h.get? b=some u->h'.get? b=some u):Un fs ex H H h h':=
 ⟨λb c q _ _ _=>k b c q,λb c q _ _ _=>⟨c.slots,k b c q⟩,λ_ _ _ n _=>n,λb c q _=>⟨c,k b c q⟩,λ_ _ q=>q,λ_ _ _ q=>q,λ_ d q=>⟨#[],by rw[q];simp⟩⟩
def Un.refl:Un fs ex H H h h:=Un.kept λ_ _ q=>q
def Un.laid(k:∀ b u,h.get? b=some u->h'.get? b=some u)(d:h.objs.size<=a)(c:H a=none):Un fs ex H (upd H a o) h h' where
 keep:=λb u q _ _ _=>k b u q
 slot:=λb u q _ _ _=>⟨u.slots,k b u q⟩
 free:=λb u q n _=>by rw[ZM (zO (yQ (zW q) d))];exact n
 there:=λb u q _=>⟨u,k b u q⟩
 tups:=λb f q=>by rw[ZM (ZY q c)];exact q
 frzs:=λb u f q=>by rw[ZM (ZY q c)];exact q
 tbls:=λb g q=>⟨#[],by rw[ZM (ZY q c),q];simp⟩
def Un.write(d:O6 (H x))(l:e=x\/H e=some (.own x))(k:∀ b u,b≠e->h.get? b=some u->h'.get? b=some u)(f:∃ u,h'.get? e=some u):Un fs ex H (upd H x o) h h':=by
 have j:∀ b,H b=none->b≠x:=λb n z=>by subst z;rw[n] at d;exact d
 have i:∀ b,H b=none->b≠e:=λb n z=>by
  subst z;rcases l with r | r
  ·exact j b n r
  ·rw[n] at r;cases r
 have g:∀ b u,H b=some u->¬ O6 (some u)->b≠x:=λb u q m z=>by subst z;rw[q] at d;exact m d
 refine⟨λb u q n _ _=>k b u (i b n) q,λb u q n _ _=>⟨u.slots,k b u (i b n) q⟩,λb u q n _=>by rw[ZM (j b n)];exact n,λb u q _=>?_,
  λb p q=>by rw[ZM (g b _ q λz=>z)];exact q,λb u p q=>by rw[ZM (g b _ q λz=>z)];exact q,λb s q=>⟨#[],by rw[ZM (g b _ q λz=>z),q];simp⟩⟩
 by_cases c:b=e
 ·subst c;exact f
 ·exact⟨u,k b u c q⟩
end
def MM(h:aC)(H:Hp):List Addr:=(zQ h.objs.size).filter λa=>(H a).isSome
def VS(h:aC)(H:Hp):Heap:=wA h (MM h H)
def FB(h:aC)(H:Hp):(VS h H).objs.size=h.objs.size:=PySem.W.hideAll_size _ _
def Iz{h:aC}{H:Hp}{b:aj}{o:aH}(e:h.get? b=some o)(n:H b=none):(VS h H).get? b=some o:=
 sY _ e λa=>by
  have q:(H b).isSome=true:=(xU.mp a).2;rw[n] at q;simp at q
def Io{h:aC}{H:Hp}{b:aj}{o:aH}(e:(VS h H).get? b=some o):h.get? b=some o/\H b=none:=by
 have a:h.get? b=some o:=tF (MM h H) e;exists a
 cases q:H b with
 | none=>rfl
 | some x=>
  have c:b∈MM h H:=xU.mpr ⟨xN.mpr (zW a),by simp[q]⟩
  have z:(VS h H).get? b=none:=sT (MM h H) c;rw[z] at e;cases e
def FR(g h:aC)(L:aj):js:=(zQ h.objs.size).filterMap λa=>if a=L\/(g.get? a).isSome=true then none else (h.get? a).map λo=>(a,o)
def rest(g h:aC)(L d:aj):js:=(FR g h L).filter λp=>decide (p.1≠d)
structure Mod(K:zZ)(mg:jb)(jV:aC):Prop where
 kin:K.In jV
 glob:jV.Ns ao mg
 blt:∃ mb,jV.Ns builtinsNs mb/\∀ x:Str,x ≠ "__name__"->mb x=ax x
 nolimit:jV.NoLimit
structure Cx where
 prog:al
 w:ar
 K:zZ
 mg:jb
 base:aC
 A:aw
 N:jr
 s₀:ak
 H₀:Hp
 env:Env
 outer:jA
 stack:jA
 ex:ju
 fn:Str->Bool
 calm:Bool
 pn:js
 xe:ja
def frs(l:jA):List Addr:=l.filterMap (·.frame)
abbrev Cx.fs(X:Cx):List Addr:=frs X.outer
def Nw(a:aD)(x:Str):Prop:=a.names.lookup x=some .local\/a.names.lookup x=some .cell\/a.names.lookup x=some .free
def ON(a:aD)(x:Str):Prop:=a.names.lookup x=some .local\/a.names.lookup x=some .cell
def Ao(a:Env)(h:aC)(m:jb)(x:Str)(u:ai):Prop:=
 (a.kindOf x=some .local/\m x=some u)\/((a.kindOf x=some .cell\/a.kindOf x=some .free)/\∃ c,a.cells.lookup x=some c/\h.IsCell c (some u))
structure Cx.Ok(X:Cx):Prop where
 mod:Mod X.K X.mg X.base
 kind:X.env.scope.kind=.function
 glob:X.env.globals=ao
 blt:X.env.builtins=builtinsNs
 above:X.s₀.heap.objs.size<=X.env.locals
 inj:∀ x y c,X.env.cells.lookup x=some c->X.env.cells.lookup y=some c->x=y
 has:∀ x,(X.env.kindOf x=some .cell\/X.env.kindOf x=some .free)->∃ c,X.env.cells.lookup x=some c
 cab:∀ x c,X.fn x=true->X.env.cells.lookup x=some c->X.s₀.heap.objs.size<=c
 hd:X.calm=true->X.A.handled=none
 frames:X.A.frames=some X.stack
 stk:X.stack=X.outer\/(X.stack=X.env::X.outer/\X.env.frame=some X.env.locals)
 exf:∀ b∈X.ex,b≠X.env.locals/\∀ x c,X.env.cells.lookup x=some c->c≠b
 bs:∀ b o,X.base.get? b=some o->X.s₀.heap.get? b=some o/\X.H₀ b=none
 bsz:X.base.objs.size<=X.s₀.heap.objs.size
 noex:∀ b o,X.base.get? b=some o->b∉X.ex
 exfs:∀ b∈X.ex,b∉X.fs
 funs:X.s₀.heap.FunFrames X.base X.outer
 frf:∀ b∈X.fs,X.H₀ b=none
structure ZF(X:Cx)(jU:js)(σ:List (jf))(H:Hp)(s:ak):Prop where
 ok:X.Ok
 os:s.os=X.s₀.os
 bare:AllBare s.gens
 base:Un X.fs X.ex X.H₀ H X.s₀.heap s.heap
 loc:∃ m,s.heap.Ns X.env.locals m/\∀(i:Nat)(x:Str)(v:V),X.N[i]? = some x->σ[i]? = some (some v)->Nw X.env.scope x->∃ u,ZS v u/\Ao X.env s.heap m x u
 cell:∀ x c,X.env.cells.lookup x=some c->∃ v,s.heap.IsCell c v
 free:H X.env.locals=none
 freeC:∀ x c,X.env.cells.lookup x=some c->H c=none
 pin:∀ p∈X.pn++jU,s.heap.get? p.1=some p.2/\H p.1=none/\p.1≠X.env.locals/\p.1∉X.fs/\∀ v,p.2.data≠.cell v
 hok:YG X.prog X.w H s.heap
 len:σ.length=X.N.length
section
variable{X:Cx}{jU:js}{σ:List (jf)}{H H':Hp}{s:ak}{h':aC}
def Cx.Ok.nofr(c:X.Ok){b:aj}{o:aH}(e:X.base.get? b=some o):b∉X.fs:=λa=>by
 have:=(c.funs.mem a).1;rw[e] at this;cases this
def ZF.bs(I:ZF X jU σ H s):∀ b o,X.base.get? b=some o->s.heap.get? b=some o/\H b=none:=λb o e=>
 ⟨I.base.keep b o (I.ok.bs b o e).1 (I.ok.bs b o e).2 (I.ok.nofr e) (I.ok.noex b o e),I.base.free b o (I.ok.bs b o e).1 (I.ok.bs b o e).2 (I.ok.noex b o e)⟩
def ZF.bk(I:ZF X jU σ H s):∀ b o,X.base.get? b=some o->s.heap.get? b=some o:=λb o e=>(I.bs b o e).1
def ZF.mod(I:ZF X jU σ H s):Mod X.K X.mg X.base:=I.ok.mod
def ZF.kIn(I:ZF X jU σ H s):X.K.In s.heap:=I.ok.mod.kin.keeps I.bk
def ZF.lt(I:ZF X jU σ H s):X.env.locals<s.heap.objs.size:=let ⟨_,hn,_⟩:=I.loc;hn.lt
def ZF.sz(I:ZF X jU σ H s):X.s₀.heap.objs.size<=s.heap.objs.size:=zI I.ok.above (xX I.lt)
def ZF.nofs(I:ZF X jU σ H s){a:aj}(h:s.heap.objs.size<=a):a∉X.fs:=λb=>by
 obtain⟨_,o,c,_⟩:=I.ok.funs.mem b;exact absurd (yQ (zW c) (zI I.sz h)) (xE _)
def ZF.cne(I:ZF X jU σ H s):∀ x c,X.env.cells.lookup x=some c->c≠X.env.locals:=λx c e z=>by
 obtain⟨v,o,f,d⟩:=I.cell x c e;obtain⟨m,⟨i,h,g,b,a,_⟩,_⟩:=I.loc;rw[z,b] at f;cases f;rw[a] at d;cases d
def ZF.funs(I:ZF X jU σ H s):s.heap.FunFrames X.base X.outer:=by
 have a:∀(l:jA),(∀ b∈frs l,b∈X.fs)->X.s₀.heap.FunFrames X.base l->s.heap.FunFrames X.base l:=by
  intro l
  induction l with
  | nil=>intro _ _;trivial
  | cons h r q=>
   intro g k;obtain⟨j,⟨L,o,f,m,n,i⟩,p⟩:=k;have c:L∈X.fs:=g L (by unfold frs;rw[uL,f];exact zF)
   obtain⟨t,e⟩:=I.base.slot L o n (I.ok.frf L c) c λz=>I.ok.exfs L z c;exact⟨j,⟨L,_,f,m,e,i⟩,q (λb d=>g b (by unfold frs;rw[uL,f];exact zD _ d)) p⟩
 exact a X.outer (λ_ d=>d) I.ok.funs
def ZF.stack(I:ZF X jU σ H s):s.heap.FunFrames X.base X.stack:=by
 rcases I.ok.stk with e | ⟨e,a⟩
 ·rw[e];exact I.funs
 ·rw[e];obtain⟨m,b,_⟩:=I.loc;refine .cons (by rw[I.ok.kind];decide) a b ?_ I.funs
  exact vH (zI I.ok.bsz I.ok.above)
def ZF.stkSub(I:ZF X jU σ H s):∀ b∈frs X.stack,b∈X.env.locals::X.fs:=λb a=>by
 rcases I.ok.stk with e | ⟨e,c⟩
 ·rw[e] at a;exact zD _ a
 ·rw[e] at a;unfold frs at a;rw[uL,c] at a;exact a
def ZF.stkFree(I:ZF X jU σ H s):∀ b∈frs X.stack,H b=none:=λb a=>by
 rcases yZ.mp (I.stkSub b a) with e | a
 ·rw[e];exact I.free
 ·obtain⟨_,o,c,_⟩:=I.ok.funs.mem a;exact I.base.free b o c (I.ok.frf b a) λz=>I.ok.exfs b z a
def ZF.step{g':Array GenState}{t':Nat}{d':Drawn}{ch:ju}(I:ZF X jU σ H s)(h:∀ b∈ch,(b∈X.ex\/X.s₀.heap.objs.size<=b)/\b≠X.env.locals/\(∀ x c,X.env.cells.lookup x=some c->c≠b)/\∀ p∈X.pn++jU,p.1≠b)(j:∀ b o,b≠X.env.locals->b∉X.fs->b∉ch->s.heap.get? b=some o->H b=none->h'.get? b=some o)(B:∀ b o,b≠X.env.locals->b∈X.fs->b∉ch->s.heap.get? b=some o->H b=none->∃ S,h'.get? b=some { o with slots:=S })(f:∀ b o,b∉ch->s.heap.get? b=some o->H b=none->H' b=none)(E:∀ b o,b∉ch->s.heap.get? b=some o->∃ M,h'.get? b=some M)(O:∀ b C,H b=some (.tup C)->H' b=some (.tup C))(J:∀ b o u,H b=some (.frz o u)->H' b=some (.frz o u))(N:∀ b P,H b=some (.tbl P)->∃ K,H' b=some (.tbl (P++K)))(ns:∀ m,s.heap.Ns X.env.locals m->h'.Ns X.env.locals m)(R:YG X.prog X.w H' h')(hg:AllBare g'):
  ZF X jU σ H' { s with heap:=h',gens:=g',drawn:=d',toks:=t' }:=by
 have L:∀ b o,X.s₀.heap.get? b=some o->b≠X.env.locals:=λb o e=>zO (yQ (zW e) I.ok.above);have A:∀ b o,X.s₀.heap.get? b=some o->b∉X.ex->b∉ch:=λb o e a D=>by
  rcases(h b D).1 with z | z
  ·exact a z
  ·exact absurd (yQ (zW e) z) (xE _)
 have g:∀ x c,X.env.cells.lookup x=some c->∀ v,s.heap.IsCell c v->h'.IsCell c v:=λx c e v ⟨o,F,Q⟩=>by
  have t:c∉ch:=λz=>(h c z).2.2.1 x c e rfl;by_cases U:c∈X.fs
  ·obtain⟨S,q⟩:=B c o (I.cne x c e) U t F (I.freeC x c e);exact⟨_,q,Q⟩
  ·exact⟨o,j c o (I.cne x c e) U t F (I.freeC x c e),Q⟩
 refine⟨I.ok,I.os,hg,⟨λb o e n D a=>?_,λb o e n D a=>?_,λb o e n a=>?_,λb o e a=>?_,λb C e=>O b C (I.base.tups b C e),λb o C e=>J b o C (I.base.frzs b o C e),λb P e=>?_⟩,?_,λx c e=>?_,?_,λx c e=>?_,λp V=>?_,R,I.len⟩
 ·exact j b o (L b o e) D (A b o e a) (I.base.keep b o e n D a) (I.base.free b o e n a)
 ·obtain⟨S,y⟩:=I.base.slot b o e n D a;obtain⟨T,G⟩:=B b _ (L b o e) D (A b o e a) y (I.base.free b o e n a);exact⟨T,G⟩
 ·obtain⟨M,y⟩:=I.base.there b o e a;exact f b M (A b o e a) y (I.base.free b o e n a)
 ·obtain⟨M,y⟩:=I.base.there b o e a;exact E b M (A b o e a) y
 ·obtain⟨m1,y⟩:=I.base.tbls b P e;obtain⟨m2,G⟩:=N b _ y;exact⟨m1++m2,by rw[G,vI]⟩
 ·obtain⟨m,hn,hl⟩:=I.loc;exists m,ns m hn;intro i x v y G Z;obtain⟨u,r,l⟩:=hl i x v y G Z;exists u,r;rcases l with l | ⟨k,c,e,z⟩
  ·exact .inl l
  ·exact .inr ⟨k,c,e,g x c e _ z⟩
 ·obtain⟨v,z⟩:=I.cell x c e;exact⟨v,g x c e v z⟩
 ·obtain⟨m,⟨o,_,_,F,_⟩,_⟩:=I.loc;exact f _ o (λz=>(h _ z).2.1 rfl) F I.free
 ·obtain⟨v,o,F,Q⟩:=I.cell x c e;exact f c o (λz=>(h c z).2.2.1 x c e rfl) F (I.freeC x c e)
 ·obtain⟨e,n,W,Y,d⟩:=I.pin p V;have t:p.1∉ch:=λz=>(h p.1 z).2.2.2 p V rfl;exact⟨j p.1 p.2 W Y t e n,f p.1 p.2 t e n,W,Y,d⟩
def ZF.un{t':Nat}(I:ZF X jU σ H s)(u:Un X.fs [] H H' s.heap h')(g:YG X.prog X.w H' h'):ZF X jU σ H' { s with heap:=h',toks:=t' }:=by
 obtain⟨m,⟨o,p,l,h,r⟩,_⟩:=id I.loc;obtain⟨v,i⟩:=u.any h I.free (by simp)
 exact I.step (g':=s.gens) (d':=s.drawn) (ch:=[]) (λ_ z=>nomatch z) (λb o _ f _ e n=>u.keep b o e n f (by simp)) (λb o _ f _ e n=>u.slot b o e n f (by simp)) (λb o _ e n=>u.free b o e n (by simp)) (λb o _ e=>u.there b o e (by simp)) u.tups u.frzs u.tbls (λq j=>by
  obtain⟨t,d,c,a,k⟩:=j;rw[h] at a;cases a;exact⟨_,d,c,i,k⟩) g I.bare
def ZF.call{g':Array GenState}{t':Nat}{d':Drawn}{ch:ju}(I:ZF X jU σ H s)(u:Un (frs X.stack) ch H H' s.heap h')(j:YG X.prog X.w H' h')(q:AllBare g')(d:∀ b∈ch,(b∈X.ex\/X.s₀.heap.objs.size<=b)/\b≠X.env.locals/\(∀ x c,X.env.cells.lookup x=some c->c≠b)/\∀ p∈X.pn++jU,p.1≠b):
  ZF X jU σ H' { s with heap:=h',gens:=g',drawn:=d',toks:=t' }:=by
 obtain⟨m,⟨o,A,y,k,r⟩,_⟩:=id I.loc;obtain⟨D,i⟩:=u.any k I.free λz=>(d _ z).2.1 rfl;exact I.step (ch:=ch) d (λb o i l a e n=>u.keep b o e n (λz=>(yZ.mp (I.stkSub b z)).elim i l) a) (λb o _ _ a e n=>u.any e n a) (λb o a e n=>u.free b o e n a) (λb o a e=>u.there b o e a) u.tups u.frzs u.tbls (λB t=>by
  obtain⟨C,h,g,f,v⟩:=t;rw[k] at f;cases f;exact⟨_,h,g,i,v⟩) j q
def ZF.turned{t':Nat}{it:aj}(I:ZF X jU σ H s)(k:∀ b o,b≠it->s.heap.get? b=some o->h'.get? b=some o)(y:H it=none)(f:it≠X.env.locals)(i:it∈X.ex\/X.s₀.heap.objs.size<=it)(j:∀ x c,X.env.cells.lookup x=some c->c≠it)(l:∀ p∈X.pn++jU,p.1≠it):ZF X jU σ H { s with heap:=h',toks:=t' }:=by
 have d:∀ b u,H b=some u->b≠it:=λb u e z=>by rw[z,y] at e;cases e
 refine I.step (g':=s.gens) (d':=s.drawn) (ch:=[it]) (λb t=>?_) (λb o _ _ a e _=>k b o (λz=>a (by simp[z])) e) (λb o _ _ a e _=>⟨o.slots,k b o (λz=>a (by simp[z])) e⟩) (λ_ _ _ _ n=>n)
  (λb o a e=>⟨o,k b o (λz=>a (by simp[z])) e⟩) (λ_ _ e=>e) (λ_ _ _ e=>e) (λb B e=>⟨#[],by rw[e];simp⟩) (λm w=>?_) (λb u e=>?_) I.bare
 ·have e:b=it:=by simpa using t
  subst e;exact⟨i,f,j,l⟩
 ·obtain⟨o,h,g,A,r⟩:=w;exact⟨o,h,g,k _ o (Ne.symm f) A,r⟩
 ·refine(I.hok b u e).stay (λc v a q=>k c v ?_ q) (λ_ q=>q) λ_ _ q=>q;rcases a with z | z
  ·rw[z];exact d b u e
  ·exact d c _ z
def ZF.tok(I:ZF X jU σ H s)(t:Nat):ZF X jU σ H { s with toks:=t }:=I.un (h':=s.heap) (t':=t) Un.refl I.hok
def ZF.kept{t':Nat}(I:ZF X jU σ H s)(k:∀ b u,s.heap.get? b=some u->h'.get? b=some u):ZF X jU σ H { s with heap:=h',toks:=t' }:=I.un (Un.kept k) (I.hok.kept k)
def ZF.laid{a:aj}{o:HO}{t':Nat}(I:ZF X jU σ H s)(k:∀ b u,s.heap.get? b=some u->h'.get? b=some u)(c:s.heap.objs.size<=a)(d:Zb X.prog X.w (upd H a o) h' a o):
  ZF X jU σ (upd H a o) { s with heap:=h',toks:=t' }:=I.un (Un.laid k c (I.hok.fresh c)) (I.hok.laid k c d)
def ZF.write{x e:aj}{o:HO}{g:Nat}(I:ZF X jU σ H s)(f:O6 (H x))(d:e=x\/H e=some (.own x))(k:∀ b u,b≠e->s.heap.get? b=some u->h'.get? b=some u)(a:∃ u,h'.get? e=some u)(c:Zb X.prog X.w (upd H x o) h' x o):ZF X jU σ (upd H x o) { s with heap:=h',toks:=g }:=I.un (Un.write f d k a) (I.hok.write f d k a c)
def ZF.pins_of{a:js}(I:ZF X jU σ H s)(h:∀ p∈a,s.heap.get? p.1=some p.2/\H p.1=none/\p.1≠X.env.locals/\p.1∉X.fs/\∀ v,p.2.data≠.cell v):ZF X a σ H s:=
 ⟨I.ok,I.os,I.bare,I.base,I.loc,I.cell,I.free,I.freeC,λp b=>(yY.mp b).elim (λz=>I.pin p (xW _ z)) (h p),I.hok,I.len⟩
def LE{N:jr}(e:N.Nodup){i j:Nat}{x:Str}(a:N[i]? = some x)(b:N[j]? = some x):i=j:=by
 obtain⟨f,c⟩:=yJ.mp a;obtain⟨g,d⟩:=yJ.mp b;exact(List.getElem_inj e).mp (c.trans d.symm)
def IC{M:Model}{A:aw}{E:ja}{i:Nat}{x:Str}{v:V}{u:ai}{Q:Unit->ak->Prop}(I:ZF X jU σ H s)(hN:X.N.Nodup)(T:X.N[i]? = some x)(B:ON X.env.scope x)(r:ZS v u)(h:∀ s',ZF X jU (σ.set i (some v)) H s'->(∃ a,wH a s.heap s'.heap/\(a=X.env.locals\/X.env.cells.lookup x=some a))->Q () s')(hf:X.fn x=true\/X.env.scope.names.lookup x=some .local:=by first | exact .inl rfl | exact .inr rfl | assumption):aA M A (storeName X.env x u) Q E s:=by
 obtain⟨m,hn,hl⟩:=id I.loc;have S:(X.env.scope.kind==.class || (X.env.scope.kind==.module&&X.env.locals != X.env.globals))=false:=by rw[I.ok.kind];rfl
 have F:i<σ.length:=by rw[I.len];exact(yJ.mp T).1
 have J:=I.cne;have l:∀{a:aj}{h':aC},(∃ o,s.heap.get? a=some o/\H a=none)->wH a s.heap h'->YG X.prog X.w H h':=fun{a h'} ha f b ob e=>by
  obtain⟨_,_,C⟩:=ha;refine(I.hok b ob e).stay (λc w' t q=>(f.2 c ?_).trans q) (λ_ q=>q) λ_ _ q=>q;rintro rfl;rcases t with rfl | t
  ·rw[C] at e;cases e
  ·rw[C] at t;cases t
 rcases B with G | G
 ·refine wpAny_storeName_local G hn (λh' a0 f=>?_) S;obtain⟨oL,_,_,a1,_⟩:=id hn;refine h _ ⟨I.ok,I.os,I.bare,⟨λb o e n K B=>?_,λb o e n K B=>?_,I.base.free,λb o e B=>?_,I.base.tups,I.base.frzs,I.base.tbls⟩,⟨_,a0,λj y v' g D e3=>?_⟩,λy c e=>?_,I.free,I.freeC,λp hp=>?_,l ⟨oL,a1,I.free⟩ f,by simpa using I.len⟩ ⟨_,f,.inl rfl⟩
  ·exact(f.2 b (zO (yQ (zW e) I.ok.above))).trans (I.base.keep b o e n K B)
  ·obtain⟨sl,g⟩:=I.base.slot b o e n K B;exact⟨sl,(f.2 b (zO (yQ (zW e) I.ok.above))).trans g⟩
  ·obtain⟨o',g⟩:=I.base.there b o e B;exact⟨o',(f.2 b (zO (yQ (zW e) I.ok.above))).trans g⟩
  ·by_cases O:j=i
   ·subst O;rw[T] at g;cases g;rw[sS F] at D;cases D;exact⟨u,r,.inl ⟨G,by simp⟩⟩
   ·rw[tE (Ne.symm O)] at D;obtain⟨u',r',q⟩:=hl j y v' g D e3;exists u',r';rcases q with ⟨k,e⟩ | ⟨k,c,e,z⟩
    ·refine .inl ⟨k,?_⟩;have:y≠x:=λe=>O (LE hN g (e ▸ T));simp[this,e]
    ·exact .inr ⟨k,c,e,z.sameBut f (J y c e)⟩
  ·obtain⟨w',z⟩:=I.cell y c e;exact⟨w',z.sameBut f (J y c e)⟩
  ·obtain⟨e,n,Z,nf,d⟩:=I.pin p hp;exact⟨(f.2 p.1 Z).trans e,n,Z,nf,d⟩
 ·have L:X.fn x=true:=by
   rcases hf with z | z
   ·exact z
   ·rw[z] at G;cases G
  obtain⟨c,t⟩:=I.ok.has x (.inl G);obtain⟨w',z⟩:=I.cell x c t;refine wpAny_storeName_cell I.ok.kind G t z (λh' P f=>?_);obtain⟨oc,U,W⟩:=id z;refine h { s with heap:=h' } ⟨I.ok,I.os,I.bare,⟨λb o e n K B=>?_,λb o e n K B=>?_,I.base.free,λb o e B=>?_,I.base.tups,I.base.frzs,I.base.tbls⟩,⟨m,hn.sameBut f (Ne.symm (J x c t)),λj y v' g D e3=>?_⟩,λy Y e=>?_,I.free,I.freeC,λp hp=>?_,l ⟨oc,U,I.freeC x c t⟩ f,by simpa using I.len⟩ ⟨c,f,.inr t⟩
  ·exact(f.2 b (zO (yQ (zW e) (I.ok.cab x c L t)))).trans (I.base.keep b o e n K B)
  ·obtain⟨sl,g⟩:=I.base.slot b o e n K B;exact⟨sl,(f.2 b (zO (yQ (zW e) (I.ok.cab x c L t)))).trans g⟩
  ·obtain⟨o',g⟩:=I.base.there b o e B;exact⟨o',(f.2 b (zO (yQ (zW e) (I.ok.cab x c L t)))).trans g⟩
  ·by_cases O:j=i
   ·subst O;rw[T] at g;cases g;rw[sS F] at D;cases D;exact⟨u,r,.inr ⟨.inl G,c,t,P⟩⟩
   ·rw[tE (Ne.symm O)] at D;obtain⟨u',r',q⟩:=hl j y v' g D e3;exists u',r';rcases q with q | ⟨k,Y,e,z'⟩
    ·exact .inl q
    ·refine .inr ⟨k,Y,e,z'.sameBut f ?_⟩;rintro rfl;exact O (LE hN g (I.ok.inj _ _ _ e t ▸ T))
  ·by_cases R:Y=c
   ·subst R;exact⟨_,P⟩
   ·obtain⟨w2,z2⟩:=I.cell y Y e;exact⟨w2,z2.sameBut f R⟩
  ·obtain⟨e,n,Z,nf,d⟩:=I.pin p hp;refine⟨(f.2 p.1 ?_).trans e,n,Z,nf,d⟩;intro q;rw[q,U] at e;have q':oc=p.2:=zH.inj e;exact d w' (by rw[<-q'];exact W)
def Nr{M:Model}{A:aw}{E:ja}{i:Nat}{x:Str}{v:V}{u:ai}{Q:Unit->ak->Prop}(I:ZF X jU σ H s)(c:X.N.Nodup)(e:X.N[i]? = some x)(f:ON X.env.scope x)(r:ZS v u)(h:∀ a,ZF X jU (σ.set i (some v)) H a->Q () a)(d:X.fn x=true\/X.env.scope.names.lookup x=some .local:=by first | exact .inl rfl | exact .inr rfl | assumption):aA M A (storeName X.env x u) Q E s:=
 IC I c e f r (λa b _=>h a b) d
def ZF.call'{s':ak}{ch:ju}(I:ZF X jU σ H s)(i:s'.os=s.os)(u:Un (frs X.stack) ch H H' s.heap s'.heap)(d:YG X.prog X.w H' s'.heap)(h:AllBare s'.gens)(a:∀ b∈ch,(b∈X.ex\/X.s₀.heap.objs.size<=b)/\b≠X.env.locals/\(∀ x c,X.env.cells.lookup x=some c->c≠b)/\∀ p∈X.pn++jU,p.1≠b):ZF X jU σ H' s':=by
 obtain⟨h',g,f,k,j⟩:=s';have e:j=s.os:=i;subst e;exact I.call (g':=g) (t':=k) (d':=f) u d h a
end
abbrev XK:=ai->jv->Hp->Prop
abbrev St:=List (jf)
abbrev VK:=V->Hp->Prop
abbrev TE:=St->Hp->VK->Prop
abbrev TT:=St->Hp->(Bool->Hp->Prop)->Prop
abbrev TA:=St->Hp->(je->Hp->Prop)->Prop
structure Yt where
 nx:St->Hp->Prop
 rt:VK
 bk:St->Hp->Prop:=λ_ _=>False
 ct:St->Hp->Prop:=λ_ _=>False
abbrev TS:=Yt->St->Hp->Prop
def EP(X:Cx)(a:js)(d:St)(Q:VK)(u:ai)(c:ak):Prop:=∃ v b,ZF X a d b c/\ZS v u/\Q v b
def TP(X:Cx)(a:js)(e:St)(Q:Bool->Hp->Prop)(b:Bool)(d:ak):Prop:=∃ c,ZF X a e c d/\Q b c
def AP(X:Cx)(a:js)(f:St)(Q:je->Hp->Prop)(e:jd)(d:ak):Prop:=∃ c b,ZF X a f b d/\ZO c e/\Q c b
def SP(X:Cx)(b:js)(D:Yt)(f:Flow)(d:ak):Prop:=
 match f with
 | .next=>∃ a c,ZF X b a c d/\D.nx a c
 | .brk=>∃ a c,ZF X b a c d/\D.bk a c
 | .cont=>∃ a c,ZF X b a c d/\D.ct a c
 | .ret u=>∃ v a c,ZF X b a c d/\ZS v u/\D.rt v c
def PE(X:Cx)(e:Expr)(t:TE):Prop:=
 ∀(a:js)(s:ak)(b:St)(H:Hp)(Q:VK),ZF X a b H s->t b H Q->aA (az X.prog X.w) X.A (aG e X.env) (EP X a b Q) X.xe s
def PT(X:Cx)(e:Expr)(t:TT):Prop:=
 ∀(a:js)(s:ak)(b:St)(H:Hp)(Q:Bool->Hp->Prop),ZF X a b H s->t b H Q->aA (az X.prog X.w) X.A (isTrue e X.env (aG e X.env)) (TP X a b Q) X.xe s
def PW(X:Cx)(e:Expr)(t:TT):Prop:=
 ∀(b:Sem ai)(a:js)(s:ak)(c:St)(H:Hp)(Q:Bool->Hp->Prop),ZF X a c H s->t c H Q->aA (az X.prog X.w) X.A (isTrue e X.env b) (TP X a c Q) X.xe s
def PW.pt{X:Cx}{e:Expr}{t:TT}(h:PW X e t):PT X e t:=h _
def PA(X:Cx)(d:jy)(t:TA):Prop:=
 ∀(b:aI)(a:js)(s:ak)(c:St)(H:Hp)(Q:je->Hp->Prop),ZF X a c H s->t c H Q->aA (az X.prog X.w) X.A (spliced (aE b (aq d X.env))) (AP X a c Q) X.xe s
def PS(X:Cx)(c:aB)(t:TS):Prop:=
 ∀(a:js)(s:ak)(b:St)(H:Hp)(D:Yt),ZF X a b H s->t D b H->aA (az X.prog X.w) X.A (exec c X.env) (SP X a D) X.xe s
def WC(X:Cx)(c:jJ)(t:TS):Prop:=
 ∀(a:js)(s:ak)(b:St)(H:Hp)(D:Yt),ZF X a b H s->t D b H->aA (az X.prog X.w) X.A (execs c X.env) (SP X a D) X.xe s
def Zt{c:Type}{t:Sem c}{Q b:c->ak->Prop}{M:Model}{A:aw}{E:ja}{s:ak}(h:aA M A t Q E s)(d:∀ a s,Q a s->b a s):aA M A t b E s:=ae h d λ_ _ x=>x
def YD{d g i:Type}{t:Sem d}{a b c:d->ak->g->i->Prop}{e:d->ak->Prop}{M:Model}{A:aw}{E:ja}{s:ak}(h:aA M A t (λv s=>∃ x H,a v s x H/\b v s x H/\c v s x H) E s)(f:∀ v s x H,a v s x H->b v s x H->c v s x H->e v s):aA M A t e E s:=Zt h (by rintro v s ⟨x,H,p,q,r⟩;exact f v s x H p q r)
variable{X:Cx}
section
inductive Uu(i:Nat)(a:L2.St)(H:Hp)(Q:VK):Prop
 |mk(v:_)(_:a[i]? = some (some v))(_:Q v H)
def tC(v:V):TE:=λ_ H Q=>Q v H
def Jw{i:Nat}{x:Str}{k:aI}(o:X.N[i]? = some x)(w:Nw X.env.scope x)(j:(x==("__debug__" : Str))=false:=by decide)(g:(x==("__classdict__" : Str))=false:=by decide):PE X (.Name x k) (Uu i):=by
 intro f s y H Q I h;obtain⟨v,e,h⟩:=h;obtain⟨m,t,p⟩:=I.loc;obtain⟨u,r,l⟩:=p i x v o e w;have b:EP X f y Q u s:=⟨v,H,I,r,h⟩;rcases l with ⟨d,q⟩ | ⟨d,c,n,a⟩
 ·exact wpAny_Name (wpAny_loadName_local I.ok.kind d t q b) j
 ·rcases d with d | d
  ·exact wpAny_Name (wpAny_loadName_cell I.ok.kind d n a b) j
  ·exact wpAny_Name (wpAny_loadName_free I.ok.kind d n a b g) j
def ZN{i j a}:PE X (.Constant (.int i) j a) (tC (.int i)):=λ_ _ _ H _ I h=>wpAny_Constant_int ⟨.int i,H,I.tok _,⟨_,rfl⟩,h⟩
def UQ{b j a}:PE X (.Constant (.bool b) j a) (tC (.bl b)):=λ_ _ _ H _ I h=>Constant_bool ⟨.bl b,H,I,rfl,h⟩
def OO{j a}:PE X (.Constant .none j a) (tC .non):=λ_ _ _ H _ I h=>Constant_none ⟨.non,H,I,rfl,h⟩
def Ym{x j a}:PE X (.Constant (.str x) j a) (tC (.str x)):=λ_ _ _ H _ I h=>Calls.Constant_str ⟨.str x,H,I.tok _,⟨_,rfl⟩,h⟩
def Gl(X:Cx)(x:Str):Prop:=X.env.kindOf x=some .globalImplicit
def Qh{E:ja}{a:js}{s:ak}{f:St}{H:Hp}{x:Str}{u:ai}{b:aI}{Q:ja}(I:ZF X a f H s)(d:Gl X x)(e:X.mg x=some u)(h:Q u s)(c:(x==("__debug__" : Str))=false:=by decide):aA (az X.prog X.w) X.A (aG (.Name x b) X.env) Q E s:=
 Calls.Name_function_global I.ok.kind d (Calls.loadGlobal_global (by rw[I.ok.glob];exact I.mod.glob.keeps I.bk) e h) c
def Qy{E:ja}{a:js}{s:ak}{k:St}{H:Hp}{x:Str}{u:ai}{b:aI}{Q:ja}(I:ZF X a k H s)(f:Gl X x)(g:X.mg x=none)(j:ax x=some u)(h:Q u s)(i:x ≠ "__name__" :=by decide)(e:(x==("__debug__" : Str))=false:=by decide):aA (az X.prog X.w) X.A (aG (.Name x b) X.env) Q E s:=by
 obtain⟨l,c,d⟩:=I.mod.blt;exact Calls.Name_function_global I.ok.kind f (Calls.loadGlobal_builtin (by rw[I.ok.glob];exact I.mod.glob.keeps I.bk) g (by rw[I.ok.blt];exact c.keeps I.bk) ((d x i).trans j) h) e
def WH{x:Str}{v:V}{u:ai}{a:aI}(c:Gl X x)(d:X.mg x=some u)(r:ZS v u)(b:(x==("__debug__" : Str))=false:=by decide):PE X (.Name x a) (tC v):=
 λ_ _ _ H _ I h=>Qh I c d ⟨v,H,I,r,h⟩ b
def XY{x:Str}{v:V}{u:ai}{a:aI}(c:Gl X x)(d:X.mg x=none)(f:ax x=some u)(r:ZS v u)(e:x ≠ "__name__" :=by decide)(b:(x==("__debug__" : Str))=false:=by decide):PE X (.Name x a) (tC v):=
 λ_ _ _ H _ I h=>Qy I c d f ⟨v,H,I,r,h⟩ e b
variable{a b:Expr}{ta tb:TE}{pos:aI}
def PC(X:Cx)(g:CmpOp)(a b:Expr)(t:TE):Prop:=
 ∀(c:js)(s:ak)(f:St)(H:Hp)(Q:VK),ZF X c f H s->t f H Q ->
  aA (az X.prog X.w) X.A (aG a X.env) (λv d=>aA (az X.prog X.w) X.A (aG b X.env) (λu e=>aA (az X.prog X.w) X.A (ay g v u) (EP X c f Q) X.xe e) X.xe d) X.xe s
def Iy(b:Expr){c:CmpOp}(h:c≠.In)(f:c≠.NotIn):behindInMarks c b=false:=by
 have d:(c==CmpOp.In)=false:=by cases c <;> first | rfl | exact absurd rfl h
 have e:(c==CmpOp.NotIn)=false:=by cases c <;> first | rfl | exact absurd rfl f
 cases b <;> simp[behindInMarks,d,e]
def Du(ta:TE):TE:=λd H Q=>ta d H λx c=>Q (.bl (decide (x=.non))) c
def Dh(ta:TE):TE:=λd H Q=>ta d H λx c=>Q (.bl (!decide (x=.non))) c
def ZS.none_iff{x:V}{v:ai}(r:ZS x v):(v==Value.none)=decide (x=.non):=by
 cases x with
 | non=>cases r;rfl
 | bl _=>cases r;rfl
 | int _=>obtain⟨t,rfl⟩:=r;rfl
 | str _=>obtain⟨t,rfl⟩:=r;rfl
 | byt _=>obtain⟨t,rfl⟩:=r;rfl
 | flt _=>obtain⟨t,rfl⟩:=r;rfl
 | ref _=>cases r;rfl
 | ty _=>cases r;rfl
def ML{j d}(g:PE X a ta):PC X .Is a (.Constant .none j d) (Du ta):=by
 intro c s l H Q I h;refine YD (g c s l H _ I h) λv m x e f k i=>?_;exact Constant_none (is_none_gen ⟨.bl _,e,f,by rw[k.none_iff];rfl,i⟩)
def JW{j d}(g:PE X a ta):PC X .IsNot a (.Constant .none j d) (Dh ta):=by
 intro c s l H Q I h;refine YD (g c s l H _ I h) λv m x e f k i=>?_;exact Constant_none (isnot_none_gen ⟨.bl _,e,f,by rw[k.none_iff];rfl,i⟩)
inductive BU(Q:Bool->Hp->Prop)(x:V)(d:Hp):Prop
 |mk(c:_)(_:x=.bl c)(_:Q c d)
def tB(t:TE):TT:=λd H Q=>t d H λx c=>BU Q x c
def GQ{d:CmpOp}{t:TE}(h:PC X d a b t)(e:behindInMarks d b=false:=by first | exact Iy _ (by decide) (by decide) | rfl):PE X (.Compare a [d] [b] pos) t:=λc s g H Q I f=>wpAny_Compare1 (h c s g H Q I f) e
def Qm{g:CmpOp}{t:TE}(h:PC X g a b t)(f:behindInMarks g b=false:=by first | exact Iy _ (by decide) (by decide) | rfl):PT X (.Compare a [g] [b] pos) (tB t):=by
 intro e s o H Q I l;refine wpAny_isTrue_Compare1 (Zt (h e s o H _ I l) λv p f=>Zt f λu r k=>YD k λc w x i j n m=>?_) f;obtain⟨d,rfl,q⟩:=m;cases n;exact wpAny_truthy_bool ⟨i,j,q⟩
def Ye{e:Expr}{t:TE}(h:PE X e t)(j:∀ c,isTrue e X.env c=(do let v<-c;standAt e.pos;holding [v] (truthy v)):=by intro _;rfl):PT X e (tB t):=by
 intro f s n H Q I k;refine isTrue_plain (YD (h f s n H _ I k) λv o x g i m l=>?_) (j _);obtain⟨d,rfl,q⟩:=l;cases m;exact wpAny_truthy_bool ⟨g,i,q⟩
variable{tA tB':TT}{rest:jy}
def Eo(t u:TT):TT:=λe H Q=>t e H λc d=>if c=true then u e d Q else Q false d
def Fq(t u:TT):TT:=λe H Q=>t e H λc d=>if c=true then Q true d else u e d Q
def Er(t:TT):TT:=λe H Q=>t e H λc d=>Q (!c) d
def Mb(f:PT X a tA):PW X (.BoolOp .And [a] pos) tA:=by
 intro j d s g H Q I h;refine isTrue_and (Zt (f d s g H Q I h) λc i e=>?_)
 cases c with
 | true=>exact isTrue_and_nil e
 | false=>exact e
def UR(f:PT X a tA):PW X (.BoolOp .Or [a] pos) tA:=by
 intro j d s g H Q I h;refine isTrue_or (Zt (f d s g H Q I h) λc i e=>?_)
 cases c with
 | false=>exact isTrue_or_nil e
 | true=>exact e
def Na(j:PT X a tA)(k:PW X (.BoolOp .And (b::rest) pos) tB'):PW X (.BoolOp .And (a::b::rest) pos) (Eo tA tB'):=by
 intro m d s i H Q I h;refine isTrue_and (Zt (j d s i H _ I h) ?_);rintro c l ⟨e,f,g⟩
 cases c with
 | true=>exact k m d l i e Q f g
 | false=>exact⟨e,f,g⟩
def VI(j:PT X a tA)(k:PW X (.BoolOp .Or (b::rest) pos) tB'):PW X (.BoolOp .Or (a::b::rest) pos) (Fq tA tB'):=by
 intro m d s i H Q I h;refine isTrue_or (Zt (j d s i H _ I h) ?_);rintro c l ⟨e,f,g⟩
 cases c with
 | true=>exact⟨e,f,g⟩
 | false=>exact k m d l i e Q f g
def XU(f:PT X a tA):PT X (.UnaryOp .Not a pos) (Er tA):=by
 intro d s g H Q I h;exact isTrue_not (f d s g H (λc e=>Q (!c) e) I h)
inductive PM(tb:TE)(e:L2.St)(Q:VK)(x:V)(d:Hp):Prop
 |mk(c:_)(_:x=.bl c)(_:if c=true then tb e d Q else Q (.bl false) d)
def FZ(ta tb:TE):TE:=λc H Q=>ta c H λx d=>PM tb c Q x d
inductive Pf(Q:VK)(x:V)(d:Hp):Prop
 |mk(c:_)(_:x=.bl c)(_:Q (.bl (!c)) d)
def C1(ta:TE):TE:=λd H Q=>ta d H λx c=>Pf Q x c
def Pn{e}{t:TE}(h:PE X a t):PE X (.BoolOp e [a] pos) t:=λc s f H Q I d=>BoolOp_one (h c s f H Q I d)
def QN(j:PE X a ta)(k:PE X (.BoolOp .And (b::rest) pos) tb):PE X (.BoolOp .And (a::b::rest) pos) (FZ ta tb):=by
 intro d s i H Q I h;refine BoolOp_and (YD (j d s i H _ I h) λv m x f g l e=>?_);obtain⟨c,rfl,e⟩:=e;cases l;refine wpAny_truthy_bool ?_
 cases c with
 | true=>exact k d m i f Q g e
 | false=>exact⟨.bl false,f,g,rfl,e⟩
def HP(i:PE X a ta):PE X (.UnaryOp .Not a pos) (C1 ta):=by
 intro d s k H Q I h;refine UnaryOp_ (YD (i d s k H _ I h) λv l x f g j e=>?_);obtain⟨c,rfl,e⟩:=e;cases j;exact not_of (wpAny_truthy_bool ⟨.bl (!c),f,g,rfl,e⟩)
end
def ZH(K:zZ)(H:Hp)(a:aj)(c:je):Prop:=
 Rd H a (.lst c) \/
  ∃(o:aH)(b:jw)(n:Nat),K.lookup a=some o/\o.cls=.type "list" /\ o.dict=none/\o.data=.seq b n/\b.size<=ap/\ZO c b.toList
def Zd(K:zZ)(H:Hp)(a:aj)(c:je):Prop:=
 Rd H a (.tup c) \/
  ∃(o:aH)(b:jw)(n:Nat),K.lookup a=some o/\o.cls=.type "tuple" /\ o.data=.seq b n/\b.size<=ap/\ZO c b.toList
def Ad:ai->jf
 | .none=>some .non
 | .bool b=>some (.bl b)
 | .int i _=>some (.int i)
 | .str x _=>some (.str x)
 | .bytes b _=>some (.byt b)
 | .float b _=>some (.flt b)
 | .ref a=>some (.ref a)
 | .type n=>some (.ty n)
 | _=>none
def ZS.abs{x:V}{u:ai}(r:ZS x u):Ad u=some x:=by
 cases x with
 | non=>cases r;rfl
 | bl _=>cases r;rfl
 | int _=>obtain⟨t,rfl⟩:=r;rfl
 | str _=>obtain⟨t,rfl⟩:=r;rfl
 | byt _=>obtain⟨t,rfl⟩:=r;rfl
 | flt _=>obtain⟨t,rfl⟩:=r;rfl
 | ref _=>cases r;rfl
 | ty _=>cases r;rfl
def ZS.inj{x y:V}{u:ai}(r:ZS x u)(q:ZS y u):x=y:=zH.inj (r.abs.symm.trans q.abs)
def ZO.inj:∀{c a:je}{b:jd},ZO c b->ZO a b->c=a:=by intro _ a _ h g;induction h generalizing a with
 | nil=>cases g;rfl
 | cons r _ d=>cases g with
  | cons e f=>rw[r.inj e,d f]
section
variable{jU:js}{σ:St}{H:Hp}{s:ak}{a:aj}{xs ys:je}
def ZH.of{K:zZ}(h:H a=some (.lst xs)):ZH K H a xs:=.inl (.inl h)
def Zd.of{K:zZ}(h:H a=some (.tup xs)):Zd K H a xs:=.inl (.inl h)
def ZF.list(I:ZF X jU σ H s)(h:ZH X.K H a xs):∃ b:jd,ZO xs b/\PlainL s.heap a b.toArray/\xs.length<=sizeLine:=by
 rcases h with h | ⟨o,b,n,f,c,d,g,i,r⟩
 ·obtain⟨z,b,n,r,e⟩:=h.ok I.hok;exact⟨b,r,⟨_,n,e,rfl,rfl,rfl⟩,z⟩
 ·exists b.toList,r,⟨o,n,I.kIn a o f,c,d,by simpa using g⟩
  have e:=r.length;simp only[vT] at e
  lia
def ZF.tuple(I:ZF X jU σ H s)(h:Zd X.K H a xs):∃ b:jd,ZO xs b/\IsTup s.heap a b.toArray/\xs.length<=sizeLine:=by
 rcases h with h | ⟨o,b,n,d,c,f,g,r⟩
 ·obtain⟨z,b,r,p⟩:=h.ok I.hok;exact⟨b,r,p,z⟩
 ·exists b.toList,r,⟨o,I.kIn a o d,c,n,by simpa using f⟩
  have e:=r.length;simp only[vT] at e
  lia
def ZF.list_inj(I:ZF X jU σ H s)(h:ZH X.K H a xs)(i:ZH X.K H a ys):xs=ys:=by
 obtain⟨c,r,⟨o,n,e,_,_,d⟩,_⟩:=I.list h;obtain⟨b,j,⟨l,k,g,_,_,f⟩,_⟩:=I.list i;rw[e] at g;cases g;rw[d] at f;injection f with d1 _;have:c=b:=by simpa using congrArg uC d1
 subst this;exact r.inj j
def ZF.tuple_inj(I:ZF X jU σ H s)(h:Zd X.K H a xs)(i:Zd X.K H a ys):xs=ys:=by
 obtain⟨c,r,⟨o,e,_,n,d⟩,_⟩:=I.tuple h;obtain⟨b,j,⟨l,g,_,k,f⟩,_⟩:=I.tuple i;rw[e] at g;cases g;rw[d] at f;injection f with d1 _;have:c=b:=by simpa using congrArg uC d1
 subst this;exact r.inj j
end
abbrev Cx.wish(X:Cx)(E:ja):Cx:={ X with xe:=E }
abbrev Cx.nox(X:Cx):Cx:=X.wish λ_ _=>False
def Cx.Ok.wish{X:Cx}(a:X.Ok)(E:ja):(X.wish E).Ok:=
 ⟨a.mod,a.kind,a.glob,a.blt,a.above,a.inj,a.has,a.cab,a.hd,a.frames,a.stk,a.exf,a.bs,a.bsz,a.noex,a.exfs,a.funs,a.frf⟩
def Cx.Ok.unwish{X:Cx}{E:ja}(a:(X.wish E).Ok):X.Ok:=
 ⟨a.mod,a.kind,a.glob,a.blt,a.above,a.inj,a.has,a.cab,a.hd,a.frames,a.stk,a.exf,a.bs,a.bsz,a.noex,a.exfs,a.funs,a.frf⟩
section
variable{jU:js}{σ:St}{H:Hp}{s:ak}{E:ja}
def ZF.wish(I:ZF X jU σ H s)(E:ja):ZF (X.wish E) jU σ H s:=⟨I.ok.wish E,I.os,I.bare,I.base,I.loc,I.cell,I.free,I.freeC,I.pin,I.hok,I.len⟩
def ZF.unwish(I:ZF (X.wish E) jU σ H s):ZF X jU σ H s:=⟨I.ok.unwish,I.os,I.bare,I.base,I.loc,I.cell,I.free,I.freeC,I.pin,I.hok,I.len⟩
def SP.unwish{D:Yt}{f:Flow}{c:ak}(h:SP (X.wish E) jU D f c):SP X jU D f c:=by
 cases f with
 | next=>obtain⟨a,b,I,q⟩:=h;exact⟨a,b,I.unwish,q⟩
 | brk=>obtain⟨a,b,I,q⟩:=h;exact⟨a,b,I.unwish,q⟩
 | cont=>obtain⟨a,b,I,q⟩:=h;exact⟨a,b,I.unwish,q⟩
 | ret u=>obtain⟨v,a,b,I,r,q⟩:=h;exact⟨v,a,b,I.unwish,r,q⟩
def WC.nox{a:jJ}{t:TS}(h:WC X.nox a t):WC X a t:=λjU s σ H D I b=>
 ae (h jU s σ H D (I.wish _) b) (λ_ _ q=>q.unwish) λ_ _ z=>False.elim z
end
section
variable{st:aB}{rest:jJ}{t u:TS}{e:Expr}{te:TE}{pos:aI}
def CF:TS:=λD a H=>D.nx a H
def D7(t u:TS):TS:=λD a H=>t { D with nx:=u D } a H
def Z1:WC X [] CF:=λ_ _ a H _ I h=>wpAny_execs_nil ⟨a,H,I,h⟩
def ZQ(g:PS X st t)(i:WC X rest u):WC X (st::rest) (D7 t u):=by
 intro a s k H D I h;refine wpAny_execs_cons (Zt (g a s k H { D with nx:=u D } I h) λf j q=>?_)
 cases f with
 | next=>
  obtain⟨b,c,d,q⟩:=q;exact i a j b c D d q
 | ret v=>exact q
 | brk=>exact q
 | cont=>exact q
def ZU(b:PS X st t):WC X [st] t:=by
 intro a s c H D I h;refine wpAny_execs_cons (Zt (b a s c H D I h) λf d q=>?_)
 cases f with
 | next=>exact wpAny_execs_nil q
 | ret v=>exact q
 | brk=>exact q
 | cont=>exact q
def ZF.quiet{a:js}{b:St}{H:Hp}{s:ak}(I:ZF X a b H s):interactive X.env=false:=by simp[interactive,I.ok.kind]
def AJ(te:TE):TS:=λD a H=>te a H λ_ b=>D.nx a b
def Xe(f:PE X e te)(g:swapsWith e none pos.line X.env=pure false:=by rfl):PS X (.Expr e pos) (AJ te):=by
 intro a s b H D I h;exact wpAny_Expr_any (YD (f a s b H _ I h) λv k x c d j i=>⟨b,c,d,i⟩) I.quiet g
def E8(te:TE):TS:=λD a H=>te a H D.rt
def Zn(f:PE X e te):PS X (.Return (some e) pos) (E8 te):=by
 intro a s b H D I h;exact wpAny_Return_some (YD (f a s b H _ I h) λv j x c d i g=>⟨x,b,c,d,i,g⟩)
def Ba:TS:=λD _ H=>D.rt .non H
def Dy:PS X (.Return none pos) Ba:=λ_ _ a H _ I h=>wpAny_Return_none ⟨.non,a,H,I,rfl,h⟩
def Ck(c:TT)(t u:TS):TS:=λD a H=>c a H λb d=>if b=true then t D a d else u D a d
def Zv{c:Expr}{a b:jJ}{m:TT}(p:PT X c m)(n:WC X a t)(o:WC X b u):PS X (.If c a b pos) (Ck m t u):=by
 intro f s g H D I h;refine wpAny_If (Zt (p f s g H _ I h) ?_);rintro d l ⟨i,j,k⟩
 cases d with
 | true=>exact n f l g i D j k
 | false=>exact o f l g i D j k
def Dd:TS:=λ_ _ _=>False
def WY{a:jJ}:WC X a Dd:=λ_ _ _ _ _ _ h=>h.elim
end
abbrev TG:=V->St->Hp->(St->Hp->Prop)->Prop
abbrev OC:=je->St->Hp->(St->Hp->Prop)->Prop
def PG(X:Cx)(a:Expr)(t:TG):Prop:=
 ∀(b:js)(s:ak)(e:St)(H:Hp)(v:V)(u:ai)(Q:St->Hp->Prop),ZF X b e H s->ZS v u->t v e H Q ->
  aA (az X.prog X.w) X.A (assign a X.env u) (λ_ f=>∃ c d,ZF X b c d f/\Q c d) X.xe s
def N9(X:Cx)(h:jy)(t:OC):Prop:=
 ∀(a:js)(s:ak)(f:St)(H:Hp)(e:je)(d:jd)(Q:St->Hp->Prop),ZF X a f H s->ZO e d->t e f H Q ->
  aA (az X.prog X.w) X.A (assignInOrder ((assignEach h X.env).map (·.2)) d) (λ_ g=>∃ b c,ZF X a b c g/\Q b c) X.xe s
abbrev KW:=V->V->V->Hp->(Hp->Prop)->Prop
def IA(X:Cx)(t:KW):Prop:=
 ∀(a:js)(s:ak)(e:St)(H:Hp)(o i v:V)(d c u:ai)(Q:Hp->Prop),ZF X a e H s->ZS o d->ZS i c->ZS v u->t o i v H Q ->
  aA (az X.prog X.w) X.A (setItem d c u) (λ_ f=>∃ b,ZF X a e b f/\Q b) X.xe s
section
variable{pos:aI}
def Uf(i:Nat):TG:=λv a H Q=>Q (a.set i (some v)) H
def QX{i:Nat}{x:Str}(c:X.N.Nodup)(e:X.N[i]? = some x)(f:ON X.env.scope x)(d:X.fn x=true\/X.env.scope.names.lookup x=some .local:=by first | exact .inl rfl | exact .inr rfl | assumption):PG X (.Name x pos) (Uf i):=by
 intro a s j H v u Q I r h;exact wpAny_assign_Name (Nr I c e f r (λg b=>⟨_,H,b,h⟩) d)
def Yb(i:Nat){x:Str}(a:X.N.Nodup)(c:X.N[i]? = some x:=by rfl)(d:ON X.env.scope x:=by exact Or.inl rfl)(b:X.fn x=true\/X.env.scope.names.lookup x=some .local:=by first | exact .inl rfl | exact .inr rfl | assumption):PG X (.Name x pos) (Uf i):=QX a c d b
def IP:OC:=λa b H Q=>a=[]/\Q b H
inductive QA(t:TG)(u:OC)(c:je)(d:L2.St)(H:Hp)(Q:L2.St->Hp->Prop):Prop
 |mk(v r:_)(_:c=v::r)(_:t v d H λa b=>u r a b Q)
def Q4:N9 X [] IP:=by
 intro a s b H d c Q I r h;obtain⟨e,h⟩:=h;subst e;cases r;exact assignInOrder_nil ⟨b,H,I,h⟩
def Y7{e:Expr}{b:jy}{t:TG}{u:OC}(i:PG X e t)(j:N9 X b u)(k:(assignEach (e::b) X.env).map (·.2)=assign e X.env::(assignEach b X.env).map (·.2):=by rfl):N9 X (e::b) (QA t u):=by
 intro a s o H w p Q I r h;obtain⟨v,q,g,h⟩:=h;subst g
 cases r with
 | cons r m=>
  rw[k];refine assignInOrder_cons (Zt (i a s o H _ _ _ I r h) ?_);rintro _ n ⟨c,d,f,l⟩;exact j a n c d _ _ Q f m l
inductive NT(K:zZ)(n:Nat)(t:OC)(v:V)(c:L2.St)(H:Hp)(Q:L2.St->Hp->Prop):Prop
 |mk(a b:_)(_:v=.ref a)(_:Zd K H a b)(_:b.length=n)(_:t b c H Q)
def Q7{d:jy}{k:Nat}{t:OC}{n:Nat}(q:X.calm=true)(h:N9 X d t)(x:(assignEach d X.env).length=n:=by rfl)(f:(assignEach d X.env).findIdx? (·.1)=none:=by rfl):PG X (.Tuple d k pos) (NT X.K n t):=by
 intro c s j H v u Q I r g;obtain⟨a,C,m,y,w,g⟩:=g;subst m;cases r;obtain⟨B,i,z,D⟩:=I.tuple y;refine assign_Tuple_tuple (I.ok.hd q) z (by simp[x,<-w,i.length]) f λp A=>?_
 have l:ZF X c j H { s with heap:=p }:=I.kept (t':=s.toks) λb o e=>A b o (zO (zW e)) e;exact h c _ j H C _ Q l (by simpa using i) g
def ZPl(f e:TE)(t:KW):TG:=λv a H Q=>f a H λo b=>e a b λi c=>t o i v c λd=>Q a d
def M6{o i:Expr}{f e:TE}{t:KW}(w:PE X o f)(q:PE X i e)(z:IA X t)(p:∀ v,assign (.Subscript o i pos) X.env v=(do
   let b<-holding [v] (aG o X.env)
   let c<-holding [v,b] (aG i X.env)
   standAt pos
   holding [v,b,c] (setItem b c v)
   release [v,b,c] []):=by intro _;rfl):PG X (.Subscript o i pos) (ZPl f e t):=by
 intro a s d H v u Q I r h;rw[p];refine aa (af (YD (w a s d H _ I h) λb F x g l D A=>?_));refine aa (af (YD (q a F d g _ l A) λc G y j m E B=>?_));refine aa (ah (aa (af (Zt (z a G d j x y v b c u _ m D E r B) ?_))));rintro _ J ⟨k,n,C⟩;exact wpAny_release ⟨d,k,n,C⟩
def Lr(c:TE)(g:TG):TS:=λD a H=>c a H λx b=>g x a b D.nx
def Qt{b e:Expr}{c:TE}{g:TG}(k:PE X e c)(l:PG X b g)(m:swapsWithSole [b] e pos.line X.env=pure false:=by rfl)(n:swappedStores [b] e X.env=pure none:=by rfl)(j:(assignEach [b] X.env).map (·.2)=[assign b X.env]:=by rfl):PS X (.Assign [b] e pos) (Lr c g):=by
 intro a s d H D I h;refine wpAny_Assign_stores (YD (k a s d H _ I h) λv r x f i p o=>?_) m n;rw[j];exact Zt (l a r d f x v _ i p o) λ_ t q=>q
def ND{i:Nat}{x:Str}{e:Expr}{c:TE}{a:aI}(j:X.N.Nodup)(m:X.N[i]? = some x)(o:ON X.env.scope x)(k:PE X e c)(n:swapsWith e (some (.Name x a)) pos.line X.env=pure false:=by rfl)(l:X.fn x=true\/X.env.scope.names.lookup x=some .local:=by first | exact .inl rfl | exact .inr rfl | assumption):
  PS X (.Assign [.Name x a] e pos) (Lr c (Uf i)):=by
 intro b s r H D I h;refine wpAny_Assign_Name (YD (k b s r H _ I h) λv t y d f q p=>?_) n;exact Nr f j m o q (λu g=>⟨_,d,g,p⟩) l
def Zw(i:Nat){x:Str}{e:Expr}{b:TE}{a:aI}(c:X.N.Nodup)(d:PE X e b)(g:X.N[i]? = some x:=by rfl)(j:ON X.env.scope x:=by exact Or.inl rfl)(h:swapsWith e (some (.Name x a)) pos.line X.env=pure false:=by rfl)(f:X.fn x=true\/X.env.scope.names.lookup x=some .local:=by first | exact .inl rfl | exact .inr rfl | assumption):
  PS X (.Assign [.Name x a] e pos) (Lr b (Uf i)):=ND c g j d h f
inductive P6(c:TT)(h:TS)(D:Yt)(a:L2.St)(H:Hp):Prop
 |mk(W:Nat->St->Hp->Prop)(_:∃ m,W m a H)(_:∀ m a H,W m a H->c a H λb f=>if b=true then ∃ N:St->Hp->Prop,(∀ d e,N d e->∃ g,g<m/\W g d e)/\h { D with nx:=N,ct:=N,bk:=D.nx } a f else D.nx a f)
def NC{c:Expr}{g:jJ}{F:TT}{E:TS}(C:PassesOwn (az X.prog X.w) X.A X.env X.xe)(K:PT X c F)(J:WC X g E):PS X (.While c g [] pos) (P6 F E):=by
 intro a s S H D I h;obtain⟨W,⟨L,Q⟩,j⟩:=h;refine wpAny_While (codeAny_whileLoop (λn M=>∃ k u,ZF X a k u M/\W n k u) ?_ L ⟨S,H,I,Q⟩);rintro n O ⟨e,x,G,R⟩;refine wpAny_passesOwn C (Zt (K a O e x _ G (j n e x R)) ?_);rintro b P ⟨y,z,l⟩
 cases b with
 | true=>
  obtain⟨N,B,l⟩:=l;rw[aO rfl];refine wpAny_passesOwn C (Zt (J a P e y _ z l) λf T m=>?_)
  cases f with
  | next=>
   obtain⟨d,i,o,r⟩:=m;obtain⟨q,p,t⟩:=B d i r;exact⟨q,p,d,i,o,t⟩
  | cont=>
   obtain⟨d,i,o,r⟩:=m;obtain⟨q,p,t⟩:=B d i r;exact⟨q,p,d,i,o,t⟩
  | brk=>exact m
  | ret v=>exact m
 | false=>
  rw[aM zV];exact wpAny_execs_nil ⟨e,y,z,l⟩
end
structure It where
 go:Nat->Hp->Prop
 yld:Nat->Hp->V->Hp->Prop
 stop:Nat->Hp->Prop
def Wf(X:Cx)(a:js)(H:Hp)(b:aj):Prop:=
 H b=none/\b≠X.env.locals/\b∉X.fs/\(b∈X.ex\/X.s₀.heap.objs.size<=b)/\(∀ x c,X.env.cells.lookup x=some c->c≠b)/\∀ p∈X.pn++a,p.1≠b
def ZF.fpOk{X:Cx}{a:js}{i:St}{H f:Hp}{s:ak}{b:aj}(I:ZF X a i H s)(d:s.heap.objs.size<=b)(g:f b=none):Wf X a f b:=by
 refine⟨g,xT (yQ I.lt d),I.nofs d,.inr (zI I.sz d),λx c e z=>?_,λp h z=>?_⟩
 ·obtain⟨v,q⟩:=I.cell x c e;exact absurd (yQ q.lt (by rw[z];exact d)) (xE _)
 ·exact absurd (yQ (zW (I.pin p h).1) (by rw[z];exact d)) (xE _)
structure VH(P:al)(w:ar)(K:zZ)(tg:Expr)(J:It)(fp:ju)(it:aj)(tn:Nat->aC->Prop):Prop where
 mem:it∈fp
 obj:∀ i h,tn i h->∀ b∈fp,∃ o,h.get? b=some o/\∀ v,o.data≠.cell v
 keep:∀ i h h',tn i h->(∀ b∈fp,∀ o,h.get? b=some o->h'.get? b=some o)->tn i h'
 item:∀(X:Cx),X.prog=P->X.w=w->X.K=K->X.calm=true->∀(i:Nat)(jU:js)(s:ak)(σ:St)(H:Hp)(E:ja),ZF X jU σ H s->(∀ b∈fp,Wf X jU H b)->tn i s.heap->J.go i H ->
  aA (az P w) X.A (pyNext (.ref it)) (λr s1=>∃ u,r=some u /\
   aA (az P w) X.A (letOwnedTupleGo tg (.ref it) u) (λ_ s2=>∃ x H',ZF X jU σ H' s2/\ZS x u/\J.yld i H x H'/\tn (i+1) s2.heap/\∀ b∈fp,H' b=none) E s1) E s
 done:∀(X:Cx),X.prog=P->X.w=w->X.K=K->X.calm=true->∀(i:Nat)(jU:js)(s:ak)(σ:St)(H:Hp)(E:ja),ZF X jU σ H s->(∀ b∈fp,Wf X jU H b)->tn i s.heap->J.stop i H ->
  aA (az P w) X.A (pyNext (.ref it)) (λr s1=>r=none/\ZF X jU σ H s1) E s
 self:∀(A:aw)(i:Nat)(s:ak)(Q:ja)(E:ja),tn i s.heap->Q (.ref it) s->aA (az P w) A (pyIter (.ref it)) Q E s
abbrev TI:=St->Hp->(It->Hp->Prop)->Prop
def J8(X:Cx)(a:js)(j:St)(i:Expr)(R:It->Hp->Prop)(d:ai)(g:ak):Prop:=
 ∃(f:aj)(e:ju)(h:Nat->aC->Prop)(J:It)(c:Hp),d=.ref f/\ZF X a j c g/\VH X.prog X.w X.K i J e f h/\h 0 g.heap/\(∀ b∈e,Wf X a c b)/\R J c
def PI(X:Cx)(e b:Expr)(f:TI):Prop:=
 ∀(a:js)(s:ak)(c:St)(H:Hp)(R:It->Hp->Prop),ZF X a c H s->f c H R ->
  aA (az X.prog X.w) X.A (aG b X.env) (λv d=>aA (az X.prog X.w) X.A (pyIter v) (J8 X a c e R) X.xe d) X.xe s
def Nx{M:Model}{A:aw}{E:ja}{s:ak}{c:Expr}{b:aj}{u:ai}{o:aH}{n:String}{d:jw}{Q:Unit->ak->Prop}(i:s.heap.get? b=some o)(e:o.cls=.type n)(f:o.data=.fields d)(g:["enumerate","zip","dict_itemiterator","dict_reverseitemiterator","odict_iterator","itertools.zip_longest","itertools.pairwise"].contains n=false)(a:Q () s):aA M A (letOwnedTupleGo c (.ref b) u) Q E s:=by
 unfold letOwnedTupleGo;cases c <;> first
  | exact ad a
  | (cases u <;> first
    | exact ad a
    | (refine aa (wpAny_load i ?_);rw[e,f];show aA M A (if (["enumerate","zip","dict_itemiterator","dict_reverseitemiterator","odict_iterator","itertools.zip_longest","itertools.pairwise"].contains n&&d[0]? == some (rawInt _))=true then _ else _) Q E s;rw[aM (by intro h;rw[g,uY] at h;cases h)];exact ad a))
def NF(K:zZ)(a:aj):It:=
 ⟨λi H=>∃ b x,ZH K H a b/\b[i]? = some x,λi H x c=>c=H/\∀ b,ZH K H a b->b[i]? = some x,λi H=>∃ b,ZH K H a b/\b.length<=i⟩
def IZ(K:zZ)(a:aj):It:=
 ⟨λi H=>∃ b x,Zd K H a b/\b[i]? = some x,λi H x c=>c=H/\∀ b,Zd K H a b->b[i]? = some x,λi H=>∃ b,Zd K H a b/\b.length<=i⟩
def PU(b:Int)(n:Nat):It:=⟨λi _=>i<n,λi H x a=>a=H/\x=.int (b+i),λi _=>n<=i⟩
def ZJQ{P:al}{w:ar}{K:zZ}{tg:Expr}(a l:aj):VH P w K tg (NF K a) [l] l (λi h=>h.IsListIter l a i) where
 mem:=by simp
 obj:=λi h f b j=>by
  have e:b=l:=by simpa using j
  subst e;obtain⟨o,e,c,d⟩:=f;exact⟨o,e,λv z=>by rw[d] at z;cases z⟩
 keep:=λi h n f k=>f.at λo e=>k l (by simp) o e
 item:=by
  intro X F J D O i g s Q H E I q f G;subst F J D;obtain⟨xs,x,r,L⟩:=G;obtain⟨M,N,p,Y⟩:=I.list r;obtain⟨u,U,Z⟩:=N.get L;obtain⟨t,y,T,A,B,C⟩:=q l (by simp)
  refine wpAny_pyNext_list_item f p.isList (x:=u) (by simpa using U) λn m sb=>?_
  have R:ZF X g Q H { s with heap:=n }:=I.turned (t':=s.toks) (λb o j e=>(sb.2 b j).trans e) t y A B C;obtain⟨o,e,c,d⟩:=id m;exact⟨u,rfl,Nx (s:={ s with heap:=n }) e c d (by decide) ⟨x,H,R,Z,⟨rfl,λys V=>by rw[I.list_inj V r];exact L⟩,m,λb j=>(q b j).1⟩⟩
 done:=by
  intro X F J D O i g s Q H E I q f G;subst F J D;obtain⟨xs,r,L⟩:=G;obtain⟨M,N,p,Y⟩:=I.list r;obtain⟨t,y,T,A,B,C⟩:=q l (by simp)
  have hl:=N.length;exact wpAny_pyNext_list_end (I.ok.hd O) f p.isList (by simp;lia) λn S=>⟨rfl,I.turned (t':=s.toks) (λb o j e=>S b o j e) t y A B C⟩
 self:=λ_ _ _ _ _ f h=>wpAny_pyIter_listiter f h
def ZHR{P:al}{w:ar}{K:zZ}{tg:Expr}(a l:aj):VH P w K tg (IZ K a) [l] l (λi h=>h.IsTupleIter l a i) where
 mem:=by simp
 obj:=λi h f b j=>by
  have e:b=l:=by simpa using j
  subst e;obtain⟨o,e,c,d⟩:=f;exact⟨o,e,λv z=>by rw[d] at z;cases z⟩
 keep:=λi h q f k=>f.at λo e=>k l (by simp) o e
 item:=by
  intro X G L F O i g s Q H E I r f J;subst G L F;obtain⟨xs,x,t,M⟩:=J;obtain⟨m,N,p,Y⟩:=I.tuple t;obtain⟨u,U,Z⟩:=N.get M;obtain⟨y,A,T,B,C,D⟩:=r l (by simp)
  refine wpAny_pyNext_tuple_item f (show s.heap.IsTuple a m.toArray from p) (x:=u) (by simpa using U) λq n sb=>?_
  have R:ZF X g Q H { s with heap:=q }:=I.turned (t':=s.toks) (λb o j e=>(sb.2 b j).trans e) y A B C D;obtain⟨o,e,c,d⟩:=id n;exact⟨u,rfl,Nx (s:={ s with heap:=q }) e c d (by decide) ⟨x,H,R,Z,⟨rfl,λys V=>by rw[I.tuple_inj V t];exact M⟩,n,λb j=>(r b j).1⟩⟩
 done:=by
  intro X G L F O i g s Q H E I r f J;subst G L F;obtain⟨xs,t,M⟩:=J;obtain⟨m,N,p,Y⟩:=I.tuple t;obtain⟨y,A,T,B,C,D⟩:=r l (by simp)
  have hl:=N.length;exact wpAny_pyNext_tuple_end (I.ok.hd O) f (show s.heap.IsTuple a m.toArray from p) (by simp;lia) λq S=>⟨rfl,I.turned (t':=s.toks) (λb o j e=>S b o j e) y A B C D⟩
 self:=λ_ _ _ _ _ f h=>wpAny_pyIter_tupleiter f h
def Af{P:al}{w:ar}{K:zZ}{Q:Expr}(c:aj)(m:Int)(n:Nat):VH P w K Q (PU m n) [c] c (λi h=>IsRangeIter h c (m+(i:Nat) * 1) ((n:Int)-(i:Nat)) 1) where
 mem:=by simp
 obj:=λi h a b f=>by
  have e:b=c:=by simpa using f
  subst e;exact⟨_,a,λv z=>by
   have R:Data.fields _=Data.cell v:=z;cases R⟩
 keep:=λi h j a k=>k c (by simp) _ a
 item:=by
  intro X A D y B i d s G H E I l a C;subst A D y;obtain⟨p,q,M,r,u,x⟩:=l c (by simp)
  have W:=Walks.range (prog:=X.prog) (w:=X.w) (I.ok.hd B) c m 1 n;refine W.item i s _ _ C a λv j F N g O=>?_;obtain⟨t,rfl⟩:=N;have J:ZF X d G H { s with heap:=j,toks:=F }:=I.turned (λb o f e=>O b o (by simpa using f) e) p q r u x
  refine⟨_,rfl,Nx (s:={ s with heap:=j,toks:=F }) (n:= "range_iterator") g rfl rfl (by decide) ⟨.int (m+i),H,J,⟨t,?_⟩,⟨rfl,rfl⟩,g,λb f=>(l b f).1⟩⟩
  rw[Int.mul_one]
 done:=by
  intro X A D y B i d s G H E I l a C;subst A D y;obtain⟨p,q,M,r,u,x⟩:=l c (by simp)
  exact wpAny_pyNext_range_end (I.ok.hd B) a (by have:n<=i:=C;lia) λj L=>⟨rfl,I.turned (t':=s.toks) (λb o f e=>L b o f e) p q r u x⟩
 self:=λ_ _ _ _ _ a h=>wpAny_pyIter_rangeiter a h
section
variable{tg:Expr}
inductive Pj(K:zZ)(R:It->Hp->Prop)(x:V)(b:Hp):Prop
 |mk(a:_)(_:x=.ref a)(_:∃ c,ZH K b a c)(_:R (NF K a) b)
def Cl(K:zZ)(b:TE):TI:=λc H R=>b c H λx a=>Pj K R x a
inductive O4(K:zZ)(R:It->Hp->Prop)(x:V)(b:Hp):Prop
 |mk(a:_)(_:x=.ref a)(_:∃ c,Zd K b a c)(_:R (IZ K a) b)
def B8(K:zZ)(b:TE):TI:=λc H R=>b c H λx a=>O4 K R x a
def WZ{l:Expr}{g:TE}(k:PE X l g):PI X tg l (Cl X.K g):=by
 intro c s u H R I h;refine YD (k c s u H _ I h) λv f x i d t r=>?_;obtain⟨a,e,⟨z,m⟩,q⟩:=r;subst e;cases t;obtain⟨n,y,p,w⟩:=d.list m;refine wpAny_pyIter_list p.isList ?_;refine⟨f.heap.objs.size,[f.heap.objs.size],_,_,i,rfl,d.kept (t':=f.toks) λb o e=>zS _ e,ZJQ a _,⟨_,yW _ rfl,rfl,rfl⟩,λb j=>?_,q⟩;have e:b=f.heap.objs.size:=by simpa using j
 subst e;exact d.fpOk (zY _) (d.hok.fresh (zY _))
def Ka{l:Expr}{i:TE}(m:PE X l i):PI X tg l (B8 X.K i):=by
 intro c s u H R I h;refine YD (m c s u H _ I h) λv d x j f t r=>?_;obtain⟨a,e,⟨z,n⟩,q⟩:=r;subst e;cases t;obtain⟨g,y,p,w⟩:=f.tuple n;refine wpAny_pyIter_tuple (show d.heap.IsTuple a g.toArray from p) ?_;refine⟨d.heap.objs.size,[d.heap.objs.size],_,_,j,rfl,f.kept (t':=d.toks) λb o e=>zS _ e,ZHR a _,⟨_,yW _ rfl,rfl,rfl⟩,λb k=>?_,q⟩;have e:b=d.heap.objs.size:=by simpa using k
 subst e;exact f.fpOk (zY _) (f.hok.fresh (zY _))
def HY{d:js}{h:St}{H:Hp}{s:ak}{R:It->Hp->Prop}{E:ja}{a c:Int}{t u v:Tok}{g:Nat}(I:ZF X d h H s)(k : -(2 ^ 62)<=a)(l:a<2 ^ 62)(m : -(2 ^ 62)<=c)(n:c<2 ^ 62)(q:R (PU a (c-a).toNat) H):aA (az X.prog X.w) X.A (pyIter (.ref s.heap.objs.size)) (J8 X d h tg R) E { s with heap:=s.heap.push { cls:=.type "range",data:=.fields #[.int a t,.int c u,.int 1 v] },toks:=g }:=by
 refine wpAny_pyIter_range (IsRange.new ..) (small_one k l m n) ?_;have f:ZF X d h H { s with heap:=s.heap.push { cls:=.type "range",data:=.fields #[.int a t,.int c u,.int 1 v] },toks:=g }:=I.kept λb o e=>zS _ e;refine⟨(s.heap.push { cls:=.type "range",data:=.fields #[.int a t,.int c u,.int 1 v] }).objs.size,[(s.heap.push { cls:=.type "range",data:=.fields #[.int a t,.int c u,.int 1 v] }).objs.size],_,_,H,rfl,
  f.kept (t':=g) λb o e=>zS _ e,Af _ a (c-a).toNat,?_,λb p=>?_,q⟩
 ·have i:a+((0:Nat):Int) * 1=a:=by simp
  have j:(((c-a).toNat:Nat):Int)-((0:Nat):Int)=Builtin.Range.rangeSize a c 1:=by rw[rangeSize_one];split <;> lia
  show IsRangeIter _ _ (a+((0:Nat):Int) * 1) ((((c-a).toNat:Nat):Int)-((0:Nat):Int)) 1;rw[i,j];exact yW _ rfl
 ·have e:b=(s.heap.push { cls:=.type "range",data:=.fields #[.int a t,.int c u,.int 1 v] }).objs.size:=by simpa using p
  subst e;exact f.fpOk (zY _) (f.hok.fresh (zY _))
inductive PO(R:It->Hp->Prop)(b:je)(a:Hp):Prop
 |mk(j:Int)(_:b=[.int j])(_ : -(2 ^ 62)<=j)(_:j<2 ^ 62)(_:R (PU 0 j.toNat) a)
def BQ(b:TA):TI:=λd H R=>b d H λc a=>PO R c a
inductive Pg(R:It->Hp->Prop)(b:je)(a:Hp):Prop
 |mk(i j:Int)(_:b=[.int i,.int j])(_ : -(2 ^ 62)<=i/\i<2 ^ 62 /\ -(2 ^ 62)<=j/\j<2 ^ 62)(_:R (PU i (j-i).toNat) a)
def EW(b:TA):TI:=λd H R=>b d H λc a=>Pg R c a
def Ob{a:Expr}{f:TA}{p c:aI}(k:Gl X "range")(l:X.mg "range" = none)(i:PA X [a] f)(m:aq [a] X.env=[(false,aG a X.env)]:=by rfl):PI X tg (.Call (.Name "range" p) [a] [] c) (BQ f):=by
 intro b s v H R I h;refine Call_ (Qy I k l boot_range (PyProof.Rows.callWith_type1 (YD (i c b s v H _ I h) λy x z w g o d=>?_) m rfl));obtain⟨j,e,d,n,q⟩:=d;subst e
 cases o with
 | cons r u=>
  cases u;obtain⟨t,rfl⟩:=r;exact call_range_1 (HY g ∅ ∅ d n (by simpa using q))
def Nh{a b:Expr}{l:TA}{p f:aI}(o:Gl X "range")(u:X.mg "range" = none)(n:PA X [a,b] l)(v:aq [a,b] X.env=[(false,aG a X.env),(false,aG b X.env)]:=by rfl)(c:aq [b] X.env=[(false,aG b X.env)]:=by rfl):
  PI X tg (.Call (.Name "range" p) [a,b] [] f) (EW l):=by
 intro d s B H R I h;refine Call_ (Qy I o u boot_range (PyProof.Rows.callWith_type1 (YD (n f d s B H _ I h) λF D G C m A g=>?_) (by rw[v,c]) (by rw[c];rfl)))
 obtain⟨i,j,e,⟨g,w,x,y⟩,q⟩:=g;subst e
 cases A with
 | cons r k=>
  cases k with
  | cons z k=>
   cases k;obtain⟨t,rfl⟩:=r;obtain⟨E,rfl⟩:=z;exact call_range_2 (HY m g w x y q)
def ZPt(k:TI)(g:TG)(j:TS):TS:=λD a H=>k a H λJ f=>∃ W:Nat->Nat->St->Hp->Prop,(∃ m,W 0 m a f)/\∀ i m a H,W i m a H ->
 (J.stop i H/\D.nx a H)\/(J.go i H/\∃ N:St->Hp->Prop,(∀ c b,N c b->∃ e,e<m/\W (i+1) e c b)/\∀ x b,J.yld i H x b->g x a b λd h=>j { D with nx:=N,ct:=N,bk:=D.nx } d h)
def OV(a:ju)(h:aC):js:=a.filterMap λb=>(h.get? b).map λo=>(b,o)
def OG{a:ju}{h:aC}{b:aj}{o:aH}(c:b∈a)(e:h.get? b=some o):(b,o)∈OV a h:=xJ.mpr ⟨b,c,by rw[e];rfl⟩
def ED{a:ju}{h:aC}{p:aj×aH}(f:p∈OV a h):p.1∈a/\h.get? p.1=some p.2:=by
 obtain⟨b,d,e⟩:=xJ.mp f
 cases q:h.get? b with
 | none=>rw[q] at e;cases e
 | some o=>
  rw[q] at e;have c:(b,o)=p:=zH.inj e;subst c;exact⟨d,q⟩
def ZF.pinned{a:js}{h:St}{H:Hp}{s:ak}{c:ju}(I:ZF X a h H s)(l:∀ b∈c,Wf X a H b)(m:∀ b∈c,∃ o,s.heap.get? b=some o/\∀ v,o.data≠.cell v):ZF X (a++OV c s.heap) h H s:=
 I.pins_of λp n=>(yY.mp n).elim (λz=>I.pin p (yN _ z)) λz=>by
  obtain⟨g,e⟩:=ED z;obtain⟨i,j,k,_⟩:=l p.1 g;obtain⟨o,f,d⟩:=m p.1 g;rw[e] at f;cases f;exact⟨e,i,j,k,d⟩
def ZF.unpinned{a d:js}{b:St}{H:Hp}{s:ak}(I:ZF X (a++d) b H s):ZF X a b H s:=I.pins_of λp c=>I.pin p (yN _ (xW _ c))
def VV{q:Expr}{C:jJ}{wi:TI}{g:TG}{tb:TS}{Y:aI}(L:PassesOwn (az X.prog X.w) X.A X.env X.xe)(hc:X.calm=true)(hi:PI X tg q wi)(hg:PG X tg g)(p:WC X C tb)(hs:∀ x,foldedSetIterable q X.env x=pure x:=by intro _;rfl):PS X (.For tg q C [] Y) (ZPt wi g tb):=by
 intro a s σ H D I h;refine wpAny_For (Zt (hi a s σ H _ I h) λv s1 h1=>Zt h1 λa2 s2 h2=>?_) hs;obtain⟨it,G,tn,J,H2,e,I2,T,a0,f2,W,⟨m0,w0⟩,Q⟩:=h2;subst e;have t:∀{B:Hp},(∀ b∈G,B b=none)->∀ b∈G,Wf X a B b:=λhn b p=>⟨hn b p,(f2 b p).2⟩;refine codeAny_forLoop_any (λn s'=>∃ i y B,ZF X a y B s'/\tn i s'.heap/\(∀ b∈G,B b=none)/\W i n y B) ?_ m0 ⟨0,σ,H2,I2,a0,λb p=>(f2 b p).1,w0⟩;rintro n s3 ⟨i,z,R,I3,O,K,w3⟩;rcases Q i n z R w3 with ⟨P,qn⟩ | ⟨go,N,hN,step⟩
 ·refine wpAny_passesOwn L (Zt (T.done X rfl rfl rfl hc i a s3 z R X.xe I3 (t K) O P) ?_);rintro r s4 ⟨V,I4⟩;subst V;exact wpAny_execs_nil ⟨z,R,I4,qn⟩
 ·refine wpAny_passesOwn L (Zt (T.item X rfl rfl rfl hc i a s3 z R X.xe I3 (t K) O go) ?_);rintro r s4 ⟨u,V,h4⟩;subst V;refine wpAny_passesOwn L (Zt h4 ?_);rintro _ s5 ⟨x,H5,I5,r5,y5,F,U⟩;have S:=I5.pinned (t U) (T.obj _ _ F);refine wpAny_passesOwn L (Zt (hg _ s5 z H5 x u _ S r5 (step x H5 y5)) ?_);rintro _ s6 ⟨a1,H6,I6,q6⟩;refine wpAny_passesOwn L (Zt (p _ s6 a1 H6 _ I6 q6) λf Z E=>?_);have l:∀{c:St}{j:Hp},ZF X (a++OV G s5.heap) c j Z->N c j->∃ m,m<n/\∃ i y B,ZF X a y B Z/\tn i Z.heap/\(∀ b∈G,B b=none)/\W i m y B:=fun{c j} k M=>by
   obtain⟨m',hm,w7⟩:=hN c j M;refine⟨m',hm,i+1,c,j,k.unpinned,T.keep _ _ _ F λb p o e=>(k.pin (b,o) (yN _ (yN _ (OG p e)))).1,λb p=>?_,w7⟩;obtain⟨o,e,d⟩:=T.obj _ _ F b p;exact(k.pin (b,o) (yN _ (yN _ (OG p e)))).2.1
  cases f with
  | next=>obtain⟨c,j,k,M⟩:=E;exact l k M
  | cont=>obtain⟨c,j,k,M⟩:=E;exact l k M
  | brk=>obtain⟨c,j,k,E⟩:=E;exact⟨c,j,k.unpinned,E⟩
  | ret v=>obtain⟨x7,c,j,k,r7,E⟩:=E;exact⟨x7,c,j,k.unpinned,r7,E⟩
end
def Ql{K:zZ}{a:aj}{xs:je}{g:TG}{n:TS}{D:Yt}{b:St}{H:Hp}(c:Nat->St->Hp->Prop)(o:c 0 b H)(t:∀ i b H,i<=xs.length->c i b H->ZH K H a xs)(u:∀ i x b H,xs[i]? = some x->c i b H->g x b H λh k=>n { D with nx:=c (i+1),ct:=c (i+1),bk:=D.nx } h k)(r:∀ b H,c xs.length b H->D.nx b H):
  ∃ W:Nat->Nat->St->Hp->Prop,(∃ m,W 0 m b H)/\∀ i m b H,W i m b H ->
   ((NF K a).stop i H/\D.nx b H)\/((NF K a).go i H/\∃ N:St->Hp->Prop,(∀ f d,N f d->∃ l,l<m/\W (i+1) l f d)/\∀ x d,(NF K a).yld i H x d->g x b d λh k=>n { D with nx:=N,ct:=N,bk:=D.nx } h k):=by
 exists λi m b H=>m=xs.length-i/\i<=xs.length/\c i b H,⟨xs.length,by simp,yX _,o⟩
 rintro i m b H ⟨rfl,s,p⟩;have q:=t i b H s p;by_cases j:i<xs.length
 ·refine .inr ⟨⟨xs,xs[i],q,by simp[j]⟩,c (i+1),λf d v=>⟨xs.length-(i+1),by exact tM ‹_› (yE _),rfl,j,v⟩,λx d y=>?_⟩
  obtain⟨e,y⟩:=y;subst e;exact u i x b _ (y xs q) p
 ·have e:i=xs.length:=∅
  subst e;exact .inl ⟨⟨xs,q,zY _⟩,r b H p⟩
def Pa{lo:Int}{n:Nat}{g:TG}{l:TS}{D:Yt}{a:St}{H:Hp}(c:Nat->St->Hp->Prop)(o:c 0 a H)(r:∀ i a H,i<n->c i a H->g (.int (lo+i)) a H λh j=>l { D with nx:=c (i+1),ct:=c (i+1),bk:=D.nx } h j)(q:∀ a H,c n a H->D.nx a H):
  ∃ W:Nat->Nat->St->Hp->Prop,(∃ m,W 0 m a H)/\∀ i m a H,W i m a H ->
   ((PU lo n).stop i H/\D.nx a H)\/((PU lo n).go i H/\∃ N:St->Hp->Prop,(∀ f b,N f b->∃ k,k<m/\W (i+1) k f b)/\∀ x b,(PU lo n).yld i H x b->g x a b λh j=>l { D with nx:=N,ct:=N,bk:=D.nx } h j):=by
 exists λi m a H=>m=n-i/\i<=n/\c i a H,⟨n,by simp,yX _,o⟩
 rintro i m a H ⟨rfl,t,p⟩;by_cases d:i<n
 ·refine .inr ⟨d,c (i+1),λf b s=>⟨n-(i+1),by exact tM ‹_› (yE _),rfl,d,s⟩,λx b y=>?_⟩
  obtain⟨e,y⟩:=y;subst e y;exact r i a _ d p
 ·have e:i=n:=∅
  subst e;exact .inl ⟨zY _,q a H p⟩
abbrev R2:=V->V->Hp->VK->Prop
def Yi(X:Cx)(f:ai->ai->Sem ai)(r:R2):Prop:=
 ∀(a:js)(s:ak)(b:St)(H:Hp)(x y:V)(v u:ai)(Q:VK),ZF X a b H s->ZS x v->ZS y u->r x y H Q ->
  aA (az X.prog X.w) X.A (f v u) (EP X a b Q) X.xe s
def Ko(X:Cx)(f:ai->Sem ai)(r:V->Hp->VK->Prop):Prop:=
 ∀(a:js)(s:ak)(b:St)(H:Hp)(x:V)(v:ai)(Q:VK),ZF X a b H s->ZS x v->r x H Q ->
  aA (az X.prog X.w) X.A (f v) (EP X a b Q) X.xe s
def Wq(X:Cx)(f:ai)(r:je->Hp->VK->Prop):Prop:=
 ∀(a:js)(s:ak)(d:St)(H:Hp)(c:je)(b:jd)(Q:VK),ZF X a d H s->ZO c b->r c H Q ->
  aA (az X.prog X.w) X.A (call f b) (EP X a d Q) X.xe s
def OU(r:R2)(d e:TE):TE:=λa H Q=>d a H λx b=>e a b λy c=>r x y c Q
def Dq(r:V->Hp->VK->Prop)(b:TE):TE:=λc H Q=>b c H λx a=>r x a Q
inductive rI(C:Int->Int->Prop)(g:Int->Int->V)(x y:V)(H:Hp)(Q:VK):Prop
 |mk(i j:_)(_:x=.int i)(_:y=.int j)(_:C i j)(_:Q (g i j) H)
inductive Q9(g:Int->Int->V)(x y:V)(H:Hp)(Q:VK):Prop
 |mk(i j:_)(_:x=.int i)(_:y=.int j)(_:Q (g i j) H)
inductive rU(g:Int->V)(x:V)(H:Hp)(Q:VK):Prop
 |mk(i:_)(_:x=.int i)(_:Q (g i) H)
section
variable{a b c:Expr}{ta tb tc:TE}{pos:aI}
def Lm(o:PE X a ta)(p:PE X b tb){d:js}{s:ak}{g:St}{H:Hp}{R:V->V->Hp->Prop}(I:ZF X d g H s)(h:ta g H λx l=>tb g l λy e=>R x y e){Q:ja}{f:ai->ai->Sem ai}(q:∀ v u k x y e,ZF X d g e k->ZS x v->ZS y u->R x y e->aA (az X.prog X.w) X.A (f v u) Q X.xe k):
  aA (az X.prog X.w) X.A (aG a X.env) (λv i=>aA (az X.prog X.w) X.A (aG b X.env) (λu j=>aA (az X.prog X.w) X.A (f v u) Q X.xe j) X.xe i) X.xe s:=by
 refine YD (o d s g H _ I h) λv C x l m z r=>?_;refine YD (p d C g l _ m r) λu k y e n B t=>?_;exact q v u k x y e n z B t
def Zu{e:Operator}{r:R2}(k:Yi X (binaryOp e) r)(i:PE X a ta)(j:PE X b tb):PE X (.BinOp a e b pos) (OU r ta tb):=by
 intro d s o H Q I h;exact wpAny_BinOp (Lm i j I h λv u n x y f g l m q=>k d n o f x y v u Q g l m q)
def Pi{e:UnaryOp}{r:V->Hp->VK->Prop}(k:Ko X (unaryOp e) r)(j:PE X a ta):PE X (.UnaryOp e a pos) (Dq r ta):=by
 intro d s f H Q I h;exact UnaryOp_ (YD (j d s f H _ I h) λv n x g i m l=>k d n f g x v Q i m l)
def Ol{f:ai->ai->Sem ai}{C:Int->Int->Prop}{g:Int->Int->Int}(d:∀ (i j:Int) (t u:Tok) (s:ak) (Q:ja) (E:ja),C i j->Q (.int (g i j) s.toks) { s with toks:=s.toks+1 }->aA (az X.prog X.w) X.A (f (.int i t) (.int j u)) Q E s):
  Yi X f (rI C λi j=>.int (g i j)):=by
 intro e s o H x y v u Q I l m h;obtain⟨i,j,rfl,rfl,k,q⟩:=h;obtain⟨t,rfl⟩:=l;obtain⟨n,rfl⟩:=m;exact d i j t n s _ _ k ⟨.int (g i j),H,I.tok _,⟨_,rfl⟩,q⟩
def J0{f:ai->ai->Sem ai}{g:Int->Int->Int}(d:∀ (i j:Int) (t u:Tok) (s:ak) (Q:ja) (E:ja),Q (.int (g i j) s.toks) { s with toks:=s.toks+1 }->aA (az X.prog X.w) X.A (f (.int i t) (.int j u)) Q E s):
  Yi X f (Q9 λi j=>.int (g i j)):=by
 intro e s n H x y v u Q I k l h;obtain⟨i,j,rfl,rfl,q⟩:=h;obtain⟨t,rfl⟩:=k;obtain⟨m,rfl⟩:=l;exact d i j t m s _ _ ⟨.int (g i j),H,I.tok _,⟨_,rfl⟩,q⟩
def N7{f:ai->ai->Sem ai}{g:Int->Int->Bool}(d:∀ (i j:Int) (t u:Tok) (s:ak) (Q:ja) (E:ja),Q (.bool (g i j)) s->aA (az X.prog X.w) X.A (f (.int i t) (.int j u)) Q E s):
  Yi X f (Q9 λi j=>.bl (g i j)):=by
 intro e s n H x y v u Q I k l h;obtain⟨i,j,rfl,rfl,q⟩:=h;obtain⟨t,rfl⟩:=k;obtain⟨m,rfl⟩:=l;exact d i j t m s _ _ ⟨.bl (g i j),H,I,rfl,q⟩
def ZPs(i j:Int):Prop:=0<j/\j<1073741824
def BH(i j:Int):Prop:=0<=j/\j<=1000000/\i.natAbs<2 ^ 64
def Qk(i j:Int):Prop:=(-(2 ^ 64)<i/\i<2 ^ 64)\/(-(2 ^ 64)<j/\j<2 ^ 64)
def Qk.ok{i j:Int}(h:Qk i j):IntMulOk i j:=by
 rcases h with ⟨d,e⟩ | ⟨d,e⟩
 ·exact .of_left (intBits_le_64 d e)
 ·exact .of_right (intBits_le_64 d e)
def WI:Yi X (binaryOp .Add) (Q9 λi j=>.int (i+j)):=J0 λ_ _ _ _ _ _ _ q=>add_int q
def QI:Yi X (binaryOp .Sub) (Q9 λi j=>.int (i-j)):=J0 λ_ _ _ _ _ _ _ q=>sub_int q
def PZ:Yi X (binaryOp .Mult) (rI Qk λi j=>.int (i * j)):=Ol λ_ _ _ _ _ _ _ d q=>mul_int q d.ok
def Ki:Yi X (binaryOp .FloorDiv) (rI ZPs λi j=>.int (i / j)):=Ol λi j _ _ _ _ _ d q=>by
 have e:(0:Int)<j:=d.1;have f:j<1073741824:=d.2;exact floordiv_int ∅ (by rw[rO i ∅];exact q) (.inl (PyProof.noPylong_small ∅))
def Ue:Yi X (binaryOp .Mod) (rI (λ_ j=>0<j) λi j=>.int (i % j)):=Ol λi j _ _ _ _ _ d q=>by
 have e:(0:Int)<j:=d;exact mod_int' ∅ (by rw[Int.fmod_eq_emod_of_nonneg i ∅];exact q)
def GB:Yi X (binaryOp .Pow) (rI BH λi j=>.int (i ^ j.toNat)):=Ol λ_ _ _ _ _ _ _ d q=>pow_int_small d.1 d.2.1 d.2.2 q
def F7{f:ai->Sem ai}{g:Int->Int}(d:∀ (i:Int) (t:Tok) (s:ak) (Q:ja) (E:ja),Q (.int (g i) s.toks) { s with toks:=s.toks+1 }->aA (az X.prog X.w) X.A (f (.int i t)) Q E s):
  Ko X f (rU λi=>.int (g i)):=by
 intro e s k H x v Q I j h;obtain⟨i,rfl,q⟩:=h;obtain⟨t,rfl⟩:=j;exact d i t s _ _ ⟨.int (g i),H,I.tok _,⟨_,rfl⟩,q⟩
def Pt:Ko X (unaryOp .USub) (rU λi=>.int (-i)):=F7 λ_ _ _ _ _ q=>neg_int q
end
def Hy:V->V->Bool
 | .non,.non=>true | .non,.int _=>true | .int _,.non=>true | .non,.bl _=>true | .bl _,.non=>true | .non,.str _=>true | .str _,.non=>true
 | .int _,.int _=>true | .bl _,.bl _=>true | .str _,.str _=>true | .byt _,.byt _=>true
 | .int _,.str _=>true | .str _,.int _=>true | .bl _,.str _=>true | .str _,.bl _=>true
 | _,_=>false
def AW:R2:=λx y H Q=>Hy x y=true/\Q (.bl (decide (x=y))) H
def DV:R2:=λx y H Q=>Hy x y=true/\Q (.bl (!decide (x=y))) H
def Ht{i j:Int}:decide (V.int i=V.int j)=(i==j):=by
 rw[xH];simp
def IR{i j:Bool}:decide (V.bl i=V.bl j)=(i==j):=by
 rw[xH];simp
def G0{i j:Str}:decide (V.str i=V.str j)=(i==j):=by
 rw[xH];simp
def Gh{i j:Array UInt8}:decide (V.byt i=V.byt j)=(i.toList==j.toList):=by
 rw[xH];cases i;cases j;simp
section
variable{a b c:Expr}{ta tb tc:TE}{pos:aI}
def Yf{d:js}{g:St}{H:Hp}{s:ak}{Q:VK}{k f:Bool}(I:ZF X d g H s)(q:Q (.bl k) H)(e:k=f):EP X d g Q (.bool f) s:=by
 subst e;exact⟨.bl k,H,I,rfl,q⟩
def WW:Yi X (ay .Eq) AW:=by
 intro k s l H x y v u Q I g d h;obtain⟨f,q⟩:=h
 cases x with
 | non=>
  cases g
  cases y with
  | non=>cases d;exact PySem.EqNone.eq_none_none (Yf I q (by simp))
  | bl j=>cases d;exact PySem.EqNone.eq_none_bool (Yf I q (by simp))
  | int j=>obtain⟨e,rfl⟩:=d;exact PySem.EqNone.eq_none_int (Yf I q (by simp))
  | str j=>obtain⟨e,rfl⟩:=d;exact PySem.EqNone.eq_none_str (Yf I q (by simp))
  | _=>exact absurd (show false=true from f) zV
 | bl i=>
  cases g
  cases y with
  | non=>cases d;exact PySem.EqNone.eq_bool_none (Yf I q (by simp))
  | bl j=>cases d;exact eq_bool (Yf I q IR)
  | str j=>obtain⟨e,rfl⟩:=d;exact PySem.EqMixed.eq_bool_str (Yf I q (by simp))
  | _=>exact absurd (show false=true from f) zV
 | int i=>
  obtain⟨t,rfl⟩:=g
  cases y with
  | non=>cases d;exact PySem.EqNone.eq_int_none (Yf I q (by simp))
  | int j=>obtain⟨e,rfl⟩:=d;exact eq_int (Yf I q Ht)
  | str j=>obtain⟨e,rfl⟩:=d;exact PySem.EqMixed.eq_int_str (Yf I q (by simp))
  | _=>exact absurd (show false=true from f) zV
 | str i=>
  obtain⟨t,rfl⟩:=g
  cases y with
  | non=>cases d;exact PySem.EqNone.eq_str_none (Yf I q (by simp))
  | bl j=>cases d;exact PySem.EqMixed.eq_str_bool (Yf I q (by simp))
  | int j=>obtain⟨e,rfl⟩:=d;exact PySem.EqMixed.eq_str_int (Yf I q (by simp))
  | str j=>obtain⟨e,rfl⟩:=d;exact eq_str (Yf I q G0)
  | _=>exact absurd (show false=true from f) zV
 | byt i=>
  obtain⟨t,rfl⟩:=g
  cases y with
  | byt j=>obtain⟨e,rfl⟩:=d;exact PySem.W.eq_bytes (Yf I q Gh)
  | _=>exact absurd (show false=true from f) zV
 | _=>cases y <;> exact absurd (show false=true from f) zV
def Qi:Yi X (ay .NotEq) DV:=by
 intro k s l H x y v u Q I g d h;obtain⟨f,q⟩:=h
 cases x with
 | non=>
  cases g
  cases y with
  | non=>cases d;exact PySem.EqNone.ne_none_none (Yf I q (by simp))
  | bl j=>cases d;exact PySem.EqNone.ne_none_bool (Yf I q (by simp))
  | int j=>obtain⟨e,rfl⟩:=d;exact PySem.EqNone.ne_none_int (Yf I q (by simp))
  | str j=>obtain⟨e,rfl⟩:=d;exact PySem.EqNone.ne_none_str (Yf I q (by simp))
  | _=>exact absurd (show false=true from f) zV
 | bl i=>
  cases g
  cases y with
  | non=>cases d;exact PySem.EqNone.ne_bool_none (Yf I q (by simp))
  | bl j=>cases d;exact ne_bool (Yf I q (congrArg not IR))
  | str j=>obtain⟨e,rfl⟩:=d;exact PySem.EqMixed.ne_bool_str (Yf I q (by simp))
  | _=>exact absurd (show false=true from f) zV
 | int i=>
  obtain⟨t,rfl⟩:=g
  cases y with
  | non=>cases d;exact PySem.EqNone.ne_int_none (Yf I q (by simp))
  | int j=>obtain⟨e,rfl⟩:=d;exact ne_int (Yf I q (congrArg not Ht))
  | str j=>obtain⟨e,rfl⟩:=d;exact PySem.EqMixed.ne_int_str (Yf I q (by simp))
  | _=>exact absurd (show false=true from f) zV
 | str i=>
  obtain⟨t,rfl⟩:=g
  cases y with
  | non=>cases d;exact PySem.EqNone.ne_str_none (Yf I q (by simp))
  | bl j=>cases d;exact PySem.EqMixed.ne_str_bool (Yf I q (by simp))
  | int j=>obtain⟨e,rfl⟩:=d;exact PySem.EqMixed.ne_str_int (Yf I q (by simp))
  | str j=>obtain⟨e,rfl⟩:=d;exact ne_str (Yf I q (congrArg not G0))
  | _=>exact absurd (show false=true from f) zV
 | byt i=>
  obtain⟨t,rfl⟩:=g
  cases y with
  | byt j=>obtain⟨e,rfl⟩:=d;exact PySem.W.ne_bytes (Yf I q (congrArg not Gh))
  | _=>exact absurd (show false=true from f) zV
 | _=>cases y <;> exact absurd (show false=true from f) zV
def OQ:Yi X (ay .Lt) (Q9 λi j=>.bl (decide (i<j))):=N7 λ_ _ _ _ _ _ _ q=>lt_int q
def QQ:Yi X (ay .LtE) (Q9 λi j=>.bl (decide (i<=j))):=N7 λ_ _ _ _ _ _ _ q=>le_int q
def QH:Yi X (ay .Gt) (Q9 λi j=>.bl (decide (j<i))):=N7 λ_ _ _ _ _ _ _ q=>gt_int q
def Fi:Yi X (ay .GtE) (Q9 λi j=>.bl (decide (j<=i))):=N7 λ_ _ _ _ _ _ _ q=>ge_int q
def Z3(b:Expr){d:CmpOp}(h:d≠.In:=by decide)(g:d≠.NotIn:=by decide):behindInMarks d b=false:=by
 have e:(d==CmpOp.In)=false:=by cases d <;> first | rfl | exact absurd rfl h
 have f:(d==CmpOp.NotIn)=false:=by cases d <;> first | rfl | exact absurd rfl g
 cases b <;> simp[behindInMarks,e,f]
def VN{e:CmpOp}{r:R2}(l:Yi X (ay e) r)(i:PE X a ta)(j:PE X b tb)(k:behindInMarks e b=false):PE X (.Compare a [e] [b] pos) (OU r ta tb):=by
 intro d s p H Q I h;exact wpAny_Compare1 (Lm i j I h λv u o x y f g m n q=>l d o p f x y v u Q g m n q) k
inductive Po(Q:Bool->Hp->Prop)(x:V)(d:Hp):Prop
 |mk(k:_)(_:x=.bl k)(_:Q k d)
def Hz(t:TE):TT:=λe H Q=>t e H λx d=>Po Q x d
def YJ{f:CmpOp}{r:R2}(w:Yi X (ay f) r)(p:PE X a ta)(q:PE X b tb)(t:behindInMarks f b=false):PT X (.Compare a [f] [b] pos) (Hz (OU r ta tb)):=by
 intro d s g H Q I h;refine wpAny_isTrue_Compare1 (YD (p d s g H _ I h) λv G x i m D A=>YD (q d G g i _ m A) λu J y j n E B=>
  Zt (w d J g j x y v u _ n D E B) λc K ⟨z,l,o,F,k,e,C⟩=>?_) t
 subst e;cases F;exact wpAny_truthy_bool ⟨l,o,C⟩
inductive Qn(f:R2)(tc:TE)(h:L2.St)(Q:VK)(y z:V)(d:Hp):Prop
 |mk(k:_)(_:z=.bl k)(_:if k=true then tc h d λg e=>f y g e Q else Q (.bl false) d)
def GG(r h:R2)(ta tb tc:TE):TE:=λd H Q=>ta d H λx e=>tb d e λy f=>r x y f λz g=>Qn h tc d Q y z g
def ZKG{l g:CmpOp}{r p:R2}(K:Yi X (ay l) r)(j:Yi X (ay g) p)(E:PE X a ta)(F:PE X b tb)(G:PE X c tc)(J:lastMarks [l,g] [b,c]=false:=by with_unfolding_all rfl):PE X (.Compare a [l,g] [b,c] pos) (GG r p ta tb tc):=by
 intro f s i H Q I h;refine Compare_chain (YD (E f s i H _ I h) λv S x t B O L=>chain_link (YD (F f S i t _ B L) λu T y w C q M=>
  Zt (K f T i w x y v u _ C O q M) λd U ⟨z,m,n,P,k,e,o⟩=>?_)) J
 subst e;cases P;refine wpAny_truthy_bool ?_
 cases k with
 | false=>exact ite_ff ⟨.bl false,m,n,rfl,o⟩
 | true=>exact ite_tt (chain_last (YD (G f U i m _ n o) λW V Y A D R N=>j f V i A y Y u W Q D q R N))
def Mh{l g:CmpOp}{r p:R2}(O:Yi X (ay l) r)(j:Yi X (ay g) p)(K:PE X a ta)(L:PE X b tb)(M:PE X c tc)(N:lastMarks [l,g] [b,c]=false:=by with_unfolding_all rfl):PT X (.Compare a [l,g] [b,c] pos) (Hz (GG r p ta tb tc)):=by
 intro f s i H Q I h;refine isTrue_chain (YD (K f s i H _ I h) λv s1 x t C V R=>test_link (YD (L f s1 i t _ C R) λu s2 y w D q S=>
  Zt (O f s2 i w x y v u _ D V q S) λd s3 ⟨z,m,n,W,k,e,o⟩=>?_)) N
 subst e;cases W;refine wpAny_truthy_bool ?_
 cases k with
 | false=>
  obtain⟨k',G,P⟩:=o;cases G;exact ite_ff ⟨m,n,P⟩
 | true=>
  refine ite_tt (test_last (YD (M f s3 i m _ n o) λw' s4 z' A E Y T=>Zt (j f s4 i A y z' u w' _ E q Y T) λd' s5 ⟨z2,B,F,Z,k2,J,U⟩=>?_));subst J;cases Z;exact wpAny_truthy_bool ⟨B,F,U⟩
def OT:(ap:Nat)<2 ^ 63:=by rw[sizeLine_eq];decide
inductive VA(x y:V)(H:Hp)(Q:VK):Prop
 |mk(i j:_)(_:x=.str i)(_:y=.str j)(_:i.length+j.length<=ap)(_:Q (.str (i++j)) H)
def Lk:Yi X (binaryOp .Add) (VA):=by
 intro d s m H x y v u Q I f g h;obtain⟨i,j,rfl,rfl,e,q⟩:=h;obtain⟨t,rfl⟩:=f;obtain⟨k,rfl⟩:=g;exact add_str (λk l=>⟨.str (i++j),H,I.tok _,⟨_,rfl⟩,q⟩) e
def VT{x:V}{d:jd}(r:ZO [x] d):∃ u,d=[u]/\ZS x u:=by
 cases r with
 | cons e f=>cases f;exact⟨_,rfl,e⟩
def Nb{x y:V}{d:jd}(r:ZO [x,y] d):∃ u e,d=[u,e]/\ZS x u/\ZS y e:=by
 cases r with
 | cons f g=>
  cases g with
  | cons h i=>cases i;exact⟨_,_,rfl,f,h⟩
inductive UB(d:je)(H:Hp)(Q:VK):Prop
 |mk(i:_)(_:d=[.int i])(_:Q (.int (if i<0 then -i else i)) H)
def Lh:Wq X (.builtin "abs") (UB):=by
 intro d s j H g f Q I r h;obtain⟨i,rfl,q⟩:=h;obtain⟨u,rfl,t,rfl⟩:=VT r;exact call_abs_int λu e=>⟨.int (if i<0 then -i else i),H,I.tok _,⟨_,rfl⟩,q⟩
inductive Vi(d:je)(H:Hp)(Q:VK):Prop
 |mk(i j:_)(_:d=[.int i,.int j])(_:Q (.int (if j > i then j else i)) H)
def IF(f:X.calm=true):Wq X (.builtin "max") (Vi):=by
 intro e s v H p n Q I r h;obtain⟨i,j,rfl,q⟩:=h;obtain⟨u,o,rfl,⟨t,rfl⟩,⟨l,rfl⟩⟩:=Nb r;refine max_two_ints (I.ok.hd f) λg m k=>⟨_,H,I.kept k,?_,q⟩;by_cases d:j > i
 ·rw[aO d,aO d];exact⟨_,rfl⟩
 ·rw[aM d,aM d];exact⟨_,rfl⟩
inductive Vt(d:je)(H:Hp)(Q:VK):Prop
 |mk(i j:_)(_:d=[.int i,.int j])(_:Q (.int (if j<i then j else i)) H)
def ES(f:X.calm=true):Wq X (.builtin "min") (Vt):=by
 intro e s v H p n Q I r h;obtain⟨i,j,rfl,q⟩:=h;obtain⟨u,o,rfl,⟨t,rfl⟩,⟨l,rfl⟩⟩:=Nb r;refine min_two_ints (I.ok.hd f) λg m k=>⟨_,H,I.kept k,?_,q⟩;by_cases d:j<i
 ·rw[aO d,aO d];exact⟨_,rfl⟩
 ·rw[aM d,aM d];exact⟨_,rfl⟩
def Hb:Wq X (.type "int") (λd H Q=>(∃ i,d=[.int i]/\Q (.int i) H)\/∃ k,d=[.bl k]/\Q (.int (if k then 1 else 0)) H):=by
 intro e s j H d g Q I r h;rcases h with ⟨i,rfl,q⟩ | ⟨k,rfl,q⟩
 ·obtain⟨u,rfl,t,rfl⟩:=VT r;exact call_int_int ⟨.int i,H,I,⟨_,rfl⟩,q⟩
 ·obtain⟨u,rfl,f⟩:=VT r;cases f;exact call_int_bool ⟨.int (if k then 1 else 0),H,I.tok _,⟨_,rfl⟩,q⟩
end
structure Vf(h:aC)(x dx C:aj)(mA:jb):Prop where
 obj:h.get? x=some (wW C dx)
 ns:h.Ns1 dx mA
 ne:dx≠x
def Iw{h:aC}{d:aj}{g:jb}(n:h.Ns1 d g):∃ i,h.get? d=some i/\∀ b,vN b i=some (g b):=by
 obtain⟨o,f,s,p,k,l,_,m⟩:=n;exists o,p;intro b;have e:=m b;unfold nsFind findBy at e;rw[<-Array.find?_toList] at e;unfold vN;rw[k];dsimp only;split
 ·rename_i y q
  rw[q] at e;exact congrArg some e
 ·rename_i q
  rw[q] at e;have a:f.toList.any (·.refKey)=false:=by
   rw[List.any_eq_false];intro y r;obtain⟨z,t,c⟩:=l y (sC.mp r);simp[DictEntry.refKey,c]
  have j:¬ f.toList.any (·.refKey)=true:=by rw[a];exact zV
  rw[aM j];exact congrArg some e
def Vf.look{h:aC}{x c C:aj}{d:jb}(I:Vf h x c C d):∃ b,tU h x (wW C c) C (some b)/\∀ a,vN a b=some (d a):=
 let ⟨b,ho,hl⟩:=Iw I.ns
 ⟨b,⟨I.obj,rfl,rfl,ho⟩,hl⟩
section
variable{prog:al}{w:ar}{A:aw}{E:ja}{s:ak}{K:zZ}{x dx C f:aj}{mA:jb}{name:Str}{v:ai}
def ZMN{a:Bool}{Q:ja}(X:K.In s.heap)(I:Vf s.heap x dx C mA)(d:vY K C name=true)(e:wM K C=true)(c:zG K (.ref C) name=some none)(i:mA name=some v)(b:PySem.W.handedIn v=true)(h:Q v { s with toks:=s.toks+1 }):
  aA (az prog w) A (getAttr (.ref x) name a) Q E s:=by
 obtain⟨j,J,g⟩:=I.look;exact PySem.W.get_value X J (sW d).1 (PySem.W.findObj_own e c rfl (by rw[g,i])) b h
def Cg{i:Sem Bool}{Q:ai×jd->ak->Prop}(X:K.In s.heap)(I:Vf s.heap x dx C mA)(a:vY K C name=true)(b:zG K (.ref C) name=some (some (.ref f)))(d:wY K (.ref f)=true)(e:mA name=none)(h:Q (.ref f,[.ref x]) s):
  aA (az prog w) A (getMethod (.ref x) name i) Q E s:=by
 obtain⟨g,J,c⟩:=I.look;exact PySem.W.method_fn X J (sW a).1 (sW a).2 b (beq_iff_eq.mp d) (by show (vN name g).map (·.isSome)=some false;rw[c,e];rfl) h
def Bj{l:jr}{Q:Unit->ak->Prop}(X:K.In s.heap)(I:Vf s.heap x dx C mA)(t:zG K (.ref C) "__setattr__" = some (some (.builtin "object.__setattr__")))(q:uM K C=true)(z:sE K C name=some none)(p:wM K C=true)(B:PySem.Within mA l)(u:l.length<=ap)(h:∀ e,Vf e x dx C (λy=>if y=name then some v else mA y)->wH dx s.heap e->Q () { s with heap:=e,toks:=s.toks+2 }):
  aA (az prog w) A (setAttr (.ref x) name v) Q E s:=by
 obtain⟨L,J,G⟩:=I.look;refine PySem.W.set_plain X J t (PySem.W.osa_open (s:={ s with toks:=s.toks+1 }) (r:=none) X J q z λb=>?_);obtain⟨F,o,i⟩:=uO p;have D:s.heap.get? x=some ⟨.ref C,some dx,.plain,#[]⟩:=I.obj;refine aa (ad (aa (aa (wpAny_loadPart D (aa (yL.here (s:={ s with toks:=s.toks+1 }) (sX X o) ?_))))));rw[i];refine ad (a:=some dx) (aa (ad (aa ?_)));refine wpAny_nsSet1 (s:={ s with toks:=s.toks+1 }) I.ns λe c d=>?_;obtain⟨H,n,m,k,j,g⟩:=c.count (PySem.Within.cons name v B);refine aa (wpAny_lookBehind k (by rw[j];exact pastItsLine_dict (zI g (by rw[yH];lia))) ?_)
 exact ad (h _ ⟨(d.2 _ (Ne.symm I.ne)).trans I.obj,c,I.ne⟩ d)
def Fh{R:Result->ak->Prop}{c:jd}{b:jG}(X:K.In s.heap)(j:uR K C=true)(i:zG K (.ref C) "__init__" = some (some (.ref f)))(e:yA K (.ref f)=some (.type "function"))(h:aF (az prog w) (A.under (.builtin "type.__call__" ⟨.ref C::c,b⟩)) (.call (.ref f) ⟨.ref (s.heap.objs.size+1)::c,b⟩) (PySem.W.InitBack (s.heap.objs.size+1) R)
   { s with heap:=(s.heap.push xB).push (wW C s.heap.objs.size) }):
  aF (az prog w) A (.call (.ref C) ⟨c,b⟩) R s:=by
 obtain⟨k,g,d,t,l⟩:=s;exact PySem.W.make_core (PySem.W.makes_of X j) (uE X i) (λa=>PySem.W.bind_fn X a e) (.inl rfl) h
end
def Yr(f:Str)(v:V):List (Str×V)->List (Str×V)
 | []=>[(f,v)]
 | (g,x)::r=>if g=f then (g,v)::r else (g,x)::Yr f v r
def Ij(f g:Str)(v:V):∀ c:List (Str×V),(Yr f v c).lookup g=if g=f then some v else c.lookup g
 | []=>by
  show xO g [(f,v)]=_;by_cases h:g=f
  ·have a:(g==f)=true:=beq_iff_eq.mpr h;simp only[xO,a,aO h]
  ·have a:(g==f)=false:=beq_eq_false_iff_ne.mpr h;simp only[xO,a,aM h]
 | (k,x)::r=>by
  have d:=Ij f g v r;rw[show Yr f v ((k,x)::r)=(if k=f then (k,v)::r else (k,x)::Yr f v r) from rfl]
  by_cases b:k=f
  ·rw[aO b];by_cases h:g=k
   ·have a:(g==k)=true:=beq_iff_eq.mpr h;simp only[xO,a,aO (h.trans b)]
   ·have a:(g==k)=false:=beq_eq_false_iff_ne.mpr h;simp only[xO,a,aM (λe:g=f=>h (e.trans b.symm))]
  ·rw[aM b];by_cases h:g=k
   ·have a:(g==k)=true:=beq_iff_eq.mpr h;simp only[xO,a,aM (λe:g=f=>b (h.symm.trans e))]
   ·have a:(g==k)=false:=beq_eq_false_iff_ne.mpr h;simp only[xO,a];exact d
def Mw(f:Str)(v:V):∀ a:List (Str×V),f∈(Yr f v a).map (·.1)/\∀ g,g∈a.map (·.1)->g∈(Yr f v a).map (·.1)
 | []=>⟨by simp[Yr],λg h=>by simp at h⟩
 | (k,x)::r=>by
  obtain⟨c,d⟩:=Mw f v r;rw[show Yr f v ((k,x)::r)=(if k=f then (k,v)::r else (k,x)::Yr f v r) from rfl]
  by_cases b:k=f
  ·rw[aO b];subst b;exact⟨by simp,λg h=>by simpa using h⟩
  ·rw[aM b];refine⟨?_,λg h=>?_⟩
   ·rw[yS];exact zD _ c
   ·rw[yS] at h⊢;rcases yZ.mp h with e | e
    ·exact yZ.mpr (.inl e)
    ·exact zD _ (d g e)
def Jf(f:Str)(v:V):∀ a:List (Str×V),(Yr f v a).length<=a.length+1
 | []=>by simp[Yr]
 | (k,x)::r=>by
  have c:=Jf f v r;rw[show Yr f v ((k,x)::r)=(if k=f then (k,v)::r else (k,x)::Yr f v r) from rfl]
  by_cases b:k=f
  ·rw[aO b,yH,yH];lia
  ·rw[aM b,yH,yH];lia
def Yc.some_of{v:V}{o:jc}(r:Yc (some v) o):∃ u,o=some u/\ZS v u:=by
 cases o with
 | none=>exact(show False from r).elim
 | some u=>exact⟨u,rfl,r⟩
def Yc.none_of{o:jc}(r:Yc none o):o=none:=by
 cases o with
 | none=>rfl
 | some u=>exact(show False from r).elim
def Gk{v:V}{u:ai}(r:ZS v u):PySem.W.handedIn u=true:=by
 cases v with
 | non=>cases(show u=Value.none from r);rfl
 | bl b=>cases(show u=Value.bool b from r);rfl
 | int i=>obtain⟨t,e⟩:=(show ∃ t,u=Value.int i t from r);cases e;rfl
 | str x=>obtain⟨t,e⟩:=(show ∃ t,u=Value.str x t from r);cases e;rfl
 | byt b=>obtain⟨t,e⟩:=(show ∃ t,u=Value.bytes b t from r);cases e;rfl
 | flt b=>obtain⟨t,e⟩:=(show ∃ t,u=Value.float b t from r);cases e;rfl
 | ref a=>cases(show u=Value.ref a from r);rfl
 | ty n=>cases(show u=Value.type n from r);rfl
section
variable{P:al}{w:ar}{H H':Hp}{h h':aC}{a C dx:aj}{fs fs':List (Str×V)}
def MP(c:YG P w H h)(e:H a=some (.ins C dx fs)):∃ b,Vf h a dx C b/\(∀ f,Yc (fs.lookup f) (b f))/\PySem.Within b (fs.map (·.1))/\fs.length<=1000/\H dx=some (.own a):=by
 obtain⟨d,z,g,i,b,n,r,q⟩:=(show Zb P w H h a (.ins C dx fs) from c a _ e);exact⟨b,⟨i,n,g⟩,r,q,z,d⟩
end
structure VR(K:zZ)(C:aj):Prop where
 pg:vY K C Str.empty=true
 hd:wM K C=true
 po:uM K C=true
 sa:zG K (.ref C) "__setattr__" = some (some (.builtin "object.__setattr__"))
def VR.get{K:zZ}{C:aj}(c:VR K C)(f:Str):vY K C f=true:=c.pg
def Z4(K:zZ)(C:aj)(f:Str):Prop:=zG K (.ref C) f=some none
def Z4.taker{K:zZ}{C:aj}{f:Str}(n:Z4 K C f):sE K C f=some none:=by
 unfold sE;rw[show zG K (.ref C) f=some none from n];rfl
structure UJ(K:zZ)(C:aj)(m:Str)(f:aj):Prop where
 at_:zG K (.ref C) m=some (some (.ref f))
 fn:wY K (.ref f)=true
 kp:yU K (.ref f)=true
section
variable{jU:js}{σ:St}{H:Hp}{s:ak}{a C dx:aj}{fs:List (Str×V)}{f:Str}{v:V}{A:aw}{E:ja}
def IL{b:Bool}{Q:ja}(I:ZF X jU σ H s)(e:H a=some (.ins C dx fs))(c:VR X.K C)(n:Z4 X.K C f)(l:fs.lookup f=some v)(h:∀ u g,ZF X jU σ H g->ZS v u->Q u g):aA (az X.prog X.w) A (getAttr (.ref a) f b) Q E s:=by
 obtain⟨j,O,r,_,_,_⟩:=MP I.hok e;obtain⟨u,i,d⟩:=Yc.some_of (v:=v) (o:=j f) (by rw[<-l];exact r f)
 exact ZMN I.kIn O (c.get f) c.hd n i (Gk d) (h u _ (I.tok _) d)
def K4{m:Str}{g:aj}{i:Sem Bool}{Q:ai×jd->ak->Prop}(I:ZF X jU σ H s)(e:H a=some (.ins C dx fs))(c:VR X.K C)(k:UJ X.K C m g)(l:fs.lookup m=none)(h:Q (.ref g,[.ref a]) s):aA (az X.prog X.w) A (getMethod (.ref a) m i) Q E s:=by
 obtain⟨d,O,r,_,_,_⟩:=MP I.hok e;have b:d m=none:=Yc.none_of (by rw[<-l];exact r m)
 exact Cg I.kIn O (c.get m) k.at_ k.fn b h
def Gm{y:V}{u:ai}{Q:Unit->ak->Prop}(I:ZF X jU σ H s)(e:H a=some (.ins C dx fs))(c:VR X.K C)(n:Z4 X.K C f)(J:fs.length<1000)(F:ZS y u)(h:∀ k,ZF X jU σ (upd H a (.ins C dx (Yr f y fs))) k->Q () k):aA (az X.prog X.w) A (setAttr (.ref a) f u) Q E s:=by
 obtain⟨j,O,r,l,_,i⟩:=MP I.hok e;have D:(fs.map (·.1)).length<=sizeLine:=by rw[zX,sizeLine_eq];lia
 refine Bj I.kIn O c.sa c.po n.taker c.hd l D λm d G=>h _ ?_;have t:∃ o,m.get? dx=some o:=let ⟨o,_,_,e',_⟩:=d.ns;⟨o,e'⟩;refine I.write (x:=a) (e:=dx) (by rw[e];exact True.intro) (.inr i) (λb q p z=>(G.2 b p).trans z) t ?_
 refine⟨by rw[ZM O.ne];exact i,?_,O.ne,d.obj,_,d.ns,λg=>?_,λg B=>?_⟩
 ·have:=Jf f y fs;lia
 ·show Yc ((Yr f y fs).lookup g) (if g=f then some u else j g)
  rw[Ij];by_cases q:g=f
  ·rw[aO q,aO q];exact F
  ·rw[aM q,aM q];exact r g
 ·by_cases q:g=f
  ·rw[q];exact(Mw f y fs).1
  ·refine(Mw f y fs).2 g (l g λz=>B ?_);show (if g=f then some u else j g)=none
   rw[aM q];exact z
def ZF.made(I:ZF X jU σ H s):ZF X jU σ (upd (upd H s.heap.objs.size (.own (s.heap.objs.size+1))) (s.heap.objs.size+1) (.ins C s.heap.objs.size []))
  { s with heap:=(s.heap.push xB).push (wW C s.heap.objs.size) }:=by
 have c:(s.heap.push xB).get? s.heap.objs.size=some xB:=yW s.heap rfl;have h:((s.heap.push xB).push (wW C s.heap.objs.size)).get? (s.heap.objs.size+1)=some (wW C s.heap.objs.size):=by
  have:=yW (s.heap.push xB) (o:=wW C s.heap.objs.size) rfl
  rwa [wB] at this
 have i:(s.heap.push xB).Ns s.heap.objs.size (λ_=>none):=⟨xB,#[],_,c,rfl,(λe j=>absurd j (by simp)),λ_=>rfl⟩
 have g:=I.laid (a:=s.heap.objs.size) (o:=.own (s.heap.objs.size+1)) (h':=s.heap.push xB) (t':=s.toks) (λb u q=>zS _ q) (zY _) ⟨_,c⟩;refine g.laid (a:=s.heap.objs.size+1) (o:=.ins C s.heap.objs.size []) (t':=s.toks) (λb u q=>zS _ q) (wD (wB _ _)) ?_;have d:s.heap.objs.size≠s.heap.objs.size+1:=zO (yE _);refine⟨by rw[ZM d,ZK],yX _,d,h,λ_=>none,(Heap.Ns1.of_empty i).at λo q=>zS _ q,λ_=>True.intro,λy k=>absurd rfl k⟩
def Hg{c:al}{w:ar}{b:Env}{e:Expr}{f:Str}{g:aI}{s:ak}{Q:ja}(i:attributeBase e f b (aG e b)=aG e b)(h:aA (az c w) A (aG e b) (λo d=>aA (az c w) A (getAttr o f true) Q E d) E s):aA (az c w) A (aG (.Attribute e f g) b) Q E s:=
 Attribute_any_ h (by rw[arm_eval_Attribute,i])
end
inductive Oi(K:zZ)(f:Str)(Q:VK)(x:V)(b:Hp):Prop
 |mk(a C d c v:_)(_:x=.ref a)(_:b a=some (.ins C d c))(_:VR K C)(_:Z4 K C f)(_:c.lookup f=some v)(_:Q v b)
def Bf(K:zZ)(b:TE)(f:Str):TE:=λc H Q=>b c H λx a=>Oi K f Q x a
inductive O2(K:zZ)(f:Str)(D:Yt)(e:L2.St)(y x:V)(c:Hp):Prop
 |mk(a C d b:_)(_:x=.ref a)(_:c a=some (.ins C d b))(_:VR K C)(_:Z4 K C f)(_:b.length<1000)(_:D.nx e (upd c a (.ins C d (Yr f y b))))
def Ai(K:zZ)(d e:TE)(f:Str):TS:=λD a H=>e a H λy b=>d a b λx c=>O2 K f D a y x c
def Ky(X:Cx)(c:Operator)(rd:V->V->Hp->VK->Prop):Prop:=
 ∀(a:js)(s:ak)(b:St)(H:Hp)(x y:V)(u v:ai)(Q:VK),ZF X a b H s->ZS x u->ZS y v->rd x y H Q->aA (az X.prog X.w) X.A (inplaceOp c u v) (EP X a b Q) X.xe s
inductive UZ(K:zZ)(k:TE)(rd:V->V->Hp->VK->Prop)(f:Str)(D:Yt)(h:L2.St)(x:V)(d:Hp):Prop
 |mk(a C j g v:_)(_:x=.ref a)(_:d a=some (.ins C j g))(_:VR K C)(_:Z4 K C f)(_:g.lookup f=some v)(_:k h d λy i=>rd v y i λz e=>∃ c b,e a=some (.ins C c b)/\b.length<1000/\D.nx h (upd e a (.ins C c (Yr f z b))))
def ZMK(K:zZ)(c d:TE)(rd:V->V->Hp->VK->Prop)(f:Str):TS:=λD a H=>c a H λx b=>UZ K d rd f D a x b
section
variable{o e value:Expr}{f:Str}{pos pos' tpos:aI}{ta tv:TE}
def X8(p:PE X e ta)(m:attributeBase e f X.env (aG e X.env)=aG e X.env):PE X (.Attribute e f pos) (Bf X.K ta f):=by
 intro b s w H Q I h;refine Hg m (Zt (p b s w H _ I h) ?_);rintro u A ⟨x,d,g,t,a,C,y,z,v,k,j,c,n,l,q⟩;subst k;obtain rfl:u=Value.ref a:=t;exact IL g j c n l λD B i r=>⟨v,d,i,r,q⟩
def QY(r:PE X o ta)(v:PE X value tv)(t:swapsWith value (some (.Attribute o f pos')) pos.line X.env=pure false):PS X (.Assign [.Attribute o f pos'] value pos) (Ai X.K ta tv f):=by
 intro b s d H D I h;refine plainObj_wpAny_Assign_Attribute (YD (v b s d H _ I h) λu E y g i B q=>Zt (r b E d g _ i q) λw L ⟨x,F,j,A,a,C,G,J,p,m,c,n,l,z⟩=>?_) t;subst p;obtain rfl:w=Value.ref a:=A;exact Gm j m c n l B λM k=>⟨d,_,k,z⟩
def KK{j:Operator}{rd:V->V->Hp->VK->Prop}(J:PE X o ta)(L:PE X value tv)(i:Ky X j rd):PS X (.AugAssign (.Attribute o f tpos) j value pos) (ZMK X.K ta tv rd f):=by
 intro b s d H D I h;refine wpAny_AugAssign_AttributeAny (Zt (J b s d H _ I h) ?_);rintro N s1 ⟨x,k,p,R,a,C,dx,fs,v,F,E,c,n,l,q⟩;subst F;obtain rfl:N=Value.ref a:=R;refine IL p E c n l λu U r Q=>YD (L b U d k _ r q) λY W y m t S O=>Zt (i b W d m v y u Y _ t Q S O) ?_;rintro w4 s4 ⟨z,Z,w,T,B,G,g,M,P⟩;exact Gm w g c n M T λs5 A=>⟨d,_,A,P⟩
inductive Kl(x y:V)(H:Hp)(Q:VK):Prop
 |mk(i j:_)(_:x=.int i)(_:y=.int j)(_:Q (.int (i+j)) H)
inductive Ld(x y:V)(H:Hp)(Q:VK):Prop
 |mk(i j:_)(_:x=.int i)(_:y=.int j)(_:Q (.int (i-j)) H)
def ZNt:Ky X .Add Kl:=by
 rintro a s g H x y u v Q I c d ⟨i,j,rfl,rfl,q⟩;obtain⟨t,rfl⟩:=(show ∃ t,u=Value.int i t from c);obtain⟨b,rfl⟩:=(show ∃ b,v=Value.int j b from d);exact PyProof.Rows.iadd_int ⟨.int (i+j),H,I.tok _,⟨_,rfl⟩,q⟩
def Gj:Ky X .Sub Ld:=by
 rintro a s g H x y u v Q I c d ⟨i,j,rfl,rfl,q⟩;obtain⟨t,rfl⟩:=(show ∃ t,u=Value.int i t from c);obtain⟨b,rfl⟩:=(show ∃ b,v=Value.int j b from d);exact PyProof.Rows.isub_int ⟨.int (i-j),H,I.tok _,⟨_,rfl⟩,q⟩
end
section
variable{jU:js}{σ:St}{H:Hp}{s:ak}{A:aw}{E Q:ja}{c:ai}{b:Bool}
inductive Ys(K:zZ)(H:Hp):V->ai->Prop where
 | non:Ys K H .non (.type "NoneType")
 | bl (x:Bool):Ys K H (.bl x) (.type "bool")
 | int (i:Int):Ys K H (.int i) (.type "int")
 | str (x:Str):Ys K H (.str x) (.type "str")
 | flt (x:UInt64):Ys K H (.flt x) (.type "float")
 | lst {a:aj} {xs:je} (e:H a=some (.lst xs)):Ys K H (.ref a) (.type "list")
 | frz {a:aj} {o:aH} {xs:je} (e:H a=some (.frz o (.lst xs))):Ys K H (.ref a) (.type "list")
 | tup {a:aj} {xs:je} (e:H a=some (.tup xs)):Ys K H (.ref a) (.type "tuple")
 | dK {a:aj} {kvs:List (ZR×V)} (e:H a=some (.dK kvs)):Ys K H (.ref a) (.type "dict")
 | dT {a:aj} {kvs:List (jE×V)} (e:H a=some (.dT kvs)):Ys K H (.ref a) (.type "dict")
 | ins {a C dx:aj} {fs:List (Str×V)} (e:H a=some (.ins C dx fs)) (cl:VR K C) (ha:zG K (.ref C) "__class__" = some (some (.builtin "object.__class__")))
   (hn:PySem.W.specialIn K (.builtin "object.__class__") "__get__" = some (some (.builtin "getset_descriptor.__get__"))) (htk:PySem.W.takesIn K (.builtin "object.__class__")=some true)
   (hm:yV K C (.type "object")=some true):Ys K H (.ref a) (.ref C)
def Bp{x:V}{u t:ai}(I:ZF X jU σ H s)(f:ZS x u)(N:Ys X.K H x t)(e:yT X.K t c=some b)(h:∀ M,Q (.bool b) { s with toks:=M }):
  aA (az X.prog X.w) A (call (.builtin "isinstance") [u,c]) Q E s:=by
 cases N with
 | non=>cases(show u=Value.none from f);exact xQ PySem.W.kitx_none I.kIn True.intro e (λz=>nomatch z) h
 | bl y=>cases(show u=Value.bool y from f);exact xQ PySem.W.kitx_bool I.kIn True.intro e (λz=>nomatch z) h
 | int i=>obtain⟨t,q⟩:=(show ∃ t,u=Value.int i t from f);cases q;exact xQ PySem.W.kitx_int I.kIn True.intro e (λz=>nomatch z) h
 | str y=>obtain⟨t,q⟩:=(show ∃ t,u=Value.str y t from f);cases q;exact xQ PySem.W.kitx_str I.kIn True.intro e (λz=>nomatch z) h
 | flt y=>obtain⟨t,q⟩:=(show ∃ t,u=Value.float y t from f);cases q;exact xQ PySem.W.kitx_float I.kIn True.intro e (λz=>nomatch z) h
 | @lst a k d=>
  cases(show u=Value.ref a from f);obtain⟨_,_,n,_,g⟩:=(show Zb X.prog X.w H s.heap a (.lst k) from I.hok a _ d);exact xQ PySem.W.kitx_list I.kIn ⟨_,g,rfl⟩ e (λz=>nomatch z) h
 | @frz a L k d=>
  cases(show u=Value.ref a from f);obtain⟨_,_,_,n,_,g⟩:=(show Zb X.prog X.w H s.heap a (.frz L (.lst k)) from I.hok a _ d);exact xQ PySem.W.kitx_list I.kIn ⟨_,g,rfl⟩ e (λz=>nomatch z) h
 | @tup a k d=>
  cases(show u=Value.ref a from f);obtain⟨_,_,_,p⟩:=(show Zb X.prog X.w H s.heap a (.tup k) from I.hok a _ d);obtain⟨o,g,l,_⟩:=p;exact xQ PySem.W.kitx_tuple I.kIn ⟨o,g,l⟩ e (λz=>nomatch z) h
 | @dK a j d=>
  cases(show u=Value.ref a from f);obtain⟨_,_,U,_,p⟩:=(show Zb X.prog X.w H s.heap a (.dK j) from I.hok a _ d);obtain⟨o,B,v,g,l,_⟩:=p;exact xQ PySem.W.kitx_dict I.kIn ⟨o,g,l.1⟩ e (λz=>nomatch z) h
 | @dT a j d=>
  cases(show u=Value.ref a from f);obtain⟨_,_,k,_,o,B,v,g,l,_⟩:=(show Zb X.prog X.w H s.heap a (.dT j) from I.hok a _ d);exact xQ PySem.W.kitx_dict I.kIn ⟨o,g,l.1⟩ e (λz=>nomatch z) h
 | @ins a C P R d r D G m F=>
  cases(show u=Value.ref a from f);obtain⟨S,O,_⟩:=MP I.hok d;obtain⟨T,J,_⟩:=O.look;exact xQ (PySem.W.kitx_own (r.get _) r.hd D G m F) I.kIn J e (λz=>nomatch z) h
end
structure ZW(k:Nat)(A:aw):Prop where
 hd:A.handled=none
 dp:A.depth+3 * k+5<recursionLimit
 un:A.units+16 * k+200<cLine
def ZW.mono{j k:Nat}{A:aw}(r:ZW k A)(h:j<=k):ZW j A:=⟨r.hd,by have:=r.dp;lia,by have:=r.un;lia⟩
def ZW.to{j:Nat}{A:aw}(r:ZW j A)(k:Nat)(h:k<=j:=by decide):ZW k A:=r.mono h
def ZW.deeper{k:Nat}{A:aw}(r:ZW (k+1) A)(a:Env):ZW k (A.deeper a):=
 ⟨r.hd,by have:=r.dp;show A.depth+1+3 * k+5<_;lia,by have:=r.un;show A.units+3+16 * k+200<_;lia⟩
def ZW.in1{k:Nat}{A:aw}(r:ZW (k+1) A):ZW k A.in1:=
 ⟨r.hd,by have:=r.dp;show A.depth+3 * k+5<_;lia,by have:=r.un;show A.units+1+16 * k+200<_;lia⟩
def EN{A:aw}{C:aj}{b:jd}{a:jG}:(A.under (.builtin "type.__call__" ⟨.ref C::b,a⟩)).depth=A.depth+1:=by
 first | rfl | simp[Around.under,Code.weight,Code.isCreation,Code.isGuard,Code.isCaller,Code.frames,Code.isFrame,guardIds]
def ZHG{A:aw}{C:aj}{b:jd}{a:jG}:(A.under (.builtin "type.__call__" ⟨.ref C::b,a⟩)).units=A.units+1:=by
 first | rfl | simp[Around.under,Code.cUnits,Code.frames,Code.isFrame]
def ZW.make{k:Nat}{A:aw}(r:ZW (k+1) A)(C:aj)(b:jd)(a:jG):ZW k (A.under (.builtin "type.__call__" ⟨.ref C::b,a⟩)):=
 ⟨r.hd,by have:=r.dp;rw[EN];lia,by have:=r.un;rw[ZHG];lia⟩
def ZW.depth{k:Nat}{A:aw}(r:ZW k A):A.depth<recursionLimit:=by have:=r.dp;lia
def ZW.units{k:Nat}{A:aw}(r:ZW k A):A.units+64<cLine:=by have:=r.un;lia
def ZW.units0{k:Nat}{A:aw}(r:ZW k A):A.units<cLine:=by have:=r.un;lia
def VP:TA:=λ_ H Q=>Q [] H
def Y9(d:TE)(e:TA):TA:=λa H Q=>d a H λx b=>e a b λf c=>Q (x::f) c
section
variable{e:Expr}{es:jy}{te:TE}{t:TA}{pos:aI}
def Zs:PA X [] VP:=λ_ _ _ _ H Q I h=>Calls.spliced_nil ⟨[],H,I,.nil,h⟩
def Zf(i:PE X e te)(j:PA X es t)(k:aq (e::es) X.env=(false,aG e X.env)::aq es X.env:=by rfl):PA X (e::es) (Y9 te t):=by
 intro pos a s b H Q I h;rw[k];show aA _ _ (spliced ((false,aG e X.env)::aE pos (aq es X.env))) _ _ s;refine Calls.spliced_cons (YD (i a s b H _ I h) λu p x c f n l=>?_);exact YD (j pos a p b c _ f l) λv r q d g o m=>⟨x::q,d,g,.cons n o,m⟩
def ZPu(t:TA):TE:=λc H Q=>t c H λb a=>b.length<=ap/\∀ p,a p=none->Q (.ref p) (upd a p (.tup b))
def ZPZ(t:TA):TE:=λc H Q=>t c H λb a=>b.length<=ap/\∀ p,a p=none->Q (.ref p) (upd a p (.lst b))
def Yq{k}(h:PA X es t):PE X (.Tuple es k pos) (ZPu t):=by
 intro a s m H Q I i;refine wpAny_Tuple_spliced (Zt (h pos a s m H _ I i) λj c ⟨l,d,f,r,z,q⟩=>⟨by rw[<-r.length];exact z,?_⟩)
 have g:d c.heap.objs.size=none:=f.hok.fresh (zY _);refine⟨.ref c.heap.objs.size,upd d c.heap.objs.size (.tup l),f.laid (t':=c.toks) (λb u e=>zS _ e) (zY _) ?_,rfl,q _ g⟩;exact⟨z,j,r,⟨_,yW _ rfl,rfl,_,rfl⟩⟩
def XR(h:PA X es t):PE X (.List es pos) (ZPZ t):=by
 intro a s l H Q I i;refine wpAny_List_spliced (Zt (h pos a s l H _ I i) λj c ⟨k,d,f,r,z,q⟩=>⟨by rw[<-r.length];exact z,?_⟩)
 have g:d c.heap.objs.size=none:=f.hok.fresh (zY _);refine⟨.ref c.heap.objs.size,upd d c.heap.objs.size (.lst k),f.laid (t':=c.toks) (λb u e=>zS _ e) (zY _) ?_,rfl,q _ g⟩;exact⟨z,j,0,r,yW _ rfl⟩
end
abbrev Sp:=je->Hp->VK->XK->Prop
abbrev WR:=jA->Hp->ak->XK->ja
structure WJ(P:al)(w:ar)(K:zZ)(mg:jb)(jV:aC)(A:aw)(outer:jA)(s:ak)(H:Hp):Prop where
 frames:A.frames=some outer
 mod:Mod K mg jV
 bs:∀ b o,jV.get? b=some o->s.heap.get? b=some o/\H b=none
 bsz:jV.objs.size<=s.heap.objs.size
 funs:s.heap.FunFrames jV outer
 frf:∀ b∈frs outer,H b=none
 hok:YG P w H s.heap
 bare:AllBare s.gens
def CE(a:jA)(P:al)(w:ar)(H:Hp)(s:ak)(Q:VK)(u:ai)(b:ak):Prop:=
 ∃ v c,b.os=s.os/\AllBare b.gens/\Un (frs a) [] H c s.heap b.heap/\YG P w c b.heap/\ZS v u/\Q v c
def CR(c:WR)(a:jA)(P:al)(w:ar)(H:Hp)(s:ak)(Q:VK)(E:XK)(r:Result)(b:ak):Prop:=
 match r with
 | .ok (.ret u)=>CE a P w H s Q u b
 | .ok _=>False
 | .error e=>c a H s E e b
structure ZI(P:al)(w:ar)(K:zZ)(mg:jb)(jV:aC)(CX:WR)(k:Nat)(f:aj)(fd:am)(ps:jr)(sp:Sp):Prop where
 len:∀ vs H Q E,sp vs H Q E->vs.length=ps.length
 run:∀(A:aw)(outer:jA)(s:ak)(H:Hp)(args:Args)(us:jd)(vs:je)(Q:VK)(E:XK),ZW k A->WJ P w K mg jV A outer s H->BindsTo s fd args (ps.zip us)->ZO vs us->sp vs H Q E ->
  aF (az P w) A (.call (.ref f) args) (CR CX outer P w H s Q E) s
def ZI.imp{P:al}{w:ar}{K:zZ}{i:jb}{a:aC}{e:WR}{k:Nat}{f:aj}{g:am}{j:jr}{l d:Sp}(F:ZI P w K i a e k f g j l)(h:∀ c H Q E,d c H Q E->l c H Q E):ZI P w K i a e k f g j d:=
 ⟨λc H Q E q=>F.len c H Q E (h _ _ _ _ q),λA b s H args t c Q E o n m r p=>F.run A b s H args t c Q E o n m r (h _ _ _ _ p)⟩
def WJ.make{P:al}{w:ar}{K:zZ}{c:jb}{b:aC}{A:aw}{a:jA}{s:ak}{H:Hp}(e:WJ P w K c b A a s H)(C:aj)(f:jd)(d:jG):
  WJ P w K c b (A.under (.builtin "type.__call__" ⟨.ref C::f,d⟩)) a s H:=⟨by first | exact e.frames | (simpa [Around.under,Code.envs,Code.isFrame,pushEnvs] using e.frames),e.mod,e.bs,e.bsz,e.funs,e.frf,e.hok,e.bare⟩
section
variable{jU:js}{σ:St}{H:Hp}{s s':ak}
def ZF.env0(I:ZF X jU σ H s):WJ X.prog X.w X.K X.mg X.base X.A X.stack s H:=
 ⟨I.ok.frames,I.ok.mod,I.bs,zI I.ok.bsz I.sz,I.stack,I.stkFree,I.hok,I.bare⟩
def ZF.after{Q:VK}{u:ai}(I:ZF X jU σ H s)(h:CE X.stack X.prog X.w H s Q u s'):EP X jU σ Q u s':=by
 obtain⟨v,f,j,a,k,c,r,q⟩:=h;obtain⟨i,g,d,t,e⟩:=s';obtain rfl:e=s.os:=j;exact⟨v,f,I.call (h':=i) (g':=g) (d':=d) (t':=t) (ch:=[]) k c a (λb z=>absurd z (by simp)),r,q⟩
end
def Ls(c:Sp)(a:je)(E:XK)(t:TA):TE:=λe H Q=>t e H λd b=>c (d++a) b Q E
inductive P0(C:aj)(m:Str)(g:Sp)(b:je)(E:XK)(t:TA)(i:L2.St)(Q:VK)(x:V)(c:Hp):Prop
 |mk(a f d:_)(_:x=.ref a)(_:c a=some (.ins C f d))(_:d.lookup m=none)(_:t i c λh e=>g (x::(h++b)) e Q E)
def Nk(C:aj)(m:Str)(d:Sp)(a:je)(E:XK)(e:TE)(t:TA):TE:=λb H Q=>e b H λx c=>P0 C m d a E t b Q x c
def N3(C:aj)(e:Sp)(c:je)(E:XK)(t:TA):TE:=λg H Q=>t g H λf b=>∀ x a,b x=none->b a=none->a≠x ->
 e (.ref x::(f++c)) (upd (upd b a (.own x)) x (.ins C a [])) (λv d=>v=.non/\Q (.ref x) d) E
def Zx(K:zZ)(d:am)(c:jr)(b:jd):Prop:=
 ∀(s:ak)(a:jd),K.In s.heap->(a++b).length=c.length->BindsTo s d ⟨a,[]⟩ (c.zip (a++b))
def Zx.all{K:zZ}{c:am}{b:jr}(h:∀ a:jd,a.length=b.length->bindArgs c ⟨a,[]⟩=pure (b.zip a)):Zx K c b []:=λs a _ d=>by
 rw[wX] at d⊢;exact .of_eq (h a d)
def Wx(c:WR)(X:Cx)(E:XK):Prop:=∀(a:js)(d:St)(H:Hp)(s:ak)(e:ai)(b:ak),ZF X a d H s->c X.stack H s E e b->X.xe e b
section
variable{CX:WR}{k:Nat}{f C:aj}{fd:am}{ps:jr}{sp:Sp}{jm:je}{ds:jd}{E:XK}{x m:Str}{p pos jj:aI}{e o:Expr}{es:jy}{ta:TE}{t:TA}
def Lx{a:js}{c:St}{H:Hp}{s:ak}{Q:VK}{us:jd}{vs:je}(F:ZI X.prog X.w X.K X.mg X.base CX k f fd ps sp)(n:ZW k X.A)(i:Zx X.K fd ps ds)(j:ZO jm ds)(q:Wx CX X E)(I:ZF X a c H s)(r:ZO vs us)(h:sp (vs++jm) H Q E):aA (az X.prog X.w) X.A (call (.ref f) us) (EP X a c Q) X.xe s:=by
 have d:ZO (vs++jm) (us++ds):=r.append j;have l:(us++ds).length=ps.length:=by rw[<-d.length];exact F.len _ _ _ _ h
 refine wpAny_call (codeAny_mono (F.run X.A X.stack s H ⟨us,[]⟩ (us++ds) (vs++jm) Q E n I.env0 (i s us I.kIn l) d h) λr v b=>?_)
 cases r with
 | error e=>exact q a c H s e v I b
 | ok g=>
  cases g with
  | ret u=>exact I.after b
  | next=>exact False.elim b
  | brk=>exact False.elim b
  | cont=>exact False.elim b
def GD(F:ZI X.prog X.w X.K X.mg X.base CX k f fd ps sp)(y:ZW k X.A)(n:Gl X x)(v:X.mg x=some (.ref f))(u:yU X.K (.ref f)=true)(i:Zx X.K fd ps ds)(j:ZO jm ds)(z:Wx CX X E)(g:PA X (e::es) t)(b:(x==("__debug__" : Str))=false:=by decide)(l:aq (e::es) X.env=(false,aG e X.env)::aq es X.env:=by rfl)(c:(aE pos (aq es X.env)).any (·.1)=false:=by rfl):
  PE X (.Call (.Name x p) (e::es) [] pos) (Ls sp jm E t):=by
 intro a s B H Q I h;refine ag (Qh I n v ?_ b);refine vV (h₀:=X.base) I.ok.mod.kin u (YD (g pos a s B H _ I h) λJ G L D d r q=>⟨d.kIn,?_⟩) l c;exact Lx F y i j z d r q
def EJ{v:Sem Bool}(M:PE X o ta)(c:VR X.K C)(n:UJ X.K C m f)(F:ZI X.prog X.w X.K X.mg X.base CX k f fd ps sp)(N:ZW k X.A)(J:Zx X.K fd ps ds)(L:ZO jm ds)(P:Wx CX X E)(G:PA X (e::es) t)(g:aq (e::es) X.env=(false,aG e X.env)::aq es X.env:=by rfl)(d:(aE pos (aq es X.env)).any (·.1)=false:=by rfl)(O:aG (.Call (.Attribute o m jj) (e::es) [] pos) X.env=(do
   let ov<-aG o X.env
   standAt jj.atName
   let (f,first)<-holding [ov] (getMethod ov m v)
   callWith pos f first (aE pos (aq (e::es) X.env)) (backToKw pos (keywordEach [] X.env))):=by rfl):
  PE X (.Call (.Attribute o m jj) (e::es) [] pos) (Nk C m sp jm E ta t):=by
 intro b s y H Q I h;refine sR (pl:=v) (Zt (M b s y H _ I h) λu T ⟨x,z,i,S,a,Z,fs,D,B,l,q⟩=>?_) O;subst D;obtain rfl:u=Value.ref a:=S;refine K4 i B c n l ?_;refine vV (first:=[.ref a]) (h₀:=X.base) I.ok.mod.kin n.kp (YD (G pos b T y z _ i q) λU s2 V Y j r R=>⟨j.kIn,?_⟩) g d
 exact Lx (us:=.ref a::U) (vs:=.ref a::V) F N J L P j (.cons rfl r) R
def Fm{i:Sem Bool}(y:PE X o ta)(c:VR X.K C)(g:UJ X.K C m f)(F:ZI X.prog X.w X.K X.mg X.base CX k f fd ps sp)(z:ZW k X.A)(r:Zx X.K fd ps ds)(v:ZO jm ds)(D:Wx CX X E)(B:aG (.Call (.Attribute o m jj) [] [] pos) X.env=(do
   let ov<-aG o X.env
   standAt jj.atName
   let (f,first)<-holding [ov] (getMethod ov m i)
   callWith pos f first (aE pos (aq [] X.env)) (backToKw pos (keywordEach [] X.env))):=by rfl):
  PE X (.Call (.Attribute o m jj) [] [] pos) (Nk C m sp jm E ta VP):=by
 intro b s J H Q I h;refine sR (pl:=i) (Zt (y b s J H _ I h) λu O ⟨x,L,d,G,a,M,N,n,j,l,q⟩=>?_) B;subst n;obtain rfl:u=Value.ref a:=G;refine K4 d j c g l ?_;exact sZ (first:=[.ref a]) d.kIn g.kp (Lx (us:=[.ref a]) (vs:=[.ref a]) F z r v D d (.cons rfl .nil) q)
structure Mk(K:zZ)(C f:aj):Prop where
 makes:uR K C=true
 init:zG K (.ref C) "__init__" = some (some (.ref f))
 fn:wY K (.ref f)=true
 kp:yU K (.ref C)=true
def Jk{b:js}{i:St}{H:Hp}{s:ak}{Q:VK}{us:jd}{g:je}(M:Mk X.K C f)(F:ZI X.prog X.w X.K X.mg X.base CX k f fd ps sp)(L:ZW (k+1) X.A)(D:Zx X.K fd ps ds)(G:ZO jm ds)(N:Wx CX X E)(I:ZF X b i H s)(r:ZO g us)(h:∀ x d,H x=none->H d=none->d≠x->sp (.ref x::(g++jm)) (upd (upd H d (.own x)) x (.ins C d [])) (λv q=>v=.non/\Q (.ref x) q) E):
  aA (az X.prog X.w) X.A (call (.ref C) us) (EP X b i Q) X.xe s:=by
 have j:=h (s.heap.objs.size+1) s.heap.objs.size (I.hok.fresh (xA _)) (I.hok.fresh (zY _)) (zO (yE _));have c:=ZF.made (C:=C) I;have l:ZO (V.ref (s.heap.objs.size+1)::(g++jm)) (Value.ref (s.heap.objs.size+1)::(us++ds)):=.cons rfl (r.append G);have J:(Value.ref (s.heap.objs.size+1)::us++ds).length=ps.length:=by
  have e:=l.length;rw[F.len _ _ _ _ j] at e;exact e.symm
 refine wpAny_call (Fh (f:=f) I.kIn M.makes M.init (beq_iff_eq.mp M.fn) (codeAny_mono (F.run _ X.stack _ _ ⟨Value.ref (s.heap.objs.size+1)::us,[]⟩ (Value.ref (s.heap.objs.size+1)::(us++ds)) _ _ E (L.make C us [])
  (c.env0.make C us []) (D _ (Value.ref (s.heap.objs.size+1)::us) c.kIn J) l j) λr R a=>?_))
 cases r with
 | error e=>exact N b i _ _ e R c a
 | ok B=>
  cases B with
  | ret u=>
   obtain⟨v,n,y,P,z,O⟩:=c.after a;subst z;exact⟨P,⟨V.ref (s.heap.objs.size+1),n,y,rfl,O⟩⟩
  | next=>exact False.elim a
  | brk=>exact False.elim a
  | cont=>exact False.elim a
def AE(M:Mk X.K C f)(F:ZI X.prog X.w X.K X.mg X.base CX k f fd ps sp)(v:ZW (k+1) X.A)(n:Gl X x)(u:X.mg x=some (.ref C))(i:Zx X.K fd ps ds)(j:ZO jm ds)(y:Wx CX X E)(g:PA X (e::es) t)(b:(x==("__debug__" : Str))=false:=by decide)(l:aq (e::es) X.env=(false,aG e X.env)::aq es X.env:=by rfl)(c:(aE pos (aq es X.env)).any (·.1)=false:=by rfl):
  PE X (.Call (.Name x p) (e::es) [] pos) (N3 C sp jm E t):=by
 intro a s z H Q I h;refine ag (Qh I n u ?_ b);refine vV (h₀:=X.base) I.ok.mod.kin M.kp (YD (g pos a s z H _ I h) λG D J B d r q=>⟨d.kIn,?_⟩) l c;exact Jk M F v i j y d r q
def AM(M:Mk X.K C f)(F:ZI X.prog X.w X.K X.mg X.base CX k f fd ps sp)(j:ZW (k+1) X.A)(g:Gl X x)(i:X.mg x=some (.ref C))(c:Zx X.K fd ps ds)(d:ZO jm ds)(l:Wx CX X E)(a:(x==("__debug__" : Str))=false:=by decide):PE X (.Call (.Name x p) [] [] pos) (N3 C sp jm E VP):=by
 intro b s n H Q I h;refine ag (Qh I g i ?_ a);exact sZ I.kIn M.kp (Jk (us:=[]) M F j c d l I .nil h)
end
def PK(X:Cx)(b:List Keyword)(t:TA):Prop:=
 ∀(c:aI)(a:js)(s:ak)(d:St)(H:Hp)(Q:je->Hp->Prop),ZF X a d H s->t d H Q->aA (az X.prog X.w) X.A (evalAll ((backToKw c (keywordEach b X.env)).map (·.2))) (AP X a d Q) X.xe s
section
variable{CX:WR}{k:Nat}{f C:aj}{fd:am}{ps ks:jr}{sp:Sp}{E:XK}{x m:Str}{p pos jj kpos:aI}{e o:Expr}{es:jy}{kws:List Keyword}{te ta:TE}{t tk:TA}{nm:Option Str}
def BR:PK X [] VP:=λ_ _ _ _ H Q I h=>wpAny_evalAll_nil ⟨[],H,I,.nil,h⟩
def D8(j:PE X e te)(l:PK X kws t):PK X (⟨nm,e,kpos⟩::kws) (Y9 te t):=by
 intro pos a s b H Q I h;show aA _ _ (evalAll ((do let v<-aG e X.env;standAt pos;pure v)::(backToKw pos (keywordEach kws X.env)).map (·.2))) _ _ s
 refine wpAny_evalAll_cons (aa (YD (j a s b H _ I h) λu y x c g r n=>aa (ah (ad ?_))));exact YD (l pos a y b c _ g n) λB A z d i w q=>⟨x::z,d,i,.cons r w,q⟩
variable{g:jd->jd->jd}{gV:je->je->je}
end
structure ZA(N P:jr)(sc:aD):Prop where
 kind:sc.kind=.function
 co:sc.isCoroutine=false
 gen:sc.isGenerator=false
 nd:N.Nodup
 pre:N.take P.length=P
 par:∀ x∈P,sc.names.lookup x=some .local\/sc.names.lookup x=some .cell
 nofree:∀ y∈sc.names,y.2≠.free
def Zz{N P:jr}{a:aD}(b:a.kind=.function:=by rfl)(c:a.isCoroutine=false:=by rfl)(d:a.isGenerator=false:=by rfl)(e:N.Nodup:=by decide +kernel)(f:N.take P.length=P:=by rfl)(g:∀ x∈P,a.names.lookup x=some .local\/a.names.lookup x=some .cell:=by decide +kernel)(h:∀ y∈a.names,y.2≠.free:=by decide +kernel):ZA N P a:=⟨b,c,d,e,f,g,h⟩
def Gp{kindOf:Str->Option NameKind}{x:Str}:∀{a:jG}{m:jb},(∀ v,(x,v)∉a)->bindL kindOf a m x=m x
 | [],_,_=>rfl
 | (n,v)::r,m,h=>by
  unfold bindL;rw[Gp λw b=>h w (zD _ b)];split
  ·have:x≠n:=by rintro rfl;exact h v zF
   simp[this]
  ·rfl
def H0{kindOf:Str->Option NameKind}{x:Str}:∀{a:jG}{m:jb},(∀ v,(x,v)∉a)->bindC kindOf a m x=m x
 | [],_,_=>rfl
 | (n,v)::r,m,h=>by
  unfold bindC;rw[H0 λw b=>h w (zD _ b)];split
  ·rfl
  ·have:x≠n:=by rintro rfl;exact h v zF
   simp[this]
def IX{kindOf:Str->Option NameKind}{x:Str}{v:ai}:∀{P:jr}{a:jd}{i:Nat}{m:jb},P.Nodup->P[i]? = some x->a[i]? = some v->kindOf x=some .local ->
  bindL kindOf (P.zip a) m x=some v
 | [],_,_,_,_,h,_,_=>by simp at h
 | _::_,[],_,_,_,_,h,_=>by simp at h
 | p::P,w::a,0,m,nd,h1,h2,hk=>by
  simp at h1 h2;subst h1;subst h2;show bindL kindOf ((p,w)::P.zip a) m p=_;unfold bindL;rw[Gp λv b=>(wO.mp nd).1 (tX b).1,aO hk];simp
 | p::P,w::a,i+1,m,nd,h1,h2,hk=>by
  show bindL kindOf ((p,w)::P.zip a) m x=_;unfold bindL;exact IX (i:=i) (wO.mp nd).2 (by simpa using h1) (by simpa using h2) hk
def IH{kindOf:Str->Option NameKind}{x:Str}{v:ai}:∀{P:jr}{a:jd}{i:Nat}{m:jb},P.Nodup->P[i]? = some x->a[i]? = some v->kindOf x≠some .local ->
  bindC kindOf (P.zip a) m x=some v
 | [],_,_,_,_,h,_,_=>by simp at h
 | _::_,[],_,_,_,_,h,_=>by simp at h
 | p::P,w::a,0,m,nd,h1,h2,hk=>by
  simp at h1 h2;subst h1;subst h2;show bindC kindOf ((p,w)::P.zip a) m p=_;unfold bindC;rw[H0 λv b=>(wO.mp nd).1 (tX b).1,aM hk];simp
 | p::P,w::a,i+1,m,nd,h1,h2,hk=>by
  show bindC kindOf ((p,w)::P.zip a) m x=_;unfold bindC;exact IH (i:=i) (wO.mp nd).2 (by simpa using h1) (by simpa using h2) hk
def start(N:jr)(a:je):St:=a.map some++wQ (N.length-a.length) none
def Wu(CX:WR)(P:al)(w:ar)(K:zZ)(mg:jb)(jV:aC)(N:jr)(qual:Str)(scope:aD)(f:aj)(cd:ai)(A:aw)(outer:jA)(s:ak)(H:Hp)(E:XK):Cx where
 prog:=P
 w:=w
 K:=K
 mg:=mg
 base:=jV
 A:=A.deeper (envOfC qual scope s.heap.objs.size f cd)
 N:=N
 s₀:=s
 H₀:=H
 env:=envOfC qual scope s.heap.objs.size f cd
 outer:=outer
 stack:=envOfC qual scope s.heap.objs.size f cd::outer
 ex:=[]
 calm:=true
 fn:=λ_=>true
 pn:=[]
 xe:=λe s'=>aA (az P w) (A.deeper (envOfC qual scope s.heap.objs.size f cd)) (leaving (envOfC qual scope s.heap.objs.size f cd) e) (λ_ s''=>CX outer H s E e s'') (λe' s''=>CX outer H s E e' s'') s'
def JX{a:aD}{n:Nat}{x:Str}(h:a.names.lookup x=some .cell):∃ c,(cellsFrom n a.names []).lookup x=some c:=by
 have q:=rJ a.names n [] (.inl h);exact sN.mp q
def DX{Q:WR}{P:al}{w:ar}{K:zZ}{M:jb}{m:aC}{N C:jr}{j:Str}{d:aD}{f:aj}{I:ai}{A:aw}{g:jA}{s U:ak}{H:Hp}{E:XK}{O:jd}{D:je}(S:ZA N C d)(Y:A.handled=none)(o:WJ P w K M m A g s H)(hl:D.length=C.length)(r:ZO D O)(x:InCallC s s.heap.objs.size (bindL (envOfC j d s.heap.objs.size f I).kindOf (C.zip O) λ_=>none) (cellsFrom (s.heap.objs.size+1) d.names []) (bindC (envOfC j d s.heap.objs.size f I).kindOf (C.zip O) λ_=>none) U):
  ZF (Wu Q P w K M m N j d f I A g s H E) [] (start N D) H U:=by
 have Z:C.length<=N.length:=by have:=congrArg xY S.pre;rw[List.length_take] at this;lia
 obtain⟨J,tk,rfl,R⟩:=x.done;have B:∀ b:aj,b∉(Wu Q P w K M m N j d f I A g s H E).ex:=λb z=>absurd (show b∈([]:ju) from z) (by simp)
 refine⟨⟨o.mod,S.kind,rfl,rfl,zY _,λy z c J l=>?_,λy t=>?_,λy c _ h=>?_,λ_=>Y,Around.frames_deeper o.frames,.inr ⟨rfl,rfl⟩,λb z=>absurd z (B b),o.bs,o.bsz,λb _ _=>B b,λb z=>absurd z (B b),o.funs,o.frf⟩,
  rfl,o.bare,Un.kept R,⟨_,x.toInCall.ns,λi y v J l h3=>?_⟩,λy c h=>⟨_,x.cell y c h⟩,o.hok.fresh (zY _),λy c h=>?_,λp F=>absurd (show p∈([]:js) from F) (by simp),o.hok.kept R,?_⟩
 ·exact name_of_addr x.apart (PySem.mem_of_lookup J) (PySem.mem_of_lookup l)
 ·have t:d.names.lookup y=some .cell\/d.names.lookup y=some .free:=t;rcases t with t | t
  ·exact JX t
  ·exact absurd rfl (S.nofree _ (PySem.mem_of_lookup t))
 ·exact xX (x.above y c (PySem.mem_of_lookup h))
 ·have L:i<D.length:=by
   unfold start at l;by_cases L:i<D.length
   ·exact L
   ·rw[wR (by simpa using L)] at l
    rw[List.getElem?_replicate] at l;split at l <;> cases l
  have X:D[i]? = some v:=by
   unfold start at l;rw[wS (by simpa using L),zJ] at l
   cases e:D[i]? with
   | none=>rw[e] at l;cases l
   | some a=>rw[e] at l;cases l;rfl
  obtain⟨u,T,rv⟩:=r.get X;have F:C[i]? = some y:=by
   rw[<-S.pre,List.getElem?_take_of_lt ∅];exact J
  have G:C.Nodup:=by rw[<-S.pre];exact S.nd.sublist (List.take_sublist _ _)
  exists u,rv;rcases S.par y (zA F) with k | k
  ·exact .inl ⟨k,IX G F T k⟩
  ·obtain⟨c,e⟩:=JX (n:=s.heap.objs.size+1) k;refine .inr ⟨.inl k,c,e,?_⟩;have q:=x.cell y c e;rw[IH G F T (by show d.names.lookup y≠_;rw[k];decide)] at q
   exact q
 ·exact o.hok.fresh (xX (x.above y c (PySem.mem_of_lookup h)))
 ·unfold start;show _=N.length;rw[zE,zX,List.length_replicate]
  lia
def Mf{R:WR}{P:al}{w:ar}{K:zZ}{T:jb}{h:aC}{k:Nat}{f:aj}{z d:Str}{i:Arguments}{j:jJ}{a:aD}{dV kV F pm g ct oc:ai}{an od:jv}{a0:Array (jc)}{N U:jr}{sp:Sp}(lk:K.lookup f=some ⟨oc,od,.func (yI z d i j a dV kV F pm an g ct),a0⟩)(X:xR K g d=true)(S:ZA N U a)(O:∀ l H Q E,sp l H Q E->l.length=U.length)(B:∀ (A:aw) (c:jA) (s:ak) (H:Hp) (l:je) (Q:VK) (E:XK),ZW k (A.deeper (envOfC d a s.heap.objs.size f g))->sp l H Q E ->
   ∃ t,WC (Wu R P w K T h N d a f g A c s H E) j t/\t { nx:=λ_ p=>Q .non p,rt:=Q } (start N l) H):
  ZI P w K T h R (k+1) f (yI z d i j a dV kV F pm an g ct) U sp:=by
 exists O;intro A c s H args us l Q E Y G hb r M;have hl:=O _ _ _ _ M;have KX:K.In s.heap:=G.mod.kin.keeps λb o e=>(G.bs b o e).1;have Z:s.heap.NoLimit:=G.mod.nolimit.keeps λb o e=>(G.bs b o e).1;have C:∀ y∈U.zip us,a.names.lookup y.1=some .local\/(a.names.lookup y.1=some .cell/\((cellsFrom (s.heap.objs.size+1) a.names []).lookup y.1).isSome=true):=λ⟨n,v⟩ hy=>by
  rcases S.par n (tX hy).1 with q | q
  ·exact .inl q
  ·exact .inr ⟨q,rJ _ _ _ (.inl q)⟩
 refine codeAny_call_function Y.depth (KX _ _ lk) rfl S.co S.gen rfl (PySem.W.codeRec_of KX X) (hb _ _ _ _ ?_);refine wpAny_newFunctionEnv_cells S.kind C λa1 he s1 x=>?_;subst he;refine⟨Z.keeps x.toInCall.keep,codeAny_func ?_⟩;obtain⟨t,ht,hq⟩:=B A c s H l Q E (Y.deeper _) M;have I:ZF (Wu R P w K T h N d a f g A c s H E) [] (start N l) H s1:=DX S Y.hd G hl r x;refine ae (ht [] s1 (start N l) H _ I hq) (λfl s' D=>?_) λe s' D=>D;have L:∀{m:St}{p:Hp}{v:V}{u:ai},ZF (Wu R P w K T h N d a f g A c s H E) [] m p s'->ZS v u->Q v p->CE c P w H s Q u s':=
  fun{m p v u} J rv q=>⟨v,p,J.os,J.bare,J.base,J.hok,rv,q⟩
 cases fl with
 | ret u=>
  obtain⟨v,m,p,J,rv,q⟩:=D;exact L J rv q
 | next=>
  obtain⟨m,p,J,q⟩:=D;exact L (v:=V.non) (u:=Value.none) J rfl q
 | brk=>
  obtain⟨_,_,_,q⟩:=D;exact False.elim q
 | cont=>
  obtain⟨_,_,_,q⟩:=D;exact False.elim q
section
variable{x:Str}{p pos:aI}{e:Expr}{es:jy}{t:TA}{id T:String}{r:je->Hp->VK->Prop}
def Gz(r:je->Hp->VK->Prop)(t:TA):TE:=λc H Q=>t c H λb a=>r b a Q
def Zm(j:Wq X (.builtin id) r)(l:Gl X x)(m:X.mg x=none)(o:ax x=some (.builtin id))(i:PA X (e::es) t)(n:x ≠ "__name__" :=by decide)(b:(x==("__debug__" : Str))=false:=by decide)(k:aq (e::es) X.env=(false,aG e X.env)::aq es X.env:=by rfl)(c:(aE pos (aq es X.env)).any (·.1)=false:=by rfl):PE X (.Call (.Name x p) (e::es) [] pos) (Gz r t):=by
 intro a s d H Q I h;refine ag (Qy I l m o ?_ n b);exact PyProof.Rows.callWith_builtin1 (YD (i pos a s d H _ I h) λw v y f g u q=>j a v d f y w Q g u q) k c
def VO(j:Wq X (.type T) r)(l:Gl X x)(m:X.mg x=none)(o:ax x=some (.type T))(i:PA X (e::es) t)(n:x ≠ "__name__" :=by decide)(b:(x==("__debug__" : Str))=false:=by decide)(k:aq (e::es) X.env=(false,aG e X.env)::aq es X.env:=by rfl)(c:(aE pos (aq es X.env)).any (·.1)=false:=by rfl):PE X (.Call (.Name x p) (e::es) [] pos) (Gz r t):=by
 intro a s d H Q I h;refine ag (Qy I l m o ?_ n b);exact PyProof.Rows.callWith_type1 (YD (i pos a s d H _ I h) λw v y f g u q=>j a v d f y w Q g u q) k c
end
end L2
variable{X:L2.Cx}{prog P:al}{w:ar}{A:aw}{E:ja}{s:ak}{K:zZ}{mg:jb}{f:aj}{fd:am}{jV:aC}
namespace HT
open PySem PyProof.Rows
def rcLt_int(A:aw)(s:ak)(a:Int)(t:Tok)(c:Int)(u:Tok)(b:al)(w:ar)(E Q:ja)(h:Q (.bool (decide (a<c))) s):
  aA (az b w) A (richCompare .Lt (.int a t) (.int c u)) Q E s:=
 (PyProof.Rows.lt_int h:aA (az b w) A (ay .Lt (.int a t) (.int c u)) Q E s)
section
open PySem.SeqAt
open PySem.AutoSeq1 (wpAny_loadPart')
open PySem.MeetsSeq PySem.MeetsSeq2 PySem.MeetsSeq3
end
def cat_tup{t b:aj}{d a:jd}{Q:ja}(C:IsTup s.heap t d.toArray)(B:IsTup s.heap b a.toArray)(u:d≠[])(y:a=[]->Q (.ref t) s)(z:a≠[]->Q (.ref s.heap.objs.size) { s with heap:=s.heap.push { cls:=.type "tuple",data:=.seq (d++a).toArray } })(m:d.length+a.length<=ap):aA (az prog w) A (binaryOp .Add (.ref t) (.ref b)) Q E s:=by
 obtain⟨⟨cls,p,data,x⟩,j,q,n,r⟩:=id C;obtain⟨⟨o,f,l,i⟩,c,g,v,h⟩:=id B;simp only at q r g h;subst q r g h;have e:d.toArray++a.toArray=(d++a).toArray:=by simp
 by_cases k:a=[]
 ·exact concat_meets ⟨_,j,rfl⟩ ⟨_,c,rfl⟩ noFill_tuple_add seq_tuple_add rK rG (rA _ _)
   (tuple_addW1 t b d.toArray a.toArray n v p f x i (by simpa using u) (by simp[k])) ⟨j,c,y k⟩
 ·refine concat_meets ⟨_,j,rfl⟩ ⟨_,c,rfl⟩ noFill_tuple_add seq_tuple_add rK rG (rA _ _)
   (tuple_addW2 t b d.toArray a.toArray n v p f x i (by simpa using u) (by simpa using k) (by rw[zN,zN];exact m)) ⟨j,c,?_⟩
  rw[e];exact z k
end HT
namespace L2
open PySem PySem.Spec PyProof.Rows
abbrev TO:=St->Hp->(Option Int->Hp->Prop)->Prop
def K5{a:jz}:∀{b:jd},ZO (a.map V.int) b->IntsAre b a:=by
 induction a with
 | nil=>intro b r;rw[vP] at r;cases r;exact .nil
 | cons n a c=>
  intro b r;rw[yS] at r
  cases r with
  | cons d f=>
   obtain⟨t,e⟩:=d;subst e;exact .cons n t (c f)
section
variable{e:Expr}{te:TE}{lo hi:Option Expr}{tl th:TO}{pos p2:aI}
inductive Op(K:zZ)(x y:V)(H:Hp)(Q:VK):Prop
 |mk(a b d c:_)(_:x=.ref a)(_:y=.ref b)(_:Zd K H a d)(_:Zd K H b c)(_:d≠[])(_:d.length+c.length<=ap)(_:c=[]->Q (.ref a) H)(_:c≠[]->∀ p,H p=none->Q (.ref p) (upd H p (.tup (d++c))))
def ZO.nil_iff{b:je}{a:jd}(r:ZO b a):a=[] ↔ b=[]:=by
 cases r with
 | nil=>simp
 | cons _ _=>simp
def E6:Yi X (binaryOp .Add) (Op X.K):=by
 intro i s E H x y v u Q I t A h;obtain⟨a,b,B,C,rfl,rfl,j,k,l,f,p,r⟩:=h;cases t;cases A;obtain⟨m,d,n,_⟩:=I.tuple j;obtain⟨g,c,p2,_⟩:=I.tuple k;refine HT.cat_tup n p2 (λz=>l (d.nil_iff.mp z)) (λz=>⟨.ref a,H,I,rfl,p (c.nil_iff.mp z)⟩) (λz=>?_) (by rw[<-d.length,<-c.length];exact f)
 refine⟨.ref s.heap.objs.size,_,I.laid (t':=s.toks) (o:=.tup (B++C)) (λb D q=>zS _ q) (zY _) ?_,rfl,r (λw=>z (c.nil_iff.mpr w)) _ (I.hok.fresh (zY _))⟩;exact⟨by rw[zE];exact f,_,d.append c,IsTup.new _ _⟩
end
def Um(n:Nat)(i:Int):jL:=if 0<=i then (if i<n then some i.toNat else none) else if -(n:Int)<=i then some (i+n).toNat else none
def XX{b:Type}(a:List b)(i:Int):Option b:=(Um a.length i).bind λj=>a[j]?
def HV{n:Nat}{i:Int}{j:Nat}(h:Um n i=some j):seqIndex? i n=some j/\j<n /\ -(n:Int)<=i/\i<n:=by
 unfold Um at h;by_cases b:0<=i
 ·rw[aO b] at h;by_cases a:i<n
  ·rw[aO a] at h;have e:i.toNat=j:=zH.inj h;exact⟨by rw[seqIndex_of b a,e],∅,∅,a⟩
  ·rw[aM a] at h;cases h
 ·rw[aM b] at h;by_cases a : -(n:Int)<=i
  ·rw[aO a] at h;have e:(i+n).toNat=j:=zH.inj h;exact⟨by rw[seqIndex_neg ∅ a,e],∅,a,∅⟩
  ·rw[aM a] at h;cases h
def Ks{b:Type}{a:List b}{i:Int}{v:b}(h:XX a i=some v):∃ j,seqIndex? i a.length=some j/\a[j]? = some v/\j<a.length /\ -(a.length:Int)<=i/\i<a.length:=by
 unfold XX at h
 cases e:Um a.length i with
 | none=>rw[e] at h;cases h
 | some j=>
  rw[e] at h;obtain⟨c,d,f,g⟩:=HV e;exact⟨j,c,h,d,f,g⟩
def WD{b:Type}{a:List b}{j:Nat}{v:b}(h:a[j]? = some v):XX a (j:Int)=some v:=by
 have c:j<a.length:=(yJ.mp h).1;have e:Um a.length (j:Int)=some j:=by
  unfold Um;rw[aO ∅,aO ∅];simp
 unfold XX;rw[e];exact h
def Kb{b:Type}(a:List b)(v:b):XX (a++[v]) (-1)=some v:=by
 have c:(a++[v]).length=a.length+1:=by simp
 have e:Um (a++[v]).length (-1)=some a.length:=by
  unfold Um;rw[c,aM (by decide),aO ∅]
  congr 1
  lia
 unfold XX;rw[e];show (a++[v])[a.length]? = some v;simp
def M4(b:Expr):Prop:=∀ o i,subscripted b false o i=operate [o,i] (getItem o i)
def UU(X:Cx)(r:R2):Prop:=
 ∀(c a:Expr)(b:js)(s:ak)(d:St)(H:Hp)(x y:V)(v u:ai)(Q:VK),ZF X b d H s->ZS x v->ZS y u->r x y H Q ->
  subscripted a false v u=operate [v,u] (getItem v u)->aA (az X.prog X.w) X.A (subscriptTail c a v u) (EP X b d Q) X.xe s
def GF(X:Cx)(id:String)(r:V->je->Hp->VK->Prop):Prop:=
 ∀(a:js)(s:ak)(d:St)(H:Hp)(x:V)(c:je)(v:ai)(b:jd)(Q:VK),ZF X a d H s->ZS x v->ZO c b->r x c H Q ->
  aA (az X.prog X.w) X.A (call (.builtin id) (v::b)) (EP X a d Q) X.xe s
section
variable{a b:Expr}{ta tb:TE}{pos:aI}
def UU.or{r g:R2}(h:UU X r)(l:UU X g):UU X (λx y H Q=>r x y H Q\/g x y H Q):=by
 intro d c e s k H x y v u Q I i j q f;rcases q with q | q
 ·exact h d c e s k H x y v u Q I i j q f
 ·exact l d c e s k H x y v u Q I i j q f
def UA{r:R2}(i:UU X r)(f:PE X a ta)(g:PE X b tb)(j:M4 b):PE X (.Subscript a b pos) (OU r ta tb):=by
 intro c s n H Q I h;exact Subscript_ (Lm f g I h λv u m x y d e k l q=>i a b c m n d x y v u Q e k l q (j _ _))
inductive Oj(K:zZ)(x y:V)(H:Hp)(Q:VK):Prop
 |mk(p c i v:_)(_:x=.ref p)(_:y=.int i)(_:ZH K H p c)(_:XX c i=some v)(_:Q v H)
inductive QU(K:zZ)(x y:V)(H:Hp)(Q:VK):Prop
 |mk(p c i v:_)(_:x=.ref p)(_:y=.int i)(_:Zd K H p c)(_:XX c i=some v)(_:Q v H)
inductive NB(x y:V)(H:Hp)(Q:VK):Prop
 |mk(z i c:_)(_:x=.str z)(_:y=.int i)(_:z.length<=ap)(_:XX z.cps.toList i=some c)(_:Q (.str ⟨#[c]⟩) H)
def Zy:UU X (Oj X.K):=by
 intro n m c s C H x y v u Q I M N h B;obtain⟨p,T,i,z,rfl,rfl,L,G,q⟩:=h;cases M;obtain⟨t,rfl⟩:=N;obtain⟨g,r,k,S⟩:=I.list L;obtain⟨j,e,D,P,E,F⟩:=Ks G;obtain⟨w,o,l⟩:=r.get D;have J:=r.length;have R:=OT;have d:EP X c C Q w s:=⟨z,H,I,l,q⟩;by_cases A:0<=i
 ·have f:i.toNat=j:=by
   rw[seqIndex_of A F] at e;exact zH.inj e
  exact item_listR k.isList A ∅ (by rw[f];simpa using o) d B
 ·have f:(i+(g.toArray.size:Int)).toNat=j:=by
   rw[seqIndex_neg ∅ E] at e
   rw[zN,<-J];exact zH.inj e
  exact subscriptTail_builtinR (x:=w) k.isList.typeIs slot_list_getitem.lookup
   (wpAny_getItem_list_neg (Q:=λr O=>r=w/\EP X c C Q r O) k.isList ∅ (by rw[zN] <;> lia) ∅ (by rw[f];simpa using o) ⟨rfl,d⟩) B
def Ua:UU X (QU X.K):=by
 intro g f c s l H x y v u Q I F G h D;obtain⟨p,R,i,z,rfl,rfl,C,A,q⟩:=h;cases F;obtain⟨t,rfl⟩:=G;obtain⟨E,r,k,P⟩:=I.tuple C;obtain⟨j,n,o,L,M,N⟩:=Ks A;obtain⟨w,m,e⟩:=r.get o;have B:=r.length;have O:=OT;have d:EP X c l Q w s:=⟨z,H,I,e,q⟩;exact subscriptTail_builtinR (x:=w) k.typeIs slot_tuple_getitem.lookup
  (getItem_tuple (j:=j) (Q:=λr J=>r=w/\EP X c l Q r J) k ∅ ∅ (by rw[zN,<-B];exact n) (by simpa using m) ⟨rfl,d⟩) D
def ZNx:UU X NB:=by
 intro e d g s G H x y v u Q I A B h w;obtain⟨z,i,c,rfl,rfl,E,p,q⟩:=h;obtain⟨t,rfl⟩:=A;obtain⟨F,rfl⟩:=B;obtain⟨j,f,m,C,n,o⟩:=Ks p;have r:z.cps.toList.length=z.length:=by simp[Str.length]
 rw[r] at f n o;have D:=OT;exact tail_any (typeIs_str s z t) slot_str_getitem.lookup (getItem_str (c:=c) (by
  have k:decide (i < -(2 ^ 63:Int))=false:=aJ ∅
  have l:decide (i ≥ 2 ^ 63)=false:=aJ ∅
  rw[k,l,Bool.or_false]) (by rw[f];simpa using m) ⟨.str ⟨#[c]⟩,H,I.tok _,⟨_,rfl⟩,q⟩) w
def LT(K:zZ):R2:=λx y H Q=>Oj K x y H Q\/QU K x y H Q\/NB x y H Q
def ZNY:UU X (LT X.K):=Zy.or (Ua.or ZNx)
def pxT{X:Cx}{a b:Expr}{ta tb:TE}{pos:aI}(K:zZ)(c:PE X a ta)(d:PE X b tb)(f:M4 b:=by exact λ_ _=>rfl)(e:UU X (QU K):=by exact Ua):PE X (.Subscript a b pos) (OU (QU K) ta tb):=UA e c d f
def Zk{X:Cx}{a b:Expr}{ta tb:TE}{pos:aI}(K:zZ)(c:PE X a ta)(d:PE X b tb)(f:M4 b:=by exact λ_ _=>rfl)(e:UU X (LT K):=by exact ZNY):PE X (.Subscript a b pos) (OU (LT K) ta tb):=UA e c d f
def ZHH(c:jd)(n j:Nat)(u:ai):Obj.mapSeq (·.setIfInBounds j u) { cls:=.type "list",data:=.seq c.toArray n }={ cls:=.type "list",data:=.seq (c.set j u).toArray n }:=by
 simp[Obj.mapSeq]
def ZF.lst{d:js}{g:St}{H:Hp}{s:ak}{p:aj}{f:je}(I:ZF X d g H s)(h:H p=some (.lst f)):
  ∃(c:jd)(n:Nat),ZO f c/\s.heap.get? p=some { cls:=.type "list",data:=.seq c.toArray n }/\f.length<=sizeLine:=by
 obtain⟨z,c,n,r,e⟩:=I.hok p _ h;exact⟨c,n,r,e,z⟩
def ZF.lstUpd{d:js}{l:St}{H:Hp}{s:ak}{p:aj}{w j:je}{g c:jd}{n i:Nat}{f:aH->aH}(I:ZF X d l H s)(h:H p=some (.lst w))(o:s.heap.get? p=some { cls:=.type "list",data:=.seq g.toArray n })(k:f { cls:=.type "list",data:=.seq g.toArray n }={ cls:=.type "list",data:=.seq c.toArray i })(r:ZO j c)(v:j.length<=ap)(t:Nat):
  ZF X d l (upd H p (.lst j)) { s with heap:=s.heap.update p f,toks:=t }:=by
 have e:(s.heap.update p f).get? p=some { cls:=.type "list",data:=.seq c.toArray i }:=by
  rw[wT f o (by rw[k] <;> rfl),k]
 refine I.write (x:=p) (e:=p) (by rw[h];trivial) (.inl rfl) (λb u m q=>(yB _ _ (Ne.symm m)).trans q) ⟨_,e⟩ ?_
 exact⟨v,c,i,r,e⟩
inductive Og(o i v:V)(H:Hp)(Q:Hp->Prop):Prop
 |mk(p c k j:_)(_:o=.ref p)(_:i=.int k)(_:H p=some (.lst c))(_:Um c.length k=some j)(_:Q (upd H p (.lst (c.set j v))))
def Lu:IA X Og:=by
 intro d s G H o i v M L u Q I D C E h;obtain⟨p,F,k,j,rfl,rfl,z,A,q⟩:=h;cases D;obtain⟨t,rfl⟩:=C;obtain⟨c,n,r,l,B⟩:=I.lst z;obtain⟨e,J,x,y⟩:=HV A;have g:=r.length;have K:=OT;have m:ZF X d G (upd H p (.lst (F.set j v))) { s with heap:=s.heap.update p (Obj.mapSeq (·.setIfInBounds j u)) }:=
  I.lstUpd z l (ZHH c n j u) (r.set E j) (by rw[List.length_set];exact B) s.toks
 by_cases w:0<=k
 ·have f:k.toNat=j:=by
   rw[seqIndex_of w y] at e;exact zH.inj e
  exact PySem.W.ki_setAt l w ∅ (by rw[zN,<-g];exact y) (by rw[f];exact⟨_,m,q⟩)
 ·have f:(k+(c.toArray.size:Int)).toNat=j:=by
   rw[seqIndex_neg ∅ x] at e
   rw[zN,<-g];exact zH.inj e
  exact PySem.W.ki_setBack l ∅ (by rw[zN,<-g];exact x) ∅ (by rw[f];exact⟨_,m,q⟩)
def Qb:V->Bool
 | .non=>true
 | .bl _=>true
 | .int _=>true
 | .str _=>true
 | _=>false
def Uv:V->V->Bool
 | .non,.non=>true
 | .bl a,.bl b=>a==b
 | .bl a,.int b=>(if a then 1 else 0)==b
 | .int a,.bl b=>a==(if b then 1 else 0)
 | .int a,.int b=>a==b
 | .str a,.str b=>a==b
 | _,_=>false
def NR{A:aw}{s:ak}{y x:V}{u v:ai}(f:ZS y u)(c:ZS x v)(g:Qb y=true)(e:Qb x=true):SeqAt.EqAt A s u v (Uv y x):=by
 cases y with
 | non=>
  cases f
  cases x with
  | non=>cases c;exact SeqAt.EqAt.same _
  | bl b=>cases c;exact SeqAt.EqAt.none_bool b
  | int b=>obtain⟨t,rfl⟩:=c;exact SeqAt.EqAt.none_int b t
  | str b=>obtain⟨t,rfl⟩:=c;exact SeqAt.EqAt.none_str b t
  | _=>exact absurd (show false=true from e) zV
 | bl a=>
  cases f
  cases x with
  | non=>cases c;exact SeqAt.EqAt.bool_none a
  | bl b=>cases c;exact SeqAt.EqAt.bool_bool a b
  | int b=>obtain⟨t,rfl⟩:=c;exact SeqAt.EqAt.bool_int a b t
  | str b=>obtain⟨t,rfl⟩:=c;exact SeqAt.EqAt.bool_str a b t
  | _=>exact absurd (show false=true from e) zV
 | int a=>
  obtain⟨d,rfl⟩:=f
  cases x with
  | non=>cases c;exact SeqAt.EqAt.int_none a d
  | bl b=>cases c;exact SeqAt.EqAt.int_bool a d b
  | int b=>obtain⟨t,rfl⟩:=c;exact SeqAt.EqAt.int_int a d b t
  | str b=>obtain⟨t,rfl⟩:=c;exact SeqAt.EqAt.int_str a d b t
  | _=>exact absurd (show false=true from e) zV
 | str a=>
  obtain⟨d,rfl⟩:=f
  cases x with
  | non=>cases c;exact SeqAt.EqAt.str_none a d
  | bl b=>cases c;exact SeqAt.EqAt.str_bool a d b
  | int b=>obtain⟨t,rfl⟩:=c;exact SeqAt.EqAt.str_int a d b t
  | str b=>obtain⟨t,rfl⟩:=c;exact SeqAt.EqAt.str_str a d b t
  | _=>exact absurd (show false=true from e) zV
 | _=>exact absurd (show false=true from g) zV
def Qg(x:V)(u:ai):Bool:=match u with
 | .none=>Uv .non x
 | .bool b=>Uv (.bl b) x
 | .int i _=>Uv (.int i) x
 | .str z _=>Uv (.str z) x
 | _=>false
def Jo{x y:V}{u:ai}(r:ZS y u)(f:Qb y=true):Qg x u=Uv y x:=by
 cases y with
 | non=>cases r;rfl
 | bl b=>cases r;rfl
 | int i=>obtain⟨t,rfl⟩:=r;rfl
 | str z=>obtain⟨t,rfl⟩:=r;rfl
 | _=>exact absurd (show false=true from f) zV
def LK{x:V}:∀{c:je}{d:jd},ZO c d->c.all Qb=true->d.any (Qg x)=c.any λy=>Uv y x
 | _,_,.nil,_=>rfl
 | y::c,u::d,.cons r t,f=>by
  rw[uZ,zT] at f;rw[vQ,vQ,Jo r f.1,LK t f.2]
def Kc{A:aw}{s:ak}{x:V}{v:ai}(h:ZS x v)(g:Qb x=true):∀{e:je}{d:jd},ZO e d->e.all Qb=true->∀ u∈d,SeqAt.EqAt A s u v (Qg x u)
 | _,_,.nil,_=>λu c=>by cases c
 | y::e,u::d,.cons r t,f=>λi c=>by
  rw[uZ,zT] at f;rcases yZ.mp c with rfl | c
  ·rw[Jo r f.1];exact NR r h f.1 g
  ·exact Kc h g t f.2 i c
def MO(x:V)(c:je):Bool:=c.any λy=>Uv y x
inductive HK(K:zZ)(d:Bool)(x y:V)(H:Hp)(Q:VK):Prop
 |mk(p c:_)(_:y=.ref p)(_:ZH K H p c\/Zd K H p c)(_:Qb x=true)(_:c.all Qb=true)(_:Q (.bl (if d then !MO x c else MO x c)) H)
def En:Yi X (ay .In) (HK X.K false):=by
 intro j s o H x y v u Q I k m h;obtain⟨p,n,rfl,d,i,e,q⟩:=h;cases m;rcases d with d | d
 ·obtain⟨c,r,g,l⟩:=I.list d;refine SeqAt.in_listAt (Qg x) g.isList (λw f=>Kc k i r e w (by simpa using f)) ⟨.bl _,H,I,rfl,?_⟩
  rw[show c.toArray.any (Qg x)=c.any (Qg x) by simp,LK r e]
  exact q
 ·obtain⟨c,r,g,l⟩:=I.tuple d;refine SeqAt.in_tupleAt (Qg x) g (λw f=>Kc k i r e w (by simpa using f)) ⟨.bl _,H,I,rfl,?_⟩
  rw[show c.toArray.any (Qg x)=c.any (Qg x) by simp,LK r e]
  exact q
inductive WO(d:zZ)(e:je)(H:Hp)(Q:VK):Prop
 |mk(p c:_)(_:e=[.ref p])(_:ZH d H p c\/Zd d H p c)(_:Q (.int c.length) H)
def WA:Wq X (.builtin "len") (WO X.K):=by
 intro i s t H o n Q I r h;obtain⟨p,j,rfl,d,q⟩:=h;obtain⟨u,rfl,l⟩:=VT r;cases l;have m:=OT;rcases d with d | d
 ·obtain⟨e,g,f,k⟩:=I.list d;have c:=g.length;exact Calls.call_len_list f.isList (by simp only[zN] <;> lia) ⟨.int j.length,H,I.tok _,⟨s.toks+1,by rw[zN,c]⟩,q⟩
 ·obtain⟨e,g,f,k⟩:=I.tuple d;have c:=g.length;exact len_tuple f (by simp only[zN] <;> lia) ⟨.int j.length,H,I.tok _,⟨s.toks+1,by rw[zN,c]⟩,q⟩
inductive WL(c:je)(H:Hp)(Q:VK):Prop
 |mk(z:_)(_:c=[.str z])(_:z.length<=ap)(_:Q (.int z.length) H)
def ZFU:Wq X (.builtin "len") (WL):=by
 intro c s i H g f Q I r h;obtain⟨z,rfl,e,q⟩:=h;obtain⟨u,rfl,t,rfl⟩:=VT r;have d:=OT;exact len_str ∅ ⟨.int z.length,H,I.tok _,⟨_,rfl⟩,q⟩
inductive WN(d:zZ)(e:je)(H:Hp)(Q:VK):Prop
 |mk(p c:_)(_:e=[.ref p])(_:ZH d H p c\/Zd d H p c)(_:∀ l,H l=none->Q (.ref l) (upd H l (.lst c)))
def Q6:Wq X (.type "list") (WN X.K):=by
 intro t s D H F E Q I r h;obtain⟨p,A,rfl,k,q⟩:=h;obtain⟨u,rfl,C⟩:=VT r;cases C;have i:∀(c:jd),ZO A c->A.length<=ap->∀(d:aC)(f:Nat),(∀ b B,s.heap.get? b=some B->d.get? b=some B) ->
   d.get? s.heap.objs.size=some { cls:=.type "list",dict:=none,data:=.seq c.toArray f,slots:=#[] }->EP X t D Q (.ref s.heap.objs.size) { s with heap:=d }:=λc g l d f m e=>
  ⟨.ref s.heap.objs.size,_,I.laid (t':=s.toks) m (zY _) (show Zb X.prog X.w _ d _ (.lst A) from ⟨l,c,f,g,e⟩),rfl,q _ (I.hok.fresh (zY _))⟩
 rcases k with k | k
 ·obtain⟨c,g,z,l⟩:=I.list k;have j:=g.length;obtain⟨o,y,v,n,x⟩:=z.isList;exact call_list_seq p (.inl rfl) y v x (λd f m e=>i c g l d f m e) (by simp only[zN] <;> lia)
 ·obtain⟨c,g,z,l⟩:=I.tuple k;have j:=g.length;obtain⟨o,y,v,n,x⟩:=z;exact call_list_seq p (.inr rfl) y v x (λd f m e=>i c g l d f m e) (by simp only[zN] <;> lia)
inductive Xs(d:zZ)(e:je)(H:Hp)(Q:VK):Prop
 |mk(p c:_)(_:e=[.ref p])(_:(ZH d H p c/\∀ l,H l=none->Q (.ref l) (upd H l (.tup c)))\/(Zd d H p c/\Q (.ref p) H))
def OA:Wq X (.type "tuple") (Xs X.K):=by
 intro c s t H A z Q I r h;obtain⟨p,n,rfl,h⟩:=h;obtain⟨u,rfl,y⟩:=VT r;cases y;rcases h with ⟨g,q⟩ | ⟨g,q⟩
 ·obtain⟨d,j,i,m⟩:=I.list g;have l:=j.length;refine call_tuple_list i.isList (λf x=>?_) (by simp only[zN] <;> lia)
  have k:ZF X c t H { s with heap:=f }:=I.kept (t':=s.toks) x;have v:ZF X c t (upd H f.objs.size (.tup n)) { s with heap:=f.push { cls:=.type "tuple",data:=.seq d.toArray } }:=
   k.laid (t':=s.toks) (λb o e=>zS _ e) (zY _) (show Zb X.prog X.w _ _ _ (.tup n) from ⟨m,d,j,IsTup.new _ _⟩)
  exact⟨.ref f.objs.size,_,v,rfl,q _ (k.hok.fresh (zY _))⟩
 ·obtain⟨d,j,i,m⟩:=I.tuple g;exact call_tuple_same i ⟨.ref p,H,I,rfl,q⟩
def Mg(K:zZ)(T:String)(x:V)(H:Hp):Prop:=match x with
 | .str _=>T = "str"
 | .int _=>T = "int"
 | .ref p=>(T = "list" /\ ∃ d,ZH K H p d)\/(T = "tuple" /\ ∃ o,K.lookup p=some o/\o.cls=.type "tuple" /\ o.dict=none) \/
   (T = "dict" /\ ((∃ c,H p=some (.dK c))\/∃ c,H p=some (.dT c)))\/(T = "set" /\ ∃ S n,H p=some (.set S n))
 | _=>False
def HC{g:js}{A:St}{H:Hp}{s:ak}{T:String}{x:V}{v:ai}(I:ZF X g A H s)(r:ZS x v)(h:Mg X.K T x H):
  s.TypeIs v T/\∀ a,v=.ref a->∃ m,s.heap.get? a=some m/\m.dict=none:=by
 cases x with
 | str z=>
  obtain⟨t,rfl⟩:=r;cases(show T = "str" from h);exact⟨typeIs_str s z t,λ_ e=>nomatch e⟩
 | int i=>
  obtain⟨t,rfl⟩:=r;cases(show T = "int" from h);exact⟨typeIs_int s i t,λ_ e=>nomatch e⟩
 | ref p=>
  cases r;rcases h with ⟨rfl,B,w⟩ | ⟨rfl,o,d,u,k⟩ | ⟨rfl,d⟩ | ⟨rfl,S,n,d⟩
  ·obtain⟨y,_,q,_⟩:=I.list w;exists q.isList.typeIs;intro a e;cases e;obtain⟨o,n,e,c,k,_⟩:=q;exact⟨o,e,k⟩
  ·exists ⟨o,I.kIn p o d,u⟩;intro a e;cases e;exact⟨o,I.kIn _ o d,k⟩
  ·have z:∃ o,s.heap.get? p=some o/\o.ExactDict:=by
    rcases d with ⟨l,d⟩ | ⟨l,d⟩
    ·obtain⟨_,_,_,_,o,_,_,e,f,_⟩:=I.hok p _ d;exact⟨o,e,f⟩
    ·obtain⟨_,_,_,_,o,_,_,e,f,_⟩:=I.hok p _ d;exact⟨o,e,f⟩
   obtain⟨o,e,f⟩:=z;exists ⟨o,e,f.1⟩;intro a j;cases j;exact⟨o,e,f.2.1⟩
  ·obtain⟨o,_,_,_,e,f,_⟩:=I.hok p _ d;exists ⟨o,e,f.1⟩;intro a j;cases j;exact⟨o,e,f.2.1⟩
 | _=>exact False.elim h
def Be(K:zZ)(T:String)(r:V->je->Hp->VK->Prop)(d:TE):TE:=λe H Q=>d e H λx c=>Mg K T x c/\r x [] c Q
def N2(K:zZ)(T:String)(r:V->je->Hp->VK->Prop)(f:TE)(t:TA):TE:=λd H Q=>f d H λx c=>Mg K T x c/\t d c λg e=>r x g e Q
variable{o e:Expr}{es:jy}{to:TE}{t:TA}{name:Str}{jj ji:aI}{T id:String}{r:V->je->Hp->VK->Prop}
def NG(w:PlainAttrs T)(g:Slot T name id)(i:typeOf (.builtin id)=pure (.type "method_descriptor"))(q:GF X id r)(u:PE X o to)(d:attributeBase o name X.env (aG o X.env)=aG o X.env:=by rfl)(f:(jj.endLine==ji.line)=true:=by rfl):PE X (.Call (.Attribute o name jj) [] [] ji) (Be X.K T r to):=by
 intro c s l H Q I h;refine wpAny_Call_method0_late d f (Zt (u c s l H _ I h) ?_);rintro v z ⟨x,m,j,k,A,y⟩;obtain⟨n,p⟩:=HC j k A;exact⟨T,id,w,g,i,n,p,Calls.callWith_builtin rfl (PySem.evalArgs_none (q c z l m x [] v [] Q j k .nil y))⟩
def Vh(E:PlainAttrs T)(j:Slot T name id)(k:typeOf (.builtin id)=pure (.type "method_descriptor"))(B:GF X id r)(C:PE X o to)(A:PA X (e::es) t)(f:attributeBase o name X.env (aG o X.env)=aG o X.env:=by rfl)(i:((aE ji (aq (e::es) X.env)).all (λx=>!x.1)&&(backToKw ji (keywordEach [] X.env)).all (λx=>x.1.isSome)
   && decide ((e::es).length+([]:List Keyword).length+(if ([]:List Keyword).isEmpty then 0 else 1)<30))=true:=by rfl)(g:(jj.endLine==ji.line)=true:=by rfl)(D:aq (e::es) X.env=(false,aG e X.env)::aq es X.env:=by rfl)(d:(aE ji (aq es X.env)).any (·.1)=false:=by rfl):
  PE X (.Call (.Attribute o name jj) (e::es) [] ji) (N2 X.K T r to t):=by
 intro c s l H Q I h;refine wpAny_Call_method_late f i g rfl (Zt (C c s l H _ I h) ?_);rintro v L ⟨x,q,m,p,N,F⟩;obtain⟨y,z⟩:=HC m p N;exists T,id,E,j,k,y,z;have n:=A ji c L l q _ m F;rw[D] at n⊢;refine Calls.callWith_builtin (by show (false || (aE ji (aq es X.env)).any (·.1))=false;rw[d] <;> rfl) (Calls.evalArgs_plain ?_)
 exact YD n λO M P u w J G=>B c M l u x P v O Q w p J G
end
def P4(X:Cx)(id:String)(r:V->je->Hp->VK->Prop):Prop:=
 ∀(a:js)(s:ak)(d:St)(H:Hp)(x:V)(c:je)(v:ai)(b:jd)(Q:VK),ZF X a d H s->ZS x v->ZO c b->r x c H Q ->
  aA (az X.prog X.w) X.A (call (.builtin id) (v::b)) (EP X a d Q) X.xe s
def ZO.one:∀{x:V}{a:jd},ZO [x] a->∃ u,a=[u]/\ZS x u:=λh=>by cases h with | cons r n=>cases n;exact⟨_,rfl,r⟩
def ZO.zero:∀{a:jd},ZO [] a->a=[]
 | _,.nil=>rfl
def ZO.dropLast{b:je}{a:jd}(h:ZO b a):ZO b.dropLast a.dropLast:=by
 induction h with
 | nil=>exact .nil
 | cons r t c=>
  cases t with
  | nil=>exact .nil
  | cons q d=>exact .cons r c
def ZHF{d:Type}(l:List d):l.eraseIdx (l.length-1)=l.dropLast:=by
 induction l with
 | nil=>rfl
 | cons a r c=>
  cases r with
  | nil=>rfl
  | cons b r=>
   have e:(a::b::r).length-1=((b::r).length-1)+1:=by
    have f:(a::b::r).length=r.length+2:=rfl;have g:(b::r).length=r.length+1:=rfl
    lia
   rw[e,List.eraseIdx_cons_succ,c]
   all_goals rfl
section
variable{jU:js}{σ:St}{H:Hp}{l b:aj}{xs ys zs:je}
def ZF.lset{a its':jd}{n:Nat}{f:jw->jw}{k:Nat}(I:ZF X jU σ H s)(c:H l=some (.lst xs))(e:s.heap.get? l=some { cls:=.type "list",data:=.seq a.toArray n })(g:f a.toArray=its'.toArray)(i:ZO ys its')(j:ys.length<=ap):
  ZF X jU σ (upd H l (.lst ys)) { s with heap:=s.heap.update l (Obj.mapSeq f),toks:=k }:=by
 have q:=PySem.IsL.update e f;rw[g] at q;refine I.write (x:=l) (e:=l) (by rw[c];exact trivial) (.inl rfl) (λm u d h=>(yB s.heap (Obj.mapSeq f) (Ne.symm d)).trans h) ⟨_,q⟩ ?_
 exact⟨j,its',_,i,q⟩
def ZF.lnew{a:jd}{t':Nat}(I:ZF X jU σ H s)(c:ZO ys a)(d:ys.length<=ap):
  ZF X jU σ (upd H s.heap.objs.size (.lst ys)) { s with heap:=s.heap.push { cls:=.type "list",data:=.seq a.toArray },toks:=t' }:=
 I.laid (λ_ _ q=>zS _ q) (zY _) ⟨d,a,0,c,yW _ rfl⟩
def ZF.fresh(I:ZF X jU σ H s):H s.heap.objs.size=none:=I.hok.fresh (zY _)
def ZF.lstM(I:ZF X jU σ H s)(c:H l=some (.lst xs)):xs.length<=ap/\∃(a:jd)(n:Nat),ZO xs a/\xs.length=a.length/\s.heap.get? l=some { cls:=.type "list",data:=.seq a.toArray n }:=by
 obtain⟨z,a,n,r,e⟩:=I.hok l _ c;exact⟨z,a,n,r,r.length,e⟩
end
inductive Qj(x:V)(b:je)(H:Hp)(Q:VK):Prop
 |mk(l a y:_)(_:x=.ref l)(_:b=[y])(_:H l=some (.lst a))(_:a.length<ap)(_:Q .non (upd H l (.lst (a++[y]))))
def UI:P4 X "list.append" Qj:=by
 intro c s p H x m v k Q I g f h;obtain⟨l,o,y,rfl,rfl,b,j,q⟩:=h;cases g;obtain⟨u,rfl,d⟩:=f.one;obtain⟨z,a,n,r,i,e⟩:=I.lstM b;refine call_meets F.slot_list_append ⟨_,e,rfl⟩ F.entry_list_append (F.args_list_append_2 _ _) (PySem.list_append l a.toArray n u (by rw[zN];lia)) ⟨e,?_⟩
 refine⟨.non,_,I.lset (its':=a++[u]) b e (by simp) (r.append (.cons d .nil)) ?_,rfl,q⟩
 rw[zE,xI]
 lia
inductive Mu(x:V)(b:je)(H:Hp)(Q:VK):Prop
 |mk(l a y:_)(_:x=.ref l)(_:b=[])(_:H l=some (.lst a))(_:a[a.length-1]? = some y)(_:Q y (upd H l (.lst a.dropLast)))
def IG:P4 X "list.pop" Mu:=by
 intro f s A H x t v p Q I o m h;obtain⟨l,w,y,rfl,rfl,d,j,q⟩:=h;cases o;have b:=m.zero;subst b;obtain⟨z,a,n,r,g,e⟩:=I.lstM d;obtain⟨u,i,k⟩:=r.get j;have c:a.toArray[a.toArray.size-1]? = some u:=by
  show a.toArray[a.length-1]? = some u;rw[<-rX,<-g];exact i
 refine call_meets F.slot_list_pop ⟨_,e,rfl⟩ F.entry_list_pop (F.args_list_pop_1 _) (MeetsSeq.list_pop_last l a.toArray n u c (by rw[zN];lia)) ⟨e,?_⟩
 refine⟨y,_,I.lset (its':=a.dropLast) d e ?_ r.dropLast ?_,k,q⟩
 ·show a.toArray.eraseIdxIfInBounds (a.toArray.size-1)=a.dropLast.toArray;rw[zN,List.eraseIdxIfInBounds_toArray,ZHF]
 ·rw[List.length_dropLast]
  lia
inductive PV(x:V)(a:je)(H:Hp)(Q:VK):Prop
 |mk(l b:_)(_:x=.ref l)(_:a=[])(_:H l=some (.lst b))(_:Q .non (upd H l (.lst [])))
def M5:P4 X "list.clear" PV:=by
 intro d s o H x k v j Q I g f h;obtain⟨l,m,rfl,rfl,c,q⟩:=h;cases g;have a:=f.zero;subst a;obtain⟨z,b,n,r,i,e⟩:=I.lstM c;refine call_meets F.slot_list_clear ⟨_,e,rfl⟩ F.entry_list_clear (F.args_list_clear_1 _) (AutoSeq1.list_clear_list_0 l b.toArray n (by rw[zN];lia)) ⟨e,?_⟩
 exact⟨.non,_,I.lset (its':=[]) (ys:=[]) c e rfl .nil (yX _),rfl,q⟩
inductive M2(x y:V)(H:Hp)(Q:VK):Prop
 |mk(l b a c:_)(_:x=.ref l)(_:y=.ref b)(_:H l=some (.lst a))(_:H b=some (.lst c))(_:a.length+c.length<=ap)(_:∀ p,H p=none->Q (.ref p) (upd H p (.lst (a++c))))
def OB:Yi X (binaryOp .Add) M2:=by
 intro d s E H x y v u Q I o p h;obtain⟨l,b,B,D,rfl,rfl,j,i,w,q⟩:=h;cases o;cases p;obtain⟨z,c,n,r,t,e⟩:=I.lstM j;obtain⟨C,a,A,m,k,f⟩:=I.lstM i;refine PySem.P.add_list e f ?_ (by rw[zN,zN];lia)
 have g:c.toArray++a.toArray=(c++a).toArray:=by simp
 rw[g];exact⟨.ref _,_,I.lnew (t':=s.toks) (r.append m) (by rw[zE];lia),rfl,q _ I.fresh⟩
end L2
namespace Att
open PySem PySem.W PySem.Calls PyProof.Rows
def D6{P:Params}{h:aC}:∀(c:jz)(d:jd),WellAll P h d (c.map WData.int)->IntsAre d c:=by
 intro c
 induction c with
 | nil=>
  intro d w;rw[vP] at w;cases w;exact .nil
 | cons n c e=>
  intro d w;rw[yS] at w
  cases w with
  | cons a b=>
   cases a;exact .cons _ _ (e _ b)
def CJ{l:OpenLaw}{n:Nat}(v:l.most=some n){P:Params}{h:aC}{args:List WData}{e:jd}(c:l.row.toRowW.claim.pre args=true)(m:WellAll P h e args):
  ∃ a p b,e=[Value.ref a]/\args=[WData.list (b.map WData.int)]/\h.get? a=some { cls:=.type "list",data:=.seq p.toArray }/\IntsAre p b/\b.length<=n:=by
 have k:WShape.hasAll [] args [.list .int]=true:=(pre_splitW c).1;have o:l.pre.holds [] { args:=args }=true:=(pre_splitW c).2;obtain⟨d,r,rfl,s,t⟩:=hasAllW_cons k;obtain rfl:=hasAllW_nil t;obtain⟨A,rfl,u⟩:=hasW_list s;obtain⟨b,rfl⟩:=items_int u;have g:b.length<=n:=by
  unfold OpenLaw.pre at o;have i:(WTm.not (.lt (.lit (.int (n:Int))) (.len (.arg 0)))).holds [] { args:=[.list (b.map .int)] }=true:=by
   have i:=(holds_andW o).1;rw[v] at i;exact i
  have j:=condW_of i (w_not (w_lt w_lit (w_len_list (w_arg rfl))));rw[zX] at j;refine uW λq=>?_;have x:(n:Int)<((b.length:Nat):Int):=∅
  first
   | (rw[aK x] at j;exact absurd j (by decide))
   | (simp at j;lia)
 cases m with
 | cons y z=>
  cases z
  cases y with
  | list w f=>exact⟨_,_,b,rfl,rfl,w,D6 b _ f,g⟩
def Bq(l:OpenLaw)(args:List WData):l.row.toRowW.claim.post args (.bool true) args=true:=
 postW_of (r:=l.row.toRowW) (X:=(true==true))
  (show WShape.has [] (.bool true) .bool=true by first | rfl | decide | simp[WShape.has,WShape.arms,WShape.armsAll])
  (show (WTm.eq .res (.lit (.bool true))).value [] { args:=args,res:=some (.bool true),after:=args }=some (.bool (true==true)) from w_eq_bool (w_res rfl) w_lit) rfl
def attach_call{l:OpenLaw}{n:Nat}{q:al}{c:jr}{E:(jb)->aC->Prop}{F:ar->aC->Prop}{d:DefRec}(S:l.most=some n)(z:d.params.defaults=[])(j:∀ (w:ar) (e b:ak) (u C:jb) (k:aj) (o:aH) (D t g:ai) (a:aj) (i:jd) (v:jz),
   Ground q c [] E w e u C b.heap->F w b.heap ->
   b.heap.get? k=some o->o.data=.func (docDef d.name d.params d.body d.scope D t g)->b.heap.CodeRec t d.name->u d.name=some (.ref k) ->
   b.heap.get? a=some { cls:=.type "list",data:=.seq i.toArray }->IntsAre i v->v.length<=n->b.gens=#[] ->
   aF (az l.prog w) callerA (.call (.ref k) ⟨[.ref a],[]⟩) (λr x=>r=.ok (.ret (.bool true))/\OldK b.heap x.heap/\x.os=b.os/\AllBare x.gens) b):
  WalkO q c E F l.row.toRowW d [] (λf i=>PySem.call f i):=by
 intro w e b u C G Y k o D t g K kV T O y H A P args J W s I V B Q;obtain rfl:K=.none:=Dflts.none H z;obtain rfl:kV=.none:=Dflts.noKw H;obtain⟨a,i,v,rfl,rfl,p,h,m⟩:=CJ S s B;refine enter_call (codeAny_mono (j w e b u C k o D t g a i v G Y T (fd_plain O) y A p h m P) λr x U=>?_);obtain⟨rfl,L,M,N⟩:=U;exact⟨.inl ⟨.bool true,.bool true,[],rfl,λ_=>rfl,.bool true,Bq l _,λ_=>⟨List.Pairwise.nil,λ_ R=>(nomatch R)⟩⟩,L,M,N⟩
section
variable{K:Frag}
def ZPO(h:aC)(L d:aj):js:=(zQ h.objs.size).filterMap λa=>if a=L\/a=d then none else (h.get? a).map λo=>(a,o)
end
end Att
namespace L2
open PySem PySem.Spec PyProof.Rows
def N4:∀{b:jd}{a:jz},IntsAre b a->ZO (a.map V.int) b:=by intro _ _ h;induction h with
 | nil=>exact .nil
 | cons n t _ c=>exact .cons ⟨t,rfl⟩ c
def LP(H:Hp):Prop:=∀ b,H b=none\/∃ o a,H b=some (.frz o (.lst a))
def ZKe{P:al}{w:ar}{K:zZ}{M Z:jb}{CX:WR}{k:Nat}{S a:aj}{fd:am}{x:Str}{sp:Sp}{c:ak}{y:jd}{N:jz}(KX:K.In c.heap)(G:c.heap.Ns ao M)(g:c.heap.Ns builtinsNs Z)(U:∀ x:Str,x ≠ "__name__"->Z x=ax x)(E:c.heap.NoLimit)(hg:c.gens=#[])(Q:c.heap.get? a=some { cls:=.type "list",data:=.seq y.toArray })(hi:IntsAre y N)(hl:N.length<=ap)(hr:ZW k callerA)(F:∀ i:aC,K.In i->i.Ns ao M->ZI P w K M i CX k S fd [x] sp)(t:∀ (s:ak) (u:ai),BindsTo s fd ⟨[u],[]⟩ [(x,u)])(Y:∀ H:Hp,LP H->ZH K H a (N.map V.int)->sp [.ref a] H (λv _=>v=.bl true) λ_ _ _=>False)(T:∀ H e j,CX [] H c (λ_ _ _=>False) e j->False):
  aF (az P w) callerA (.call (.ref S) ⟨[.ref a],[]⟩) (λr j=>r=.ok (.ret (.bool true))/\OldK c.heap j.heap/\j.os=c.os/\AllBare j.gens) c:=by
 have rv:=N4 hi;have L:=hi.length;have p:∀ H:Hp,LP H->ZH K H a (N.map V.int)->YG P w H c.heap->(∀ b,H b≠none->b=a)->(H a≠none->K.lookup a=none) ->
   aF (az P w) callerA (.call (.ref S) ⟨[.ref a],[]⟩) (λr j=>r=.ok (.ret (.bool true))/\OldK c.heap j.heap/\j.os=c.os/\AllBare j.gens) c:=by
  intro H hO hS I hA hK;have f:∀{b:aj}{o:aH},c.heap.get? b=some o->H b=none->(VS c.heap H).get? b=some o:=λe n=>Iz e n;have a0:∀{b:aj}{o:aH}{C:Array DictEntry}{B:Nat},c.heap.get? b=some o->o.data=.dict C B->H b=none:=fun{b o C B} e d=>by
   cases q:H b with
   | none=>rfl
   | some u=>
    have R:b=a:=hA b (by rw[q];simp)
    subst R;rw[Q] at e;cases e;have d':Data.seq y.toArray _=Data.dict C B:=d;cases d'
  have l:∀{b:aj}{m:jb},c.heap.Ns b m->(VS c.heap H).Ns b m:=fun{b m} ⟨o,C,B,e,d,r⟩=>⟨o,C,B,f e (a0 e d),d,r⟩;have D:K.In (VS c.heap H):=λb o e=>f (KX b o e) (by
   cases q:H b with
   | none=>rfl
   | some u=>
    have R:b=a:=hA b (by rw[q];simp)
    subst R;rw[hK (by rw[q];simp)] at e;cases e)
  have hM:Mod K M (VS c.heap H):=⟨D,l G,⟨Z,l g,U⟩,let ⟨mc,h1,h2⟩:=E;⟨mc,l h1,h2⟩⟩;have e0:WJ P w K M (VS c.heap H) callerA [] c H:=⟨rfl,hM,λb o e=>Io e,wD (FB _ _),trivial,λb g=>absurd (show b∈([]:ju) from g) (by simp),I,.of_eq hg⟩
  refine codeAny_mono ((F _ D (l G)).run callerA [] c H ⟨[.ref a],[]⟩ [.ref a] [.ref a] _ _ hr e0 (t c (.ref a)) (.cons rfl .nil) (Y H hO hS)) λr j h=>?_
  cases r with
  | error e=>exact(T H e j h).elim
  | ok fl=>
   cases fl with
   | next=>exact False.elim h
   | brk=>exact False.elim h
   | cont=>exact False.elim h
   | ret u=>
    obtain⟨v,H',os,A,un,J,r',q⟩:=h;have q':v=.bl true:=q;subst q';obtain rfl:u=Value.bool true:=r';refine⟨rfl,OldK.of_keep λb o e=>?_,os,A⟩
    cases q:H b with
    | none=>exact un.keep b o e q (by intro z;exact absurd (show b∈([]:ju) from z) (by simp)) (by simp)
    | some u=>
     rcases hO b with z | ⟨ob,xs,z⟩
     ·rw[q] at z;cases z
     ·have z2:=un.frzs b ob _ z;obtain⟨e1,_⟩:=I b _ z;obtain⟨e2,_⟩:=J b _ z2;rw[e] at e1;cases e1;exact e2
 cases X:K.lookup a with
 | some o=>
  have e:=KX a o X;rw[Q] at e;cases e;refine p (λ_=>none) (λ_=>.inl rfl) (.inr ⟨_,y.toArray,_,X,rfl,rfl,rfl,by rw[zN,L];exact hl,by simpa using rv⟩) (λb u z=>by have O:(none:Option HO)=some u:=z;cases O) (λb z=>absurd rfl z) λz=>absurd rfl z
 | none=>
  refine p (λb=>if b=a then some (.frz { cls:=.type "list",data:=.seq y.toArray } (.lst (N.map V.int))) else none) (λb=>?_) (.inl (.inr ⟨{ cls:=.type "list",data:=.seq y.toArray },aO rfl⟩)) (λb u z=>?_) (λb z=>?_) λ_=>X
  ·by_cases g:b=a
   ·exact .inr ⟨_,_,aO g⟩
   ·exact .inl (aM g)
  ·by_cases g:b=a
   ·have O:=(aO g).symm.trans z;cases O;subst g;exact⟨Q,by rw[zX];exact hl,y,_,rv,Q⟩
   ·have O:=(aM g).symm.trans z;cases O
  ·by_cases g:b=a
   ·exact g
   ·exact absurd (aM g) z
abbrev KOf{K:zZ}{h:aC}(_:K.In h):zZ:=K
def ZOp{l:uS}{n k:Nat}{q:al}{loose:jr}{XP:(jb)->aC->Prop}{YP:ar->aC->Prop}{d:DefRec}{K:Params->zZ}{CX:ar->WR}{sp:ar->Sp}{x:Str}(hn:l.most=some n)(hn2:n<=ap)(hdf:d.params.defaults=[])(hr:ZW k callerA)(hY:∀ (w:ar) (h:aC),YP w h->(K w.params).In h)(F:∀ (w:ar) (m:jb) (t:aj) (h:aC),(K w.params).In h->h.Ns ao m->m d.name=some (.ref t) ->
   ∃ z:am,(∀ (s:ak) (u:ai),BindsTo s z ⟨[u],[]⟩ [(x,u)]) /\
    ∀ c:aC,(K w.params).In c->c.Ns ao m->ZI l.prog w (K w.params) m c (CX w) k t z [x] (sp w))(hsp:∀ (w:ar) (H:Hp) (a:aj) (y:jz),y.length<=n->LP H->ZH (K w.params) H a (y.map V.int)->sp w [.ref a] H (λv _=>v=.bl true) λ_ _ _=>False)(hCX:∀ (w:ar) (H:Hp) (s:ak) (e:ai) (B:ak),CX w [] H s (λ_ _ _=>False) e B->False):
  tZ q loose XP YP l.row.toRowW d [] (λf E=>PySem.call f E):=by
 refine Att.attach_call hn hdf λw D r m U t o X Q I a E y G Y S R O A p j i P=>?_;have C:=hY w _ Y;obtain⟨z,N,J⟩:=F w m t _ C G.T.g A;exact ZKe C G.T.g G.T.b G.T.builtins G.T.nolimit P p j (zI i hn2) hr J N (λH L M=>hsp w H a y i L M) λH e B=>hCX w H r e B
def Xf(s:aB)(j:Nat):Stmt:=match s with
 | .ClassDef _ _ _ a _ _ _ _ _ _ _=>a.getD j (.Pass ⟨0,0,0,0⟩)
 | _=>.Pass ⟨0,0,0,0⟩
def VE(s:aB):Arguments:=match s with
 | .FunctionDef _ a _ _ _ _ _ _ _ _=>a
 | _=>{ posonlyargs:=[],args:=[],vararg:=none,kwonlyargs:=[],kw_defaults:=[],kwarg:=none,defaults:=[] }
def XM(s:aB):List Stmt:=match s with
 | .FunctionDef _ _ b _ _ _ _ _ _ _=>b
 | _=>[]
def Zc(s:aB):Scope:=match s with
 | .FunctionDef _ _ _ _ _ _ a _ _ _=>a
 | _=>{ kind:=.function,names:=[],isGenerator:=false,isCoroutine:=false }
abbrev ZZ:WR:=λ_ _ _ _ _ _=>False
abbrev E0:XK:=λ_ _ _=>False
def Yu{X:Cx}:Wx ZZ X E0:=λ_ _ _ _ _ _ _ h=>h.elim
structure Zj(K:zZ)(x qual:Str)(st:aB)(f:aj)(fd:am):Prop where
 ex:∃(oc:ai)(od:jv)(kV doc pm:ai)(an:jv)(cdv ct:ai)(osl:Array (jc)),
  fd=yI x qual (VE st) (XM st) (Zc st) .none kV doc pm an cdv ct/\K.lookup f=some ⟨oc,od,.func fd,osl⟩/\xR K cdv qual=true
 kp:yU K (.ref f)=true
def Zj.ok{x b:Str}{g:aB}{f:aj}{o:am}{N m:jr}{k:Nat}{n:Sp}(F:Zj K x b g f o)(S:ZA N m (Zc g))(l:∀ e H Q E,n e H Q E->e.length=m.length)(d:∀ (c:ai) (A:aw) (a:jA) (s:ak) (H:Hp) (e:je) (Q:VK) (E:XK),ZW k (A.deeper (envOfC b (Zc g) s.heap.objs.size f c))->n e H Q E ->
   let X:=(Wu ZZ P w K mg jV N b (Zc g) f c A a s H E).nox;∃ t,WC X (XM g) t/\t { nx:=λ_ p=>Q .non p,rt:=Q } (start N e) H):ZI P w K mg jV ZZ (k+1) f o m n:=by
 obtain⟨B,C,kV,r,D,z,c,ct,y,rfl,v,i⟩:=F.ex;refine Mf v i S l λA a s H e Q E u j=>?_;obtain⟨t,h,q⟩:=d c A a s H e Q E u j;exact⟨t,h.nox,q⟩
def Zj.ko{x a:Str}{g:aB}{f:aj}{m:am}{N j:jr}{k:Nat}{l:Sp}(F:Zj K x a g f m)(S:ZA N j (Zc g))(b:∀ (e:ai) (A:aw) (c:jA) (s:ak) (H:Hp) (d:je) (Q:VK) (E:XK),ZW k (A.deeper (envOfC a (Zc g) s.heap.objs.size f e))->l d H Q E ->
   let X:=(Wu ZZ P w K mg jV N a (Zc g) f e A c s H E).nox;∃ t,WC X (XM g) t/\t { nx:=λ_ n=>Q .non n,rt:=Q } (start N d) H)(i:∀ d H Q E,l d H Q E->d.length=j.length:=by intro d _ _ _ h;cases h;subst d;rfl):ZI P w K mg jV ZZ (k+1) f m j l:=F.ok S i b
def Zj.binds{x a:Str}{d:aB}{f:aj}{k:am}{i:jr}(F:Zj K x a d f k)(h:∀ (kV c g:ai) (e:jv) (b ct:ai) (j:jd),j.length=i.length->bindArgs (yI x a (VE d) (XM d) (Zc d) .none kV c g e b ct) ⟨j,[]⟩=pure (i.zip j)):Zx K k i []:=by
 obtain⟨o,p,kV,c,g,e,b,ct,m,rfl,n,l⟩:=F.ex;exact .all (h kV c g e b ct)
def Wy{x a:Str}{st:aB}{f:aj}{i:ai}{j g:jv}{e:Array (jc)}{kV d h b ct:ai}(l:K.lookup f=some ⟨i,j,.func (yI x a (VE st) (XM st) (Zc st) .none kV d h g b ct),e⟩)(c:xR K b a=true)(k:yU K (.ref f)=true):Zj K x a st f (yI x a (VE st) (XM st) (Zc st) .none kV d h g b ct):=⟨⟨i,j,kV,d,h,g,b,ct,e,rfl,l,c⟩,k⟩
def Wj{A:aw}{k:Nat}(a:ZW k A):A.units+1<cLine:=xP (Nat.add_le_add_left (by decide:1<=64) _) a.units
def YQ{n:Nat}(h:n<=1000):n<sizeLine:=xP h (by decide)
def pv(i:Nat){x:Str}{b:aI}(c:X.N[i]? = some x:=by rfl)(e:Nw X.env.scope x:=by first | exact Or.inl rfl | exact Or.inr (Or.inl rfl) | exact Or.inr (Or.inr rfl))(d:(x==("__debug__" : Str))=false:=by decide)(a:(x==("__classdict__" : Str))=false:=by decide):PE X (.Name x b) (Uu i):=Jw c e d a
def Zl{A B:Prop}(h:B):if false=true then A else B:=by
 rw[aM zV];exact h
def Z8{A B:Prop}(h:A):if true=true then A else B:=by
 rw[aO rfl];exact h
def WV{c A B:Prop}[Decidable c](a:c->A)(b:¬ c->B):if c then A else B:=by
 by_cases h:c
 ·rw[aO h];exact a h
 ·rw[aM h];exact b h
def Of{c A B:Prop}[Decidable c](a:c)(h:B):if (!decide c)=true then A else B:=by
 rw[aK a];exact Zl h
def ZC(H a:Hp):Prop:=∀ b o,H b=some o->a b=some o
def ZC.refl(H:Hp):ZC H H:=λ_ _ h=>h
def ZC.trans{H d e:Hp}(a:ZC H d)(b:ZC d e):ZC H e:=λc o h=>b c o (a c o h)
def ZC.free{H a:Hp}(e:ZC H a){l:aj}(h:a l=uD):H l=uD:=by
 cases q:H l with
 | none=>rfl
 | some o=>
  rw[e l o q] at h;cases h
def ZC.seq{K:zZ}{H b:Hp}{a:aj}{c:je}(e:ZC H b)(h:ZH K H a c):ZH K b a c:=by
 rcases h with (h | ⟨o,h⟩) | h
 ·exact .inl (.inl (e _ _ h))
 ·exact .inl (.inr ⟨o,e _ _ h⟩)
 ·exact .inr h
section
variable{R:Result->ak->Prop}
def Gy{elt target iter:Expr}{ifs:jy}{scope:aD}{pos:aI}{it acc:ai}{env:Env}(I:Nat->ak->Prop)(turn:∀ n s,I n s->aA (az prog w) A (pyNext it) (λr d=>match r with
   | none=>R (.ok .next) d
   | some v=>aA (az prog w) A (letOwnedTupleGo target it v) (λ_ j=>aA (az prog w) A (assign target env v) (λ_ k=>
     aA (az prog w) A (forIn ifs true λc r=>if r=true then do let y<-isTrue c env (aG c env);pure (ForInStep.yield y) else pure (ForInStep.yield r)) (λy f=>
      if y=true then aA (az prog w) A (aG elt env) (λx l=>
       aA (az prog w) A (call (.builtin "list.append") [acc,x]) (λ_ o=>∃ m,m<n/\I m o) (notedBy (az prog w) A env λe b=>R (.error e) b) l) (notedBy (az prog w) A env λe b=>R (.error e) b) f
      else ∃ m,m<n/\I m f) (notedBy (az prog w) A env λe b=>R (.error e) b) k) (notedBy (az prog w) A env λe b=>R (.error e) b) j) (notedBy (az prog w) A env λe b=>R (.error e) b) d) (notedBy (az prog w) A env λe b=>R (.error e) b) s)(n:Nat)(h:I n s):
  aF (az prog w) A (.compLoop (.ListComp elt [⟨target,iter,ifs,0⟩] scope pos) 0 it acc env) R s:=by
 refine codeAny_loop rfl I (λn s z=>?_) n h;show aA _ A ((compTurn (.ListComp elt [⟨target,iter,ifs,0⟩] scope pos) 0 it acc env).onRaise (λx=>do noteFrame x env;theTreesLotGoes x)) _ _ s
 refine wpAny_noted ?_;rw[compTurn_list];refine aa (ah (aa (ae (turn n s z) (λr d g=>?_) λ_ _ a=>a)))
 cases r with
 | none=>exact ad g
 | some v=>
  refine aa (ae g (λ_ j p=>?_) λ_ _ a=>a);refine aa (ae p (λ_ k q=>aa (ae q (λy f i=>?_) λ_ _ a=>a)) λ_ _ a=>a)
  cases y with
  | false=>exact ad ⟨rfl,i⟩
  | true=>
   exact aa (aa (ae i (λx l t=>aa (ae t (λ_ o u=>ad (ad ⟨rfl,u⟩)) λ_ _ a=>a)) λ_ _ a=>a))
end
def XZ(b:Env)(l:List (Str×NameKind)):jC->jC:=λa=>l.foldl (λa p=>if p.2==.free then (p.1,(b.cells.lookup p.1).getD 0)::a else a) a
def Ou(a:Env)(l:List (Str×NameKind)):Prop:=∀ p∈l,p.2=.free->∃ c,a.cells.lookup p.1=some c
def My{b:Env}{d:aD}(h:Ou b d.names):closureFor d b=pure (XZ b d.names []):=by
 have i:∀(l:List (Str×NameKind))(f:jC),Ou b l->(forIn l f λx r=>if (x.2==.free)=true then do let a<-cellOf b x.1;pure (ForInStep.yield ((x.1,a)::r)) else pure (ForInStep.yield r):Sem (jC))=pure (XZ b l f):=by
  intro l
  induction l with
  | nil=>intro f _;rfl
  | cons p r n=>
   intro f j;have e:XZ b (p::r) f=XZ b r (if p.2==.free then (p.1,(b.cells.lookup p.1).getD 0)::f else f):=rfl
   rw[List.forIn_cons,e]
   cases o:(p.2==NameKind.free) with
   | true=>
    obtain⟨c,m⟩:=j p zF (eq_of_beq o);have g:cellOf b p.1=pure c:=by unfold cellOf;rw[m]
    simp only[if_true,g,pure_bind];rw[n _ λq k=>j q (zD _ k),m];rfl
   | false=>
    simp only[vW,if_false,pure_bind];exact n _ λq k=>j q (zD _ k)
 have:=i d.names [] h;simpa [closureFor] using this
def GP{a:Env}:∀{l:List (Str×NameKind)}{b:jC}{x:Str}{c:aj},Ou a l->(XZ a l b).lookup x=some c->b.lookup x=some c\/a.cells.lookup x=some c
 | [],_,_,_,_,h=>.inl h
 | p::r,b,x,c,hf,h=>by
  have i:(XZ a r (if p.2==.free then (p.1,(a.cells.lookup p.1).getD 0)::b else b)).lookup x=some c:=h
  rcases GP (λq j=>hf q (zD _ j)) i with q | q
  ·cases f:(p.2==NameKind.free) with
   | true=>
    rw[f,aO rfl,xM] at q
    cases e:x==p.1 with
    | true=>
     rw[e] at q;obtain⟨d,g⟩:=hf p zF (eq_of_beq f);refine .inr ?_;rw[eq_of_beq e,g];rw[g] at q;exact q
    | false=>
     rw[e] at q;exact .inl q
   | false=>
    rw[f,aM zV] at q;exact .inl q
  ·exact .inr q
def Hl{a:Env}{x:Str}:∀{l:List (Str×NameKind)}{b:jC},(b.lookup x).isSome=true->((XZ a l b).lookup x).isSome=true
 | [],_,h=>h
 | p::r,b,h=>by
  show ((XZ a r (if p.2==.free then (p.1,(a.cells.lookup p.1).getD 0)::b else b)).lookup x).isSome=true
  refine Hl ?_
  cases c:(p.2==NameKind.free) with
  | true=>
   rw[aO rfl,xM]
   cases e:x==p.1 with
   | true=>rfl
   | false=>exact h
  | false=>rw[aM zV];exact h
def IU{a:Env}{x:Str}:∀{l:List (Str×NameKind)}{b:jC},(x,NameKind.free)∈l->((XZ a l b).lookup x).isSome=true
 | [],_,h=>by cases h
 | p::r,b,h=>by
  show ((XZ a r (if p.2==.free then (p.1,(a.cells.lookup p.1).getD 0)::b else b)).lookup x).isSome=true
  rcases yZ.mp h with e | h
  ·subst e;refine Hl ?_;show (xO x ((x,(a.cells.lookup x).getD 0)::b)).isSome=true;rw[xM,beq_self_eq_true];rfl
  ·exact IU h
def YH(a:Env)(b:jC):Prop:=∀ x c,b.lookup x=some c->a.cells.lookup x=some c
def YH.get{a:Env}{b:jC}{x:Str}{c:aj}(h:YH a b)(e:b.lookup x=some c):a.cells.lookup x=some c:=h x c e
def M0{a:Env}{l:List (Str×NameKind)}(h:Ou a l):YH a (XZ a l []):=λx c e=>by
 rcases GP h e with q | q
 ·cases q
 ·exact q
def Gv{env:Env}:∀{names:List (Str×NameKind)}{x:Str},names.lookup x=some .free ->
  (names.map fun(n,k)=>if (k==NameKind.free&&env.scope.kind==.function&&env.kindOf n==some .cell) then (n,NameKind.cell) else (n,k)).lookup x=some .cell \/
  (names.map fun(n,k)=>if (k==NameKind.free&&env.scope.kind==.function&&env.kindOf n==some .cell) then (n,NameKind.cell) else (n,k)).lookup x=some .free
 | [],_,h=>by simp at h
 | (n,k)::r,x,h=>by
  rw[xM] at h;simp only[yS]
  cases a:x==n with
  | true=>
   rw[a] at h;cases h;split
   ·exact .inl (by rw[xM,a])
   ·exact .inr (by rw[xM,a])
  | false=>
   rw[a] at h;have b:=Gv (env:=env) h;split
   ·rw[xM,a];exact b
   ·rw[xM,a];exact b
def Je{env:Env}:∀{names:List (Str×NameKind)}{x:Str},(∀ y∈names,y.2≠.cell) ->
  ((names.map fun(n,k)=>if (k==NameKind.free&&env.scope.kind==.function&&env.kindOf n==some .cell) then (n,NameKind.cell) else (n,k)).lookup x=some .cell \/
  (names.map fun(n,k)=>if (k==NameKind.free&&env.scope.kind==.function&&env.kindOf n==some .cell) then (n,NameKind.cell) else (n,k)).lookup x=some .free)->(x,NameKind.free)∈names
 | [],_,_,h=>by simp at h
 | (n,k)::r,x,hc,h=>by
  have e:∀ y∈r,y.2≠.cell:=λy f=>hc y (zD _ f);simp only[yS] at h
  cases b:x==n with
  | true=>
   have c:=eq_of_beq b;subst c;by_cases a:k=.free
   ·subst a;exact zF
   ·have d:(k==NameKind.free)=false:=by simpa using a
    simp only[d,uY,vW,if_false,xM,beq_self_eq_true] at h;rcases h with h | h
    ·exact absurd (zH.inj h) (hc _ zF)
    ·exact absurd (zH.inj h) a
  | false=>
   refine zD _ (Je (env:=env) e ?_);split at h
   ·simpa only [xM,b] using h
   ·simpa only [xM,b] using h
def Z0(X:Cx)(a:aD):jo->jr->Prop
 | [],[]=>True
 | i::is,y::ys=>X.N[i]? = some y/\(X.env.kindOf y=some .cell\/X.env.kindOf y=some .free)/\a.names.lookup y=some .free/\Z0 X a is ys
 | _,_=>False
def Z0.len{X:Cx}{a:aD}:∀{b:jo}{c:jr},Z0 X a b c->b.length=c.length
 | [],[],_=>rfl
 | _::_,_::_,h=>congrArg (· + 1) h.2.2.2.len
def Z0.get{X:Cx}{a:aD}:∀{b:jo}{c:jr}{j:Nat}{y:Str},Z0 X a b c->c[j]? = some y ->
  ∃ i,b[j]? = some i/\X.N[i]? = some y/\(X.env.kindOf y=some .cell\/X.env.kindOf y=some .free)/\a.names.lookup y=some .free
 | [],[],_,_,_,h=>by simp at h
 | i::_,z::_,0,y,f,h=>by
  simp at h;subst h;exact⟨i,rfl,f.1,f.2.1,f.2.2.1⟩
 | _::b,_::c,j+1,y,f,h=>by
  obtain⟨i,e,r⟩:=Z0.get (j:=j) f.2.2.2 (by simpa using h)
  exact⟨i,by simpa using e,r⟩
def YX(X:Cx)(N:jr)(a:aD)(b:jC)(C:aj)(s:ak)(H:Hp)(c:ju)(E:ja):Cx where
 prog:=X.prog
 w:=X.w
 K:=X.K
 mg:=X.mg
 base:=X.base
 A:=X.A
 N:=N
 s₀:=s
 H₀:=H
 env:=compEnvC a b C X.env
 outer:=X.stack
 stack:=X.stack
 ex:=c
 fn:=λ_=>false
 calm:=X.calm
 pn:=[]
 xe:=E
def Gs(b:St)(a:jo):St:=none::a.map λi=>(b[i]?).join
def OX(b:St)(a:jo)(x:V):St:=some x::a.map λi=>(b[i]?).join
def Qp(X:Cx)(b:jy)(e:TT):Prop:=
 ∀(a:js)(s:ak)(d:St)(H:Hp)(Q:Bool->Hp->Prop),ZF X a d H s->e d H Q ->
  aA (az X.prog X.w) X.A (forIn b true λc r=>if r=true then do let ok<-isTrue c X.env (aG c X.env);pure (ForInStep.yield ok) else pure (ForInStep.yield r)) (TP X a d Q) X.xe s
def LX:TT:=λ_ H Q=>Q true H
def UG{X:Cx}:Qp X [] LX:=λ_ _ _ H _ I h=>wpAny_tests_nil ⟨H,I,h⟩
def NN{X:Cx}{c:Expr}{t:TT}(h:PT X c t):Qp X [c] t:=λa s d H Q I b=>wpAny_tests_one (h a s d H Q I b)
def Wg(J:It)(j:St)(h:jo)(l:TT)(k:TE)(e:Hp)(Q:VK):Prop:=
 ∀ D,e D=none->∃ W:Nat->Nat->Hp->Prop,(∃ m,W 0 m (upd e D (.lst [])))/\∀ i m H,W i m H ->
  (J.stop i H/\Q (.ref D) H)\/(J.go i H/\∀ x d,J.yld i H x d->l (OX j h x) d λc f=>
   if c=true then k (OX j h x) f λy g=>∃ b a,g D=some (.lst b)/\b.length<ap/\a<m/\W (i+1) a (upd g D (.lst (b++[y])))
   else ∃ a,a<m/\W (i+1) a f)
def JE(f:TI)(c:jo)(e:TT)(d:TE):TE:=λa H Q=>f a H λJ b=>Wg J a c e d b Q
section
variable{jU:js}{σ:St}{H:Hp}
def EO{b:jo}{j:Nat}{v:V}(h:(b.map λi=>(σ[i]?).join)[j]? = some (some v)):∃ i,b[j]? = some i/\σ[i]? = some (some v):=by
 rw[zJ] at h
 cases e:b[j]? with
 | none=>rw[e] at h;cases h
 | some i=>
  rw[e] at h;have a:(σ[i]?).join=some v:=zH.inj h;exists i,rfl
  cases q:σ[i]? with
  | none=>rw[q] at a;cases a
  | some o=>
   rw[q] at a
   cases o with
   | none=>cases a
   | some z=>cases a;rfl
def Oe(a:Env)(l:List (Str×NameKind)):Bool:=l.all λp=>!(p.2==.free) || a.kindOf p.1==some .cell || a.kindOf p.1==some .free
def K7{X:Cx}{l:List (Str×NameKind)}(a:X.Ok)(h:Oe X.env l=true):Ou X.env l:=λp c b=>by
 have q:=zK.mp h p c;rw[b] at q;have d:(X.env.kindOf p.1==some .cell || X.env.kindOf p.1==some .free)=true:=by simpa using q
 rcases Bool.or_eq_true_iff.mp d with q | q
 ·exact a.has p.1 (.inl (eq_of_beq q))
 ·exact a.has p.1 (.inr (eq_of_beq q))
def Ph(a:aD)(x:Str):Bool:=a.kind==.function&&a.names.lookup x==some .local&&a.names.all (λp=>!(p.2==.cell))&&a.names.all (λp=>!(p.2==.local) || a.names.lookup p.1==some .local)
structure Qe(scope:aD)(x:Str):Prop where
 kind:scope.kind=.function
 own:scope.names.lookup x=some .local
 cell:∀ y∈scope.names,y.2≠.cell
 names:∀ y∈scope.names,y.2=.local->scope.names.lookup y.1=some .local
def NP{a:aD}{x:Str}(h:Ph a x=true):Qe a x:=by
 unfold Ph at h;rw[zT,zT,zT] at h;obtain⟨⟨⟨c,d⟩,e⟩,f⟩:=h;refine⟨eq_of_beq c,eq_of_beq d,λy b z=>?_,λy b z=>?_⟩
 ·have:=zK.mp e y b;rw[z] at this;cases this
 ·have:=zK.mp f y b;rw[z] at this;have q:(a.names.lookup y.1==some NameKind.local)=true:=by simpa using this
  exact eq_of_beq q
def K9{a:aD}{b:Env}(d:∀ y∈a.names,y.2≠.cell)(y:Str)(h:(relabel a b).names.lookup y=some .cell\/(relabel a b).names.lookup y=some .free):∃ c,(XZ b a.names []).lookup y=some c:=
 sN.mp (IU (Je d h))
def Hn(i:Nat)(t:TE):TS:=λD σ H=>t σ H λv a=>D.nx (σ.set i (some v)) a
end
def N6(b:jr)(c:St)(a:jo):St:=b.map (λ_=>(none:jf))++a.map λi=>(c[i]?).join
def Nl(J:It)(k:Nat)(g:TG)(p:St)(n:jo)(s:TT)(r:TE)(h:Hp)(Q:VK):Prop:=
 ∀ D,h D=none->∃ W:Nat->Nat->Hp->Prop,(∃ m,W 0 m (upd h D (.lst [])))/\∀ i m H,W i m H ->
  (J.stop i H/\Q (.ref D) H)\/(J.go i H/\∀ x f,J.yld i H x f->∀ o:St,o.length=k->g x (o++n.map λi=>(p[i]?).join) f λa q=>(∃ d:St,d.length=k/\a=d++n.map λi=>(p[i]?).join)/\s a q λc j=>
   if c=true then r a j λy l=>∃ e b,l D=some (.lst e)/\e.length<ap/\b<m/\W (i+1) b (upd l D (.lst (e++[y])))
   else ∃ b,b<m/\W (i+1) b j)
def Ik(k:Nat)(g:TG)(f:TI)(c:jo)(e:TT)(d:TE):TE:=λa H Q=>f a H λJ b=>Nl J k g a c e d b Q
section
variable{jU:js}{σ:St}{H:Hp}
def Hu{xs J:jr}{G:jo}{a:aD}{K:jC}{fp:ju}{E:ja}{g:aC}{D C n tk:Nat}{m:jb}(I:ZF X jU σ H s)(M:∀ b∈fp,Wf X jU H b/\b<s.heap.objs.size)(f:YH X.env K)(A:a.kind=.function)(t:∀ y,((relabel a X.env).names.lookup y=some .cell\/(relabel a X.env).names.lookup y=some .free)->∃ c,K.lookup y=some c)(Z:Z0 X a G J)(L:s.heap.objs.size<=D)(Q:s.heap.objs.size<=C)(R:D≠C)(S:g.Ns C m)(k:∀ b o,s.heap.get? b=some o->g.get? b=some o)(hd:g.get? D=some { cls:=.type "list",data:=.seq ([]:jd).toArray n }):
  ZF (YX X (xs++J) a K C s H fp E) [] (N6 xs σ G) (upd H D (.lst [])) { s with heap:=g,toks:=tk }:=by
 have d:∀ y c,K.lookup y=some c->c<s.heap.objs.size:=λy c e=>by
  obtain⟨v,q⟩:=I.cell y c (f.get e);exact q.lt
 refine⟨⟨I.ok.mod,A,I.ok.glob,I.ok.blt,Q,λy z c h1 h2=>I.ok.inj y z c (f.get h1) (f.get h2),t,λy c h _=>absurd h (by simp[YX]),I.ok.hd,I.ok.frames,.inl rfl,λb F=>⟨?_,λy c e=>?_⟩,I.bs,zI I.ok.bsz I.sz,λb o e F=>?_,λb F z=>?_,I.stack,I.stkFree⟩,
  rfl,I.bare,Un.laid k L (I.hok.fresh L),⟨m,S,λj y v e1 Y B=>?_⟩,λy c e=>?_,?_,λy c e=>?_,λp hp=>absurd (show p∈([]:js) from hp) (by simp),I.hok.laid k L ?_,?_⟩
 ·exact zO (yQ (M b F).2 Q)
 ·exact(M b F).1.2.2.2.2.1 y c (f.get e)
 ·obtain⟨_,_,_,z,_⟩:=(M b F).1;rcases z with z | z
  ·exact I.ok.noex b o e z
  ·exact absurd (yQ (zW (I.ok.bs b o e).1) z) (xE _)
 ·obtain⟨_,z1,z2,_⟩:=(M b F).1;rcases yZ.mp (I.stkSub b z) with q | q
  ·exact z1 q
  ·exact z2 q
 ·by_cases N:j<xs.length
  ·exfalso
   have B:(xs.map (λ_=>(none:jf))++G.map λi=>(σ[i]?).join)[j]? = some (some v):=Y;rw[wS (by rw[zX];exact N),zJ,zU N] at B
   cases B
  ·have W:(xs++J)[j]? = some y:=e1;have O:J[j-xs.length]? = some y:=by rw[wR (uW N)] at W;exact W
   have B:(xs.map (λ_=>(none:jf))++G.map λi=>(σ[i]?).join)[j]? = some (some v):=Y;have P:(G.map λi=>(σ[i]?).join)[j-xs.length]? = some (some v):=by
    rw[wR (by rw[zX];exact uW N),zX] at B
    exact B
   obtain⟨i,q1,q2⟩:=EO P;obtain⟨i',p1,p2,w,U⟩:=Z.get O;rw[q1] at p1;cases p1;have p4:(relabel a X.env).names.lookup y=some .cell\/(relabel a X.env).names.lookup y=some .free:=Gv U;obtain⟨c,p5⟩:=t y p4;obtain⟨m0,a0,hl⟩:=I.loc;obtain⟨u,r,l⟩:=hl i y v p2 q2 (.inr w);refine⟨u,r,.inr ⟨p4,c,p5,?_⟩⟩;rcases l with ⟨l1,_⟩ | ⟨_,c',l2,l3⟩
   ·rcases w with w | w
    ·rw[l1] at w;cases w
    ·rw[l1] at w;cases w
   ·rw[f.get p5] at l2;cases l2;obtain⟨o,T,x⟩:=l3;exact⟨o,k _ _ T,x⟩
 ·obtain⟨v,o,T,x⟩:=I.cell y c (f.get e);exact⟨v,o,k _ _ T,x⟩
 ·show upd H D (.lst []) C=none;rw[ZM (Ne.symm R)];exact I.hok.fresh Q
 ·show upd H D (.lst []) c=none;rw[ZM (zO (yQ (d y c e) L))];exact I.freeC y c (f.get e)
 ·exact⟨yX _,[],n,.nil,hd⟩
 ·show (N6 xs σ G).length=(xs++J).length;unfold N6;rw[zE,zX,zX,Z.len,zE]
def IK(k:Nat)(c:jo)(σ a:St):Prop:=∃ b:St,b.length=k/\a=b++c.map λi=>(σ[i]?).join
inductive Mr(Y:Cx)(k:Nat)(f:jo)(σ:St)(g:Nat->aC->Prop)(e:ju)(W:Nat->Nat->Hp->Prop)(n:Nat)(d:ak):Prop
 |mk(i:Nat)(a:St)(c:Hp):ZF Y [] a c d->IK k f σ a->g i d.heap->(∀ b∈e,c b=none)->W i n c->Mr Y k f σ g e W n d
def GN{elt iter tg:Expr}{xs:jr}{g:TG}{ifs:jy}{scope:aD}{cl:jC}{pos:aI}{ix:jo}{ys:jr}{tt:TT}{te:TE}{it:aj}{fp:ju}{tn:Nat->aC->Prop}{J:It}{Q:VK}{E:ja}{RR:ai->aj->Result->ak->Prop}(hc:X.calm=true)(hg:∀ C s H fp E,PG (YX X (xs++ys) scope cl C s H fp E) tg g)(ht:∀ C s H fp E,Qp (YX X (xs++ys) scope cl C s H fp E) ifs tt)(he:∀ C s H fp E,PE (YX X (xs++ys) scope cl C s H fp E) elt te)(sub:YH X.env cl)(jk:scope.kind=.function)(jn:∀ y∈scope.names,y.2≠.cell)(hhas:∀ y,((relabel scope X.env).names.lookup y=some .cell\/(relabel scope X.env).names.lookup y=some .free)->∃ c,cl.lookup y=some c)(fo:Z0 X scope ix ys)(I:ZF X jU σ H s)(T:VH X.prog X.w X.K tg J fp it tn)(st:tn 0 s.heap)(hf:∀ b∈fp,Wf X jU H b)(q:Nl J xs.length g σ ix tt te H Q)(hRR:∀ D C s' H' m,s.heap.objs.size<=C->ZF X jU σ H' s'->Wf X jU H' C->s'.heap.Ns C m->Q (.ref D) H'->RR (.ref D) C (.ok .next) s'):
  aA (az X.prog X.w) X.A (newList []) (λacc s₃=>aA (az X.prog X.w) X.A (newFunctionEnv scope X.env.globals cl [] X.env.qual none .none (some X.env)) (λcenv s₄=>
   aF (az X.prog X.w) X.A (.compStart (.ListComp elt [⟨tg,iter,ifs,0⟩] scope pos) 0 (.ref it) acc { cenv with scope:=relabel scope X.env }) (RR acc cenv.locals) s₄) E s₃) E s:=by
 refine wpAny_newObj_type (wpAny_newFunctionEnv jn (by intro y hy;simp at hy) (λh₁ hns₁ hsb₁=>?_) jk)
 dsimp only at hns₁ hsb₁⊢;generalize hH2:s.heap.push { cls:=.type "list",dict:=none,data:=.seq ([]:jd).toArray }=H2 at hns₁ hsb₁⊢;have hC:H2.objs.size=s.heap.objs.size+1:=by rw[<-hH2,wB]
 have hDC:s.heap.objs.size≠H2.objs.size:=by rw[hC];exact zO (yE _)
 have hCle:s.heap.objs.size<=H2.objs.size:=by rw[hC];exact xA _
 have below:∀ b,b<s.heap.objs.size->b≠H2.objs.size/\b≠s.heap.objs.size:=λb hb=>⟨by rw[hC];exact zO (vX hb),zO hb⟩
 have old:∀ b o,s.heap.get? b=some o->h₁.get? b=some o:=λb o e=>hsb₁.extBut b o (below b (zW e)).1 (zS _ (hH2 ▸ zS _ e));have hacc:∃ n,h₁.get? s.heap.objs.size=some { cls:=.type "list",data:=.seq ([]:jd).toArray n }:=⟨_,hsb₁.extBut _ _ hDC (zS _ (hH2 ▸ yW _ rfl))⟩;obtain⟨nD,hacc⟩:=hacc;have hf':∀ b∈fp,Wf X jU H b/\b<s.heap.objs.size:=λb hb=>⟨hf b hb,by obtain⟨o,e,_⟩:=T.obj 0 _ st b hb;exact zW e⟩
 have hDn:H s.heap.objs.size=none:=I.hok.fresh (zY _);obtain⟨W,⟨m0,w0⟩,turn⟩:=q _ hDn;generalize hE:notedBy (az X.prog X.w) X.A (compEnvC scope cl H2.objs.size X.env) (λe s'=>RR (.ref s.heap.objs.size) H2.objs.size (.error e) s')=EE;have I0:ZF (YX X (xs++ys) scope cl H2.objs.size s H fp EE) [] (N6 xs σ ix) (upd H s.heap.objs.size (.lst [])) { s with heap:=h₁,toks:=s.toks+([]:jG).length }:=
  Hu I hf' sub jk hhas fo (zY _) hCle hDC hns₁ old hacc
 have st1:tn 0 h₁:=T.keep _ _ _ st λb _ o e=>old b o e;have fr1:∀ b∈fp,upd H s.heap.objs.size (.lst []) b=none:=λb hb=>by rw[ZM (below b (hf' b hb).2).2];exact(hf b hb).1
 have stat:∀{H':Hp},(∀ b∈fp,H' b=none)->∀ b∈fp,Wf (YX X (xs++ys) scope cl H2.objs.size s H fp EE) [] H' b:=λhn b hb=>
  ⟨hn b hb,(I0.ok.exf b hb).1,I0.ok.exfs b hb,.inl hb,(I0.ok.exf b hb).2,λp hp=>absurd (show p∈([]:js) from hp) (by simp)⟩
 have loop:∀ s₃:ak,s₃={ s with heap:=h₁,toks:=s.toks+([]:jG).length } ->
   aF (az X.prog X.w) X.A (.compLoop (.ListComp elt [⟨tg,iter,ifs,0⟩] scope pos) 0 (.ref it) (.ref s.heap.objs.size) (compEnvC scope cl H2.objs.size X.env)) (RR (.ref s.heap.objs.size) H2.objs.size) s₃:=by
  rintro s₃ rfl;refine Gy (Mr (YX X (xs++ys) scope cl H2.objs.size s H fp EE) xs.length ix σ tn fp W) ?_ m0 ⟨0,_,_,I0,⟨_,zX _,rfl⟩,st1,fr1,w0⟩;rintro n s3 ⟨i,σ3,H3,I3,⟨o3,ho3,hσ3⟩,st3,fr3,w3⟩;rw[hE];rcases turn i n H3 w3 with ⟨stop,qn⟩ | ⟨go,step⟩
  ·refine Zt (T.done (YX X (xs++ys) scope cl H2.objs.size s H fp EE) rfl rfl rfl hc i [] s3 σ3 H3 EE I3 (stat fr3) st3 stop) ?_;rintro r s4 ⟨hr,I4⟩;subst hr;obtain⟨m4,hn4,_⟩:=I4.loc;have Ix:ZF X jU σ H3 s4:=I.call' (s':=s4) (ch:=fp) I4.os I4.base I4.hok I4.bare λb hb=>by
    obtain⟨_,z1,_,z3,z4,z5⟩:=hf b hb;exact⟨z3,z1,z4,z5⟩
   exact hRR _ _ s4 H3 m4 hCle Ix (I.fpOk hCle I4.free) hn4 qn
  ·refine Zt (T.item (YX X (xs++ys) scope cl H2.objs.size s H fp EE) rfl rfl rfl hc i [] s3 σ3 H3 EE I3 (stat fr3) st3 go) ?_;rintro r s4 ⟨u,hr,h4⟩;subst hr;refine Zt h4 ?_;rintro _ s5 ⟨xv,H5,I5,r5,y5,st5,fr5⟩;have I5':=I5.pinned (stat fr5) (T.obj _ _ st5);have again:∀{σ7:St}{H7:Hp}{s7:ak}{m':Nat},ZF (YX X (xs++ys) scope cl H2.objs.size s H fp EE) ([]++OV fp s5.heap) σ7 H7 s7->IK xs.length ix σ σ7->m'<n->W (i+1) m' H7 ->
     ∃ m,m<n/\Mr (YX X (xs++ys) scope cl H2.objs.size s H fp EE) xs.length ix σ tn fp W m s7:=fun{σ7 H7 s7 m'} I7 e7 hm w7=>by
    refine⟨m',hm,.mk (i+1) σ7 H7 I7.unpinned e7 (T.keep _ _ _ st5 λb hb o e=>(I7.pin (b,o) (yN _ (yN _ (OG hb e)))).1) (λb hb=>?_) w7⟩;obtain⟨o,e,d⟩:=T.obj _ _ st5 b hb;exact(I7.pin (b,o) (yN _ (yN _ (OG hb e)))).2.1
   have stp:=step xv _ y5 o3 ho3;rw[<-hσ3] at stp;refine Zt (hg _ _ _ _ _ _ s5 σ3 H5 xv u _ I5' r5 stp) ?_;rintro _ s6 ⟨σ6,H6,I6,e6,q6⟩;refine Zt (ht _ _ _ _ _ _ s6 _ _ _ I6 q6) ?_;rintro ok s7 ⟨H7,I7,q7⟩
   cases ok with
   | false=>
    rw[aM zV] at q7⊢;obtain⟨m',hm,w7⟩:=q7;exact again I7 e6 hm w7
   | true=>
    rw[aO rfl] at q7⊢;refine Zt (he _ _ _ _ _ _ s7 _ _ _ I7 q7) ?_;rintro y s8 ⟨yv,H8,I8,r8,ys8,m',e8,z8,hm,w8⟩;refine Zt (UI _ s8 _ H8 (.ref s.heap.objs.size) [yv] (.ref s.heap.objs.size) [y] (λ_ H9=>W (i+1) m' H9) I8 rfl (.cons r8 .nil) ⟨_,ys8,yv,rfl,rfl,e8,z8,w8⟩) ?_;rintro _ s9 ⟨_,H9,I9,_,w9⟩;exact again I9 e6 hm w9
 exact codeAny_compStart_list (loop _ rfl) (T.self _ 0 _ _ _ st1 (loop _ rfl))
def Bh{f c t:Expr}(j:jr)(x:Str){g:TG}{i:jy}{a:aD}{p:aI}{G:TI}{z:TT}{y:TE}(u:jo)(k:jr)(hc:X.calm=true)(hg:∀ C s H d E,PG (YX X (j++k) a (XZ X.env a.names []) C s H d E) t g)(hi:PI X t c G)(ht:∀ C s H d E,Qp (YX X (j++k) a (XZ X.env a.names []) C s H d E) i z)(he:∀ C s H d E,PE (YX X (j++k) a (XZ X.env a.names []) C s H d E) f y)(W:Z0 X a u k)(hk:Oe X.env a.names=true:=by rfl)(n:Ph a x=true:=by rfl)(hs:∀ x,foldedSetIterable c X.env x=pure x:=by intro _;rfl):
  PE X (.ListComp f [⟨t,c,i,0⟩] a p) (Ik j.length g G u z y):=by
 intro jU s σ H Q I h;have B:=NP n;have F:=K7 I.ok hk;rw[eval_ListComp];refine wpAny_comprehension_free (use:=none) rfl hs (My F) B.kind B.names (Zt (hi jU s σ H _ I h) λv s1 Y=>Zt Y λa0 s2 Z=>?_);obtain⟨it,d,tn,J,H2,e,L,T,r,P,q2⟩:=Z;subst e;refine GN (RR:=λl C=>compPost (az X.prog X.w) X.A X.xe none (EP X jU σ Q) l C) hc hg ht he (M0 F) B.kind B.cell (K9 B.cell) W L T r P q2 ?_;intro D C s' K m hC M V hn q;refine⟨m,hn,λh' sb=>⟨.ref D,K,?_,rfl,q⟩⟩;obtain⟨N,O,_,R,S,U⟩:=V;exact M.turned (t':=s'.toks) (λb o n e=>(sb.2 b n).trans e) N O R S U
def Jv{f d u:Expr}(G:jr)(x:Str){g:TG}{y:Str}{p:aI}{j:jy}{c:aD}{l k:aI}{wi:TI}{tt:TT}{te:TE}{i:Nat}(Z:jo)(K:jr)(hN:X.N.Nodup)(O:X.N[i]? = some y)(Y:X.env.scope.names.lookup y=some .local)(hc:X.calm=true)(hg:∀ C s H n E,PG (YX X (G++K) c (XZ X.env c.names []) C s H n E) u g)(hi:PI X u d wi)(ht:∀ C s H n E,Qp (YX X (G++K) c (XZ X.env c.names []) C s H n E) j tt)(he:∀ C s H n E,PE (YX X (G++K) c (XZ X.env c.names []) C s H n E) f te)(fo:Z0 X c Z K)(P:swapsWith (.ListComp f [⟨u,d,j,0⟩] c l) (some (.Name y p)) k.line X.env=pure true:=by rfl)(hk:Oe X.env c.names=true:=by rfl)(M:Ph c x=true:=by rfl)(hs:∀ x,foldedSetIterable d X.env x=pure x:=by intro _;rfl):
  PS X (.Assign [.Name y p] (.ListComp f [⟨u,d,j,0⟩] c l) k) (Hn i (Ik G.length g wi Z tt te)):=by
 intro jU s σ H D I h;have B:=NP M;have F:=K7 I.ok hk;rw[exec_Assign_Name_used _ _ _ _ P];refine aa (ah (aa ?_));show aA _ X.A (do let _<-comprehension (.ListComp f [⟨u,d,j,0⟩] c l) c X.env _ (newList []) false (aG d X.env) (some (assign (.Name y p) X.env))) _ _ s
 refine aa (ae (wpAny_comprehension_free (use:=some (assign (.Name y p) X.env)) (Q:=λ_ t=>SP X jU D .next t) rfl hs (My F) B.kind B.names
  (Zt (hi jU s σ H _ I h) λv s1 h1=>Zt h1 λa0 s2 h2=>?_)) (λ_ t hq=>ad (ad hq)) λ_ _ e=>e)
 obtain⟨it,n,tn,J,H2,e,I2,T,S,f2,q2⟩:=h2;subst e;refine GN (RR:=λL C=>compPost (az X.prog X.w) X.A X.xe (some (assign (.Name y p) X.env)) (λ_ t=>SP X jU D .next t) L C) hc hg ht he (M0 F) B.kind B.cell (K9 B.cell) fo I2 T S f2 q2 ?_;intro U C t H' m hC Ix fC hn q;obtain⟨f0,V,_,f3,W,f5⟩:=fC;show aA _ X.A (assign (.Name y p) X.env (.ref U)) _ _ _;refine wpAny_assign_Name (IC Ix hN O (.inl Y) (v:=.ref U) rfl (λs3 I3 ⟨a,sb,r⟩=>?_) (.inr Y));have ne:C≠a:=by
  rcases r with r | r
  ·rw[r];exact V
  ·exact λz=>W y a r z.symm
 refine⟨m,hn.sameBut sb ne,λh' R=>⟨_,H',?_,q⟩⟩;exact I3.turned (t':=s3.toks) (λb o M e=>(R.2 b M).trans e) f0 V f3 W f5
def KG(K:zZ):TG:=NT K 2 (QA (Uf 0) (QA (Uf 1) IP))
def FH{x y:Str}{h i a:aI}{k:Nat}(g:X.calm=true)(b:X.N.Nodup)(e:X.N[0]? = some x)(f:X.N[1]? = some y)(c:X.env.scope.names.lookup x=some .local)(d:X.env.scope.names.lookup y=some .local):PG X (.Tuple [.Name x h,.Name y i] k a) (KG X.K):=
 Q7 g (Y7 (QX b e (.inl c) (.inr c)) (Y7 (QX b f (.inl d) (.inr d)) Q4))
def AU{x:Str}{q:jr}{p:jo}{a:aD}{g:jC}{l:ju}{E:ja}{d:aC}{D C n z:Nat}{m:jb}(I:ZF X jU σ H s)(w:∀ b∈l,Wf X jU H b/\b<s.heap.objs.size)(j:YH X.env g)(e:a.kind=.function)(f:∀ y,((relabel a X.env).names.lookup y=some .cell\/(relabel a X.env).names.lookup y=some .free)->∃ c,g.lookup y=some c)(r:Z0 X a p q)(u:s.heap.objs.size<=D)(t:s.heap.objs.size<=C)(h:D≠C)(i:d.Ns C m)(k:∀ b o,s.heap.get? b=some o->d.get? b=some o)(v:d.get? D=some { cls:=.type "list",data:=.seq ([]:jd).toArray n }):
  ZF (YX X (x::q) a g C s H l E) [] (Gs σ p) (upd H D (.lst [])) { s with heap:=d,toks:=z }:=
 Hu (xs:=[x]) I w j e f r u t h i k v
def Wg.toT{J:It}{a:jo}{c:TT}{b:TE}{Q:VK}(h:Wg J σ a c b H Q):Nl J 1 (Uf 0) σ a c b H Q:=λD f=>by
 obtain⟨W,e,j⟩:=h D f;refine⟨W,e,λi m H k=>(j i m H k).imp id λq=>⟨q.1,λx d y l g=>?_⟩⟩;obtain⟨_,rfl⟩:=List.length_eq_one_iff.mp g;exact⟨⟨[some x],rfl,rfl⟩,q.2 x d y⟩
inductive NS(c:TI)(σ:L2.St)(H:Hp)(K:It->Hp->Prop):Prop
 |mk(b:It->Hp->Prop)(_:c σ H b)(_:∀ J a,b J a->K J a)
def PI.more{i g:Expr}{j:TI}(h:PI X i g j):PI X i g (NS j):=λjU s σ H R I ⟨l,n,f⟩=>
 ae (h jU s σ H l I n) (λ_ _ z=>ae z (by rintro _ _ ⟨o,m,p,J,k,a,b,c,d,e,r⟩;exact⟨o,m,p,J,k,a,b,c,d,e,f _ _ r⟩) λ_ _ z=>z) λ_ _ z=>z
def QO{c b:Expr}{x:Str}{o:aI}{d:jy}{a:aD}{l:aI}{r:TI}{q:TT}{p:TE}(k:jo)(e:jr)(u:X.calm=true)(w:PI X (.Name x o) b r)(B:∀ C s H f E,Qp (YX X (x::e) a (XZ X.env a.names []) C s H f E) d q)(v:∀ C s H f E,PE (YX X (x::e) a (XZ X.env a.names []) C s H f E) c p)(t:Z0 X a k e)(y:Oe X.env a.names=true:=by rfl)(m:Ph a x=true:=by rfl)(j:(x::e).Nodup:=by decide +kernel)(A:∀ x,foldedSetIterable b X.env x=pure x:=by intro _;rfl):
  PE X (.ListComp c [⟨.Name x o,b,d,0⟩] a l) (JE r k q p):=by
 intro jU s σ H Q I h;have n:(relabel a X.env).names.lookup x=some .local:=lookup_relabel_local (NP m).own;exact Bh [x] x (g:=Uf 0) k e u (λ_ _ _ _ _=>QX (i:=0) j rfl (Or.inl n) (Or.inr n)) (PI.more w) B v t y m A jU s σ H Q I ⟨_,h,λ_ _ z=>Wg.toT z⟩
def OR{d b:Expr}{x y:Str}{p t:aI}{e:jy}{a:aD}{f c:aI}{w:TI}{v:TT}{u:TE}{i:Nat}(o:jo)(j:jr)(B:X.N.Nodup)(l:X.N[i]? = some y)(O:X.env.scope.names.lookup y=some .local)(F:X.calm=true)(J:PI X (.Name x p) b w)(M:∀ C s H k E,Qp (YX X (x::j) a (XZ X.env a.names []) C s H k E) e v)(G:∀ C s H k E,PE (YX X (x::j) a (XZ X.env a.names []) C s H k E) d u)(A:Z0 X a o j)(n:swapsWith (.ListComp d [⟨.Name x p,b,e,0⟩] a f) (some (.Name y t)) c.line X.env=pure true:=by rfl)(K:Oe X.env a.names=true:=by rfl)(q:Ph a x=true:=by rfl)(m:(x::j).Nodup:=by decide +kernel)(L:∀ x,foldedSetIterable b X.env x=pure x:=by intro _;rfl):
  PS X (.Assign [.Name y t] (.ListComp d [⟨.Name x p,b,e,0⟩] a f) c) (Hn i (JE w o v u)):=by
 intro jU s σ H D I h;have r:(relabel a X.env).names.lookup x=some .local:=lookup_relabel_local (NP q).own;exact Jv [x] x (g:=Uf 0) o j B l O F (λ_ _ _ _ _=>QX (i:=0) m rfl (Or.inl r) (Or.inr r)) (PI.more J) M G A n K q L jU s σ H D I ⟨_,h,λ_ _ z=>Wg.toT z⟩
end
end L2
local macro_rules|`(tactic|lia)=>`(tactic|first|assumption|exact xP ‹_› ‹_›|exact yQ ‹_› ‹_›|exact zI ‹_› ‹_›|exact zI ‹_› (yP rfl)|exact yQ ‹_› (yP rfl)|exact xP ‹_› (yP rfl)|exact zI (zI ‹_› ‹_›) (yP rfl)|exact zI (wD ‹_›) (zI ‹_› (yP rfl))|exact zI (wD (Eq.symm ‹_›)) (zI ‹_› (yP rfl))|exact xX ‹_›|exact Nat.pos_of_ne_zero ‹_›|exact uQ ‹_›|exact Nat.succ_le_succ ‹_›|exact yP rfl|exact zY _|exact tV _ _|exact Nat.le_add_left _ _|exact vB _ _|exact Int.natCast_nonneg _|exact Nat.lt_of_not_le ‹_›|exact uW ‹_›|exact Int.lt_of_not_ge ‹_›|exact Int.not_lt.mp ‹_›|exact tM ‹_› (yE _)|exact Nat.lt_of_lt_of_eq ‹_› (Eq.symm ‹_›)|exact Nat.lt_of_lt_of_eq ‹_› ‹_›|exact Eq.symm (Nat.succ_pred_eq_of_ne_zero ‹_›)|exact Nat.add_sub_of_le ‹_›|exact Nat.add_lt_of_lt_sub' ‹_›|exact Int.ofNat_lt.mpr ‹_›|exact xP (tV _ _) ‹_›|exact zI (Nat.min_le_right _ _) (vB _ _)|exact zI (Nat.min_le_right _ _) (zI (vB _ _) ‹_›)|exact zI (vB _ _) ‹_›|exact Nat.le_sub_of_add_le' ‹_›|exact Nat.le_sub_of_add_le ‹_›|exact Int.le_trans ‹_› ‹_›|exact xP (wD ‹_›) ‹_›|lia (splits:=8))
namespace L2
open PySem PySem.Spec PyProof.Rows
inductive LC(K:zZ)(a:je)(H:Hp)(Q:VK):Prop
 |mk(x n t b:_)(_:a=[x,.ty n])(_:Ys K H x t)(_:yT K t (.type n)=some b)(_:Q (.bl b) H)
def Xj:Wq X (.builtin "isinstance") (LC X.K):=by
 intro a s l H k j Q I r h;obtain⟨x,n,t,b,rfl,g,e,q⟩:=h;obtain⟨u,i,rfl,d,c⟩:=Nb r;cases(show i=Value.type n from c);exact Bp I d g e λf=>⟨.bl b,H,I.tok f,rfl,q⟩
def ZNp{K:zZ}:yT K (.type "bool") (.type "bool")=some true:=by kernel_rfl
def Ow{K:zZ}:yT K (.type "int") (.type "bool")=some false:=by kernel_rfl
def Ea{K:zZ}:yT K (.type "str") (.type "bool")=some false:=by kernel_rfl
def Fe{K:zZ}:yT K (.type "tuple") (.type "bool")=some false:=by kernel_rfl
def Pk{K:zZ}:yT K (.type "int") (.type "int")=some true:=by kernel_rfl
def KS{K:zZ}:yT K (.type "str") (.type "int")=some false:=by kernel_rfl
def LI{K:zZ}:yT K (.type "tuple") (.type "int")=some false:=by kernel_rfl
def kit_is'{K:zZ}:yT K (.type "int") (.type "str")=some false:=by kernel_rfl
def NK{K:zZ}:yT K (.type "str") (.type "str")=some true:=by kernel_rfl
def K1{K:zZ}:yT K (.type "tuple") (.type "str")=some false:=by kernel_rfl
def EZ{K:zZ}:yT K (.type "int") (.type "tuple")=some false:=by kernel_rfl
def Cc{K:zZ}:yT K (.type "str") (.type "tuple")=some false:=by kernel_rfl
def Ma{K:zZ}:yT K (.type "tuple") (.type "tuple")=some true:=by kernel_rfl
def Yw:ax "isinstance" = some (.builtin "isinstance"):=by decide +kernel
def MS:ax "all" = some (.builtin "all"):=by decide +kernel
def Oq:ax "max" = some (.builtin "max"):=by decide +kernel
def D3:ax "min" = some (.builtin "min"):=by decide +kernel
def M8:ax "abs" = some (.builtin "abs"):=by decide +kernel
def XQ:ax "len" = some (.builtin "len"):=by decide +kernel
def P7:ax "bool" = some (.type "bool"):=by decide +kernel
def Qo:ax "int" = some (.type "int"):=by decide +kernel
def Oo:ax "str" = some (.type "str"):=by decide +kernel
def QP:ax "tuple" = some (.type "tuple"):=by decide +kernel
def Uo:ax "list" = some (.type "list"):=by decide +kernel
inductive Vr(x y:V)(H:Hp)(Q:VK):Prop
 |mk(i j:_)(_:x=.str i)(_:y=.str j)(_:Q (.bl (!decide (j.cps.toList<i.cps.toList))) H)
def Jr:Yi X (ay .LtE) (Vr):=by
 intro a s e H x y v u Q I b c h;obtain⟨i,j,rfl,rfl,q⟩:=h;obtain⟨t,rfl⟩:=b;obtain⟨d,rfl⟩:=c;exact PySem.P.le_str (Yf I q (by simp))
inductive Vc(a:zZ)(x y:V)(H:Hp)(Q:VK):Prop
 |mk(p b c:_)(_:x=.ref p)(_:y=.ref b)(_:ZH a H p c)(_:ZH a H b [])(_:Q (.bl c.isEmpty) H)
def MQ(f:X.A.units<cLine):Yi X (ay .Eq) (Vc X.K):=by
 intro l s G H x y v u Q I B C h;obtain⟨p,b,D,rfl,rfl,c,o,q⟩:=h;cases B;cases C;obtain⟨d,w,i,E⟩:=I.list c;obtain⟨a,z,k,F⟩:=I.list o;have g:=w.length;have t:=z.length;have n:a=[]:=vS (by rw[<-t];rfl)
 subst n
 cases D with
 | nil=>
  have m:d=[]:=vS (by rw[<-g];rfl)
  subst m;exact PySem.SeqAt.eq_listAt (e:=λ_=>true) i.isList k.isList rfl f (λj c _=>absurd c (by simp)) (Yf I q (by simp))
 | cons x r=>exact PySem.SeqAt.eq_list_lengthsAt i.isList k.isList (by simp;intro e;subst e;simp at g) f (Yf I q rfl)
def ZOa(i j:Int):Prop:=0<j/\j.natAbs.log2<9000
def ZMU:Yi X (binaryOp .FloorDiv) (rI ZOa λi j=>.int (i / j)):=Ol λi j _ _ _ _ _ a q=>by
 have b:(0:Int)<j:=a.1;exact floordiv_int ∅ (by rw[rO i ∅];exact q) (.inl (PyProof.noPylong_of_log2 a.2))
inductive Qq(a:zZ)(b:je)(H:Hp)(Q:VK):Prop
 |mk(p:aj)(bs:jM)(_:b=[.ref p])(_:ZH a H p (bs.map V.bl))(_:Q (.bl (bs.all id)) H)
def MT(B:X.calm=true):Wq X (.builtin "all") (Qq X.K):=by
 intro t s W H V U Q I r h;obtain⟨p,bs,rfl,F,q⟩:=h;obtain⟨u,rfl,J⟩:=VT r;cases J;obtain⟨a,w,j,S⟩:=I.list F;have n:=w.length;have f:p<s.heap.objs.size:=by obtain⟨_,e,_⟩:=j.isList;exact zW e
 have g:p≠s.heap.objs.size:=zO f;have C:=I.ok.hd B;have M:∀(i:Nat)(v:ai),a.toArray[i]? = some v->v=.bool (bs.getD i true):=λi v G=>by
  have c:a[i]? = some v:=by simpa using G
  have R:i<a.length:=(yJ.mp c).1;have m:i<bs.length:=by rw[zX] at n;lia
  obtain⟨u,k,d⟩:=w.get (i:=i) (x:=.bl bs[i]) (by rw[zJ,zU m];rfl)
  rw[c] at k;cases k;rw[show v=Value.bool bs[i] from d,zP,zU m];rfl
 refine call_all_walk (wpAny_pyIter_list j.isList ?_);refine⟨_,_,_,_,_,_,(λi=>bs.getD i true),rfl,Walks.list (A:=X.A.in1) C s.heap.objs.size p g a.toArray,⟨⟨_,yW _ rfl,rfl,rfl⟩,j.isList.push _⟩,λi v T O N y z=>?_,λP L D=>?_⟩
 ·rw[M i v y];exact wpAny_truthy_bool z
 ·have e:(zQ a.toArray.size).all (λi=>bs.getD i true)=bs.all id:=by
   rw[zN,<-n,zX];have d:bs.all id=((zQ bs.length).map λi=>bs.getD i true).all id:=by rw[range_getD]
   rw[d,wG];rfl
  rw[e];refine⟨.bl (bs.all id),H,I.kept (t':=L) λb o l=>D b o ?_ (zS _ l),rfl,q⟩;intro E;exact absurd (zW l) (by rw[zC.mp E];exact xE _)
def Ux(b:Int)(l:jz):Int:=l.foldl (λa c=>if c > a then c else a) b
def Os(d:Int):jz->Int
 | []=>d
 | x::r=>Ux x r
section
variable{R:Result->ak->Prop}
def ZJK(hh:A.handled=none){I l S:aj}{f:jd}{d:jz}{kw:jG}(y:S≠I)(U:S≠l)(Y:l≠I)(hi:IntsAre f d):
  ∀(k j:Nat)(s:ak)(b:Int)(n:Tok)(c:Nat),f.length-j=k->j<=f.length->s.heap.IsListIter I l j->s.heap.IsList l f.toArray->s.heap.get? S=some { cls:=.type "list",dict:=none,data:=.seq #[.int b n,.int b n] c,slots:=#[] } ->
   (∀ t H N,(∀ a o,a≠I->a≠S->s.heap.get? a=some o->H.get? a=some o)->R (.ok (.ret (.int (Ux b (d.drop j)) t))) { s with heap:=H,toks:=N }) ->
   aF (az prog w) A (.builtin "max.loop" ⟨[.ref I,.none,.ref S],kw⟩) R s:=by
 have nm:(toString "max" ++ toString ".loop" : String) = "max.loop" :=by decide
 have W:=Walks.list (prog:=prog) (w:=w) (A:=A.in1) hh I l Y f.toArray;have p:=IntsAre.length hi;intro k
 induction k with
 | zero=>
  intro j s b n c hk hj st X J L;have E:j=f.toArray.size:=by rw[zN];lia
  refine codeAny_builtin sQ ?_;rw[Around.under_plainId wL _];show aA _ A.in1 (seqItems? (.ref S) >>= _) _ _ s;refine aa (wpAny_seqItems J rfl ?_);show aA _ A.in1 (tryCatch (pyNext (.ref I)) _ >>= _) _ _ s;refine aa (wpAny_tryCatch (W.done s _ _ (by rw[<-E];exact⟨st,X⟩) λH N g=>?_))
  have h:=g S _ (by simpa using y) J
  show aA _ A.in1 (updateSeq S (λ_=>#[]) >>= _) _ _ _;refine aa (wpAny_updateSeq h rfl (aa (wpAny_letGo (ad ?_))));have q:=L n (H.update S (Obj.mapSeq λ_=>#[])) N λa o z D e=>(yB _ _ (Ne.symm D)).trans (g a o (by simpa using z) e)
  rw[List.drop_eq_nil_of_le (by rw[<-p];rw[zN] at E;lia)] at q
  exact q
 | succ k ih=>
  intro j s b n c hk hj st X J L;have E:j<f.toArray.size:=by rw[zN];lia
  refine codeAny_builtin sQ ?_;rw[Around.under_plainId wL _];show aA _ A.in1 (seqItems? (.ref S) >>= _) _ _ s;refine aa (wpAny_seqItems J rfl ?_);show aA _ A.in1 (tryCatch (pyNext (.ref I)) _ >>= _) _ _ s;refine aa (wpAny_tryCatch (W.item j s _ _ E ⟨st,X⟩ λv H N hP m g=>?_));have h:=g S _ (by simpa using y) J
  have K:j<d.length:=by rw[<-p];rw[zN] at E;exact E
  obtain⟨O,Z⟩:∃ t,v=.int d[j] t:=by
   have r:ZO (d.map V.int) f:=N4 hi;obtain⟨u,e1,t,G⟩:=r.get (i:=j) (x:=.int d[j]) (by rw[zJ,zU K];rfl)
   have T:f[j]? = some v:=by simpa using hP
   rw[T] at e1;cases e1;exact⟨t,G⟩
  subst Z;have hd:d.drop j=d[j]::d.drop (j+1):=wK K;show aA _ A.in1 (tryCatch (holding [_,_] (richCompare .Gt (.int d[j] O) (.int b n) >>= _)) _ >>= _) _ _ _;refine aa (wpAny_tryCatch (af (aa (CmpOf.ints_gt (P:=λi v=>(i=0/\v=.int d[j] O)\/(i=1/\v=.int b n)) (λi=>if i=0 then d[j] else b) (λi v Z=>?_) 0 1 _ _ _ _ _ (.inl ⟨rfl,rfl⟩) (.inr ⟨rfl,rfl⟩) ?_))))
  ·rcases Z with ⟨rfl,rfl⟩ | ⟨rfl,rfl⟩
   ·exact⟨O,rfl⟩
   ·exact⟨n,rfl⟩
  refine aa (af (wpAny_truthy_bool (aa (wpAny_letGo (ad ?_)))));by_cases D:d[j] > b
  ·simp only[aO,D,decide_true,Nat.one_ne_zero,if_false,↓reduceIte];refine aa (wpAny_updateSeq h rfl (aa (wpAny_letGo ?_)));rw[nm];refine ad ⟨plainId_quiet wL _,ih (j+1) _ d[j] O _ ∅ ∅ ?_ ?_ (wT _ h rfl) λt Q C B=>?_⟩
   ·obtain⟨o,e,r⟩:=m.1;exact⟨o,(yB _ _ y).trans e,r⟩
   ·obtain⟨o,e,r⟩:=m.2;exact⟨o,(yB _ _ U).trans e,r⟩
   ·have q:=L t Q C λa o z M e=>B a o z M ((yB _ _ (Ne.symm M)).trans (g a o (by simpa using z) e))
    rw[hd] at q;have G:Ux b (d[j]::d.drop (j+1))=Ux d[j] (d.drop (j+1)):=by unfold Ux;rw[tY,aO D]
    rw[G] at q;exact q
  ·simp only[D,decide_false,Nat.one_ne_zero,if_false,vW,↓reduceIte];refine aa (wpAny_letGo ?_);rw[nm];refine ad ⟨plainId_quiet wL _,ih (j+1) _ b n c ∅ ∅ m.1 m.2 h λt Q C B=>?_⟩
   have q:=L t Q C λa o z M e=>B a o z M (g a o (by simpa using z) e)
   rw[hd] at q;have G:Ux b (d[j]::d.drop (j+1))=Ux b (d.drop (j+1)):=by unfold Ux;rw[tY,aM D]
   rw[G] at q;exact q
end
def Ft(a v:ai):argsOk "max" ⟨[a],[(wZ "default",v)]⟩:=by unfold argsOk;kernel_rfl
def ZFo(hc:X.calm=true){g:js}{Y:St}{H:Hp}{s:ak}{Q:VK}{l:aj}{p:jz}{d:Int}{M:Tok}(I:ZF X g Y H s)(hq:ZH X.K H l (p.map V.int))(q:Q (.int (Os d p)) H):
  aA (az X.prog X.w) X.A (call (.builtin "max") [.ref l] [(wZ "default",.int d M)]) (EP X g Y Q) X.xe s:=by
 have nm:(toString "max" ++ toString ".loop" : String) = "max.loop" :=by decide
 obtain⟨b,rv,T,hz⟩:=I.list hq;have hi:IntsAre b p:=K5 rv;have c:=IntsAre.length hi;have hh:=I.ok.hd hc;have E:l<s.heap.objs.size:=by obtain⟨_,e,_⟩:=T.isList;exact zW e
 refine PyProof.Rows.kmk_tree PySem.F.kind_max PySem.F.plain_max PySem.F.entry_max (Ft _ _) ?_;show aA _ X.A.in1 (Builtin.Builtins.bindParams "max" ["key","default"] 0 ⟨[],[(wZ "default",.int d M)]⟩ >>= _) _ _ s;refine aa (wpAny_of_eq (show Builtin.Builtins.bindParams "max" ["key","default"] 0 ⟨[],[(wZ "default",.int d M)]⟩=pure [none,some (.int d M)] from rfl) ?_);refine aa (ad (aa (wpAny_pyIter_list T.isList (aa (wpAny_newList ?_ (yX _))))));rw[nm];have n:(s.heap.push { cls:=.type "list_iterator",data:=.fields #[.ref l,.int 0 0] }).objs.size=s.heap.objs.size+1:=wB ..;have D:l≠s.heap.objs.size:=zO E;have m:(s.heap.push { cls:=.type "list_iterator",data:=.fields #[.ref l,.int 0 0] }).objs.size≠s.heap.objs.size:=by rw[n];exact xT (yE _)
 have C:(s.heap.push { cls:=.type "list_iterator",data:=.fields #[.ref l,.int 0 0] }).objs.size≠l:=by rw[n];exact xT (vX E)
 generalize hS:(s.heap.push { cls:=.type "list_iterator",data:=.fields #[.ref l,.int 0 0] }).objs.size=S at *;have R:∀ a o,s.heap.get? a=some o->((s.heap.push { cls:=.type "list_iterator",data:=.fields #[.ref l,.int 0 0] }).push { cls:=.type "list",data:=.seq ([]:jd).toArray }).get? a=some o:=λa o e=>zS _ (zS _ e);have gI:((s.heap.push { cls:=.type "list_iterator",data:=.fields #[.ref l,.int 0 0] }).push { cls:=.type "list",data:=.seq ([]:jd).toArray }).IsListIter s.heap.objs.size l 0:=⟨_,zS _ (yW _ rfl),rfl,rfl⟩;have gL:((s.heap.push { cls:=.type "list_iterator",data:=.fields #[.ref l,.int 0 0] }).push { cls:=.type "list",data:=.seq ([]:jd).toArray }).IsList l b.toArray:=(T.isList.push _).push _;have gS:((s.heap.push { cls:=.type "list_iterator",data:=.fields #[.ref l,.int 0 0] }).push { cls:=.type "list",data:=.seq ([]:jd).toArray }).get? S=some { cls:=.type "list",dict:=none,data:=.seq #[] 0,slots:=#[] }:=by
  rw[<-hS];exact yW _ rfl
 generalize ((s.heap.push { cls:=.type "list_iterator",data:=.fields #[.ref l,.int 0 0] }).push { cls:=.type "list",data:=.seq ([]:jd).toArray })=h2 at *;refine ad ⟨plainId_quiet wL _,?_⟩;have W:=Walks.list (prog:=X.prog) (w:=X.w) (A:=X.A.in1) hh s.heap.objs.size l D b.toArray;refine codeAny_builtin sQ ?_;rw[Around.under_plainId wL _];show aA _ X.A.in1 (seqItems? (.ref S) >>= _) _ _ _;refine aa (wpAny_seqItems gS rfl ?_);show aA _ X.A.in1 (tryCatch (pyNext (.ref s.heap.objs.size)) _ >>= _) _ _ _;have nS:∀ a o,s.heap.get? a=some o->a≠S:=λa o e z=>by
  have h:=zW e;rw[z,n] at h;exact absurd h (wE.mpr (xA _))
 have f:∀{y:aC}{J:Nat}{v:Int}{t:Tok},(∀ a o,a≠s.heap.objs.size->a≠S->h2.get? a=some o->y.get? a=some o)->v=Os d p->EP X g Y Q (.int v t) { s with heap:=y,toks:=J }:=fun{y J v t} k e=>by
  subst e;exact⟨.int (Os d p),H,I.kept (t':=J) λa o e=>k a o (zO (zW e)) (nS a o e) (R a o e),⟨t,rfl⟩,q⟩
 cases p with
 | nil=>
  have z:b=[]:=vS c;subst z;refine aa (wpAny_tryCatch (W.done _ _ _ ⟨gI,gL⟩ λy J j=>?_));show aA _ X.A.in1 (rule _ >>= _) _ _ _;refine aa (wpAny_rule (ad ?_));exact f (λa o L P e=>j a o (by simpa using L) e) rfl
 | cons x r=>
  have zl:0<b.toArray.size:=by rw[zN,c];exact Nat.succ_pos _
  refine aa (wpAny_tryCatch (W.item 0 _ _ _ zl ⟨gI,gL⟩ λv y J hP G j=>?_));have B:=j S _ (by simpa using m) gS
  obtain⟨U,hv⟩:∃ t,v=.int x t:=by
   obtain⟨u,Z,t,e2⟩:=rv.get (i:=0) (x:=.int x) rfl;have N:b[0]? = some v:=by simpa using hP
   rw[N] at Z;cases Z;exact⟨t,e2⟩
  subst hv;show aA _ X.A.in1 (updateSeq S (λ_=>#[.int x U,.int x U]) >>= _) _ _ _;refine aa (wpAny_updateSeq B rfl ?_);rw[nm];refine ad ⟨plainId_quiet wL _,ZJK hh m C D hi _ 1 _ x U _ rfl (by rw[c];exact Nat.succ_le_succ (yX _)) ?_ ?_ (wT _ B rfl) λt h3 a0 O=>?_⟩
  ·obtain⟨o,e,r⟩:=G.1;exact⟨o,(yB _ _ m).trans e,r⟩
  ·obtain⟨o,e,r⟩:=G.2;exact⟨o,(yB _ _ C).trans e,r⟩
  ·exact f (λa o L P e=>O a o L P ((yB _ _ (Ne.symm P)).trans (j a o (by simpa using L) e))) rfl
def Bz(t f:TA)(K:zZ):TE:=λc H Q=>t c H λg e=>f c e λh a=>∃(l:aj)(b:jz)(d:Int),g=[.ref l]/\h=[.int d]/\ZH K a l (b.map V.int)/\Q (.int (Os d b)) a
def ZMV{p a g:aI}{e f:Expr}{t i:TA}(x:X.calm=true)(z:Gl X "max")(B:X.mg "max" = none)(w:PA X [e] t)(A:PK X [⟨some (wZ "default"),f,g⟩] i)(y:aE a (aq [e] X.env)=(false,aG e X.env)::aE a (aq [] X.env):=by rfl)(b:(aE a (aq [e] X.env)).any (·.1)=false:=by rfl):
  PE X (.Call (.Name "max" p) [e] [⟨some (wZ "default"),f,g⟩] a) (Bz t i X.K):=by
 intro c s j H Q I h;refine ag (Qy I z B Oq (callWith_kw (YD (w a c s j H _ I h) λP G R k m r q=>?_) y b));refine Zt (A a c G j k _ m q) ?_;rintro S M ⟨T,J,n,F,l,L,d,o,v,C,D⟩;subst o v;obtain⟨u,rfl,E⟩:=VT r;obtain⟨O,rfl,N,rfl⟩:=VT F;cases E;exact ZFo x n C D
def IV(x:Str):It:=⟨λi _=>i<x.cps.size,λi H v a=>a=H/\∃ c,x.cps[i]? = some c/\v=.str ⟨#[c]⟩,λi _=>i=x.cps.size⟩
def Ja{P:al}{w:ar}{K:zZ}{tg:Expr}(ty:String)(hty:["enumerate","zip","dict_itemiterator","dict_reverseitemiterator","odict_iterator","itertools.zip_longest","itertools.pairwise"].contains ty=false)(x:Str)(t:Tok)(it:aj)(W:∀ A:aw,A.handled=none->Walks P w A it [it] [it] x.cps.size (SignAt x) (λi h=>h.IsStrIter it ty x t i))(self:∀ (A:aw) (i:Nat) (s:ak) (Q:ja) (E:ja),s.heap.IsStrIter it ty x t i->Q (.ref it) s->aA (az P w) A (pyIter (.ref it)) Q E s):
  VH P w K tg (IV x) [it] it (λi h=>h.IsStrIter it ty x t i) where
 mem:=by simp
 obj:=λi h st b hb=>by
  have e:b=it:=by simpa using hb
  subst e;obtain⟨o,e,c,d⟩:=st;exact⟨o,e,λv z=>by rw[d] at z;cases z⟩
 keep:=λi h h' ⟨o,e,r⟩ k=>⟨o,k it (by simp) o e,r⟩
 item:=by
  intro X hP hw hK hc i jU s σ H E I hf st hg;subst hP hw hK;obtain⟨f0,f1,f2,f3,f4,f5⟩:=hf it (by simp)
  refine(W X.A (I.ok.hd hc)).item i s _ _ hg st λv h' tk hv st' kk=>?_;obtain⟨c,u,hx,rfl⟩:=hv;have I1:ZF X jU σ H { s with heap:=h',toks:=tk }:=I.turned (λb o hb e=>kk b o (by simpa using hb) e) f0 f1 f3 f4 f5
  obtain⟨o,e,cl,d⟩:=id st';exact⟨_,rfl,Nx (s:={ s with heap:=h',toks:=tk }) e cl d hty ⟨.str ⟨#[c]⟩,H,I1,⟨u,rfl⟩,⟨rfl,c,hx,rfl⟩,st',λb hb=>(hf b hb).1⟩⟩
 done:=by
  intro X hP hw hK hc i jU s σ H E I hf st hg;subst hP hw hK;obtain⟨f0,f1,f2,f3,f4,f5⟩:=hf it (by simp)
  have hi:i=x.cps.size:=hg;subst hi;exact(W X.A (I.ok.hd hc)).done s _ _ st λh' tk kk=>⟨rfl,I.turned (λb o hb e=>kk b o (by simpa using hb) e) f0 f1 f3 f4 f5⟩
 self:=self
section
variable{tg:Expr}
inductive Om(R:It->Hp->Prop)(v:V)(a:Hp):Prop
 |mk(x:_)(_:v=.str x)(_:R (IV x) a)
def Ff(b:TE):TI:=λc H R=>b c H λv a=>Om R v a
def BD{l:Expr}{n:TE}(r:PE X l n):PI X tg l (Ff n):=by
 intro a s w H R I h;refine Zt (r a s w H _ I h) ?_;rintro v c ⟨z,f,d,u,x,e,q⟩;subst e;obtain⟨t,rfl⟩:=u;have k:∀ b∈[c.heap.objs.size],Wf X a f b:=λb p=>by
  rw[zC.mp p];exact d.fpOk (zY _) (d.hok.fresh (zY _))
 cases m:x.cps.all (· < 128)
 ·exact wpAny_pyIter_wide m ⟨c.heap.objs.size,[c.heap.objs.size],_,_,f,rfl,d.kept (t':=c.toks) λb o e=>zS _ e,
   Ja "str_iterator" (by decide) x t _ (λA g=>Walks.strWide g _ x t) (λA i s Q E j h=>wpAny_pyIter_striter_wide j h),⟨_,yW _ rfl,rfl,rfl⟩,k,q⟩
 ·exact wpAny_pyIter_ascii m ⟨c.heap.objs.size,[c.heap.objs.size],_,_,f,rfl,d.kept (t':=c.toks) λb o e=>zS _ e,
   Ja "str_ascii_iterator" (by decide) x t _ (λA g=>Walks.strAscii g _ x t) (λA i s Q E j h=>wpAny_pyIter_striter_ascii j h),⟨_,yW _ rfl,rfl,rfl⟩,k,q⟩
end
section
variable{σ:St}{H:Hp}{ix:jo}{te:TE}{Q:VK}
def UM{J:It}{n:Nat}(d:Nat->V->Prop)(c:aj->Nat->je->Hp->Prop)(z:n<ap)(k:∀ D i a H,i<n->c D i a H->J.go i H)(t:∀ D i a H x g,i<n->c D i a H->J.yld i H x g->g=H/\d i x)(f:∀ D a H,c D n a H->J.stop n H)(q:∀ D,H D=none->c D 0 [] (upd H D (.lst [])))(step:∀ D i a H x,H D=some (.lst a)->a.length<=i->i<n->d i x->c D i a H->∀ R:VK,(∀ y h,h D=some (.lst a)->c D (i+1) (a++[y]) (upd h D (.lst (a++[y])))->R y h)->te (OX σ ix x) H R)(j:∀ D a H,H D=some (.lst a)->c D n a H->Q (.ref D) H):Wg J σ ix LX te H Q:=by
 intro D r;exists λi m H=>m=n-i/\i<=n/\∃ a,H D=some (.lst a)/\a.length<=i/\c D i a H,⟨n,rfl,yX _,[],ZK,zY _,q D r⟩;rintro i m H ⟨rfl,w,a,e,s,p⟩;by_cases b:i<n
 ·refine .inr ⟨k D i a H b p,λx g y=>?_⟩;obtain⟨rfl,u⟩:=t D i a H x g b p y;unfold LX;dsimp only;rw[aO rfl];refine step D i a _ x e s b u p _ λy h o v=>?_;exact⟨a,n-(i+1),o,∅,∅,rfl,b,a++[y],ZK,by rw[zE,xI];lia,v⟩
 ·have l:i=n:=∅
  subst l;exact .inl ⟨f D a H p,j D a H e p⟩
def Db{J:It}{n:Nat}{s:TT}(c:Nat->V->Prop)(d:V->Bool)(f:aj->Nat->je->Hp->Prop)(C:n<ap)(l:∀ D i a H,i<n->f D i a H->J.go i H)(z:∀ D i a H x j,i<n->f D i a H->J.yld i H x j->j=H/\c i x)(g:∀ D a H,f D n a H->J.stop n H)(u:∀ D,H D=none->f D 0 [] (upd H D (.lst [])))(h:∀ D i a H x,i<n->c i x->f D i a H->∀ R:Bool->Hp->Prop,R (d x) H->s (OX σ ix x) H R)(q:∀ D i a H x,H D=some (.lst a)->i<n->c i x->d x=true->f D i a H->f D (i+1) (a++[x]) (upd H D (.lst (a++[x]))))(A:∀ D i a H x,H D=some (.lst a)->i<n->c i x->d x=false->f D i a H->f D (i+1) a H)(k:∀ D a H,H D=some (.lst a)->f D n a H->Q (.ref D) H):Wg J σ ix s (Uu 0) H Q:=by
 intro D v;exists λi m H=>m=n-i/\i<=n/\∃ a,H D=some (.lst a)/\a.length<=i/\f D i a H,⟨n,rfl,yX _,[],ZK,zY _,u D v⟩;rintro i m H ⟨rfl,B,a,e,w,p⟩;by_cases b:i<n
 ·refine .inr ⟨l D i a H b p,λx j y=>?_⟩;obtain⟨rfl,o⟩:=z D i a H x j b p y;refine h D i a _ x b o p _ ?_
  cases r:d x with
  | true=>
   rw[aO rfl];exact⟨x,rfl,a,n-(i+1),e,∅,∅,rfl,b,a++[x],ZK,by rw[zE,xI];lia,q D i a _ x e b o r p⟩
  | false=>
   rw[aM zV];exact⟨n-(i+1),∅,rfl,b,a,e,uQ w,A D i a _ x e b o r p⟩
 ·have t:i=n:=∅
  subst t;exact .inl ⟨g D a H p,k D a H e p⟩
end
def Zb.there{P:al}{w:ar}{H:Hp}{h:aC}{a:aj}:∀{o:HO},Zb P w H h a o->∃ b,h.get? a=some b:=by
 intro o x
 induction o with
 | lst l=>obtain⟨z,j,n,r,e⟩:=x;exact⟨_,e⟩
 | tup l=>obtain⟨z,j,r,b,e,c⟩:=x;exact⟨_,e⟩
 | dK k=>obtain⟨z,y,G,r,b,i,g,e,c⟩:=x;exact⟨_,e⟩
 | dT k=>obtain⟨z,y,l,r,b,i,g,e,c⟩:=x;exact⟨_,e⟩
 | set S n=>obtain⟨b,i,g,t,e,c⟩:=x;exact⟨_,e⟩
 | ins C p m=>obtain⟨d,z,D,e,_⟩:=x;exact⟨_,e⟩
 | own y=>exact x
 | xd m=>obtain⟨B,⟨E,i,g,e,c⟩,r⟩:=x;exact⟨_,e⟩
 | rng A q=>obtain⟨t,u,v,e⟩:=x;exact⟨_,e⟩
 | frz b u s=>exact⟨_,x.1⟩
 | tbl F=>exact⟨_,x⟩
 | met f y=>exact⟨_,x⟩
 | ext I=>exact x.2.1
def YG.there{P:al}{w:ar}{H:Hp}{h:aC}{a:aj}(x:YG P w H h)(n:H a≠none):∃ b,h.get? a=some b:=by
 cases e:H a with
 | none=>exact absurd e n
 | some o=>exact Zb.there (x a o e)
def YG.keptT{P:al}{w:ar}{H:Hp}{h d:aC}(x:YG P w H h)(k:∀ b u,h.get? b=some u->H b≠none->d.get? b=some u):YG P w H d:=λa o e=>
 (x a o e).stay (λb u c q=>k b u q (by
  rcases c with rfl | c
  ·rw[e];exact λz=>nomatch z
  ·rw[c];exact λz=>nomatch z)) (λ_ q=>q) λ_ _ q=>q
section
variable{jU:js}{σ:St}{H H':Hp}{s':ak}{E:XK}
def ZF.noloc(I:ZF X jU σ H s):X.s₀.heap.get? X.env.locals=none:=vH I.ok.above
def Kh(I:ZF X jU σ H s):∀ b∈frs X.stack,∀ o,s.heap.get? b=some o->∀ a,o.data≠.fields a:=λb c o q a z=>by
 obtain⟨_,f,e,d⟩:=I.stack.mem c;rw[q] at e;cases e;exact d a z
end
end L2
namespace L2
open PySem PySem.Spec PySem.W PyProof.Rows
def Xn(x C:aj)(h:aC):Prop:=∃ o,h.get? x=some o/\o.cls=.ref C
def Xn.ty{x C:aj}{h:aC}(I:Xn x C h)(M:Model):Looks M h (typeOf (.ref x)) (.ref C):=by
 obtain⟨o,e,c⟩:=I;rw[<-c];exact Looks.andThen (Looks.ld e) Looks.now
structure X6(K:Frag)(C:aj):Prop where
 ga:findIn K (.ref C) "__getattribute__" = some (some (.builtin "BaseException.__getattribute__"))
 hk:findIn K (.ref C) "__getattr__" = some none
 mB:mroIn K C (.type "BaseException")=some true
 mO:mroIn K C (.type "object")=some true
 ca:findIn K (.ref C) "__class__" = some (some (.builtin "object.__class__"))
 hn:specialIn K (.builtin "object.__class__") "__get__" = some (some (.builtin "getset_descriptor.__get__"))
 tk:takesIn K (.builtin "object.__class__")=some true
section
variable{K:Frag}{x C:aj}
def ZIp{a:ai}{Q:Unit->ak->Prop}(X:K.In s.heap)(I:Xn x C s.heap)(b:mroIn K C (.type "BaseException")=some true)(c:Q () s):
  aA (az prog w) A (checkBuiltinCall "BaseException.__getattribute__" ⟨[.ref x,a],[]⟩) Q E s:=by
 obtain⟨h,g,d,t,l⟩:=s;have e:builtinKind "BaseException.__getattribute__" = some .slot:=by decide +kernel
 have f:splitId "BaseException.__getattribute__" = some ("BaseException","__getattribute__"):=by decide +kernel
 have i:=I.ty (az prog w);have j:=looks_mroIn (M:=az prog w) X b;have k:=F.args_bexc_ga (.ref x) a;simp only[checkBuiltinCall,e,f];refine aa ?_;unfold isInstance
 repeat lk
 exact c
def Bc{b:Str}{i:Tok}{r:Builtin.ObjectAttr.Found}{Q:Fin->ak->Prop}(X:K.In s.heap)(I:Xn x C s.heap)(e:Looks (az prog w) s.heap (Builtin.ObjectAttr.find (.ref x) (.ref C) b) r)(h:match r with
   | .value v=>Q (.done (.ret v)) s
   | .bind g a=>aA (az prog w) A (call g [a,.ref x,.ref C]) (λv c=>Q (.done (.ret v)) c) E s
   | .missing=>False):aA (az prog w) A (Builtin.«object.__getattribute__» ⟨[.ref x,.str b i],[]⟩) Q E s:=by
 obtain⟨j,g,d,t,k⟩:=s;have f:=I.ty (az prog w);unfold Builtin.«object.__getattribute__»;refine aa (ad ?_);refine aa (ad ?_);refine aa (f.at ?_);refine aa (e.at ?_)
 cases r with
 | value v=>exact ad h
 | bind g a=>
  show aA _ _ (holding [a] (call g [a,.ref x,.ref C]) >>= ret) _ _ _;exact aa (af (ae h (λv c z=>ad z) λ_ _ z=>z))
 | missing=>exact h.elim
def HI{c:Str}{r:Builtin.ObjectAttr.Found}{b f:Bool}{k:Tok}{Q:ja}(X:K.In s.heap)(I:Xn x C s.heap)(e:X6 K C)(l:Looks (az prog w) s.heap (Builtin.ObjectAttr.find (.ref x) (.ref C) c) r)(h:match r with
   | .value v=>handedIn v=true/\Q v s
   | .bind g a=>aA (az prog w) A.in1 (call g [a,.ref x,.ref C]) (λv j=>handedIn v=true/\Q v j) (λ_ _=>False) s
   | .missing=>False):aA (az prog w) A (getAttrBy (.ref x) (.str c k) f b) Q E s:=by
 have i:=F.excAttr_ValueError;have m:=I.ty (az prog w);have n:=looks_findIn (M:=az prog w) X e.ga;have o:=looks_findIn (M:=az prog w) X e.hk;have p:(Value.builtin "BaseException.__getattribute__" == Value.builtin "object.__getattribute__")=false:=by decide +kernel
 obtain⟨q,g,d,t,u⟩:=s;unfold getAttrBy;refine af (aa (m.at (aa (n.at ?_))));show aA _ _ (if (true&&(Value.builtin "BaseException.__getattribute__" == Value.builtin "object.__getattribute__"))=true then _ else getAttrByItsOwn (.ref x) (.str c k) (.ref C) (.builtin "BaseException.__getattribute__") f b) _ _ _
 rw[p,aM (by decide)]
 unfold getAttrByItsOwn hookBefore;refine aa (o.at ?_);refine aa (wpAny_attempt (af ?_));unfold callGetattribute;rw[aM (by cases b <;> decide)]
 unfold boundAndCalled;rw[i.ga.bind (.ref x)];refine aa (ad ?_);refine wpAny_call (codeAny_call_builtin i.ga.plain F.entry_bexc_ga (ZIp X I e.mB (Bc X I l ?_)))
 cases r with
 | value v=>exact handed_on h.1 h.2
 | bind g a=>exact ae h (λv j z=>handed_on z.1 z.2) λ_ _ z=>z.elim
 | missing=>exact h.elim
def AR{R:Result->ak->Prop}{b:ai}(X:K.In s.heap)(I:Xn x C s.heap)(e:X6 K C)(h:R (.ok (.ret (.ref C))) s):
  aF (az prog w) A (.call (.builtin "getset_descriptor.__get__") ⟨[.builtin "object.__class__",.ref x,b],[]⟩) R s:=by
 obtain⟨f,d,c,j,a⟩:=s;have g:=I.ty (az prog w);have i:=looks_mroIn (M:=az prog w) X e.mO;refine codeAny_call_builtin KF.slot_gs.plain KF.entry_gs ?_;refine KF.slot_gs.check _ _ _ _ _ _ _ _ KF.type_class (KF.args_gs _ _ _) ?_;unfold Builtin.«getset_descriptor.__get__»;unfold Builtin.Getset_descriptor.descrGet;rw[dga_obj];refine aa (ad ?_);unfold Builtin.Getset_descriptor.descrGetter;unfold Builtin.Getset_descriptor.descrCheckInstance;unfold Builtin.Getset_descriptor.descrNameAndClass;unfold isInstance;simp only[KF.owner_class]
 repeat lk
 exists Code.quiet_builtin _ (by decide +kernel)
 refine codeAny_builtin KF.entry_class ?_;unfold Builtin.«object.__class__»;unfold shownTypeOf
 repeat lk
 exact h
def ZJr(X:K.In s.heap)(e:X6 K C)(M:Model):Looks M s.heap (Builtin.ObjectAttr.find (.ref x) (.ref C) "__class__") (.bind (.builtin "getset_descriptor.__get__") (.builtin "object.__class__")):=by
 have a:=looks_findIn (M:=M) X e.ca;have b:=looks_specialIn (M:=M) X e.hn;have c:=looks_takesIn (M:=M) X e.tk;refine Looks.andThen a (Looks.andThen b ?_);exact Looks.andThen (show Looks M s.heap (Builtin.ObjectAttr.dataDescriptor? (some (.builtin "object.__class__")) (some (.builtin "getset_descriptor.__get__"))) (some (_,_)) from Looks.andThen c Looks.now) (Looks.tag Looks.now)
end
def X6.cls{K:Frag}{C:aj}(e:X6 K C):∃ g d c k,K.lookup C=some ⟨g,d,.cls c,k⟩:=by
 obtain⟨c,h,_⟩:=rL.mp e.mB;unfold clsIn at h;split at h
 ·rename_i f i a b j
  exact⟨f,i,a,b,j⟩
 ·cases h
def AD{K:Frag}{x C:aj}(e:X6 K C):KitX K (.ref x) (.ref C) (Xn x C) where
 ty:=λM _ _ I=>I.ty M
 it:=λ_ _ X _=>by
  obtain⟨i,d,g,m,b⟩:=e.cls;intro p t r v k q;unfold isType loadHead;have z:=k _ _ (X _ _ b);exact aa (wpAny_loadPart z (ad q))
 ne:=λh f u l n m X a=>by
  obtain⟨i,d,g,o,b⟩:=e.cls
  cases q:(Value.ref C==Value.ref f) with
  | false=>rfl
  | true=>
   have j:C=f:=Value.ref.inj (eq_of_beq q);rw[<-j,X _ _ b] at a;cases a
 ca:=fun{c w A E Q s} X I k=>by
  unfold getAttr? getAttrBy?;refine aa (wpAny_mkText (aa (wpAny_attempt ?_)));refine HI (s:={ s with toks:=s.toks+1 }) X I e (ZJr (s:={ s with toks:=s.toks+1 }) X e _) ?_;exact wpAny_call (AR (s:={ s with toks:=s.toks+1 }) X I e ⟨rfl,ad k⟩)
end L2
namespace L2
open PySem PySem.Spec PyProof.Rows
def Cx.held(X:Cx)(a:aj)(E:ja):Cx:={ X with A:=X.A.mark (some (.ref a)),calm:=false,xe:=E }
section
variable{jU:js}{σ:St}{H H':Hp}{s':ak}{ea:aj}
def ZF.held(I:ZF X jU σ H s)(ea:aj)(E:ja):ZF (X.held ea E) jU σ H s:=
 ⟨⟨I.ok.mod,I.ok.kind,I.ok.glob,I.ok.blt,I.ok.above,I.ok.inj,I.ok.has,I.ok.cab,λz=>absurd z zV,I.ok.frames,I.ok.stk,I.ok.exf,I.ok.bs,I.ok.bsz,I.ok.noex,I.ok.exfs,I.ok.funs,I.ok.frf⟩,
  I.os,I.bare,I.base,I.loc,I.cell,I.free,I.freeC,I.pin,I.hok,I.len⟩
def ZF.unheld(a:X.Ok)(I:ZF (X.held ea E) jU σ H s):ZF X jU σ H s:=⟨a,I.os,I.bare,I.base,I.loc,I.cell,I.free,I.freeC,I.pin,I.hok,I.len⟩
def ZF.track{a:aj}{o:HO}(I:ZF X jU σ H s)(l:X.s₀.heap.get? a=none)(t:a≠X.env.locals)(m:∀ x c,X.env.cells.lookup x=some c->c≠a)(y:∀ p∈X.pn++jU,p.1≠a)(v:H a=none)(h:Zb X.prog X.w (upd H a o) s.heap a o):ZF X jU σ (upd H a o) s:=by
 have g:∀{b:aj}{u:HO},H b=some u->b≠a:=fun{b u} e z=>by rw[z,v] at e;cases e
 refine⟨I.ok,I.os,I.bare,⟨I.base.keep,I.base.slot,λb i q n A=>?_,I.base.there,λb k q=>?_,λb i u q=>?_,λb B q=>?_⟩,I.loc,I.cell,?_,λx c e=>?_,λp d=>?_,λb u e=>?_,I.len⟩
 ·rw[ZM (λz=>by rw[z,l] at q;cases q)]
  exact I.base.free b i q n A
 ·have e:=I.base.tups b k q;rw[ZM (g e)];exact e
 ·have e:=I.base.frzs b i u q;rw[ZM (g e)];exact e
 ·obtain⟨f,e⟩:=I.base.tbls b B q;exact⟨f,by rw[ZM (g e)];exact e⟩
 ·rw[ZM (Ne.symm t)];exact I.free
 ·rw[ZM (m x c e)];exact I.freeC x c e
 ·obtain⟨e,n,r⟩:=I.pin p d;exact⟨e,by rw[ZM (y p d)];exact n,r⟩
 ·by_cases j:b=a
  ·subst j;rw[ZK] at e;cases e;exact h
  ·rw[ZM j] at e;exact(I.hok b u e).stay (λ_ _ _ q=>q) (λc q=>by rw[ZM (g q)];exact q) λc k q=>by rw[ZM (g q)];exact q
def ZF.goes{i:Nat}{n:Str}{M:Model}{A:aw}{Q:Unit->ak->Prop}{D:aI}(I:ZF X jU σ H s)(O:X.N.Nodup)(F:X.N[i]? = some n)(f:X.env.scope.names.lookup n=some .local)(h:∀ s',ZF X jU (σ.set i none) H s'->Q () s'):aA M A (do bindName X.env n .none;unbindBehindTheSuite X.env n D) Q E s:=by
 obtain⟨m,G,P⟩:=id I.loc;have r:(X.env.scope.kind==.class || (X.env.scope.kind==.module&&X.env.locals != X.env.globals))=false:=by rw[I.ok.kind];rfl
 have t:i<σ.length:=by rw[I.len];exact(yJ.mp F).1
 refine wpAny_nameGoes_keeps f G r λh' v C a=>h _ ?_;obtain⟨oL,_,_,R,_⟩:=id G;have g:∀ b o,X.s₀.heap.get? b=some o->b≠X.env.locals:=λb o e=>zO (yQ (zW e) I.ok.above);refine⟨I.ok,I.os,I.bare,⟨λb o e n x f=>?_,λb o e n x f=>?_,I.base.free,λb o e f=>?_,I.base.tups,I.base.frzs,I.base.tbls⟩,⟨_,C,λj y v' l u L=>?_⟩,λy c e=>?_,I.free,I.freeC,λp S=>?_,λb V e=>?_,by simpa using I.len⟩
 ·exact(a.2 b (g b o e)).trans (I.base.keep b o e n x f)
 ·obtain⟨Y,l⟩:=I.base.slot b o e n x f;exact⟨Y,(a.2 b (g b o e)).trans l⟩
 ·obtain⟨U,l⟩:=I.base.there b o e f;exact⟨U,(a.2 b (g b o e)).trans l⟩
 ·by_cases B:j=i
  ·subst B;rw[sS t] at u;cases u
  ·rw[tE (Ne.symm B)] at u;obtain⟨Z,W,q⟩:=P j y v' l u L;exists Z,W;rcases q with ⟨k,e⟩ | ⟨k,c,e,z⟩
   ·refine .inl ⟨k,?_⟩;have:y≠n:=λe=>B (LE O l (e ▸ F));simp[this,e]
   ·exact .inr ⟨k,c,e,z.sameBut a (I.cne y c e)⟩
 ·obtain⟨K,z⟩:=I.cell y c e;exact⟨K,z.sameBut a (I.cne y c e)⟩
 ·obtain⟨e,n,J,T,d⟩:=I.pin p S;exact⟨(a.2 p.1 J).trans e,n,J,T,d⟩
 ·refine(I.hok b V e).stay (λc K w q=>(a.2 c ?_).trans q) (λ_ q=>q) λ_ _ q=>q;rintro rfl;rcases w with rfl | w
  ·rw[I.free] at e;cases e
  ·rw[I.free] at w;cases w
end
section
variable{x C CB:aj}
def Iu{b:Bool}{Q:Bool->ak->Prop}(X:K.In s.heap)(I:Xn x C s.heap)(o:yA K (.ref CB)=some (.type "type"))(c:yV K CB (.type "BaseException")=some true)(l:yV K C (.ref CB)=some b)(h:Q b s):aA (az prog w) A (excMatches (.ref x) (.ref CB)) Q E s:=by
 obtain⟨m,g,d,t,H⟩:=s;have v:=I.ty (az prog w);have y:=uH (M:=az prog w) X c;have z:=uH (M:=az prog w) X l;have e:=rT (M:=az prog w) X o;have f:=tc_notTuple;have B:yL (az prog w) m (isType (.ref CB)) true:=by
  obtain⟨j,a,_⟩:=rL.mp c;unfold PySem.W.clsIn at a;split at a
  ·rename_i F G i p n
   intro r D u J k q;unfold isType loadHead;exact aa (wpAny_loadPart (k _ _ (X _ _ n)) (ad q))
  ·cases a
 unfold excMatches isInstance isExcClass;refine aa (aa (e.at ?_));rw[f];refine ad ?_;rw[aM zV];refine aa (ad ?_);simp only[List.forIn_cons,List.forIn_nil]
 cases b with
 | true=>
  repeat (first | lk | wp_step)
  all_goals first | exact h | trace_state
 | false=>
  repeat (first | lk | wp_step)
  all_goals first | exact h | trace_state
end
end L2
namespace Tw
open PySem
inductive KT where
 | int (i:Int)
 | str (x:Str)
 | tup (l:List KT)
abbrev jp:=List KT
mutual
def KT.depth:KT->Nat
 | .int _=>0
 | .str _=>0
 | .tup l=>1+jS l
def jS:jp->Nat
 | []=>0
 | t::r=>max t.depth (jS r)
end
mutual
def KT.size:KT->Nat
 | .int _=>1
 | .str _=>1
 | .tup l=>1+sizeL l
def sizeL:jp->Nat
 | []=>0
 | t::r=>t.size+sizeL r
end
def Uc(c:Nat):Bool:=decide (32<=c)&&decide (c<=126)
def Pv(x:Str):Bool:=decide (x.length<=40)&&x.cps.toList.all Uc
mutual
def KT.fits:KT->Nat->Bool
 | .int i,_=>decide (i.natAbs<10 ^ 60)
 | .str x,_=>Pv x
 | .tup l,r=>decide (0<r)&&(decide (l.length<=4)&&fitsL l (r-1))
def fitsL:jp->Nat->Bool
 | [],_=>true
 | t::l,r=>t.fits r&&fitsL l r
end
def O5(r:Nat):∀ l:jp,fitsL l r=l.all λt=>t.fits r
 | []=>by simp[fitsL]
 | t::l=>by rw[fitsL,uZ,O5 r l]
mutual
def Q3:∀(t:KT)(r:Nat),t.fits r=true->t.depth<=r
 | .int _,r,_=>by rw[KT.depth];exact yX _
 | .str _,r,_=>by rw[KT.depth];exact yX _
 | .tup l,r,h=>by
  rw[KT.fits,zT,zT] at h;obtain⟨h1,_,h3⟩:=h;have h1':0<r:=of_decide_eq_true h1;have:=fitsL_depth l (r-1) h3;rw[KT.depth]
  lia
def fitsL_depth:∀(l:jp)(r:Nat),fitsL l r=true->jS l<=r
 | [],r,_=>by rw[jS];exact yX _
 | t::l,r,h=>by
  rw[fitsL,zT] at h;have a:=Q3 t r h.1;have b:=fitsL_depth l r h.2;rw[jS]
  lia
end
mutual
def KC:∀(t:KT)(r q:Nat),t.fits r=true->t.depth<=q->t.fits q=true
 | .int _,r,q,h,_=>by rw[KT.fits] at h⊢;exact h
 | .str _,r,q,h,_=>by rw[KT.fits] at h⊢;exact h
 | .tup l,r,q,h,hd=>by
  rw[KT.fits,zT,zT] at h⊢;obtain⟨h1,h2,h3⟩:=h;rw[KT.depth] at hd;exact⟨aK ∅,h2,fitsL_more l (r-1) (q-1) h3 ∅⟩
def fitsL_more:∀(l:jp)(r q:Nat),fitsL l r=true->jS l<=q->fitsL l q=true
 | [],r,q,_,_=>by rw[fitsL]
 | t::l,r,q,h,hd=>by
  rw[fitsL,zT] at h⊢;rw[jS] at hd;exact⟨KC t r q h.1 ∅,fitsL_more l r q h.2 ∅⟩
end
def KT.things:KT->jp
 | .tup l=>l
 | _=>[]
def below(l:jp):jp:=l.flatMap KT.things
mutual
def KT.eqb:KT->KT->Bool
 | .int i,.int j=>i==j
 | .str x,.str y=>x==y
 | .tup l,.tup m=>jR l m
 | _,_=>false
def jR:jp->jp->Bool
 | [],[]=>true
 | a::l,b::m=>a.eqb b&&jR l m
 | _,_=>false
end
mutual
def KT.plt:KT->KT->Bool
 | .int i,.int j=>decide (i<j)
 | .str x,.str y=>decide (x.cps.toList<y.cps.toList)
 | .tup l,.tup m=>pltL l m
 | _,_=>false
def pltL:jp->jp->Bool
 | [],[]=>false
 | [],_::_=>true
 | _::_,[]=>false
 | a::l,b::m=>if a.eqb b=true then pltL l m else a.plt b
end
mutual
def KT.cmp:KT->KT->Bool
 | .int _,.int _=>true
 | .str _,.str _=>true
 | .tup l,.tup m=>cmpL l m
 | _,_=>false
def cmpL:jp->jp->Bool
 | [],_=>true
 | _::_,[]=>true
 | a::l,b::m=>if a.eqb b=true then cmpL l m else a.cmp b
end
def KT.kind:KT->Nat
 | .int _=>0
 | .str _=>1
 | .tup _=>2
mutual
def KT.lt:KT->KT->Bool
 | .int i,.int j=>decide (i<j)
 | .int _,.str _=>true
 | .int _,.tup _=>true
 | .str _,.int _=>false
 | .str x,.str y=>decide (x.cps.toList<y.cps.toList)
 | .str _,.tup _=>true
 | .tup _,.int _=>false
 | .tup _,.str _=>false
 | .tup l,.tup m=>ltL l m
def ltL:jp->jp->Bool
 | [],[]=>false
 | [],_::_=>true
 | _::_,[]=>false
 | a::l,b::m=>if a.eqb b=true then ltL l m else a.lt b
end
mutual
def KT.st:KT->KT
 | .int i=>.tup [.int 0,.int i]
 | .str x=>.tup [.int 1,.str x]
 | .tup l=>.tup [.int 2,.tup (stL l)]
def stL:jp->jp
 | []=>[]
 | t::l=>t.st::stL l
end
def Jj:∀ l:jp,stL l=l.map KT.st
 | []=>by rw[stL];rfl
 | t::l=>by rw[stL,Jj l];rfl
mutual
def N1:∀(a b:KT),a.eqb b=true->a=b
 | .int i,.int j,h=>by rw[KT.eqb] at h;rw[eq_of_beq h]
 | .str x,.str y,h=>by rw[KT.eqb] at h;rw[eq_of_beq h]
 | .tup l,.tup m,h=>by rw[KT.eqb] at h;rw[eqbL_eq l m h]
 | .int _,.str _,h=>by simp[KT.eqb] at h
 | .int _,.tup _,h=>by simp[KT.eqb] at h
 | .str _,.int _,h=>by simp[KT.eqb] at h
 | .str _,.tup _,h=>by simp[KT.eqb] at h
 | .tup _,.int _,h=>by simp[KT.eqb] at h
 | .tup _,.str _,h=>by simp[KT.eqb] at h
def eqbL_eq:∀(l m:jp),jR l m=true->l=m
 | [],[],_=>rfl
 | a::l,b::m,h=>by
  rw[jR,zT] at h;rw[N1 a b h.1,eqbL_eq l m h.2]
 | [],_::_,h=>by simp[jR] at h
 | _::_,[],h=>by simp[jR] at h
end
mutual
def NY:∀ a:KT,a.eqb a=true
 | .int i=>by rw[KT.eqb];exact beq_self_eq_true i
 | .str x=>by rw[KT.eqb];exact beq_self_eq_true x
 | .tup l=>by rw[KT.eqb];exact eqbL_self l
def eqbL_self:∀ l:jp,jR l l=true
 | []=>by rw[jR]
 | a::l=>by rw[jR,NY a,eqbL_self l];rfl
end
def Yn{a b:KT}:a.eqb b=true ↔ a=b:=⟨N1 a b,λe=>by rw[e];exact NY b⟩
mutual
def HZ:∀ a b:KT,a.st.eqb b.st=a.eqb b
 | .int i,.int j=>by simp[KT.st,KT.eqb,jR]
 | .str x,.str y=>by simp[KT.st,KT.eqb,jR]
 | .tup l,.tup m=>by simp[KT.st,KT.eqb,jR,eqbL_st l m]
 | .int _,.str _=>by simp[KT.st,KT.eqb,jR]
 | .int _,.tup _=>by simp[KT.st,KT.eqb,jR]
 | .str _,.int _=>by simp[KT.st,KT.eqb,jR]
 | .str _,.tup _=>by simp[KT.st,KT.eqb,jR]
 | .tup _,.int _=>by simp[KT.st,KT.eqb,jR]
 | .tup _,.str _=>by simp[KT.st,KT.eqb,jR]
def eqbL_st:∀ l m:jp,jR (stL l) (stL m)=jR l m
 | [],[]=>by simp[stL,jR]
 | a::l,b::m=>by simp[stL,jR,HZ a b,eqbL_st l m]
 | [],_::_=>by simp[stL,jR]
 | _::_,[]=>by simp[stL,jR]
end
def Gi:∀ l:jp,ltL l l=false
 | []=>by rw[ltL]
 | a::l=>by rw[ltL,NY a,aO rfl,Gi l]
def Hh{l m:jp}(h:jR l m=true):ltL l m=false:=by
 rw[eqbL_eq l m h];exact Gi m
mutual
def Gr:∀ a b:KT,a.st.cmp b.st=true
 | .int i,.int j=>by simp[KT.st,KT.eqb,KT.cmp,cmpL]
 | .str x,.str y=>by simp[KT.st,KT.eqb,KT.cmp,cmpL]
 | .tup l,.tup m=>by simp[KT.st,KT.eqb,KT.cmp,cmpL,cmpL_st l m]
 | .int _,.str _=>by simp[KT.st,KT.eqb,KT.cmp,cmpL]
 | .int _,.tup _=>by simp[KT.st,KT.eqb,KT.cmp,cmpL]
 | .str _,.int _=>by simp[KT.st,KT.eqb,KT.cmp,cmpL]
 | .str _,.tup _=>by simp[KT.st,KT.eqb,KT.cmp,cmpL]
 | .tup _,.int _=>by simp[KT.st,KT.eqb,KT.cmp,cmpL]
 | .tup _,.str _=>by simp[KT.st,KT.eqb,KT.cmp,cmpL]
def cmpL_st:∀ l m:jp,cmpL (stL l) (stL m)=true
 | [],_=>by simp[stL,cmpL]
 | _::_,[]=>by simp[stL,cmpL]
 | a::l,b::m=>by
  rw[stL,stL,cmpL,cmpL_st l m,Gr a b];split <;> rfl
end
mutual
def GE:∀ a b:KT,a.st.plt b.st=a.lt b
 | .int i,.int j=>by
  simp only[KT.st,KT.eqb,KT.plt,pltL,KT.lt,beq_self_eq_true,if_true];by_cases h:i=j
  ·subst h;simp
  ·simp[h]
 | .str x,.str y=>by
  simp only[KT.st,KT.eqb,KT.plt,pltL,KT.lt,beq_self_eq_true,if_true];by_cases h:x=y
  ·subst h;simp
  ·simp[h]
 | .tup l,.tup m=>by
  simp only[KT.st,KT.eqb,KT.plt,pltL,KT.lt,beq_self_eq_true,if_true,eqbL_st,pltL_st l m]
  cases h:jR l m with
  | true=>rw[aO rfl,Hh h]
  | false=>rw[aM zV]
 | .int _,.str _=>by simp[KT.st,KT.eqb,KT.plt,pltL,KT.lt]
 | .int _,.tup _=>by simp[KT.st,KT.eqb,KT.plt,pltL,KT.lt]
 | .str _,.int _=>by simp[KT.st,KT.eqb,KT.plt,pltL,KT.lt]
 | .str _,.tup _=>by simp[KT.st,KT.eqb,KT.plt,pltL,KT.lt]
 | .tup _,.int _=>by simp[KT.st,KT.eqb,KT.plt,pltL,KT.lt]
 | .tup _,.str _=>by simp[KT.st,KT.eqb,KT.plt,pltL,KT.lt]
def pltL_st:∀ l m:jp,pltL (stL l) (stL m)=ltL l m
 | [],[]=>by simp[stL,pltL,ltL]
 | [],_::_=>by simp[stL,pltL,ltL]
 | _::_,[]=>by simp[stL,pltL,ltL]
 | a::l,b::m=>by rw[stL,stL,pltL,ltL,HZ a b,pltL_st l m,GE a b]
end
mutual
def HN:∀ t:KT,t.st.depth<=2 * t.depth+1
 | .int i=>by simp[KT.st,KT.depth,jS]
 | .str x=>by simp[KT.st,KT.depth,jS]
 | .tup l=>by
  have:=depthL_st l;simp only[KT.st,KT.depth,jS]
  lia
def depthL_st:∀ l:jp,jS (stL l)<=2 * jS l+1
 | []=>by simp[stL,jS]
 | t::l=>by
  have a:=HN t;have b:=depthL_st l;rw[stL,jS,jS]
  lia
end
def Jp{l:jp}(a:l.length<=4)(b:fitsL l 2=true):(KT.tup l).fits 3=true:=by
 rw[KT.fits,zT,zT];exact⟨rfl,aK a,b⟩
def Ep{x:Str}(a:x.cps.size<=40)(b:x.cps.toList.all Uc=true):Pv x=true:=by
 unfold Pv;rw[zT];exact⟨aK a,b⟩
inductive TG where
 | int (i:Int)
 | str (x:Str)
 | tup (l:List TG)
 | odd (n:String)
mutual
def TG.fits:TG->Nat->Bool
 | .int i,_=>decide (i.natAbs<10 ^ 60)
 | .str x,_=>Pv x
 | .tup l,r=>decide (0<r)&&(decide (l.length<=4)&&gfitsL l (r-1))
 | .odd _,_=>false
def gfitsL:List TG->Nat->Bool
 | [],_=>true
 | t::l,r=>t.fits r&&gfitsL l r
end
end Tw
namespace Tw
open PySem PySem.Spec L2
structure ZB(P:al)(w:ar)(K:zZ)(mg:jb)(jV:aC)(k:Nat)(x:Str)(ps:jr)(sp:Sp):Prop where
 ex:∃ f fd,ZI P w K mg jV ZZ k f fd ps sp/\Zx K fd ps []/\yU K (.ref f)=true/\mg x=some (.ref f)
def Zp{X:Cx}{k:Nat}{x:Str}{q:jr}{h:Sp}{e:Expr}{a:jy}{t:TA}{p c:aI}(D:ZB X.prog X.w X.K X.mg X.base k x q h)(n:ZW k X.A)(i:PA X (e::a) t)(l:Gl X x:=by rfl)(d:(x==("__debug__" : Str))=false:=by decide)(j:aq (e::a) X.env=(false,aG e X.env)::aq a X.env:=by rfl)(g:(aE c (aq a X.env)).any (·.1)=false:=by rfl):
  PE X (.Call (.Name x p) (e::a) [] c) (Ls h [] E0 t):=by
 obtain⟨f,r,F,b,o,m⟩:=D.ex;exact GD F n l m o b .nil Yu i d j g
mutual
def ZG(H:Hp):KT->V->Prop
 | .int i,v=>v=.int i
 | .str x,v=>v=.str x
 | .tup l,v=>∃ a vs,v=.ref a/\H a=some (.tup vs)/\jP H l vs
def jP(H:Hp):jp->je->Prop
 | [],vs=>vs=[]
 | t::l,vs=>∃ v r,vs=v::r/\ZG H t v/\jP H l r
end
def YK(H c:Hp):Prop:=∀ b a,H b=some (.tup a)->c b=some (.tup a)
mutual
def ZG.mono{H H':Hp}(m:YK H H'):∀(t:KT)(v:V),ZG H t v->ZG H' t v
 | .int _,_,h=>by rw[ZG] at h⊢;exact h
 | .str _,_,h=>by rw[ZG] at h⊢;exact h
 | .tup l,_,h=>by
  rw[ZG] at h⊢;obtain⟨a,vs,e,h1,h2⟩:=h;exact⟨a,vs,e,m a vs h1,jP.mono m l vs h2⟩
def jP.mono{H H':Hp}(m:YK H H'):∀(l:jp)(vs:je),jP H l vs->jP H' l vs
 | [],_,h=>by rw[jP] at h⊢;exact h
 | t::l,_,h=>by
  rw[jP] at h⊢;obtain⟨v,r,e,h1,h2⟩:=h;exact⟨v,r,e,ZG.mono m t v h1,jP.mono m l r h2⟩
end
def jP.nil{H:Hp}:jP H [] []:=by rw[jP]
def jP.cons{H:Hp}{t:KT}{l:jp}{v:V}{r:je}(h:ZG H t v)(a:jP H l r):jP H (t::l) (v::r):=by
 rw[jP];exact⟨v,r,rfl,h,a⟩
def ZG.tup{H:Hp}{a:aj}{b:je}{l:jp}(e:H a=some (.tup b))(h:jP H l b):ZG H (.tup l) (.ref a):=by
 rw[ZG];exact⟨a,b,rfl,e,h⟩
def ZG.int{H:Hp}(i:Int):ZG H (.int i) (.int i):=by rw[ZG]
def ZG.str{H:Hp}(x:Str):ZG H (.str x) (.str x):=by rw[ZG]
def jP.append{H:Hp}:∀{l m:jp}{a b:je},jP H l a->jP H m b->jP H (l++m) (a++b)
 | [],m,a,b,h,g=>by rw[jP] at h;subst h;exact g
 | t::l,m,a,b,h,g=>by
  rw[jP] at h;obtain⟨v,r,rfl,c,d⟩:=h;exact .cons c (d.append g)
def jP.length{H:Hp}:∀{l:jp}{a:je},jP H l a->l.length=a.length
 | [],a,h=>by rw[jP] at h;subst h;rfl
 | t::l,a,h=>by
  rw[jP] at h;obtain⟨v,r,rfl,_,b⟩:=h;rw[yH,yH,b.length]
def jP.get{H:Hp}:∀{l:jp}{a:je}{i:Nat}{v:V},jP H l a->a[i]? = some v->∃ t,l[i]? = some t/\ZG H t v
 | [],a,i,v,h,e=>by rw[jP] at h;subst h;simp at e
 | t::l,a,0,v,h,e=>by
  rw[jP] at h;obtain⟨j,r,rfl,d,_⟩:=h;simp at e;subst e;exact⟨t,rfl,d⟩
 | t::l,a,i+1,v,h,e=>by
  rw[jP] at h;obtain⟨j,r,rfl,_,f⟩:=h;obtain⟨g,b,c⟩:=f.get (i:=i) (by simpa using e)
  exact⟨g,by simpa using b,c⟩
def KT.ty:KT->ai
 | .int _=>.type "int"
 | .str _=>.type "str"
 | .tup _=>.type "tuple"
def ZG.ty{H:Hp}{K:zZ}{t:KT}{v:V}(h:ZG H t v):Ys K H v t.ty:=by
 cases t with
 | int i=>rw[ZG] at h;subst h;exact .int i
 | str x=>rw[ZG] at h;subst h;exact .str x
 | tup l=>rw[ZG] at h;obtain⟨a,b,rfl,e,_⟩:=h;exact .tup e
def ZJ(p:aj)(H a:Hp):Prop:=∀ b o,H b=some o->b≠p->a b=some o
def ZJ.refl(p:aj)(H:Hp):ZJ p H H:=λ_ _ h _=>h
def ZJ.trans{p:aj}{H d e:Hp}(a:ZJ p H d)(b:ZJ p d e):ZJ p H e:=λc o h n=>b c o (a c o h n) n
def ZJ.upd{p:aj}{H b:Hp}{o:HO}(a:ZJ p H b):ZJ p H (L2.upd b p o):=λc u h n=>by rw[ZM n];exact a c u h n
def ZJ.of{p:aj}{H b:Hp}(a:ZC H b):ZJ p H b:=λc o h _=>a c o h
def ZJ.tups{p:aj}{H c:Hp}{d:je}(a:ZJ p H c)(h:H p=some (.lst d)):YK H c:=λb f e=>a b _ e (ZD e h)
def ZC.tups{H c:Hp}(a:ZC H c):YK H c:=λb d e=>a b _ e
def ZG.sm{H a:Hp}{t:KT}{v:V}(h:ZG H t v)(s:ZC H a):ZG a t v:=h.mono (ZC.tups s) _ _
def jP.sm{H a:Hp}{t:jp}{v:je}(h:jP H t v)(s:ZC H a):jP a t v:=h.mono (ZC.tups s) _ _
def Za{H:Hp}{p:aj}(h:H p=none)(o:HO):ZC H (L2.upd H p o):=λb u q=>by rw[ZM (ZY q h)];exact q
structure ZL(H:Hp)(p:aj):Prop where
 ex:∃ a b c d:Int,H p=some (.lst [.int a,.int b,.int c,.int d])/\0<=a/\a<2147483647/\0<=c/\0<=d
def ZL.same{H f:Hp}{p:aj}(w:ZL H p)(s:ZC H f):ZL f p:=by
 obtain⟨a,b,c,d,e,r⟩:=w.ex;exact⟨a,b,c,d,s p _ e,r⟩
def ZL.some{H:Hp}{p:aj}(w:ZL H p):∃ f,H p=zH (.lst f):=by
 obtain⟨a,b,c,d,e,r⟩:=w.ex;exact⟨_,e⟩
def ZJ.tupsW{p:aj}{H b:Hp}(a:ZJ p H b)(w:ZL H p):YK H b:=by
 obtain⟨c,e⟩:=w.some;exact a.tups e
def Jl(m:Int):Prop:=0<m/\m.natAbs.log2<9000
inductive Vd(K:zZ)(d:je)(H:Hp)(Q:VK)(_:XK):Prop
 |mk(a:aj)(c:jz)(k:Int)(_:d=[.ref a,.int k])(_:ZH K H a (c.map V.int))(_:c.length<=63)(_:0<=k)(_:k<=1000)(_:∀(p:aj)(b:Hp),H p=none->ZC H b->ZL b p->Q (.ref p) b)
inductive YT(b:je)(H:Hp)(Q:VK)(_:XK):Prop
 |mk(p:aj)(m:Int)(_:b=[.ref p,.int m])(_:ZL H p)(_:Jl m)(_:∀(r:Int)(a:Hp),0<=r->r<m->ZL a p->ZJ p H a->Q (.int r) a)
inductive XH(n:Nat)(b:je)(H:Hp)(Q:VK)(_:XK):Prop
 |mk(v:V)(t:KT)(r q:Nat)(_:b=[v,.int (r:Int)])(_:ZG H t v)(_:t.fits q=true)(_:r<n)(_:∀ a,ZC H a->Q (.bl (t.fits r)) a)
inductive Vx(a:je)(H:Hp)(Q:VK)(_:XK):Prop
 |mk(i:Int)(_:a=[.int i])(_:Q (.bl (decide (i.natAbs<10 ^ 60))) H)
inductive Wa(a:je)(H:Hp)(Q:VK)(_:XK):Prop
 |mk(c:Nat)(_:a=[.str ⟨#[c]⟩])(_:Q (.bl (Uc c)) H)
inductive Wh(b:je)(H:Hp)(Q:VK)(_:XK):Prop
 |mk(v:V)(t:KT)(q:Nat)(_:b=[v])(_:ZG H t v)(_:t.fits q=true)(_:∀ a,ZC H a->Q (.bl (t.fits 3)) a)
def nn{n:Nat}(h:n<=1000):n<=sizeLine:=xX (YQ h)
def YC{n:Nat}(h:Nat.ble n 1000=true:=by rfl):n<=sizeLine:=nn (yP h)
def Lo{x y:V}{i:Int}(a:0<=i)(b:i<2):∃ v,XX [x,y] i=some v/\(v=x\/v=y):=by
 rcases(show i=0\/i=1 by lia) with e | e
 ·subst e;exact⟨x,rfl,.inl rfl⟩
 ·subst e;exact⟨y,rfl,.inr rfl⟩
def Mc{b:Type}{xs:List b}{i:Int}(c:0<=i)(d:i<(xs.length:Int)):∃ v,XX xs i=some v/\v∈xs:=by
 have a:i.toNat<xs.length:=∅
 have e:i=((i.toNat:Nat):Int):=∅
 rw[e];exact⟨xs[i.toNat],WD (zU a),xG a⟩
def VW{m:Int}(a:0<m)(b:m.natAbs<2 ^ 250):Jl m:=by
 exists a;have:m.natAbs.log2<250:=(Nat.log2_lt ∅).mpr b
 lia
def Dj{i j:Int}(h:V.int i=V.int j):i=j:=by injection h
def ZJh(c:Nat):((!decide ([c]<[32])) && !decide ([126]<[c]))=Uc c:=by
 unfold Uc;have a:([c]<[32]) ↔ c<32:=by simp[vF]
 have b:([126]<[c]) ↔ 126<c:=by simp[vF]
 rw[xH];simp only[zT,tQ,decide_eq_false_iff_not,decide_eq_true_eq,a,b]
 lia
def ZN4(i:Int):decide ((if i<0 then -i else i)<10 ^ (60:Int).toNat)=decide (i.natAbs<10 ^ 60):=by
 have e:((10:Int) ^ (60:Int).toNat)=((10 ^ 60:Nat):Int):=by decide +kernel
 rw[e];generalize (10 ^ 60:Nat)=N;apply decide_eq_decide.mpr;split <;> lia
end Tw
namespace Tw
open PySem
def Ha:∀(l m:jo),l<m->¬ m<l
 | [],[],h,_=>absurd h (vC _)
 | [],_::_,_,h=>absurd h (vC _)
 | _::_,[],h,_=>absurd h (vC _)
 | a::l,b::m,h,c=>by
  rw[vF] at h c;rcases h with h | ⟨rfl,h⟩
  ·rcases c with c | ⟨rfl,c⟩
   ·lia
   ·lia
  ·rcases c with c | ⟨_,c⟩
   ·lia
   ·exact Ha l m h c
def G7:∀(l m:jo),¬ l<m->¬ m<l->l=m
 | [],[],_,_=>rfl
 | [],_::_,h,_=>absurd (sG _ _) h
 | _::_,[],_,h=>absurd (sG _ _) h
 | a::l,b::m,h,h'=>by
  rw[vF] at h h';have e:a=b:=by
   rcases Nat.lt_trichotomy a b with c | c | c
   ·exact absurd (.inl c) h
   ·exact c
   ·exact absurd (.inl c) h'
  subst e;rw[G7 l m (λz=>h (.inr ⟨rfl,z⟩)) λz=>h' (.inr ⟨rfl,z⟩)]
def GC:∀(l m k:jo),l<m->m<k->l<k
 | _,_,[],_,h=>absurd h (vC _)
 | [],_,_::_,_,_=>sG _ _
 | _::_,[],_,h,_=>absurd h (vC _)
 | a::l,b::m,c::k,h,d=>by
  rw[vF] at h d⊢;rcases h with h | ⟨rfl,h⟩
  ·rcases d with d | ⟨rfl,d⟩
   ·exact .inl (Nat.lt_trans h d)
   ·exact .inl h
  ·rcases d with d | ⟨rfl,d⟩
   ·exact .inl d
   ·exact .inr ⟨rfl,GC l m k h d⟩
def eqb_comm'(a b:KT):a.eqb b=b.eqb a:=by
 rw[xH,Yn,Yn];exact eq_comm
mutual
def O1:∀(a b:KT),a.lt b=true->b.lt a=false
 | .int i,.int j,h=>by rw[KT.lt] at h⊢;have:=of_decide_eq_true h;exact aJ ∅
 | .int _,.str _,_=>by rw[KT.lt]
 | .int _,.tup _,_=>by rw[KT.lt]
 | .str _,.int _,h=>by rw[KT.lt] at h;cases h
 | .str x,.str y,h=>by rw[KT.lt] at h⊢;exact aJ (Ha _ _ (of_decide_eq_true h))
 | .str _,.tup _,_=>by rw[KT.lt]
 | .tup _,.int _,h=>by rw[KT.lt] at h;cases h
 | .tup _,.str _,h=>by rw[KT.lt] at h;cases h
 | .tup l,.tup m,h=>by rw[KT.lt] at h⊢;exact ltL_asym l m h
def ltL_asym:∀(l m:jp),ltL l m=true->ltL m l=false
 | [],[],h=>by rw[ltL] at h;cases h
 | [],_::_,_=>by rw[ltL]
 | _::_,[],h=>by rw[ltL] at h;cases h
 | a::l,b::m,h=>by
  rw[ltL] at h⊢;rw[eqb_comm' b a]
  cases e:a.eqb b with
  | true=>rw[e,aO rfl] at h;rw[aO rfl];exact ltL_asym l m h
  | false=>rw[e,aM zV] at h;rw[aM zV];exact O1 a b h
end
mutual
def Ih:∀(a b:KT),a.lt b=false->b.lt a=false->a=b
 | .int i,.int j,h,h'=>by rw[KT.lt] at h h';have:=of_decide_eq_false h;have:=of_decide_eq_false h';rw[show i=j by lia]
 | .int _,.str _,h,_=>by rw[KT.lt] at h;cases h
 | .int _,.tup _,h,_=>by rw[KT.lt] at h;cases h
 | .str _,.int _,_,h=>by rw[KT.lt] at h;cases h
 | .str x,.str y,h,h'=>by
  rw[KT.lt] at h h';have e:=G7 _ _ (of_decide_eq_false h) (of_decide_eq_false h');obtain⟨⟨x⟩⟩:=x;obtain⟨⟨y⟩⟩:=y;dsimp only at e;rw[e]
 | .str _,.tup _,h,_=>by rw[KT.lt] at h;cases h
 | .tup _,.int _,_,h=>by rw[KT.lt] at h;cases h
 | .tup _,.str _,_,h=>by rw[KT.lt] at h;cases h
 | .tup l,.tup m,h,h'=>by rw[KT.lt] at h h';rw[ltL_total l m h h']
def ltL_total:∀(l m:jp),ltL l m=false->ltL m l=false->l=m
 | [],[],_,_=>rfl
 | [],_::_,h,_=>by rw[ltL] at h;cases h
 | _::_,[],_,h=>by rw[ltL] at h;cases h
 | a::l,b::m,h,h'=>by
  rw[ltL] at h h';rw[eqb_comm' b a] at h'
  cases e:a.eqb b with
  | true=>rw[e,aO rfl] at h h';rw[Yn.mp e,ltL_total l m h h']
  | false=>
   rw[e,aM zV] at h h';have:=Ih a b h h';rw[this,NY] at e;cases e
end
def Np(a:KT):a.lt a=false:=by
 cases h:a.lt a with
 | false=>rfl
 | true=>have:=O1 a a h;rw[h] at this;cases this
mutual
def lt_trans':∀(a b c:KT),a.lt b=true->b.lt c=true->a.lt c=true
 | .int i,.int j,.int k,h,h'=>by rw[KT.lt] at h h'⊢;have:=of_decide_eq_true h;have:=of_decide_eq_true h';exact aK ∅
 | .int _,_,.str _,_,_=>by rw[KT.lt]
 | .int _,_,.tup _,_,_=>by rw[KT.lt]
 | .str _,_,.tup _,_,_=>by rw[KT.lt]
 | .int _,.str _,.int _,_,h=>by rw[KT.lt] at h;cases h
 | .int _,.tup _,.int _,_,h=>by rw[KT.lt] at h;cases h
 | .str _,.int _,_,h,_=>by rw[KT.lt] at h;cases h
 | .str x,.str y,.str z,h,h'=>by rw[KT.lt] at h h'⊢;exact aK (GC _ _ _ (of_decide_eq_true h) (of_decide_eq_true h'))
 | .str _,.str _,.int _,_,h=>by rw[KT.lt] at h;cases h
 | .str _,.tup _,.str _,_,h=>by rw[KT.lt] at h;cases h
 | .str _,.tup _,.int _,_,h=>by rw[KT.lt] at h;cases h
 | .tup _,.int _,_,h,_=>by rw[KT.lt] at h;cases h
 | .tup _,.str _,_,h,_=>by rw[KT.lt] at h;cases h
 | .tup l,.tup m,.tup k,h,h'=>by rw[KT.lt] at h h'⊢;exact ltL_trans l m k h h'
 | .tup _,.tup _,.int _,_,h=>by rw[KT.lt] at h;cases h
 | .tup _,.tup _,.str _,_,h=>by rw[KT.lt] at h;cases h
def ltL_trans:∀(l m k:jp),ltL l m=true->ltL m k=true->ltL l k=true
 | _,[],[],_,h=>by rw[ltL] at h;cases h
 | _,_::_,[],_,h=>by rw[ltL] at h;cases h
 | [],_,_::_,_,_=>by rw[ltL]
 | _::_,[],_::_,h,_=>by rw[ltL] at h;cases h
 | a::l,b::m,c::k,h,h'=>by
  rw[ltL] at h h'⊢
  cases e:a.eqb b with
  | true=>
   rw[e,aO rfl] at h;have ab:=Yn.mp e;subst ab
   cases e2:a.eqb c with
   | true=>rw[e2,aO rfl] at h';rw[aO rfl];exact ltL_trans l m k h h'
   | false=>rw[e2,aM zV] at h';rw[aM zV];exact h'
  | false=>
   rw[e,aM zV] at h
   cases e2:b.eqb c with
   | true=>
    have bc:=Yn.mp e2;subst bc;rw[e,aM zV];exact h
   | false=>
    rw[e2,aM zV] at h';have ac:=lt_trans' a b c h h'
    cases e3:a.eqb c with
    | true=>
     have:=Yn.mp e3;subst this;rw[Np] at ac;cases ac
    | false=>rw[aM zV];exact ac
end
def le_trans'{a b c:KT}(f:b.lt a=false)(d:c.lt b=false):c.lt a=false:=by
 cases h:c.lt a with
 | false=>rfl
 | true=>
  cases e:a.lt b with
  | true=>rw[lt_trans' c a b h e] at d;cases d
  | false=>rw[Ih a b e f,d] at h;cases h
end Tw
namespace Tw
open PySem PySem.Spec L2 PyProof.Rows
mutual
def ZV(h:aC):KT->ai->Prop
 | .int i,v=>∃ t,v=.int i t
 | .str x,v=>∃ t,v=.str x t
 | .tup l,v=>∃(a:aj)(its:jd),v=.ref a/\IsTup h a its.toArray/\jQ h l its
def jQ(h:aC):jp->jd->Prop
 | [],vs=>vs=[]
 | t::l,vs=>∃ v r,vs=v::r/\ZV h t v/\jQ h l r
end
section
variable{jU:js}{σ:L2.St}{H:Hp}
mutual
def MI(I:ZF X jU σ H s):∀(t:KT)(x:V)(v:ai),ZG H t x->ZS x v->ZV s.heap t v
 | .int i,x,v,h,r=>by
  rw[ZG] at h;subst h;rw[ZV];exact r
 | .str y,x,v,h,r=>by
  rw[ZG] at h;subst h;rw[ZV];exact r
 | .tup l,x,v,h,r=>by
  rw[ZG] at h;obtain⟨a,vs,rfl,e,hk⟩:=h;obtain⟨its,rv,pl,_⟩:=I.tuple (Zd.of e);rw[ZV];exact⟨a,its,r,pl,kvals_of I l vs its hk rv⟩
def kvals_of(I:ZF X jU σ H s):∀(l:jp)(vs:je)(us:jd),jP H l vs->ZO vs us->jQ s.heap l us
 | [],vs,us,h,r=>by
  rw[jP] at h;subst h;rw[jQ];cases r;rfl
 | t::l,vs,us,h,r=>by
  rw[jP] at h;obtain⟨v,q,rfl,h1,h2⟩:=h
  cases r with
  | cons r1 r2=>
   rw[jQ];exact⟨_,_,rfl,MI I t v _ h1 r1,kvals_of I l q _ h2 r2⟩
end
end
def Fd{h:aC}{a:aj}{c b:jd}(x:IsTup h a c.toArray)(y:IsTup h a b.toArray):c=b:=by
 obtain⟨o,e,_,n,d⟩:=x;obtain⟨j,g,_,i,f⟩:=y;rw[e] at g;cases g;rw[d] at f;injection f with d1 _;simpa using congrArg uC d1
mutual
def ZV.inj{h:aC}:∀(a b:KT)(v:ai),ZV h a v->ZV h b v->a.eqb b=true
 | .int i,b,v,x,y=>by
  rw[ZV] at x;obtain⟨t,rfl⟩:=x
  cases b with
  | int j=>rw[ZV] at y;obtain⟨u,e⟩:=y;injection e with e _;rw[KT.eqb,e];exact beq_self_eq_true j
  | str z=>rw[ZV] at y;obtain⟨u,e⟩:=y;cases e
  | tup m=>rw[ZV] at y;obtain⟨_,_,e,_⟩:=y;cases e
 | .str w,b,v,x,y=>by
  rw[ZV] at x;obtain⟨t,rfl⟩:=x
  cases b with
  | int j=>rw[ZV] at y;obtain⟨u,e⟩:=y;cases e
  | str z=>rw[ZV] at y;obtain⟨u,e⟩:=y;injection e with e _;rw[KT.eqb,e];exact beq_self_eq_true z
  | tup m=>rw[ZV] at y;obtain⟨_,_,e,_⟩:=y;cases e
 | .tup l,b,v,x,y=>by
  rw[ZV] at x;obtain⟨p,its,rfl,px,kx⟩:=x
  cases b with
  | int j=>rw[ZV] at y;obtain⟨u,e⟩:=y;cases e
  | str z=>rw[ZV] at y;obtain⟨u,e⟩:=y;cases e
  | tup m=>
   rw[ZV] at y;obtain⟨q,its',e,py,ky⟩:=y;cases e;cases Fd px py;rw[KT.eqb];exact jQ.inj l m its kx ky
def jQ.inj{h:aC}:∀(l m:jp)(us:jd),jQ h l us->jQ h m us->jR l m=true
 | [],m,us,x,y=>by
  rw[jQ] at x;subst x
  cases m with
  | nil=>rw[jR]
  | cons b m=>rw[jQ] at y;obtain⟨_,_,e,_⟩:=y;cases e
 | a::l,m,us,x,y=>by
  rw[jQ] at x;obtain⟨v,r,rfl,x1,x2⟩:=x
  cases m with
  | nil=>rw[jQ] at y;cases y
  | cons b m=>
   rw[jQ] at y;obtain⟨v',r',e,y1,y2⟩:=y;injection e with e1 e2;subst e1 e2;rw[jR,ZV.inj a b v x1 y1,jQ.inj l m r x2 y2];rfl
end
def jQ.length{h:aC}:∀{l:jp}{b:jd},jQ h l b->l.length=b.length
 | [],b,x=>by rw[jQ] at x;subst x;rfl
 | a::l,b,x=>by
  rw[jQ] at x;obtain⟨v,r,rfl,_,c⟩:=x;rw[yH,yH,c.length]
def jQ.get{h:aC}:∀{l:jp}{b:jd}{j:Nat}{u:ai},jQ h l b->b[j]? = some u->∃ t,l[j]? = some t/\ZV h t u
 | [],b,j,u,x,e=>by rw[jQ] at x;subst x;simp at e
 | a::l,b,0,u,x,e=>by
  rw[jQ] at x;obtain⟨v,r,rfl,f,_⟩:=x;simp at e;subst e;exact⟨a,rfl,f⟩
 | a::l,b,j+1,u,x,e=>by
  rw[jQ] at x;obtain⟨v,r,rfl,_,g⟩:=x;obtain⟨t,c,d⟩:=g.get (j:=j) (by simpa using e)
  exact⟨t,by simpa using c,d⟩
def OZ:∀{l:jp}{t:KT},t∈l->t.depth<=jS l
 | [],_,h=>by cases h
 | u::l,t,h=>by
  rw[jS];rcases yZ.mp h with e | h
  ·subst e;lia
  ·have:=OZ h;lia
def J7:∀(l m:jp),((zQ (min l.length m.length)).all (λj=>(l.getD j (.int 0)).eqb (m.getD j (.int 0)))&&l.length==m.length)=jR l m
 | [],[]=>by simp[jR]
 | [],_::_=>by simp[jR]
 | _::_,[]=>by simp[jR]
 | a::l,b::m=>by
  have c:=J7 l m;have e:min (a::l).length (b::m).length=min l.length m.length+1:=by simp only[yH];lia
  rw[e,List.range_succ_eq_map,uZ,wG,jR,<-c,Bool.and_assoc];simp[Function.comp_def]
def Ku{s:ak}:∀(n:Nat)(a b:KT)(A:aw)(v u:ai),a.depth<=n->ZV s.heap a v->ZV s.heap b u->A.units+a.depth<cLine->SeqAt.EqAt A s v u (a.eqb b)
 | n,.int i,b,A,v,u,_,x,y,o=>by
  rw[ZV] at x;obtain⟨t,rfl⟩:=x;have d:A.units<cLine:=∅
  cases b with
  | int j=>rw[ZV] at y;obtain⟨g,rfl⟩:=y;rw[KT.eqb];exact SeqAt.EqAt.int_int i t j g
  | str z=>rw[ZV] at y;obtain⟨g,rfl⟩:=y;rw[show (KT.int i).eqb (.str z)=false by simp[KT.eqb]];exact SeqAt.EqAt.int_str i t z g
  | tup m=>rw[ZV] at y;obtain⟨p,f,rfl,k,_⟩:=y;rw[show (KT.int i).eqb (.tup m)=false by simp[KT.eqb]];exact SeqAt.EqAt.int_tuple i t k d
 | n,.str w,b,A,v,u,_,x,y,o=>by
  rw[ZV] at x;obtain⟨t,rfl⟩:=x;have d:A.units<cLine:=∅
  cases b with
  | int j=>rw[ZV] at y;obtain⟨g,rfl⟩:=y;rw[show (KT.str w).eqb (.int j)=false by simp[KT.eqb]];exact SeqAt.EqAt.str_int w t j g
  | str z=>rw[ZV] at y;obtain⟨g,rfl⟩:=y;rw[KT.eqb];exact SeqAt.EqAt.str_str w t z g
  | tup m=>rw[ZV] at y;obtain⟨p,f,rfl,k,_⟩:=y;rw[show (KT.str w).eqb (.tup m)=false by simp[KT.eqb]];exact SeqAt.EqAt.str_tuple w t k d
 | 0,.tup l,b,A,v,u,C,x,y,o=>by
  rw[KT.depth] at C
  lia
 | n+1,.tup l,b,A,v,u,C,x,y,o=>by
  have U:=x;rw[ZV] at x;obtain⟨p,f,rfl,D,G⟩:=x;rw[KT.depth] at C o;have d:A.units<cLine:=∅
  cases b with
  | int j=>rw[ZV] at y;obtain⟨g,rfl⟩:=y;rw[show (KT.tup l).eqb (.int j)=false by simp[KT.eqb]];exact SeqAt.EqAt.tuple_int j g D d
  | str z=>rw[ZV] at y;obtain⟨g,rfl⟩:=y;rw[show (KT.tup l).eqb (.str z)=false by simp[KT.eqb]];exact SeqAt.EqAt.tuple_str z g D d
  | tup m=>
   have V:=y;rw[ZV] at y;obtain⟨q,c,rfl,k,H⟩:=y;by_cases h:p=q
   ·subst h;rw[ZV.inj _ _ _ U V];exact SeqAt.EqAt.same _
   ·have S:=G.length;have T:=H.length;have I:=SeqAt.RcAt.tuples (A:=A) (s:=s) (e:=λj=>(l.getD j (.int 0)).eqb (m.getD j (.int 0))) D k d (λj O P=>by
     have r:j<f.length:=by simpa using O
     have B:j<c.length:=by simpa using P
     obtain⟨E,F,Q⟩:=G.get (j:=j) (u:=f[j]) (by simp[r])
     obtain⟨J,K,R⟩:=H.get (j:=j) (u:=c[j]) (by simp[B])
     have W:=OZ (zA F);have M:l.getD j (.int 0)=E:=by rw[zP,F];rfl
     have N:m.getD j (.int 0)=J:=by rw[zP,K];rfl
     have:=Ku n E J A.in1 f[j] c[j] ∅ Q R (by show A.units+1+E.depth<cLine;lia)
     show SeqAt.EqAt A.in1 s _ _ ((l.getD j (.int 0)).eqb (m.getD j (.int 0)));rw[M,N];simpa using this)
    have L:((zQ (min f.toArray.size c.toArray.size)).all (λj=>(l.getD j (.int 0)).eqb (m.getD j (.int 0)))&&f.toArray.size==c.toArray.size)=(KT.tup l).eqb (.tup m):=by
     rw[zN,zN,<-S,<-T,KT.eqb];exact J7 l m
    rw[L] at I;exact .of_refs h I
def YY(o:Bool)(a b:KT):Bool:=bif o then !b.plt a else a.plt b
def QG(o:Bool)(l m:jp):Bool:=bif o then !pltL m l else pltL l m
def CZ{o:Bool}{a c:KT}{l m:jp}:QG o (a::l) (c::m)=if a.eqb c=true then QG o l m else YY o a c:=by
 unfold QG YY;rw[pltL,pltL,eqb_comm' c a];cases o <;> cases a.eqb c <;> rfl
def CW{o:Bool}{l m:jp}{i j:Nat}(h:l=[]\/m=[])(e:l.length+j=m.length+i):QG o l m=bif o then decide (i<=j) else decide (i<j):=by
 rcases h with rfl | rfl
 ·cases m <;> cases o <;> simp[QG,pltL] at e⊢ <;> lia
 ·cases l <;> cases o <;> simp[QG,pltL] at e⊢ <;> lia
def MD(o:Bool)(A:aw)(s:ak)(v u:ai)(b:Bool):Prop:=
 ∀(a:al)(w:ar)(E:ja)(Q:ja),Q (.bool b) s->aA (az a w) A (richCompare (bif o then .LtE else .Lt) v u) Q E s
section
open PySem.SeqAt
open PySem.AutoSeq1 (wpAny_loadPart')
open PySem.MeetsSeq PySem.MeetsSeq2 PySem.MeetsSeq3
inductive IQ(c:aC)(d:jp)(n m:Nat)(G:jp->jp->Prop)(rest:List (ai×ai)):Prop
 |mk(e f:jd)(a b:jp):rest=e.zip f->jQ c a e->jQ c b f->(∀ x∈a,x∈d)->cmpL a b=true->a.length+m=b.length+n->G a b->IQ c d n m G rest
def DJ(o:Bool)(l b:aj)(f e:jw)(n n2:Nat)(Z K:jv)(sl O:Array (jc))(D J:jp):
  Meets ((bif o then Builtin.«tuple.__le__» else Builtin.«tuple.__lt__») ⟨[.ref l,.ref b],[]⟩)
   (λA R s=>s.heap.get? l=some { cls:=.type "tuple",dict:=Z,data:=.seq f n,slots:=sl }/\s.heap.get? b=some { cls:=.type "tuple",dict:=K,data:=.seq e n2,slots:=O } /\
    jQ s.heap D f.toList/\jQ s.heap J e.toList/\cmpL D J=true /\
    (∀ x y v u,x∈D->ZV s.heap x v->ZV s.heap y u->EqAt A.in1 s v u (x.eqb y))/\(∀ x y v u,x∈D->ZV s.heap x v->ZV s.heap y u->x.cmp y=true->MD o A.in1 s v u (YY o x y)) /\
    R (.ok (.ret (.bool (QG o D J)))) s):=by
 have P:=@CZ o;have Q:=@CW o;generalize QG o=F at P Q⊢;cases o
 all_goals
  dsimp only[cond_true,cond_false];refine .of_wp λC w A R s h=>?_;obtain⟨L,g,d,Y,X⟩:=s;obtain⟨hl,hb,S,T,hc,hE,hL,h⟩:=h;have f2:=AutoSeq1.sub_tuple_tuple;have z1:f.size=D.length:=by rw[S.length];simp
  have z2:e.size=J.length:=by rw[T.length];simp
  wp_walk using wpAny_loadPart' hl,wpAny_loadPart' hb,wpAny_forIn_list _ (λrest b N=>b.1=none/\N=⟨L,g,d,Y,X⟩/\IQ L D f.size e.size (λa b=>R (.ok (.ret (.bool (F a b)))) ⟨L,g,d,Y,X⟩) rest) _
  case turn=>
   rintro⟨y,x⟩ rest b N ⟨E,rfl,vs,ws,q,r,p,i,j,t,k,m,B⟩
   cases q with
   | nil=>rw[jQ] at i;subst i;rw[List.zip_nil_left] at p;cases p
   | cons a q=>
    cases r with
    | nil=>rw[jQ] at j;subst j;rw[List.zip_nil_right] at p;cases p
    | cons c r=>
     rw[jQ] at i j;obtain⟨v,vr,rfl,V,H⟩:=i;obtain⟨u,ur,rfl,W,I⟩:=j;rw[List.zip_cons_cons] at p;injection p with hyx hrest;injection hyx with hy M;subst hy M;rw[P] at B;rw[cmpL] at k;simp only[yH] at m;have he:=hE a c y x (t a zF) V W;refine aa (he C w _ _ ?_)
     cases U:a.eqb c with
     | true=>
      rw[U,aO rfl] at B k
      wp_walk
      exact⟨rfl,rfl,_,_,_,_,hrest,H,I,λz p=>t z (zD _ p),k,∅,B⟩
     | false=>
      rw[U,aM zV] at B k;have G:=hL a c y x (t a zF) V W k C w;dsimp only[cond_true,cond_false] at G
      wp_walk using G
      exact⟨_,rfl,by simpa using B⟩
  case fin=>
   rintro⟨b1,b2⟩ N ⟨E,rfl,vs,ws,q,r,p,i,j,t,k,m,B⟩;simp only at E;subst E;rw[Q (by
    cases q with
    | nil=>exact .inl rfl
    | cons a q=>
     cases r with
     | nil=>exact .inr rfl
     | cons c r=>
      rw[jQ] at i j;obtain⟨v,vr,rfl,_,_⟩:=i;obtain⟨u,ur,rfl,_,_⟩:=j;rw[List.zip_cons_cons] at p;cases p) m] at B
   wp_walk
   exact⟨_,rfl,by simpa [Builtin.Tuple.tupleCompareSizes] using B⟩
  case h=>
   exact⟨rfl,rfl,f.toList,e.toList,D,J,rfl,S,T,λ_ M=>M,hc,∅,h⟩
end
def JR(o:Bool){s:ak}:∀(n:Nat)(a b:KT)(A:aw)(v u:ai),a.depth<=n->ZV s.heap a v->ZV s.heap b u->a.cmp b=true->A.units+a.depth<cLine->MD o A s v u (YY o a b)
 | n,.int i,b,A,v,u,_,x,y,d,H=>by
  rw[ZV] at x;obtain⟨t,rfl⟩:=x
  cases b with
  | int j=>
   rw[ZV] at y;obtain⟨D,rfl⟩:=y;unfold YY;rw[KT.plt,KT.plt];intro c w E Q h;cases o
   ·exact HT.rcLt_int A s i t j D c w E Q h
   ·exact(le_int (by rw[show decide (i<=j) = !decide (j<i) by by_cases z:j<i <;> simp[z] <;> lia];exact h):aA (az c w) A (ay .LtE (.int i t) (.int j D)) Q E s)
  | str z=>simp[KT.cmp] at d
  | tup m=>simp[KT.cmp] at d
 | n,.str w,b,A,v,u,_,x,y,d,H=>by
  rw[ZV] at x;obtain⟨t,rfl⟩:=x
  cases b with
  | int j=>simp[KT.cmp] at d
  | str z=>
   rw[ZV] at y;obtain⟨D,rfl⟩:=y;unfold YY;rw[KT.plt,KT.plt];intro c w' E Q h;cases o
   ·exact(lt_str h:aA (az c w') A (ay .Lt (.str w t) (.str z D)) Q E s)
   ·exact(PySem.P.le_str h:aA (az c w') A (ay .LtE (.str w t) (.str z D)) Q E s)
  | tup m=>simp[KT.cmp] at d
 | 0,.tup l,b,A,v,u,K,x,y,d,H=>by
  rw[KT.depth] at K
  lia
 | n+1,.tup l,b,A,v,u,K,x,y,d,H=>by
  rw[ZV] at x;obtain⟨p,M,rfl,px,Z⟩:=x;rw[KT.depth] at K H;have B:A.units<cLine:=∅
  cases b with
  | int j=>simp[KT.cmp] at d
  | str z=>simp[KT.cmp] at d
  | tup m=>
   rw[ZV] at y;obtain⟨q,C,rfl,py,ky⟩:=y;rw[KT.cmp] at d;have e:YY o (.tup l) (.tup m)=QG o l m:=by
    unfold YY QG;rw[KT.plt,KT.plt]
   rw[e];intro c w E Q h;obtain⟨⟨cls,dd,data,sl⟩,G,k,R,Y⟩:=id px;obtain⟨⟨V,J,I,U⟩,f,g,S,r⟩:=id py;simp only at k Y g r;subst k Y g r;have W:∀ x y v u,x∈l->ZV s.heap x v->ZV s.heap y u->SeqAt.EqAt A.in1 s v u (x.eqb y):=λx y v u L N O=>by
    have d1:=OZ L;exact Ku x.depth x y A.in1 v u (zY _) N O (by show A.units+1+x.depth<cLine;lia)
   have X:∀ x y v u,x∈l->ZV s.heap x v->ZV s.heap y u->x.cmp y=true->MD o A.in1 s v u (YY o x y):=λx y v u L N O k3=>by
    have d1:=OZ L;exact JR o n x y A.in1 v u ∅ N O k3 (by show A.units+1+x.depth<cLine;lia)
   have T:=DJ o p q M.toArray C.toArray R S dd J sl U l m;cases o
   ·exact richCompare_meets_room (op:=.Lt) ⟨_,G,rfl⟩ ⟨_,f,rfl⟩ PySem.F.slot_tuple_lt PySem.F.entry_tuple_lt (PySem.F.args_tuple_lt_2 _ _) T ⟨G,f,Z,ky,d,W,X,(λx=>nomatch x),h⟩ B
   ·exact richCompare_meets_room (op:=.LtE) ⟨_,G,rfl⟩ ⟨_,f,rfl⟩ PySem.F.slot_tuple_le PySem.F.entry_tuple_le (PySem.F.args_tuple_le_2 _ _) T ⟨G,f,Z,ky,d,W,X,(λx=>nomatch x),h⟩ B
def Hq{s:ak}(n:Nat)(a b:KT)(A:aw)(v u:ai):a.depth<=n->ZV s.heap a v->ZV s.heap b u->a.cmp b=true->A.units+a.depth<cLine->MD false A s v u (a.plt b):=JR false n a b A v u
def ZW.key{k:Nat}{A:aw}(r:ZW k A){n:Nat}(h:n<=200):A.units+n<cLine:=by have:=r.un;lia
inductive KZ(x y:V)(H:Hp)(Q:VK):Prop
 |mk(a b:_)(_:ZG H a x)(_:ZG H b y)(_:a.cmp b=true)(_:a.depth<=200)(_:Q (.bl (a.plt b)) H)
def Ia{k:Nat}(i:ZW k X.A):Yi X (ay .Lt) KZ:=by
 intro c s m H x y v u Q I j l h;obtain⟨a,b,d,e,f,g,q⟩:=h;exact Hq a.depth a b X.A v u (zY _) (MI I a x v d j) (MI I b y u e l) f (ZW.key i g) X.prog X.w X.xe _ ⟨.bl _,H,I,rfl,q⟩
end Tw
namespace L2
open PySem PySem.Spec PyProof.Rows
def ZF.big{a:js}{b:St}{H:Hp}{s:ak}(I:ZF X a b H s):sysModules<s.heap.objs.size:=by
 have h:ao<s.heap.objs.size:=(I.mod.glob.keeps I.bk).lt;exact Nat.lt_trans (by decide) h
def Bt{P:al}{w:ar}{H:Hp}(h:aC)(a:sysModules<h.objs.size):Zb P w H (h.push { cls:=.type "dict",data:=.dict #[] }) h.objs.size (.dK []):=
 ⟨yX _,beq_eq_false_iff_ne.mpr (Ne.symm (zO a)),[],.nil,Heap.DictOf.new h⟩
def ZNy:TE:=λ_ H Q=>∀ p,H p=none->Q (.ref p) (upd H p (.dK []))
def NJ{b:aI}:PE X (.Dict [] [] b) ZNy:=λc s d H Q I h=>
 wpAny_Dict_empty ⟨.ref s.heap.objs.size,_,I.laid (a:=s.heap.objs.size) (o:=.dK []) (t':=s.toks) (λ_ _ q=>zS _ q) (zY _) (Bt s.heap I.big),rfl,h _ (I.hok.fresh (zY _))⟩
def cV:V->ai
 | .ty n=>.type n
 | .ref a=>.ref a
 | _=>.none
def FD:V->Bool
 | .ty _=>true
 | .ref _=>true
 | _=>false
def AF{c:V}{u:ai}(r:ZS c u)(h:FD c=true):u=cV c:=by
 cases c with
 | ty n=>exact r
 | ref a=>exact r
 | _=>cases h
def He{K:zZ}{b:aC}{v:jb}{x:Str}{C:aj}{d:jd}{a:String}(c:K.In b)(E:v x=some (.ref C))(q:uX K C d a=true):OwnCls x C d a v b:=by
 exists E;unfold uX at q;split at q
 ·rename_i B k y G
  split at q
  ·rename_i R A p r s t n u m o
   rw[zT,zT,zT,zT,zT] at q;obtain⟨⟨⟨⟨⟨J,L⟩,M⟩,N⟩,i⟩,O⟩:=q;cases eq_of_beq J;cases eq_of_beq L;have e:k.hasDel=false:=by simpa using M
   have f:=eq_of_beq O;obtain⟨I,bs,H,w,P,F,Q,j,z,g,D⟩:=k;dsimp only at m e i f;subst m e;have h:y=#[p,r,s,t,some (.builtin a),u]:=by
    obtain⟨l⟩:=y;simp only at o;rw[o]
   subst h;exists A,w,I,P,bs,F,Q,j,z,g,B,p,r,s,t,u,b.nsMap w,c _ _ G;exact⟨.of_isNs (PySem.W.isNs_of_in c i),PySem.W.nsMap_none_of_in c i f,rY c N⟩
  ·cases q
 ·cases q
def MG{P:al}{w:ar}{K:zZ}{h:jb}{d:aC}{g:WR}{N:jr}{c:Str}{a:aD}{f:aj}{e:ai}{A:aw}{b:jA}{s:ak}{H:Hp}{E:XK}:
  PassesOwn (az (Wu g P w K h d N c a f e A b s H E).prog (Wu g P w K h d N c a f e A b s H E).w) (Wu g P w K h d N c a f e A b s H E).A (Wu g P w K h d N c a f e A b s H E).env (Wu g P w K h d N c a f e A b s H E).xe:=by
 show PassesOwn (az P w) (A.deeper (envOfC c a s.heap.objs.size f e)) (envOfC c a s.heap.objs.size f e) _
 passes_own
def QW:Expr->Bool
 | .Starred _ _=>false
 | _=>true
def WK{e:Expr}{b:jy}{a:Env}(h:QW e=true):aq (e::b) a=(false,aG e a)::aq b a:=by
 cases e <;> first | rfl | cases h
def Qc{X:Cx}{e:Expr}{a:jy}{b:TE}{t:TA}(c:PE X e b)(d:PA X a t)(h:QW e=true:=by rfl):PA X (e::a) (Y9 b t):=Zf c d (WK h)
def ZX{X:Cx}{e:Expr}{a:TE}(b:PE X e a)(h:QW e=true:=by rfl):PA X [e] (Y9 a VP):=Zf b Zs (WK h)
def Zg{X:Cx}{e d:Expr}{b a:TE}(f:PE X e b)(g:PE X d a)(h:QW e=true:=by rfl)(c:QW d=true:=by rfl):PA X [e,d] (Y9 b (Y9 a VP)):=Zf f (ZX g c) (WK h)
def OY{X:Cx}{a b c:Expr}{d e f:TE}(g:PE X a d)(i:PE X b e)(j:PE X c f)(h:[a,b,c].all QW=true:=by rfl):PA X [a,b,c] (Y9 d (Y9 e (Y9 f VP))):=
 (Zf g (Zf i (Zf j Zs (WK (zK.mp h c (by simp)))) (WK (zK.mp h b (by simp)))) (WK (zK.mp h a (by simp))))
def Pc{X:Cx}{a b c d:Expr}{e f g i:TE}(j:PE X a e)(k:PE X b f)(l:PE X c g)(m:PE X d i)(h:[a,b,c,d].all QW=true:=by rfl):PA X [a,b,c,d] (Y9 e (Y9 f (Y9 g (Y9 i VP)))):=
 (Zf j (Zf k (Zf l (Zf m Zs (WK (zK.mp h d (by simp)))) (WK (zK.mp h c (by simp)))) (WK (zK.mp h b (by simp)))) (WK (zK.mp h a (by simp))))
def Et{X:Cx}{a b c d e:Expr}{f g i j k:TE}(l:PE X a f)(m:PE X b g)(n:PE X c i)(o:PE X d j)(p:PE X e k)(h:[a,b,c,d,e].all QW=true:=by rfl):PA X [a,b,c,d,e] (Y9 f (Y9 g (Y9 i (Y9 j (Y9 k VP))))):=
 (Zf l (Zf m (Zf n (Zf o (Zf p Zs (WK (zK.mp h e (by simp)))) (WK (zK.mp h d (by simp)))) (WK (zK.mp h c (by simp)))) (WK (zK.mp h b (by simp)))) (WK (zK.mp h a (by simp))))
def C9{X:Cx}{a b c d e f:Expr}{g i j k l m:TE}(n:PE X a g)(o:PE X b i)(p:PE X c j)(q:PE X d k)(r:PE X e l)(s:PE X f m)(h:[a,b,c,d,e,f].all QW=true:=by rfl):PA X [a,b,c,d,e,f] (Y9 g (Y9 i (Y9 j (Y9 k (Y9 l (Y9 m VP)))))):=
 (Zf n (Zf o (Zf p (Zf q (Zf r (Zf s Zs (WK (zK.mp h f (by simp)))) (WK (zK.mp h e (by simp)))) (WK (zK.mp h d (by simp)))) (WK (zK.mp h c (by simp)))) (WK (zK.mp h b (by simp)))) (WK (zK.mp h a (by simp))))
end L2
namespace Tw
open PySem PySem.Spec L2
def EM(N:aj->Prop)(H:Hp)(n:String)(v:V):Prop:=
 (n = "bool" /\ ∃ b,v=.bl b)\/(n = "NoneType" /\ v=.non)\/(n = "list" /\ ∃ a d,v=.ref a/\H a=some (.lst d)/\¬ N a)\/(n = "dict" /\ ∃ a c,v=.ref a/\H a=some (.dK c)/\¬ N a)
mutual
def Yl(N:aj->Prop)(H:Hp):TG->V->Prop
 | .int i,v=>v=.int i
 | .str x,v=>v=.str x
 | .tup l,v=>∃ a vs,v=.ref a/\H a=some (.tup vs)/\jT N H l vs
 | .odd n,v=>EM N H n v
def jT(N:aj->Prop)(H:Hp):List TG->je->Prop
 | [],vs=>vs=[]
 | t::l,vs=>∃ v r,vs=v::r/\Yl N H t v/\jT N H l r
end
structure PD(N:aj->Prop)(H H':Hp):Prop where
 tup:YK H H'
 rest:∀ b o,H b=some o->¬ N b->H' b=some o
mutual
def Yl.mono{N:aj->Prop}{H H':Hp}(m:PD N H H'):∀(t:TG)(v:V),Yl N H t v->Yl N H' t v
 | .int _,_,h=>by rw[Yl] at h⊢;exact h
 | .str _,_,h=>by rw[Yl] at h⊢;exact h
 | .tup l,_,h=>by
  rw[Yl] at h⊢;obtain⟨a,vs,e,h1,h2⟩:=h;exact⟨a,vs,e,m.tup a vs h1,jT.mono m l vs h2⟩
 | .odd n,_,h=>by
  rw[Yl] at h⊢;rcases h with h | h | ⟨e,a,xs,e1,e2,e3⟩ | ⟨e,a,xs,e1,e2,e3⟩
  ·exact .inl h
  ·exact .inr (.inl h)
  ·exact .inr (.inr (.inl ⟨e,a,xs,e1,m.rest _ _ e2 e3,e3⟩))
  ·exact .inr (.inr (.inr ⟨e,a,xs,e1,m.rest _ _ e2 e3,e3⟩))
def jT.mono{N:aj->Prop}{H H':Hp}(m:PD N H H'):∀(l:List TG)(vs:je),jT N H l vs->jT N H' l vs
 | [],_,h=>by rw[jT] at h⊢;exact h
 | t::l,_,h=>by
  rw[jT] at h⊢;obtain⟨v,r,e,h1,h2⟩:=h;exact⟨v,r,e,Yl.mono m t v h1,jT.mono m l r h2⟩
end
mutual
def Yl.less{N N':aj->Prop}{H:Hp}(m:∀ b,N' b->N b):∀(t:TG)(v:V),Yl N H t v->Yl N' H t v
 | .int _,_,h=>by rw[Yl] at h⊢;exact h
 | .str _,_,h=>by rw[Yl] at h⊢;exact h
 | .tup l,_,h=>by
  rw[Yl] at h⊢;obtain⟨a,vs,e,h1,h2⟩:=h;exact⟨a,vs,e,h1,jT.less m l vs h2⟩
 | .odd n,_,h=>by
  rw[Yl] at h⊢;rcases h with h | h | ⟨e,a,xs,e1,e2,e3⟩ | ⟨e,a,xs,e1,e2,e3⟩
  ·exact .inl h
  ·exact .inr (.inl h)
  ·exact .inr (.inr (.inl ⟨e,a,xs,e1,e2,λz=>e3 (m a z)⟩))
  ·exact .inr (.inr (.inr ⟨e,a,xs,e1,e2,λz=>e3 (m a z)⟩))
def jT.less{N N':aj->Prop}{H:Hp}(m:∀ b,N' b->N b):∀(l:List TG)(vs:je),jT N H l vs->jT N' H l vs
 | [],_,h=>by rw[jT] at h⊢;exact h
 | t::l,_,h=>by
  rw[jT] at h⊢;obtain⟨v,r,e,h1,h2⟩:=h;exact⟨v,r,e,Yl.less m t v h1,jT.less m l r h2⟩
end
end Tw
namespace L2
open PySem PySem.Spec PyProof.Rows
abbrev Yj(a:aj)(o:aH):HO:=.ext λh=>h.get? a=some o
def Nv{P:al}{w:ar}{H:Hp}{h:aC}{a:aj}{o:aH}(e:h.get? a=some o):Zb P w H h a (Yj a o):=⟨e,⟨o,e⟩,λ_ _ b k=>k o b⟩
def YG.obj{P:al}{w:ar}{H:Hp}{h:aC}{a:aj}{o:aH}(x:YG P w H h)(e:H a=some (Yj a o)):h.get? a=some o:=(x a _ e).1
def unT(a:ju)(H:Hp):Hp:=λb=>if b∈a then none else H b
def reT(c:ju)(H a:Hp):Hp:=λb=>if b∈c then H b else a b
def Ud{a:ju}{H:Hp}{b:aj}(h:b∈a):unT a H b=none:=aO h
def VL{a:ju}{H:Hp}{b:aj}(h:b∉a):unT a H b=H b:=aM h
def NH{a:ju}{H c:Hp}{b:aj}(h:b∈a):reT a H c b=H b:=aO h
def Vn{c:ju}{H a:Hp}{b:aj}(h:b∉c):reT c H a b=a b:=aM h
def MJ{a:ju}{H:Hp}{b:aj}{o:HO}(e:unT a H b=some o):b∉a/\H b=some o:=by
 by_cases h:b∈a
 ·rw[Ud h] at e;cases e
 ·rw[VL h] at e;exact⟨h,e⟩
def Pr{a:ju}{H:Hp}{b:aj}(e:H b=none):unT a H b=none:=by
 by_cases h:b∈a
 ·exact Ud h
 ·rw[VL h];exact e
section
variable{H H2:Hp}{h h':aC}{cs fs ex:ju}
def YG.unT(d:YG P w H h)(f:∀ c∈cs,∃ o,H c=some (Yj c o)):YG P w (L2.unT cs H) h:=λa o e=>by
 obtain⟨n,e⟩:=MJ e;refine(d a o e).stay (λ_ _ _ q=>q) (λc q=>?_) λc i q=>?_
 ·rw[VL λz=>?_];exact q;obtain⟨g,b⟩:=f c z;rw[q] at b;cases b
 ·rw[VL λz=>?_];exact q;obtain⟨g,b⟩:=f c z;rw[q] at b;cases b
def YG.reT(d:YG P w H2 h)(f:∀ c∈cs,H2 c=none)(j:∀ c∈cs,∃ o,H c=some (Yj c o)/\h.get? c=some o):YG P w (L2.reT cs H H2) h:=λa o e=>by
 by_cases b:a∈cs
 ·rw[NH b] at e;obtain⟨k,g,i⟩:=j a b;rw[g] at e;cases e;exact Nv i
 ·rw[Vn b] at e;refine(d a o e).stay (λ_ _ _ q=>q) (λc q=>?_) λc l q=>?_
  ·rw[Vn λz=>?_];exact q;rw[f c z] at q;cases q
  ·rw[Vn λz=>?_];exact q;rw[f c z] at q;cases q
def BY{j:Hp}(u:Un fs ex H j h h')(l:YG P w H h)(g:YG P w j h')(m:∀ c∈cs,∃ o,H c=some (Yj c o)/\j c=some (Yj c o)):Un fs ex (unT cs H) (unT cs j) h h':=by
 have d:∀ b∈cs,∀ o,h.get? b=some o->h'.get? b=some o:=λb f o q=>by
  obtain⟨s,k,r⟩:=m b f;have p:=l.obj k;rw[q] at p;cases p;exact g.obj r
 have x:∀{b o},H b=some o->(∀ a t,o≠Yj a t)->b∉cs:=fun{b o} e n z=>by
  obtain⟨s,k,_⟩:=m b z;rw[e] at k;cases k;exact n _ _ rfl
 refine⟨λb o q n f i=>?_,λb o q n f i=>?_,λb o q n i=>?_,u.there,λb A q=>?_,λb o v q=>?_,λb y q=>?_⟩
 ·by_cases z:b∈cs
  ·exact d b z o q
  ·rw[VL z] at n;exact u.keep b o q n f i
 ·by_cases z:b∈cs
  ·exact⟨o.slots,d b z o q⟩
  ·rw[VL z] at n;exact u.slot b o q n f i
 ·by_cases z:b∈cs
  ·exact Ud z
  ·rw[VL z] at n⊢;exact u.free b o q n i
 ·obtain⟨z,q⟩:=MJ q;rw[VL z];exact u.tups b A q
 ·obtain⟨z,q⟩:=MJ q;rw[VL z];exact u.frzs b o v q
 ·obtain⟨z,q⟩:=MJ q;rw[VL z];exact u.tbls b y q
def HB(u:Un fs ex (unT cs H) H2 h h')(d:∀ c∈cs,∃ o,H c=some (Yj c o)):Un fs ex H (reT cs H H2) h h':=by
 have g:∀{b},H b=none->b∉cs:=fun{b} n z=>by
  obtain⟨o,e⟩:=d b z;rw[n] at e;cases e
 refine⟨λb o q n f a=>u.keep b o q (Pr n) f a,λb o q n f a=>u.slot b o q (Pr n) f a,λb o q n a=>?_,u.there,λb k q=>?_,λb o v q=>?_,λb j q=>?_⟩
 ·rw[Vn (g n)];exact u.free b o q (Pr n) a
 ·have z:b∉cs:=λz=>by
   obtain⟨i,e⟩:=d b z;rw[q] at e;cases e
  rw[Vn z];exact u.tups b k (by rw[VL z];exact q)
 ·have z:b∉cs:=λz=>by
   obtain⟨i,e⟩:=d b z;rw[q] at e;cases e
  rw[Vn z];exact u.frzs b o v (by rw[VL z];exact q)
 ·have z:b∉cs:=λz=>by
   obtain⟨i,e⟩:=d b z;rw[q] at e;cases e
  rw[Vn z];exact u.tbls b j (by rw[VL z];exact q)
end
structure Wp(H:Hp)(cl:jC)(N:jr)(ws:je):Prop where
 len:ws.length=N.length
 val:∀(i:Nat)(x:Str)(v:V),N[i]? = some x->ws[i]? = some v->∃ c o u,cl.lookup x=some c/\c∈cl.map (·.2)/\H c=some (Yj c o)/\o.data=.cell (some u)/\ZS v u
 all:∀ c∈cl.map (·.2),∃ o v,H c=some (Yj c o)/\o.data=.cell v
inductive Xr(o:aH)(q:Str):Prop
 |mk(a t:_)(_:o.data=.fields a)(_:a[1]? = some (.str q t))
def ZOl(H:Hp)(q:Str)(e:jw):Prop:=TriplesOk e.toList/\∀ b d,PySem.codeAmong b e.toList=some d->∃ a c,d=.ref a/\H a=some (Yj a c)/\Xr c q
inductive ZP(H:Hp)(P:aj)(q:Str):Prop
 |mk(a:_)(_:H P=some (.tbl a))(_:ZOl H q a)
def GL{a b:Int}{t u:Tok}{c:ai}:∀(l:jd),TriplesOk l->TriplesOk (l++[.int a t,.int b u,c])
 | [],_=>trivial
 | .int _ _::.int _ _::_::r,h=>GL r h
def Hx{e:aI}{a b:Int}{t u:Tok}{c f:ai}:∀(l:jd),TriplesOk l->PySem.codeAmong e (l++[.int a t,.int b u,c])=some f->PySem.codeAmong e l=some f\/f=c
 | [],_,h=>by
  unfold PySem.codeAmong at h;simp only[List.nil_append] at h;split at h
  ·cases h;exact .inr rfl
  ·simp[PySem.codeAmong] at h
 | .int i _::.int j _::d::r,hT,h=>by
  simp only[sJ] at h;unfold PySem.codeAmong at h⊢;split at h
  ·rename_i q
   rw[aO q];exact .inl h
  ·rename_i q
   rw[aM q];exact Hx r hT h
def Lq(P:aj)(c:Arguments)(g:Expr)(d:aD)(a:Str)(k:jC):TE:=λ_ H Q=>
 ZP H P a/\∀(e:Hp)(f h:aj)(j:aH)(l i:ai),Xr j a->e f=some (Yj f (wV "<lambda>" a c g d k l h i))->e h=some (Yj h j) ->
  (∀ b o,b≠P->H b=some o->e b=some o)->ZP e P a->(∀ b,b=f\/b=h\/b=P\/e b=H b)->Q (.ref f) e
def Gx{X:Cx}{P c:aj}{f:Arguments}{l:Expr}{g:aD}{cl:jC}{j:aI}(y:X.env.code=.ref c)(C:xV X.base c P)(hb:X.base.BuiltinsAt X.mg P)(S:defaultsOf f X.env=([],[]))(R:closureFor g X.env=pure cl):PE X (.Lambda f l g j) (Lq P f l g (X.env.qual ++ "<lambda>") cl):=by
 intro a8 s σ H Q I h;obtain⟨⟨B,v,N,hA⟩,h⟩:=h;have gP:s.heap.get? P=some (wP B):=I.hok P _ v;have nb:∀{b o},X.base.get? b=some o->b≠P:=fun{b o} e z=>by
  have:=(I.bs b o e).2;rw[z,v] at this;cases this
 have a3:ao≠P:=by
  obtain⟨o,es,ep,e,_⟩:=I.mod.glob;exact nb e
 have hg:s.heap.Ns ao X.mg:=I.mod.glob.keeps I.bk;have O:s.heap.BuiltinsAt X.mg P:=by
  obtain⟨bm,o,b1,b2,b3,b4,b5,r⟩:=hb;exact⟨bm,o,b1,b2,b3,b4,I.bk _ _ b5,r⟩
 refine PySem.W.kla_eval S ?_
 cases hf:PySem.codeAmong j B.toList with
 | none=>
  refine PySem.W.kla_makeFunction R I.ok.glob hg y (C.keeps I.bk) gP N hf a3 O λk m i tk hx F T U a6=>?_;obtain⟨a7,D,vs,t,L,a4,hd,hv⟩:=U;cases L;have kp:∀ b o,b≠P->s.heap.get? b=some o->(i.push (wV "<lambda>" (X.env.qual ++ "<lambda>") f l g cl ((X.mg "__name__").getD .none) k m)).get? b=some o:=λb o n e=>zS _ (hx b o n e);have sz:s.heap.objs.size<=i.objs.size:=xX (xP F T);have nc:H k=none:=I.hok.fresh F;have Y:H i.objs.size=none:=I.hok.fresh sz;have cP:k≠P:=λz=>by rw[z,v] at nc;cases nc
  have fP:i.objs.size≠P:=λz=>by rw[z,v] at Y;cases Y
  have fc:i.objs.size≠k:=xT T
  let ps':Array Value:=B++#[rawInt j.line,rawInt j.col,.ref k]
  let fo:Obj:=wV "<lambda>" (X.env.qual ++ "<lambda>") f l g cl ((X.mg "__name__").getD .none) k m
  let H1:Hp:=upd (upd (upd H P (.tbl ps')) k (Yj k D)) i.objs.size (Yj i.objs.size fo)
  have e1:H1 i.objs.size=some (Yj i.objs.size fo):=ZK;have L:H1 k=some (Yj k D):=by show upd _ _ _ _=_;rw[ZM fc.symm];exact ZK
  have e3:H1 P=some (.tbl ps'):=by show upd _ _ _ _=_;rw[ZM fP.symm,ZM cP.symm];exact ZK
  have e4:∀ b,b≠P->b≠k->b≠i.objs.size->H1 b=H b:=λb n1 n2 n3=>by show upd _ _ _ _=_;rw[ZM n3,ZM n2,ZM n1]
  have x:∀ b o,b≠P->H b=some o->H1 b=some o:=λb o n e=>by
   rw[e4 b n (ZY e nc) (ZY e Y)];exact e
  have gc:(i.push fo).get? k=some D:=zS _ a4;have gf:(i.push fo).get? i.objs.size=some fo:=yW _ rfl;have M:(i.push fo).get? P=some (wP ps'):=zS _ a6;have a5:YG X.prog X.w H1 (i.push fo):=λb u e=>by
   by_cases z1:b=i.objs.size
   ·subst z1;rw[e1] at e;cases e;exact Nv gf
   by_cases z2:b=k
   ·subst z2;rw[L] at e;cases e;exact Nv gc
   by_cases K:b=P
   ·subst K;rw[e3] at e;cases e;exact M
   rw[e4 b K z2 z1] at e;refine(I.hok b u e).stay (λa ob A q=>kp a ob ?_ q) (λa q=>x a _ ?_ q) λa xs q=>x a _ ?_ q
   ·rcases A with rfl | A
    ·exact K
    ·intro z;rw[z,v] at A;cases A
   ·intro z;rw[z,v] at q;cases q
   ·intro z;rw[z,v] at q;cases q
  have un:Un X.fs [] H H1 s.heap (i.push fo):=by
   have G:∀ b,H b=none->b≠P:=λb n z=>by rw[z,v] at n;cases n
   refine⟨λb o q n _ _=>kp b o (G b n) q,λb o q n _ _=>⟨o.slots,kp b o (G b n) q⟩,λb o q n _=>?_,λb o q _=>?_,λb xs q=>x b _ ?_ q,λb o u q=>x b _ ?_ q,λb qs q=>?_⟩
   ·rw[e4 b (G b n) (zO (yQ (zW q) F)) (zO (yQ (zW q) sz))];exact n
   ·by_cases z:b=P
    ·exact⟨_,by rw[z];exact M⟩
    ·exact⟨o,kp b o z q⟩
   ·intro z;rw[z,v] at q;cases q
   ·intro z;rw[z,v] at q;cases q
   ·by_cases z:b=P
    ·subst z;rw[v] at q;cases q;exact⟨_,e3⟩
    ·exact⟨#[],by rw[x b _ z q];simp⟩
  refine⟨.ref i.objs.size,H1,I.un (t':=tk) un a5,rfl,h H1 i.objs.size k D _ m ⟨vs,t,hd,hv⟩ e1 L x ⟨ps',e3,?_,λp J A=>?_⟩ λb=>?_⟩
  ·show TriplesOk (B++#[rawInt j.line,rawInt j.col,.ref k]).toList;rw[tG];exact GL _ N
  ·have a0:PySem.codeAmong p (B.toList++[rawInt j.line,rawInt j.col,.ref k])=some J:=by
    have:ps'.toList=B.toList++[rawInt j.line,rawInt j.col,.ref k]:=by show (B++#[rawInt j.line,rawInt j.col,.ref k]).toList=_;rw[tG]
    rw[<-this];exact A
   rcases Hx _ N a0 with z | z
   ·obtain⟨d,E,y1,Z,y3⟩:=hA p J z;exact⟨d,E,y1,x _ _ (λz=>by rw[z,v] at Z;cases Z) Z,y3⟩
   ·exact⟨k,D,z,L,vs,t,hd,hv⟩
  ·by_cases z1:b=i.objs.size
   ·exact .inl z1
   by_cases z2:b=k
   ·exact .inr (.inl z2)
   by_cases K:b=P
   ·exact .inr (.inr (.inl K))
   exact .inr (.inr (.inr (e4 b K z2 z1)))
 | some J=>
  obtain⟨k,D,rfl,a1,a2⟩:=hA j J hf;refine PySem.W.kla_makeFunctionHit R I.ok.glob hg y (C.keeps I.bk) gP N hf O λm i tk hk V=>?_;have Y:H i.objs.size=none:=I.hok.fresh V;have x:∀ b o,H b=some o->upd H i.objs.size (Yj i.objs.size (wV "<lambda>" (X.env.qual ++ "<lambda>") f l g cl ((X.mg "__name__").getD .none) k m)) b=some o:=λb o e=>by rw[ZM (ZY e Y)];exact e
  refine⟨.ref i.objs.size,_,I.laid (t':=tk) (a:=i.objs.size) (o:=Yj i.objs.size (wV "<lambda>" (X.env.qual ++ "<lambda>") f l g cl ((X.mg "__name__").getD .none) k m)) (λb o e=>zS _ (hk b o e)) V (Nv (yW _ rfl)),rfl,
   h _ i.objs.size k D _ m a2 ZK (x _ _ a1) (λb o _ e=>x b o e) ⟨B,x _ _ v,N,λp J A=>?_⟩ λb=>?_⟩
  ·obtain⟨d,E,y1,Z,y3⟩:=hA p J A;exact⟨d,E,y1,x _ _ Z,y3⟩
  ·by_cases z:b=i.objs.size
   ·exact .inl z
   ·exact .inr (.inr (.inr (ZM z)))
inductive QZ(k:Sp)(d:jC)(N h:jr)(m:L2.St)(Q:VK)(l:je)(e:Hp):Prop
 |mk(f:je)(_:f.length=N.length)(_:∀(i:Nat)(x:Str)(v:V),N[i]? = some x->f[i]? = some v->∃ j:Nat,h[j]? = some x/\m[j]? = some (some v))(_:∀ a:Hp,unT (d.map (·.2)) a=e->(∀ b,b∉d.map (·.2)->a b=e b)->(∀ b o,e b=some o->a b=some o)->Wp a d N f->k l a (λv g=>(∀ c∈d.map (·.2),g c=a c)/\Q v (unT (d.map (·.2)) g)) E0)
def Kx(e:Sp)(d:jC)(N c:jr)(t:TA):TE:=λa H Q=>t a H λf b=>QZ e d N c a Q f b
def Gg{X:Cx}{k:Nat}{f:aj}{fd:am}{ps:jr}{sp:Sp}{x:Str}{p L:aI}{e:Expr}{P:jy}{t:TA}{cl:jC}{N:jr}(F:ZI X.prog X.w X.K X.mg X.base ZZ k f fd ps sp)(hr:ZW k X.A)(hg:Gl X x)(hm:X.mg x=some (.ref f))(hk:yU X.K (.ref f)=true)(D:Zx X.K fd ps [])(ha:PA X (e::P) t)(R:∀ y c,cl.lookup y=some c->X.env.cells.lookup y=some c)(U:∀ c∈cl.map (·.2),∃ y,cl.lookup y=some c)(hN:∀ y∈N,X.env.scope.names.lookup y=some .cell/\∃ c,cl.lookup y=some c)(a4:∀ y,X.fn y=true)(a3:(x==("__debug__" : Str))=false:=by decide)(he:aq (e::P) X.env=(false,aG e X.env)::aq P X.env:=by rfl)(a7:(aE L (aq P X.env)).any (·.1)=false:=by rfl):
  PE X (.Call (.Name x p) (e::P) [] L) (Kx sp cl N X.N t):=by
 intro Z s σ H Q I h;refine ag (Qh I hg hm ?_ a3);refine vV (h₀:=X.base) I.ok.mod.kin hk (YD (ha L Z s σ H _ I h) λus M vs E C r q=>⟨C.kIn,?_⟩) he a7;obtain⟨ws,hl,hw,q⟩:=q
 let cs := cl.map (·.2)
 let Hv:Hp:=λb=>(M.heap.get? b).map (Yj b)
 have l:∀ c∈cs,∃ y o v,cl.lookup y=some c/\X.env.cells.lookup y=some c/\M.heap.get? c=some o/\o.data=.cell v/\Hv c=some (Yj c o)/\E c=none:=λc B=>by
  obtain⟨y,e⟩:=U c B;have J:=R y c e;obtain⟨v,o,g,d⟩:=C.cell y c J;exact⟨y,o,v,e,J,g,d,by show Option.map _ _=_;rw[g];rfl,C.freeC y c J⟩
 have V:YG X.prog X.w (reT cs Hv E) M.heap:=C.hok.reT (λc B=>by
  obtain⟨y,o,v,_,_,g,d,a,n⟩:=l c B;exact n) λc B=>by
  obtain⟨y,o,v,_,_,g,d,a,n⟩:=l c B;exact⟨o,a,g⟩
 have hi:∀ c∈cs,X.s₀.heap.objs.size<=c:=λc B=>by
  obtain⟨y,o,v,_,J,_⟩:=l c B;exact C.ok.cab y c (a4 y) J
 have e0:WJ X.prog X.w X.K X.mg X.base X.A X.stack M (reT cs Hv E):=by
  have z:=C.env0;refine⟨z.frames,z.mod,λb o e=>⟨(z.bs b o e).1,?_⟩,z.bsz,z.funs,λb D=>?_,V,z.bare⟩
  ·rw[Vn λw=>?_];exact(z.bs b o e).2;exact absurd (zW e) (wE.mpr (zI C.ok.bsz (hi b w)))
  ·rw[Vn λw=>?_];exact z.frf b D;rcases yZ.mp (C.stkSub b D) with y | y
   ·obtain⟨y',o,v,_,J,_⟩:=l b w;exact C.cne y' b J y
   ·obtain⟨_,o',g,_⟩:=C.ok.funs.mem y;exact absurd (zW g) (wE.mpr (hi b w))
 have eU:unT cs (reT cs Hv E)=E:=by
  funext b
  by_cases D:b∈cs
  ·rw[Ud D];obtain⟨y,o,v,_,_,g,d,a,n⟩:=l b D;exact n.symm
  ·rw[VL D,Vn D]
 have CA:Wp (reT cs Hv E) cl N ws:=⟨hl,λi y v h1 h2=>by
  obtain⟨j,hj,a8⟩:=hw i y v h1 h2;obtain⟨kc,c,ec⟩:=hN y (zA h1);obtain⟨m,_,a6⟩:=C.loc;obtain⟨u,ru,lk⟩:=a6 j y v hj a8 (.inr (.inl kc));have a2:=R y c ec;have S:c∈cs:=by
   obtain⟨p,hp,e⟩:∃ p∈cl,p.2=c:=⟨(y,c),PySem.mem_of_lookup ec,rfl⟩;exact zM.mpr ⟨p,hp,e⟩
  rcases lk with ⟨kl,_⟩ | ⟨_,c2,e2,o,g,d⟩
  ·have:X.env.scope.names.lookup y=some .local:=kl;rw[kc] at this;cases this
  ·rw[a2] at e2;cases e2;exact⟨c,o,u,ec,S,by rw[NH S];show Option.map _ _=_;rw[g];rfl,d,ru⟩,λc B=>by
  obtain⟨y,o,v,_,_,g,d,a,n⟩:=l c B;exact⟨o,v,by rw[NH B];exact a,d⟩⟩
 have q2:=q (reT cs Hv E) eU (λb D=>Vn D) (λb o e=>by
  rw[Vn λw=>?_];exact e;obtain⟨y,o',v,_,_,g,d,a,n⟩:=l b w;rw[n] at e;cases e) CA
 have r2:ZO (vs++[]) (us++[]):=r.append .nil;have a5:(us++[]).length=ps.length:=by rw[<-r2.length,wX];exact F.len _ _ _ _ q2
 refine wpAny_call (codeAny_mono (F.run X.A X.stack M (reT cs Hv E) ⟨us,[]⟩ (us++[]) vs _ E0 hr e0 (D M us C.kIn a5) (by rw[wX];exact r) q2) λrr s' Y=>?_)
 cases rr with
 | error ev=>exact Y.elim
 | ok fl=>
  cases fl with
  | ret u=>
   obtain⟨v,H2,os,O,un,G,rv,a0,q3⟩:=Y;have T:∀ c∈cs,∃ o,reT cs Hv E c=some (Yj c o)/\H2 c=some (Yj c o):=λc B=>by
    obtain⟨y,o,v,_,_,g,d,a,n⟩:=l c B;have z:reT cs Hv E c=some (Yj c o):=by rw[NH B];exact a
    exact⟨o,z,by rw[a0 c B];exact z⟩
   have a1:=BY un V G T;rw[eU] at a1;exact C.after ⟨v,unT cs H2,os,O,a1,G.unT (λc B=>by
    obtain⟨o,_,z⟩:=T c B;exact⟨o,z⟩),rv,q3⟩
  | next=>exact False.elim Y
  | brk=>exact False.elim Y
  | cont=>exact False.elim Y
section
variable{κ:Type}[DecidableEq κ]
def Z5(a:List (κ×V))(k:κ):jf:=(a.find? λb=>decide (b.1=k)).map (·.2)
def Z2(a:List (κ×V))(k:κ)(v:V):List (κ×V):=
 if (a.any λb=>decide (b.1=k))=true then a.map (λb=>if b.1=k then (b.1,v) else b) else a++[(k,v)]
def WE(a:List (κ×V))(k:κ):List (κ×V):=a.filter λb=>decide (b.1≠k)
def UC{p:κ×V}{r:List (κ×V)}{k:κ}(e:p.1=k):Z5 (p::r) k=some p.2:=by simp[Z5,xD,e]
def V3{p:κ×V}{r:List (κ×V)}{k:κ}(e:¬ p.1=k):Z5 (p::r) k=Z5 r k:=by simp[Z5,xD,e]
def Qz(k:κ):∀ a:List (κ×V),(a.any λb=>decide (b.1=k))=(Z5 a k).isSome
 | []=>rfl
 | p::r=>by
  rw[vQ];by_cases e:p.1=k
  ·simp only[UC e,aK e,Bool.true_or,Option.isSome_some]
  ·rw[V3 e,aJ e,Bool.false_or];exact Qz k r
def Gc(k j:κ)(y:V):∀ a:List (κ×V),Z5 (a.map λb=>if b.1=k then (b.1,y) else b) j=(Z5 a j).map λx=>if j=k then y else x
 | []=>rfl
 | p::r=>by
  have c:=Gc k j y r;rw[yS];by_cases h:p.1=k
  ·rw[aO h];by_cases e:p.1=j
   ·rw[UC (p:=(p.1,y)) e,UC e,uV,aO (e.symm.trans h)]
   ·rw[V3 (p:=(p.1,y)) e,V3 e,c]
  ·rw[aM h];by_cases e:p.1=j
   ·rw[UC (p:=p) e,UC e,uV,aM (λz=>h (e.trans z))]
   ·rw[V3 (p:=p) e,V3 e,c]
def Gq(k j:κ)(y:V):∀ a:List (κ×V),Z5 a k=none->Z5 (a++[(k,y)]) j=if j=k then some y else Z5 a j
 | [],_=>by
  by_cases e:k=j
  ·rw[aO e.symm];exact UC (p:=(k,y)) e
  ·rw[aM (λz=>e z.symm)];exact V3 (p:=(k,y)) e
 | p::r,hn=>by
  rw[sJ];have b:¬ p.1=k:=λz=>by rw[UC z] at hn;cases hn
  rw[V3 b] at hn;have c:=Gq k j y r hn;by_cases e:p.1=j
  ·rw[UC e,UC e,aM (λz=>b (e.trans z))]
  ·rw[V3 e,V3 e,c]
def OF(b:List (κ×V))(k j:κ)(y:V):Z5 (Z2 b k y) j=if j=k then some y else Z5 b j:=by
 unfold Z2;by_cases a:(b.any λd=>decide (d.1=k))=true
 ·rw[aO a,Gc];rw[Qz] at a;by_cases e:j=k
  ·obtain⟨x,c⟩:=sN.mp a;rw[aO e,e,c,uV,aO rfl]
  ·rw[aM e]
   cases Z5 b j with
   | none=>rfl
   | some x=>rw[uV,aM e]
 ·rw[aM a];refine Gq k j y b ?_;rw[Qz] at a
  cases q:Z5 b k with
  | none=>rfl
  | some x=>rw[q] at a;exact(a rfl).elim
def Im(a:List (κ×V))(k:κ)(v:V):(Z2 a k v).length<=a.length+1:=by
 unfold Z2;split
 ·rw[zX];lia
 ·rw[zE,yH,List.length_nil];lia
def Jd{a:List (κ×V)}{k:κ}(v:V)(h:Z5 a k=none):Z2 a k v=a++[(k,v)]:=by
 unfold Z2;rw[Qz,h];exact aM (by decide)
def Yc.isSome_eq{o:jf}{u:jc}(r:Yc o u):o.isSome=u.isSome:=by
 cases o with
 | none=>cases u with
  | none=>rfl
  | some _=>exact(show False from r).elim
 | some _=>cases u with
  | none=>exact(show False from r).elim
  | some _=>rfl
def KV.val{a:List (κ×V)}{g:List (κ×ai)}(r:KV a g)(k:κ):Yc (Z5 a k) (valueAt g k):=by
 unfold KV at r
 induction r with
 | nil=>exact True.intro
 | @cons p q l d h t j=>
  obtain⟨f,i⟩:=h;by_cases e:p.1=k
  ·have c:q.1=k:=f.symm.trans e;have b:valueAt (q::d) k=some q.2:=by simp[valueAt,xD,c]
   rw[UC e,b];exact i
  ·have c:¬ q.1=k:=λz=>e (f.trans z);have b:valueAt (q::d) k=valueAt d k:=by simp[valueAt,xD,c]
   rw[V3 e,b];exact j
def KV.any{a:List (κ×V)}{c:List (κ×ai)}(r:KV a c)(k:κ):(a.any λb=>decide (b.1=k))=c.any λb=>decide (b.1=k):=by
 unfold KV at r
 induction r with
 | nil=>rfl
 | cons h t d=>rw[vQ,vQ,d,h.1]
def KV.repl{b:List (κ×V)}{d:List (κ×ai)}(r:KV b d)(k:κ){y:V}{u:ai}(i:ZS y u):
  KV (b.map λa=>if a.1=k then (a.1,y) else a) (d.map λa=>if a.1=k then (a.1,u) else a):=by
 unfold KV at r⊢
 induction r with
 | nil=>exact .nil
 | @cons p q j l h t g=>
  rw[yS,yS];refine .cons ?_ g;obtain⟨c,f⟩:=h;by_cases e:p.1=k
  ·rw[aO e,aO (c.symm.trans e)];exact⟨c,i⟩
  ·rw[aM e,aM (λz=>e (c.trans z))];exact⟨c,f⟩
def KV.put{a:List (κ×V)}{b:List (κ×ai)}(r:KV a b)(k:κ){y:V}{u:ai}(c:ZS y u):KV (Z2 a k y) (stored b k u):=by
 unfold Z2 stored;rw[r.any k];by_cases e:(b.any λd=>decide (d.1=k))=true
 ·rw[aO e,aO e];exact r.repl k c
 ·rw[aM e,aM e];exact Paired.snoc r ⟨rfl,c⟩
def KV.drop{c:List (κ×V)}{g:List (κ×ai)}(r:KV c g)(k:κ):KV (WE c k) (without g k):=by
 unfold KV at r⊢;unfold WE without
 induction r with
 | nil=>exact .nil
 | @cons p q l m h t f=>
  obtain⟨d,j⟩:=h;rw[uU,uU];by_cases e:p.1=k
  ·have a:¬ decide (p.1≠k)=true:=by simp[e]
   have b:¬ decide (q.1≠k)=true:=by simp[d.symm.trans e]
   rw[aM a,aM b];exact f
  ·have i:¬ q.1=k:=λz=>e (d.trans z);have a:decide (p.1≠k)=true:=by simp[e]
   have b:decide (q.1≠k)=true:=by simp[i]
   rw[aO a,aO b];exact .cons ⟨d,j⟩ f
def KV.keys{a:List (κ×V)}{b:List (κ×ai)}(r:KV a b):a.map (·.1)=b.map (·.1):=by
 unfold KV at r
 induction r with
 | nil=>rfl
 | cons h t c=>rw[yS,yS,c,h.1]
def KV.length{a:List (κ×V)}{b:List (κ×ai)}(r:KV a b):a.length=b.length:=Paired.length r
def C7(a:List (κ×V))(k:κ):(WE a k).length<=a.length:=vD _ _
end
def NZ{P:al}{w:ar}{k:ZR}{u:ai}(r:ZS (kV k) u):(VD P w).is k u=true:=by
 cases k with
 | inl i=>obtain⟨t,e⟩:=(show ∃ t,u=Value.int i t from r);subst e;exact AY P w i t
 | inr x=>obtain⟨t,e⟩:=(show ∃ t,u=Value.str x t from r);subst e;exact ZF4 P w x t
def Id{P:al}{w:ar}:∀{a:jE}{b:jd},ZO (a.map kV) b->ItemsAre (VD P w) a b
 | [],_,r=>by rw[vP] at r;cases r;exact .nil
 | k::a,_,r=>by
  rw[yS] at r
  cases r with
  | cons h t=>exact .cons (NZ h) (Id t)
abbrev KT(H:Hp):List (jE×V)->List (jE×aj×ai)->Prop:=Paired λp q=>p.1=q.1/\H q.2.1=some (.tup (p.1.map kV))/\ZS p.2 q.2.2
def KT.val{H:Hp}{a:List (jE×V)}{g:List (jE×aj×ai)}(r:KT H a g)(k:jE):Yc (Z5 a k) ((atKey g k).map (·.2)):=by
 induction r with
 | nil=>exact True.intro
 | @cons p q l d h t j=>
  obtain⟨f,_,i⟩:=h;by_cases e:p.1=k
  ·have c:q.1=k:=f.symm.trans e;have b:atKey (q::d) k=some q.2:=by simp[atKey,xD,c]
   rw[UC e,b];exact i
  ·have c:¬ q.1=k:=λz=>e (f.trans z);have b:atKey (q::d) k=atKey d k:=by simp[atKey,xD,c]
   rw[V3 e,b];exact j
def KT.repl{H:Hp}{a:List (jE×V)}{f:List (jE×aj×ai)}(r:KT H a f)(k:jE){y:V}{u:ai}(j:ZS y u):
  KT H (a.map λc=>if c.1=k then (c.1,y) else c) (f.map (putAt k u)):=by
 induction r with
 | nil=>exact .nil
 | @cons p q l m h t i=>
  rw[yS,yS];refine .cons ?_ i;obtain⟨b,d,g⟩:=h;unfold putAt;by_cases e:p.1=k
  ·rw[aO e,aO (b.symm.trans e)];exact⟨b,d,j⟩
  ·rw[aM e,aM (λz=>e (b.trans z))];exact⟨b,d,g⟩
def KT.put{H:Hp}{a:List (jE×V)}{c:List (jE×aj×ai)}(r:KT H a c)(k:jE){b:aj}{y:V}{u:ai}(f:H b=some (.tup (k.map kV)))(d:ZS y u):
  KT H (Z2 a k y) (storedH c k b u):=by
 have e:(a.any λg=>decide (g.1=k))=(atKey c k).isSome:=by
  rw[Qz,(r.val k).isSome_eq,Option.isSome_map]
 unfold Z2 storedH;rw[e];by_cases q:(atKey c k).isSome=true
 ·rw[aO q,aO q];exact r.repl k d
 ·rw[aM q,aM q];exact Paired.snoc r ⟨rfl,f,d⟩
def KT.keeps{H c:Hp}{a:List (jE×V)}{d:List (jE×aj×ai)}(r:KT H a d)(f:∀ b e,H b=some (.tup e)->c b=some (.tup e)):KT c a d:=
 Paired.mapP r λ_ _ z=>⟨z.1,f _ _ z.2.1,z.2.2⟩
section
variable{H:Hp}{h:aC}{a:aj}
def Ge{u:HO}(b:YG P w H h)(e:Rd H a u):Zb P w H h a u:=e.ok b
def P9{b:List (ZR×V)}(d:YG P w H h)(e:Rd H a (.dK b)):b.length<=ap/\(a==sysModules)=false/\∃ c,KV b c/\h.DictOf (VD P w) a c:=
 show Zb P w H h a (.dK b) from Ge d e
def Ox{b:List (ZR×V)}(d:YG P w H h)(e:H a=some (.dK b)):b.length<=ap/\(a==sysModules)=false/\∃ c,KV b c/\h.DictOf (VD P w) a c:=P9 d (.inl e)
def MU{c:jE}(i:YG P w H h)(e:H a=some (.tup (c.map kV))):(tupleKind (VD P w)).is h c a:=by
 obtain⟨_,b,r,o,d,f,n,g⟩:=(show Zb P w H h a (.tup (c.map kV)) from i a _ e);exact⟨o,b.toArray,n,d,f,g,by simpa using Id r⟩
def NV{b:List (jE×V)}(i:YG P w H h)(e:Rd H a (.dT b)):b.length<=ap/\(a==sysModules)=false /\
  ∃ d,KT H b d/\h.DictOfH (tupleKind (VD P w)) a d:=by
 obtain⟨z,y,d,r,o,k,j,n,s,u,v,A⟩:=(show Zb P w H h a (.dT b) from Ge i e);refine⟨z,y,d,r,o,k,j,n,s,u,v,λx c=>?_,A⟩;have f:∀{l:List (jE×V)}{m:List (jE×aj×ai)},KT H l m->∀ x∈m,(tupleKind (VD P w)).is h x.1 x.2.1:=by
  intro l m q
  induction q with
  | nil=>intro x c;exact nomatch c
  | @cons p q C D g t B=>
   intro x c;rcases yZ.mp c with e | c
   ·subst e;exact MU i (by rw[<-g.1];exact g.2.1)
   ·exact B x c
 exact f r x c
def At{b:List (jE×V)}(d:YG P w H h)(e:H a=some (.dT b)):b.length<=ap/\(a==sysModules)=false /\
  ∃ c,KT H b c/\h.DictOfH (tupleKind (VD P w)) a c:=NV d (.inl e)
end
def Zi(H:Hp)(a:aj)(y:V)(r:jf):Prop:=
 (∃ c k,Rd H a (.dK c)/\y=kV k/\r=Z5 c k)\/∃ c k b,Rd H a (.dT c)/\y=.ref b/\H b=some (.tup (k.map kV))/\r=Z5 c k
def XI(H:Hp)(a:aj)(y v:V)(d:Hp):Prop:=
 (∃ c k,H a=some (.dK c)/\y=kV k/\c.length<ap/\d=upd H a (.dK (Z2 c k v))) \/
 ∃ c k b,H a=some (.dT c)/\y=.ref b/\H b=some (.tup (k.map kV))/\c.length<ap/\d=upd H a (.dT (Z2 c k v))
def Zi.k{H:Hp}{a:aj}{b:List (ZR×V)}{k:ZR}(e:H a=some (.dK b)):Zi H a (kV k) (Z5 b k):=.inl ⟨b,k,.inl e,rfl,rfl⟩
def XI.k{H:Hp}{a:aj}{b:List (ZR×V)}{k:ZR}{v:V}(e:H a=some (.dK b))(c:b.length<ap):XI H a (kV k) v (upd H a (.dK (Z2 b k v))):=.inl ⟨b,k,e,rfl,c,rfl⟩
section
variable{jU:js}{σ:St}{H:Hp}{a:aj}{y v:V}{u r:ai}{o:jf}
def BI{Q:ja}(F:A.units+1<cLine)(I:ZF X jU σ H s)(g:Zi H a y (some v))(t:ZS y u)(h:∀ f x,ZF X jU σ H x->ZS v f->Q f x):
  aA (az X.prog X.w) A (getItem (.ref a) u) Q E s:=by
 rcases g with ⟨q,k,e,j,l⟩ | ⟨q,k,b,e,j,B,l⟩
 ·subst j;obtain⟨z,C,G,c,i⟩:=P9 I.hok e;obtain⟨f,n,d⟩:=Yc.some_of (v:=v) (o:=valueAt G k) (by rw[l];exact c.val k)
  exact wpAny_getItem_of (NZ t) i.mapOf n (h f _ (I.tok _) d)
 ·subst j;cases(show u=Value.ref b from t);obtain⟨z,C,J,c,i⟩:=NV I.hok e;obtain⟨f,n,d⟩:=Yc.some_of (v:=v) (o:=(atKey J k).map (·.2)) (by rw[l];exact c.val k)
  obtain⟨p,D,m⟩:=yG.mp n;refine wpAny_getItem_heap (tupleKind_room_in1 F) (MU I.hok B) i D ?_;rw[m];exact h f _ (I.tok _) d
def AV{Q:ja}(t:A.units+1<cLine)(I:ZF X jU σ H s)(g:Zi H a y o)(m:ZS y u)(h:∀ n,ZF X jU σ H n->Q (.bool (!o.isSome)) n):
  aA (az X.prog X.w) A (ay .NotIn u (.ref a)) Q E s:=by
 rcases g with ⟨j,k,e,f,l⟩ | ⟨j,k,b,e,f,p,l⟩
 ·subst f;obtain⟨z,i,x,c,d⟩:=P9 I.hok e;refine wpAny_notIn_of (NZ m) i d.mapOf ?_;rw[<-(c.val k).isSome_eq,<-l];exact h _ (I.tok _)
 ·subst f;cases(show u=Value.ref b from m);obtain⟨z,i,B,c,d⟩:=NV I.hok e;refine wpAny_notIn_heap (tupleKind_room_in1 t) (MU I.hok p) i d ?_;have q:=(c.val k).isSome_eq;rw[Option.isSome_map] at q;rw[<-q,<-l];exact h _ (I.tok _)
def JM{c:aC}{k:Nat}{f:HO}(I:ZF X jU σ H s)(j:O6 (H a))(i:wH a s.heap c)(h:∃ q,c.get? a=some q)(d:Zb X.prog X.w (upd H a f) c a f):
  ZF X jU σ (upd H a f) { s with heap:=c,toks:=k }:=
 I.write (x:=a) (e:=a) j (.inl rfl) (λb q g z=>(i.2 b g).trans z) h d
def J9{P:al}{w:ar}{f:Hp}{e:aC}{b:List (ZR×V)}{d:List (ZR×ai)}(z:b.length<=ap)(h:(a==sysModules)=false)(c:KV b d)(g:e.DictOf (VD P w) a d):
  Zb P w f e a (.dK b):=⟨z,h,d,c,g⟩
def Eb{D:Hp}{Q:Unit->ak->Prop}(V:A.units+1<cLine)(I:ZF X jU σ H s)(g:XI H a y v D)(L:ZS y u)(K:ZS v r)(h:∀ M,ZF X jU σ D M->Q () M):
  aA (az X.prog X.w) A (setItem (.ref a) u r) Q E s:=by
 rcases g with ⟨d,k,e,p,l,n⟩ | ⟨d,k,b,e,p,F,l,n⟩
 ·subst p n;obtain⟨z,t,W,f,m⟩:=Ox I.hok e;have C:W.length<=sizeLine:=by rw[<-f.length];exact z
  have x:(Z2 d k v).length<=sizeLine:=by have:=Im d k v;lia
  refine wpAny_setItem_pairs (hsz:=C) (NZ L) m λJ i B=>h _ ?_;have U:∃ q,J.get? a=some q:=let ⟨q,_,_,j,_⟩:=i;⟨q,j⟩;exact JM I (by rw[e];exact True.intro) B U (J9 x t (f.put k K) i)
 ·subst p n;cases(show u=Value.ref b from L);obtain⟨z,t,Y,f,m⟩:=At I.hok e;have C:Y.length<=sizeLine:=by rw[<-Paired.length f];exact z
  have x:(Z2 d k v).length<=sizeLine:=by have:=Im d k v;lia
  refine wpAny_setItem_heap (hsz:=C) (tupleKind_room_in1 V) (MU I.hok F) m λJ i B=>h _ ?_;obtain⟨q,O,N,j,P,R,S,_,T⟩:=i;refine JM I (by rw[e];exact True.intro) B ⟨q,j⟩ ⟨x,t,_,(f.put k F K).keeps λc Z G=>?_,q,O,N,j,P,R,S,T⟩
  rw[ZM (ZD G e (λz=>nomatch z))];exact G
end
section
variable{jU:js}{σ:St}{H:Hp}{a:aj}{kvs:List (ZR×V)}{k:ZR}{u:ai}
def CV{v:V}{b:jd}{Q:ja}(I:ZF X jU σ H s)(e:H a=some (.dK kvs))(j:ZS (kV k) u)(l:Z5 kvs k=some v)(n:b=[]\/∃ x,b=[x])(h:∀ f p,ZF X jU σ (upd H a (.dK (WE kvs k))) p->ZS v f->Q f p):aA (az X.prog X.w) A (call (.builtin "dict.pop") (.ref a::u::b)) Q E s:=by
 obtain⟨z,C,r,c,m⟩:=Ox I.hok e;obtain⟨f,K,g⟩:=Yc.some_of (v:=v) (o:=valueAt r k) (by rw[<-l];exact c.val k)
 have G:(keyPart u).isSome=true:=by
  cases k with
  | inl i=>obtain⟨t,q⟩:=(show ∃ t,u=Value.int i t from j);subst q;rfl
  | inr x=>obtain⟨t,q⟩:=(show ∃ t,u=Value.str x t from j);subst q;rfl
 have B:argsOk "dict.pop" ⟨.ref a::u::b,[]⟩:=by
  rcases n with q | ⟨x,q⟩
  ·subst q;exact PySem.F.args_dict_pop_2 _ _
  ·subst q;exact PySem.F.args_dict_pop_3 _ _ _
 refine call_meetsIn rS m.typeIs PySem.F.entry_dict_pop B (meets_dict_pop_there (VD X.prog X.w) a (NZ j) b n G)
  ⟨r,f,m,by rw[<-c.length];exact z,K,λy d J=>h f _ ?_ g⟩
 have D:∃ q,y.get? a=some q:=let ⟨q,_,_,hq,_⟩:=d;⟨q,hq⟩;exact JM I (by rw[e];exact True.intro) J D (J9 (zI (C7 kvs k) z) C (c.drop k) d)
def Az{Q:ja}(I:ZF X jU σ H s)(e:Rd H a (.dK kvs))(h:∀ t c,ZF X jU σ H c->Q (.int kvs.length t) c):aA (az X.prog X.w) A (call (.builtin "len") [.ref a]) Q E s:=by
 obtain⟨z,f,g,b,d⟩:=P9 I.hok e;refine call_len_dict f d (by rw[<-b.length];rw[sizeLine_eq] at z;lia (splits:=8)) ?_
 rw[<-b.length];exact h _ _ (I.tok _)
end
def Hm(i:Expr):Prop:=∀ b a,subscripted i false b a=operate [b,a] (getItem b a)
def ZM2{a:al}{w:ar}{A:aw}{E:ja}{s:ak}{j:Env}{c b:Expr}{n:aI}{T id:String}{Q:ja}(q:typeLookup (.type T) "__getitem__" = pure (some (.builtin id)))(t:Hm b)(h:aA (az a w) A (aG c j) (λo f=>aA (az a w) A (aG b j) (λi d=>d.TypeIs o T/\aA (az a w) A (getItem o i) Q E d) E f) E s):
  aA (az a w) A (aG (.Subscript c b n) j) Q E s:=by
 refine Subscript_ (ae h (λo f l=>ae l (λi d e=>?_) λ_ _ x=>x) λ_ _ x=>x);obtain⟨p,e⟩:=e;unfold subscriptTail;refine aa ?_;rw[getitemInPython_of_ne p.not_modules];refine aa (wpAny_specialOf p q ?_);have k:aA (az a w) A (subscripted b false o i) (λr g=>aA (az a w) A (letTemporaryGo c o r >>= λ_=>pure r) Q E g) E d:=by
  rw[t o i];exact wpAny_operating (ae e (λr g m=>aa (wpAny_letTemporaryGo (ad m))) λ_ _ x=>x)
 first
  | exact ad (aa k)
  | exact aa (ad (aa k))
  | exact aa k
def Aw{X:Cx}{c:js}{h:St}{H:Hp}{s:ak}{a:aj}{y:V}{o:jf}(I:ZF X c h H s)(g:Zi H a y o):s.TypeIs (.ref a) "dict" :=by
 rcases g with ⟨f,k,e,_,_⟩ | ⟨f,k,b,e,_,_,_⟩
 ·obtain⟨_,_,i,_,d⟩:=P9 I.hok e;exact d.typeIs
 ·obtain⟨_,_,j,_,d⟩:=NV I.hok e;exact d.typeIs
inductive P5(Q:VK)(x y:V)(b:Hp):Prop
 |mk(a v:_)(_:x=.ref a)(_:Zi b a y (some v))(_:Q v b)
def C6(d e:TE):TE:=λa H Q=>d a H λx b=>e a b λy c=>P5 Q x y c
inductive Uz(Q:VK)(y x:V)(b:Hp):Prop
 |mk(a o:_)(_:x=.ref a)(_:Zi b a y o)(_:Q (.bl (!o.isSome)) b)
def De(e d:TE):TE:=λa H Q=>e a H λy b=>d a b λx c=>Uz Q y x c
inductive Px(D:Yt)(d:L2.St)(v x y:V)(c:Hp):Prop
 |mk(a b:_)(_:x=.ref a)(_:XI c a y v b)(_:D.nx d b)
def B1(e g f:TE):TS:=λD a H=>f a H λv b=>e a b λx c=>g a c λy d=>Px D a v x y d
section
variable{o i e value:Expr}{pos pos' tpos:aI}{td ty tv:TE}
def WP(t:X.A.units+1<cLine)(q:PE X o td)(p:PE X i ty)(r:Hm i:=by exact λ_ _=>rfl):PE X (.Subscript o i pos) (C6 td ty):=by
 intro b s f H Q I h;refine ZM2 PySem.F.slot_dict_getitem.lookup r (YD (q b s f H _ I h) λu D x j l B w=>Zt (p b D f j _ l w) ?_);rintro E G ⟨y,k,d,C,a,v,n,g,z⟩;subst n;obtain rfl:u=Value.ref a:=B;exact⟨Aw d g,BI t d g C λK J m c=>⟨v,k,m,c,z⟩⟩
def NQ(q:X.A.units+1<cLine)(n:PE X i ty)(p:PE X o td):PC X .NotIn i o (De ty td):=by
 intro b s c H Q I h;refine YD (n b s c H _ I h) λC B y d j z t=>Zt (p b B c d _ j t) ?_;rintro u D ⟨x,f,k,w,a,r,m,g,v⟩;subst m;obtain rfl:u=Value.ref a:=w;exact AV q k g z λE l=>⟨.bl (!r.isSome),f,l,rfl,v⟩
def QT(z:X.A.units+1<cLine)(t:PE X o td)(q:PE X i ty)(B:PE X value tv)(w:swapsWith value (some (.Subscript o i pos')) pos.line X.env=pure false):
  PS X (.Assign [.Subscript o i pos'] value pos) (B1 td ty tv):=by
 intro b s c H D I h;refine wpAny_Assign_Subscript (YD (B b s c H _ I h) λr L v d k G C=>YD (t b L c d _ k C) λu M x f l J E=>Zt (q b M c f _ l E) λO P ⟨y,N,m,K,a,j,p,g,F⟩=>?_) w;subst p;obtain rfl:u=Value.ref a:=J;exact Eb z m g K G λQ n=>⟨c,j,n,F⟩
end
section
variable{pos:aI}
end
structure M1(X:Cx)(o:Expr)(m:Str)(jj:aI)(e:Expr)(ji:aI):Prop where
 base:attributeBase o m X.env (aG o X.env)=aG o X.env
 few:((aE ji (aq [e] X.env)).all (λx=>!x.1)&&(backToKw ji (keywordEach [] X.env)).all (λx=>x.1.isSome)
  && decide (([e]:jy).length+([]:List Keyword).length+(if ([]:List Keyword).isEmpty then 0 else 1)<30))=true
 line:(jj.endLine==ji.line)=true
 trees:aE ji (aq [e] X.env)=[(false,aG e X.env)]
def Jc(H:Hp)(a:aj):Prop:=(∃ b,Rd H a (.dK b))\/∃ b,Rd H a (.dT b)
def Dm{X:Cx}{g:js}{l:St}{H:Hp}{s:ak}{a:aj}(I:ZF X g l H s)(d:Jc H a):
  s.TypeIs (.ref a) "dict" /\ (∀ b,Value.ref a=.ref b->∃ c,s.heap.get? b=some c/\c.dict=none)/\(a==sysModules)=false:=by
 rcases d with ⟨k,e⟩ | ⟨k,e⟩
 ·obtain⟨_,j,m,_,f⟩:=P9 I.hok e;refine⟨f.typeIs,λb q=>?_,j⟩;cases q;obtain⟨c,_,_,h,i,_⟩:=f;exact⟨c,h,i.2.1⟩
 ·obtain⟨_,j,n,_,f⟩:=NV I.hok e;refine⟨f.typeIs,λb q=>?_,j⟩;cases q;obtain⟨c,_,_,h,i,_⟩:=f;exact⟨c,h,i.2.1⟩
section
variable{jU:js}{σ:St}{H:Hp}{a:aj}{y d:V}{u r:ai}{o:jf}
end
inductive Qf(e:TE)(f:L2.St)(Q:VK)(x:V)(c:Hp):Prop
 |mk(a:_)(_:x=.ref a)(_:Jc c a)(_:e f c λy d=>∃ b k v,d a=some (.dK b)/\y=kV k/\Z5 b k=some v/\Q v (upd d a (.dK (WE b k))))
def EU(c d:TE):TE:=λa H Q=>c a H λx b=>Qf d a Q x b
section
variable{o e f:Expr}{jj ji:aI}{td ty tx:TE}
def Mv(z:PE X o td)(w:PE X e ty)(m:M1 X o "pop" jj e ji):PE X (.Call (.Attribute o "pop" jj) [e] [] ji) (EU td ty):=by
 intro b s i H Q I h;refine wpAny_Call_method m.base m.few m.line PySem.F.plainAttrs_dict rS PySem.F.type_dict_pop (Zt (z b s i H _ I h) ?_);rintro u G ⟨x,j,g,D,a,r,d,B⟩;subst r;obtain rfl:u=Value.ref a:=D;obtain⟨J,K,_⟩:=Dm g d;exists J,K;rw[m.trees];refine Calls.callWith_builtin rfl (Calls.evalArgs_plain (Calls.spliced_cons (Zt (w b G i j _ g B) λM N ⟨y,L,n,E,A,k,v,q,t,l,C⟩=>Calls.spliced_nil ?_)));subst t;exact CV n q E l (.inl rfl) λP O p c=>⟨v,_,p,c,C⟩
end
section
variable{jU:js}{σ:St}{H:Hp}{a:aj}{kvs:List (ZR×V)}
end
section
variable{jU:js}{σ:St}{H:Hp}{a:aj}{y:V}{u:ai}
end
inductive Ve(c:je)(H:Hp)(Q:VK):Prop
 |mk(a b:_)(_:c=[V.ref a])(_:H a=some (.dK b))(_:Q (.int b.length) H)
def Kk:Wq X (.builtin "len") (Ve):=by
 intro c s k H j i Q I r h;obtain⟨a,b,rfl,e,q⟩:=h;obtain⟨u,rfl,f⟩:=VT r;cases f;exact Az I (.inl e) λt g d=>⟨.int b.length,H,d,⟨t,rfl⟩,q⟩
section
variable{κ:Type}[DecidableEq κ]
def EG{a:List (κ×V)}{k:κ}(h:Z5 a k=none):¬ k∈a.map (·.1):=by
 intro m;obtain⟨p,b,e⟩:=zM.mp m;have q:(a.any λc=>decide (c.1=k))=true:=List.any_eq_true.mpr ⟨p,b,aK e⟩;rw[Qz,h] at q;exact absurd q (by simp)
def Oy{a:List (κ×V)}{k:κ}{v:V}(h:Z5 a k=some v):k∈a.map (·.1):=by
 have q:(a.any λc=>decide (c.1=k))=true:=by
  rw[Qz,h]
  all_goals rfl
 obtain⟨p,b,e⟩:=List.any_eq_true.mp q;exact zM.mpr ⟨p,b,of_decide_eq_true e⟩
def ZIf{p:κ×V}{r:List (κ×V)}{k:κ}(e:p.1=k):WE (p::r) k=WE r k:=by
 unfold WE;rw[uU,aM (by simp[e])]
def Cq{p:κ×V}{r:List (κ×V)}{k:κ}(e:¬ p.1=k):WE (p::r) k=p::WE r k:=by
 unfold WE;rw[uU,aO (by simp[e])]
end
end L2
namespace Tw
open PySem PySem.Spec L2
variable{jg jh CS CT CH CK CP CB:aj}
def top(i:Nat):Stmt:=PySem.Challenge.pw_twigmap_k24_holds_counted.main.body.getD i (.Pass ⟨0,0,0,0⟩)
abbrev JC:Stmt:=top 13
abbrev KI:Stmt:=top 14
abbrev MR:Stmt:=top 15
abbrev KP:Stmt:=top 16
abbrev LM:Stmt:=top 17
abbrev Ml:Stmt:=top 18
abbrev Nu:Stmt:=top 19
abbrev JI:Stmt:=top 29
abbrev Lc:Stmt:=top 30
abbrev Kd:Stmt:=top 31
abbrev JG:Stmt:=top 32
abbrev Lp:Stmt:=top 33
abbrev JA:Stmt:=top 34
abbrev Lf:Stmt:=top 37
abbrev Mz:Stmt:=top 39
abbrev LD:Stmt:=top 40
abbrev MZ:Stmt:=top 41
abbrev Ly:Stmt:=top 42
abbrev MC:Stmt:=top 43
abbrev JK:Stmt:=top 44
abbrev JL:Stmt:=top 45
abbrev JQ:Stmt:=top 46
abbrev K3:Stmt:=top 47
abbrev Li:Stmt:=top 48
abbrev Kw:Stmt:=top 49
abbrev LF:Stmt:=top 50
abbrev KL:Stmt:=top 51
abbrev JH:Stmt:=top 52
abbrev JN:Stmt:=top 53
abbrev K2:Stmt:=top 54
abbrev Mn:Stmt:=top 55
abbrev Le:Stmt:=top 57
abbrev Kt:Stmt:=top 58
abbrev Ll:Stmt:=top 59
abbrev VM:Stmt:=top 60
abbrev Ke:Stmt:=top 61
abbrev VQ:Stmt:=top 62
abbrev KJ:Stmt:=top 63
abbrev Ms:Stmt:=top 64
abbrev Qs:Stmt:=top 65
structure YO(mg:jb):Prop where
 isi:mg "isinstance" = none
 bool:mg "bool" = none
 int:mg "int" = none
 str:mg "str" = none
 tuple:mg "tuple" = none
 list:mg "list" = none
 len:mg "len" = none
 all:mg "all" = none
 abs:mg "abs" = none
 max:mg "max" = none
 min:mg "min" = none
 range:mg "range" = none
 sorted:mg "sorted" = none
 ValueError:mg "ValueError" = none
 sum:mg "sum" = none
 signs:∃ t,mg "MOST_SIGNS" = some (.int 40 t)
 things:∃ t,mg "MOST_THINGS" = some (.int 4 t)
 deep:∃ t,mg "MOST_DEEP" = some (.int 3 t)
 rows:∃ t,mg "MOST_ROWS" = some (.int 4 t)
 few:∃ t,mg "FEWEST_BRANCHES" = some (.int 2 t)
 most:∃ t,mg "MOST_BRANCHES" = some (.int 4 t)
 height:∃ t,mg "HEIGHT" = some (.int 0 t)
 least:∃ t,mg "LEAST" = some (.int 1 t)
 greatest:∃ t,mg "GREATEST" = some (.int 2 t)
 many:∃ t,mg "MANY" = some (.int 3 t)
def QE:ZA ["_law_well_here","_law_many","_law_found","_law_first","_law_second"] zEf (Zc LD):=Zz
def Ez(F:Zj K "_law_pull" "_law_pull" LD f fd):ZI P w K mg jV ZZ 1 f fd zEf YT:=by
 refine F.ok QE (λz H Q E h=>?_) (λy A q s H z Q E G h=>?_)
 ·obtain⟨p,m,rfl,_⟩:=h;rfl
 obtain⟨p,m,rfl,W,⟨g,l⟩,k⟩:=h;obtain⟨a,b,c,d,n,i,j,r,D⟩:=W.ex;have o:=QE.nd;intro B;refine⟨_,ZQ (Zv (YJ WW (UA Zy (pv 0) ZN (λ_ _=>rfl)) ZN (Z3 _)) (ZU (Zn ZN)) Z1)
  (ZQ (Qt (Zu QI (UA Zy (pv 0) ZN (λ_ _=>rfl)) ZN) (M6 (pv 0) ZN Lu))
  (ZQ (Zv (YJ QH (UA Zy (pv 0) ZN (λ_ _=>rfl)) ZN (Z3 _))
   (ZQ (Zw 2 o (Zu Ue (UA Zy (pv 0) ZN (λ_ _=>rfl)) (pv 1)))
   (ZQ (Qt (Zu ZMU (UA Zy (pv 0) ZN (λ_ _=>rfl)) (pv 1)) (M6 (pv 0) ZN Lu))
   (ZU (Zn (pv 2))))) Z1)
  (ZQ (Qt (Zu WI (UA Zy (pv 0) ZN (λ_ _=>rfl)) ZN) (M6 (pv 0) ZN Lu))
  (ZQ (Zw 3 o (Zu Ue (Zu PZ (Zu WI (UA Zy (pv 0) ZN (λ_ _=>rfl)) ZN) (Zu WI ZN (Zu PZ ZN (UA Zy (pv 0) ZN (λ_ _=>rfl))))) ZN))
  (ZQ (Zw 4 o (Zu Ue (Zu PZ (Zu WI (Zu Ki (pv 3) ZN) ZN) (Zu WI (Zu Ue (pv 3) ZN) ZN)) ZN))
  (ZU (Zn (Zu Ue (Zu Ki (pv 4) ZN) (pv 1))))))))),?_⟩
 exists _,rfl,p,_,_,_,rfl,rfl,ZH.of n,rfl,rfl,_,rfl;refine WV (λ_=>?_) (λu=>?_)
 ·exact k 0 H (Int.le_refl 0) g W (ZJ.refl p H)
 have C:d≠0:=λe=>u (aK (by rw[e]))
 exists _,rfl,p,_,_,_,rfl,rfl,ZH.of n,rfl,_,_,rfl,rfl,_,rfl,p,_,_,_,rfl,rfl,n,rfl;exists _,rfl,p,_,_,_,rfl,rfl,ZH.of ZK,rfl,_,_,rfl,rfl,_,rfl;refine WV (λv=>?_) (λv=>?_)
 ·exists _,rfl,p,_,_,_,rfl,rfl,ZH.of ZK,rfl,_,rfl,_,_,rfl,rfl,g;exists _,rfl,p,_,_,_,rfl,rfl,ZH.of ZK,rfl,_,rfl,_,_,rfl,rfl,⟨g,l⟩,_,rfl,p,_,_,_,rfl,rfl,ZK,rfl;exists _,rfl;refine k (c % m) _ (vO _ ∅) (vM _ g) ⟨a,b,c / m,d-1,ZK,i,j,Int.ediv_nonneg r ∅,∅⟩ (ZJ.refl p H).upd.upd
 ·exists _,rfl,p,_,_,_,rfl,rfl,ZH.of ZK,rfl,_,_,rfl,rfl,_,rfl,p,_,_,_,rfl,rfl,ZK,rfl;exists _,rfl,p,_,_,_,rfl,rfl,ZH.of ZK,rfl,_,_,rfl,rfl,_,rfl,p,_,_,_,rfl,rfl,ZH.of ZK,rfl,_,_,rfl,rfl,.inl ⟨by decide,by decide⟩,_,_,rfl,rfl,_,_,rfl,rfl,.inl ⟨∅,∅⟩,_,_,rfl,rfl,(by show (0:Int)<2147483629;decide)
  generalize t:(a+1) * (48271+7919 * (b+1)) % 2147483629=x;have I:0<=x:=by rw[<-t];exact vO _ (by decide)
  have J:x<2147483629:=by rw[<-t];exact vM _ (by decide)
  exists _,rfl,_,_,rfl,rfl,⟨by decide,by decide⟩,_,_,rfl,rfl,_,rfl,_,_,rfl,rfl,(by show (0:Int)<1009;decide),_,_,rfl,rfl,_,_,rfl,rfl,.inl ⟨∅,∅⟩,_,_,rfl,rfl,(by show (0:Int)<1000000007;decide)
  exists _,rfl,_,_,rfl,rfl,⟨by decide,by decide⟩,_,rfl,_,_,rfl,rfl,g
  exact k _ _ (vO _ ∅) (vM _ g) ⟨a,b+1,c,d-1,ZK,i,j,r,∅⟩ (ZJ.refl p H).upd.upd
abbrev ZOX:jr:=["_law_script","_law_k","_law_left","_law_cell","_law_digits"]
def Ul:ZA ZOX zEy (Zc Mz):=Zz
def ZMq(F:Zj K "_law_well" "_law_well" Mz f fd)(T:YO mg):ZI P w K mg jV ZZ 1 f fd zEy (Vd K):=by
 refine F.ok Ul (λvs H Q E h=>?_) (λX A L s H vs Q E hr h=>?_)
 ·obtain⟨a,g,k,rfl,_⟩:=h;rfl
 obtain⟨a,g,k,rfl,u,hn,k0,k1,q⟩:=h;have J:=Ul.nd;intro Xc;refine⟨_,ZQ (Zw 2 J (UA Zy (XR (Zf ZN (Zf ZN Zs))) (VO Hb rfl T.int Qo (Zf (VN WW (pv 1) ZN (Z3 _)) Zs)) (λ_ _=>rfl)))
  (ZQ (Zw 3 J (UA Zy (Zu OB (VO Q6 rfl T.list Uo (Zf (pv 0) Zs)) (XR (Zf ZN Zs))) (Zu Ue (pv 1) (Zm (IF rfl) rfl T.max Oq (Zf ZN (Zf (Zm WA rfl T.len XQ (Zf (pv 0) Zs)) Zs)))) (λ_ _=>rfl)))
  (ZQ (Zw 4 J (Zu PZ (Zm Lh rfl T.abs M8 (Zf (pv 3) Zs)) (VO Hb rfl T.int Qo (Zf (QN (VN Fi (Zm Lh rfl T.abs M8 (Zf (pv 3) Zs)) (Zu GB ZN ZN) (Z3 _)) (Pn (VN OQ (pv 1) (Zm WA rfl T.len XQ (Zf (pv 0) Zs)) (Z3 _)))) Zs))))
  (ZU (Zn (XR (Zf (Zu Ue (pv 3) ZN) (Zf (Zu PZ ZN (pv 1)) (Zf (pv 4) (Zf (pv 2) Zs))))))))),?_⟩
 exists (by show 2<=ap;decide)
 intro l1 v;have O:=Za v (.lst [V.int 240,V.int 2400]);refine⟨_,rfl,rfl,.inr ⟨_,rfl,?_⟩⟩;obtain⟨lv,t,D⟩:∃ z:Int,XX [V.int 240,V.int 2400] (if decide (V.int k=V.int 0)=true then 1 else 0)=some (.int z)/\0<=z:=by
  split
  ·exact⟨2400,rfl,by decide⟩
  ·exact⟨240,rfl,by decide⟩
 exists l1,_,_,_,rfl,rfl,ZH.of ZK,t;exists _,rfl,a,_,rfl,.inl (O.seq u);intro S y;have Z:=O.trans (Za y (.lst (g.map V.int)));exists (by show 1<=ap;decide)
 intro U n;have g3:=Z.trans (Za n (.lst [V.int 0]));have I:S≠U:=ZY ZK n;exists S,U,_,_,rfl,rfl,(by rw[ZM I];exact ZK),ZK,(by rw[zX];exact nn (by show g.length+1<=1000;lia))
 intro l4 B;have p:=g3.trans (Za B (.lst (g.map V.int++[V.int 0])));exists _,rfl,_,rfl,a,_,rfl,.inl (p.seq u),_,_,rfl;have C:(g.map V.int).length=g.length:=zX _;generalize R:(if (((g.map V.int).length:Nat):Int) > 1 then (((g.map V.int).length:Nat):Int) else 1)=M
 have M1:1<=M/\M<=(g.length:Int)+1:=by
  rw[C] at R;rw[<-R];split <;> lia
 exists _,_,rfl,rfl,by lia
 have i0:0<=k % M:=vO _ ∅
 have i1:k % M<M:=vM _ ∅
 obtain⟨Y,r,G⟩:=Mc (xs:=g.map V.int++[V.int 0]) i0 (by rw[zE,zX,xI];lia)
 obtain⟨c,rfl⟩:∃ z:Int,Y=.int z:=by
  rcases yY.mp G with m | m
  ·obtain⟨z,_,e⟩:=zM.mp m;exact⟨z,e.symm⟩
  ·exact⟨0,zC.mp m⟩
 exists l4,_,_,_,rfl,rfl,ZH.of ZK,r;have l:∀ b:Bool,0<=(if c<0 then -c else c) * (if b=true then 1 else 0):=λb=>by
  cases b
  ·simp
  ·simp;split <;> lia
 have N:∀(x:Int)(b:Bool),Qk x (if b=true then 1 else 0):=λx b=>.inr (by cases b <;> exact⟨by decide,by decide⟩)
 have j:∀(z:Int)(o:Hp),0<=z->ZC H o->∀ i,o i=none->Q (.ref i) (upd o i (.lst [.int (c % 2147483647),.int (1000 * k),.int z,.int lv])):=λz o z0 W i d=>
  q i _ (W.free d) (W.trans (Za d _)) ⟨_,_,_,_,ZK,vO _ (by decide),vM _ (by decide),z0,D⟩
 exists _,rfl,_,rfl,_,rfl,_,rfl,_,_,rfl,rfl,⟨by decide,by decide,by decide⟩,_,_,rfl,rfl,_,rfl
 refine WV (λ_=>?_) (λ_=>?_)
 ·refine⟨_,rfl,_,rfl,a,_,rfl,.inl (p.seq u),_,_,rfl,rfl,.inr ⟨_,rfl,_,_,rfl,rfl,N _ _,?_⟩⟩;exists _,rfl,_,_,rfl,rfl,(by show (0:Int)<2147483647;decide),_,rfl,_,_,rfl,rfl,.inl ⟨by decide,by decide⟩,_,rfl,_,rfl,(by show 4<=ap;decide)
  intro i d;exact j _ _ (l _) p i d
 ·refine .inr ⟨_,rfl,_,_,rfl,rfl,N _ false,?_⟩;exists _,rfl,_,_,rfl,rfl,(by show (0:Int)<2147483647;decide),_,rfl,_,_,rfl,rfl,.inl ⟨by decide,by decide⟩,_,rfl,_,rfl,(by show 4<=ap;decide)
  intro i d;exact j _ _ (l false) p i d
structure Zh(K:zZ)(mg:jb)(x:Str)(st:aB)(ps:jr):Prop where
 ex:∃ f fd,Zj K x x st f fd/\Zx K fd ps []/\mg x=some (.ref f)
def Zh.of{P:al}{w:ar}{K:zZ}{d:jb}{a:aC}{x:Str}{i:aB}{e:jr}{k:Nat}{g:Sp}(L:Zh K d x i e)(h:∀ f c,Zj K x x i f c->ZI P w K d a ZZ k f c e g):ZB P w K d a k x e g:=by
 obtain⟨f,c,F,b,m⟩:=L.ex;exact⟨f,c,h f c F,b,F.kp,m⟩
def Nn{K:zZ}{h:aC}{p:jb}{x:Str}{e:aB}{n:jr}{f:aj}{t g:jv}{u:Array (jc)}{s kV q m o ct:ai}(X:K.In h)(G:h.Ns ao p)(a:zR K ao x=some (some (.ref f)))(l:K.lookup f=some ⟨s,t,.func (yI x x (VE e) (XM e) (Zc e) .none kV q m g o ct),u⟩)(c:xR K o x=true)(k:yU K (.ref f)=true)(r:∀ (kV j m:ai) (g:jv) (i ct:ai) (b:jd),b.length=n.length->bindArgs (yI x x (VE e) (XM e) (Zc e) .none kV j m g i ct) ⟨b,[]⟩=pure (n.zip b):=by first | exact(λ_ _ _ _ _ _ b d=>match b,d with | [_],_=>rfl) | exact(λ_ _ _ _ _ _ b d=>match b,d with | [_,_],_=>rfl) | exact(λ_ _ _ _ _ _ b d=>match b,d with | [_,_,_],_=>rfl) | exact(λ_ _ _ _ _ _ b d=>match b,d with | [_,_,_,_],_=>rfl) | exact(λ_ _ _ _ _ _ b d=>match b,d with | [_,_,_,_,_],_=>rfl)):Zh K p x e n:=
 ⟨f,_,Wy (st:=e) l c k,(Wy (st:=e) l c k).binds r,zB X G a⟩
inductive Vm(n:Nat)(c:je)(H:Hp)(Q:VK)(_:XK):Prop
 |mk(v:V)(t:KT)(q:Nat)(_:c=[v])(_:ZG H t v)(_:t.fits q=true)(_:t.depth<n)(_:∀(b:V)(a:Hp),ZG a t.st b->ZC H a->Q b a)
inductive YZ(d:je)(H:Hp)(Q:VK)(_:XK):Prop
 |mk(v u:V)(a b:KT)(_:d=[v,u])(_:ZG H a v)(_:ZG H b u)(_:a.fits 3=true)(_:b.fits 3=true)(_:∀ c,ZC H c->Q (.bl (a.lt b)) c)
def Fj:ZA zE8 zE8 (Zc Nu):=Zz
def Bu{k:Nat}:ZI P w K mg jV ZZ k f fd zE8 (Vm 0):=by
 have c:∀ a H Q E,¬ Vm 0 a H Q E:=λa H Q E h=>by
  obtain⟨v,t,q,_,_,_,d,_⟩:=h
  lia
 exact⟨λa H Q E h=>absurd h (c a H Q E),λA b s H args e a Q E _ _ _ _ h=>absurd h (c a H Q E)⟩
def B3{n:Nat}(F:Zj K "standing" "standing" Nu f fd)(T:YO mg)(DS:ZB P w K mg jV (n+1) "standing" zE8 (Vm n)):ZI P w K mg jV ZZ (n+2) f fd zE8 (Vm (n+1)):=by
 refine F.ok Fj (λg H Q E h=>?_) (λa1 A a0 s H g Q E hr h=>?_)
 ·obtain⟨v,t,q,rfl,_⟩:=h;rfl
 obtain⟨v,t,q,rfl,d,hq,hn,k⟩:=h;intro Xc;refine⟨_,ZQ (Zv (Ye (Zm Xj rfl T.isi Yw (Zf (pv 0) (Zf (XY (v:=.ty "int") rfl T.int Qo rfl) Zs)))) (ZU (Zn (Yq (Zf ZN (Zf (pv 0) Zs))))) Z1)
  (ZQ (Zv (Ye (Zm Xj rfl T.isi Yw (Zf (pv 0) (Zf (XY (v:=.ty "str") rfl T.str Oo rfl) Zs)))) (ZU (Zn (Yq (Zf ZN (Zf (pv 0) Zs))))) Z1)
  (ZU (Zn (Yq (Zf ZN (Zf (VO OA rfl T.tuple QP (Zf (QO [] [] rfl (Ka (pv 0)) (λ_ _ _ _ _=>UG) (λ_ _ _ _ _=>Zp DS hr (Zf (pv 0) Zs)) trivial) Zs)) Zs)))))),?_⟩
 cases t with
 | int i=>
  have N:v=.int i:=by rw[ZG] at d;exact d
  subst N;refine⟨_,rfl,_,_,_,_,rfl,d.ty,Pk,_,rfl,Z8 ?_⟩;exists _,rfl,(by show 2<=ap;decide)
  intro p U;refine k _ _ ?_ (Za U _);rw[KT.st];exact .tup ZK (.cons (.int 0) (.cons (.int i) .nil))
 | str x=>
  have N:v=.str x:=by rw[ZG] at d;exact d
  subst N;refine⟨_,rfl,_,_,_,_,rfl,d.ty,KS,_,rfl,Zl ?_⟩;refine⟨_,rfl,_,_,_,_,rfl,d.ty,NK,_,rfl,Z8 ?_⟩;exists _,rfl,(by show 2<=ap;decide)
  intro p U;refine k _ _ ?_ (Za U _);rw[KT.st];exact .tup ZK (.cons (.int 1) (.cons (.str x) .nil))
 | tup l=>
  have C:=d;rw[ZG] at C;obtain⟨a,g,rfl,I,G⟩:=C;have hl:=G.length;rw[KT.fits,zT,zT] at hq;obtain⟨a5,X,B⟩:=hq;have a4:l.length<=4:=of_decide_eq_true X;rw[KT.depth] at hn;refine⟨_,rfl,_,_,_,_,rfl,d.ty,LI,_,rfl,Zl ?_⟩;refine⟨_,rfl,_,_,_,_,rfl,d.ty,K1,_,rfl,Zl ?_⟩;exists _,rfl,a,rfl,⟨g,Zd.of I⟩;refine UM (n:=g.length) (λi z=>g[i]? = some z) (λD i m r=>ZC H r/\H D=none/\jP r ((l.take i).map KT.st) m) (YQ ∅)
   (λD i m r S j=>⟨g,g[i],Zd.of (j.1 _ _ I),by simp[S]⟩) (λD i m r z u S j hy=>⟨hy.1,hy.2 g (Zd.of (j.1 _ _ I))⟩) (λD m r j=>⟨g,Zd.of (j.1 _ _ I),zY _⟩)
   (λD hD=>⟨Za hD _,hD,.nil⟩) (λD i m r z M a3 S hz j R hR=>?_) (λD m r M j=>?_)
  ·obtain⟨L,nD,c⟩:=j;obtain⟨t,J,kt⟩:=G.get hz;have mt:=zA J;have Y:t.fits (q-1)=true:=by
    rw[O5] at B;exact zK.mp B t mt
   have a2:=OZ mt;exists _,rfl,z,t,q-1,rfl,kt.sm L,Y,by lia
   intro v' u k4 s4;have y:=s4 D _ M;have tD:YK u (upd u D (.lst (m++[v']))):=(ZJ.refl D u).upd.tups y;refine hR v' u y ⟨λb o e=>by rw[ZM (ZY e nD)];exact s4 b o (L b o e),nD,?_⟩
   rw[yD,J,yR];exact((c.sm s4).append (.cons k4 .nil)).mono tD _ _
  ·obtain⟨L,nD,c⟩:=j;have J:l.take g.length=l:=yF ∅
   rw[J] at c;have Z:=c.length;rw[zX] at Z;refine⟨D,m,rfl,.inl ⟨ZH.of M,λp1 V=>?_⟩⟩;have g1:=Za V (.tup m);exists (by show 2<=ap;decide)
   intro p2 W;have O:=Za W (.tup [.int 2,.ref p1]);refine k _ _ ?_ ((L.trans g1).trans O);rw[KT.st,Jj];exact .tup ZK (.cons (.int 2) (.cons (.tup (O _ _ ZK) (c.sm (g1.trans O))) .nil))
def GO(T:YO mg)(L:Zh K mg "standing" Nu zE8):∀ n:Nat,ZB P w K mg jV (n+1) "standing" zE8 (Vm n)
 | 0=>L.of λ_ _ _=>Bu
 | n+1=>L.of λ_ _ F=>B3 F T (GO T L n)
def EB:ZA zE0 zE0 (Zc Ml):=Zz
def ZKV(F:Zj K "ahead" "ahead" Ml f fd)(e:ZB P w K mg jV 6 "standing" zE8 (Vm 5)):ZI P w K mg jV ZZ 7 f fd zE0 YZ:=by
 refine F.ok EB (λt H Q E h=>?_) (λn A d s H t Q E c h=>?_)
 ·obtain⟨v,u,a,b,rfl,_⟩:=h;rfl
 obtain⟨v,u,a,b,rfl,o,p,g,i,k⟩:=h;intro y;exists _,ZU (Zn (VN (Ia c) (Zp e c (Zf (pv 0) Zs)) (Zp e c (Zf (pv 1) Zs)) (Z3 _)));have z:=Q3 a 3 g;have B:=Q3 b 3 i;have C:=HN a;exists _,rfl,v,a,3,rfl,o,g,by lia
 intro D x q j;exists _,rfl,u,b,3,rfl,p.sm j,i,by lia
 intro G m r l;exists a.st,b.st,q.sm l,r,Gr a b,by lia
 rw[GE];exact k m (j.trans l)
mutual
def KT.wide:KT->Nat->Bool
 | .int _,_=>true
 | .str _,_=>true
 | .tup l,r=>decide (0<r)&&(decide (l.length<=100)&&wideL l (r-1))
def wideL:jp->Nat->Bool
 | [],_=>true
 | t::l,r=>t.wide r&&wideL l r
end
def Oa:∀(l:jp)(r:Nat),wideL l r=l.all (·.wide r)
 | [],r=>by rw[wideL];rfl
 | t::l,r=>by rw[wideL,Oa l r];rfl
mutual
def Oh:∀(t:KT)(r:Nat),t.fits r=true->t.wide r=true
 | .int _,_,_=>by rw[KT.wide]
 | .str _,_,_=>by rw[KT.wide]
 | .tup l,r,h=>by
  rw[KT.fits,zT,zT] at h;rw[KT.wide,zT,zT];have:=of_decide_eq_true h.2.1;exact⟨h.1,aK ∅,wideL_of l (r-1) h.2.2⟩
def wideL_of:∀(l:jp)(r:Nat),fitsL l r=true->wideL l r=true
 | [],_,_=>by rw[wideL]
 | t::l,r,h=>by
  rw[fitsL,zT] at h;rw[wideL,zT];exact⟨Oh t r h.1,wideL_of l r h.2⟩
end
inductive YF(n:Nat)(b:je)(H:Hp)(Q:VK)(_:XK):Prop
 |mk(v u:V)(t:KT)(r:Nat)(_:b=[v,u])(_:ZG H t v)(_:ZG H t u)(_:t.wide r=true)(_:r<n)(_:∀ a,ZC H a->Q (.bl true) a)
def K0{d:Sp}{k:Nat}{e:jr}(c:∀ a H Q E,¬ d a H Q E):ZI P w K mg jV ZZ k f fd e d:=
 ⟨λa H Q E h=>absurd h (c a H Q E),λA b s H args g a Q E _ _ _ _ h=>absurd h (c a H Q E)⟩
def Br:ZA zEd zEd (Zc MC):=Zz
def Cy{n:Nat}(F:Zj K "_law_alike" "_law_alike" MC f fd)(T:YO mg)(DA:ZB P w K mg jV (n+1) "_law_alike" zEd (YF n)):
  ZI P w K mg jV ZZ (n+2) f fd zEd (YF (n+1)):=by
 refine F.ok Br (λd H Q E h=>?_) (λa2 A a0 s H d Q E hr h=>?_)
 ·obtain⟨v,u,t,r,rfl,_⟩:=h;rfl
 obtain⟨v,u,t,r,rfl,q,p,hf,hn,k⟩:=h;intro Xc;refine⟨_,ZQ (Zv (Ye (Zm Xj rfl T.isi Yw (Zf (pv 1) (Zf (XY (v:=.ty "tuple") rfl T.tuple QP rfl) Zs))))
   (ZQ (Zv (PW.pt (VI (XU (Ye (Zm Xj rfl T.isi Yw (Zf (pv 0) (Zf (XY (v:=.ty "tuple") rfl T.tuple QP rfl) Zs)))))
    (UR (YJ Qi (Zm WA rfl T.len XQ (Zf (pv 0) Zs)) (Zm WA rfl T.len XQ (Zf (pv 1) Zs)) (Z3 _))))) (ZU (Zn UQ)) Z1)
   (ZU (Zn (Zm (MT rfl) rfl T.all MS (Zf (QO [0,1] zEd rfl (Ob rfl T.range (Zf (Zm WA rfl T.len XQ (Zf (pv 1) Zs)) Zs)) (λ_ _ _ _ _=>UG)
    (λ_ _ _ _ _=>Zp DA hr (Zf (Zk K (pv 1) (pv 0)) (Zf (Zk K (pv 2) (pv 0)) Zs))) ⟨rfl,.inl rfl,rfl,rfl,.inl rfl,rfl,trivial⟩) Zs))))) Z1)
  (ZQ (Zv (Ye (Zm Xj rfl T.isi Yw (Zf (pv 1) (Zf (XY (v:=.ty "str") rfl T.str Oo rfl) Zs))))
   (ZU (Zn (QN (Zm Xj rfl T.isi Yw (Zf (pv 0) (Zf (XY (v:=.ty "str") rfl T.str Oo rfl) Zs))) (Pn (VN WW (pv 0) (pv 1) (Z3 _)))))) Z1)
  (ZU (Zn (QN (Zm Xj rfl T.isi Yw (Zf (pv 0) (Zf (XY (v:=.ty "int") rfl T.int Qo rfl) Zs)))
   (QN (HP (Zm Xj rfl T.isi Yw (Zf (pv 0) (Zf (XY (v:=.ty "bool") rfl T.bool P7 rfl) Zs)))) (Pn (VN WW (pv 0) (pv 1) (Z3 _)))))))),?_⟩
 cases t with
 | int i=>
  have U:v=.int i:=by rw[ZG] at q;exact q
  have S:u=.int i:=by rw[ZG] at p;exact p
  subst U S;refine⟨_,rfl,_,_,_,_,rfl,.int i,EZ,_,rfl,Zl ?_⟩;refine⟨_,rfl,_,_,_,_,rfl,.int i,kit_is',_,rfl,Zl ?_⟩;refine⟨_,rfl,_,_,_,_,rfl,.int i,Pk,_,rfl,Z8 ?_⟩;refine⟨_,rfl,_,_,_,_,rfl,.int i,Ow,_,rfl,_,rfl,Z8 ?_⟩;exists _,rfl,_,rfl,rfl;rw[aK rfl];exact k H (ZC.refl H)
 | str x=>
  have U:v=.str x:=by rw[ZG] at q;exact q
  have S:u=.str x:=by rw[ZG] at p;exact p
  subst U S;refine⟨_,rfl,_,_,_,_,rfl,.str x,Cc,_,rfl,Zl ?_⟩;refine⟨_,rfl,_,_,_,_,rfl,.str x,NK,_,rfl,Z8 ?_⟩;refine⟨_,rfl,_,_,_,_,rfl,.str x,NK,_,rfl,Z8 ?_⟩;exists _,rfl,_,rfl,rfl;rw[aK rfl];exact k H (ZC.refl H)
 | tup l=>
  rw[ZG] at q p;obtain⟨a,d,rfl,N,G⟩:=q;obtain⟨b,c,rfl,I,C⟩:=p;have hl:=G.length;have a4:=C.length;rw[KT.wide,zT,zT] at hf;obtain⟨f0,f1,f2⟩:=hf;have r0:=of_decide_eq_true f0;have l4:=of_decide_eq_true f1;have ty:Ys K H (.ref a) (.type "tuple"):=.tup N;have a1:Ys K H (.ref b) (.type "tuple"):=.tup I;have Z:c.length=d.length:=by lia (splits:=8)
  refine⟨_,rfl,_,_,_,_,rfl,a1,Ma,_,rfl,Z8 ?_⟩;refine⟨_,rfl,_,_,_,_,rfl,ty,Ma,_,rfl,Zl ?_⟩;refine⟨_,rfl,a,d,rfl,.inr (Zd.of N),_,rfl,b,c,rfl,.inr (Zd.of I),rfl,_,rfl,Of (by rw[Z]) ?_⟩
  exists _,rfl,b,c,rfl,.inr (Zd.of I),_,rfl,by lia (splits:=8),by lia (splits:=8)
  rw[Int.toNat_natCast];refine UM (n:=c.length) (λi x=>x=.int (0+(i:Int))) (λD i y j=>ZC H j/\H D=none/\y=(wQ i true).map V.bl) (YQ (by lia (splits:=8)))
   (λD i y j J _=>J) (λD i y j x H4 J _ hy=>hy) (λD y j _=>zY _) (λD hD=>⟨Za hD _,hD,rfl⟩) (λD i y j x M a3 J hx W R hR=>?_) (λD y j M W=>?_)
  ·subst hx;obtain⟨m,nD,rfl⟩:=W;have X:i<d.length:=by lia (splits:=8)
   have B:d[i]? = some d[i]:=by simp[X]
   have z:c[i]? = some c[i]:=by simp[J]
   obtain⟨t,et,kt⟩:=G.get B;obtain⟨L,g,Y⟩:=C.get z;have O:L=t:=by rw[et] at g;injection g with g;exact g.symm
   subst O;have ft:L.wide (r-1)=true:=by rw[Oa] at f2;exact zK.mp f2 L (zA et)
   have av:XX d (0+(i:Int))=some d[i]:=by rw[Int.zero_add];exact WD B
   have au:XX c (0+(i:Int))=some c[i]:=by rw[Int.zero_add];exact WD z
   refine⟨_,rfl,_,rfl,.inr (.inl ⟨a,d,_,_,rfl,rfl,Zd.of (m _ _ N),av,_,rfl,_,rfl,.inr (.inl ⟨b,c,_,_,rfl,rfl,Zd.of (m _ _ I),au,d[i],c[i],L,r-1,rfl,kt.sm m,Y.sm m,ft,by lia (splits:=8),λH4 s4=>?_⟩)⟩)⟩
   refine hR _ H4 (s4 D _ M) ⟨λb o e=>by rw[ZM (ZY e nD)];exact s4 b o (m b o e),nD,?_⟩
   rw[List.replicate_succ'];simp
  ·obtain⟨m,nD,rfl⟩:=W;exists D,_,rfl,ZH.of M;have e:(wQ c.length true).all id=true:=by simp
   rw[e];exact k j m
def Ir(T:YO mg)(L:Zh K mg "_law_alike" MC zEd):∀ n:Nat,ZB P w K mg jV (n+1) "_law_alike" zEd (YF n)
 | 0=>L.of λ_ _ _=>K0 λb H Q E h=>by obtain⟨v,u,t,r,_,_,_,_,a,_⟩:=h;lia
 | n+1=>L.of λ_ _ F=>Cy F T (Ir T L n)
mutual
def KT.rk:KT->KT
 | .int i=>.tup [.int 0,.int i,.str "",.tup []]
 | .str x=>.tup [.int 1,.int 0,.str x,.tup []]
 | .tup l=>.tup [.int 2,.int 0,.str "",.tup (rkL l)]
def rkL:jp->jp
 | []=>[]
 | t::l=>t.rk::rkL l
end
def Hd:∀ l:jp,rkL l=l.map KT.rk
 | []=>by rw[rkL];rfl
 | t::l=>by rw[rkL,Hd l];rfl
mutual
def Ig:∀ a b:KT,a.rk.eqb b.rk=a.eqb b
 | .int i,.int j=>by simp[KT.rk,KT.eqb,jR]
 | .str x,.str y=>by simp[KT.rk,KT.eqb,jR]
 | .tup l,.tup m=>by simp[KT.rk,KT.eqb,jR,eqbL_rk l m]
 | .int _,.str _=>by simp[KT.rk,KT.eqb,jR]
 | .int _,.tup _=>by simp[KT.rk,KT.eqb,jR]
 | .str _,.int _=>by simp[KT.rk,KT.eqb,jR]
 | .str _,.tup _=>by simp[KT.rk,KT.eqb,jR]
 | .tup _,.int _=>by simp[KT.rk,KT.eqb,jR]
 | .tup _,.str _=>by simp[KT.rk,KT.eqb,jR]
def eqbL_rk:∀ l m:jp,jR (rkL l) (rkL m)=jR l m
 | [],[]=>by simp[rkL,jR]
 | a::l,b::m=>by simp[rkL,jR,Ig a b,eqbL_rk l m]
 | [],_::_=>by simp[rkL,jR]
 | _::_,[]=>by simp[rkL,jR]
end
mutual
def Jq:∀ a b:KT,a.rk.cmp b.rk=true
 | .int i,.int j=>by simp[KT.rk,KT.eqb,KT.cmp,cmpL,jR]
 | .str x,.str y=>by simp[KT.rk,KT.eqb,KT.cmp,cmpL,jR]
 | .tup l,.tup m=>by simp[KT.rk,KT.eqb,KT.cmp,cmpL,cmpL_rk l m]
 | .int _,.str _=>by simp[KT.rk,KT.eqb,KT.cmp,cmpL]
 | .int _,.tup _=>by simp[KT.rk,KT.eqb,KT.cmp,cmpL]
 | .str _,.int _=>by simp[KT.rk,KT.eqb,KT.cmp,cmpL]
 | .str _,.tup _=>by simp[KT.rk,KT.eqb,KT.cmp,cmpL]
 | .tup _,.int _=>by simp[KT.rk,KT.eqb,KT.cmp,cmpL]
 | .tup _,.str _=>by simp[KT.rk,KT.eqb,KT.cmp,cmpL]
def cmpL_rk:∀ l m:jp,cmpL (rkL l) (rkL m)=true
 | [],_=>by simp[rkL,cmpL]
 | _::_,[]=>by simp[rkL,cmpL]
 | a::l,b::m=>by
  rw[rkL,rkL,cmpL,cmpL_rk l m,Jq a b];split <;> rfl
end
mutual
def HQ:∀ a b:KT,a.rk.plt b.rk=a.lt b
 | .int i,.int j=>by
  simp only[KT.rk,KT.eqb,KT.plt,pltL,jR,KT.lt,beq_self_eq_true,if_true];by_cases h:i=j
  ·subst h;simp
  ·simp[h]
 | .str x,.str y=>by
  simp only[KT.rk,KT.eqb,KT.plt,pltL,jR,KT.lt,beq_self_eq_true,if_true];by_cases h:x=y
  ·subst h;simp
  ·simp[h]
 | .tup l,.tup m=>by
  simp only[KT.rk,KT.eqb,KT.plt,pltL,KT.lt,beq_self_eq_true,if_true,eqbL_rk,pltL_rk l m]
  cases h:jR l m with
  | true=>rw[aO rfl,Hh h]
  | false=>rw[aM zV]
 | .int _,.str _=>by simp[KT.rk,KT.eqb,KT.plt,pltL,KT.lt]
 | .int _,.tup _=>by simp[KT.rk,KT.eqb,KT.plt,pltL,KT.lt]
 | .str _,.int _=>by simp[KT.rk,KT.eqb,KT.plt,pltL,KT.lt]
 | .str _,.tup _=>by simp[KT.rk,KT.eqb,KT.plt,pltL,KT.lt]
 | .tup _,.int _=>by simp[KT.rk,KT.eqb,KT.plt,pltL,KT.lt]
 | .tup _,.str _=>by simp[KT.rk,KT.eqb,KT.plt,pltL,KT.lt]
def pltL_rk:∀ l m:jp,pltL (rkL l) (rkL m)=ltL l m
 | [],[]=>by simp[rkL,pltL,ltL]
 | [],_::_=>by simp[rkL,pltL,ltL]
 | _::_,[]=>by simp[rkL,pltL,ltL]
 | a::l,b::m=>by rw[rkL,rkL,pltL,ltL,Ig a b,pltL_rk l m,HQ a b]
end
mutual
def HJ:∀ t:KT,t.rk.depth<=2 * t.depth+2
 | .int i=>by simp[KT.rk,KT.depth,jS]
 | .str x=>by simp[KT.rk,KT.depth,jS]
 | .tup l=>by
  have:=depthL_rk l;simp only[KT.rk,KT.depth,jS]
  lia
def depthL_rk:∀ l:jp,jS (rkL l)<=2 * jS l+2
 | []=>by simp[rkL,jS]
 | t::l=>by
  have a:=HJ t;have b:=depthL_rk l;rw[rkL,jS,jS]
  lia
end
inductive Wk(n:Nat)(c:je)(H:Hp)(Q:VK)(_:XK):Prop
 |mk(v:V)(t:KT)(q:Nat)(_:c=[v])(_:ZG H t v)(_:t.fits q=true)(_:t.depth<n)(_:∀(b:V)(a:Hp),ZG a t.rk b->ZC H a->Q b a)
def C3:ZA zE2 zE2 (Zc MZ):=Zz
def E5{n:Nat}(F:Zj K "_law_rank" "_law_rank" MZ f fd)(T:YO mg)(DS:ZB P w K mg jV (n+1) "_law_rank" zE2 (Wk n)):ZI P w K mg jV ZZ (n+2) f fd zE2 (Wk (n+1)):=by
 refine F.ko C3 λa4 A a3 s H j Q E hr h=>?_;obtain⟨v,t,q,rfl,d,hq,hn,k⟩:=h;intro Xc;refine⟨_,ZQ (Zv (Ye (Zm Xj rfl T.isi Yw (Zg (pv 0) (XY (v:=.ty "int") rfl T.int Qo rfl)))) (ZU (Zn (Yq (Pc ZN (pv 0) Ym (Yq Zs))))) Z1)
  (ZQ (Zv (Ye (Zm Xj rfl T.isi Yw (Zg (pv 0) (XY (v:=.ty "str") rfl T.str Oo rfl)))) (ZU (Zn (Yq (Pc ZN ZN (pv 0) (Yq Zs))))) Z1)
  (ZU (Zn (Yq (Pc ZN ZN Ym (VO OA rfl T.tuple QP (ZX (QO [] [] rfl (Ka (pv 0)) (λ_ _ _ _ _=>UG) (λ_ _ _ _ _=>Zp DS hr (ZX (pv 0))) trivial)))))))),?_⟩
 cases t with
 | int i=>
  have O:v=.int i:=by rw[ZG] at d;exact d
  subst O;refine⟨_,rfl,_,_,_,_,rfl,d.ty,Pk,_,rfl,Z8 ?_⟩;refine⟨_,rfl,(by show 0<=ap;decide),λp0 V=>⟨(by show 4<=ap;decide),λp X=>?_⟩⟩
  have S:=Za V (.tup []);have r:=Za X (.tup [.int 0,.int i,.str "",.ref p0]);refine k _ _ ?_ (S.trans r);rw[KT.rk];exact .tup ZK (.cons (.int 0) (.cons (.int i) (.cons (.str _) (.cons (.tup (r _ _ ZK) .nil) .nil))))
 | str x=>
  have O:v=.str x:=by rw[ZG] at d;exact d
  subst O;refine⟨_,rfl,_,_,_,_,rfl,d.ty,KS,_,rfl,Zl ?_⟩;refine⟨_,rfl,_,_,_,_,rfl,d.ty,NK,_,rfl,Z8 ?_⟩;refine⟨_,rfl,(by show 0<=ap;decide),λp0 V=>⟨(by show 4<=ap;decide),λp X=>?_⟩⟩
  have S:=Za V (.tup []);have r:=Za X (.tup [.int 1,.int 0,.str x,.ref p0]);refine k _ _ ?_ (S.trans r);rw[KT.rk];exact .tup ZK (.cons (.int 1) (.cons (.int 0) (.cons (.str x) (.cons (.tup (r _ _ ZK) .nil) .nil))))
 | tup l=>
  have G:=d;rw[ZG] at G;obtain⟨a,j,rfl,J,I⟩:=G;have hl:=I.length;rw[KT.fits,zT,zT] at hq;obtain⟨a8,a0,C⟩:=hq;have a7:l.length<=4:=of_decide_eq_true a0;rw[KT.depth] at hn;refine⟨_,rfl,_,_,_,_,rfl,d.ty,LI,_,rfl,Zl ?_⟩;refine⟨_,rfl,_,_,_,_,rfl,d.ty,K1,_,rfl,Zl ?_⟩;exists _,rfl,a,rfl,⟨j,Zd.of J⟩;refine UM (n:=j.length) (λi z=>j[i]? = some z) (λD i m u=>ZC H u/\H D=none/\jP u ((l.take i).map KT.rk) m) (YQ ∅)
   (λD i m u W g=>⟨j,j[i],Zd.of (g.1 _ _ J),by simp[W]⟩) (λD i m u z y W g hy=>⟨hy.1,hy.2 j (Zd.of (g.1 _ _ J))⟩) (λD m u g=>⟨j,Zd.of (g.1 _ _ J),zY _⟩)
   (λD hD=>⟨Za hD _,hD,.nil⟩) (λD i m u z N a6 W hz g R hR=>?_) (λD m u N g=>?_)
  ·obtain⟨M,nD,c⟩:=g;obtain⟨t,L,kt⟩:=I.get hz;have mt:=zA L;have a1:t.fits (q-1)=true:=by
    rw[O5] at C;exact zK.mp C t mt
   have a5:=OZ mt;exists _,rfl,z,t,q-1,rfl,kt.sm M,a1,by lia
   intro v' y k4 s4;have B:=s4 D _ N;have tD:YK y (upd y D (.lst (m++[v']))):=(ZJ.refl D y).upd.tups B;refine hR v' y B ⟨λb o e=>by rw[ZM (ZY e nD)];exact s4 b o (M b o e),nD,?_⟩
   rw[yD,L,yR];exact((c.sm s4).append (.cons k4 .nil)).mono tD _ _
  ·obtain⟨M,nD,c⟩:=g;have L:l.take j.length=l:=yF ∅
   rw[L] at c;have a2:=c.length;rw[zX] at a2;refine⟨D,m,rfl,.inl ⟨ZH.of N,λp1 Y=>?_⟩⟩;have r:=Za Y (.tup m);exists (by show 4<=ap;decide)
   intro p2 Z;have U:=Za Z (.tup [.int 2,.int 0,.str "",.ref p1]);refine k _ _ ?_ ((M.trans r).trans U);rw[KT.rk,Hd];exact .tup ZK (.cons (.int 2) (.cons (.int 0) (.cons (.str _) (.cons (.tup (U _ _ ZK) (c.sm (r.trans U))) .nil))))
def GS(T:YO mg)(L:Zh K mg "_law_rank" MZ zE2):∀ n:Nat,ZB P w K mg jV (n+1) "_law_rank" zE2 (Wk n)
 | 0=>L.of λ_ _ _=>K0 λb H Q E h=>by obtain⟨v,t,q,_,_,_,a,_⟩:=h;lia
 | n+1=>L.of λ_ _ F=>E5 F T (GS T L n)
def Dt:ZA zEr zEr (Zc Ly):=Zz
def ZMX(F:Zj K "_law_less" "_law_less" Ly f fd)(e:ZB P w K mg jV 6 "_law_rank" zE2 (Wk 5)):ZI P w K mg jV ZZ 7 f fd zEr YZ:=by
 refine F.ko Dt λn A d s H G Q E c h=>?_;obtain⟨v,u,a,b,rfl,o,p,g,i,k⟩:=h;intro x;exists _,ZU (Zn (VN (Ia c) (Zp e c (ZX (pv 0))) (Zp e c (ZX (pv 1))) (Z3 _)));have y:=Q3 a 3 g;have z:=Q3 b 3 i;have B:=HJ a;exists _,rfl,v,a,3,rfl,o,g,by lia
 intro C t q j;exists _,rfl,u,b,3,rfl,p.sm j,i,by lia
 intro D m r l;exists a.rk,b.rk,q.sm l,r,Jq a b,by lia
 rw[HQ];exact k m (j.trans l)
end Tw
namespace L2
open PySem PySem.Spec PyProof.Rows
inductive Qa(b:zZ)(c:je)(H:Hp)(Q:VK):Prop
 |mk(p:aj)(a:jz)(_:c=[.ref p])(_:ZH b H p (a.map V.int))(_:Q (.int a.sum) H)
def BP(g:X.calm=true):Wq X (.builtin "sum") (Qa X.K):=by
 intro d s A H z y Q I r h;obtain⟨p,c,rfl,j,q⟩:=h;obtain⟨u,rfl,m⟩:=VT r;cases m;obtain⟨k,n,l,x⟩:=I.list j;have a:=K5 n;obtain⟨v,e⟩:=a.allInts.items;have b:=l.isList;rw[e] at b;have f:v.toList.map (·.1)=c:=by
  rw[<-nums_intItems,<-e];exact a.numsOf
 refine sum_intListG (I.ok.hd g) b λw t o i=>⟨.int c.sum,H,I.kept (t':=t) i,⟨o,?_⟩,q⟩;rw[preSum_eq,yF (by simp),f]
end L2
namespace Tw
open PySem PySem.Spec L2 PyProof.Rows
variable{jg jh CS CT CH CK CP CB:aj}
def ZN6:ax "sum" = some (.builtin "sum"):=by decide +kernel
structure YU where
 h:Int
 lo:KT
 hi:KT
 m:Int
abbrev jI:=List YU
def YU.d:YU:=⟨0,.int 0,.int 0,0⟩
def YU.kt(L:YU):KT:=.tup [.int L.h,L.lo,L.hi,.int L.m]
inductive YV(H:Hp)(L:YU)(u:V):Prop
 |mk(a c b:_)(_:u=.ref a)(_:H a=some (.tup [.int L.h,c,b,.int L.m]))(_:ZG H L.lo c)(_:ZG H L.hi b)
def YV.mono{H d:Hp}{L:YU}{u:V}(x:YV H L u)(m:YK H d):YV d L u:=by
 obtain⟨a,c,b,e,f,g,h⟩:=x;exact⟨a,c,b,e,m _ _ f,g.mono m _ _,h.mono m _ _⟩
def YV.key{H:Hp}{L:YU}{u:V}(x:YV H L u):ZG H L.kt u:=by
 obtain⟨a,f,e,rfl,b,c,d⟩:=x;exact .tup b (.cons (.int _) (.cons c (.cons d (.cons (.int _) .nil))))
def YR(H:Hp)(a:jI)(b:je):Prop:=b.length=a.length/\∀ i u,b[i]? = some u->YV H (a.getD i .d) u
def YR.mono{H a:Hp}{b:jI}{c:je}(x:YR H b c)(m:YK H a):YR a b c:=⟨x.1,λi u e=>(x.2 i u e).mono m⟩
def YU.fit(L:YU):Prop:=L.lo.fits 3=true/\L.hi.fits 3=true
def Uy(a b:YU):Bool:=(a.h==b.h)&&a.hi.lt b.lo
def No(a:jI):Bool:=(zQ (a.length-1)).all λj=>Uy (a.getD j .d) (a.getD (j+1) .d)
def over(a:jI):Option YU:=if 2<=a.length/\a.length<=4/\No a=true then some ⟨(a.getD 0 .d).h+1,(a.getD 0 .d).lo,(a.getD (a.length-1) .d).hi,(a.map YU.m).sum⟩ else none
def Gu{a:jI}(h:¬ (2<=a.length/\a.length<=4)):over a=none:=aM λz=>h ⟨z.1,z.2.1⟩
def BA{a:jI}{i:Nat}(b:i+1<a.length)(h:Uy (a.getD i .d) (a.getD (i+1) .d)=false):over a=none:=aM λz=>by
 have:=zK.mp z.2.2 i (xN.mpr ∅)
 rw[h] at this;cases this
def F5{ls:jI}(a:2<=ls.length)(b:ls.length<=4)(h:∀ j,j<ls.length-1->Uy (ls.getD j .d) (ls.getD (j+1) .d)=true):over ls=some ⟨(ls.getD 0 .d).h+1,(ls.getD 0 .d).lo,(ls.getD (ls.length-1) .d).hi,(ls.map YU.m).sum⟩:=
 aO ⟨a,b,zK.mpr λj c=>h j (xN.mp c)⟩
inductive Vs(d:je)(H:Hp)(Q:VK)(_:XK):Prop
 |mk(v u:V)(a b:YU)(_:d=[v,u])(_:YV H a v)(_:YV H b u)(_:a.fit)(_:b.fit)(_:∀ c,ZC H c->Q (.bl (Uy a b)) c)
def FO:ZA zEx zEx (Zc JA):=Zz
def EL(F:Zj K "stand_side_by_side" "stand_side_by_side" JA f fd)(T:YO mg)(r:ZB P w K mg jV 7 "ahead" zE0 YZ):ZI P w K mg jV ZZ 8 f fd zEx Vs:=by
 refine F.ko FO λB A l s H X Q E J h=>?_;obtain⟨v,u,a,b,rfl,G,I,C,D,k⟩:=h;obtain⟨U,o⟩:=T.height;obtain⟨V,N⟩:=T.least;obtain⟨W,O⟩:=T.greatest;obtain⟨p,x,c,rfl,m,L,i⟩:=G;obtain⟨q,d,y,rfl,n,j,M⟩:=I;intro S;refine⟨_,ZU (Zn (QN (VN WW (Zk K (pv 0) (WH (v:=.int 0) rfl o ⟨_,rfl⟩)) (Zk K (pv 1) (WH (v:=.int 0) rfl o ⟨_,rfl⟩)) (Z3 _))
  (Pn (Zp r J (Zg (Zk K (pv 0) (WH (v:=.int 2) rfl O ⟨_,rfl⟩)) (Zk K (pv 1) (WH (v:=.int 1) rfl N ⟨_,rfl⟩))))))),?_⟩
 refine⟨_,rfl,.inr (.inl ⟨p,_,_,.int a.h,rfl,rfl,Zd.of m,rfl,?_⟩)⟩;refine⟨_,rfl,.inr (.inl ⟨q,_,_,.int b.h,rfl,rfl,Zd.of n,rfl,rfl,_,rfl,?_⟩)⟩;by_cases g:a.h=b.h
 ·rw[aK (by rw[g])]
  refine Z8 ?_;refine⟨_,rfl,.inr (.inl ⟨p,_,_,c,rfl,rfl,Zd.of m,rfl,?_⟩)⟩;refine⟨_,rfl,.inr (.inl ⟨q,_,_,d,rfl,rfl,Zd.of n,rfl,c,d,a.hi,b.lo,rfl,i,j,C.2,D.1,λt R=>?_⟩)⟩;have e:a.hi.lt b.lo=Uy a b:=by unfold Uy;rw[g,beq_self_eq_true,vA]
  rw[e];exact k t R
 ·rw[aJ (λz=>g (Dj z))];refine Zl ?_;have e:false=Uy a b:=by unfold Uy;rw[beq_eq_false_iff_ne.mpr g,uY]
  rw[e];exact k H (ZC.refl H)
abbrev Q0:jd:=[.type "ValueError",.type "Exception",.type "BaseException",.type "object"]
def Ee:ax "ValueError" = some (.type "ValueError"):=by decide +kernel
inductive VY(CS:aj)(e:je)(H:Hp)(Q:VK)(E:XK):Prop
 |mk(l:aj)(c:je)(b:jI)(_:e=[.ref l])(_:H l=some (.lst c))(_:YR H b c)(_:∀ i,(b.getD i .d).fit)(_:c.length<=100)(_:∀ a,ZC H a->(over b=none->E (.ref CS) none a)/\∀ L v,over b=some L->ZG a L.kt v->Q v a)
abbrev ZOe:jr:=["labels","at","many"]
def UV:ZA ZOe ["labels"] (Zc Lp):=Zz
end Tw
namespace L2
open PySem PySem.Spec PyProof.Rows
def Da:fillsNumberSlot (.type "tuple") "mul" = pure false:=
 PySem.fillsNumberSlot_seq (id:= "tuple.__mul__") (r:=some (.builtin "tuple.__rmul__")) uI.lookup (by decide +kernel) rC.lookup (by decide +kernel)
def FY:seqRepeat? (.type "tuple")=pure (some (.builtin "tuple.__mul__")):=by
 unfold seqRepeat?;rw[PySem.seqSlot_of (T:= "tuple") (name:= "__mul__") (id:= "tuple.__mul__") uI.lookup (by decide +kernel),PySem.seqSlot_of (T:= "tuple") (name:= "__rmul__") (id:= "tuple.__rmul__") rC.lookup (by decide +kernel)]
 rfl
def Am(a:Int)(t:Tok)(l:aj)(b:jw)(n:Nat)(e:jv)(f:Array (jc)):
  Meets (Builtin.«int.__rmul__» ⟨[.int a t,.ref l],[]⟩) (λ_ R s=>s.heap.get? l=some { cls:=.type "tuple",dict:=e,data:=.seq b n,slots:=f }/\R (.ok (.ret Value.notImplemented)) s):=
 .of_wp λc w A R s h=>by obtain⟨j,g,d,m,k⟩:=s;obtain⟨i,h⟩:=h;wp_walk;exact⟨_,rfl,h⟩
def Bn(u:Tok)(l:aj)(a:jw)(n:Nat)(c:jv)(e:Array (jc)):
  Meets (Builtin.«tuple.__mul__» ⟨[.ref l,.int 1 u],[]⟩) (λ_ R s=>s.heap.get? l=some { cls:=.type "tuple",dict:=c,data:=.seq a n,slots:=e }/\R (.ok (.ret (.ref l))) s):=
 .of_wp λb w A R s h=>by
  obtain⟨i,g,d,k,j⟩:=s;obtain⟨f,h⟩:=h;unfold Builtin.«tuple.__mul__»
  wp_walk
  exact⟨_,rfl,h⟩
def CU(u:Tok)(l:aj)(x:ai)(n:Nat)(b:jv)(c:Array (jc)):
  Meets (Builtin.«tuple.__mul__» ⟨[.ref l,.int 0 u],[]⟩) (λ_ R s=>s.heap.get? l=some { cls:=.type "tuple",dict:=b,data:=.seq #[x] n,slots:=c }/\R (.ok (.ret (.ref s.heap.objs.size))) { s with heap:=s.heap.push { cls:=.type "tuple",data:=.seq #[] } }):=
 .of_wp λa w A R s h=>by
  obtain⟨f,g,d,j,i⟩:=s;obtain⟨e,h⟩:=h;unfold Builtin.«tuple.__mul__»
  wp_walk
  exact⟨_,rfl,h⟩
inductive NU(K:zZ)(x y:V)(H:Hp)(Q:VK):Prop
 |mk(a:aj)(v:V)(n:Int)(_:x=.ref a)(_:y=.int n)(_:Zd K H a [v])(_:n=1/\Q (.ref a) H\/n=0/\∀ p,H p=none->Q (.ref p) (upd H p (.tup [])))
def Ax:Yi X (binaryOp .Mult) (NU X.K):=by
 intro i s E H x y v u Q I A B h;obtain⟨a,z,n,rfl,rfl,k,l⟩:=h;cases A;obtain⟨t,rfl⟩:=B;obtain⟨p,w,r,_⟩:=I.tuple k;obtain⟨D,rfl,_⟩:=VT w;obtain⟨⟨cls,e,data,f⟩,c,d,m,g⟩:=id r;simp only at d g;subst d g;refine wpAny_binaryOp_repeat_ref (T:= "tuple") (U:= "int") (by decide) ⟨_,c,rfl⟩ (λC=>typeIs_int C n t) Da PySem.F.fills_int_mul rR FY PySem.F.slot_int_index.lookup
  (call_meets rR (typeIs_int s n t) PySem.F.entry_int_rmul (PySem.F.args_int_rmul_2 _ _) (Am n t a _ m e f) ⟨c,rfl,⟨_,c,rfl⟩,?_⟩)
 rcases l with ⟨rfl,q⟩ | ⟨rfl,q⟩
 ·exact call_meets uI ⟨_,c,rfl⟩ rF (qZ _ _) (Bn t a _ m e f) ⟨c,⟨.ref a,H,I,rfl,q⟩⟩
 ·refine call_meets uI ⟨_,c,rfl⟩ rF (qZ _ _) (CU t a _ m e f) ⟨c,?_⟩;have j:=I.laid (a:=s.heap.objs.size) (o:=.tup []) (h':=s.heap.push { cls:=.type "tuple",data:=.seq #[] }) (t':=s.toks) (λb u q=>zS _ q) (zY _)
   ⟨yX _,[],.nil,_,yW _ rfl,rfl,0,rfl⟩
  exact⟨.ref s.heap.objs.size,_,j,rfl,q _ (I.hok.fresh (zY _))⟩
inductive UH(x y:V)(H:Hp)(Q:VK):Prop
 |mk(i n:_)(_:x=.str i)(_:y=.int n)(_:i.length=1)(_:n=1/\Q (.str i) H\/n=0/\Q (.str "") H)
def ZJw:Yi X (binaryOp .Mult) (UH):=by
 intro b s g H x y v u Q I d e h;obtain⟨i,n,rfl,rfl,a,c⟩:=h;obtain⟨t,rfl⟩:=d;obtain⟨f,rfl⟩:=e;rcases c with ⟨rfl,q⟩ | ⟨rfl,q⟩
 ·refine PySem.P.mul_str ?_ (λ_ _=>?_) (λ_ _=>?_) ?_
  ·decide
  ·rw[a];decide
  ·rw[a];decide
  ·rw[aM (by decide),aO (by simp)]
   exact⟨.str i,H,I,⟨t,rfl⟩,q⟩
 ·refine PySem.P.mul_str ?_ (λz _=>?_) (λz _=>?_) ?_
  ·decide
  ·first | exact absurd z (by decide) | (rw[a];decide)
  ·first | exact absurd z (by decide) | (rw[a];decide)
  ·rw[aO (by decide)]
   exact⟨yX _,⟨.str "",H,I.tok _,⟨_,rfl⟩,q⟩⟩
end L2
namespace Tw
open PySem PySem.Spec L2
variable{jg jh CS CT CH CK CP CB:aj}
def YE:Str:= "!#$&()*+,-./0123456789:;<=>?@ABCDEFGHIJKLMNOPQRSTUVWXYZ"
def Mo:YE.cps.toList.length=55:=by decide +kernel
def ZL7:YE.cps.toList.all Uc=true:=by decide +kernel
def GY{i:Int}(a:0<=i)(b:i<55):∃ c,XX YE.cps.toList i=some c/\Uc c=true:=by
 obtain⟨c,e,m⟩:=Mc (xs:=YE.cps.toList) a (by rw[Mo];exact b)
 exact⟨c,e,zK.mp ZL7 c m⟩
def Zq(x:Str)(i:Nat):Prop:=x.cps.size<=i/\x.cps.toList.all Uc=true
def Zq.ok{x:Str}{i:Nat}(h:Zq x i)(a:i<=40):Pv x=true:=Ep (zI h.1 a) h.2
def Zq.cat{x y:Str}{i j:Nat}(h:Zq x i)(g:Zq y j):Zq (x++y) (i+j):=by
 have e:(x++y).cps=x.cps++y.cps:=rfl;exists ?_
 ·rw[e,Array.size_append];exact uA h.1 g.1
 ·rw[e,tG,List.all_append,h.2,g.2];rfl
def Zq.one{c:Nat}(h:Uc c=true):Zq ⟨#[c]⟩ 1:=⟨zY _,by simp[h]⟩
def Zq.k:Zq "k" 1:=by unfold Zq;decide +kernel
def Zq.a:Zq "a" 1:=by unfold Zq;decide +kernel
def Zq.e:Zq "" 0:=by unfold Zq;decide +kernel
def OD{n:Int}(h:n.natAbs<10 ^ 60)(r:Nat):(KT.int n).fits r=true:=by rw[KT.fits];exact aK h
def N5{x:Str}{i:Nat}(h:Zq x i)(a:i<=40)(r:Nat):(KT.str x).fits r=true:=by rw[KT.fits];exact h.ok a
def Av{n:Int}(h:n.natAbs<10 ^ 60):(KT.tup [.str "",.int n]).fits 3=true:=Jp (yP rfl) (by
 rw[fitsL,fitsL,fitsL,OD h 2,N5 Zq.e (by decide) 2];rfl)
def E2{n:Int}(h:n.natAbs<10 ^ 60):(KT.tup [.str "",.int n,.int 0]).fits 3=true:=Jp (yP rfl) (by
 rw[fitsL,fitsL,fitsL,fitsL,OD h 2,N5 Zq.e (by decide) 2,OD (n:=0) (by decide) 2];rfl)
def Ju{n:Int}(a : -10000<=n)(b:n<=10000):n.natAbs<10 ^ 60:=xP (show n.natAbs<=10000 by lia) (by decide)
def F9:YE.cps.toList.Pairwise (· < ·):=by decide +kernel
def Hi{i j:Int}{c d:Nat}(l:0<=i)(h:i<j)(m:j<55)(e:XX YE.cps.toList i=some c)(f:XX YE.cps.toList j=some d):c<d:=by
 obtain⟨a,rfl⟩:∃ a:Nat,i=(a:Int):=⟨i.toNat,∅⟩
 obtain⟨b,rfl⟩:∃ b:Nat,j=(b:Int):=⟨j.toNat,∅⟩
 have g:a<YE.cps.toList.length:=by rw[Mo];lia
 have k:b<YE.cps.toList.length:=by rw[Mo];lia
 rw[WD (zU g)] at e;rw[WD (zU k)] at f;cases e;cases f;exact List.pairwise_iff_getElem.mp F9 a b g k ∅
inductive GK:KT->Nat->Int->Prop
 | int (sz:Int):GK (.int (sz-700)) 0 sz
 | str {x:Str} {sz:Int} {c1 c2:Nat} {tl:jo} (h:x.cps.toList=107::c1::c2::tl) (h1:XX YE.cps.toList (sz / 50)=some c1) (h2:XX YE.cps.toList (sz % 50)=some c2):GK (.str x) 1 sz
 | tup (sz:Int) (l:jp):GK (.tup (.str ""::.int sz::l)) 2 sz
def Bk{a b:KT}{c d:Nat}{s r:Int}(m:GK a c s)(f:GK b d r)(q:c<=d)(h:s<r)(p:0<=s)(t:r<=1280):a.lt b=true:=by
 cases m with
 | int=>
  cases f with
  | int=>rw[KT.lt];exact aK ∅
  | str=>rw[KT.lt]
  | tup=>rw[KT.lt]
 | str i e j=>
  cases f with
  | int=>lia
  | str k g l=>
   rw[KT.lt,i,k];refine aK ?_;refine List.Lex.cons ?_;rcases(show s / 50<r / 50\/(s / 50=r / 50/\s % 50<r % 50) by lia) with z | ⟨n,o⟩
   ·exact List.Lex.rel (Hi ∅ z ∅ e g)
   ·rw[n,g] at e;cases e;exact List.Lex.cons (List.Lex.rel (Hi ∅ o ∅ j l))
  | tup=>rw[KT.lt]
 | tup=>
  cases f with
  | int=>lia
  | str=>lia
  | tup=>
   rw[KT.lt,ltL,aO (by rw[KT.eqb];exact beq_self_eq_true _),ltL,aM (by rw[KT.eqb];simp;lia),KT.lt]
   exact aK h
def cls(o a:Int)(i:Nat):Nat:=if (i:Int)<o then 0 else if (i:Int)<o+a then 1 else 2
def ZJs(o a:Int)(i:Nat)(h:0<=a):cls o a i<=cls o a (i+1):=by
 unfold cls;split
 ·split <;> (try split) <;> lia
 ·split
  ·rw[aM ∅]
   split <;> lia
  ·rw[aM ∅,aM ∅]
   exact zY _
def GI(o f:Int)(i:Nat)(e:Int)(d:jp):Prop:=d.Pairwise (λa b=>a.lt b=true)/\∀ t∈d,∃ c s,GK t c s/\c<=cls o f i/\0<=s/\s<=e
def BL{o f:Int}{i:Nat}{k d:Int}{n:jp}{t:KT}(u:0<=f)(h:GI o f i k n)(y:k<d)(p:d<=1280)(w:0<=k)(m:GK t (cls o f i) d):GI o f (i+1) d (n++[t]):=by
 refine⟨?_,λx e=>?_⟩
 ·rw[vG];exists h.1,rV _ _;intro a q b r;rw[zC.mp r];obtain⟨c,s,g,l,j,v⟩:=h.2 a q;exact Bk g m l ∅ j p
 ·have:=ZJs o f i u;rcases yY.mp e with e | e
  ·obtain⟨c,s,g,l,j,v⟩:=h.2 x e;exact⟨c,s,g,∅,j,∅⟩
  ·rw[zC.mp e];exact⟨_,d,m,this,∅,Int.le_refl _⟩
inductive Vp(g:je)(H:Hp)(Q:VK)(_:XK):Prop
 |mk(p:aj)(_:g=[.ref p])(_:ZL H p)(_:∀(D:aj)(e:je)(d:jp)(c:Hp),ZJ p H c->ZL c p->H D=none->c D=some (.lst e)->jP c d e->(∀ t∈d,t.fits 3=true)->e.length=64->d.Pairwise (λa b=>a.lt b=true)->Q (.ref D) c)
abbrev Dz:jr:=["_law_well_here","_law_signs","_law_found","_law_size","_law_one","_law_two","_law_j"]
def Uk:ZA Dz zE4 (Zc JK):=Zz
def ZMW(F:Zj K "_law_grid" "_law_grid" JK f fd)(T:YO mg)(DP:ZB P w K mg jV 1 "_law_pull" zEf YT):ZI P w K mg jV ZZ 2 f fd zE4 Vp:=by
 refine F.ko Uk λc8 A a9 s H vs Q E hr h=>?_;obtain⟨p,rfl,W,k⟩:=h;have M:=Uk.nd;intro Xc;refine⟨_,ZQ (Zw 1 M Ym)
  (ZQ (Zw 2 M (XR Zs))
  (ZQ (Zw 3 M ZN)
  (ZQ (Zw 4 M (Zp DP hr (Zg (pv 0) ZN)))
  (ZQ (Zw 5 M (Zu WI (pv 4) (Zp DP hr (Zg (pv 0) (Zu QI ZN (pv 4))))))
  (ZQ (VV PassesOwn.never rfl (Ob rfl T.range (ZX ZN)) (Yb 6 M)
   (ZQ (Zw 3 M (Zu WI (Zu WI (pv 3) ZN) (Zp DP hr (Zg (pv 0) ZN))))
   (ZU (Zv (YJ OQ (pv 6) (pv 4) (Z3 _))
    (ZU (Xe (Vh yM xL xK UI (pv 2) (ZX (Zu QI (pv 3) ZN)))))
    (ZU (Zv (YJ OQ (pv 6) (pv 5) (Z3 _))
     (ZU (Xe (Vh yM xL xK UI (pv 2) (ZX (Zu Lk (Zu Lk (Zu Lk Ym (Zk K (pv 1) (Zu Ki (pv 3) ZN))) (Zk K (pv 1) (Zu Ue (pv 3) ZN))) (Zu ZJw Ym (Zu Ue (pv 6) ZN)))))))
     (ZU (Xe (Vh yM xL xK UI (pv 2) (ZX (Zu E6 (Yq (Zg Ym (pv 3))) (Zu Ax (Yq (ZX ZN)) (Zu Ue (pv 6) ZN)))))))))))))
  (ZU (Zn (pv 2)))))))),?_⟩
 exists (by show 0<=ap;decide)
 intro D nD;have g0:=Za nD (.lst []);have W0:=W.same g0;have y:D≠p:=by obtain⟨xs,e⟩:=W.some;exact(ZY e nD).symm
 exists _,rfl,p,65,rfl,W0,VW (by decide) (by decide)
 intro o H1 o0 o1 W1 s1;exists _,rfl,_,rfl,_,rfl,_,_,rfl,rfl,p,_,rfl,W1,VW (by lia (splits:=8)) (xP (show (65-o).natAbs<=65 by lia (splits:=8)) (by decide))
 intro B H2 c5 c9 W2 s2;exists _,_,rfl,rfl;have a2:H2 D=some (.lst []):=s2 D _ (s1 D _ ZK y) y;have c4:ZJ p H H2:=((ZJ.of g0).trans s1).trans s2;refine⟨64,rfl,by decide,by decide,Pa (n:=64) (λi σ C=>∃(l:Int)(x:jf)(j:je)(N:jp),σ=[some (.ref p),some (.str YE),some (.ref D),some (.int l),some (.int o),some (.int (o+B)),x]/\0<=l/\l<=20 * i/\ZJ p H C/\ZL C p/\C D=some (.lst j)/\jP C N j/\(∀ t∈N,t.fits 3=true)/\j.length=i/\GI o B i l N)
  ⟨0,none,[],[],rfl,by decide,by decide,c4,W2,a2,.nil,λt ht=>absurd ht (by simp),rfl,.nil,λt ht=>absurd ht (by simp)⟩ ?_ ?_⟩
 ·rintro i σ C hi ⟨l,x,j,N,rfl,z0,z1,s3,W3,I,kU,fU,lU,gU⟩;refine⟨_,rfl,_,_,rfl,rfl,_,rfl,p,20,rfl,W3,VW (by decide) (by decide),λr S r0 r1 W4 s4=>⟨_,_,rfl,rfl,?_⟩⟩
  have c0:ZJ p H S:=s3.trans s4;have g:=s4 D _ I y;have a6:=kU.mono (s4.tupsW W3) _ _;obtain⟨d,a4,c6,c7⟩:∃ d:Int,l+1+r=d/\0<=d/\d<=20 * (i+1:Nat):=⟨_,rfl,by lia (splits:=8),by lia (splits:=8)⟩
  have a0:l<d:=by lia (splits:=8)
  show Uf 3 (V.int (l+1+r)) _ _ _;rw[a4];have m:∀(v:V)(t:KT)(q:Hp),ZC S q->ZG q t v->t.fits 3=true->GK t (cls o B i) d->∃(l:Int)(x:jf)(R:je)(O:jp),[some (V.ref p),some (.str YE),some (.ref D),some (.int d),some (.int o),some (.int (o+B)),some (.int (0+(i:Int)))]=[some (.ref p),some (.str YE),some (.ref D),some (.int l),some (.int o),some (.int (o+B)),x]/\0<=l/\l<=20 * (i+1:Nat)/\ZJ p H (upd q D (.lst (j++[v])))/\ZL (upd q D (.lst (j++[v]))) p/\upd q D (.lst (j++[v])) D=some (.lst R)/\jP (upd q D (.lst (j++[v]))) O R/\(∀ t∈O,t.fits 3=true)/\R.length=i+1/\GI o B (i+1) l O:=λv t q s5 kv fv a5=>by
   have a3:=s5 _ _ g;have tD:YK q (upd q D (.lst (j++[v]))):=(ZJ.refl D q).upd.tups a3;refine⟨d,_,j++[v],N++[t],rfl,c6,c7,λb u e n=>?_,?_,ZK,((a6.sm s5).append (.cons kv .nil)).mono tD _ _,λz hz=>?_,by simp[lU],BL c5 gU a0 (by lia (splits:=8)) z0 a5⟩
   ·rw[ZM (ZY e nD)];exact s5 b u (c0 b u e n)
   ·obtain⟨a1,b1,c1,d1,hw,rr⟩:=(W4.same s5).ex;exact⟨a1,b1,c1,d1,by rw[ZM (Ne.symm y)];exact hw,rr⟩
   ·rcases yY.mp hz with h | h
    ·exact fU z h
    ·rw[zC.mp h];exact fv
  have U:d.natAbs<10 ^ 60:=Ju (by lia (splits:=8)) (by lia (splits:=8))
  have X:(d-700).natAbs<10 ^ 60:=Ju (by lia (splits:=8)) (by lia (splits:=8))
  exists _,rfl,_,rfl,_,_,rfl,rfl,_,rfl;refine WV (λc=>?_) (λc=>?_)
  ·exists _,rfl,.inl ⟨rfl,_,ZH.of g⟩,_,rfl,_,_,rfl,rfl,D,j,_,rfl,rfl,g,YQ (by lia (splits:=8))
   exact m _ (.int (d-700)) S (ZC.refl _) (.int _) (OD X 3) (by rw[show cls o B i=0 from aO (by have:=of_decide_eq_true c;lia (splits:=8))];exact .int _)
  exists _,rfl,_,rfl,_,_,rfl,rfl,_,rfl;refine WV (λc2=>?_) (λc2=>?_)
  ·have Y:cls o B i=1:=by unfold cls;rw[aM (by have:=of_decide_eq_false (uP.mpr c);lia (splits:=8)),aO (by have:=of_decide_eq_true c2;lia (splits:=8))]
   obtain⟨c1,J,a7⟩:=GY (i:=d / 50) (by lia (splits:=8)) (by lia (splits:=8))
   obtain⟨c3,L,a8⟩:=GY (i:=d % 50) (by lia (splits:=8)) (by lia (splits:=8))
   exists _,rfl,.inl ⟨rfl,_,ZH.of g⟩,_,rfl,_,rfl,_,_,rfl,rfl,⟨by decide,by decide⟩
   refine .inr (.inr ⟨YE,_,c1,rfl,rfl,(by decide +kernel),J,_,_,rfl,rfl,(by show 2<=ap;decide),?_⟩)
   refine⟨_,rfl,_,rfl,_,_,rfl,rfl,(show (0:Int)<50 by decide),.inr (.inr ⟨YE,_,c3,rfl,rfl,(by decide +kernel),L,_,_,rfl,rfl,(by show 3<=ap;decide),?_⟩)⟩
   have tx:Zq (("k" : Str)++⟨#[c1]⟩++⟨#[c3]⟩) 3:=(Zq.k.cat (.one a7)).cat (.one a8);rcases(show ((0:Int)+(i:Int)) % 2=1\/((0:Int)+(i:Int)) % 2=0 by lia (splits:=8)) with G | G
   ·refine⟨_,rfl,_,_,rfl,rfl,(show (0:Int)<2 by decide),_,_,rfl,rfl,(by decide +kernel),.inl ⟨G,?_⟩⟩
    exists _,_,rfl,rfl,nn (zI (uA tx.1 Zq.a.1) (by decide)),D,j,_,rfl,rfl,g,YQ (by lia (splits:=8))
    exact m _ (.str _) S (ZC.refl _) (.str _) (N5 (tx.cat .a) (by decide) 3) (by rw[Y];exact .str (tl:=[97]) rfl J L)
   ·refine⟨_,rfl,_,_,rfl,rfl,(show (0:Int)<2 by decide),_,_,rfl,rfl,(by decide +kernel),.inr ⟨G,?_⟩⟩
    exists _,_,rfl,rfl,nn (zI (uA tx.1 Zq.e.1) (by decide)),D,j,_,rfl,rfl,g,YQ (by lia (splits:=8))
    exact m _ (.str _) S (ZC.refl _) (.str _) (N5 (tx.cat .e) (by decide) 3) (by rw[Y];exact .str (tl:=[]) rfl J L)
  ·have Y:cls o B i=2:=by unfold cls;rw[aM (by have:=of_decide_eq_false (uP.mpr c);lia (splits:=8)),aM (by have:=of_decide_eq_false (uP.mpr c2);lia (splits:=8))]
   exists _,rfl,.inl ⟨rfl,_,ZH.of g⟩,_,rfl,YC;intro t1 n1;have g1:=Za n1 (.tup [.str "",.int d]);exists YC;intro t2 n2;have g2:=Za n2 (.tup [.int 0]);have Z:=g1.trans g2;rcases(show ((0:Int)+(i:Int)) % 2=1\/((0:Int)+(i:Int)) % 2=0 by lia (splits:=8)) with G | G
   ·refine⟨_,rfl,_,_,rfl,rfl,(show (0:Int)<2 by decide),t2,.int 0,_,rfl,rfl,Zd.of ZK,.inl ⟨G,?_⟩⟩
    exists t1,t2,_,_,rfl,rfl,Zd.of (g2 _ _ ZK),Zd.of ZK,(by simp),YC,(λz=>absurd z (by simp))
    intro _ t3 n3;have g3:=Za n3 (.tup ([.str "",.int d]++[.int 0]));have gA:=Z.trans g3;exists D,j,_,rfl,rfl,gA _ _ g,YQ (by lia (splits:=8))
    exact m _ (.tup [.str "",.int d,.int 0]) _ gA (.tup ZK (.cons (.str _) (.cons (.int _) (.cons (.int _) .nil)))) (E2 U) (by rw[Y];exact .tup _ _)
   ·refine⟨_,rfl,_,_,rfl,rfl,(show (0:Int)<2 by decide),t2,.int 0,_,rfl,rfl,Zd.of ZK,.inr ⟨G,λt3 n3=>?_⟩⟩
    have g3:=Za n3 (.tup []);have gA:=Z.trans g3;refine⟨t1,t3,_,_,rfl,rfl,Zd.of (g3 _ _ (g2 _ _ ZK)),Zd.of ZK,(by simp),YC,(λ_=>?_),λz=>absurd rfl z⟩
    exists D,j,_,rfl,rfl,gA _ _ g,YQ (by lia (splits:=8))
    exact m _ (.tup [.str "",.int d]) _ gA (.tup (g3 _ _ (g2 _ _ ZK)) (.cons (.str _) (.cons (.int _) .nil))) (Av U) (by rw[Y];exact .tup _ _)
 ·rintro σ C ⟨l,x,j,N,rfl,z0,z1,s3,W3,I,kU,fU,lU,gU⟩;exact⟨_,rfl,k D j N C s3 W3 nD I kU fU lU gU.1⟩
def On{H:Hp}{L:YU}{u:V}(h:ZG H L.kt u):YV H L u:=by
 unfold YU.kt at h;rw[ZG] at h;obtain⟨a,q,rfl,e,b⟩:=h;rw[jP] at b;obtain⟨o,k,rfl,c,b⟩:=b;rw[jP] at b;obtain⟨i,l,rfl,f,b⟩:=b;rw[jP] at b;obtain⟨j,m,rfl,g,b⟩:=b;rw[jP] at b;obtain⟨p,n,rfl,d,b⟩:=b;rw[jP] at b;subst b;rw[ZG] at c d;subst c d;exact⟨a,i,j,rfl,e,f,g⟩
def BN:YU.d.fit:=⟨OD (n:=0) (by decide) 3,OD (n:=0) (by decide) 3⟩
def J1(H:Hp)(b:jp)(c:je):Prop:=c.length=b.length/\∀ i u,c[i]? = some u->∃ a d e,u=.ref a/\H a=some (.tup [d,e])/\ZG H (b.getD i (.int 0)) d
def N0(a:jp):KT:=.tup [.int 0,a.getD 0 (.int 0),a.getD (a.length-1) (.int 0),.int a.length]
def ZMT{a:je}{u:V}(h:a[a.length-1]? = some u):XX a (-1)=some u:=by
 have b:a≠[]:=λz=>by rw[z] at h;simp at h
 have e:a=a.dropLast++[u]:=by
  have c:a.getLast b=u:=by
   rw[rW];exact(yJ.mp h).2
  rw[<-c,qX]
 rw[e];exact Kb _ _
inductive XJ(d:je)(H:Hp)(Q:VK)(_:XK):Prop
 |mk(l:aj)(b:je)(c:jp)(_:d=[.ref l])(_:H l=some (.lst b))(_:J1 H c b)(_:0<b.length)(_:∀(a:Hp)(v:V),ZC H a->ZG a (N0 c) v->Q v a)
def Al:ZA zEv zEv (Zc JG):=Zz
def B0(F:Zj K "label_of_rows" "label_of_rows" JG f fd)(T:YO mg):ZI P w K mg jV ZZ 1 f fd zEv XJ:=by
 refine F.ko Al λq A i s H L Q E I h=>?_;obtain⟨l,c,J,rfl,e,d,u,k⟩:=h;intro C;refine⟨_,ZU (Zn (Yq (Pc ZN (Zk K (Zk K (pv 0) ZN) ZN)
  (Zk K (Zk K (pv 0) (Pi Pt ZN)) ZN) (Zm WA rfl T.len XQ (ZX (pv 0)))))),?_⟩
 have m:c[0]? = some c[0]:=zU u;have n:c[c.length-1]? = some (c[c.length-1]'∅):=zU ∅
 obtain⟨a,o,D,r,z,x⟩:=d.2 0 _ m;obtain⟨b,bk,G,t,B,y⟩:=d.2 _ _ n;rw[r] at m;rw[t] at n;refine⟨_,rfl,.inl ⟨l,c,_,.ref a,rfl,rfl,ZH.of e,WD (j:=0) m,.inr (.inl ⟨a,_,_,o,rfl,rfl,Zd.of z,rfl,?_⟩)⟩⟩;refine⟨_,rfl,1,rfl,.inl ⟨l,c,_,.ref b,rfl,rfl,ZH.of e,ZMT n,.inr (.inl ⟨b,_,_,bk,rfl,rfl,Zd.of B,rfl,?_⟩)⟩⟩;exists _,rfl,l,c,rfl,.inl (ZH.of e),YC;intro p v;have g:=Za v (.tup [.int 0,o,bk,.int c.length]);refine k _ _ g ?_;unfold N0;rw[<-d.1];exact .tup ZK (.cons (.int _) (.cons (x.sm g) (.cons (y.sm g) (.cons (.int _) .nil))))
abbrev X9:=KT×KT
abbrev jF:=List X9
def Km(r:X9):KT:=.tup [r.1,r.2]
def Y0(a:jF):jp:=a.map Km
def X9.fit(r:X9):Prop:=r.1.fits 3=true/\r.2.fits 3=true
def Di{H:Hp}{b c:aj}{d:V}(e:H b=some (.tup []))(g:H c=some (.tup [.int 1,.str "a"]))(a:d∈[V.int 0,.int 1,.str "v",.str "",.ref b,.ref c]):∃ t:KT,ZG H t d/\t.fits 3=true:=by
 simp only[yZ,vZ,or_false] at a;rcases a with rfl | rfl | rfl | rfl | rfl | rfl
 ·exact⟨.int 0,.int _,by decide +kernel⟩
 ·exact⟨.int 1,.int _,by decide +kernel⟩
 ·exact⟨.str "v",.str _,by decide +kernel⟩
 ·exact⟨.str "",.str _,by decide +kernel⟩
 ·exact⟨.tup [],.tup e .nil,by decide +kernel⟩
 ·exact⟨.tup [.int 1,.str "a"],.tup g (.cons (.int _) (.cons (.str _) .nil)),by decide +kernel⟩
inductive Yy(h:je)(H:Hp)(Q:VK)(_:XK):Prop
 |mk(p d:aj)(b:Int)(e:je)(gt:jp)(_:h=[.ref p,.ref d,.int b])(_:ZL H p)(_:d≠p)(_:H d=some (.lst e))(_:jP H gt e)(_:∀ t∈gt,t.fits 3=true)(_:e.length=64)(_:0<=b)(_:b<16)(_:∀(D:aj)(c:je)(g:jF)(a:Hp),ZJ p H a->ZL a p->H D=none->a D=some (.lst c)->jP a (Y0 g) c->(∀ r∈g,r.fit)->(g.map (·.1)).Sublist gt->0<c.length->c.length<=4->Q (.ref D) a)
abbrev Ed:jr:=["_law_well_here","_law_grid_here","_law_block","_law_rows","_law_j"]
def Xp:ZA Ed zEk (Zc JL):=Zz
def ZF5(F:Zj K "_law_leaf_rows" "_law_leaf_rows" JL f fd)(T:YO mg)(DP:ZB P w K mg jV 1 "_law_pull" zEf YT):ZI P w K mg jV ZZ 2 f fd zEk Yy:=by
 refine F.ko Xp λc6 A c5 s H vs Q E hr h=>?_;obtain⟨p,N,b,X,gt,rfl,W,Z,hg,kg,fg,lg,b0,b1,k⟩:=h;have nd:=Xp.nd;have a8:=hr.units0;intro Xc;refine⟨_,ZQ (Zw 3 nd (XR Zs))
  (ZQ (VV PassesOwn.never rfl (Ob rfl T.range (ZX ZN)) (Yb 4 nd)
   (ZU (Zv (YJ QH (Zp DP hr (Zg (pv 0) ZN)) ZN (Z3 _))
    (ZU (Xe (Vh yM xL xK UI (pv 3) (ZX (Yq (Qc (Zk K (pv 1) (Zu WI (Zu PZ ZN (pv 2)) (pv 4)))
     (ZX (Zk K (XR (C9 ZN ZN Ym Ym (Yq Zs) (Yq (Zg ZN Ym)))) (Zp DP hr (Zg (pv 0) ZN)))))))))) Z1)))
  (ZQ (Zv (YJ (MQ a8) (pv 3) (XR Zs) (Z3 _))
   (ZU (Xe (Vh yM xL xK UI (pv 3) (ZX (Yq (Zg (Zk K (pv 1) (Zu WI (Zu PZ ZN (pv 2)) (Zp DP hr (Zg (pv 0) ZN)))) Ym)))))) Z1)
  (ZU (Zn (pv 3))))),?_⟩
 have B:∀{g:Hp}{D:aj}{o:HO},ZL g p->D≠p->ZL (upd g D o) p:=fun{g D o} W5 n=>by
  obtain⟨a1,b1,c1,d1,hw,rr⟩:=W5.ex;exact⟨a1,b1,c1,d1,by rw[ZM (Ne.symm n)];exact hw,rr⟩
 exists (by show 0<=ap;decide)
 intro D Y;have g0:=Za Y (.lst []);have m:D≠p:=by obtain⟨xs,e⟩:=W.some;exact(ZY e Y).symm
 have c7:N≠D:=ZY hg Y;have a5:∀(H':Hp)(j:Nat),ZJ p H H'->j<64->∃(v:V)(t:KT),XX X (j:Int)=some v/\ZG H' t v/\t.fits 3=true/\gt[j]? = some t:=λH' j s' hj=>by
  have hv:X[j]? = some (X[j]'∅):=zU ∅
  obtain⟨t,et,kt⟩:=kg.get hv;exact⟨_,t,WD hv,kt.mono (s'.tupsW W) _ _,fg t (zA et),et⟩
 refine⟨4,rfl,by decide,by decide,Pa (n:=4) (λi σ S=>∃(x:jf)(y:je)(G:jF),σ=[some (.ref p),some (.ref N),some (.int b),some (.ref D),x]/\ZJ p H S/\ZL S p/\S D=some (.lst y)/\jP S (Y0 G) y/\(∀ r∈G,r.fit)/\(G.map (·.1)).Sublist ((gt.drop (4 * b.toNat)).take i)/\y.length<=i)
  ⟨none,[],[],rfl,ZJ.of g0,W.same g0,ZK,.nil,(λt ht=>absurd ht (by simp)),List.nil_sublist _,zY _⟩ ?_ ?_⟩
 ·rintro i σ S hi ⟨x,y,G,rfl,s3,W3,J,kU,fU,sU,lU⟩;refine⟨_,rfl,p,3,rfl,W3,VW (by decide) (by decide),λr H4 r0 r1 I s4=>⟨_,_,rfl,rfl,_,rfl,?_⟩⟩
  have O:=s3.trans s4;have a:=s4 D _ J m;have a4:=kU.mono (s4.tupsW W3) _ _;refine WV (λc=>?_) (λc=>?_)
  ·have ej:(4:Int) * b+(0+(i:Int))=((4 * b.toNat+i:Nat):Int):=∅
   obtain⟨v,t,av,kv,fv,et⟩:=a5 H4 (4 * b.toNat+i) O ∅
   have a3:H4 N=some (.lst X):=O N _ hg Z;refine⟨_,rfl,.inl ⟨rfl,_,ZH.of a⟩,_,rfl,_,rfl,_,_,rfl,rfl,.inl ⟨by decide,by decide⟩,_,rfl,_,_,rfl,rfl,.inl ⟨N,X,_,v,rfl,rfl,ZH.of a3,(by rw[ej];exact av),?_⟩⟩
   exists YC;intro t1 n1;have M:=Za n1 (.tup []);exists YC;intro t2 n2;have g2:=Za n2 (.tup [.int 1,.str "a"]);exists YC;intro L nL;have g3:=Za nL (.lst [.int 0,.int 1,.str "v",.str "",.ref t1,.ref t2]);have gA:=(M.trans g2).trans g3;have c3:L≠p:=by obtain⟨xs,e⟩:=(I.same (M.trans g2)).some;exact(ZY e nL).symm
   exists _,rfl,p,6,rfl,I.same gA,VW (by decide) (by decide)
   intro q g q0 q1 W5 U;obtain⟨vv,ev,mv⟩:=Mc (xs:=[V.int 0,.int 1,.str "v",.str "",.ref t1,.ref t2]) q0 q1;refine .inl ⟨L,_,_,vv,rfl,rfl,ZH.of (U L _ ZK c3),ev,YC,λR nR=>?_⟩;have C:=Za nR (.tup [v,vv]);have a2:∀ b o,H4 b=some o->b≠p->upd g R (.tup [v,vv]) b=some o:=λb o e n=>C b o (U b o (gA b o e) n);have a6:YK H4 (upd g R (.tup [v,vv])):=λb ys e=>ZC.tups C b ys (U.tupsW (I.same gA) b ys (ZC.tups gA b ys e));have l:=a2 D _ a m;have c0:t1≠p:=by obtain⟨xs,e⟩:=I.some;exact(ZY e n1).symm
   have c2:t2≠p:=by obtain⟨xs,e⟩:=(I.same M).some;exact(ZY e n2).symm
   obtain⟨tv,a9,a7⟩:=Di (H:=upd g R (.tup [v,vv])) (C _ _ (U _ _ (g3 _ _ (g2 _ _ ZK)) c0)) (C _ _ (U _ _ (g3 _ _ ZK) c2)) mv;exists D,y,_,rfl,rfl,l,YQ ∅
   have tD:YK (upd g R (.tup [v,vv])) (upd (upd g R (.tup [v,vv])) D (.lst (y++[.ref R]))):=(ZJ.refl D _).upd.tups l;refine⟨_,y++[.ref R],G++[(t,tv)],rfl,λb o e n=>?_,B (W5.same C) m,ZK,?_,λz hz=>?_,?_,by simp;lia⟩
   ·rw[ZM (ZY e Y)];exact a2 b o (O b o e n) n
   ·have e1:Y0 (G++[(t,tv)])=Y0 G++[Km (t,tv)]:=by unfold Y0;rw[yR];rfl
    rw[e1];exact((a4.mono a6 _ _).mono tD _ _).append (.cons (.tup (tD _ _ ZK) (.cons ((kv.mono a6 _ _).mono tD _ _) (.cons (a9.mono tD _ _) .nil))) .nil)
   ·rcases yY.mp hz with h | h
    ·exact fU z h
    ·rw[zC.mp h];exact⟨fv,a7⟩
   ·have e2:(gt.drop (4 * b.toNat))[i]? = some t:=by rw[List.getElem?_drop];exact et
    rw[yR,yD,e2];exact sU.append (wC.refl _)
  ·exact⟨_,y,G,rfl,O,I,a,a4,fU,sU.trans (by rw[yD];exact List.sublist_append_left _ _),∅⟩
 ·rintro σ S ⟨x,y,G,rfl,s3,W3,J,kU,fU,sU,lU⟩;exists _,rfl,(by show 0<=ap;decide)
  intro d c4;have M:=Za c4 (.lst []);exists D,d,y,rfl,rfl,ZH.of (M _ _ J),ZH.of ZK,_,rfl;have I:=W3.same M;have s4:ZJ p H (upd S d (.lst [])):=s3.trans (ZJ.of M);have a:=M _ _ J
  cases y with
  | cons u ur=>
   refine Zl ⟨_,rfl,?_⟩;exact k D _ G _ s4 I Y a (kU.sm M) fU ((sU.trans (List.take_sublist _ _)).trans (List.drop_sublist _ _)) (by simp) lU
  | nil=>
   refine Z8 ?_;have a3:upd S d (.lst []) N=some (.lst X):=s4 N _ hg Z;refine⟨_,rfl,.inl ⟨rfl,_,ZH.of a⟩,_,rfl,_,rfl,_,_,rfl,rfl,.inl ⟨by decide,by decide⟩,_,rfl,p,4,rfl,I,VW (by decide) (by decide),λr g r0 r1 W5 U=>⟨_,_,rfl,rfl,?_⟩⟩
   have a0:=s4.trans U;have ej:(4:Int) * b+r=((4 * b.toNat+r.toNat:Nat):Int):=∅
   obtain⟨v,t,av,kv,fv,et⟩:=a5 g (4 * b.toNat+r.toNat) a0 ∅
   refine .inl ⟨N,X,_,v,rfl,rfl,ZH.of (a0 N _ hg Z),(by rw[ej];exact av),YC,λR nR=>?_⟩
   have C:=Za nR (.tup [v,.str "w"]);have l:=C _ _ (U D _ a m);exists D,[],_,rfl,rfl,l,YQ (by decide)
   have tD:YK (upd g R (.tup [v,.str "w"])) (upd (upd g R (.tup [v,.str "w"])) D (.lst ([]++[.ref R]))):=(ZJ.refl D _).upd.tups l;refine⟨_,rfl,k D [.ref R] [(t,.str "w")] _ (λb o e n=>?_) (B (W5.same C) m) Y ZK ?_ (λz hz=>?_) (List.singleton_sublist.mpr (zA et)) (by simp) (by simp)⟩
   ·rw[ZM (ZY e Y)];exact C b o (a0 b o e n)
   ·exact .cons (.tup (tD _ _ ZK) (.cons ((kv.sm C).mono tD _ _) (.cons (.str _) .nil))) .nil
   ·rw[zC.mp hz];exact⟨fv,show (KT.str "w").fits 3=true by decide +kernel⟩
inductive Wl(b:je)(H:Hp)(Q:VK)(_:XK):Prop
 |mk(i:Int)(_:b=[.int i,.int i])(_:∀ a,ZC H a->Q (.bl true) a)
def ZLb:ZA zEd zEd (Zc KL):=Zz
def Cj(F:Zj K "_law_count" "_law_count" KL f fd)(T:YO mg):ZI P w K mg jV ZZ 1 f fd zEd Wl:=by
 refine F.ok ZLb (λc H Q E h=>?_) (λb A a s H c Q E e h=>?_)
 ·obtain⟨i,rfl,_⟩:=h;rfl
 obtain⟨i,rfl,k⟩:=h;intro d;refine⟨_,ZU (Zn (QN (Zm Xj rfl T.isi Yw (Zf (pv 0) (Zf (XY (v:=.ty "int") rfl T.int Qo rfl) Zs)))
   (QN (HP (Zm Xj rfl T.isi Yw (Zf (pv 0) (Zf (XY (v:=.ty "bool") rfl T.bool P7 rfl) Zs)))) (Pn (VN WW (pv 0) (pv 1) (Z3 _)))))),?_⟩
 refine⟨_,rfl,_,_,_,_,rfl,.int i,Pk,_,rfl,Z8 ?_⟩;refine⟨_,rfl,_,_,_,_,rfl,.int i,Ow,_,rfl,_,rfl,Z8 ?_⟩;exists _,rfl,_,rfl,rfl;rw[aK rfl];exact k H (ZC.refl H)
inductive YA(c:je)(H:Hp)(Q:VK)(_:XK):Prop
 |mk(p l:aj)(a:je)(_:c=[.ref p,.ref l])(_:ZL H p)(_:l≠p)(_:H l=some (.lst a))(_:0<a.length)(_:a.length<=900)(_:∀(x:V)(b:Hp),ZJ p H b->ZL b p->x∈a->Q x b)
def Fc:ZA zEg zEg (Zc Le):=Zz
def Cb(F:Zj K "_law_picked" "_law_picked" Le f fd)(T:YO mg)(e:ZB P w K mg jV 1 "_law_pull" zEf YT):ZI P w K mg jV ZZ 2 f fd zEg YA:=by
 refine F.ko Fc λj A b s H B Q E n h=>?_;obtain⟨p,l,a,rfl,W,q,c,y,z,k⟩:=h;intro v;exists _,ZU (Zn (Zk K (pv 1) (Zp e n (Zg (pv 0) (Zm WA rfl T.len XQ (Zf (pv 1) Zs))))));exists _,rfl,_,rfl,_,rfl,l,a,rfl,.inl (ZH.of c),p,(a.length:Int),rfl,W,VW ∅ (xP (show ((a.length:Int)).natAbs<=900 by lia) (by decide))
 intro r g t u i d;obtain⟨x,m,o⟩:=Mc (xs:=a) t u;exact .inl ⟨l,a,r,x,rfl,rfl,ZH.of (d l _ c q),m,k x g d i o⟩
inductive Y4(g:je)(H:Hp)(Q:VK)(_:XK):Prop
 |mk(d l:aj)(b:List (ZR×V))(c:jz)(e:Int->Int)(_:g=[.ref d,.ref l])(_:H d=some (.dK b))(_:H l=some (.lst (c.map V.int)))(_:∀ n∈c,Z5 b (.inl n)=some (.int (e n)))(_:∀ n,c.find? (λm=>decide (e m=0))=some n->∀(t:aj)(a:Hp),ZC H a->a t=some (.tup [.str "held",.int n])->Q (.ref t) a)(_:c.find? (λm=>decide (e m=0))=none->∀ a:Hp,ZC H a->Q .non a)
def Wv:ZA ["_law_holds","_law_numbers","_law_number"] zEp (Zc Mn):=Zz
def Ot{b:Type}{p:b->Bool}{x:b}:∀{l:List b}{i:Nat},(l.take i).find? p=none->l[i]? = some x->(p x=true->l.find? p=some x)/\(p x=false->(l.take (i+1)).find? p=none)
 | [],i,_,e=>by simp at e
 | a::l,0,_,e=>by
  simp at e;subst e;exact⟨λh=>by simp[xD,h],λh=>by simp[xD,h]⟩
 | a::l,i+1,h,e=>by
  simp only[List.take_succ_cons,xD] at h⊢
  cases c:p a with
  | true=>rw[c] at h;simp at h
  | false=>
   rw[c] at h;have:=Ot (l:=l) (i:=i) (p:=p) h (by simpa using e)
   simpa using this
def ZIY(F:Zj K "_law_unheld" "_law_unheld" Mn f fd)(T:YO mg):ZI P w K mg jV ZZ 1 f fd zEp Y4:=by
 refine F.ko Wv λz A r s H Y Q E L h=>?_;obtain⟨d,l,S,q,g,rfl,I,y,N,O,R⟩:=h;have U:=Wv.nd;have M:=Wj L;intro X;refine⟨_,ZQ (VV PassesOwn.never rfl (WZ (pv 1)) (Yb 2 U)
   (ZU (Zv (YJ WW (WP M (pv 0) (pv 2)) ZN (Z3 _)) (ZU (Zn (Yq (Zg Ym (pv 2))))) Z1)))
  (ZU (Zn OO)),?_⟩
 refine⟨_,rfl,l,rfl,⟨_,ZH.of y⟩,Ql (K:=K) (a:=l) (xs:=q.map V.int) (λi p e=>∃ x:jf,p=[some (.ref d),some (.ref l),x]/\ZC H e/\(q.take i).find? (λm=>decide (g m=0))=none) ⟨_,rfl,ZC.refl H,rfl⟩ (λi p e _ G=>by obtain⟨_,_,b,_⟩:=G;exact ZH.of (b _ _ y)) ?_ ?_⟩
 ·rintro i u p e j ⟨x,rfl,b,o⟩;obtain⟨n,v,rfl⟩:∃ n,q[i]? = some n/\V.int n=u:=by
   rw[zJ] at j;exact yG.mp j
  have J:Zi e d (.int n) (some (.int (g n))):=N n (zA v) ▸ Zi.k (k:=Sum.inl n) (b _ _ I);obtain⟨C,D⟩:=Ot o v;exists _,rfl,_,rfl,d,.int (g n),rfl,J;exists rfl,_,rfl;have B:decide (V.int (g n)=V.int 0)=decide (g n=0):=by simp
  rw[B]
  cases c:decide (g n=0) with
  | true=>exact Z8 ⟨_,rfl,YC,λt W=>O n (C c) t _ (b.trans (Za W _)) ZK⟩
  | false=>exact Zl ⟨_,rfl,b,D c⟩
 ·rintro p e ⟨x,rfl,b,o⟩;rw[yF (by simp)] at o
  exact R o e b
end Tw
namespace L2
open PySem PySem.Spec PyProof.Rows
section
variable{T:String}{r d:aj}{n:Nat}{P:Nat->ai->Prop}{OK:aC->Prop}
def Bx{R:Result->ak->Prop}(K:tS prog w T r d n P OK)(l:A.handled=none)(h:OK s.heap)(S:aj)(g:S≠r)(f:S≠d)(c:Nat)(k:s.heap.get? S=some { cls:=.type "list",data:=.seq #[] c })(j:∀ e p a i,(∀ b o,b≠S->s.heap.get? b=some o->e.get? b=some o)->e.get? S=some { cls:=.type "list",dict:=none,data:=.seq a i,slots:=#[] }->ItemsOf P a n->R (.ok (.ret (.ref S))) { s with heap:=e,toks:=p })(m:n<=ap):
  aF (az prog w) A (.builtin "list.__iadd__" ⟨[.ref S,.ref r],[]⟩) R s:=by
 refine codeAny_builtin PySem.F.entry_list_iadd ?_;rw[Around.under_plainId rE _];exact PySem.W.kdl_extend (R:=R) K l h S g f (.ref S) c k j m
def BG{Q:jd->ak->Prop}(K:tS prog w T r d n P OK)(q:A.handled=none)(j:OK s.heap)(u:n<=ap)(m:∀ f k a,(∀ b o,s.heap.get? b=some o->f.get? b=some o)->s.heap.objs.size<f.objs.size->ItemsOf P a n->Q a.toList { s with heap:=f,toks:=k }):aA (az prog w) A (collect (.ref r)) Q E s:=by
 have i:=K.there _ j;unfold collect;refine aa (wpAny_runValue (codeAny_builtin PySem.F.entry_proto_collect ?_));rw[Around.under_plainId PySem.F.plain_proto_collect _];show aA _ A.in1 (newList [] >>= λl=>again (.builtin "list.__iadd__" ⟨[l,.ref r],[]⟩)) _ _ s;refine aa (wpAny_newObj_type ?_);have p:(s.heap.push { cls:=.type "list",data:=.seq ([]:jd).toArray }).get? s.heap.objs.size=some { cls:=.type "list",data:=.seq #[] 0 }:=yW _ rfl;refine ad ⟨plainId_quiet rE _,Bx (s:={ s with heap:=s.heap.push { cls:=.type "list",data:=.seq ([]:jd).toArray } }) K q (K.keep _ _ j λb _ o e=>zS _ e) s.heap.objs.size (xT i.1) (xT i.2) _ p (λf k c v t g h=>?_) u⟩;show aA _ A (load s.heap.objs.size >>= _) _ _ _;refine aa (wpAny_load g ?_);exact ad (m f k c (λb o e=>t b o (zO (zW e)) (zS _ e)) (zW g) h)
def AZ{Q:ja}{ns:jz}(K:tS prog w T r d n P OK)(I:A.handled=none)(t:OK s.heap)(J:n<=ap)(F:∀ f,ItemsOf P f n->IntsAre f.toList ns)(q:n<64)(L:ns.Pairwise (· <= ·))(G:∀ p x a g c,(∀ b o,s.heap.get? b=some o->p.get? b=some o)->s.heap.objs.size<=a->IntsAre g ns->p.get? a=some { cls:=.type "list",data:=.seq g.toArray c }->Q (.ref a) { s with heap:=p,toks:=x }):
  aA (az prog w) A (call (.builtin "sorted") [.ref r]) Q E s:=by
 refine Calls.call_function_entry kind_sorted plain_sorted entry_sorted (args_sorted1 _) ?_;unfold Builtin.«sorted»;refine aa (m:=checkCount "sorted" 1 1 _) (ad ?_);refine aa (BG K I t J λj x f M u h=>?_);have D:=F f h;have k:f.toList.length<64:=by rw[vT,h.1];exact q
 refine aa (wpAny_newList ?_ (hsz:=xX (YQ ∅)))
 have i:(j.push (seqObj "list" f.toList.toArray 0)).get? j.objs.size=some (seqObj "list" f.toList.toArray 0):=yW _ rfl;refine aa (af (wpAny_call_entry slot_list_sort ⟨_,i,rfl⟩ entry_list_sort (list_sort_tree i D k λg v y z B=>⟨_,rfl,?_⟩) (args_list_sort _)));refine ad ⟨_,rfl,?_⟩;have e:v=ns:=List.Perm.eq_of_pairwise (le:=(· <= ·)) (λa b _ _ j C=>Int.le_antisymm j C) B L z;subst e;obtain⟨c,H⟩:=sortedHeap_at (vs:=f.toList) (out:=g) i;refine G _ x j.objs.size g.toList c (λb o e=>?_) (xX u) y (by rw[sB];exact H)
 have l:=M b o e;rw[sortedHeap_old (zO (zW l)) (by rw[size_push'];exact vX (zW l))]
 exact zS _ l
end
def AC:∀{c:List (ZR×V)}{g:List (ZR×ai)}{d:jz},KV c g->c.map (·.1)=d.map Sum.inl->∀ b:jd,b.length=g.length->(∀(i:Nat)(v:ai),b[i]? = some v->∃(k:ZR)(x:ai),g[i]? = some (k,x)/\PJ k v=true)->IntsAre b d:=by
 intro c g d h e b l p;have f:=KV.keys h;rw[e] at f;clear e h
 induction g generalizing d b with
 | nil=>
  cases b with
  | nil=>
   cases d with
   | nil=>exact .nil
   | cons _ _=>simp at f
  | cons _ _=>simp at l
 | cons q r y=>
  cases b with
  | nil=>simp at l
  | cons a b=>
   cases d with
   | nil=>simp at f
   | cons n d=>
    simp only[yS,List.cons.injEq] at f;obtain⟨k,x,o,u⟩:=p 0 a rfl;simp only[List.getElem?_cons_zero,zH.injEq] at o;subst o;have j:Sum.inl n=k:=f.1;subst j;obtain⟨i,t,m,s⟩ | ⟨i,t,m,s⟩:=Ub u
    ·cases m;subst s;exact .cons _ _ (y b (by simpa using l) (λi v w=>by simpa using p (i+1) v (by simpa using w)) f.2)
    ·cases m
def Dr:∀{b:jd}{a:jz},IntsAre b a->ZO (a.map V.int) b:=λh=>N4 h
def nn'{n:Nat}(h:n<64):n<=sizeLine:=xX (YQ ∅)
def UW:ax "sorted" = some (.builtin "sorted"):=by decide +kernel
inductive PX(d:je)(H:Hp)(Q:VK):Prop
 |mk(a:aj)(b:List (ZR×V))(c:jz)(_:d=[.ref a])(_:H a=some (.dK b))(_:b.map (·.1)=c.map Sum.inl)(_:c.Pairwise (· <= ·))(_:c.length<64)(_:∀ p,H p=none->Q (.ref p) (upd H p (.lst (c.map V.int))))
def QL(D:X.calm=true):Wq X (.builtin "sorted") PX:=by
 intro t s T H S R Q I r h;obtain⟨a,g,j,rfl,C,l,F,f,q⟩:=h;obtain⟨u,rfl,K⟩:=VT r;cases K;obtain⟨z,J,M,n,A⟩:=Ox I.hok C;have O:j.length=g.length:=by have:=congrArg xY l;simpa using this.symm
 have P:=KV.length n;obtain⟨x,y⟩:=A.dictAt;refine AZ (ns:=j) (PySem.W.kdl_dict (knd:=VD X.prog X.w) (kvs:=M) (ep:=x) J) (I.ok.hd D) y ∅ (λd b=>AC n l d.toList (by rw[vT];exact b.1) λi v e=>?_) ∅ F λN L p k c G m B E=>?_
 ·exact b.2 i v (by rw[<-rX];exact e)
 ·exact⟨.ref p,_,I.laid (a:=p) (o:=.lst (j.map V.int)) (t':=L) G m ⟨by rw[zX];exact nn' f,k,c,Dr B,E⟩,rfl,q p (I.hok.fresh m)⟩
section
variable{jU:js}{σ:St}{H:Hp}
end
def FU:typeLookup (.type "list_reverseiterator") "__len__" = pure none:=by rw[typeLookup_type,builtinLookup_eq_fast];kernel_rfl
def ZKQ:typeLookup (.type "list_reverseiterator") "__length_hint__" = pure (some (.builtin "list_reverseiterator.__length_hint__")):=by rw[typeLookup_type,builtinLookup_eq_fast];kernel_rfl
def AS:isSubtype (.type "list_reverseiterator") (.type "list_reverseiterator")=pure true:=by rw[isSubtype_type];kernel_rfl
def Fz{r:aj}{Q:Bool->ak->Prop}(d:s.TypeIs (.ref r) "list_reverseiterator")(h:Q false s):aA (az prog w) A (Builtin.List.listLengthHint (.ref r)) Q E s:=by
 unfold Builtin.List.listLengthHint;refine aa (wpAny_specialOf d FU ?_)
 wp_delta
 refine wpAny_ite_split (λa=>absurd a (by decide +kernel)) (λ_=>?_)
 refine wpAny_ite_split (λa=>absurd a (by decide)) (λ_=>?_)
 refine aa (wpAny_specialOf d ZKQ ?_);generalize c:("list_reverseiterator.__length_hint__" : String)=e
 wp_delta
 rw[show splitId e=some ("list_reverseiterator","__length_hint__") from by subst c;decide +kernel]
 subst c;refine aa (wpAny_isInstance (T:= "list_reverseiterator") (b:=true) d AS ?_);refine wpAny_ite_split (λa=>absurd a (by decide)) (λ_=>?_)
 refine wpAny_ite_split (λ_=>?_) (λa=>absurd (by decide +kernel) a)
 refine wpAny_ite_split (λa=>absurd a (by decide)) (λ_=>?_)
 exact ad h
def Fk{l d:aj}{items:jw}{Q:ja}(hh:A.handled=none)(J:s.heap.IsRevIter d l ((items.size:Int)-1))(hl:s.heap.IsList l items)(L:l≠d)(hn:items.size<=ap)(Y:∀ D B a C,(∀ b o,b≠d->s.heap.get? b=some o->D.get? b=some o)->D.get? s.heap.objs.size=some { cls:=.type "list",dict:=none,data:=.seq a C,slots:=#[] }->ItemsOf (λi v=>items[items.size-1-i]? = some v) a items.size->Q (.ref s.heap.objs.size) { s with heap:=D,toks:=B }):
  aA (az prog w) A (call (.type "list") [.ref d]) Q E s:=by
 obtain⟨oi,n,P⟩:=id J;obtain⟨ol,p,R⟩:=id hl;have N:=zW n;have O:=zW p;refine callType_codes (Q₁:=λx m=>x=.ref s.heap.objs.size/\m={ s with heap:=s.heap.push { cls:=.type "list",data:=.seq #[] } }) PySem.F.called_list (PySem.F.typeCall_list_1 _) PySem.F.entry_list_init
  (code_list_new _ ⟨rfl,rfl⟩) λx m u=>?_
 obtain⟨rfl,rfl⟩:=u;have z:(s.heap.push { cls:=.type "list",data:=.seq #[] }).get? s.heap.objs.size=some { cls:=.type "list",data:=.seq #[] }:=yW _ rfl;exists ⟨_,z,rfl⟩,PySem.F.args_list_init_2 _ _;show aA _ _ (do let old<-Builtin.List.listItems (.ref s.heap.objs.size);Builtin.List.listUpdate (.ref s.heap.objs.size) (λ_=>#[]);letGo old.toList.reverse;Builtin.List.listExtendWith (.ref s.heap.objs.size) (.ref d) .none) _ _ _
 refine aa ?_;unfold Builtin.List.listItems;refine aa (wpAny_seqItems z rfl (ad ?_));show aA _ _ (updateSeq s.heap.objs.size (λ_=>#[]) >>= λ_=>letGo (#[]:jw).toList.reverse >>= λ_=>Builtin.List.listExtendWith (.ref s.heap.objs.size) (.ref d) .none) _ _ _;refine aa (wpAny_updateSeq z rfl ?_);have g:=wT (Obj.mapSeq (λ_=>(#[]:jw))) z rfl;have k:∀ b o,s.heap.get? b=some o->((s.heap.push { cls:=.type "list",data:=.seq #[] }).update s.heap.objs.size (Obj.mapSeq (λ_=>(#[]:jw)))).get? b=some o:=
  λb o e=>(yB _ _ (Ne.symm (zO (zW e)))).trans (zS _ e)
 refine aa (wpAny_letGo ?_);generalize (s.heap.push { cls:=.type "list",data:=.seq #[] }).update s.heap.objs.size (Obj.mapSeq (λ_=>(#[]:jw)))=S at g k⊢;have c:S.IsRevIter d l ((items.size:Int)-1):=⟨oi,k _ _ n,P⟩;have K:S.IsList l items:=⟨ol,k _ _ p,R⟩;have q:s.heap.objs.size≠d:=xT N;have H:s.heap.objs.size≠l:=xT O;have M:∀(h:aC)(f B:Nat),h.IsRevIter d l ((items.size:Int)-1)->h.IsList l items->(∀ b o,s.heap.get? b=some o->h.get? b=some o) ->
   h.get? s.heap.objs.size=some { cls:=.type "list",data:=.seq #[] f }->aF (az prog w) A.in1 (.builtin "list.extend.loop" ⟨[.ref s.heap.objs.size,.ref d,.none],[]⟩) (wants (λr y=>r=Value.none/\Q (.ref s.heap.objs.size) y) E) { s with heap:=h,toks:=B }:=by
  intro h f B k1 k2 k3 k4;refine codeAny_extend_loopS (A:=A.in1) (Walks.listRev (A:=A.in1.in1) hh d l L items).toS hn s.heap.objs.size (by simp[q,H]) .none items.size 0 _ #[] f rfl (yX _) ⟨yX _,by simpa using k1,k2⟩ k4 (ItemsOf.nil _) λV a C U G t=>?_
  rw[Moved.eq_with U];refine⟨rfl,Y V.heap V.toks a C (λb o Z e=>U.heap b o (λj=>?_) (k3 b o e)) G t⟩;rcases yZ.mp j with W | j
  ·exact absurd (zW e) (by rw[W];exact xE _)
  ·exact Z (zC.mp j)
 unfold Builtin.List.listExtendWith;refine aa (wpAny_typeOf (T:= "list_reverseiterator") c.typeIs ?_);have X:Builtin.List.listSameRef (.ref s.heap.objs.size) (.ref d)=false:=by simp[Builtin.List.listSameRef,q]
 simp only[X,show (Value.type "list_reverseiterator" == Value.type "list")=false from rfl,show (Value.type "list_reverseiterator" == Value.type "tuple")=false from rfl,Bool.or_false,vW,if_false];refine aa (wpAny_pyIter_revIter c ?_);refine aa (af (Fz c.typeIs ?_));refine wpAny_ite_split (λI=>absurd I (by decide)) (λ_=>ad ⟨plainId_quiet PySem.F.plain_extend_loop _,M _ _ _ c K k g⟩)
def FT:ax "reversed" = some (.type "reversed"):=by decide +kernel
def Fr{b:jd}:∀{a:jw},ItemsOf (λi v=>b.toArray[b.toArray.size-1-i]? = some v) a b.toArray.size->a.toList=b.reverse:=by
 intro a h;refine List.ext_getElem? λi=>?_;have d:a.size=b.length:=by simpa using h.1
 by_cases c:i<b.length
 ·have e:a.toList[i]? = some a[i]:=by simp[d,c]
  have f:=h.2 i a[i] (by simp[d,c])
  rw[e,List.getElem?_reverse c,<-f];simp
 ·rw[vE (by simp;lia),vE (by simp;lia)]
inductive UL(K:zZ)(Q:VK)(x:V)(a:Hp):Prop
 |mk(l b:_)(_:x=.ref l)(_:ZH K a l b)(_:∀ q,a q=none->Q (.ref q) (upd a q (.lst b.reverse)))
def ZKj(K:zZ)(b:TE):TE:=λc H Q=>b c H λx a=>UL K Q x a
def ZO.rev:∀{c:je}{b:jd},ZO c b->ZO c.reverse b.reverse:=by
 intro c b r
 induction r with
 | nil=>exact .nil
 | cons a r d=>rw[List.reverse_cons,List.reverse_cons];exact d.append (.cons a .nil)
def ZHW{e:Expr}{B:TE}{V t p f:aI}(E:X.calm=true)(F:PE X e B)(G:Gl X "list")(L:Gl X "reversed")(S:X.mg "list" = none)(T:X.mg "reversed" = none)(k:aq [.Call (.Name "reversed" t) [e] [] f] X.env=(false,aG (.Call (.Name "reversed" t) [e] [] f) X.env)::aq [] X.env:=by rfl)(m:aq [e] X.env=(false,aG e X.env)::aq [] X.env:=by rfl):
  PE X (.Call (.Name "list" V) [.Call (.Name "reversed" t) [e] [] f] [] p) (ZKj X.K B):=by
 intro n s σ H Q I h;refine ag (Qy I G S Uo ?_);refine PyProof.Rows.callWith_type1 ?_ k rfl;rw[k];refine Calls.spliced_cons (ag (Qy I L T FT ?_));refine PyProof.Rows.callWith_type1 ?_ m rfl;rw[m];refine Calls.spliced_cons (Zt (F n s σ H _ I h) λu g ⟨x,H1,r,Y,l,xs,D,J,q⟩=>Calls.spliced_nil ?_);subst D;cases Y;obtain⟨d,z,W,M⟩:=r.list J;have y:=W.isList;have ll:=z.length;obtain⟨U,j,v⟩:=id y;refine call_reversed_list y (Calls.spliced_nil ?_);have R:=zW j;refine Fk (s:={ g with heap:=g.heap.push (revObj l ((d.toArray.size:Int)-1)) }) (items:=d.toArray) (r.ok.hd E) ⟨_,yW _ rfl,rfl,rfl⟩ ⟨U,zS _ j,v⟩ (zO R) (by simp;lia) λh' Z i c N O P=>?_
 have A:(g.heap.push (revObj l ((d.toArray.size:Int)-1))).objs.size=g.heap.objs.size+1:=wB _ _;have C:i.toList=d.reverse:=Fr P;refine⟨.ref (g.heap.push (revObj l ((d.toArray.size:Int)-1))).objs.size,_,r.laid (a:=(g.heap.push (revObj l ((d.toArray.size:Int)-1))).objs.size) (o:=.lst xs.reverse) (t':=Z) (λb o w=>N b o (zO (zW w)) (zS _ w)) (by rw[A];exact xA _) ⟨by rw[tI];exact M,i.toList,c,by rw[C];exact ZO.rev z,by rw[sB];exact O⟩,rfl,q _ (r.hok.fresh (by rw[A];exact xA _))⟩
inductive UE(a:zZ)(x y:V)(H:Hp)(Q:VK):Prop
 |mk(p b c:_)(_:x=.ref p)(_:y=.ref b)(_:ZH a H p c)(_:ZH a H b [])(_:Q (.bl (!c.isEmpty)) H)
def Ib(f:X.A.units<cLine):Yi X (ay .NotEq) (UE X.K):=by
 intro l s J H x y v u Q I C D h;obtain⟨p,b,E,rfl,rfl,c,o,q⟩:=h;cases C;cases D;obtain⟨d,z,i,F⟩:=I.list c;obtain⟨a,B,k,G⟩:=I.list o;have g:=z.length;have t:=B.length;have n:a=[]:=vS (by rw[<-t];rfl)
 subst n
 cases E with
 | nil=>
  have m:d=[]:=vS (by rw[<-g];rfl)
  subst m;exact PySem.SeqAt.RcNeAt.lists (e:=λ_=>true) i.isList k.isList rfl f (λj c _=>absurd c (by simp)) X.prog X.w X.xe _ (Yf I q (by simp))
 | cons x r=>exact PySem.SeqAt.RcNeAt.lists_lengths i.isList k.isList (by simp;intro e;subst e;simp at g) f X.prog X.w X.xe _ (Yf I q rfl)
end L2
namespace Tw
open PySem PySem.Spec L2 PyProof.Rows
variable{jg jh CS CT CH CK CP CB:aj}
structure ZT where
 h:Nat
 rows:jF
 bs:jo
abbrev jq:=List ZT
def ZT.d:ZT:=⟨0,[],[]⟩
def gd(a:jq)(i:Nat):ZT:=a.getD i .d
def Xw{a:jq}{i:Nat}(h:i<a.length):a[i]? = some (gd a i):=by
 unfold gd;rw[zP,zU h];rfl
structure Y2(gt:jp)(ts:jq)(i:Nat)(t:ZT):Prop where
 ne:t.rows≠[]
 up:(t.rows.map (·.1)).Pairwise λa b=>a.lt b=true
 inn:∀ r∈t.rows,r.1∈gt/\r.fit
 leaf:t.h=0->t.bs=[]/\t.rows.length<=4
 stem:t.h≠0->2<=t.bs.length/\t.bs.length<=4/\(∀ b∈t.bs,b<i/\(gd ts b).h+1=t.h)/\t.rows=t.bs.flatMap λb=>(gd ts b).rows
def WF(gt:jp)(a:jq):Prop:=∀ i t,a[i]? = some t->Y2 gt a i t
def Kg:∀{gt l:jp},gt.Pairwise (λa b=>a.lt b=true)->l.Pairwise (λa b=>a.lt b=true)->(∀ x∈l,x∈gt)->l.length<=gt.length
 | [],[],_,_,_=>zY _
 | [],x::_,_,_,h=>absurd (h x zF) (by simp)
 | g::gt,l,hg,hl,h=>by
  have c:=vJ.mp hg;by_cases j:g∈l
  ·cases l with
   | nil=>simp at j
   | cons x l=>
    have d:=vJ.mp hl;have n:x=g:=by
     rcases yZ.mp j with e | e
     ·exact e.symm
     ·rcases yZ.mp (h x zF) with i | i
      ·exact i
      ·have k:=d.1 g e;have m:=c.1 x i;have:=O1 _ _ k;rw[m] at this;cases this
    have:l.length<=gt.length:=Kg c.2 d.2 λy f=>by
     rcases yZ.mp (h y (zD _ f)) with e | e
     ·have:=d.1 y f;rw[n,e] at this;have z:=O1 _ _ this;rw[this] at z;cases z
     ·exact e
    rw[yH,yH]
    lia
  ·have:l.length<=gt.length:=Kg c.2 hl λy f=>by
    rcases yZ.mp (h y f) with e | e
    ·exact absurd (e ▸ f) j
    ·exact e
   rw[yH]
   lia
def Y2.len{gt:jp}{f:jq}{i:Nat}{t:ZT}(h:Y2 gt f i t)(c:gt.Pairwise λa b=>a.lt b=true):t.rows.length<=gt.length:=by
 have:=Kg c h.up λx e=>by
  obtain⟨r,d,rfl⟩:=zM.mp e;exact(h.inn r d).1
 rwa [zX] at this
def kindOf(t:ZT):Str:=if t.h=0 then "leaf" else "stem"
inductive Nd(H:Hp)(t:ZT)(v:V):Prop
 |mk(d c a:_)(_:v=.ref d)(_:H d=some (.tup [.str (kindOf t),.ref c]))(_:H c=some (.lst a))(_:t.h=0->jP H (Y0 t.rows) a)(_:t.h≠0->a=t.bs.map λb=>V.int (b:Nat))
structure Lv(ts:jq)(lv:jo):Prop where
 lt:∀ i∈lv,i<ts.length
 cl:∀ i∈lv,∀ b∈(gd ts i).bs,b∈lv
 up:lv.Pairwise (· < ·)
def VG(H:Hp)(c:jq)(b:jo)(a:List (ZR×V)):Prop:=a.map (·.1)=b.map (λi:Nat=>(Sum.inl (i:Int):ZR))/\∀ i:Nat,i∈b->∃ v,Z5 a (Sum.inl (i:Int))=some v/\Nd H (gd c i) v
def Nd.same{H a:Hp}{t:ZT}{v:V}(h:Nd H t v)(s:ZC H a):Nd a t v:=by
 obtain⟨i,g,j,b,c,d,e,f⟩:=h;exact⟨i,g,j,b,s _ _ c,s _ _ d,λz=>(e z).sm s,f⟩
def VG.same{H b:Hp}{d:jq}{c:jo}{a:List (ZR×V)}(h:VG H d c a)(s:ZC H b):VG b d c a:=⟨h.1,λi t=>by
 obtain⟨v,e,f⟩:=h.2 i t;exact⟨v,e,f.same s⟩⟩
def Uh(c:jq)(a:jo):jF:=a.reverse.flatMap λb=>(gd c b).rows
def PY(c:jq)(a:jo):Nat:=(a.map λb=>5 ^ (gd c b).h).sum
def Hf{a:jq}{gt:jp}(c:WF gt a):∀{l:jo},(∀ b∈l,b<a.length)->l.length<=(l.flatMap λb=>(gd a b).rows).length
 | [],_=>zY _
 | b::l,h=>by
  have f:=Hf c (l:=l) λx e=>h x (zD _ e);have d:=c b _ (Xw (h b zF));have:1<=(gd a b).rows.length:=vU.mpr d.ne;rw[wU,zE,yH]
  lia
def Ap{l:jo}{c:Nat}(f:Nat->Nat):(∀ b∈l,f b=c)->(l.map f).sum=l.length * c:=by
 induction l with
 | nil=>intro _;simp
 | cons b l d=>
  intro h;rw[yS,uB,d (λx a=>h x (zD _ a)),h b zF,yH,Nat.succ_mul]
  lia
def Dv{a:jq}{l:jo}{b:Nat}:PY a l<PY a (l++[b]):=by
 unfold PY;rw[yR,tW];have:0<5 ^ (gd a b).h:=Nat.pow_pos (by decide)
 simp
 try lia
def BE{a:jq}{gt:jp}{l:jo}{b:Nat}(m:WF gt a)(i:b<a.length)(k:(gd a b).h≠0):PY a (l++(gd a b).bs.reverse)<PY a (l++[b]):=by
 obtain⟨o,f,g,_⟩:=(m b _ (Xw i)).stem k;unfold PY;rw[yR,tW,yR,tW];have e:((gd a b).bs.reverse.map λb=>5 ^ (gd a b).h).sum=(gd a b).bs.length * 5 ^ ((gd a b).h-1):=by
  have:=Ap (l:=(gd a b).bs.reverse) (c:=5 ^ ((gd a b).h-1)) (λb=>5 ^ (gd a b).h) λc j=>by
   have:=(g c (sI.mp j)).2;show 5 ^ (gd a c).h=_
   congr 1
   lia
  rw[this,tI]
 rw[e];have d:5 ^ (gd a b).h=5 * 5 ^ ((gd a b).h-1):=by
  have:(gd a b).h=((gd a b).h-1)+1:=∅
  rw[this,Nat.pow_succ,Nat.mul_comm];simp
 have n:0<5 ^ ((gd a b).h-1):=Nat.pow_pos (by decide)
 simp only[yS,vP,uB,List.sum_nil,Nat.add_zero];rw[d];have:(gd a b).bs.length * 5 ^ ((gd a b).h-1)<=4 * 5 ^ ((gd a b).h-1):=Nat.mul_le_mul_right _ f
 lia
def UK{H c:Hp}{a:aj}{o:HO}(s:ZC H c)(n:H a=none):ZC H (upd c a o):=λb u e=>by rw[ZM (ZY e n)];exact s b u e
abbrev iN(l:jo):je:=l.map λb=>V.int (b:Nat)
def Hk(a b:jF):Y0 (a++b)=Y0 a++Y0 b:=yR
structure Y6(gt:jp)(H:Hp)(d:aj)(ts:jq)(lv:jo)(kvs:List (ZR×V)):Prop where
 dict:H d=some (.dK kvs)
 tws:VG H ts lv kvs
 lv:Lv ts lv
 wf:WF gt ts
 len:gt.length=64
 up:gt.Pairwise λa b=>a.lt b=true
def Y6.same{gt:jp}{H b:Hp}{d:aj}{e:jq}{c:jo}{a:List (ZR×V)}(h:Y6 gt H d e c a)(s:ZC H b):Y6 gt b d e c a:=⟨s _ _ h.dict,h.tws.same s,h.lv,h.wf,h.len,h.up⟩
def Y6.at_{gt:jp}{H:Hp}{d:aj}{b:jq}{c:jo}{a:List (ZR×V)}(h:Y6 gt H d b c a){i:Nat}(e:i∈c):Y2 gt b i (gd b i):=h.wf i _ (Xw (h.lv.lt i e))
def Y6.get{gt:jp}{H:Hp}{d:aj}{a:jq}{j:jo}{g:List (ZR×V)}(h:Y6 gt H d a j g){i:Nat}(q:i∈j):∃ e c b,Zi H d (.int (i:Nat)) (some (.ref e))/\H e=some (.tup [.str (kindOf (gd a i)),.ref c])/\H c=some (.lst b)/\((gd a i).h=0->jP H (Y0 (gd a i).rows) b)/\((gd a i).h≠0->b=iN (gd a i).bs):=by
 obtain⟨v,l,e,c,b,rfl,m,n,o,p⟩:=h.tws.2 i q;exact⟨e,c,b,l ▸ Zi.k (k:=Sum.inl (i:Int)) h.dict,m,n,o,p⟩
inductive Xy(gt:jp)(h:je)(H:Hp)(Q:VK)(_:XK):Prop
 |mk(d:aj)(n:Nat)(e:jq)(c:jo)(b:List (ZR×V))(_:h=[.ref d,.int n])(_:Y6 gt H d e c b)(_:n∈c)(_:∀(a:Hp)(D:aj)(g:je),ZC H a->H D=none->a D=some (.lst g)->jP a (Y0 (gd e n).rows) g->Q (.ref D) a)
abbrev F1:jr:=["_law_twigs","_law_number","_law_todo","_law_found","_law_kind","_law_what"]
def VJ:ZA F1 zEc (Zc JQ):=Zz
def As{gt:jp}(F:Zj K "_law_rows_of" "_law_rows_of" JQ f fd)(T:YO mg)(Tr:mg "reversed" = none):ZI P w K mg jV ZZ 1 f fd zEc (Xy gt):=by
 refine F.ko VJ λa6 A a5 s H vs Q E hr h=>?_;obtain⟨d,n,i,lv,a7,rfl,L,hn,k⟩:=h;have W:=VJ.nd;have hu:=Wj hr;intro Xc;refine⟨_,ZQ (Zw 2 W (XR (ZX (pv 1)))) (ZQ (Zw 3 W (XR Zs))
  (ZQ (NC PassesOwn.never (YJ (Ib hr.units0) (pv 2) (XR Zs) (Z3 _))
   (ZQ (Qt (WP hu (pv 0) (NG yM rQ rP IG (pv 2))) (Q7 rfl (Y7 (Yb 4 W) (Y7 (Yb 5 W) Q4))))
   (ZU (Zv (YJ WW (pv 4) Ym (Z3 _))
    (ZU (Zw 3 W (Zu OB (pv 3) (VO Q6 rfl T.list Uo (ZX (pv 5))))))
    (ZU (Zw 2 W (Zu OB (pv 2) (ZHW rfl (pv 5) rfl rfl T.list Tr))))))))
  (ZU (Zn (pv 3))))),?_⟩
 refine⟨_,rfl,YC,λj x=>⟨YC,λq p=>?_⟩⟩;have y:j≠q:=λz=>by rw[<-z,ZK] at p;cases p
 have M:H q=none:=by rw[ZM (Ne.symm y)] at p;exact p
 have a4:=(L.at_ hn).len L.up;rw[L.len] at a4;refine⟨λm σ H'=>∃(j q:aj)(g:jo)(a:jF)(B:je)(k4 k5:jf),m=PY i g/\σ=[some (.ref d),some (.int n),some (.ref j),some (.ref q),k4,k5]/\ZC H H'/\H j=none/\H q=none/\j≠q/\H' j=some (.lst (iN g))/\H' q=some (.lst B)/\jP H' (Y0 a) B/\(∀ b∈g,b∈lv)/\a++Uh i g=(gd i n).rows,
  ⟨_,j,q,[n],[],[],none,none,rfl,rfl,UK (Za x _) M,x,M,y,by rw[ZM y];exact ZK,ZK,.nil,λb S=>by rw[zC.mp S];exact hn,by simp[Uh]⟩,?_⟩
 rintro m σ H1 ⟨j,q,g,a,B,k4,k5,rfl,rfl,s1,x,p,y,a0,a3,hk,S,I⟩;exists _,rfl,YC;intro e0 a2;have Z:=Za a2 (.lst []);exists j,e0,iN g,rfl,rfl,ZH.of (Z _ _ a0),ZH.of ZK,_,rfl;have t:=Z _ _ a0;have v:=Z _ _ a3;have D:=hk.sm Z;have s2:=s1.trans Z;generalize upd H1 e0 (.lst [])=R at t v D s2⊢;have lf:a.length+(Uh i g).length=(gd i n).rows.length:=by rw[<-zE,I]
 have lt:g.length<=(Uh i g).length:=by
  have:=Hf L.wf (l:=g.reverse) λb h=>L.lv.lt b (S b (sI.mp h))
  rwa [tI] at this
 rcases uF g with z | ⟨rest,b,z⟩
 ·subst z;refine Zl ?_;have e1:a=(gd i n).rows:=by simpa [Uh] using I
  rw[e1] at D;exact⟨_,rfl,k R q B s2 p v D⟩
 ·rw[uG] at z;subst z;have a1:(!(iN (rest++[b])).isEmpty)=true:=by simp[iN]
  rw[a1];refine Z8 ⟨_,λ_ _ z=>z,?_⟩;have bl:b∈lv:=S b (by simp)
  have eI:iN (rest++[b])=iN rest++[.int (b:Nat)]:=by simp[iN]
  exists _,rfl,_,rfl,.inl ⟨rfl,_,ZH.of t⟩,j,iN (rest++[b]),.int (b:Nat),rfl,rfl,t,by rw[eI];simp
  have u:upd R j (.lst (iN (rest++[b])).dropLast) j=some (.lst (iN rest)):=by rw[ZK,eI,List.dropLast_concat]
  have r:upd R j (.lst (iN (rest++[b])).dropLast) q=some (.lst B):=by rw[ZM (Ne.symm y)];exact v
  have X:ZC H (upd R j (.lst (iN (rest++[b])).dropLast)):=UK s2 x;have G:jP (upd R j (.lst (iN (rest++[b])).dropLast)) (Y0 a) B:=D.mono (λc xs e=>by rw[ZM (ZD e t)];exact e) _ _
  generalize upd R j (.lst (iN (rest++[b])).dropLast)=H3 at u r X G⊢;obtain⟨tp,tl,Y,g1,e2,e3,e4,e5⟩:=(L.same X).get bl;have er:Uh i (rest++[b])=(gd i b).rows++Uh i rest:=by simp[Uh]
  have lr:(Uh i (rest++[b])).length=(gd i b).rows.length+(Uh i rest).length:=by rw[er,zE]
  have a8:B.length=a.length:=by have:=G.length;rw[<-this];exact zX _
  exists d,.ref tp,rfl,g1,tp,_,rfl,Zd.of e2,rfl,_,_,rfl,_,_,rfl,rfl;exists _,rfl,rfl,_,rfl;by_cases U:(gd i b).h=0
  ·have ek:decide (V.str (kindOf (gd i b))=V.str "leaf")=true:=aK (by unfold kindOf;rw[aO U])
   rw[ek];have kk:=e4 U;have lw:Y.length=(gd i b).rows.length:=by have:=kk.length;rw[<-this];exact zX _
   refine Z8 ⟨_,rfl,_,rfl,tl,Y,rfl,.inl (ZH.of e3),λq1 n1=>?_⟩;have C:=Za n1 (.lst Y);exists q,q1,B,Y,rfl,rfl,C _ _ r,ZK,xX (YQ ∅)
   intro q2 J;have g5:=Za J (.lst (B++Y));have o:=C.trans g5;have O:=ZC.free (X.trans C) J;have tq:j≠q2:=λz=>by rw[<-z,C _ _ u] at J;cases J
   exists _,Dv,j,q2,rest,a++(gd i b).rows,B++Y,_,_,rfl,rfl,X.trans o,x,O,tq,o _ _ u,ZK,?_,λc N=>S c (xW _ N)
   ·rw[Hk];exact(G.sm o).append (kk.sm o)
   ·rw[List.append_assoc,<-er];exact I
  ·have ek:decide (V.str (kindOf (gd i b))=V.str "leaf")=false:=aJ (by unfold kindOf;rw[aM U];decide)
   rw[ek];have ew:=e5 U;subst ew;obtain⟨h1,h2,h3,h4⟩:=(L.at_ bl).stem U;refine Zl ⟨_,rfl,_,rfl,tl,_,rfl,ZH.of e3,λq1 n1=>?_⟩;have C:=Za n1 (.lst (iN (gd i b).bs).reverse);exists j,q1,iN rest,_,rfl,rfl,C _ _ u,ZK,xX (YQ (by simp[iN];simp at lt;lia))
   intro q2 J;have g5:=Za J (.lst (iN rest++(iN (gd i b).bs).reverse));have o:=C.trans g5;have O:=ZC.free (X.trans C) J;have fq:q2≠q:=λz=>by rw[z,C _ _ r] at J;cases J
   exists _,BE L.wf (L.lv.lt b bl) U,q2,q,rest++(gd i b).bs.reverse,a,B,_,_,rfl,rfl,X.trans o,O,p,fq,?_,o _ _ r,G.sm o,λc N=>?_
   ·rw[ZK];simp[iN]
   ·rcases yY.mp N with N | N
    ·exact S c (xW _ N)
    ·exact L.lv.cl b bl c (sI.mp N)
   ·rw[<-I,er,h4];simp[Uh]
def Cn{a:je}{j:Nat}{v:V}(b:1<=j)(c:j<=a.length)(h:a[a.length-j]? = some v):XX a (-(j:Int))=some v:=by
 unfold XX;have e:Um a.length (-(j:Int))=some (a.length-j):=by
  unfold Um;rw[aM ∅,aO ∅]
  congr 1
  lia
 rw[e];exact h
def rd:X9:=(.int 0,.int 0)
def Yh(t:ZT):YU:=⟨t.h,(t.rows.getD 0 rd).1,(t.rows.getD (t.rows.length-1) rd).1,t.rows.length⟩
def Ov{H:Hp}{c:jF}{j:je}{i:Nat}{u:V}(h:jP H (Y0 c) j)(e:j[i]? = some u):∃ a k l,c[i]? = some (c.getD i rd)/\u=.ref a/\H a=some (.tup [k,l])/\ZG H (c.getD i rd).1 k/\ZG H (c.getD i rd).2 l:=by
 obtain⟨t,d,f⟩:=h.get e;unfold Y0 at d;rw[zJ] at d;obtain⟨r,g,rfl⟩:=yG.mp d;have m:c.getD i rd=r:=by rw[zP,g];rfl
 unfold Km at f;rw[ZG] at f;obtain⟨a,x,rfl,n,b⟩:=f;rw[jP] at b;obtain⟨q,v,rfl,o,b⟩:=b;rw[jP] at b;obtain⟨s,w,rfl,p,b⟩:=b;rw[jP] at b;subst b;rw[m];exact⟨a,q,s,g,rfl,n,o,p⟩
inductive Yk(gt:jp)(g:je)(H:Hp)(Q:VK)(_:XK):Prop
 |mk(d:aj)(n:Nat)(e:jq)(c:jo)(b:List (ZR×V))(_:g=[.ref d,.int n])(_:Y6 gt H d e c b)(_:n∈c)(_:∀(a:Hp)(v:V),ZC H a->YV a (Yh (gd e n)) v->Q v a)
abbrev AN:jr:=["_law_twigs","_law_number","_law_here","_law_high","_law_rows"]
def Wz:ZA AN zEc (Zc K3):=Zz
def Fo{gt:jp}(F:Zj K "_law_label" "_law_label" K3 f fd)(T:YO mg)(DR:ZB P w K mg jV 1 "_law_rows_of" zEc (Xy gt)):ZI P w K mg jV ZZ 2 f fd zEc (Yk gt):=by
 refine F.ko Wz λa2 A Y s H vs Q E hr h=>?_;obtain⟨d,n,a,lv,W,rfl,L,M,k⟩:=h;have o:=Wz.nd;have hu:=Wj hr;intro Xc;refine⟨_,ZQ (Zw 2 o (pv 1)) (ZQ (Zw 3 o ZN)
  (ZQ (NC PassesOwn.never (YJ WW (Zk K (WP hu (pv 0) (pv 2)) ZN) Ym (Z3 _))
   (ZQ (Zw 2 o (Zk K (Zk K (WP hu (pv 0) (pv 2)) ZN) ZN))
   (ZU (Zw 3 o (Zu WI (pv 3) ZN)))))
  (ZQ (Zw 4 o (Zp DR hr (Zg (pv 0) (pv 1))))
  (ZU (Zn (Yq (Pc (pv 3) (Zk K (Zk K (pv 4) ZN) ZN) (Zk K (Zk K (pv 4) (Pi Pt ZN)) ZN) (Zm WA rfl T.len XQ (ZX (pv 4)))))))))),?_⟩
 exists _,rfl;refine⟨λm σ H'=>∃(b i:Nat),m=(gd a b).h/\σ=[some (.ref d),some (.int n),some (.int (b:Nat)),some (.int (i:Nat)),none]/\H'=H/\b∈lv/\i+(gd a b).h=(gd a n).h,
  ⟨_,n,0,rfl,rfl,rfl,M,∅⟩,?_⟩
 rintro m σ H1 ⟨b,i,rfl,rfl,rfl,v,hh⟩;obtain⟨u,tl,ws,g1,r,e3,e4,e5⟩:=L.get v;refine⟨_,rfl,_,rfl,d,.ref u,rfl,g1,.inr (.inl ⟨u,_,0,_,rfl,rfl,Zd.of r,rfl,?_⟩)⟩;exists rfl,_,rfl;by_cases t:(gd a b).h=0
 ·have y:decide (V.str (kindOf (gd a b))=V.str "stem")=false:=aJ (by unfold kindOf;rw[aO t];decide)
  rw[y];refine Zl ?_;exists _,rfl,_,rfl,d,n,a,lv,W,rfl,L,M;intro H2 D e s2 nD I R;have p:=L.at_ M;have l:e.length=(gd a n).rows.length:=by have:=R.length;rw[<-this];exact zX _
  have X:=p.len L.up;rw[L.len] at X;have g:0<e.length:=by rw[l];exact vU.mpr p.ne
  have B:e[0]? = some e[0]:=zU g;have C:e[e.length-1]? = some (e[e.length-1]'∅):=zU ∅
  obtain⟨Z,N,v0,r0,u0,t0,S,_⟩:=Ov R B;obtain⟨a1,O,v1,r1,u1,t1,U,_⟩:=Ov R C;rw[u0] at B;rw[u1] at C;refine⟨_,rfl,_,rfl,.inl ⟨D,e,0,.ref Z,rfl,rfl,ZH.of I,WD (j:=0) B,.inr (.inl ⟨Z,_,0,N,rfl,rfl,Zd.of t0,rfl,?_⟩)⟩⟩;refine⟨_,rfl,1,rfl,.inl ⟨D,e,-1,.ref a1,rfl,rfl,ZH.of I,Cn (j:=1) (zY _) g C,.inr (.inl ⟨a1,_,0,O,rfl,rfl,Zd.of t1,rfl,?_⟩)⟩⟩;exists _,rfl,D,e,rfl,.inl (ZH.of I),YC;intro q nq;have G:=Za nq (.tup [.int (i:Nat),N,O,.int (e.length:Nat)]);refine k _ _ (s2.trans G) ⟨q,N,O,rfl,?_,S.sm G,?_⟩
  ·rw[ZK];have e1:(Yh (gd a n)).h=(i:Int):=by show ((gd a n).h:Int)=_;lia
   have r:(Yh (gd a n)).m=(e.length:Int):=by show ((gd a n).rows.length:Int)=_;lia
   rw[e1,r]
  ·have x:(Yh (gd a n)).hi=((gd a n).rows.getD (e.length-1) rd).1:=by rw[l];rfl
   rw[x];exact U.sm G
 ·have y:decide (V.str (kindOf (gd a b))=V.str "stem")=true:=aK (by unfold kindOf;rw[aM t])
  rw[y];have ew:=e5 t;subst ew;obtain⟨h1,h2,h3,h4⟩:=(L.at_ v).stem t;obtain⟨c,J⟩:∃ c,(gd a b).bs[0]? = some c:=⟨_,zU ∅⟩
  have a3:=h3 c (zA J);refine Z8 ⟨_,λ_ _ z=>z,?_⟩;refine⟨_,rfl,_,rfl,d,.ref u,rfl,g1,.inr (.inl ⟨u,_,1,_,rfl,rfl,Zd.of r,rfl,.inl ⟨tl,_,0,.int (c:Nat),rfl,rfl,ZH.of e3,WD (j:=0) (by simp[iN,J]),?_⟩⟩)⟩
  exists _,rfl,_,_,rfl,rfl;exact⟨(gd a c).h,∅,c,i+1,rfl,by simp[List.set],rfl,L.lv.cl b v c (zA J),∅⟩
def abv(b:jq)(a:jo)(i:Nat):jo:=a.filter λj=>decide (i∈(gd b j).bs)
def Do(x:Nat)(l:jo):MO (.int (x:Nat)) (iN l)=decide (x∈l):=by
 unfold MO iN;rw[List.any_map]
 induction l with
 | nil=>rfl
 | cons n l a=>
  rw[vQ,a];have e:((λy=>Uv y (V.int (x:Nat))) ∘ λb:Nat=>V.int (b:Nat)) n=decide (n=x):=by
   show Uv (.int (n:Nat)) (.int (x:Nat))=_;rw[xH];simp[Uv]
   lia
  rw[e];by_cases h:n=x
  ·subst h;simp
  ·have:¬ x=n:=λz=>h z.symm;simp[h,this]
def Co(l:jo):(iN l).all Qb=true:=by
 unfold iN;rw[wG];exact zK.mpr λ_ _=>rfl
def MF{J:It}{w:jo}{A:L2.St}{H:Hp}{y:TT}{Q:VK}(e:jo)(p:Nat->Bool)(F:e.length<=900)(s:∀ i a,ZC H a->i<e.length->J.go i a)(E:∀ i a x b,ZC H a->i<e.length->J.yld i a x b->b=a/\(iN e)[i]? = some x)(h:∀ a,ZC H a->J.stop e.length a)(o:∀ a n (R:Bool->Hp->Prop),n∈e->ZC H a->R (p n) a->y (OX A w (.int (n:Nat))) a R)(r:∀ (D:aj) (a:Hp),ZC H a->H D=none->a D=some (.lst (iN (e.filter p)))->Q (.ref D) a):Wg J A w y (Uu 0) H Q:=by
 refine Db (n:=e.length) (λi z=>(iN e)[i]? = some z) (λz=>match z with | .int n=>p n.toNat | _=>false) (λD i f b=>ZC H b/\H D=none/\f=iN ((e.take i).filter p)) (YQ ∅)
  (λD i f b j c=>s i b c.1 j) (λD i f b z B j c u=>E i b z B c.1 j u) (λD f b c=>h b c.1)
  (λD v=>⟨Za v _,v,rfl⟩) (λD i f b z j d c R C=>?_) (λD i f b z q j d t c=>?_) (λD i f b z q j d t c=>?_) (λD f b q c=>?_)
 ·unfold iN at d;rw[zJ] at d;obtain⟨n,l,rfl⟩:=yG.mp d;exact o b n R (zA l) c.1 C
 ·obtain⟨m,k,rfl⟩:=c;unfold iN at d;rw[zJ] at d;obtain⟨n,l,rfl⟩:=yG.mp d;exists UK m k,k;have g:p n=true:=t;rw[yD,l,vL];simp[g,iN]
 ·obtain⟨m,k,rfl⟩:=c;unfold iN at d;rw[zJ] at d;obtain⟨n,l,rfl⟩:=yG.mp d;exists m,k;have g:p n=false:=t;rw[yD,l,vL];simp[g]
 ·obtain⟨m,k,rfl⟩:=c;rw[yF (zY _)] at q;exact r D b m k q
def US{a:jo}(h:a.Pairwise (· < ·)):(a.map λi:Nat=>(i:Int)).Pairwise (· <= ·):=by
 rw[List.pairwise_map];exact h.imp λh=>by lia
inductive Xb(gt:jp)(g:je)(H:Hp)(Q:VK)(_:XK):Prop
 |mk(d:aj)(n:Nat)(e:jq)(c:jo)(b:List (ZR×V))(_:g=[.ref d,.int n])(_:Y6 gt H d e c b)(_:c.length<64)(_:∀(a:Hp)(D:aj),ZC H a->H D=none->a D=some (.lst (iN (abv e c n)))->Q (.ref D) a)
def V5:ZA zEc zEc (Zc Li):=Zz
def ZKE{gt:jp}(F:Zj K "_law_above" "_law_above" Li f fd)(T:YO mg):ZI P w K mg jV ZZ 1 f fd zEc (Xb gt):=by
 refine F.ko V5 λO A v s H vs Q E hr h=>?_;obtain⟨d,n,m,a,t,rfl,L,u,k⟩:=h;have nd:=V5.nd;have J:=Wj hr;intro Xc;refine⟨_,ZU (Zn (QO [0,1] zEc rfl (WZ (Zm (QL rfl) rfl T.sorted UW (ZX (pv 0))))
  (λ_ _ _ _ _=>NN (PW.pt (Na (YJ WW (Zk K (WP J (pv 1) (pv 0)) ZN) Ym (Z3 _)) (Mb (YJ (r:=HK K false) En (pv 2) (Zk K (WP J (pv 1) (pv 0)) ZN) rfl)))))
  (λ_ _ _ _ _=>pv 0) ⟨rfl,.inl rfl,rfl,rfl,.inl rfl,rfl,trivial⟩)),?_⟩
 exists _,rfl,d,t,a.map λi:Nat=>(i:Int),rfl,L.dict,(by rw[L.tws.1,zL];rfl),US L.lv.up,by simpa using u
 intro p np;have W:(a.map λi:Nat=>(i:Int)).map V.int=iN a:=by rw[zL];rfl
 rw[W];have e:=Za np (.lst (iN a));have b:upd H p (.lst (iN a)) p=some (.lst (iN a)):=ZK;generalize upd H p (.lst (iN a))=H1 at e b⊢;refine⟨p,rfl,⟨_,ZH.of b⟩,MF a (λj=>decide (n∈(gd m j).bs)) ∅ (λi B c I=>⟨_,.int (a[i]:Nat),ZH.of (c _ _ b),by simp[iN,zU I]⟩) (λi B x H4 c I M=>⟨M.1,M.2 _ (ZH.of (c _ _ b))⟩) (λB c=>⟨_,ZH.of (c _ _ b),by simp[iN]⟩) (λz j R hj y q=>?_) (λD z y nD Z=>?_)⟩
 ·have N:j∈a:=hj;obtain⟨l,tl,ws,G,C,S,e4,U⟩:=(L.same (e.trans y)).get N;refine⟨_,rfl,_,rfl,d,.ref l,rfl,G,.inr (.inl ⟨l,_,0,_,rfl,rfl,Zd.of C,rfl,?_⟩)⟩;exists rfl,_,rfl;by_cases g:(gd m j).h=0
  ·have o:decide (V.str (kindOf (gd m j))=V.str "stem")=false:=aJ (by unfold kindOf;rw[aO g];decide)
   rw[o];have X:=((L.at_ N).leaf g).1;rw[X,aJ (by simp)] at q
   exact Zl q
  ·have o:decide (V.str (kindOf (gd m j))=V.str "stem")=true:=aK (by unfold kindOf;rw[aM g])
   rw[o];have Y:=U g;subst Y;refine Z8 ⟨_,rfl,_,rfl,_,rfl,d,.ref l,rfl,G,.inr (.inl ⟨l,_,1,_,rfl,rfl,Zd.of C,rfl,?_⟩)⟩;exists tl,_,rfl,.inl (ZH.of S),rfl,Co _,_,rfl;rw[aM zV,Do];exact q
 ·exact k z D (e.trans y) (ZC.free e nD) Z
inductive Sh(ts:jq)(lv:jo)(ho:Nat->Nat):Nat->jL->Prop
 | here {i:Nat}:(abv ts lv i).length+ho i≠1->Sh ts lv ho i (some i)
 | top {i:Nat}:(abv ts lv i).length+ho i=1->abv ts lv i=[]->Sh ts lv ho i none
 | up {i j:Nat} {r:jo} {o:jL}:(abv ts lv i).length+ho i=1->abv ts lv i=j::r->Sh ts lv ho j o->Sh ts lv ho i o
def Sh.uniq{j:jq}{f:jo}{e:Nat->Nat}{i:Nat}{o p:jL}(h:Sh j f e i o)(g:Sh j f e i p):o=p:=by
 induction h generalizing p with
 | here a=>
  cases g with
  | here=>rfl
  | top b=>exact absurd b a
  | up b=>exact absurd b a
 | top a b=>
  cases g with
  | here c=>exact absurd a c
  | top=>rfl
  | up _ c=>rw[b] at c;cases c
 | up a b _ k=>
  cases g with
  | here c=>exact absurd a c
  | top _ c=>rw[b] at c;cases c
  | up _ c d=>
   rw[b] at c;cases c;exact k d
def oV:jL->V
 | none=>.non
 | some j=>.int (j:Nat)
def MW{gt:jp}{a:jq}{b:jo}(f:WF gt a)(e:Lv a b){i j:Nat}(h:j∈abv a b i):i<j/\j∈b:=by
 unfold abv at h;rw[xU,decide_eq_true_iff] at h;have d:=f j _ (Xw (e.lt j h.1));by_cases c:(gd a j).h=0
 ·rw[(d.leaf c).1] at h;simp at h
 ·exact⟨((d.stem c).2.2.1 i h.2).1,h.1⟩
def ZMm(b:jq)(a:jo)(i:Nat):(abv b a i).length<=a.length:=vD _ _
def VZ(a:List (ZR×V))(b:jo)(c:Nat->Nat):Prop:=a.map (·.1)=b.map (λi:Nat=>(Sum.inl (i:Int):ZR))/\∀ i:Nat,i∈b->Z5 a (Sum.inl (i:Int))=some (.int (c i:Nat))
inductive Xx(gt:jp)(j:je)(H:Hp)(Q:VK)(_:XK):Prop
 |mk(d g:aj)(n:Nat)(i:jq)(b:jo)(c a:List (ZR×V))(h:Nat->Nat)(_:j=[.ref d,.ref g,.int n])(_:Y6 gt H d i b c)(_:b.length<64)(_:n∈b)(_:H g=some (.dK a))(_:VZ a b h)(_:∀(e:Hp)(o:jL),ZC H e->Sh i b h n o->Q (oV o) e)
abbrev Ei:jr:=["_law_twigs","_law_holds","_law_number","_law_here","_law_stems"]
def VB:ZA Ei zEm (Zc Kw):=Zz
def BX{gt:jp}(F:Zj K "_law_shared" "_law_shared" Kw f fd)(T:YO mg)(DA:ZB P w K mg jV 1 "_law_above" zEc (Xb gt)):ZI P w K mg jV ZZ 2 f fd zEm (Xx gt):=by
 refine F.ko VB λa0 A R s H vs Q E J h=>?_;obtain⟨d,y,n,a,e,M,a1,g,rfl,L,N,hn,hh,hH,k⟩:=h;have O:=VB.nd;have hu:=Wj J;intro Xc;refine⟨_,ZQ (Zw 3 O (pv 2)) (ZU (NC PassesOwn.never (Ye UQ)
  (ZQ (Zw 4 O (Zp DA J (Zg (pv 0) (pv 3))))
  (ZQ (Zv (YJ Qi (Zu WI (Zm WA rfl T.len XQ (ZX (pv 4))) (WP hu (pv 1) (pv 3))) ZN (Z3 _)) (ZU (Zn (pv 3))) Z1)
  (ZQ (Zv (YJ (MQ J.units0) (pv 4) (XR Zs) (Z3 _)) (ZU (Zn OO)) Z1)
  (ZU (Zw 3 O (UA Zy (pv 4) ZN (λ_ _=>rfl))))))))),?_⟩
 exists _,rfl;refine⟨λm σ H'=>∃(b:Nat)(X:jf),m=a.length-b/\σ=[some (.ref d),some (.ref y),some (.int n),some (.int (b:Nat)),X]/\ZC H H'/\b∈e/\∀ o,Sh a e g b o->Sh a e g n o,
  ⟨_,n,none,rfl,rfl,ZC.refl H,hn,λ_ z=>z⟩,?_⟩
 rintro m σ H1 ⟨b,X,rfl,rfl,Z,bl,S⟩;refine⟨_,rfl,Z8 ⟨_,λ_ _ z=>z,?_⟩⟩;exists _,rfl,_,rfl,d,b,a,e,M,rfl,L.same Z,N;intro v D s2 nD C;have p:=Z.trans s2;have hg:Zi v y (.int (b:Nat)) (some (.int (g b:Nat))):=hH.2 b bl ▸ Zi.k (k:=Sum.inl (b:Int)) (p _ _ hh);have Y:(iN (abv a e b)).length=(abv a e b).length:=zX _;exists _,rfl,D,_,rfl,.inl (ZH.of C),_,rfl,_,rfl,y,.int (g b:Nat),rfl,hg,_,_,rfl,rfl;exists rfl,_,rfl;refine WV (λc=>?_) (λc=>?_)
 ·have u:(abv a e b).length+g b≠1:=λz=>by
   rw[tQ,decide_eq_false_iff_not] at c;refine c ?_;show V.int (((iN (abv a e b)).length:Nat)+(g b:Nat):Int)=V.int 1;rw[Y]
   congr 1
   lia
  exact⟨_,rfl,k v (some b) p (S _ (.here u))⟩
 ·have u:(abv a e b).length+g b=1:=by
   rw[tQ,decide_eq_false_iff_not,Decidable.not_not] at c;have x:V.int (((iN (abv a e b)).length:Nat)+(g b:Nat):Int)=V.int 1:=c;rw[Y] at x;injection x with x
   lia
  exists _,rfl,YC;intro U G;have B:=Za G (.lst []);exists D,U,_,rfl,rfl,ZH.of (B _ _ C),ZH.of ZK,_,rfl;have l:=B _ _ C;have q:=p.trans B;generalize upd v U (.lst [])=H3 at l q⊢
  cases t:abv a e b with
  | nil=>
   rw[show (iN ([]:jo)).isEmpty=true from rfl];exact Z8 (k H3 none q (S _ (.top u t)))
  | cons j r=>
   rw[show (iN (j::r)).isEmpty=false from rfl];rw[t] at l;have W:=MW L.wf L.lv (i:=b) (j:=j) (by rw[t];exact zF)
   have jt:=L.lv.lt j W.2;refine Zl ⟨_,rfl,D,_,0,.int (j:Nat),rfl,rfl,ZH.of l,WD (j:=0) rfl,?_⟩;exact⟨a.length-j,∅,j,_,rfl,rfl,q,W.2,λo I=>S o (.up u t I)⟩
def YR.snoc{H:Hp}{d:jI}{a:je}{L:YU}{u:V}(h:YR H d a)(g:YV H L u):YR H (d++[L]) (a++[u]):=by
 exists by rw[zE,zE,h.1];rfl
 intro i w e;rcases yO i a.length with b | b
 ·rw[wS b] at e;have:=h.2 i w e;rw[zP] at this⊢;rw[wS (by rw[<-h.1];exact b)]
  exact this
 ·rw[wR b] at e;have c:i-a.length=0:=by
   rcases Nat.eq_zero_or_pos (i-a.length) with z | z
   ·exact z
   ·rw[vE (by simp;lia)] at e;cases e
  rw[c] at e;simp at e;subst e;have f:i=d.length:=by have:=h.1;lia
  rw[zP,f];simp;exact g
def YS(a:jo)(x:Int):Bool:=decide (0<=x/\x.toNat∈a)
def LY(a:jI):Prop:=∀ j,j+1<a.length->(a.getD (j+1) .d).h=(a.getD 0 .d).h/\(a.getD j .d).hi.lt (a.getD (j+1) .d).lo=true
def X5{c:jI}:LY c ↔ No c=true:=by
 unfold LY No Uy;rw[zK];constructor
 ·intro h j e;have g:j<c.length-1:=xN.mp e;obtain⟨a,b⟩:=h j ∅
  rw[zT];refine⟨?_,b⟩;rw[beq_iff_eq,a]
  cases j with
  | zero=>rfl
  | succ j=>exact(h j ∅).1
 ·intro h;have f:∀ j,j<c.length->(c.getD j .d).h=(c.getD 0 .d).h:=λj=>by
   induction j with
   | zero=>intro _;rfl
   | succ j i=>
    intro e;have:=h j (xN.mpr ∅)
    rw[zT,beq_iff_eq] at this;rw[<-this.1];exact i ∅
  intro j e;have:=h j (xN.mpr ∅)
  rw[zT] at this;exact⟨f (j+1) e,this.2⟩
def Ln{gt:jp}{d:jq}{i:Nat}{t:ZT}(h:Y2 gt d i t):(Yh t).fit:=by
 have a:0<t.rows.length:=vU.mpr h.ne;have b:t.rows.getD 0 rd∈t.rows:=by rw[zP,zU a];exact xG _
 have c:t.rows.getD (t.rows.length-1) rd∈t.rows:=by rw[zP,zU (show t.rows.length-1<t.rows.length by lia)];exact xG _
 exact⟨(h.inn _ b).2.1,(h.inn _ c).2.1⟩
def YW(a:jq)(bs:jo):jI:=bs.map λb=>Yh (gd a b)
inductive Xa(gt:jp)(i:je)(H:Hp)(Q:VK)(_:XK):Prop
 |mk(d l:aj)(c:jz)(h:jq)(e:jo)(g:List (ZR×V))(_:i=[.ref d,.ref l,.non])(_:Y6 gt H d h e g)(_:H l=some (.lst (c.map V.int)))(_:c.length<=100)(_:∀ x,c.find? (λx=>!YS e x)=some x->∀(t:aj)(a:Hp),ZC H a->a t=some (.tup [.str "twig",.int x])->Q (.ref t) a)(_:∀ bs:jo,c=bs.map (λb:Nat=>(b:Int))->(∀ b∈bs,b∈e)->over (YW h bs)=none->∀(t:aj)(a:Hp),ZC H a->a t=some (.tup [.str "stem"])->Q (.ref t) a)(_:∀ bs:jo,c=bs.map (λb:Nat=>(b:Int))->(∀ b∈bs,b∈e)->over (YW h bs)≠none->∀ a:Hp,ZC H a->Q .non a)
abbrev Bo:jr:=["_law_twigs","_law_numbers","_law_high","_law_number","_law_labels","_law_j"]
def V6:ZA Bo zEj (Zc K2):=Zz
def Dx{gt:jp}(F:Zj K "_law_wrong" "_law_wrong" K2 f fd)(T:YO mg)(DL:ZB P w K mg jV 2 "_law_label" zEc (Yk gt))(DS:ZB P w K mg jV 7 "_law_less" zEr YZ):
  ZI P w K mg jV ZZ 8 f fd zEj (Xa gt):=by
 refine F.ko V6 λe9 A c9 s H vs Q E hr h=>?_;obtain⟨d,l,X,ts,lv,a2,rfl,L,hl,e2,q1,q2,q3⟩:=h;have nd:=V6.nd;have hu:=Wj hr;have c7:=hr.mono (show 2<=7 by lia (splits:=8))
 intro Xc;refine⟨_,ZQ (VV PassesOwn.never rfl (WZ (pv 1)) (Yb 3 nd)
   (ZU (Zv (Qm (NQ hu (pv 3) (pv 0))) (ZU (Zn (Yq (Zg Ym (pv 3))))) Z1)))
  (ZQ (OR (i:=4) [0] ["_law_twigs"] nd rfl rfl rfl (WZ (pv 1)) (λ_ _ _ _ _=>UG) (λ_ _ _ _ _=>Zp DL c7 (Zg (pv 1) (pv 0))) ⟨rfl,.inl rfl,rfl,trivial⟩)
  (ZQ (Zv (PW.pt (VI (XU (Mh QQ QQ ZN (Zm WA rfl T.len XQ (ZX (pv 4))) ZN)) (UR (PW.pt (Na (Qm (JW (pv 2))) (Mb (YJ Qi (Zu WI (Zk K (Zk K (pv 4) ZN) ZN) ZN) (pv 2) (Z3 _))))))))
   (ZU (Zn (Yq (ZX Ym)))) Z1)
  (ZQ (VV PassesOwn.never rfl (Nh rfl T.range (Zg ZN (Zm WA rfl T.len XQ (ZX (pv 4))))) (Yb 5 nd)
   (ZU (Zv (PW.pt (VI (YJ Qi (Zk K (Zk K (pv 4) (pv 5)) ZN) (Zk K (Zk K (pv 4) ZN) ZN) (Z3 _))
     (UR (XU (Ye (Zp DS hr (Zg (Zk K (Zk K (pv 4) (Zu QI (pv 5) ZN)) ZN) (Zk K (Zk K (pv 4) (pv 5)) ZN))))))))
    (ZU (Zn (Yq (ZX Ym)))) Z1)))
  (ZU (Zn OO))))),?_⟩
 have c0:∀{x:Int}{U:Hp},ZC H U->∃ o,Zi U d (.int x) o/\(!o.isSome) = !YS lv x:=fun{x U} O=>by
  exists Z5 a2 (Sum.inl x),Zi.k (k:=Sum.inl x) (O _ _ L.dict)
  congr 1
  unfold YS;by_cases hx:0<=x/\x.toNat∈lv
  ·rw[aK hx];obtain⟨v,e,_⟩:=L.tws.2 x.toNat hx.2;have ex:((x.toNat:Nat):Int)=x:=by lia (splits:=8)
   rw[ex] at e;rw[e];rfl
  ·rw[aJ hx]
   cases z:Z5 a2 (Sum.inl x) with
   | none=>rfl
   | some v=>
    have:=Oy z;rw[L.tws.1] at this;obtain⟨i,J,ei⟩:=zM.mp this;have ei:=Sum.inl.inj ei;refine absurd ⟨by lia (splits:=8),?_⟩ hx
    rw[<-ei];exact J
 refine⟨_,rfl,l,rfl,⟨_,ZH.of hl⟩,Ql (K:=K) (a:=l) (xs:=X.map V.int) (λi σ U=>∃ x:jf,σ=[some (.ref d),some (.ref l),some .non,x,none,none]/\ZC H U/\(X.take i).find? (λx=>!YS lv x)=none) ⟨_,rfl,ZC.refl H,rfl⟩ (λi σ U _ I=>by obtain⟨_,_,O,_⟩:=I;exact ZH.of (O _ _ hl)) ?_ ?_⟩
 ·rintro i u σ U a5 ⟨x,rfl,O,hn⟩;rw[zJ] at a5;obtain⟨n,en,rfl⟩:=yG.mp a5;obtain⟨o,ho,eo⟩:=c0 (x:=n) O;obtain⟨f1,f2⟩:=Ot hn en;exists _,rfl,_,rfl,d,o,rfl,ho,_,rfl;rw[eo]
  cases c:!YS lv n with
  | true=>exact Z8 ⟨_,rfl,YC,λt M=>q1 n (f1 c) t _ (O.trans (Za M _)) ZK⟩
  | false=>exact Zl ⟨_,rfl,O,f2 c⟩
 rintro σ U ⟨x,rfl,O,hn⟩;rw[zX,yF (zY _),vK] at hn;obtain⟨bs,eb,hb⟩:∃ bs:jo,X=bs.map (λb:Nat=>(b:Int))/\∀ b∈bs,b∈lv:=by
  have a4:∀ y∈X,0<=y/\y.toNat∈lv:=λy hy=>by
   have:=hn y hy;unfold YS at this;simpa using this
  refine⟨X.map wF,?_,λb hb=>?_⟩
  ·rw[zL];have:X=X.map id:=(List.map_id _).symm;rw[this];simp only[zL];refine uJ λy hy=>?_;have:=a4 y hy;show y=((y.toNat:Nat):Int)
   lia (splits:=8)
  ·obtain⟨y,hy,rfl⟩:=zM.mp hb;exact(a4 y hy).2
 have c8:X.length=bs.length:=by rw[eb,zX]
 have a8:=q2 bs eb hb;have a9:=q3 bs eb hb;clear q1 q2 q3 c0;have W:=O _ _ hl;exists _,rfl,l,rfl,⟨_,ZH.of W⟩;refine UM (n:=bs.length) (λi z=>(X.map V.int)[i]? = some z) (λD i ys G=>ZC U G/\U D=none/\YR G ((YW ts bs).take i) ys) (YQ (by lia (splits:=8)))
  (λD i ys G J I=>⟨_,.int (bs[i]:Nat),ZH.of (I.1 _ _ W),by rw[eb];simp[J]⟩) (λD i ys G z q J I hy=>⟨hy.1,hy.2 _ (ZH.of (I.1 _ _ W))⟩) (λD ys G I=>⟨_,ZH.of (I.1 _ _ W),by simp[c8]⟩)
  (λD hD=>⟨Za hD _,hD,rfl,λi u e=>by simp at e⟩) (λD i ys G z eD i2 J hz I R hR=>?_) (λD p G eD I=>?_)
 ·obtain⟨s3,nD,hk⟩:=I;have ez:z=.int (bs[i]:Nat):=by
   rw[eb,zL,zJ,zU J] at hz;exact(zH.inj hz).symm
  subst ez;exists _,rfl,_,rfl,d,bs[i],ts,lv,a2,rfl,L.same (O.trans s3),hb _ (xG _);intro q v B hv;have r:=B _ _ eD;have tD:YK q (upd q D (.lst (ys++[v]))):=λb xs e=>by rw[ZM (ZD e r)];exact e
  refine hR _ q r ⟨UK (s3.trans B) nD,nD,?_⟩;have et:(YW ts bs)[i]? = some (Yh (gd ts bs[i])):=by unfold YW;rw[zJ,zU J];rfl
  rw[yD,et];exact((hk.mono (ZC.tups B)).snoc hv).mono tD
 obtain⟨s3,nD,hk⟩:=I;have ll:(YW ts bs).length=bs.length:=zX _;rw[yF (by lia (splits:=8))] at hk
 have i3:p.length=bs.length:=by rw[hk.1,ll]
 have N:=O.trans s3;generalize c3:YW ts bs=g at hk ll a8 a9;have a0:∀ i,i<g.length->(g.getD i .d).fit:=λi J=>by
  have c5:i<bs.length:=by lia (splits:=8)
  have e1:g.getD i .d=Yh (gd ts bs[i]):=by rw[zP,<-c3];unfold YW;rw[zJ,zU c5];rfl
  rw[e1];exact Ln (L.at_ (hb _ (xG _)))
 have C:∀(q:Hp)(t:aj),over g=none->ZC H q->q t=none->Q (.ref t) (upd q t (.tup [.str "stem"])):=λq t ho B M=>a8 ho t _ (B.trans (Za M _)) ZK;have S:¬ (2<=g.length/\g.length<=4)->over g=none:=λz=>by unfold over;rw[aM λy=>z ⟨y.1,y.2.1⟩]
 exists _,rfl,D,p,rfl,.inl (ZH.of eD),_,_,rfl,rfl,_,rfl;rcases yO p.length 2 with h2 | h2
 ·rw[aJ (show ¬ (2:Int)<=(p.length:Int) by lia (splits:=8))]
  refine Zl ⟨_,rfl,Z8 (Z8 ?_)⟩;exact⟨YC,λt M=>C G t (S (by lia (splits:=8))) N M⟩
 rw[aK (show (2:Int)<=(p.length:Int) by lia (splits:=8))]
 refine Z8 ⟨_,_,rfl,rfl,_,rfl,?_⟩;rcases yO 4 p.length with h4 | h4
 ·rw[aJ (show ¬ (p.length:Int)<=4 by lia (splits:=8))]
  refine Z8 (Z8 ?_);exact⟨YC,λt M=>C G t (S (by lia (splits:=8))) N M⟩
 rw[aK (show (p.length:Int)<=4 by lia (splits:=8))]
 refine Zl ⟨_,rfl,_,rfl,Zl (Zl ?_)⟩;exists _,rfl,D,p,rfl,.inl (ZH.of eD),1,(p.length:Int),rfl,⟨by lia (splits:=8),by lia (splits:=8),by lia (splits:=8),by lia (splits:=8)⟩
 have a3:∀(H':Hp)(i:Nat),ZC G H'->i<p.length->∃(a:aj)(Z Y:V),p[i]? = some (.ref a)/\H' a=some (.tup [.int (g.getD i .d).h,Z,Y,.int (g.getD i .d).m])/\ZG H' (g.getD i .d).lo Z/\ZG H' (g.getD i .d).hi Y:=λH' i s' J=>by
  have hu:p[i]? = some p[i]:=zU J;obtain⟨a,Z,Y,e,e1,k1,k2⟩:=(hk.2 i _ hu).mono (ZC.tups s');exact⟨a,Z,Y,by rw[hu,e],e1,k1,k2⟩
 refine Pa (lo:=1) (n:=((p.length:Int)-1).toNat) (λi σ q=>∃ y:jf,σ=[some (.ref d),some (.ref l),some .non,x,some (.ref D),y]/\ZC G q/\∀ j,j<i->(g.getD (j+1) .d).h=(g.getD 0 .d).h/\(g.getD j .d).hi.lt (g.getD (j+1) .d).lo=true) ⟨_,rfl,ZC.refl G,λj hj=>absurd hj (by lia (splits:=8))⟩ ?_ ?_
 ·rintro i σ q J ⟨y,rfl,B,a1⟩;have c6:i+1<p.length:=by lia (splits:=8)
  have e1:(1:Int)+(i:Int)=((i+1:Nat):Int):=by lia (splits:=8)
  have e0:(1:Int)+(i:Int)-1=((i:Nat):Int):=by lia (splits:=8)
  obtain⟨a,e7,c1,ua,ta,e3,a6⟩:=a3 q i B (by lia (splits:=8))
  obtain⟨b,c2,e8,ub,tb,a7,e4⟩:=a3 q (i+1) B c6;obtain⟨c,i1,i0,uc,tc,e6,e5⟩:=a3 q 0 B (by lia (splits:=8))
  have no:¬ ((g.getD (i+1) .d).h=(g.getD 0 .d).h/\(g.getD i .d).hi.lt (g.getD (i+1) .d).lo=true)->over g=none:=λz=>by
   unfold over;rw[aM λy=>z (X5.mpr y.2.2 i (by lia (splits:=8)))]
  have r:=B _ _ eD;refine⟨_,rfl,_,rfl,.inl ⟨D,p,_,.ref b,rfl,rfl,ZH.of r,by rw[e1];exact WD ub,.inr (.inl ⟨b,_,0,_,rfl,rfl,Zd.of tb,rfl,?_⟩)⟩⟩
  refine⟨_,rfl,.inl ⟨D,p,0,.ref c,rfl,rfl,ZH.of r,WD (j:=0) uc,.inr (.inl ⟨c,_,0,_,rfl,rfl,Zd.of tc,rfl,rfl,_,rfl,?_⟩)⟩⟩;have c4:(!decide (V.int (g.getD (i+1) .d).h=V.int (g.getD 0 .d).h)) = !decide ((g.getD (i+1) .d).h=(g.getD 0 .d).h):=by simp
  rw[c4];by_cases hh:(g.getD (i+1) .d).h=(g.getD 0 .d).h
  ·rw[aK hh];refine Zl ?_;refine⟨_,rfl,_,rfl,_,_,rfl,rfl,.inl ⟨D,p,_,.ref a,rfl,rfl,ZH.of r,by rw[e0];exact WD ua,.inr (.inl ⟨a,_,2,_,rfl,rfl,Zd.of ta,rfl,?_⟩)⟩⟩
   refine⟨_,rfl,_,rfl,.inl ⟨D,p,_,.ref b,rfl,rfl,ZH.of r,by rw[e1];exact WD ub,.inr (.inl ⟨b,_,1,_,rfl,rfl,Zd.of tb,rfl,?_⟩)⟩⟩
   refine⟨c1,c2,_,_,rfl,a6,a7,(a0 i (by lia (splits:=8))).2,(a0 (i+1) (by lia (splits:=8))).1,λH5 s5=>⟨_,rfl,?_⟩⟩
   cases hc:(g.getD i .d).hi.lt (g.getD (i+1) .d).lo with
   | false=>
    refine Z8 ⟨YC,λt M=>C H5 t (no λz=>by rw[hc] at z;cases z.2) ((N.trans B).trans s5) M⟩
   | true=>
    refine Zl ⟨_,rfl,B.trans s5,λj hj=>?_⟩;rcases yO j i with z | z
    ·exact a1 j z
    ·have:j=i:=by lia (splits:=8)
     subst this;exact⟨hh,hc⟩
  ·rw[aJ hh];exact Z8 (Z8 ⟨YC,λt M=>C q t (no λz=>hh z.1) (N.trans B) M⟩)
 ·rintro σ q ⟨y,rfl,B,a1⟩;have hc:No g=true:=X5.mp λj hj=>a1 j (by lia (splits:=8))
  refine a9 ?_ q (N.trans B);unfold over;rw[aO ⟨by lia (splits:=8),by lia (splits:=8),hc⟩]
  exact λz=>nomatch z
end Tw
namespace L2
open PySem PySem.Spec PyProof.Rows
def El{K:zZ}{x d:Str}{l:aB}{f c P:aj}{e:am}(F:Zj K x d l f e)(i:zR K ao x=some (some (.ref f)))(a:yK K x=some (c,P)):e.code=.ref c:=by
 obtain⟨o,p,kV,g,q,m,b,ct,k,rfl,j,h⟩:=F.ex;unfold yK at a;rw[i] at a;simp only at a;rw[j] at a;simp only at a;show b=.ref c
 cases b with
 | ref n=>
  simp only at a;split at a
  ·split at a
   ·cases a;rfl
   ·cases a
  ·cases a
 | _=>cases a
def Zj.okC{P:al}{w:ar}{K:zZ}{r:jb}{d:aC}{x b:Str}{i:aB}{f c T:aj}{q:am}{N o:jr}{k:Nat}{p:Sp}(F:Zj K x b i f q)(z:zR K ao x=some (some (.ref f)))(C:yK K x=some (c,T))(S:ZA N o (Zc i))(n:∀ h H Q E,p h H Q E->h.length=o.length)(g:∀ (A:aw) (a:jA) (s:ak) (H:Hp) (h:je) (Q:VK) (E:XK),ZW k (A.deeper (envOfC b (Zc i) s.heap.objs.size f (.ref c)))->p h H Q E ->
   ∃ t,WC (Wu ZZ P w K r d N b (Zc i) f (.ref c) A a s H E) (XM i) t/\t { nx:=λ_ u=>Q .non u,rt:=Q } (start N h) H):ZI P w K r d ZZ (k+1) f q o p:=by
 have e:=El F z C;obtain⟨J,L,kV,v,M,I,j,ct,G,rfl,D,l⟩:=F.ex;have y:j=.ref c:=e;subst y;exact Mf D l S n λA a s H h Q E B m=>g A a s H h Q E B m
def JD(f e:aj)(i h:aH)(a:jC)(N:jr)(d:Sp):Sp:=λj H Q E=>
 j=[]/\H f=some (Yj f i)/\H e=some (Yj e h)/\∃ g:je,Wp H a N g /\
  d g (unT (a.map (·.2)) H) (λv b=>(∀ c∈a.map (·.2),b c=none)->Q v (reT (a.map (·.2)) H b)) (λc o b=>(∀ c∈a.map (·.2),b c=none)->E c o (reT (a.map (·.2)) H b))
def VC(g:jw->Prop)(x C:aj)(b:jv)(h:aC):Prop:=∃ o a,h.get? x=some o/\o.cls=.ref C/\o.data=.fields a/\o.dict=b/\g a
def QD:jw->Prop:=λa=>a[1]? = some .none
def Qu:jw->Prop:=λ_=>True
def XO(g:jw->Prop)(x C:aj)(a:jv):HO:=.ext (VC g x C a)
def VC.is{g:jw->Prop}{x C:aj}{c:jv}{h:aC}(e:VC g x C c h):Xn x C h:=let ⟨o,_,a,b,_⟩:=e;⟨o,a,b⟩
def La{P:al}{w:ar}{H:Hp}{h:aC}{g:jw->Prop}{x C:aj}{j:jv}(e:VC g x C j h):Zb P w H h x (XO g x C j):=by
 obtain⟨o,s,a,b,c,d⟩:=id e;exact⟨e,⟨o,a⟩,λq r ⟨i,f,l,m,n,p⟩ k=>⟨i,f,k i l,m,n,p⟩⟩
abbrev Q0:jd:=[.type "ValueError",.type "Exception",.type "BaseException",.type "object"]
def KY:jd->Bool
 | .ref _::r=>KY r
 | l=>l==Q0
def GU(a:ai):∀{l:jd},KY l=true->PySem.refuseLoop a "__setattr__" l=pure ()
 | .ref c::r,e=>(refuseLoop_ref _ _ _ _).trans (GU a (l:=r) e)
 | .type n::r,e=>by rw[show (Value.type n::r)=Q0 from beq_iff_eq.mp e];exact qY.passes a
 | [],e=>by cases e
 | .none::r,e | .bool _::r,e | .int _ _::r,e | .str _ _::r,e | .bytes _ _::r,e | .float _ _::r,e | .builtin _::r,e=>by cases(beq_iff_eq.mp e)
def Gw(K:zZ)(C:aj):Bool:=(PySem.W.clsIn K C).any λa=>KY a.mro
def IM:ai->Bool
 | .type t=>t == "type"
 | _=>false
def Dn{v:ai}(h:IM v=true):v=.type "type" :=by
 cases v with
 | type t=>exact congrArg Value.type (eq_of_beq h)
 | _=>cases h
def JS:Data->Option ClassData
 | .cls c=>some c
 | _=>none
def An{d:Data}{c:ClassData}(h:JS d=some c):d=.cls c:=by
 cases d with
 | cls c=>cases h;rfl
 | _=>cases h
def Hr:jc->Bool
 | some (.builtin m)=>m == "ValueError.__new__"
 | _=>false
def A5{v:jc}(h:Hr v=true):v=some (.builtin "ValueError.__new__"):=by
 cases v with
 | none=>cases h
 | some v=>
  cases v with
  | builtin m=>exact congrArg (some <| Value.builtin ·) (eq_of_beq h)
  | _=>cases h
def HS(C:aj):jd->Bool
 | .ref D::_=>D==C
 | _=>false
def Au{C:aj}{l:jd}(h:HS C l=true):l=.ref C::l.tail:=by
 cases l with
 | nil=>cases h
 | cons v r=>
  cases v with
  | ref D=>exact congrArg (Value.ref ·::r) (eq_of_beq h)
  | _=>cases h
def OH{b:Type}{n:Nat}{l:List b}(h:l.length=n+1):∃ a m,l=a::m:=by
 cases l with
 | nil=>cases h
 | cons a m=>exact⟨a,m,rfl⟩
def Fb{l:List (jc)}(h:l.length=6):∃ a b c d e f,l=[a,b,c,d,e,f]:=by
 obtain⟨a,l,rfl⟩:=OH h;obtain⟨b,l,rfl⟩:=OH (xZ.inj h);obtain⟨c,l,rfl⟩:=OH (xZ.inj (xZ.inj h));obtain⟨d,l,rfl⟩:=OH (xZ.inj (xZ.inj (xZ.inj h)));obtain⟨e,l,rfl⟩:=OH (xZ.inj (xZ.inj (xZ.inj (xZ.inj h))));obtain⟨f,l,rfl⟩:=OH (xZ.inj (xZ.inj (xZ.inj (xZ.inj (xZ.inj h)))))
 cases l with
 | nil=>exact⟨a,b,c,d,e,f,rfl⟩
 | cons _ _=>cases h
def Ie{b:Type}{p:b->Bool}{o:Option b}(h:o.any p=true):∃ a,o=some a/\p a=true:=by
 cases o with
 | none=>cases h
 | some a=>exact⟨a,rfl,h⟩
def IJ(K:zZ)(C:aj)(f:ClassData->Bool):Bool:=(K.lookup C).any λo=>IM o.cls&&(o.slots.toList.length==6&&(Hr (o.slots.toList.getD 4 none)&&(JS o.data).any λc=>HS C c.mro&&(PySem.W.tailIn K Q0 c.mro.tail&&(!c.hasDel&&f c))))
inductive Q8(K:zZ)(C:aj)(f:ClassData->Bool):Prop
 |mk(g bs h i e j b d a k l m n o p:_)(c:jd):K.lookup C=some (excClassObj g i C h bs c e j b d a k l m n o p "ValueError.__new__")->PySem.W.tailIn K Q0 c=true->f ⟨g,bs,.ref C::c,h,i,e,j,b,d,a,false⟩=true->Q8 K C f
def EK{K:zZ}{C:aj}{f:ClassData->Bool}(h:IJ K C f=true):Q8 K C f:=by
 obtain⟨⟨G,k,H,⟨I⟩⟩,e,h⟩:=Ie h;rw[zT,zT,zT] at h;obtain⟨m,n,o,p⟩:=h;obtain⟨⟨A,bs,g,B,D,s,E,i,j,b,c⟩,l,h⟩:=Ie p;rw[zT,zT,zT] at h;obtain⟨a,d,q,r⟩:=h;cases Dn m;cases An l;obtain⟨t,u,w,x,y,z,rfl⟩:=Fb (eq_of_beq n);cases A5 (v:=y) o;have a:=Au a;dsimp only at a d;generalize g.tail=F at a d;subst a
 cases c with
 | true=>cases q
 | false=>exact⟨A,bs,B,D,s,E,i,j,b,k,t,u,w,x,z,F,e,d,r⟩
def Gb(K:zZ)(C:aj):Bool:=IJ K C λ_=>true
structure Yd(K:zZ)(C fI:aj)(f:Str):Prop where
 exc:X6 K C
 made:Gb K C=true
 init:zG K (.ref C) "__init__" = some (some (.ref fI))
 fn:wY K (.ref fI)=true
 kp:yU K (.ref C)=true
 sa:zG K (.ref C) "__setattr__" = some (some (.builtin "object.__setattr__"))
 no:zG K (.ref C) f=some none
 hd:wM K C=true
 over:Gw K C=true
section
variable{g:jw->Prop}{jU:js}{σ:St}{H:Hp}{a C fI:aj}{f:Str}{v:V}
def ZH4{y:V}{u:ai}{Q:Unit->ak->Prop}(I:ZF X jU σ H s)(e:H a=some (XO g a C none))(c:Yd X.K C fI f)(ry:ZS y u)(h:∀ L s',H L=none->L≠a->ZF X jU σ (upd (upd H L (.xd [(f,y)])) a (XO g a C (some L))) s'->Q () s'):aA (az X.prog X.w) A (setAttr (.ref a) f u) Q E s:=by
 obtain⟨o,vs,N,d,i,x,Z⟩:=(I.hok a _ e).1;obtain⟨oc,od,a7,k⟩:=o;dsimp only at d i x;subst d i x;have J:tU s.heap a ⟨.ref C,none,.fields vs,k⟩ C none:=⟨N,rfl,rfl,True.intro⟩;refine PySem.W.set_plain I.kIn J c.sa ?_;have l:=qY;obtain⟨cd,S,ho⟩:=uO c.over;have a2:yL (az X.prog X.w) s.heap (isInstance (.ref a) (.type "object")) true:=J.type.andThen (uH I.kIn c.exc.mO);refine codeAny_call_builtin l.slot.plain l.entry (@PySem.W.check_slot (az X.prog X.w) _ _ { s with toks:=s.toks+1 } "object.__setattr__" "object" "__setattr__" (.ref a) [.str f s.toks,u] [] _ l.kind l.split a2 (l.args (.ref a) (.str f s.toks) u) ?_);have hm:yL (az X.prog X.w) s.heap (mroOf (.ref C)) cd.mro:=(sX I.kIn S).andThen .now;rw[PySem.W.osa_eq,PySem.refuse_eq];refine aa (aa (yL.here (s:={ s with toks:=s.toks+1 }) J.type (aa (yL.here (s:={ s with toks:=s.toks+1 }) hm ?_))));rw[GU _ ho];refine ad (aa (yL.here (s:={ s with toks:=s.toks+1 }) J.type (aa (yL.here (s:={ s with toks:=s.toks+1 }) (uE I.kIn c.no) (aa (ad ?_))))));obtain⟨a3,t,T⟩:=uO c.hd;refine aa (ad (aa (aa (wpAny_loadPart N (aa (yL.here (s:={ s with toks:=s.toks+1 }) (sX I.kIn t) ?_))))));rw[T];dsimp only;have a6:s.heap.get? s.heap.objs.size=none:=vH (zY _);have i:a≠s.heap.objs.size:=zO (zW N);have p:H s.heap.objs.size=none:=I.hok.fresh (zY _);rw[aM (by simp),aM (by simp[typeHasDict])]
 have D:=zS { cls:=.type "dict",data:=.dict #[] } N;refine aa (wpAny_alloc' (aa (wpAny_update' D (ad ?_))));generalize O:((s.heap.push { cls:=.type "dict",data:=.dict #[] }).update a λo=>{ cls:=o.cls,dict:=some s.heap.objs.size,data:=o.data,slots:=o.slots })=M;have ga:M.get? a=some ⟨.ref C,some s.heap.objs.size,.fields vs,k⟩:=by
  rw[<-O];exact wT _ D rfl
 have gd:M.get? s.heap.objs.size=some { cls:=.type "dict",data:=.dict #[] }:=by
  rw[<-O];exact(tK _ _ _ _ i.symm).trans (Heap.get?_push_at rfl rfl)
 have go:∀ b o,b≠a->s.heap.get? b=some o->M.get? b=some o:=λb o n q=>by
  rw[<-O];exact(tK _ _ _ _ n).trans (zS _ q)
 have a0:M.Ns s.heap.objs.size (λ_=>none):=⟨_,#[],_,gd,rfl,λe he=>absurd he (by simp),λ_=>rfl⟩
 show aA _ _ (Builtin.ObjectAttr.storeInDict s.heap.objs.size (.str f s.toks) f u) _ _ _;unfold Builtin.ObjectAttr.storeInDict Builtin.ObjectAttr.newKeyGuard;refine aa (ad (aa (wpAny_nsSet1 (Heap.Ns1.of_empty a0) λP B hs=>?_)));obtain⟨oD,a5,a4,a1,U,R⟩:=B.count (Within.cons f u Within.nil);refine aa (wpAny_lookBehind a1 (by rw[U];exact pastItsLine_dict (zI R (by rw[yH,List.length_nil,sizeLine_eq];lia))) ?_)
 have m:P.get? a=some ⟨.ref C,some s.heap.objs.size,.fields vs,k⟩:=(hs.2 a i).trans ga;have j:∀ b o,b≠a->s.heap.get? b=some o->P.get? b=some o:=λb o n q=>(hs.2 b (zO (zW q))).trans (go b o n q);have G:∀{b:aj}{o:HO},H b=some o->b≠s.heap.objs.size:=fun{b o} q z=>by rw[z,p] at q;cases q
 have na:∀{b:aj},H b=none->b≠a:=fun{b} q z=>by rw[z,e] at q;cases q
 refine ad (h s.heap.objs.size _ p i.symm (I.call' (s':={ s with heap:=P,toks:=_ }) (ch:=[]) rfl ⟨λb o q n _ _=>j b o (na n) q,λb o q n _ _=>⟨o.slots,j b o (na n) q⟩,λb o q n _=>?_,λb o q _=>?_,λb xs q=>?_,λb o u q=>?_,λb ps q=>?_⟩ (λb ob q=>?_) I.bare (λb hb=>absurd hb (by simp))))
 ·rw[ZM (na n),ZM (zO (zW q))];exact n
 ·by_cases z:b=a
  ·rw[z];exact⟨_,m⟩
  ·exact⟨o,j b o z q⟩
 ·rw[ZM (λz=>by rw[z,e] at q;cases q),ZM (G q)];exact q
 ·rw[ZM (λz=>by rw[z,e] at q;cases q),ZM (G q)];exact q
 ·exact⟨#[],by rw[ZM (λz=>by rw[z,e] at q;cases q),ZM (G q),q];simp⟩
 ·by_cases z:b=a
  ·rw[z,ZK] at q;cases q;rw[z];exact La ⟨_,_,m,rfl,rfl,rfl,Z⟩
  ·rw[ZM z] at q;by_cases z2:b=s.heap.objs.size
   ·rw[z2,ZK] at q;cases q;rw[z2];exists _,B;intro g;show Yc (xO g [(f,y)]) (if g=f then some u else none)
    by_cases Y:g=f
    ·rw[Y,aO rfl];simp only[xO,beq_self_eq_true];exact ry
    ·rw[aM Y];simp only[xO,beq_eq_false_iff_ne.mpr Y];exact True.intro
   ·rw[ZM z2] at q;have oc:∀{c:aj},H c=some (.own b)->c≠a:=fun{c} d z=>by rw[z,e] at d;cases d
    refine(I.hok b ob q).stay (λc u d r=>j c u ?_ r) (λc d=>?_) (λc xs d=>?_)
    ·rcases d with rfl | d
     ·exact z
     ·exact oc d
    ·rw[ZM (oc d),ZM (G d)];exact d
    ·rw[ZM (λz=>by rw[z,e] at d;cases d),ZM (G d)];exact d
def Bl{b:Bool}{j:aj}{x:List (Str×V)}{Q:ja}(I:ZF X jU σ H s)(e:H a=some (XO g a C (some j)))(d:H j=some (.xd x))(c:Yd X.K C fI f)(l:x.lookup f=some v)(h:∀ u B,ZF X jU σ H B->ZS v u->Q u B):aA (az X.prog X.w) A (getAttr (.ref a) f b) Q E s:=by
 obtain⟨o,R,N,D,m,n,G⟩:=id (I.hok a _ e).1;obtain⟨O,r,i⟩:=I.hok j _ d;obtain⟨u,M,z⟩:=Yc.some_of (v:=v) (o:=O f) (by rw[<-l];exact i f)
 obtain⟨y,t,q⟩:=Iw r;have J:tU s.heap a o C (some y):=⟨N,D,by unfold PySem.W.notCls;rw[m],by rw[n];exact t⟩
 obtain⟨P,k,p⟩:=uO c.hd;have L:yL (az X.prog X.w) s.heap (Builtin.ObjectAttr.inOwnDict f (.ref a)) (some u):=PySem.W.looks_own I.kIn J k (by unfold PySem.W.ownOf;rw[p,aO rfl];show vN f y=_;rw[q,M])
 have F:yL (az X.prog X.w) s.heap (Builtin.ObjectAttr.find (.ref a) (.ref C) f) (.value u):=by
  refine yL.andThen (uE I.kIn c.no) (yL.andThen .now (yL.andThen .now ?_));exact yL.andThen L (yL.tag yL.now)
 refine aa (wpAny_mkText ?_);refine HI (s:={ s with toks:=s.toks+1 }) I.kIn (I.hok a _ e).1.is c.exc F ⟨Gk z,h u _ (I.tok _) z⟩
end
section
variable{C fI:aj}{f:Str}
abbrev Qd(h:aC)(C:aj)(a:jd):Heap:=(h.push { cls:=.type "tuple",data:=.seq a.toArray }).push { cls:=.ref C,data:=.fields #[.ref h.objs.size,.none,.none,.none,.bool false,.none] }
def Bb{e:jd}{Q:ja}(X:K.In s.heap)(c:Yd K C fI f)(p:e.length<=ap)(h:aA (az prog w) (A.under (.builtin "type.__call__" ⟨.ref C::e,[]⟩)) (call (.ref fI) (.ref (s.heap.objs.size+1)::e)) (λr D=>r=.none/\Q (.ref (s.heap.objs.size+1)) D) E { s with heap:=Qd s.heap C e }):
  aA (az prog w) A (call (.ref C) e) Q E s:=by
 obtain⟨a,g,d,t,B⟩:=s;have n:=c.made;obtain⟨Y,bs,Z,qn,L,sn,u,G,k,H,P,R,S,U,V,v,M,O,_⟩:=EK n;have i:a.get? C=some (excClassObj Y qn C Z bs v L sn u G k H P R S U V "ValueError.__new__"):=X _ _ M;have T:OwnTail a Q0 v:=rY X O;have j:=qU;have f1:=tc_lookup;have f2:=tc_bind (.ref C);have hT:(⟨a,g,d,t,B⟩:ak).TypeIs (.ref C) "type" :=⟨_,i,rfl⟩;refine wpAny_call (codeAny_of_tree (show aA _ _ (callAny (.ref C) _) _ _ _ from ?_))
 repeat (any_goals (first | assumption | with_reducible refine wpAny_loadPart_at i ?_ | wp_step))
 refine⟨rfl,codeAny_call_builtin_at (Code.quiet_builtin _ (by decide +kernel)) entry_typeCall (wpAny_check_type_call_sub i ?_)⟩
 repeat (first | with_reducible refine wpAny_loadPart_at i ?_ | with_reducible refine wpAny_madeBy_exc i ?_ | wp_step)
 refine codeAny_call_builtin_code (Code.quiet_builtin _ j.quiet) (wpAny_check_new_subU j j.hasB T i (codeAny_exc_new_subU j j.hasB j T i ?_ p));show aA _ _ _ _ _ _;have I:(Qd a C e).get? (a.objs.size+1)=some { cls:=.ref C,data:=.fields #[.ref a.objs.size,.none,.none,.none,.bool false,.none] }:=by heap_get
 have y:∀ b o,a.get? b=some o->(Qd a C e).get? b=some o:=λb o q=>zS _ (zS _ q);have l:=y _ _ i;have m:(Value.ref C::v).contains (.ref C)=true:=by simp
 unfold isInstance;show aA _ _ _ _ _ ⟨Qd a C e,g,d,t,B⟩
 repeat (first | with_reducible refine wpAny_loadPart_at I ?_ | wp_step)
 refine wpAny_isSubtype_exc (C:=C) (h:=Qd a C e) l ?_;rw[m]
 repeat wp_step
 have x:K.In (Qd a C e):=λb o q=>y b o (X b o q);show aA _ _ (typeLookup (.ref C) _) _ _ _;refine(uE x c.init).at ?_;refine af (aa ((PySem.W.bind_fn x _ (beq_iff_eq.mp c.fn)).at ?_));refine aa (ae h (λr D N=>?_) λ_ _ z=>z);obtain⟨rfl,J⟩:=N
 wp_walk
 exact J
end
def OM(H:Hp)(a C:aj):Prop:=∃ b,H a=some (.ext b)/\∀ h,b h->Xn a C h
def EV{g:jw->Prop}{H:Hp}{a C:aj}{b:jv}(e:H a=some (XO g a C b)):OM H a C:=⟨_,e,λ_ h=>h.is⟩
def OM.mono{H a:Hp}{b C:aj}(x:OM H b C)(s:ZC H a):OM a b C:=let ⟨φ,e,k⟩:=x;⟨φ,s _ _ e,k⟩
inductive XT(K:zZ)(d:je)(H:Hp)(Q:VK):Prop
 |mk(a C c b:_)(_:d=[.ref a,c])(_:OM H a C)(_:X6 K C)(_:FD c=true)(_:yT K (.ref C) (cV c)=some b)(_:Q (.bl b) H)
inductive Ps(K:zZ)(f:Str)(D:Yt)(e:L2.St)(y x:V)(c:Hp):Prop
 |mk(g a C d:_)(_:x=.ref a)(_:c a=some (XO g a C none))(_:Yd K C d f)(_:∀ b,c b=none->b≠a->D.nx e (upd (upd c b (.xd [(f,y)])) a (XO g a C (some b))))
def ZPI(K:zZ)(d e:TE)(f:Str):TS:=λD a H=>e a H λy b=>d a b λx c=>Ps K f D a y x c
inductive Pb(K:zZ)(f:Str)(Q:VK)(x:V)(b:Hp):Prop
 |mk(g a C c d v e:_)(_:x=.ref a)(_:b a=some (XO g a C (some c)))(_:b c=some (.xd d))(_:Yd K C e f)(_:d.lookup f=some v)(_:Q v b)
def Iv(K:zZ)(b:TE)(f:Str):TE:=λc H Q=>b c H λx a=>Pb K f Q x a
def Oc(K:zZ)(C c:aj)(f:Str):Sp:=λd H Q _=>Yd K C c f/\∃ a y,d=[.ref a,y]/\H a=some (XO QD a C none)/\∀ b,H b=none->b≠a->Q .non (upd (upd H b (.xd [(f,y)])) a (XO QD a C (some b)))
section
def Py:Wq X (.builtin "isinstance") (XT X.K):=by
 intro f s t H p n Q I r h;obtain⟨d,C,c,b,rfl,⟨v,e,k⟩,g,i,j,q⟩:=h;obtain⟨u,o,rfl,l,a⟩:=Nb r;cases(show u=Value.ref d from l);rw[AF a i];exact xQ (AD g) I.kIn (k _ (I.hok d _ e).1) j (λz=>nomatch z) λm=>⟨.bl b,H,I.tok m,rfl,q⟩
variable{C fI:aj}{f:Str}{e o value:Expr}{es:jy}{ta tv:TE}{t:TA}{pos pos' p:aI}{x:Str}
def L0(v:PE X o ta)(B:PE X value tv)(A:swapsWith value (some (.Attribute o f pos')) pos.line X.env=pure false):PS X (.Assign [.Attribute o f pos'] value pos) (ZPI X.K ta tv f):=by
 intro b s d H D I h;refine plainObj_wpAny_Assign_Attribute (YD (B b s d H _ I h) λu L y i j J q=>Zt (v b L d i _ j q) λE O ⟨x,M,k,G,g,a,C,fI,r,n,c,F⟩=>?_) A;subst r;obtain rfl:E=Value.ref a:=G;exact ZH4 k n c J λm N w z l=>⟨d,_,l,F m w z⟩
def ZMw(w:PE X e ta)(r:attributeBase e f X.env (aG e X.env)=aG e X.env):PE X (.Attribute e f pos) (Iv X.K ta f):=by
 intro b s A H Q I h;refine Hg r (Zt (w b s A H _ I h) ?_);rintro u F ⟨x,d,i,z,g,a,C,B,D,v,fI,n,k,m,c,l,q⟩;subst n;obtain rfl:u=Value.ref a:=z;exact Bl i k m c l λu E j y=>⟨v,d,j,y,q⟩
def ZF.newx{g:js}{j:St}{H:Hp}{s:ak}{h':aC}{ea:aj}(I:ZF X g j H s)(d:∀ b o,s.heap.get? b=some o->h'.get? b=some o)(n:s.heap.get? ea=none)(m:VC QD ea C none h'):ZF X g j (upd H ea (XO QD ea C none)) { s with heap:=h' }:=by
 have l:H ea=none:=by
  cases z:H ea with
  | none=>rfl
  | some o=>
   obtain⟨A,q⟩:=I.hok.there (a:=ea) (by rw[z];exact λy=>nomatch y)
   rw[n] at q;cases q
 have i:∀{b:aj}{o:HO},H b=some o->b≠ea:=fun{b o} q z=>by rw[z,l] at q;cases q
 refine I.call' (s':={ s with heap:=h' }) (ch:=[]) rfl ⟨λb o q _ _ _=>d b o q,λb o q _ _ _=>⟨o.slots,d b o q⟩,λb o q z _=>?_,λb o q _=>⟨o,d b o q⟩,λb w q=>?_,λb o u q=>?_,λb B q=>⟨#[],?_⟩⟩ (λb v q=>?_) I.bare (λb k=>absurd k (by simp))
 ·rw[ZM (λy=>by rw[y,n] at q;cases q)];exact z
 ·rw[ZM (i q)];exact q
 ·rw[ZM (i q)];exact q
 ·rw[ZM (i q),q];simp
 ·by_cases z:b=ea
  ·rw[z,ZK] at q;cases q;rw[z];exact La m
  ·rw[ZM z] at q;exact(I.hok b v q).stay (λc u _ r=>d c u r) (λc h=>by rw[ZM (i h)];exact h) (λc w h=>by rw[ZM (i h)];exact h)
end
def B6(f:jw->jw)(o:aH):(Obj.mapFields f o).dict=o.dict:=by
 obtain⟨c,d,a,b⟩:=o;cases a <;> rfl
def By(h B:aC)(e:aj)(cls:ai)(g:jv)(f:ai):Prop:=
 ∃ a d T b c,(h.get? e=some a/\a.cls=cls/\a.dict=g/\a.data=.fields d/\d[1]? = some (.ref T))/\B.get? T=none/\T≠e/\h.get? T=some b/\b.data=.fields c/\c[3]? = some f
def X7(B:aC)(l:jA)(e:aj)(cls:ai)(b:jv)(a:ai)(h:aC):Prop:=B.StaysIn h/\B.get? e=none/\h.FunFrames B l/\By h B e cls b a
def X7.at{B h:aC}{l:jA}{e C:aj}{f:jv}{g:ai}(x:X7 B l e (.ref C) f g h):VC Qu e C f h:=by
 obtain⟨_,_,_,i,j,T,k,m,⟨a,b,c,d,_⟩,_⟩:=x;exact⟨i,j,a,b,d,c,trivial⟩
section
variable{M:Model}{B:aC}{env:Env}{outer l:jA}{L e:aj}{cls:ai}{od:jv}{Q:Unit->ak->Prop}
def LL{oe:aH}{vs:jw}{first:ai}{nx:Bool}(fr:A.frames=some (env::outer))(ff:s.heap.FunFrames B (env::outer))(eL:env.frame=some L)(ge:s.heap.get? e=some oe)(sb:B.StaysIn s.heap)(eB:B.get? e=none)(dd:oe.data=.fields vs)(two:1<vs.size)(h:∀ h',X7 B (env::outer) e oe.cls oe.dict (rawInt L) h'->s.heap.UpToSlots h'->Q () { s with heap:=h' }):
  aA M A (frameOf env >>= λa=>entryPlaceOf L nx >>= λpl=>EntryCells.newEntry first a .none (rawInt L) .none pl >>= λb=>setField (.ref e) 1 b) Q E s:=by
 have en:e∉(env::outer).filterMap (·.frame):=λz=>by
  obtain⟨_,o,g1,g2⟩:=ff.mem z;rw[ge] at g1;cases g1;exact g2 vs dd
 refine aa (wpAny_frameOf_fun fr ff eL λh1 k1=>aa (wpAny_entryPlaceOf λpl kp=>?_));unfold EntryCells.newEntry newFields;refine aa (wpAny_newObj_type ?_ (kp.sizeOk5 _ _ _ _ _));have t3:([first,Value.ref L,.none,rawInt L,.none]++(if pl.isEmpty then wQ 6 Value.none else pl)).toArray[3]? = some (rawInt L):=by
  first | (simp;done) | (rcases kp with rfl | ⟨_,_,_,_,_,_,_,rfl⟩ <;> simp)
 generalize ([first,Value.ref L,.none,rawInt L,.none]++(if pl.isEmpty then wQ 6 Value.none else pl)).toArray=ts at t3⊢;have g1:h1.get? e=some oe:=(k1.2.1 e en).trans ge;have sb1:B.StaysIn h1:=λb o q=>(k1.2.1 b λz=>by rw[(ff.mem z).1] at q;cases q).trans (sb b o q)
 have eT:h1.objs.size≠e:=λz=>xE _ (by have:=zW g1;rw[<-z] at this;exact this)
 have g2:=zS (h:=h1) ({ cls:=.type "traceback",dict:=none,data:=.fields ts }:aH) g1;have d3:=Obj.data_mapFields dd (·.setIfInBounds 1 (Value.ref h1.objs.size));have g3:=wT (Obj.mapFields (·.setIfInBounds 1 (Value.ref h1.objs.size))) g2 (Obj.isFreed_of_fields d3);have gT:=(yB (h1.push ({ cls:=.type "traceback",dict:=none,data:=.fields ts }:aH)) (Obj.mapFields (·.setIfInBounds 1 (Value.ref h1.objs.size))) eT.symm).trans (yW h1 rfl);have stay:∀ b o,b≠e->h1.get? b=some o->((h1.push ({ cls:=.type "traceback",dict:=none,data:=.fields ts }:aH)).update e (Obj.mapFields (·.setIfInBounds 1 (Value.ref h1.objs.size)))).get? b=some o:=λb o n q=>
  (yB _ _ n.symm).trans (zS _ q)
 have notE:∀ b o,s.heap.get? b=some o->(∀ ws,o.data≠.fields ws)->b≠e:=λb o q nf z=>by
  rw[z,ge] at q;cases q;exact nf vs dd
 refine wpAny_setField g2 dd two (h _ ⟨λb o q=>stay b o (λz=>by rw[z,eB] at q;cases q) (sb1 b o q),eB,ff.of_keeps λb o q nf=>?_,_,_,h1.objs.size,_,_,⟨g3,Obj.cls_mapFields _ _,B6 _ _,d3,by simp[two]⟩,sb1.fresh,eT,gT,rfl,t3⟩ λb o q nf=>?_)
 ·obtain⟨sl,z⟩:=k1.2.2 b o q;exact⟨_,stay b _ (notE b o q nf) z,rfl⟩
 ·obtain⟨sl,z⟩:=k1.2.2 b o q;exact⟨sl,stay b _ (notE b o q nf) z⟩
def Q5{F:ai}(x:X7 B l e cls od F s.heap)(h:∀ j,X7 B l e cls od .none j->s.heap.UpToSlots j->Q () { s with heap:=j }):aA M A (setFlight (.ref e) none) Q E s:=by
 obtain⟨H,C,D,G,J,T,N,u,⟨r,w,y,p,v⟩,k,m,i,g,I⟩:=x;have t:3<u.size:=(wI.mp I).1;have a:∀ b,b≠T->(s.heap.update T (Obj.mapFields (·.setIfInBounds 3 ((none:jv).elim Value.none λf=>rawInt f)))).get? b=s.heap.get? b:=λb n=>yB _ _ n.symm;have c:∀ b o,s.heap.get? b=some o->(∀ K,o.data≠.fields K)->b≠T:=λb o q d z=>by
  rw[z,i] at q;cases q;exact d u g
 unfold setFlight;refine aa (wpAny_field r p v ?_);rw[aO (show (Value.ref T != Value.none)=true by simp)]
 refine wpAny_setField i g t (h _ ⟨λb o q=>(a b λz=>by rw[z,k] at q;cases q).trans (H b o q),C,D.of_keeps λb o q d=>⟨o,(a b (c b o q d)).trans q,rfl⟩,?_⟩ λb o q d=>⟨o.slots,(a b (c b o q d)).trans q⟩)
 exact⟨G,J,T,_,_,⟨(a e m.symm).trans r,w,y,p,v⟩,k,m,wT _ i (Obj.isFreed_of_fields (Obj.data_mapFields g _)),Obj.data_mapFields g _,by simp[t]⟩
def Cp{a:aH}{i:jw}(m:A.frames=some (env::outer))(k:s.heap.FunFrames B (env::outer))(d:env.frame=some L)(f:s.heap.get? e=some a)(n:B.StaysIn s.heap)(j:B.get? e=none)(c:a.data=.fields i)(g:i[1]? = some .none)(h:∀ b,X7 B (env::outer) e a.cls a.dict (rawInt L) b->s.heap.UpToSlots b->Q () { s with heap:=b }):aA M A (noteFrame (.ref e) env) Q E s:=by
 unfold noteFrame;simp only[d];refine aa (wpAny_field f c g ?_);rw[aM (by decide)]
 exact LL m k d f n j c (wI.mp g).1 h
def MV(G:A.frames=some (env::outer))(k:env.frame=some L)(x:X7 B (env::outer) e cls od .none s.heap)(h:∀ f,X7 B (env::outer) e cls od (rawInt L) f->s.heap.UpToSlots f->Q () { s with heap:=f }):
  aA M A (noteFrame (.ref e) env) Q E s:=by
 obtain⟨I,C,F,O,P,T,N,r,⟨m,w,y,j,t⟩,u,v,i,g,p⟩:=x;subst w y;have H:3<r.size:=(wI.mp p).1;have a:∀ b,b≠T->(s.heap.update T (Obj.mapFields (·.setIfInBounds 3 Value.none))).get? b=s.heap.get? b:=λb n=>yB _ _ n.symm;have c:∀ b o,s.heap.get? b=some o->(∀ K,o.data≠.fields K)->b≠T:=λb o q d z=>by
  rw[z,i] at q;cases q;exact d r g
 unfold noteFrame;simp only[k];refine aa (wpAny_field m j t ?_);rw[aO (show (Value.ref T != Value.none)=true by simp)]
 refine aa (wpAny_field i g p ?_);rw[aM (show ¬ ((Value.none==rawInt L)=true) by simp[rawInt])]
 refine aa (wpAny_setField i g H ?_);refine LL (s:={ s with heap:=_ }) G (F.of_keeps λb o q d=>⟨o,(a b (c b o q d)).trans q,rfl⟩) k ((a e v.symm).trans m) (λb o q=>(a b λz=>by rw[z,u] at q;cases q).trans (I b o q)) C j (wI.mp t).1 λf D J=>h f D λb o q d=>?_
 exact J b o ((a b (c b o q d)).trans q) d
def X7.less{f:ai}{h:aC}(x:X7 B (env::outer) e cls od f h):X7 B outer e cls od f h:=by
 obtain⟨a,b,⟨_,_,c⟩,d⟩:=x;exact⟨a,b,c,d⟩
def Aa(f:A.frames=some (env::outer))(b:env.frame=some L)(x:X7 B (env::outer) e cls od .none s.heap)(h:∀ a,X7 B outer e cls od .none a->s.heap.UpToSlots a->Q () { s with heap:=a }):aA M A (leaving env (.ref e)) Q E s:=by
 unfold leaving;exact aa (MV f b x λg c j=>Q5 (s:={ s with heap:=g }) c λi d k=>h i d.less (j.trans k))
def Ek{a:aH}{c:jw}(m:A.frames=some (env::outer))(k:s.heap.FunFrames B (env::outer))(g:env.frame=some L)(n:s.heap.get? e=some a)(q:B.StaysIn s.heap)(f:B.get? e=none)(d:a.data=.fields c)(u:c[1]? = some .none)(h:∀ b,X7 B outer e a.cls a.dict .none b->s.heap.UpToSlots b->Q () { s with heap:=b }):aA M A (leaving env (.ref e)) Q E s:=by
 unfold leaving;exact aa (Cp m k g n q f d u λo i r=>Q5 (s:={ s with heap:=o }) i λp j t=>h p j.less (r.trans t))
end
def FE{a:al}{w:ar}{A:aw}{E:ja}{s:ak}{c:Env}{K:zZ}{C:aj}{x:Sem ai}{Q:Flow->ak->Prop}(F:A.handled=none)(H:yV K C (.type "BaseException")=some true)(G:yA K (.ref C)=some (.type "type"))(h:aA (az a w) A x (λv b=>∃ e q,v=.ref e/\K.In b.heap/\VC QD e C q b.heap/\E (.ref e) b) E s):aA (az a w) A (raiseStmt c (some x) none) Q E s:=by
 unfold raiseStmt;refine aa (ae h (λv b B=>?_) λ_ _ z=>z);obtain⟨e,q,rfl,k,⟨⟨L,i,I,j⟩,r,o,l,m,n,J⟩,D⟩:=B;dsimp only at l m n;subst l m n;obtain⟨p,g,d,O,N⟩:=b;have t:yL (az a w) p (typeOf (.ref e)) (.ref C):=Xn.ty ⟨_,o,rfl⟩ _;have u:=uH (M:=az a w) k H;have y:=rT (M:=az a w) k G;have f:p.get? e=some ⟨.ref C,i,.fields r,j⟩:=o;unfold excFromValue isExcClass isInstance isType raisedInstance setFlight
 repeat (first | with_reducible refine wpAny_loadPart_at f ?_ | with_reducible refine u.at ?_ | with_reducible refine t.at ?_ | with_reducible refine y.at ?_ | wp_step)
 rw[show r[1]? = some Value.none from J]
 repeat wp_step
 all_goals first | exact wpAny_raiseNew_none F D | trace_state
structure QF(P:al)(w:ar)(outer:jA)(H:Hp)(s:ak)(ea:aj)(cls:ai)(od:jv)(H':Hp)(s':ak):Prop where
 ex:∃ B:aC,X7 B outer ea cls od .none s'.heap/\(∀ b o,s'.heap.get? b=some o->H' b≠none->B.get? b=some o)/\(∀ b o,s.heap.get? b=some o->H b=none->b∉frs outer->B.get? b=some o)/\(∀ b o,s.heap.get? b=some o->b∉frs outer->∃ o',B.get? b=some o')
 os:s'.os=s.os
 bare:AllBare s'.gens
 un:Un (frs outer) [] H H' s.heap s'.heap
 hok:YG P w H' s'.heap
 new:s.heap.get? ea=none
 free:H' ea=none
def Z9(P:al)(w:ar):WR:=λa H s E e f=>∃ c cls d b,e=.ref c/\QF P w a H s c cls d b f/\E cls d b
structure VU(X:Cx)(E:XK):Prop where
 stack:X.stack=X.env::X.outer
 frame:X.env.frame=some X.env.locals
 ex:X.ex=[]
 calm:X.calm=true
 xe:∀ e s',aA (az X.prog X.w) X.A (leaving X.env e) (λ_ s''=>Z9 X.prog X.w X.outer X.H₀ X.s₀ E e s'') (λe' s''=>Z9 X.prog X.w X.outer X.H₀ X.s₀ E e' s'') s'->X.xe e s'
def U8{P:al}{w:ar}{K:zZ}{g:jb}{c:aC}{N:jr}{d:Str}{b:aD}{f:aj}{e:ai}{A:aw}{a:jA}{s:ak}{H:Hp}{E:XK}:
  VU (Wu (Z9 P w) P w K g c N d b f e A a s H E) E:=⟨rfl,rfl,rfl,rfl,λ_ _ h=>h⟩
section
variable{jU:js}{σ:St}{H H':Hp}{s':ak}{E:XK}
def VU.frs(F:VU X E):frs X.stack=X.env.locals::X.fs:=by
 rw[F.stack];show List.filterMap _ (X.env::X.outer)=_;rw[uL,F.frame];rfl
def VU.off(F:VU X E)(I:ZF X jU σ H s){b:aj}{o:aH}(q:X.s₀.heap.get? b=some o)(n:b∉L2.frs X.outer):b∉L2.frs X.stack:=λz=>by
 rw[F.frs] at z;rcases yZ.mp z with z | z
 ·rw[z,I.noloc] at q;cases q
 ·exact n z
def VU.on(F:VU X E){b:aj}(n:b∈L2.frs X.outer):b∈L2.frs X.stack:=by
 rw[F.frs];exact zD _ n
def Df{B h:aC}{g:aj}(F:VU X E)(J:ZF X jU σ H s)(r:B.StaysIn h)(d:∀ b o,b≠g->s.heap.get? b=some o->b∉L2.frs X.stack->B.get? b=some o)(p:s.heap.UpToSlots h)(i:X.s₀.heap.get? g=none):
  Un (L2.frs X.outer) [] X.H₀ H X.s₀.heap h:=by
 have c:=J.base;rw[F.ex] at c;have l:∀{b:aj}{o:aH},X.s₀.heap.get? b=some o->b≠g:=λq z=>by rw[z,i] at q;cases q
 have m:∀{b:aj}{o:aH},b∈L2.frs X.stack->s.heap.get? b=some o->∀ v,o.data≠.fields v:=λa q=>Kh J _ a _ q;refine⟨λb o q n a _=>r b o (d b o (l q) (c.keep b o q n a (by simp)) (F.off J q a)),λb o q n a _=>?_,c.free,λb o q _=>?_,c.tups,c.frzs,c.tbls⟩
 ·obtain⟨u,e⟩:=c.slot b o q n a (by simp)
  obtain⟨k,t⟩:=p b _ e (m (F.on a) e);exact⟨k,t⟩
 ·obtain⟨f,j⟩:=c.there b o q (by simp)
  by_cases a:b∈L2.frs X.stack
  ·obtain⟨u,e⟩:=p b f j (m a j);exact⟨_,e⟩
  ·exact⟨f,r b f (d b f (l q) j a)⟩
def ZF.untrack{a:aj}{g:aC->Prop}(I:ZF X jU σ (upd H a (.ext g)) s)(l:H a=none):ZF X jU σ H s:=by
 have v:∀{b:aj}{u:HO},H b=some u->b≠a:=fun{b u} e z=>by rw[z,l] at e;cases e
 have h:∀{b:aj},upd H a (.ext g) b=none->H b=none:=fun{b} e=>by
  by_cases z:b=a
  ·rw[z];exact l
  ·rw[ZM z] at e;exact e
 have d:∀{b:aj}{u:HO},upd H a (.ext g) b=some u->(∀ y,u≠.ext y)->H b=some u:=fun{b u} e k=>by
  by_cases z:b=a
  ·rw[z,ZK] at e;exact absurd (zH.inj e).symm (k g)
  ·rw[ZM z] at e;exact e
 refine⟨I.ok,I.os,I.bare,⟨I.base.keep,I.base.slot,λb j q n t=>h (I.base.free b j q n t),I.base.there,λb m q=>d (I.base.tups b m q) (λ_ z=>nomatch z),λb j u q=>d (I.base.frzs b j u q) (λ_ z=>nomatch z),λb w q=>?_⟩,I.loc,I.cell,h I.free,λx c e=>h (I.freeC x c e),λp i=>?_,λb u e=>?_,I.len⟩
 ·obtain⟨f,e⟩:=I.base.tbls b w q;exact⟨f,d e (λ_ z=>nomatch z)⟩
 ·obtain⟨e,n,r⟩:=I.pin p i;exact⟨e,h n,r⟩
 ·have o:upd H a (.ext g) b=some u:=by rw[ZM (v e)];exact e
  exact(I.hok b u o).stay (λ_ _ _ q=>q) (λc q=>d q (λ_ z=>nomatch z)) λc m q=>d q (λ_ z=>nomatch z)
def JV{c C:aj}{k:jv}(F:VU X E)(J:ZF X jU σ H s)(e:X.s₀.heap.get? c=none)(m:H c=none)(K:VC QD c C k s.heap)(D:E (.ref C) k H):X.xe (.ref c) s:=by
 obtain⟨O,P,y,r,t,u,N⟩:=K;have x:X.A.frames=some (X.env::X.outer):=by rw[J.ok.frames,F.stack]
 have w:s.heap.FunFrames (wA s.heap (c::L2.frs X.stack)) (X.env::X.outer):=by
  have:=PySem.W.funFrames_hide (as:=c::L2.frs X.stack) J.stack (λj I a G=>zD _ (xJ.mpr ⟨j,I,G⟩));rw[F.stack] at this⊢;exact this
 have d:∀ b o,b≠c->s.heap.get? b=some o->b∉L2.frs X.stack->(wA s.heap (c::L2.frs X.stack)).get? b=some o:=λb o n q f=>sY _ q (λz=>by
  rcases yZ.mp z with z | z
  ·exact n z
  ·exact f z)
 have YS:∀ b o,s.heap.get? b=some o->H b≠none->(wA s.heap (c::L2.frs X.stack)).get? b=some o:=λb o q n=>d b o (λz=>n (by rw[z];exact m)) q λz=>n (J.stkFree b z)
 have v:(wA s.heap (c::L2.frs X.stack)).get? c=none:=sT _ (by simp)
 refine F.xe _ _ (Ek x w F.frame y (λb o q=>tF _ q) v t N λB h M=>?_);rw[r,u] at h;refine⟨c,_,k,H,rfl,⟨⟨_,h,λb o q n=>?_,λb o q n f=>?_,λb o q f=>?_⟩,J.os,J.bare,Df F J h.1 d M e,J.hok.keptT λb o q n=>h.1 b o (YS b o q n),e,m⟩,D⟩
 ·obtain⟨g,i⟩:=J.hok.there n;have L:=h.1 b g (YS b g i n);have p:B.get? b=some o:=q;rw[L] at p;rw[<-zH.inj p];exact YS b g i n
 ·have l:=J.base;rw[F.ex] at l;exact d b o (λz=>by rw[z,e] at q;cases q) (l.keep b o q n f (by simp)) (F.off J q f)
 ·obtain⟨g,i⟩:=J.base.there b o q (by rw[F.ex];simp)
  exact⟨g,d b g (λz=>by rw[z,e] at q;cases q) i (F.off J q f)⟩
def PR{E1:XK}(F:VU X E)(N:∀ cls o H,E1 cls o H->E cls o H):Wx (Z9 X.prog X.w) X E1:=by
 intro jU σ H s e s' I h;obtain⟨t,cls,R,H',rfl,W,q⟩:=h;obtain⟨B,L,YS,x,m⟩:=W.ex;have M:X.A.frames=some (X.env::X.outer):=by rw[I.ok.frames,F.stack]
 refine F.xe _ _ (Aa M F.frame (by rw[<-F.stack];exact L) λv f U=>?_)
 have c:=I.base;rw[F.ex] at c;have Q:∀{b:aj}{o:aH},b∈L2.frs X.stack->s.heap.get? b=some o->∀ C,o.data≠.fields C:=λa q=>Kh I _ a _ q;have p:∀ b o,X.s₀.heap.get? b=some o->X.H₀ b=none->b∉L2.frs X.outer->B.get? b=some o:=λb o q n a=>x b o (c.keep b o q n a (by simp)) (c.free b o q n (by simp)) (F.off I q a)
 have i:∀ b o,s.heap.get? b=some o->b∈L2.frs X.stack->∃ r,v.get? b=some { o with slots:=r }:=λb o q a=>by
  obtain⟨r,j⟩:=W.un.slot b o q (I.stkFree b a) a (by simp)
  obtain⟨i,l⟩:=U b _ j (λC z=>Q a q C z);exact⟨i,l⟩
 have u:Un (L2.frs X.outer) [] X.H₀ H' X.s₀.heap v:=by
  refine⟨λb o q n a _=>f.1 b o (p b o q n a),λb o q n a _=>?_,λb o q n _=>?_,λb o q _=>?_,λb J q=>W.un.tups b J (c.tups b J q),λb o u q=>W.un.frzs b o u (c.frzs b o u q),λb S q=>?_⟩
  ·obtain⟨r,j⟩:=c.slot b o q n a (by simp)
   obtain⟨y,K⟩:=i b _ j (F.on a);exact⟨y,K⟩
  ·obtain⟨g,d⟩:=c.there b o q (by simp)
   exact W.un.free b g d (c.free b o q n (by simp)) (by simp)
  ·obtain⟨g,d⟩:=c.there b o q (by simp)
   by_cases a:b∈L2.frs X.stack
   ·obtain⟨r,j⟩:=i b g d a;exact⟨_,j⟩
   ·obtain⟨D,l⟩:=m b g d a;exact⟨D,f.1 b D l⟩
  ·obtain⟨O,j⟩:=c.tbls b S q;obtain⟨P,l⟩:=W.un.tbls b _ j;exact⟨O++P,by rw[l,vI]⟩
 refine⟨t,cls,R,H',rfl,⟨⟨B,f,λb o k n=>?_,p,λb o k a=>?_⟩,W.os.trans I.os,W.bare,u,W.hok.keptT λb o k n=>f.1 b o (YS b o k n),?_,W.free⟩,N _ _ _ q⟩
 ·obtain⟨g,d⟩:=W.hok.there n;have T:=f.1 b g (YS b g d n);have G:v.get? b=some o:=k;rw[T] at G;rw[<-zH.inj G];exact YS b g d n
 ·obtain⟨g,d⟩:=c.there b o k (by simp)
  exact m b g d (F.off I k a)
 ·cases z:X.s₀.heap.get? t with
  | none=>rfl
  | some o=>
   obtain⟨g,d⟩:=c.there t o z (by simp)
   rw[W.new] at d;cases d
inductive Up(C:aj)(f:Str)(E:XK)(c:je)(b:Hp):Prop
 |mk(y:_)(_:c=[y])(_:∀ a,b a=none->E (.ref C) (some a) (upd b a (.xd [(f,y)])))
def IB(C:aj)(f:Str)(E:XK)(t:TA):TS:=λ_ σ H=>t σ H λb a=>Up C f E b a
def ZIc{k:Nat}{C N:aj}{f x:Str}{Z:am}{R:jr}{e:Expr}{n:jy}{t:TA}{p g Q:aI}(F:VU X E)(c:Yd X.K C N f)(ht:yA X.K (.ref C)=some (.type "type"))(U:ZI X.prog X.w X.K X.mg X.base ZZ k N Z R (Oc X.K C N f))(hr:ZW (k+1) X.A)(hg:Gl X x)(hm:X.mg x=some (.ref C))(hb:Zx X.K Z R [])(ha:PA X (e::n) t)(O:(x==("__debug__" : Str))=false:=by decide)(he:aq (e::n) X.env=(false,aG e X.env)::aq n X.env:=by rfl)(P:(aE g (aq n X.env)).any (·.1)=false:=by rfl):
  PS X (.Raise (some (.Call (.Name x p) (e::n) [] g)) none Q) (IB C f E t):=by
 intro jU s σ H D I h;have hh:=I.ok.hd F.calm;rw[arm_exec_Raise];refine aa (ah ?_);refine FE hh c.exc.mB ht (aa (ae ?_ (λv s3 h3=>aa (ah (ad h3))) λ_ _ z=>z));refine ag (Qh I hg hm ?_ O);refine vV (h₀:=X.base) I.ok.mod.kin c.kp (Zt (ha g jU s σ H _ I h) λus d ⟨vs,l,m,r,y,ey,q⟩=>⟨m.kIn,?_⟩) he P;subst ey;obtain⟨u,rfl,S⟩:∃ u,us=[u]/\ZS y u:=by
  cases r with
  | cons S r0=>cases r0;exact⟨_,rfl,S⟩
 refine Bb m.kIn c (by show 1<=ap;rw[sizeLine_eq];lia) ?_
 have kk:∀ b o,d.heap.get? b=some o->(Qd d.heap C [u]).get? b=some o:=λb o q=>zS _ (zS _ q);have e1:(Qd d.heap C [u]).get? (d.heap.objs.size+1)=some { cls:=.ref C,data:=.fields #[.ref d.heap.objs.size,.none,.none,.none,.bool false,.none] }:=by heap_get
 have Y:d.heap.get? (d.heap.objs.size+1)=none:=vH (xA _);have h0:l (d.heap.objs.size+1)=none:=m.hok.fresh (xA _);have L:X.s₀.heap.get? (d.heap.objs.size+1)=none:=by
  cases z:X.s₀.heap.get? (d.heap.objs.size+1) with
  | none=>rfl
  | some o=>
   obtain⟨o',q'⟩:=m.base.there _ o z (by rw[F.ex];simp)
   rw[Y] at q';cases q'
 have J:=m.newx (C:=C) (ea:=d.heap.objs.size+1) (h':=Qd d.heap C [u]) kk Y ⟨_,_,e1,rfl,rfl,rfl,rfl⟩;generalize a0:d.heap.objs.size+1=a at *;have r2:ZO [V.ref a,y] [Value.ref a,u]:=.cons rfl (.cons S .nil);have G:Oc X.K C N f [V.ref a,y] (upd l a (XO QD a C none)) (λv H2=>v=.non/\∃ i,H2=upd (upd l i (.xd [(f,y)])) a (XO QD a C (some i))/\l i=none/\i≠a) E0:=by
  refine⟨c,_,y,rfl,ZK,λi hd B=>⟨rfl,i,?_,?_,B⟩⟩
  ·funext b
   by_cases z:b=a
   ·rw[z,ZK,ZK]
   ·rw[ZM z,ZM z];by_cases T:b=i
    ·rw[T,ZK,ZK]
    ·rw[ZM T,ZM T,ZM z]
  ·rw[ZM B] at hd;exact hd
 have hl:([Value.ref a,u]++([]:jd)).length=R.length:=by
  have e:=r2.length;rw[U.len _ _ _ _ G] at e;exact e.symm
 refine wpAny_call (codeAny_mono (U.run _ X.stack _ _ ⟨[Value.ref a,u],[]⟩ _ _ _ E0 (hr.make C [u] []) (J.env0.make C [u] []) (hb _ [Value.ref a,u] J.kIn hl) r2 G) λr s' j=>?_)
 cases r with
 | error e=>exact(Yu jU σ _ _ e s' J j)
 | ok fl=>
  cases fl with
  | ret u2=>
   obtain⟨v,H',M,rv,ev,i,eH,nd,ne⟩:=J.after j;subst ev eH;exists rv,a,some i,rfl,M.kIn,(M.hok a _ ZK).1;have hn:upd l i (.xd [(f,y)]) a=none:=by rw[ZM (Ne.symm ne)];exact h0
   exact JV F (M.untrack hn) L hn (M.hok a _ ZK).1 (q i nd)
  | next=>exact False.elim j
  | brk=>exact False.elim j
  | cont=>exact False.elim j
end
def JT(K:zZ)(e:aj)(i:Nat)(g:TS)(D:Yt)(h:St):XK:=λcls f d=>∃ C,cls=.ref C/\yV K C (.ref e)=some true/\∀ c,d c=none ->
 g { nx:=λa b=>D.nx (a.set i none) b,rt:=D.rt,bk:=λa b=>D.bk (a.set i none) b,ct:=λa b=>D.ct (a.set i none) b } (h.set i (some (.ref c))) (upd d c (XO Qu c C f))
def Nf{X:Cx}{d:js}{p:St}{H i:Hp}{s g:ak}{t:aj}{u:jv}{B f:aC}{cls:ai}(I:ZF X d p H s)(W:QF X.prog X.w X.stack H s t cls u i g)(YS:∀ b o,g.heap.get? b=some o->i b≠none->B.get? b=some o)(k:∀ b o,s.heap.get? b=some o->H b=none->b∉frs X.stack->B.get? b=some o)(j:∀ b o,s.heap.get? b=some o->b∉frs X.stack->∃ h,B.get? b=some h)(m:B.StaysIn f)(v:g.heap.UpToSlots f):
  ZF X d p i { g with heap:=f }:=by
 have c:∀ b o,s.heap.get? b=some o->b∈frs X.stack->∃ l,f.get? b=some { o with slots:=l }:=λb o q a=>by
  obtain⟨l,e⟩:=W.un.slot b o q (I.stkFree b a) a (by simp)
  obtain⟨c,r⟩:=v b _ e (λx z=>Kh I b a o q x z);exact⟨c,r⟩
 refine I.call' (s':={ g with heap:=f }) W.os ⟨λb o q n a _=>m b o (k b o q n a),λb o q n a _=>c b o q a,W.un.free,λb o q _=>?_,W.un.tups,W.un.frzs,W.un.tbls⟩ (W.hok.keptT λb o q n=>m b o (YS b o q n)) W.bare (λb a=>absurd a (by simp))
 by_cases a:b∈frs X.stack
 ·obtain⟨l,e⟩:=c b o q a;exact⟨_,e⟩
 ·obtain⟨h,e⟩:=j b o q a;exact⟨h,m b h e⟩
def Zj.okD{x b:Str}{g:aB}{f:aj}{n:am}{N l:jr}{k:Nat}{m:Sp}(F:Zj K x b g f n)(S:ZA N l (Zc g))(j:∀ e H Q E,m e H Q E->e.length=l.length)(d:∀ (c:ai) (A:aw) (a:jA) (s:ak) (H:Hp) (e:je) (Q:VK) (E:XK),ZW k (A.deeper (envOfC b (Zc g) s.heap.objs.size f c))->m e H Q E ->
   let X:=(Wu (Z9 P w) P w K mg jV N b (Zc g) f c A a s H E);∃ t,WC X (XM g) t/\t { nx:=λ_ o=>Q .non o,rt:=Q } (start N e) H):ZI P w K mg jV (Z9 P w) (k+1) f n l m:=by
 obtain⟨y,z,kV,p,B,v,c,ct,u,rfl,r,h⟩:=F.ex;exact Mf r h S j λA a s H e Q E q i=>d c A a s H e Q E q i
def Zj.kD{x a:Str}{g:aB}{f:aj}{m:am}{N j:jr}{k:Nat}{l:Sp}(F:Zj K x a g f m)(S:ZA N j (Zc g))(b:∀ (e:ai) (A:aw) (c:jA) (s:ak) (H:Hp) (d:je) (Q:VK) (E:XK),ZW k (A.deeper (envOfC a (Zc g) s.heap.objs.size f e))->l d H Q E ->
   let X:=(Wu (Z9 P w) P w K mg jV N a (Zc g) f e A c s H E);∃ t,WC X (XM g) t/\t { nx:=λ_ n=>Q .non n,rt:=Q } (start N d) H)(i:∀ d H Q E,l d H Q E->d.length=j.length:=by intro d _ _ _ h;cases h;subst d;rfl):ZI P w K mg jV (Z9 P w) (k+1) f m j l:=F.okD S i b
def MA(P:al)(w:ar)(K:zZ)(mg:jb)(jV:aC)(N:jr)(qual:Str)(scope:aD)(f:aj)(cd:ai)(cl:jC)(A:aw)(outer:jA)(s:ak)(H:Hp)(E:XK):Cx where
 prog:=P
 w:=w
 K:=K
 mg:=mg
 base:=jV
 A:=A.deeper (vR qual scope s.heap.objs.size f cd cl)
 N:=N
 s₀:=s
 H₀:=H
 env:=vR qual scope s.heap.objs.size f cd cl
 outer:=outer
 stack:=vR qual scope s.heap.objs.size f cd cl::outer
 ex:=[]
 calm:=true
 fn:=λ_=>false
 pn:=[]
 xe:=λe s'=>aA (az P w) (A.deeper (vR qual scope s.heap.objs.size f cd cl)) (leaving (vR qual scope s.heap.objs.size f cd cl) e) (λ_ s''=>Z9 P w outer H s E e s'') (λe' s''=>Z9 P w outer H s E e' s'') s'
def Ga{N:jr}{qual:Str}{scope:aD}{f:aj}{cd:ai}{cl:jC}{A:aw}{outer:jA}{s:ak}{H:Hp}{E:XK}:VU (MA P w K mg jV N qual scope f cd cl A outer s H E) E:=⟨rfl,rfl,rfl,rfl,λ_ _ h=>h⟩
def HH{d:jA}{i:ju}{H:Hp}{s v:ak}{E:XK}{e:ai}(C:WJ P w K mg jV A d s H)(t:∀ c∈i,∃ o,H c=some (Yj c o))(h:Z9 P w d (unT i H) s (λc o y=>(∀ F∈i,y F=none)->E c o (reT i H y)) e v):Z9 P w d H s E e v:=by
 obtain⟨D,cls,L,x,rfl,W,q⟩:=h;obtain⟨B,G,YS,m,u⟩:=W.ex;have p:∀ c∈i,c∉frs d:=λc a z=>by
  obtain⟨o,e⟩:=t c a;rw[C.frf c z] at e;cases e
 have f:∀ c∈i,∃ o,H c=some (Yj c o)/\s.heap.get? c=some o/\v.heap.get? c=some o:=λc a=>by
  obtain⟨o,e⟩:=t c a;have g:=C.hok.obj e;exact⟨o,e,g,W.un.keep c o g (Ud a) (p c a) (by simp)⟩
 have J:∀ c∈i,x c=none:=λc a=>by
  obtain⟨o,l,j,k⟩:=f c a;exact W.un.free c o j (Ud a) (by simp)
 refine⟨D,cls,L,reT i H x,rfl,⟨⟨B,G,λb o r n=>?_,λb o r n I=>m b o r (Pr n) I,u⟩,W.os,W.bare,HB W.un t,W.hok.reT (λc a=>?_) (λc a=>?_),W.new,?_⟩,q J⟩
 ·by_cases z:b∈i
  ·obtain⟨M,l,j,k⟩:=f b z;rw[r] at k;cases k;exact m b o j (Ud z) (p b z)
  ·rw[Vn z] at n;exact YS b o r n
 ·obtain⟨o,l,j,k⟩:=f c a;exact W.un.free c o j (Ud a) (by simp)
 ·obtain⟨o,l,j,k⟩:=f c a;exact⟨o,l,k⟩
 ·rw[Vn λz=>?_];exact W.free;obtain⟨o,l,j,k⟩:=f D z;rw[W.new] at j;cases j
def IW{k:Nat}{f c':aj}{co:aH}{qual:Str}{params:Arguments}{body:Expr}{scope:aD}{cl:jC}{pm ctv:ai}{N:jr}{spB:Sp}(hinj:∀ x y c,cl.lookup x=some c->cl.lookup y=some c->x=y)(hhas:∀ x,(scope.names.lookup x=some .cell\/scope.names.lookup x=some .free)->∃ c,cl.lookup x=some c)(hin:∀ x c,cl.lookup x=some c->c∈cl.map (·.2))(hvis:∀ x∈N,scope.names.lookup x=some .free)(jk:scope.kind=.function)(hco:scope.isCoroutine=false)(hgen:scope.isGenerator=false)(hnc:∀ x∈scope.names,x.2≠.cell)(hcd:Xr co qual)(hbody:∀ (A:aw) (outer:jA) (s:ak) (H:Hp) (ws:je) (Q:VK) (E:XK),ZW k (A.deeper (vR qual scope s.heap.objs.size f (.ref c') cl))->spB ws H Q E ->
   ∃ t,PE (MA P w K mg jV N qual scope f (.ref c') cl A outer s H E) body t/\t (ws.map some) H Q):
  ZI P w K mg jV (Z9 P w) (k+1) f (sL "<lambda>" qual params body scope cl pm (.ref c') ctv) []
   (JD f c' (wV "<lambda>" qual params body scope cl pm c' ctv) co cl N spB):=by
 exists λvs H Q E h=>by rw[h.1];rfl
 intro A outer s H args us vs Q E hr e0 hb r hsp;obtain⟨rfl,hf,hc,ws,hcl,hB⟩:=hsp;cases ZO.zero r;have KX:K.In s.heap:=e0.mod.kin.keeps λb o e=>(e0.bs b o e).1;have lim:s.heap.NoLimit:=e0.mod.nolimit.keeps λb o e=>(e0.bs b o e).1;have hcs:∀ c∈cl.map (·.2),∃ o,H c=some (Yj c o):=λc hc=>by
  obtain⟨o,v,e,_⟩:=hcl.all c hc;exact⟨o,e⟩
 have hrec:s.heap.CodeRec (.ref c') qual:=by
  obtain⟨vs',t,d,v1⟩:=hcd;exact⟨c',co,vs',t,rfl,e0.hok.obj hc,d,v1⟩
 refine PySem.W.kla_callFunE hr.depth (e0.hok.obj hf) rfl hco hgen rfl hrec (hb _ _ _ _ ?_);refine wpAny_newFunctionEnv hnc (λx hx=>absurd hx (by simp)) (λh₁ hns hsb=>⟨lim.fresh _ hsb,?_⟩) jk
 have hk₁:∀ b o,s.heap.get? b=some o->h₁.get? b=some o:=λb o e=>hsb.extBut b o (zO (zW e)) (zS _ e);obtain⟨t,ht,hq⟩:=hbody A outer s (unT (cl.map (·.2)) H) ws _ _ (hr.deeper _) hB;have noA:∀ b:aj,b∉(MA P w K mg jV N qual scope f (.ref c') cl A outer s (unT (cl.map (·.2)) H) (λc o H2=>(∀ c∈cl.map (·.2),H2 c=none)->E c o (reT (cl.map (·.2)) H H2))).ex:=λb z=>absurd (show b∈([]:ju) from z) (by simp)
 have I:ZF (MA P w K mg jV N qual scope f (.ref c') cl A outer s (unT (cl.map (·.2)) H) (λc o H2=>(∀ c∈cl.map (·.2),H2 c=none)->E c o (reT (cl.map (·.2)) H H2))) [] (ws.map some) (unT (cl.map (·.2)) H) { s with heap:=h₁,toks:=s.toks+0 }:=by
  refine⟨⟨e0.mod,jk,rfl,rfl,zY _,hinj,hhas,λ_ _ z=>absurd z zV,λ_=>hr.hd,Around.frames_deeper e0.frames,.inr ⟨rfl,rfl⟩,λb z=>absurd z (noA b),λb o e=>⟨(e0.bs b o e).1,Pr (e0.bs b o e).2⟩,e0.bsz,λb _ _=>noA b,λb z=>absurd z (noA b),e0.funs,λb hb=>Pr (e0.frf b hb)⟩,
   rfl,e0.bare,Un.kept hk₁,⟨_,hns,λi x v h1 h2 h3=>?_⟩,λx c e=>?_,Pr (e0.hok.fresh (zY _)),λx c e=>Ud (hin x c e),λp hp=>absurd (show p∈([]:js) from hp) (by simp),(e0.hok.unT hcs).kept hk₁,?_⟩
  ·have h2':ws[i]? = some v:=by
    rw[zJ] at h2
    cases e:ws[i]? with
    | none=>rw[e] at h2;cases h2
    | some a=>rw[e] at h2;cases h2;rfl
   obtain⟨c,o,u,e1,e2,e3,e4,rv⟩:=hcl.val i x v h1 h2';exact⟨u,rv,.inr ⟨.inr (hvis x (zA h1)),c,e1,o,hk₁ _ _ (e0.hok.obj e3),e4⟩⟩
  ·obtain⟨o,v,e3,e4⟩:=hcl.all c (hin x c e);exact⟨v,o,hk₁ _ _ (e0.hok.obj e3),e4⟩
  ·show (ws.map some).length=N.length;rw[zX];exact hcl.len
 refine PySem.W.kla_codeExpr (ae (ht [] _ _ _ _ I hq) (λu s' hs=>?_) λe s' hs=>?_)
 ·obtain⟨v,H2,J,rv,q⟩:=hs;have u2:Un (frs outer) [] (unT (cl.map (·.2)) H) H2 s.heap s'.heap:=J.base;have nfr:∀ c∈cl.map (·.2),c∉frs outer:=λc hc' z=>by
   obtain⟨o,e⟩:=hcs c hc';rw[e0.frf c z] at e;cases e
  have n2:∀ c∈cl.map (·.2),H2 c=none:=λc hc'=>by
   obtain⟨o,e⟩:=hcs c hc';exact u2.free c o (e0.hok.obj e) (Ud hc') (by simp)
  exact⟨v,_,J.os,J.bare,HB u2 hcs,J.hok.reT n2 (λc hc'=>by
   obtain⟨o,e⟩:=hcs c hc';exact⟨o,e,u2.keep c o (e0.hok.obj e) (Ud hc') (nfr c hc') (by simp)⟩),rv,q n2⟩
 ·exact ae hs (λ_ s'' z=>HH e0 hcs z) λe' s'' z=>HH e0 hcs z
def ZN1(K:zZ)(b:aj)(e:Sp)(q:Nat)(f:aj)(j i:Nat)(g:TS):TS:=λD a H=>a[q]? = some (some (.ref f))/\(∃ d:am,H f=some (Yj f { cls:=.type "function",data:=.func d }))/\e [] H (λv c=>D.nx (a.set j (some v)) c) (JT K b i g D a)
def B5{X:Cx}{k:Nat}{f CB:aj}{fd:am}{sp:Sp}{x y n:Str}{p P Q py ph c8:aI}{j i q:Nat}{n0:Str}{p0:aI}{l:aB}{b:jJ}{ts:TS}(F:ZI X.prog X.w X.K X.mg X.base (Z9 X.prog X.w) k f fd [] sp)(hr:ZW k X.A)(hb:∀ s,BindsTo s fd ⟨[],[]⟩ [])(Y:X.N[q]? = some x)(hv:Nw X.env.scope x)(a2:X.stack=X.env::X.outer)(c2:X.env.frame=some X.env.locals)(c1:X.ex=[])(hy:Gl X y)(c6:X.mg y=some (.ref CB))(hN:X.N.Nodup)(hi:X.N[i]? = some n)(hn:X.env.scope.names.lookup n=some .local)(ht:yA X.K (.ref CB)=some (.type "type"))(hB:yV X.K CB (.type "BaseException")=some true)(hs:∀ d E',WC (X.held d E') (l::b) ts)(hj:X.N[j]? = some n0)(a1:X.env.scope.names.lookup n0=some .local)(a9:(x==("__debug__" : Str))=false:=by decide)(a8:(x==("__classdict__" : Str))=false:=by decide)(c0:(y==("__debug__" : Str))=false:=by decide)(c5:swapsWith (.Call (.Name x p) [] [] P) (some (.Name n0 p0)) Q.line X.env=pure false:=by rfl):
  PS X (.Try [.Assign [.Name n0 p0] (.Call (.Name x p) [] [] P) Q] [.ExceptHandler (some (.Name y py)) (some n) (l::b) ph] [] [] c8) (ZN1 X.K CB sp q f j i ts):=by
 intro a s σ H D I h;refine wpAny_Try_except ?_;have c3:X.A.frames=some (X.env::X.outer):=by rw[I.ok.frames,a2]
 have Z:∀(M:Hp)(s1:ak)(E:ai)(t:ak),ZF X a σ M s1->Z9 X.prog X.w X.stack M s1 (JT X.K CB i ts D σ) E t ->
   aA (az X.prog X.w) X.A (noteFrame E X.env) (λ_ G=>aA (az X.prog X.w) X.A (setFlight E none) (λ_ L=>aA (az X.prog X.w) X.A (handleBy E X.env [.ExceptHandler (some (.Name y py)) (some n) (l::b) ph]) (SP X a D) X.xe L) X.xe G) X.xe t:=by
  intro M s1 E t g hx;obtain⟨d,cls,od,H',rfl,W,C,rfl,mC,q⟩:=hx;obtain⟨B,fl,YS,a4,a3⟩:=W.ex;have a7:X7 B (X.env::X.outer) d (.ref C) od .none t.heap:=by rw[<-a2];exact fl
  refine MV c3 c2 a7 λh4 V a5=>?_;refine Q5 (s:={ t with heap:=h4 }) V λh5 U a6=>?_;have J5:ZF X a σ H' { t with heap:=h5 }:=Nf g W YS a4 a3 U.1 (a5.trans a6);refine wpAny_handleBy_cons (codeAny_handlers_test ?_) (by intro q;cases q)
  refine Qh (J5.held d (λ_ _=>False)) hy c6 ?_ c0;refine Iu (s:={ t with heap:=h5 }) J5.kIn U.at.is ht hB mC ?_;refine codeAny_handlers_suite_as ?_;refine Q5 (s:={ t with heap:=h5 }) U λh6 fl6 e0=>?_;have J6:ZF X a σ H' { t with heap:=h6 }:=Nf g W YS a4 a3 fl6.1 ((a5.trans a6).trans e0);have n0:X.s₀.heap.get? d=none:=by
   cases z:X.s₀.heap.get? d with
   | none=>rfl
   | some o=>
    obtain⟨o',q'⟩:=g.base.there d o z (by rw[c1];simp)
    rw[W.new] at q';cases q'
  have n1:d≠X.env.locals:=λz=>by
   obtain⟨m,⟨o,_,_,O,_⟩,_⟩:=g.loc;rw[<-z,W.new] at O;cases O
  have n2:∀ x c,X.env.cells.lookup x=some c->c≠d:=λx c e z=>by
   obtain⟨v,o,O,_⟩:=g.cell x c e;rw[z,W.new] at O;cases O
  have n3:∀ p∈X.pn++a,p.1≠d:=λp hp z=>by
   have O:=(g.pin p hp).1;rw[z,W.new] at O;cases O
  have K6:ZF X a σ (upd H' d (XO Qu d C od)) { t with heap:=h6 }:=J6.track n0 n1 n2 n3 W.free (La fl6.at);refine Nr K6 hN hi (.inl hn) (v:=.ref d) rfl (λs7 I7=>?_) (.inr hn);refine ae (hs d _ a s7 _ _ _ (I7.held d _) (q d W.free)) (λfl s8 h8=>?_) λ_ _ z=>z
  cases fl with
  | next=>
   obtain⟨a0,R,T,q8⟩:=h8;exact(T.unheld g.ok).goes hN hi hn λs9 S=>⟨_,R,S,q8⟩
  | brk=>
   obtain⟨a0,R,T,q8⟩:=h8;exact(T.unheld g.ok).goes hN hi hn λs9 S=>⟨_,R,S,q8⟩
  | cont=>
   obtain⟨a0,R,T,q8⟩:=h8;exact(T.unheld g.ok).goes hN hi hn λs9 S=>⟨_,R,S,q8⟩
  | ret u=>
   obtain⟨v8,a0,R,T,r8,q8⟩:=h8;exact(T.unheld g.ok).goes hN hi hn λs9 S=>⟨v8,_,R,S,r8,q8⟩
 obtain⟨c7,⟨e1,hf⟩,c4⟩:=h;refine wpAny_execs_cons (wpAny_Assign_Name ?_ c5);have I':=I.wish (λE t=>aA (az X.prog X.w) X.A (noteFrame E X.env) (λ_ G=>aA (az X.prog X.w) X.A (setFlight E none) (λ_ L=>aA (az X.prog X.w) X.A (handleBy E X.env [.ExceptHandler (some (.Name y py)) (some n) (l::b) ph]) (SP X a D) X.xe L) X.xe G) X.xe t);have c9:∀ E',PE (X.wish E') (.Name x p) (Uu q):=λE'=>Jw (X:=X.wish E') Y hv a9 a8;refine ag (Zt (c9 _ a s σ H (λv M=>v=.ref f/\M=H) I' ⟨_,c7,rfl,rfl⟩) ?_);rintro u s1 ⟨v,M,g,r,E,eH⟩;subst E;subst eH;cases r;have gf:=g.hok.obj hf;refine PySem.W.callWith_F0 ⟨_,_,_,_,gf⟩ ?_;refine wpAny_call (codeAny_mono (F.run X.A X.stack s1 M ⟨[],[]⟩ [] [] _ _ hr g.unwish.env0 (hb s1) .nil c4) λrr t Y=>?_)
 cases rr with
 | error E=>exact Z M s1 E t g.unwish Y
 | ok fl=>
  cases fl with
  | ret u=>
   obtain⟨v,H2,J,rv,q2⟩:=g.unwish.after Y;exact Nr J hN hj (.inl a1) rv (λs2 I2=>wpAny_execs_nil (wpAny_execs_nil ⟨_,H2,I2,q2⟩)) (.inr a1)
  | next=>exact False.elim Y
  | brk=>exact False.elim Y
  | cont=>exact False.elim Y
def ZHQ{e:ai}{env env':Env}(h:env.frame=env'.frame):noteFrame e env=noteFrame e env':=by
 unfold noteFrame PySem.frameOf;rw[h]
section
variable{M:Model}
end
def Gn{a h f:aC}:∀{l:jA},h.FunFrames a l->(∀ b∈frs l,f.get? b=h.get? b)->f.FunFrames a l
 | [],_,_=>trivial
 | c::l,⟨hk,⟨L,o,hf,hn,ho,hd⟩,hr⟩,k=>⟨hk,⟨L,o,hf,hn,(k L (xJ.mpr ⟨c,zF,hf⟩)).trans ho,hd⟩,Gn hr λb d=>k b (by
   obtain⟨e,g,d⟩:=xJ.mp d;exact xJ.mpr ⟨e,zD _ g,d⟩)⟩
section
variable{jU:js}{σ:St}{H:Hp}{E E1:XK}
end
section
variable{M:Model}{B:aC}{env:Env}{outer l:jA}{L e:aj}{cls:ai}{od:jv}{Q:Unit->ak->Prop}
def Cs{G:ai}{i:jv}(x:X7 B l e cls od G s.heap)(h:∀ k,X7 B l e cls od (i.elim .none λf=>rawInt f) k->s.heap.UpToSlots k->Q () { s with heap:=k }):aA M A (setFlight (.ref e) i) Q E s:=by
 obtain⟨I,D,F,H,K,T,O,v,⟨t,y,C,r,w⟩,m,p,j,g,J⟩:=x;have u:3<v.size:=(wI.mp J).1;have a:∀ b,b≠T->(s.heap.update T (Obj.mapFields (·.setIfInBounds 3 (i.elim Value.none λf=>rawInt f)))).get? b=s.heap.get? b:=λb n=>yB _ _ n.symm;have c:∀ b o,s.heap.get? b=some o->(∀ N,o.data≠.fields N)->b≠T:=λb o q d z=>by
  rw[z,j] at q;cases q;exact d v g
 unfold setFlight;refine aa (wpAny_field t r w ?_);rw[aO (show (Value.ref T != Value.none)=true by simp)]
 refine wpAny_setField j g u (h _ ⟨λb o q=>(a b λz=>by rw[z,m] at q;cases q).trans (I b o q),D,F.of_keeps λb o q d=>⟨o,(a b (c b o q d)).trans q,rfl⟩,?_⟩ λb o q d=>⟨o.slots,(a b (c b o q d)).trans q⟩)
 exact⟨H,K,T,_,_,⟨(a e p.symm).trans t,y,C,r,w⟩,m,p,wT _ j (Obj.isFreed_of_fields (Obj.data_mapFields g _)),Obj.data_mapFields g _,by simp[u]⟩
def ZEC{u:ai}(R:A.frames=some (env::outer))(r:env.frame=some L)(x:X7 B (env::outer) e cls od u s.heap)(h:∀ d,X7 B outer e cls od .none d->s.heap.UpToSlots d->Q () { s with heap:=d }):aA M A (leaving env (.ref e)) Q E s:=by
 by_cases J:u=rawInt L
 ·subst J;have x0:=x;obtain⟨K,H,I,W,Z,T,V,w,⟨k,F,G,j,p⟩,C,D,i,g,m⟩:=x;unfold leaving noteFrame;simp only[r];refine aa (aa (wpAny_field k j p ?_));rw[aO (show (Value.ref T != Value.none)=true by simp)]
  refine aa (wpAny_field i g m ?_);rw[aO (by simp)]
  exact ad (Q5 x0 λd t y=>h d t.less y)
 ·obtain⟨K,H,I,W,Z,T,V,w,⟨k,F,G,j,p⟩,C,D,i,g,m⟩:=x;subst F G;have U:3<w.size:=(wI.mp m).1;have a:∀ b,b≠T->(s.heap.update T (Obj.mapFields (·.setIfInBounds 3 Value.none))).get? b=s.heap.get? b:=λb n=>yB _ _ n.symm;have c:∀ b o,s.heap.get? b=some o->(∀ ws,o.data≠.fields ws)->b≠T:=λb o q f z=>by
   rw[z,i] at q;cases q;exact f w g
  unfold leaving noteFrame;simp only[r];refine aa (aa (wpAny_field k j p ?_));rw[aO (show (Value.ref T != Value.none)=true by simp)]
  refine aa (wpAny_field i g m ?_);rw[aM (show ¬ ((u==rawInt L)=true) from λz=>J (eq_of_beq z))];refine aa (wpAny_setField i g U ?_);refine LL (s:={ s with heap:=_ }) R (I.of_keeps λb o q f=>⟨o,(a b (c b o q f)).trans q,rfl⟩) r ((a e D.symm).trans k) (λb o q=>(a b λz=>by rw[z,C] at q;cases q).trans (K b o q)) H j (wI.mp p).1 λd P Y=>?_
  refine Q5 (s:={ s with heap:=d }) P λS t y=>h S t.less λb o q f=>?_;obtain⟨X,N⟩:=Y b o ((a b (c b o q f)).trans q) f;obtain⟨v,O⟩:=y b { o with slots:=X } N f;exact⟨v,O⟩
end
section
variable{jU:js}{σ:St}{H:Hp}{E E1:XK}
def FJ{N:jr}{f:aD}{cl:jC}{fp:ju}{U:ai}{Q:ja}{R:Option (ai->Sem Unit)}{C:aj}(F:VU X E)(hE:∀ cls o H,E1 cls o H->E cls o H)(I:ZF X jU σ H s)(hf:∀ b∈fp,Wf X jU H b)(hC:s.heap.objs.size<=C):
  Wx (Z9 X.prog X.w) (YX X N f cl C s H fp (notedBy (az X.prog X.w) X.A (compEnvC f cl C X.env) (λe L=>compPost (az X.prog X.w) X.A X.xe R Q U C (.error e) L))) E1:=by
 intro pc l1 Hc sc e L Ic h;obtain⟨v,cls,od,H',rfl,W,q⟩:=h;obtain⟨B,fl,YS,e9,e8⟩:=W.ex;have e0:(YX X N f cl C s H fp (notedBy (az X.prog X.w) X.A (compEnvC f cl C X.env) (λe L=>compPost (az X.prog X.w) X.A X.xe R Q U C (.error e) L))).stack=X.env::X.outer:=F.stack;have fl:X7 B (X.env::X.outer) v cls od .none L.heap:=e0 ▸ fl;have a8:X.A.frames=some (X.env::X.outer):=by rw[I.ok.frames,F.stack]
 show aA (az X.prog X.w) X.A (noteFrame (.ref v) (compEnvC f cl C X.env)) _ _ L;rw[ZHQ (env:=compEnvC f cl C X.env) (env':=X.env) rfl];refine MV a8 F.frame fl λh4 Z c3=>?_;obtain⟨m,hn,_⟩:=Ic.loc;have hn:sc.heap.Ns C m:=hn;have J:Hc C=none:=Ic.free;have c2:C∉frs X.stack:=λz=>by
  obtain⟨_,D,g,_⟩:=I.stack.mem z;exact absurd (zW g) (wE.mpr hC)
 have a9:h4.Ns C m:=by
  obtain⟨o,es,ep,S,r⟩:=hn;exact c3.ns ⟨o,es,ep,W.un.keep C o S J c2 (by simp),r⟩
 show compPost (az X.prog X.w) X.A X.xe R Q U C (.error (.ref v)) { L with heap:=h4 }
 suffices hh:∃ m,h4.Ns C m/\∀ h',wH C h4 h'->∀ G:Env,G.locals=C->aA (az X.prog X.w) X.A (PySem.passOn "comprehension.variables-let-go" (.ref v) G:Sem ai) (λ_ _=>False) X.xe { L with heap:=h' } by
  cases R with
  | none=>exact hh
  | some u=>exact hh
 exists m,a9;intro h5 sb G _;obtain⟨k1,k2,k3,k4⟩:=Z
 let B':=wA B [C]
 have hB:∀ b o,B'.get? b=some o->B.get? b=some o/\b≠C:=λb o e=>by
  exists tF _ e;intro z;have:B'.get? C=none:=sT _ (by simp)
  rw[z,this] at e;cases e
 have O:∀ b o,B.get? b=some o->b≠C->B'.get? b=some o:=λb o e n=>sY _ e (by simpa using n)
 have i5:B'.StaysIn h5:=λb o e=>by
  obtain⟨j,n⟩:=hB b o e;exact(sb.2 b n).trans (k1 b o j)
 have c4:B'.get? v=none:=by
  cases z:B'.get? v with
  | none=>rfl
  | some o=>rw[(hB _ _ z).1] at k2;cases k2
 have i0:∀ b,B.get? b=none->B'.get? b=none:=λb z=>by
  cases y:B'.get? b with
  | none=>rfl
  | some o=>rw[(hB _ _ y).1] at z;cases z
 have M:∀ b o,h4.get? b=some o->b≠C->h5.get? b=some o:=λb o e n=>(sb.2 b n).trans e;have i6:B'.StaysIn B:=λb o e=>(hB b o e).1;have nC:∀ b∈frs (X.env::X.outer),b≠C:=λb i z=>c2 (by rw[F.stack];rw[<-z];exact i)
 have c5:h5.FunFrames B' (X.env::X.outer):=Gn (PySem.W.funFrames_base i6 k3) λb i=>sb.2 b (nC b i);have a3:v≠C:=λz=>by
  obtain⟨o,es,ep,S,_⟩:=hn;rw[<-z,W.new] at S;cases S
 obtain⟨oe,vs,T,oT,ts,⟨he,a7,c7,hd,h1⟩,c9,c6,hT,Y,h3⟩:=k4;have TC:T≠C:=λz=>by
  obtain⟨o,es,ep,S,c8,_⟩:=a9;rw[z,S] at hT;cases hT;rw[c8] at Y;cases Y
 have a5:X7 B' (X.env::X.outer) v cls od (rawInt X.env.locals) h5:=⟨i5,c4,c5,oe,vs,T,oT,ts,⟨M _ _ he a3,a7,c7,hd,h1⟩,i0 T c9,c6,M _ _ hT TC,Y,h3⟩;unfold PySem.passOn;refine aa (wpAny_field (M _ _ he a3) hd h1 ?_);rw[aM (show ¬ ((Value.ref T==Value.none)=true) from by simp)]
 refine aa (Cs (s:={ L with heap:=h5 }) a5 λh6 a6 k4=>?_);refine wpAny_throw (F.xe _ _ ?_);refine ZEC (s:={ L with heap:=h6 }) a8 F.frame a6 λh7 a4 i3=>?_;have a:=I.base;rw[F.ex] at a;have c:Un (frs X.stack) fp H Hc s.heap sc.heap:=Ic.base;have x:∀{b o},X.s₀.heap.get? b=some o->b∉fp:=fun{b o} e z=>by
  obtain⟨_,_,_,z3,_⟩:=hf b z;rw[F.ex] at z3;rcases z3 with z3 | z3
  ·simp at z3
  ·exact absurd (zW e) (wE.mpr z3)
 have K:∀{b o},X.s₀.heap.get? b=some o->b≠C:=fun{b o} e z=>by
  exact absurd (zW e) (wE.mpr (by rw[z];exact zI I.sz hC))
 have i4:∀ b o,L.heap.get? b=some o->(∀ vs,o.data≠.fields vs)->b≠C->∃ sl,h7.get? b=some { o with slots:=sl }:=λb o e a0 n=>by
  obtain⟨sl,e4⟩:=c3 b o e a0;have e5:=M b _ e4 n;obtain⟨l0,e6⟩:=k4 b _ e5 a0;obtain⟨i2,e7⟩:=i3 b _ e6 a0;exact⟨i2,e7⟩
 have l:∀ b o,X.s₀.heap.get? b=some o->X.H₀ b=none->b∉frs X.outer->B.get? b=some o/\H' b=none:=λb o e n i=>by
  have nb:=F.off I e i;have j:=a.keep b o e n i (by simp)
  have n1:=a.free b o e n (by simp)
  have k:=c.keep b o j n1 nb (x e);have n2:=c.free b o j n1 (x e);exact⟨e9 b o k n2 nb,W.un.free b o k n2 (by simp)⟩
 have t:∀ b o,X.s₀.heap.get? b=some o->b∉frs X.outer->∃ D,B.get? b=some D:=λb o e i=>by
  have nb:=F.off I e i;obtain⟨o1,j⟩:=a.there b o e (by simp)
  obtain⟨o2,k⟩:=c.there b o1 j (x e);exact e8 b o2 k nb
 have P:∀ b o,B.get? b=some o->b≠C->h7.get? b=some o:=λb o e n=>a4.1 b o (O b o e n);have p:∀ b o,X.s₀.heap.get? b=some o->X.H₀ b=none->b∈frs X.outer->(∃ sl,h7.get? b=some { o with slots:=sl })/\H' b=none:=λb o e n i=>by
  obtain⟨i1,j⟩:=a.slot b o e n i (by simp)
  have n1:=a.free b o e n (by simp)
  have V:b∈frs X.stack:=by rw[F.frs];exact zD _ i
  obtain⟨i8,k⟩:=c.slot b _ j n1 V (x e);have n2:=c.free b _ j n1 (x e);obtain⟨i9,e3⟩:=W.un.slot b _ k n2 V (by simp)
  have n3:=W.un.free b _ k n2 (by simp)
  obtain⟨_,D,g,d⟩:=I.stack.mem V;have a2:s.heap.get? b=some { o with slots:=i1 }:=j;rw[g] at a2;cases a2;obtain⟨sl,e7⟩:=i4 b _ e3 (λvs z=>d vs z) (K e);exact⟨⟨sl,e7⟩,n3⟩
 have i7:Un (frs X.outer) [] X.H₀ H' X.s₀.heap h7:={
  keep:=λb o e n i _=>P b o (l b o e n i).1 (K e)
  slot:=λb o e n i _=>(p b o e n i).1
  free:=λb o e n _=>by
   by_cases i:b∈frs X.outer
   ·exact(p b o e n i).2
   ·exact(l b o e n i).2
  there:=λb o e _=>by
   by_cases i:b∈frs X.outer
   ·obtain⟨⟨sl,z⟩,_⟩:=p b o e (I.ok.frf b i) i;exact⟨_,z⟩
   ·obtain⟨D,z⟩:=t b o e i;exact⟨D,P b D z (K e)⟩
  tups:=λb xs e=>W.un.tups b xs (c.tups b xs (a.tups b xs e))
  frzs:=λb o u e=>W.un.frzs b o u (c.frzs b o u (a.frzs b o u e))
  tbls:=λb ps e=>by
   obtain⟨m1,j⟩:=a.tbls b ps e;obtain⟨m2,k⟩:=c.tbls b _ j;obtain⟨m3,e3⟩:=W.un.tbls b _ k;exact⟨m1++m2++m3,by rw[e3,vI,vI,vI]⟩ }
 have a1:∀ b,H' b≠none->b≠C:=λb n z=>by
  obtain⟨o,es,ep,S,_⟩:=hn;exact n (by rw[z];exact W.un.free C o S J (by simp))
 have c1:X.s₀.heap.get? v=none:=by
  cases z:X.s₀.heap.get? v with
  | none=>rfl
  | some o=>
   obtain⟨o1,j⟩:=a.there v o z (by simp)
   obtain⟨o2,k⟩:=c.there v o1 j (x z);rw[W.new] at k;cases k
 have c0:∀ b o,h7.get? b=some o->H' b≠none->B'.get? b=some o:=λb o e n=>by
  obtain⟨D,q'⟩:=W.hok.there n;have j:=YS b D q' n;have k:=P b D j (a1 b n);rw[e] at k;cases k;exact O b o j (a1 b n)
 exact⟨v,cls,od,H',rfl,⟨⟨B',a4,c0,λb o e n i=>O b o (l b o e n i).1 (K e),λb o e i=>by
   obtain⟨D,z⟩:=t b o e i;exact⟨D,O b D z (K e)⟩⟩,(W.os.trans Ic.os).trans I.os,W.bare,i7,W.hok.keptT (λb o e n=>P b o (YS b o e n) (a1 b n)),c1,W.free⟩,hE _ _ _ q⟩
def ZGB{CX:WR}{elt iter:Expr}{x:Str}{px:aI}{ifs:jy}{scope:aD}{cl:jC}{pos:aI}{ix:jo}{ys:jr}{tt:TT}{te:TE}{it:aj}{a:ju}{tn:Nat->aC->Prop}{J:It}{Q:VK}{E:ja}{RR:ai->aj->Result->ak->Prop}{E1:XK}(hp:∀ D C:aj,s.heap.objs.size<=C->Wx CX (YX X (x::ys) scope cl C s H a (notedBy (az X.prog X.w) X.A (compEnvC scope cl C X.env) (λe M=>RR (.ref D) C (.error e) M))) E1)(hc:X.calm=true)(ht:∀ C s H a E,Qp (YX X (x::ys) scope cl C s H a E) ifs tt)(he:∀ C s H a E,Wx CX (YX X (x::ys) scope cl C s H a E) E1->PE (YX X (x::ys) scope cl C s H a E) elt te)(sub:YH X.env cl)(jk:scope.kind=.function)(hnd:(x::ys).Nodup)(hx:scope.names.lookup x=some .local)(jn:∀ y∈scope.names,y.2≠.cell)(hhas:∀ y,((relabel scope X.env).names.lookup y=some .cell\/(relabel scope X.env).names.lookup y=some .free)->∃ c,cl.lookup y=some c)(fo:Z0 X scope ix ys)(I:ZF X jU σ H s)(T:VH X.prog X.w X.K (.Name x px) J a it tn)(st:tn 0 s.heap)(hf:∀ b∈a,Wf X jU H b)(q:Wg J σ ix tt te H Q)(hRR:∀ D C M t m,s.heap.objs.size<=C->ZF X jU σ t M->Wf X jU t C->M.heap.Ns C m->Q (.ref D) t->RR (.ref D) C (.ok .next) M):
  aA (az X.prog X.w) X.A (newList []) (λa0 l=>aA (az X.prog X.w) X.A (newFunctionEnv scope X.env.globals cl [] X.env.qual none .none (some X.env)) (λO c0=>
   aF (az X.prog X.w) X.A (.compStart (.ListComp elt [⟨.Name x px,iter,ifs,0⟩] scope pos) 0 (.ref it) a0 { O with scope:=relabel scope X.env }) (RR a0 O.locals) c0) E l) E s:=by
 refine wpAny_newObj_type (wpAny_newFunctionEnv jn (by intro y hy;simp at hy) (λk h f=>?_) jk)
 dsimp only at h f⊢;generalize R:s.heap.push { cls:=.type "list",dict:=none,data:=.seq ([]:jd).toArray }=j at h f⊢;have hC:j.objs.size=s.heap.objs.size+1:=by rw[<-R,wB]
 have a2:s.heap.objs.size≠j.objs.size:=by rw[hC];exact zO (yE _)
 have v:s.heap.objs.size<=j.objs.size:=by rw[hC];exact xA _
 have below:∀ b,b<s.heap.objs.size->b≠j.objs.size/\b≠s.heap.objs.size:=λb g=>⟨by rw[hC];exact zO (vX g),zO g⟩
 have a6:∀ b o,s.heap.get? b=some o->k.get? b=some o:=λb o e=>f.extBut b o (below b (zW e)).1 (zS _ (R ▸ zS _ e));have F:∃ n,k.get? s.heap.objs.size=some { cls:=.type "list",data:=.seq ([]:jd).toArray n }:=⟨_,f.extBut _ _ a2 (zS _ (R ▸ yW _ rfl))⟩;obtain⟨nD,F⟩:=F;have a3:∀ b∈a,Wf X jU H b/\b<s.heap.objs.size:=λb g=>⟨hf b g,by obtain⟨o,e,_⟩:=T.obj 0 _ st b g;exact zW e⟩
 have c7:H s.heap.objs.size=none:=I.hok.fresh (zY _);obtain⟨W,⟨m0,w0⟩,c1⟩:=q _ c7;generalize hE:notedBy (az X.prog X.w) X.A (compEnvC scope cl j.objs.size X.env) (λe M=>RR (.ref s.heap.objs.size) j.objs.size (.error e) M)=z;have c8:Wx CX (YX X (x::ys) scope cl j.objs.size s H a z) E1:=hE ▸ hp s.heap.objs.size j.objs.size v;have a4:(relabel scope X.env).names.lookup x=some .local:=lookup_relabel_local hx;have I0:ZF (YX X (x::ys) scope cl j.objs.size s H a z) [] (Gs σ ix) (upd H s.heap.objs.size (.lst [])) { s with heap:=k,toks:=s.toks+([]:jG).length }:=
  AU I a3 sub jk hhas fo (zY _) v a2 h a6 F
 have a7:tn 0 k:=T.keep _ _ _ st λb _ o e=>a6 b o e;have c5:∀ b∈a,upd H s.heap.objs.size (.lst []) b=none:=λb g=>by rw[ZM (below b (a3 b g).2).2];exact(hf b g).1
 have G:∀{t:Hp},(∀ b∈a,t b=none)->∀ b∈a,Wf (YX X (x::ys) scope cl j.objs.size s H a z) [] t b:=λhn b g=>
  ⟨hn b g,(I0.ok.exf b g).1,I0.ok.exfs b g,.inl g,(I0.ok.exf b g).2,λp hp=>absurd (show p∈([]:js) from hp) (by simp)⟩
 have P:∀ l:ak,l={ s with heap:=k,toks:=s.toks+([]:jG).length } ->
   aF (az X.prog X.w) X.A (.compLoop (.ListComp elt [⟨.Name x px,iter,ifs,0⟩] scope pos) 0 (.ref it) (.ref s.heap.objs.size) (compEnvC scope cl j.objs.size X.env)) (RR (.ref s.heap.objs.size) j.objs.size) l:=by
  rintro l rfl;refine Gy (λn M=>∃ i L t,ZF (YX X (x::ys) scope cl j.objs.size s H a z) [] L t M/\(∃ o,L=o::ix.map λi=>(σ[i]?).join)/\tn i M.heap/\(∀ b∈a,t b=none)/\W i n t) ?_ m0 ⟨0,_,_,I0,⟨none,rfl⟩,a7,c5,w0⟩;rintro n s3 ⟨i,V,H3,I3,⟨o3,a5⟩,a8,a1,w3⟩;rw[hE];rcases c1 i n H3 w3 with ⟨a9,qn⟩ | ⟨go,step⟩
  ·refine Zt (T.done (YX X (x::ys) scope cl j.objs.size s H a z) rfl rfl rfl hc i [] s3 V H3 z I3 (G a1) a8 a9) ?_;rintro r s4 ⟨hr,Y⟩;subst hr;obtain⟨m4,c9,_⟩:=Y.loc;have Ix:ZF X jU σ H3 s4:=I.call' (s':=s4) (ch:=a) Y.os Y.base Y.hok Y.bare λb g=>by
    obtain⟨_,z1,_,z3,z4,z5⟩:=hf b g;exact⟨z3,z1,z4,z5⟩
   exact hRR _ _ s4 H3 m4 v Ix (I.fpOk v Y.free) c9 qn
  ·refine Zt (T.item (YX X (x::ys) scope cl j.objs.size s H a z) rfl rfl rfl hc i [] s3 V H3 z I3 (G a1) a8 go) ?_;rintro r s4 ⟨u,hr,h4⟩;subst hr;refine Zt h4 ?_;rintro _ s5 ⟨xv,H5,I5,r5,y5,U,c6⟩;have c3:=I5.pinned (G c6) (T.obj _ _ U);have B:∀{N:St}{H7:Hp}{s7:ak}{S:Nat},ZF (YX X (x::ys) scope cl j.objs.size s H a z) ([]++OV a s5.heap) N H7 s7->(∃ o,N=o::ix.map λi=>(σ[i]?).join)->S<n->W (i+1) S H7 ->
     ∃ m,m<n/\∃ i L t,ZF (YX X (x::ys) scope cl j.objs.size s H a z) [] L t s7/\(∃ o,L=o::ix.map λi=>(σ[i]?).join)/\tn i s7.heap/\(∀ b∈a,t b=none)/\W i m t:=fun{N H7 s7 S} Z e7 hm w7=>by
    refine⟨S,hm,i+1,N,H7,Z.unpinned,e7,T.keep _ _ _ U λb g o e=>(Z.pin (b,o) (yN _ (yN _ (OG g e)))).1,λb g=>?_,w7⟩;obtain⟨o,e,d⟩:=T.obj _ _ U b g;exact(Z.pin (b,o) (yN _ (yN _ (OG g e)))).2.1
   have hg:PG (YX X (x::ys) scope cl j.objs.size s H a z) (.Name x px) (Uf 0):=QX hnd rfl (.inl a4) (.inr a4);refine YD (hg _ s5 V H5 xv u (λc2 H6=>c2=OX σ ix xv/\H6=H5) c3 r5 ⟨by rw[a5];rfl,rfl⟩) λ_ s6 c2 H6 I6 e6 c4=>?_
   subst e6 c4;refine Zt (ht _ _ _ _ _ _ s6 _ _ _ I6 (step xv _ y5)) ?_;rintro ok s7 ⟨H7,Z,q7⟩
   cases ok with
   | false=>
    rw[aM zV] at q7⊢;obtain⟨S,hm,w7⟩:=q7;exact B Z ⟨_,rfl⟩ hm w7
   | true=>
    rw[aO rfl] at q7⊢;refine Zt (he _ _ _ _ _ c8 _ s7 _ _ _ Z q7) ?_;rintro y s8 ⟨yv,H8,I8,r8,e0,S,e8,z8,hm,w8⟩;refine YD (UI _ s8 _ H8 (.ref s.heap.objs.size) [yv] (.ref s.heap.objs.size) [y] (λ_ H9=>W (i+1) S H9) I8 rfl (.cons r8 .nil) ⟨_,e0,yv,rfl,rfl,e8,z8,w8⟩) λ_ s9 _ H9 I9 _ w9=>?_;exact B I9 ⟨_,rfl⟩ hm w9
 exact codeAny_compStart_list (P _ rfl) (T.self _ 0 _ _ _ a7 (P _ rfl))
def ZJj{d c:Expr}{x:Str}{G:aI}{g:jy}{a:aD}{n:aI}{M:TI}{L:TT}{K:TE}(z:jo)(i:jr)(F:VU X E)(hE:∀ cls o H,E1 cls o H->E cls o H)(hi:PI X (.Name x G) c M)(ht:∀ C s H f E,Qp (YX X (x::i) a (XZ X.env a.names []) C s H f E) g L)(he:∀ C s H f E,Wx (Z9 X.prog X.w) (YX X (x::i) a (XZ X.env a.names []) C s H f E) E1->PE (YX X (x::i) a (XZ X.env a.names []) C s H f E) d K)(Y:Z0 X a z i)(hk:Oe X.env a.names=true:=by rfl)(k:Ph a x=true:=by rfl)(l:(x::i).Nodup:=by decide +kernel)(hs:∀ x,foldedSetIterable c X.env x=pure x:=by intro _;rfl):
  PE X (.ListComp d [⟨.Name x G,c,g,0⟩] a n) (JE M z L K):=by
 intro jU s σ H Q I h;have B:=NP k;have r:=K7 I.ok hk;rw[eval_ListComp];refine wpAny_comprehension_free (use:=none) rfl hs (My r) B.kind B.names (Zt (hi jU s σ H _ I h) λv s1 Z=>Zt Z λa0 s2 h2=>?_);obtain⟨it,f,tn,J,H2,e,t,T,p,u,q2⟩:=h2;subst e;refine ZGB (RR:=λj C=>compPost (az X.prog X.w) X.A X.xe none (EP X jU σ Q) j C) (E1:=E1) (λD C y=>FJ F hE t u y) F.calm ht he (M0 r) B.kind l B.own B.cell (K9 B.cell) Y t T p u q2 ?_;intro D C s' N m y O W hn q;refine⟨m,hn,λh' sb=>⟨.ref D,N,?_,rfl,q⟩⟩;obtain⟨P,R,_,S,U,V⟩:=W;exact O.turned (t':=s'.toks) (λb o k e=>(sb.2 b k).trans e) P R S U V
end
section
variable{E:XK}
def Ji{x:Str}{C:aj}{S c l:aI}(F:VU X E)(O:OwnCls x C [.type "ValueError",.type "Exception",.type "BaseException",.type "object"] "ValueError.__new__" X.mg X.base)(Q:yU X.K (.ref C)=true)(R:yV X.K C (.type "BaseException")=some true)(P:yA X.K (.ref C)=some (.type "type"))(L:Gl X x)(j:(x==("__debug__" : Str))=false:=by decide):
  PS X (.Raise (some (.Call (.Name x S) [] [] c)) none l) (λ_ _ H=>E (.ref C) none H):=by
 intro r s σ H D I h;have M:=I.ok.hd F.calm;rw[arm_exec_Raise];refine aa (ah ?_);refine FE M R P (aa (ae ?_ (λv s3 A=>aa (ah (ad A))) λ_ _ z=>z));have i:=qU;obtain⟨tl,N,nm,q,bs,n,sn,V,Y,t,Z,k0,k1,k2,k3,k5,mN,B,G,k,T⟩:=O.obj;refine ag (Qh I L O.bound ?_ j);refine sZ I.kIn Q ?_;obtain⟨hp,g,d,tk,os⟩:=s;refine wpAny_call_exc_subU (rest:=[]) i i.hasB i (T.keeps I.bk) (I.bk _ _ B) (G.keeps I.bk) k (λw b e=>?_) (yX _);obtain⟨tt,u,e2,e3⟩:=e.there;have J:=I.newx (C:=C) (ea:=b) (h':=w) e.keeps e.new ⟨_,_,u,rfl,rfl,rfl,rfl⟩;have p:H b=none:=by
  cases z:H b with
  | none=>rfl
  | some o=>
   obtain⟨U,m⟩:=I.hok.there (a:=b) (by rw[z];exact λy=>nomatch y)
   have:=e.new;rw[m] at this;cases this
 have f:X.s₀.heap.get? b=none:=by
  cases z:X.s₀.heap.get? b with
  | none=>rfl
  | some o=>
   obtain⟨U,m⟩:=I.base.there b o z (by rw[F.ex];simp)
   have:=e.new;rw[m] at this;cases this
 exact⟨b,none,rfl,J.kIn,(J.hok b _ ZK).1,JV F (J.untrack p) f p (J.hok b _ ZK).1 h⟩
end
def Js(K:zZ)(a:aj)(c:TS)(D:Yt)(d:St):XK:=λcls e b=>∃ C,cls=.ref C/\yV K C (.ref a)=some true/\c D d b
inductive P3(K:zZ)(e C:aj)(m:Str)(i:Sp)(t:TA)(j:TS)(D:Yt)(b:L2.St)(x:V)(c:Hp):Prop
 |mk(a h d:_)(_:x=.ref a)(_:c a=some (.ins C h d))(_:d.lookup m=none)(_:t b c λk f=>i (x::(k++[])) f (λ_ g=>D.nx b g) (Js K e j D b))
def E4(K:zZ)(b C:aj)(m:Str)(d:Sp)(e:TE)(t:TA)(f:TS):TS:=λD a H=>e a H λx c=>P3 K b C m d t f D a x c
def Ct{X:Cx}{k:Nat}{f C CB:aj}{fd:am}{ps:jr}{sp:Sp}{m y:Str}{jj ji epos py ph pos:aI}{o e:Expr}{es:jy}{ta:TE}{t:TA}{b₀:aB}{suite:jJ}{ts:TS}{pl:Sem Bool}(he:∀ S,PE (X.wish S) o ta)(c:VR X.K C)(hm:UJ X.K C m f)(F:ZI X.prog X.w X.K X.mg X.base (Z9 X.prog X.w) k f fd ps sp)(hr:ZW k X.A)(hb:Zx X.K fd ps [])(ha:∀ S,PA (X.wish S) (e::es) t)(hst:X.stack=X.env::X.outer)(hfm:X.env.frame=some X.env.locals)(hy:Gl X y)(hyC:X.mg y=some (.ref CB))(ht:yA X.K (.ref CB)=some (.type "type"))(hB:yV X.K CB (.type "BaseException")=some true)(hs:∀ E S,WC (X.held E S) (b₀::suite) ts)(hdy:(y==("__debug__" : Str))=false:=by decide)(hse:aq (e::es) X.env=(false,aG e X.env)::aq es X.env:=by rfl)(hpl:(aE ji (aq es X.env)).any (·.1)=false:=by rfl)(hev:aG (.Call (.Attribute o m jj) (e::es) [] ji) X.env=(do
   let ov<-aG o X.env
   standAt jj.atName
   let (f,first)<-holding [ov] (getMethod ov m pl)
   callWith ji f first (aE ji (aq (e::es) X.env)) (backToKw ji (keywordEach [] X.env))):=by rfl)(hsw:swapsWith (.Call (.Attribute o m jj) (e::es) [] ji) none epos.line X.env=pure false:=by rfl):
  PS X (.Try [.Expr (.Call (.Attribute o m jj) (e::es) [] ji) epos] [.ExceptHandler (some (.Name y py)) none (b₀::suite) ph] [] [] pos) (E4 X.K CB C m sp ta t ts):=by
 intro b s R H D I h;refine wpAny_Try_except ?_;have a5:X.A.frames=some (X.env::X.outer):=by rw[I.ok.frames,hst]
 have O:∀(T:Hp)(s1:ak)(i:ai)(g:ak),ZF X b R T s1->Z9 X.prog X.w X.stack T s1 (Js X.K CB ts D R) i g ->
   aA (az X.prog X.w) X.A (noteFrame i X.env) (λ_ j=>aA (az X.prog X.w) X.A (setFlight i none) (λ_ n=>aA (az X.prog X.w) X.A (handleBy i X.env [.ExceptHandler (some (.Name y py)) none (b₀::suite) ph]) (SP X b D) X.xe n) X.xe j) X.xe g:=by
  intro T s1 i g p hx;obtain⟨E,cls,od,H',rfl,W,C,rfl,mC,q⟩:=hx;obtain⟨B,Y,YS,a1,a0⟩:=W.ex;have a4:X7 B (X.env::X.outer) E (.ref C) od .none g.heap:=by rw[<-hst];exact Y
  refine MV a5 hfm a4 λh4 N a2=>?_;refine Q5 (s:={ g with heap:=h4 }) N λh5 M a3=>?_;have J5:ZF X b R H' { g with heap:=h5 }:=Nf p W YS a1 a0 M.1 (a2.trans a3);refine wpAny_handleBy_cons (codeAny_handlers_test ?_) (by intro q;cases q)
  refine Qh (J5.held E (λ_ _=>False)) hy hyC ?_ hdy;refine Iu (s:={ g with heap:=h5 }) J5.kIn M.at.is ht hB mC ?_;refine codeAny_handlers_suite ?_;refine Q5 (s:={ g with heap:=h5 }) M λh6 fl6 a6=>?_;have J6:ZF X b R H' { g with heap:=h6 }:=Nf p W YS a1 a0 fl6.1 ((a2.trans a3).trans a6);refine ae (hs E _ b _ _ _ _ (J6.held E _) q) (λY s8 h8=>?_) λ_ _ z=>z
  cases Y with
  | next=>
   obtain⟨d,G,L,P⟩:=h8;exact⟨d,G,L.unheld p.ok,P⟩
  | brk=>
   obtain⟨d,G,L,P⟩:=h8;exact⟨d,G,L.unheld p.ok,P⟩
  | cont=>
   obtain⟨d,G,L,P⟩:=h8;exact⟨d,G,L.unheld p.ok,P⟩
  | ret u=>
   obtain⟨v8,d,G,L,r8,P⟩:=h8;exact⟨v8,d,G,L.unheld p.ok,r8,P⟩
 have I':=I.wish (λi g=>aA (az X.prog X.w) X.A (noteFrame i X.env) (λ_ j=>aA (az X.prog X.w) X.A (setFlight i none) (λ_ n=>aA (az X.prog X.w) X.A (handleBy i X.env [.ExceptHandler (some (.Name y py)) none (b₀::suite) ph]) (SP X b D) X.xe n) X.xe j) X.xe g);refine wpAny_execs_cons (wpAny_Expr_any ?_ I.quiet hsw);refine sR (pl:=pl) (Zt (he _ b s R H _ I' h) λu s1 ⟨x,T,p,rx,a,dx,fs,ex,E,l,q⟩=>?_) hev;subst ex;obtain rfl:u=Value.ref a:=rx;refine K4 p.unwish E c hm l ?_;refine vV (first:=[.ref a]) (h₀:=X.base) I.ok.mod.kin hm.kp (YD (ha _ ji b s1 R T _ p q) λQ s2 vs H2 U r q2=>⟨U.kIn,?_⟩) hse hpl
 have r2:ZO (V.ref a::(vs++[])) (Value.ref a::(Q++[])):=.cons rfl (r.append .nil);have hl:(Value.ref a::Q++[]).length=ps.length:=by rw[show Value.ref a::Q++[]=Value.ref a::(Q++[]) from rfl,<-r2.length];exact F.len _ _ _ _ q2
 refine wpAny_call (codeAny_mono (F.run X.A X.stack s2 H2 ⟨.ref a::Q,[]⟩ (.ref a::Q++[]) (.ref a::(vs++[])) _ _ hr U.unwish.env0 (hb s2 (.ref a::Q) U.kIn hl) r2 q2) λrr g Z=>?_)
 cases rr with
 | error i=>exact O H2 s2 i g U.unwish Z
 | ok Y=>
  cases Y with
  | ret u=>
   obtain⟨v,H3,J,rv,q3⟩:=U.unwish.after Z;exact wpAny_execs_nil (wpAny_execs_nil ⟨R,H3,J,q3⟩)
  | next=>exact False.elim Z
  | brk=>exact False.elim Z
  | cont=>exact False.elim Z
end L2
namespace Tw
open PySem PySem.Spec L2 PyProof.Rows
variable{jg jh CS CT CH CK CP CB:aj}
structure ZE(P:al)(w:ar)(K:zZ)(mg:jb)(jV:aC)(CX:WR)(k:Nat)(C:aj)(m:Str)(ps:jr)(sp:Sp):Prop where
 ex:∃ f fd,UJ K C m f/\ZI P w K mg jV CX k f fd ps sp/\Zx K fd ps []
def Y3{X:Cx}{j:WR}{k:Nat}{C:aj}{m:Str}{x:jr}{l:Sp}{E:XK}{o e:Expr}{g:jy}{n:TE}{t:TA}{a d:aI}{v:Sem Bool}(q:PE X o n)(c:VR X.K C)(D:ZE X.prog X.w X.K X.mg X.base j k C m x l)(r:ZW k X.A)(u:Wx j X E)(p:PA X (e::g) t)(i:aq (e::g) X.env=(false,aG e X.env)::aq g X.env:=by rfl)(h:(aE a (aq g X.env)).any (·.1)=false:=by rfl)(s:aG (.Call (.Attribute o m d) (e::g) [] a) X.env=(do
   let ov<-aG o X.env
   standAt d.atName
   let (f,first)<-holding [ov] (getMethod ov m v)
   callWith a f first (aE a (aq (e::g) X.env)) (backToKw a (keywordEach [] X.env))):=by rfl):
  PE X (.Call (.Attribute o m d) (e::g) [] a) (Nk C m l [] E n t):=by
 obtain⟨f,y,M,F,b⟩:=D.ex;exact EJ q c M F r b .nil u p i h s
def Ni{X:Cx}{e:WR}{k:Nat}{C:aj}{m:Str}{q:jr}{g:Sp}{E:XK}{o:Expr}{h:TE}{d a:aI}{p:Sem Bool}(i:PE X o h)(c:VR X.K C)(D:ZE X.prog X.w X.K X.mg X.base e k C m q g)(j:ZW k X.A)(n:Wx e X E)(l:aG (.Call (.Attribute o m a) [] [] d) X.env=(do
   let ov<-aG o X.env
   standAt a.atName
   let (f,first)<-holding [ov] (getMethod ov m p)
   callWith d f first (aE d (aq [] X.env)) (backToKw d (keywordEach [] X.env))):=by rfl):
  PE X (.Call (.Attribute o m a) [] [] d) (Nk C m g [] E h VP):=by
 obtain⟨f,r,M,F,b⟩:=D.ex;exact Fm i c M F j b .nil n l
abbrev JJ:Stmt:=Xf (top 28) 0
abbrev Kp:Stmt:=Xf (top 36) 0
abbrev LJ:Stmt:=Xf (top 36) 1
abbrev Lz:Stmt:=Xf (top 36) 3
abbrev KQ:Stmt:=Xf (top 36) 7
abbrev LU:Stmt:=Xf (top 36) 8
abbrev JO:Stmt:=Xf (top 36) 9
abbrev LR:Stmt:=Xf (top 36) 12
abbrev Ny:Stmt:=Xf (top 36) 13
abbrev JB:Stmt:=Xf (top 36) 16
abbrev Kv:Stmt:=Xf (top 36) 17
abbrev N8:Stmt:=Xf (top 36) 18
abbrev Kf:Stmt:=Xf (top 36) 23
structure Yg(K:zZ)(mg:jb)(jg jh:aj):Prop where
 shelf:mg "Shelf" = some (.ref jg)
 twig:mg "Twig" = some (.ref jh)
 cS:VR K jg
 cT:VR K jh
 nk:Z4 K jg "kept"
 nf:Z4 K jg "following"
 nl:Z4 K jg "looks"
 nth:Z4 K jh "things"
 ntg:Z4 K jh "tag"
 nab:Z4 K jh "above"
 nho:Z4 K jh "holds"
abbrev QS(d a:aj)(n:Nat):List (Str×V):=[("kept",.ref d),("following",.int n),("looks",.ref a)]
abbrev UP(d c:V)(a:aj)(b:Nat):List (Str×V):=[("things",d),("tag",c),("above",.ref a),("holds",.int b)]
structure Y5(jg:aj)(H:Hp)(S d lk:aj)(n:Nat)(kvs:List (ZR×V))(ls:je):Prop where
 self:∃ dx,H S=some (.ins jg dx (QS d lk n))
 kept:H d=some (.dK kvs)
 looks:H lk=some (.lst ls)
structure WM(jh:aj)(H:Hp)(x:aj)(th tg:V)(ab:aj)(ho:Nat)(us:je):Prop where
 self:∃ dx,H x=some (.ins jh dx (UP th tg ab ho))
 above:H ab=some (.lst us)
def Y5.same{a:aj}{H c:Hp}{S d f:aj}{n:Nat}{b:List (ZR×V)}{g:je}(h:Y5 a H S d f n b g)(s:ZC H c):Y5 a c S d f n b g:=by
 obtain⟨⟨i,e⟩,j,k⟩:=h;exact⟨⟨i,s _ _ e⟩,s _ _ j,s _ _ k⟩
def WM.same{a:aj}{H b:Hp}{x:aj}{g f:V}{c:aj}{d:Nat}{i:je}(h:WM a H x g f c d i)(s:ZC H b):WM a b x g f c d i:=by
 obtain⟨⟨j,e⟩,k⟩:=h;exact⟨⟨j,s _ _ e⟩,s _ _ k⟩
inductive Ug(jh:aj)(h:je)(H:Hp)(Q:VK)(_:XK):Prop
 |mk(x g:aj)(e d:V)(_:h=[.ref x,e,d])(_:H x=some (.ins jh g []))(_:∀(a:Hp)(c:aj),(∀ b o,b≠x->H b=some o->a b=some o)->H c=none->WM jh a x e d c 1 []->Q .non a)
def Ch:ZA zEu zEu (Zc JJ):=Zz
def Ce(F:Zj K "__init__" "Twig.__init__" JJ f fd)(L:Yg K mg jg jh):ZI P w K mg jV ZZ 1 f fd zEu (Ug jh):=by
 refine F.ko Ch λl A j s H u Q E q h=>?_;obtain⟨x,d,t,r,rfl,m,k⟩:=h;intro p;exists _,ZQ (QY (pv 0) (pv 1) rfl) (ZQ (QY (pv 0) (pv 2) rfl) (ZQ (QY (pv 0) (XR Zs) rfl) (ZU (QY (pv 0) ZN rfl))));exists _,rfl,_,rfl,x,jh,d,_,rfl,m,L.cT,L.nth,yP rfl;exists _,rfl,_,rfl,x,jh,d,_,rfl,ZK,L.cT,L.ntg,yP rfl;exists YC;intro i a;rw[MB] at a⊢;have c:x≠i:=λz=>by rw[<-z,ZK] at a;cases a
 have g:H i=none:=by rw[ZM (Ne.symm c)] at a;exact a
 exists _,rfl,x,jh,d,_,rfl,(by rw[ZM c];exact ZK),L.cT,L.nab,yP rfl
 exists _,rfl,x,jh,d,_,rfl,ZK,L.cT,L.nho,yP rfl;refine k _ i (λb o n e=>?_) g ⟨⟨d,ZK⟩,?_⟩
 ·rw[MB,ZM n,ZM (ZY e g),ZM n];exact e
 ·rw[MB,ZM (Ne.symm c)];exact ZK
inductive Uw(jg:aj)(g:je)(H:Hp)(Q:VK)(_:XK):Prop
 |mk(x e:aj)(_:g=[.ref x])(_:H x=some (.ins jg e []))(_:∀(a:Hp)(d c:aj),(∀ b o,b≠x->H b=some o->a b=some o)->H d=none->H c=none->d≠c->Y5 jg a x d c 0 [] []->Q .non a)
def A1:ZA zEn zEn (Zc Kp):=Zz
def ZNI(F:Zj K "__init__" "Shelf.__init__" Kp f fd)(L:Yg K mg jg jh):ZI P w K mg jV ZZ 1 f fd zEn (Uw jg):=by
 refine F.ko A1 λu A p s H B Q E y h=>?_;obtain⟨x,j,rfl,t,k⟩:=h;intro v;exists _,ZQ (QY (pv 0) NJ rfl) (ZQ (QY (pv 0) ZN rfl) (ZU (QY (pv 0) (XR Zs) rfl)));intro d m;have q:x≠d:=ZY t m;exists _,rfl,x,jg,j,_,rfl,(by rw[ZM q];exact t),L.cS,L.nk,yP rfl
 exists _,rfl,x,jg,j,_,rfl,ZK,L.cS,L.nf,yP rfl;exists YC;intro g c;rw[MB] at c⊢;have r:x≠g:=λz=>by rw[<-z,ZK] at c;cases c
 have a:upd H d (.dK []) g=none:=by rw[ZM (Ne.symm r)] at c;exact c
 have l:d≠g:=λz=>by rw[<-z,ZK] at a;cases a
 have i:H g=none:=by rw[ZM (Ne.symm l)] at a;exact a
 exists _,rfl,x,jg,j,_,rfl,(by rw[ZM r];exact ZK),L.cS,L.nl,yP rfl
 refine k _ d g (λb o n e=>?_) m i l ⟨⟨j,ZK⟩,?_,?_⟩
 ·rw[ZM n,ZM (ZY e i),ZM n,ZM (ZY e m)];exact e
 ·rw[ZM (Ne.symm q),ZM l,ZM (Ne.symm q)];exact ZK
 ·rw[ZM (Ne.symm r)];exact ZK
inductive Zo(jg:aj)(g:je)(H:Hp)(Q:VK)(_:XK):Prop
 |mk(S d c:aj)(n:Nat)(a:List (ZR×V))(e:je)(i:Int)(b:V)(_:g=[.ref S,.int i])(_:Y5 jg H S d c n a e)(_:Z5 a (.inl i)=some b)(_:Q b H)
def IS:ZA zEa zEa (Zc N8):=Zz
def AQ(F:Zj K "twig_of" "Shelf.twig_of" N8 f fd)(L:Yg K mg jg jh):ZI P w K mg jV ZZ 1 f fd zEa (Zo jg):=by
 refine F.ko IS λl A a s H x Q E o h=>?_;obtain⟨S,d,u,n,q,v,i,b,rfl,⟨⟨c,e⟩,m,t⟩,p,k⟩:=h;have j:=Wj o;intro r;exists _,ZQ (Zv (Qm (NQ j (pv 1) (X8 (pv 0) rfl))) WY Z1) (ZU (Zn (WP j (X8 (pv 0) rfl) (pv 1))));have g:Zi H d (.int i) (some b):=p ▸ Zi.k (k:=Sum.inl i) m;refine⟨_,rfl,_,rfl,S,jg,c,_,.ref d,rfl,e,L.cS,L.nk,rfl,d,some b,rfl,g,_,rfl,Zl ?_⟩;exact⟨_,rfl,S,jg,c,_,.ref d,rfl,e,L.cS,L.nk,rfl,_,rfl,d,b,rfl,g,k⟩
structure UD(P:al)(w:ar)(K:zZ)(mg:jb)(jV:aC)(k:Nat)(C:aj)(ps:jr)(sp:Sp):Prop where
 ex:∃ f fd,Mk K C f/\ZI P w K mg jV ZZ k f fd ps sp/\Zx K fd ps []
structure NW(jg jh:aj)(H:Hp)(S d lk:aj)(n:Nat)(kvs:List (ZR×V))(ls:je)(i:Int)(x:aj)(th tg:V)(ab:aj)(ho:Nat)(us:je):Prop where
 sh:Y5 jg H S d lk n kvs ls
 val:Z5 kvs (.inl i)=some (.ref x)
 tw:WM jh H x th tg ab ho us
inductive XA(jg jh:aj)(res:V->Nat->je->V)(l:je)(H:Hp)(Q:VK)(_:XK):Prop
 |mk(S d h:aj)(n:Nat)(a:List (ZR×V))(j:je)(i:Int)(x:aj)(k c:V)(g:aj)(b:Nat)(e:je)(_:l=[.ref S,.int i])(_:NW jg jh H S d h n a j i x k c g b e)(_:Q (res c b e) H)
def Ca:ZA zEa zEa (Zc LU):=Zz
def EA(F:Zj K "outside" "Shelf.outside" LU f fd)(L:Yg K mg jg jh)(e:ZE P w K mg jV ZZ 1 jg "twig_of" zEa (Zo jg)):ZI P w K mg jV ZZ 2 f fd zEa (XA jg jh λ_ a _=>.int a):=by
 refine F.ko Ca λg A c s H B Q E o h=>?_;obtain⟨S,d,q,n,b,r,i,x,y,v,u,a,z,rfl,R,k⟩:=h;intro t;exists _,ZU (Zn (X8 (Y3 (E:=E0) (pv 0) L.cS e o Yu (ZX (pv 1))) rfl));obtain⟨l,m⟩:=R.sh.self;obtain⟨j,p⟩:=R.tw.self;exact⟨_,rfl,S,l,_,rfl,m,rfl,_,rfl,S,d,q,n,b,r,i,.ref x,rfl,R.sh,R.val,x,jh,j,_,.int a,rfl,p,L.cT,L.nho,rfl,k⟩
def GM:ZA zEa zEa (Zc Ny):=Zz
def ZKN(F:Zj K "label" "Shelf.label" Ny f fd)(L:Yg K mg jg jh)(e:ZE P w K mg jV ZZ 1 jg "twig_of" zEa (Zo jg)):ZI P w K mg jV ZZ 2 f fd zEa (XA jg jh λc _ _=>c):=by
 refine F.ko GM λg A b s H B Q E o h=>?_;obtain⟨S,d,q,n,a,r,i,x,y,c,u,v,z,rfl,R,k⟩:=h;intro t;exists _,ZU (Zn (X8 (Y3 (E:=E0) (pv 0) L.cS e o Yu (ZX (pv 1))) rfl));obtain⟨l,m⟩:=R.sh.self;obtain⟨j,p⟩:=R.tw.self;exact⟨_,rfl,S,l,_,rfl,m,rfl,_,rfl,S,d,q,n,a,r,i,.ref x,rfl,R.sh,R.val,x,jh,j,_,c,rfl,p,L.cT,L.ntg,rfl,k⟩
def WU:ZA zE3 zEa (Zc KQ):=Zz
def CO(F:Zj K "holders" "Shelf.holders" KQ f fd)(T:YO mg)(L:Yg K mg jg jh)(m:ZE P w K mg jV ZZ 1 jg "twig_of" zEa (Zo jg)):ZI P w K mg jV ZZ 2 f fd zEa (XA jg jh λ_ a e=>.int ((e.length:Nat)+(a:Nat):Int)):=by
 refine F.ko WU λo A c s H C Q E r h=>?_;obtain⟨S,d,t,n,b,u,i,x,B,z,g,a,e,rfl,R,k⟩:=h;have v:=WU.nd;intro y;exists _,ZQ (Zw 2 v (Y3 (E:=E0) (pv 0) L.cS m r Yu (ZX (pv 1)))) (ZU (Zn (Zu WI (Zm WA rfl T.len XQ (ZX (X8 (pv 2) rfl))) (X8 (pv 2) rfl))));obtain⟨p,q⟩:=R.sh.self;obtain⟨j,l⟩:=R.tw.self;exists _,rfl,S,p,_,rfl,q,rfl,_,rfl,S,d,t,n,b,u,i,.ref x,rfl,R.sh,R.val;exact⟨_,rfl,x,jh,j,_,.ref g,rfl,l,L.cT,L.nab,rfl,g,e,rfl,.inl (ZH.of R.tw.above),_,rfl,x,jh,j,_,.int a,rfl,l,L.cT,L.nho,rfl,_,_,rfl,rfl,k⟩
inductive Xv(jh:aj)(g:je)(H:Hp)(Q:VK)(_:XK):Prop
 |mk(x:aj)(d:V)(a b:aj)(c:Nat)(e:je)(h:Int)(i:je)(_:g=[.ref x])(_:WM jh H x d (.ref a) b c e)(_:H a=some (.tup (.int h::i)))(_:Q (.bl (decide (h > 0))) H)
def AL:ZA ["twig"] ["twig"] (Zc Lf):=Zz
def C4(F:Zj K "is_stem" "is_stem" Lf f fd)(T:YO mg)(L:Yg K mg jg jh):ZI P w K mg jV ZZ 1 f fd ["twig"] (Xv jh):=by
 refine F.ko AL λc A a s H u Q E p h=>?_;obtain⟨x,r,b,n,o,t,e,y,rfl,W,g,k⟩:=h;obtain⟨q,l⟩:=T.height;obtain⟨d,i⟩:=W.self;intro m;exists _,ZU (Zn (VN QH (Zk K (X8 (pv 0) rfl) (WH (v:=.int 0) rfl l ⟨_,rfl⟩)) ZN (Z3 _)));exact⟨_,rfl,x,jh,d,_,.ref b,rfl,i,L.cT,L.ntg,rfl,.inr (.inl ⟨b,_,_,.int e,rfl,rfl,Zd.of g,WD (j:=0) rfl,_,_,rfl,rfl,k⟩)⟩
inductive Vj(jg jh:aj)(s:je)(H:Hp)(Q:VK)(_:XK):Prop
 |mk(S d c:aj)(n:Nat)(e:List (ZR×V))(j:je)(i:Int)(x k m l:aj)(r:Nat)(q p u:je)(h:Int)(_:s=[.ref S,.int i])(_:NW jg jh H S d c n e j i x (.ref k) (.ref m) l r q)(_:H k=some (.lst p))(_:H m=some (.tup (.int h::u)))(_:c≠k)(_:c≠l)(_:j.length<=900)(_:∀(a:Hp)(g t:aj),(∀ b o,b≠c->H b=some o->a b=some o)->a c=some (.lst (j++[.int i]))->H g=none->a g=some (.lst p)->a t=some (.tup [.str (if h > 0 then "stem" else "leaf"),.ref g])->Q (.ref t) a)
def U0:ZA zE3 zEa (Zc LR):=Zz
def B4(F:Zj K "look" "Shelf.look" LR f fd)(T:YO mg)(L:Yg K mg jg jh)(DT:ZE P w K mg jV ZZ 1 jg "twig_of" zEa (Zo jg))(DS:ZB P w K mg jV 1 "is_stem" ["twig"] (Xv jh)):ZI P w K mg jV ZZ 2 f fd zEa (Vj jg jh):=by
 refine F.ko U0 λa3 A a0 s H vs Q E hr h=>?_;obtain⟨S,d,j,n,W,p,i,x,J,tg,ab,ho,as,M,xs,U,rfl,R,V,C,Y,X,a2,k⟩:=h;have nd:=U0.nd;intro Xc;refine⟨_,ZQ (Zw 2 nd (Y3 (E:=E0) (pv 0) L.cS DT hr Yu (ZX (pv 1))))
  (ZQ (Xe (Vh yM xL xK UI (X8 (pv 0) rfl) (ZX (pv 1))))
  (ZQ (Zv (Ye (Zp DS hr (ZX (pv 2)))) (ZU (Zn (Yq (Zg Ym (VO Q6 rfl T.list Uo (ZX (X8 (pv 2) rfl))))))) Z1)
  (ZU (Zn (Yq (Zg Ym (VO Q6 rfl T.list Uo (ZX (X8 (pv 2) rfl))))))))),?_⟩
 obtain⟨dx,hS⟩:=R.sh.self;obtain⟨O,hx⟩:=R.tw.self;exists _,rfl,S,dx,_,rfl,hS,rfl,_,rfl,S,d,j,n,W,p,i,.ref x,rfl,R.sh,R.val;have l:=R.sh.looks;exists _,rfl,S,jg,dx,_,.ref j,rfl,hS,L.cS,L.nl,rfl,.inl ⟨rfl,_,ZH.of l⟩,_,rfl,j,p,.int i,rfl,rfl,l,YQ ∅
 have G:∀ b o,b≠j->H b=some o->upd H j (.lst (p++[.int i])) b=some o:=λb o n e=>by rw[ZM n];exact e
 have a1:x≠j:=ZD hx l;have I:tg≠j:=ZD C l;have q:=G _ _ a1 hx;have D:=G _ _ I C;have u:=G _ _ (Ne.symm X) R.tw.above;have m:=G _ _ (Ne.symm Y) V;have v:upd H j (.lst (p++[.int i])) j=some (.lst (p++[.int i])):=ZK;have r:∀(w:Str)(c t:aj),upd H j (.lst (p++[.int i])) c=none->upd (upd H j (.lst (p++[.int i]))) c (.lst M) t=none->w=(if U > 0 then ("stem" : Str) else "leaf")->Q (.ref t) (upd (upd (upd H j (.lst (p++[.int i]))) c (.lst M)) t (.tup [.str w,.ref c])):=λw c t a B ew=>by
  have g1:=Za a (.lst M);have g2:=Za B (.tup [.str w,.ref c]);have g:=g1.trans g2;have Z:H c=none:=by
   cases z:H c with
   | none=>rfl
   | some o=>
    have:c≠j:=λy=>by rw[y,ZK] at a;cases a
    rw[ZM this,z] at a;cases a
  refine k _ c t (λb o n e=>g _ _ (G b o n e)) (g _ _ v) Z (g2 _ _ ZK) ?_;rw[ZK,ew]
 exists _,rfl,x,.ref J,tg,ab,ho,as,U,xs,rfl,⟨⟨O,q⟩,u⟩,D,_,rfl;by_cases N:U > 0
 ·rw[aK N];refine Z8 ⟨_,rfl,x,jh,O,_,.ref J,rfl,q,L.cT,L.nth,rfl,J,M,rfl,.inl (ZH.of m),λc a=>⟨YC,λt B=>?_⟩⟩;exact r _ c t a B (by rw[aO N])
 ·rw[aJ N];refine Zl ⟨_,rfl,x,jh,O,_,.ref J,rfl,q,L.cT,L.nth,rfl,J,M,rfl,.inl (ZH.of m),λc a=>⟨YC,λt B=>?_⟩⟩;exact r _ c t a B (by rw[aM N])
inductive Vk(jg:aj)(e:je)(H:Hp)(Q:VK)(_:XK):Prop
 |mk(S d b:aj)(n:Nat)(a:List (ZR×V))(c:je)(_:e=[.ref S])(_:Y5 jg H S d b n a c)(_:Q (.int a.length) H)
def ZND:ZA zEn zEn (Zc Kv):=Zz
def Fu(F:Zj K "many" "Shelf.many" Kv f fd)(T:YO mg)(L:Yg K mg jg jh):ZI P w K mg jV ZZ 1 f fd zEn (Vk jg):=by
 refine F.ko ZND λc A b s H o Q E j h=>?_;obtain⟨S,d,l,n,a,m,rfl,R,k⟩:=h;obtain⟨e,g⟩:=R.self;intro i;exists _,ZU (Zn (Zm Kk rfl T.len XQ (ZX (X8 (pv 0) rfl))));exact⟨_,rfl,S,jg,e,_,.ref d,rfl,g,L.cS,L.nk,rfl,d,a,rfl,R.kept,k⟩
inductive XE(jg:aj)(g:je)(H:Hp)(Q:VK)(_:XK):Prop
 |mk(S d c:aj)(n:Nat)(a:List (ZR×V))(e:je)(b:jz)(_:g=[.ref S])(_:Y5 jg H S d c n a e)(_:a.map (·.1)=b.map Sum.inl)(_:b.Pairwise (· <= ·))(_:b.length<64)(_:∀ p,H p=none->Q (.ref p) (upd H p (.lst (b.map V.int))))
def FN:ZA zEn zEn (Zc JB):=Zz
def ZG3(F:Zj K "numbers" "Shelf.numbers" JB f fd)(T:YO mg)(L:Yg K mg jg jh):ZI P w K mg jV ZZ 1 f fd zEn (XE jg):=by
 refine F.ko FN λc A b s H t Q E p h=>?_;obtain⟨S,d,q,n,a,r,m,rfl,R,g,i,j,k⟩:=h;obtain⟨e,l⟩:=R.self;intro o;exists _,ZU (Zn (Zm (QL rfl) rfl T.sorted UW (ZX (X8 (pv 0) rfl))));exact⟨_,rfl,S,jg,e,_,.ref d,rfl,l,L.cS,L.nk,rfl,d,a,m,rfl,R.kept,g,i,j,k⟩
structure XN(P:al)(w:ar)(K:zZ)(mg:jb)(jV:aC)(nm:Str)(C:aj):Prop where
 ex:∃ fI fd,Yd K C fI "number" /\ ZI P w K mg jV ZZ 1 fI fd zEa (Oc K C fI "number")/\Zx K fd zEa []
 at_:mg nm=some (.ref C)
 ty:yA K (.ref C)=some (.type "type")
def Mj{X:Cx}{E:XK}{g:Str}{C:aj}{e:Expr}{d:jy}{t:TA}{p a j:aI}(F:VU X E)(N:XN X.prog X.w X.K X.mg X.base g C)(n:ZW 2 X.A)(k:PA X (e::d) t)(m:Gl X g)(h:(g==("__debug__" : Str))=false:=by decide)(l:aq (e::d) X.env=(false,aG e X.env)::aq d X.env:=by rfl)(i:(aE a (aq d X.env)).any (·.1)=false:=by rfl):PS X (.Raise (some (.Call (.Name g p) (e::d) [] a)) none j) (IB C "number" E t):=by
 obtain⟨o,fd,c,G,b⟩:=N.ex;exact ZIc F c N.ty G n m N.at_ b k h l i
def UF(C:aj)(x:Int)(E:XK)(H:Hp):Prop:=∀ b a,ZC H a->a b=some (.xd [("number",.int x)])->E (.ref C) (some b) a
def UF.go{C:aj}{x:Int}{E:XK}{H b:Hp}(r:UF C x E H)(s:ZC H b){a:aj}(h:b a=none):E (.ref C) (some a) (upd b a (.xd [("number",.int x)])):=r a _ (s.trans (Za h _)) ZK
def UF.mono{C:aj}{x:Int}{E:XK}{H a:Hp}(r:UF C x E H)(s:ZC H a):UF C x E a:=λc b d e=>r c b (s.trans d) e
inductive XB(jg c:aj)(h:je)(H:Hp)(Q:VK)(E:XK):Prop
 |mk(S d e:aj)(n:Nat)(a:List (ZR×V))(g:je)(x:Int)(_:h=[.ref S,.int x])(_:Y5 jg H S d e n a g)(_:∀ b,Z5 a (.inl x)=some b->Q b H)(_:Z5 a (.inl x)=none->UF c x E H)
def ZHL{m:aj}(F:Zj K "twig_of" "Shelf.twig_of" N8 f fd)(L:Yg K mg jg jh)(N:XN P w K mg jV "NoTwig" m):ZI P w K mg jV (Z9 P w) 3 f fd zEa (XB jg m):=by
 refine F.okD IS (λv H Q E h=>(by obtain⟨_,_,_,_,_,_,_,rfl,_⟩:=h;rfl)) (λr A l s H v Q E p h=>?_)
 obtain⟨S,d,C,n,j,D,x,rfl,⟨⟨e,g⟩,o,B⟩,t,u⟩:=h;have q:=Wj p;intro y;exists _,ZQ (Zv (Qm (NQ q (pv 1) (X8 (pv 0) rfl))) (ZU (Mj U8 N p (ZX (pv 1)) rfl)) Z1) (ZU (Zn (WP q (X8 (pv 0) rfl) (pv 1))))
 cases b:Z5 j (.inl x) with
 | none=>
  have a:Zi H d (.int x) none:=b ▸ Zi.k (k:=Sum.inl x) o;refine⟨_,rfl,_,rfl,S,jg,e,_,.ref d,rfl,g,L.cS,L.nk,rfl,d,none,rfl,a,_,rfl,Z8 ?_⟩;exact⟨_,rfl,_,rfl,λz i=>(u b).go (ZC.refl H) i⟩
 | some c=>
  have a:Zi H d (.int x) (some c):=b ▸ Zi.k (k:=Sum.inl x) o;refine⟨_,rfl,_,rfl,S,jg,e,_,.ref d,rfl,g,L.cS,L.nk,rfl,d,some c,rfl,a,_,rfl,Zl ?_⟩;exact⟨_,rfl,S,jg,e,_,.ref d,rfl,g,L.cS,L.nk,rfl,_,rfl,d,c,rfl,a,t c b⟩
inductive Xu(jg jh g:aj)(o:je)(H:Hp)(Q:VK)(E:XK):Prop
 |mk(S d j:aj)(n:Nat)(b:List (ZR×V))(k:je)(x:Int)(_:o=[.ref S,.int x])(_:Y5 jg H S d j n b k)(_:∀ e,Z5 b (.inl x)=some e->∃(a:aj)(l c:V)(h:aj)(i:Nat)(m:je),e=.ref a/\WM jh H a l c h i m/\Q c H)(_:Z5 b (.inl x)=none->UF g x E H)
def Ec{e:aj}(F:Zj K "label" "Shelf.label" Ny f fd)(L:Yg K mg jg jh)(g:ZE P w K mg jV (Z9 P w) 3 jg "twig_of" zEa (XB jg e)):ZI P w K mg jV (Z9 P w) 4 f fd zEa (Xu jg jh e):=by
 refine F.okD GM (λB H Q E h=>(by obtain⟨_,_,_,_,_,_,_,rfl,_⟩:=h;rfl)) (λi A c s H B Q E m h=>?_)
 obtain⟨S,d,u,n,b,v,x,rfl,R,r,t⟩:=h;intro C;exists _,ZU (Zn (X8 (Y3 (E:=E) (pv 0) L.cS g m (PR U8 λ_ _ _ h=>h) (ZX (pv 1))) rfl));obtain⟨k,l⟩:=R.self;refine⟨_,rfl,S,k,_,rfl,l,rfl,_,rfl,S,d,u,n,b,v,x,rfl,R,λz o=>?_,t⟩;obtain⟨a,I,y,D,G,J,rfl,W,q⟩:=r z o;obtain⟨j,p⟩:=W.self;exact⟨a,jh,j,_,y,rfl,p,L.cT,L.ntg,rfl,q⟩
structure XS(P:al)(w:ar)(K:zZ)(mg:jb)(jV:aC)(CS:aj):Prop where
 stem:mg "NoStem" = some (.ref CS)
 exk:uX K CS Q0 "ValueError.__new__" = true
 kp:yU K (.ref CS)=true
 mB:yV K CS (.type "BaseException")=some true
 ty:yA K (.ref CS)=some (.type "type")
structure YB where
 x:aj
 th:aj
 tg:aj
 ab:aj
abbrev jx:=List YB
def YB.d:YB:=⟨0,0,0,0⟩
structure P1(jh:aj)(H:Hp)(ts:jq)(av:Nat->jo)(ho:Nat->Nat)(i:Nat)(a:YB):Prop where
 tw:WM jh H a.x (.ref a.th) (.ref a.tg) a.ab (ho i) (iN (av i))
 things:∃ us,H a.th=some (.lst us)/\((gd ts i).h=0->jP H (Y0 (gd ts i).rows) us)/\((gd ts i).h≠0->us=iN (gd ts i).bs)
 tag:YV H (Yh (gd ts i)) (.ref a.tg)
def P1.same{b:aj}{H c:Hp}{f:jq}{d:Nat->jo}{e:Nat->Nat}{i:Nat}{a:YB}(h:P1 b H f d e i a)(s:ZC H c):P1 b c f d e i a:=by
 obtain⟨l,g,j,k⟩:=h.things;exact⟨h.tw.same s,⟨l,s _ _ g,λz=>(j z).sm s,k⟩,h.tag.mono (ZC.tups s)⟩
structure Z7(jg jh:aj)(H:Hp)(S d lk:aj)(ts:jq)(lv:jo)(av:Nat->jo)(ho:Nat->Nat)(as:jx)(kvs:List (ZR×V))(ls:je):Prop where
 sh:Y5 jg H S d lk ts.length kvs ls
 keys:kvs.map (·.1)=lv.map (λi:Nat=>(Sum.inl (i:Int):ZR))
 val:∀ i:Nat,i∈lv->Z5 kvs (Sum.inl (i:Int))=some (.ref (as.getD i .d).x)
 lt:∀ i:Nat,i∈lv->i<ts.length
 len:as.length=ts.length
 tw:∀ i:Nat,i∈lv->P1 jh H ts av ho i (as.getD i .d)
 own:∀ i:Nat,i∈lv->(as.getD i .d).x≠S/\(as.getD i .d).ab≠lk/\(as.getD i .d).th≠lk/\(as.getD i .d).ab≠(as.getD i .d).th
 two:∀ i j:Nat,i∈lv->j∈lv->i≠j->(as.getD i .d).x≠(as.getD j .d).x/\(as.getD i .d).ab≠(as.getD j .d).ab/\(as.getD i .d).ab≠(as.getD j .d).th/\(as.getD i .d).th≠(as.getD j .d).th
def Z7.same{a b:aj}{H e:Hp}{S d k:aj}{n:jq}{m:jo}{g:Nat->jo}{j:Nat->Nat}{f:jx}{c:List (ZR×V)}{l:je}(h:Z7 a b H S d k n m g j f c l)(s:ZC H e):Z7 a b e S d k n m g j f c l:=
 ⟨h.sh.same s,h.keys,h.val,h.lt,h.len,λi o=>(h.tw i o).same s,h.own,h.two⟩
def P1.frame{b:aj}{H H':Hp}{e:jq}{c:Nat->jo}{d:Nat->Nat}{i:Nat}{a:YB}(h:P1 b H e c d i a)(m:YK H H')(q:∀ o,H a.x=some o->H' a.x=some o)(p:∀ o,H a.th=some o->H' a.th=some o)(n:∀ o,H a.ab=some o->H' a.ab=some o):P1 b H' e c d i a:=by
 obtain⟨r,g,j,k⟩:=h.things;obtain⟨f,l⟩:=h.tw.self;exact⟨⟨⟨f,q _ l⟩,n _ h.tw.above⟩,⟨r,p _ g,λz=>(j z).mono m _ _,k⟩,h.tag.mono m⟩
def Z7.none{b c:aj}{H:Hp}{S d o:aj}{q:jq}{f:jo}{j:Nat->jo}{n:Nat->Nat}{g:jx}{a:List (ZR×V)}{p:je}(h:Z7 b c H S d o q f j n g a p){x:Int}(e:YS f x=false):Z5 a (Sum.inl x)=uD:=by
 cases z:Z5 a (Sum.inl x) with
 | none=>rfl
 | some v=>
  have:=Oy z;rw[h.keys] at this;obtain⟨i,m,l⟩:=zM.mp this;have k:=Sum.inl.inj l;unfold YS at e;refine absurd ⟨∅,?_⟩ (of_decide_eq_false e)
  rw[<-k];exact m
def Nt{a:jo}{x:Int}(h:YS a x=true):∃ i:Nat,x=(i:Int)/\i∈a:=by
 unfold YS at h;have:=of_decide_eq_true h;exact⟨x.toNat,∅,this.2⟩
def E3(F:Zj K "label_over" "label_over" Lp f fd)(a2:K.In jV)(T:YO mg)(L:XS P w K mg jV CS)(DS:ZB P w K mg jV 8 "stand_side_by_side" zEx Vs):ZI P w K mg jV (Z9 P w) 9 f fd ["labels"] (VY CS):=by
 refine F.kD UV λc3 A a7 s H vs Q E hr h=>?_;obtain⟨l,q,r,rfl,hl,hk,hf,a8,k⟩:=h;have nd:=UV.nd;have a1:=hk.1;obtain⟨tf,mf⟩:=T.few;obtain⟨tm,mm⟩:=T.most;obtain⟨t0,m0⟩:=T.height;obtain⟨t1,m1⟩:=T.least;obtain⟨t2,m2⟩:=T.greatest;obtain⟨t3,m3⟩:=T.many;intro Xc;refine⟨_,ZQ (Zv (XU (Mh QQ QQ (WH (v:=.int 2) rfl mf ⟨_,rfl⟩) (Zm WA rfl T.len XQ (ZX (pv 0))) (WH (v:=.int 4) rfl mm ⟨_,rfl⟩))) (ZU (Ji U8 (He a2 L.stem L.exk) L.kp L.mB L.ty rfl)) Z1)
  (ZQ (VV MG rfl (Nh rfl T.range (Zg ZN (Zm WA rfl T.len XQ (ZX (pv 0))))) (Yb 1 nd)
   (ZU (Zv (XU (Ye (Zp DS hr (Zg (Zk K (pv 0) (Zu QI (pv 1) ZN)) (Zk K (pv 0) (pv 1)))))) (ZU (Ji U8 (He a2 L.stem L.exk) L.kp L.mB L.ty rfl)) Z1)))
  (ZQ (Zw 2 nd (Zm (BP rfl) rfl T.sum ZN6 (ZX (QO [] [] rfl (WZ (pv 0)) (λ_ _ _ _ _=>UG) (λ_ _ _ _ _=>Zk K (pv 0) (WH (v:=.int 3) rfl m3 ⟨_,rfl⟩)) trivial))))
  (ZU (Zn (Yq (Pc (Zu WI (Zk K (Zk K (pv 0) ZN) (WH (v:=.int 0) rfl m0 ⟨_,rfl⟩)) ZN)
   (Zk K (Zk K (pv 0) ZN) (WH (v:=.int 1) rfl m1 ⟨_,rfl⟩))
   (Zk K (Zk K (pv 0) (Pi Pt ZN)) (WH (v:=.int 2) rfl m2 ⟨_,rfl⟩))
   (pv 2))))))),?_⟩
 have S:∀(X:Hp)(i:Nat),ZC H X->i<q.length->∃(a:aj)(I G:V),q[i]? = some (.ref a)/\X a=some (.tup [.int (r.getD i .d).h,I,G,.int (r.getD i .d).m])/\ZG X (r.getD i .d).lo I/\ZG X (r.getD i .d).hi G:=λX i s' M=>by
  have hu:q[i]? = some q[i]:=zU M;obtain⟨a,I,G,e,e1,k1,k2⟩:=(hk.2 i _ hu).mono (ZC.tups s');exact⟨a,I,G,by rw[hu,e],e1,k1,k2⟩
 exists _,rfl,l,q,rfl,.inl (ZH.of hl),_,_,rfl,rfl,_,rfl;rcases yO q.length 2 with h2 | h2
 ·rw[aJ (show ¬ (2:Int)<=(q.length:Int) by lia (splits:=8))]
  refine Zl ⟨_,rfl,Z8 ?_⟩;exact(k H (ZC.refl H)).1 (Gu (by lia (splits:=8)))
 rw[aK (show (2:Int)<=(q.length:Int) by lia (splits:=8))]
 refine Z8 ⟨_,_,rfl,rfl,_,rfl,?_⟩;rcases yO 4 q.length with h4 | h4
 ·rw[aJ (show ¬ (q.length:Int)<=4 by lia (splits:=8))]
  refine Z8 ?_;exact(k H (ZC.refl H)).1 (Gu (by lia (splits:=8)))
 rw[aK (show (q.length:Int)<=4 by lia (splits:=8))]
 refine Zl ?_;exists _,rfl,l,q,rfl,.inl (ZH.of hl),1,(q.length:Int),rfl,⟨by lia (splits:=8),by lia (splits:=8),by lia (splits:=8),by lia (splits:=8)⟩
 refine Pa (lo:=1) (n:=((q.length:Int)-1).toNat) (λi σ Y=>∃ x:jf,σ=[some (.ref l),x,none]/\ZC H Y/\∀ j,j<i->Uy (r.getD j .d) (r.getD (j+1) .d)=true) ⟨_,rfl,ZC.refl H,λj hj=>absurd hj (by lia (splits:=8))⟩ ?_ ?_
 ·rintro i σ Y M ⟨x,rfl,B,O⟩;have a3:i+1<q.length:=by lia (splits:=8)
  have ua:q[i]? = some (q[i]'(by lia (splits:=8))):=zU (by lia (splits:=8))
  have ub:q[i+1]? = some q[i+1]:=zU a3;have e1:(1:Int)+(i:Int)=((i+1:Nat):Int):=by lia (splits:=8)
  have e0:(1:Int)+(i:Int)-1=((i:Nat):Int):=by lia (splits:=8)
  have t:=B _ _ hl;refine⟨_,rfl,_,rfl,_,_,rfl,rfl,.inl ⟨l,q,_,_,rfl,rfl,ZH.of t,(by rw[e0];exact WD ua),?_⟩⟩
  refine⟨_,rfl,_,rfl,.inl ⟨l,q,_,_,rfl,rfl,ZH.of t,(by rw[e1];exact WD ub),?_⟩⟩
  refine⟨_,_,r.getD i .d,r.getD (i+1) .d,rfl,(hk.2 i _ ua).mono (ZC.tups B),(hk.2 (i+1) _ ub).mono (ZC.tups B),hf i,hf (i+1),λu U=>⟨_,rfl,?_⟩⟩
  cases hc:Uy (r.getD i .d) (r.getD (i+1) .d) with
  | true=>
   refine Zl ⟨_,rfl,B.trans U,λj hj=>?_⟩;rcases yO j i with c1 | c1
   ·exact O j c1
   ·have:j=i:=by lia (splits:=8)
    rw[this];exact hc
  | false=>exact Z8 ((k u (B.trans U)).1 (BA (by lia (splits:=8)) hc))
 rintro σ Y ⟨x,rfl,B,O⟩;have ho:=F5 (ls:=r) (by lia (splits:=8)) (by lia (splits:=8)) λj hj=>O j (by lia (splits:=8))
 have t:=B _ _ hl;exists _,rfl,l,rfl,⟨q,ZH.of t⟩;refine UM (n:=q.length) (λi z=>q[i]? = some z) (λD i W u=>ZC Y u/\Y D=none/\W=((r.map YU.m).take i).map V.int) (YQ (by lia (splits:=8)))
  (λD i W u M y=>⟨q,q[i],ZH.of (y.1 _ _ t),by simp[M]⟩) (λD i W u z H4 M y hy=>⟨hy.1,hy.2 q (ZH.of (y.1 _ _ t))⟩) (λD W u y=>⟨q,ZH.of (y.1 _ _ t),zY _⟩)
  (λD hD=>⟨Za hD _,hD,rfl⟩) (λD i W u z eD c5 M hz y R hR=>?_) (λD W u eD y=>?_)
 ·obtain⟨U,nD,rfl⟩:=y;obtain⟨a,c0,a9,ua,ea,c6,c7⟩:=S u i (B.trans U) M;rw[ua] at hz;cases hz;refine⟨_,rfl,.inr (.inl ⟨a,_,_,.int (r.getD i .d).m,rfl,rfl,Zd.of ea,rfl,?_⟩)⟩;refine hR _ u eD ⟨λb o e=>by rw[ZM (ZY e nD)];exact U b o e,nD,?_⟩
  have eg:(r.map YU.m)[i]? = some (r.getD i .d).m:=by
   rw[zJ,zP,zU (show i<r.length by lia (splits:=8))]
   rfl
  rw[yD,eg,yR];rfl
 ·obtain⟨U,nD,rfl⟩:=y;rw[yF (by rw[zX];lia (splits:=8))] at eD
  exists D,r.map YU.m,rfl,ZH.of eD;have C:=B.trans U;have N:=C _ _ hl;obtain⟨c,a0,c4,uc,ec,a6,c9⟩:=S u 0 C (by lia (splits:=8))
  obtain⟨b,c2,Z,ub,eb,c8,a5⟩:=S u (q.length-1) C (by lia (splits:=8))
  have J:XX q (-1)=some (.ref b):=by
   have e:q=q.dropLast++[.ref b]:=by
    have a4:q≠[]:=λz=>by rw[z] at h2;simp at h2
    have hg:q.getLast a4=.ref b:=by
     rw[rW];have:=(yJ.mp ub).2;exact this
    rw[<-hg,qX]
   rw[e];exact Kb _ _
  refine⟨_,rfl,.inl ⟨l,q,_,.ref c,rfl,rfl,ZH.of N,WD (j:=0) uc,.inr (.inl ⟨c,_,_,.int (r.getD 0 .d).h,rfl,rfl,Zd.of ec,rfl,_,_,rfl,rfl,?_⟩)⟩⟩;refine⟨_,rfl,.inl ⟨l,q,_,.ref c,rfl,rfl,ZH.of N,WD (j:=0) uc,.inr (.inl ⟨c,_,_,a0,rfl,rfl,Zd.of ec,rfl,?_⟩)⟩⟩;refine⟨_,rfl,1,rfl,.inl ⟨l,q,_,.ref b,rfl,rfl,ZH.of N,J,.inr (.inl ⟨b,_,_,Z,rfl,rfl,Zd.of eb,rfl,?_⟩)⟩⟩;exists _,rfl,YC;intro p hp;have g:=Za hp (.tup [.int ((r.getD 0 .d).h+1),a0,Z,.int (r.map YU.m).sum]);refine(k _ (C.trans g)).2 _ _ ho ?_;rw[<-a1];exact .tup ZK (.cons (.int _) (.cons (a6.sm g) (.cons (a5.sm g) (.cons (.int _) .nil))))
abbrev LQ:Stmt:=Xf (top 36) 19
inductive Yv(jg jh CT:aj)(p:je)(H:Hp)(Q:VK)(E:XK):Prop
 |mk(S d n l:aj)(h:jq)(g:jo)(k:Nat->jo)(m:Nat->Nat)(j:jx)(e:List (ZR×V))(o:je)(c:jz)(_:p=[.ref S,.ref l])(_:Z7 jg jh H S d n h g k m j e o)(_:H l=some (.lst (c.map V.int)))(_:c.length<=100)(_:∀ x,c.find? (λx=>!YS g x)=some x->UF CT x E H)(_:∀ bs:jo,c=bs.map (λb:Nat=>(b:Int))->(∀ b∈bs,b∈g)->∀(D:aj)(i:je)(a:Hp),ZC H a->H D=none->a D=some (.lst i)->YR a (YW h bs) i->Q (.ref D) a)
def Bm:ZA zEh zEh (Zc LQ):=Zz
def Dk(F:Zj K "labels_of" "Shelf.labels_of" LQ f fd)(L:Yg K mg jg jh)(DL:ZE P w K mg jV (Z9 P w) 4 jg "label" zEa (Xu jg jh CT)):ZI P w K mg jV (Z9 P w) 5 f fd zEh (Yv jg jh CT):=by
 refine F.kD Bm λa1 A Y s H vs Q E hr h=>?_;obtain⟨S,d,lk,l,B,q,av,ho,as,X,ls,j,rfl,R,I,a0,k1,k2⟩:=h;intro Xc;exists _,ZU (Zn (ZJj (E1:=E) [0] zEn U8 (λ_ _ _ h=>h) (WZ (pv 1)) (λ_ _ _ _ _=>UG) (λ_ _ _ _ _ hp=>Y3 (E:=E) (pv 1) L.cS DL hr hp (ZX (pv 0))) ⟨rfl,.inl rfl,rfl,trivial⟩));exists _,rfl,l,rfl,⟨_,ZH.of I⟩;refine UM (n:=j.length) (λi z=>(j.map V.int)[i]? = some z) (λD i r g=>ZC H g/\H D=none/\(j.take i).find? (λx=>!YS q x)=none/\YR g (YW B ((j.take i).map wF)) r) (YQ ∅)
  (λD i r g U k=>⟨_,.int j[i],ZH.of (k.1 _ _ I),by simp[U]⟩) (λD i r g z H4 U k o=>⟨o.1,o.2 _ (ZH.of (k.1 _ _ I))⟩) (λD r g k=>⟨_,ZH.of (k.1 _ _ I),by simp⟩)
  (λD hD=>⟨Za hD _,hD,rfl,rfl,λi u e=>by simp at e⟩) (λD i r g z C a2 U hz k RR T=>?_) (λD us g C k=>?_)
 ·obtain⟨v,N,J,G⟩:=k;rw[zJ] at hz;obtain⟨x,Z,rfl⟩:=yG.mp hz;obtain⟨f1,f2⟩:=Ot J Z;have O:=R.same v;obtain⟨dx,hS⟩:=O.sh.self;refine⟨_,rfl,S,dx,_,rfl,hS,rfl,_,rfl,S,d,lk,B.length,X,ls,x,rfl,O.sh,λtw p=>?_,λp=>?_⟩
  ·have M:YS q x=true:=by
    cases c:YS q x with
    | true=>rfl
    | false=>rw[R.none c] at p;cases p
   obtain⟨m,rfl,a⟩:=Nt M;rw[R.val m a] at p;cases p;have W:=O.tw m a;exists _,_,_,_,_,_,rfl,W.tw;refine T _ g C ⟨UK v N,N,f2 (by rw[M];rfl),?_⟩
   have tD:YK g (upd g D (.lst (r++[.ref (as.getD m .d).tg]))):=λb xs e=>by rw[ZM (ZD e C)];exact e
   rw[yD,Z];have e2:YW B ((j.take i++(some ((m:Nat):Int)).toList).map wF)=YW B ((j.take i).map wF)++[Yh (gd B m)]:=by unfold YW;simp
   rw[e2];exact(G.snoc W.tag).mono tD
  ·have M:YS q x=false:=by
    cases c:YS q x with
    | false=>rfl
    | true=>
     obtain⟨m,rfl,a⟩:=Nt c;rw[R.val m a] at p;cases p
   exact(k1 x (f1 (by rw[M];rfl))).mono v
 ·obtain⟨v,N,J,G⟩:=k;rw[yF (zY _)] at J G;have t:∀ y∈j,YS q y=true:=λy o=>by
   have:=vK.mp J y o;simpa using this
  refine k2 (j.map wF) ?_ (λb hb=>?_) D us g v N C G
  ·rw[zL]
   conv=>lhs;rw[<-List.map_id j]
   refine uJ λy o=>?_;obtain⟨m,rfl,_⟩:=Nt (t y o);simp
  ·obtain⟨y,o,rfl⟩:=zM.mp hb;obtain⟨m,rfl,a⟩:=Nt (t y o);simpa using a
def NE(a:Nat->jo)(b c:Nat):Nat->jo:=λi=>if i=b then a i++[c] else a i
def Ws(a:Nat->Nat)(b:Nat):Nat->Nat:=λi=>if i=b then a i-1 else a i
def Z7.touch{n h:aj}{H p:Hp}{S d I:aj}{K:jq}{C:jo}{j:Nat->jo}{l:Nat->Nat}{f:jx}{s:List (ZR×V)}{J:je}(R:Z7 n h H S d I K C j l f s J){b t:Nat}(q:b∈C)(W:∃ M,p (f.getD b .d).x=some (.ins h M (UP (.ref (f.getD b .d).th) (.ref (f.getD b .d).tg) (f.getD b .d).ab (l b-1))))(U:p (f.getD b .d).ab=some (.lst (iN (j b++[t]))))(k:∀ c o,c≠(f.getD b .d).x->c≠(f.getD b .d).ab->H c=some o->p c=some o):Z7 n h p S d I K C (NE j b t) (Ws l b) f s J:=by
 obtain⟨⟨L,E⟩,B,F⟩:=R.sh;have u:=R.tw b q;obtain⟨N,a⟩:=u.tw.self;have g:=u.tw.above;obtain⟨us,D,P,Q⟩:=u.things;have m:YK H p:=λc xs e=>k c _ (ZD e a) (ZD e g) e;refine⟨⟨⟨L,k _ _ (R.own b q).1.symm (ZD E g) E⟩,k _ _ (ZD B a) (ZD B g) B,k _ _ (ZD F a) (R.own b q).2.1.symm F⟩,R.keys,R.val,R.lt,R.len,λi w=>?_,R.own,R.two⟩;by_cases z:i=b
 ·subst z;have y:NE j i t i=j i++[t]:=aO rfl;have A:Ws l i i=l i-1:=aO rfl;refine⟨⟨?_,?_⟩,⟨us,k _ _ (ZD D a) (R.own i w).2.2.2.symm D,λz=>(P z).mono m _ _,Q⟩,u.tag.mono m⟩
  ·rw[A];exact W
  ·rw[y];exact U
 ·have y:NE j b t i=j i:=aM z;have A:Ws l b i=l i:=aM z;have v:=R.tw i w;obtain⟨Y,Z,t3,t4⟩:=R.two i b w q z;obtain⟨s1,s2,X,s4⟩:=R.two b i q w (Ne.symm z);obtain⟨O,r⟩:=v.tw.self;obtain⟨vs,T,_⟩:=v.things;have G:=v.frame m (λo e=>k _ _ Y (by have:=r.symm.trans e;exact ZD r g) e) (λo e=>k _ _ (ZD T a) X.symm e) (λo e=>k _ _ (ZD v.tw.above a) Z e)
  refine⟨?_,G.things,G.tag⟩;rw[y,A];exact G.tw
abbrev KU:Stmt:=Xf (top 36) 20
inductive YN(jg jh CH:aj)(n:je)(H:Hp)(Q:VK)(E:XK):Prop
 |mk(S d j l:aj)(m:jq)(g:jo)(i:Nat->jo)(a:Nat->Nat)(h:jx)(c:List (ZR×V))(k:je)(bs:jo)(_:n=[.ref S,.ref l])(_:Z7 jg jh H S d j m g i a h c k)(_:H l=some (.lst (iN bs)))(_:∀ b∈bs,b∈g)(_:∀ b,bs.find? (λb=>decide (a b=0))=some b->UF CH (b:Nat) E H)(_:bs.find? (λb=>decide (a b=0))=none->∀ e,ZC H e->Q .non e)
def XV:ZA ["self","numbers","number"] zEh (Zc KU):=Zz
def BJ(F:Zj K "check_held" "Shelf.check_held" KU f fd)(L:Yg K mg jg jh)(N:XN P w K mg jV "NotHeld" CH)(y:ZE P w K mg jV ZZ 2 jg "outside" zEa (XA jg jh λ_ g _=>.int g)):ZI P w K mg jV (Z9 P w) 3 f fd zEh (YN jg jh CH):=by
 refine F.kD XV λz A q s H vs Q E v h=>?_;obtain⟨S,d,U,l,Y,lv,av,g,as,p,W,bs,rfl,R,t,M,O,T⟩:=h;have X:=XV.nd;intro Z;refine⟨_,ZU (VV MG rfl (WZ (pv 1)) (Yb 2 X)
  (ZU (Zv (YJ WW (Y3 (E:=E0) (pv 0) L.cS y v Yu (ZX (pv 2))) ZN (Z3 _)) (ZU (Mj U8 N v (ZX (pv 2)) rfl)) Z1))),?_⟩
 refine⟨_,rfl,l,rfl,⟨_,ZH.of t⟩,Ql (K:=K) (a:=l) (xs:=iN bs) (λi n k=>∃ x:jf,n=[some (.ref S),some (.ref l),x]/\k=H/\(bs.take i).find? (λb=>decide (g b=0))=none) ⟨_,rfl,rfl,rfl⟩ (λi n k _ I=>by obtain⟨_,_,rfl,_⟩:=I;exact ZH.of t) ?_ ?_⟩
 ·rintro i u n k e ⟨x,rfl,rfl,m⟩;unfold iN at e;rw[zJ] at e;obtain⟨b,r,rfl⟩:=yG.mp e;have j:=M b (zA r);obtain⟨D,G⟩:=Ot m r;obtain⟨B,J⟩:=R.sh.self;exists _,rfl,S,B,_,rfl,J,rfl,_,rfl,S,d,U,Y.length,p,W,(b:Int),_,_,_,_,_,_,rfl,⟨R.sh,R.val b j,(R.tw b j).tw⟩;exists rfl,_,rfl;have C:decide (V.int (g b:Nat)=V.int 0)=decide (g b=0):=by
   rw[xH];simp
  rw[C]
  cases c:decide (g b=0) with
  | true=>exact Z8 ⟨_,rfl,_,rfl,λdd o=>(O b (D c)).go (ZC.refl _) o⟩
  | false=>exact Zl ⟨_,rfl,rfl,G c⟩
 ·rintro n k ⟨x,rfl,rfl,m⟩;rw[show (iN bs).length=bs.length from zX _,yF (zY _)] at m;exact T m _ (ZC.refl _)
def Vg(bs:jo)(b:Nat)(a:Nat->jo):Nat->jo:=λi=>if i∈bs then a i++[b] else a i
def WG(bs:jo)(a:Nat->Nat):Nat->Nat:=λi=>if i∈bs then a i-1 else a i
def C0{bs:jo}{b a:Nat}{c:Nat->jo}(h:b∉bs):NE (Vg bs a c) b a=Vg (bs++[b]) a c:=by
 funext i
 unfold NE Vg;by_cases z:i=b
 ·subst z;rw[aO rfl,aM h,aO (by simp)]
 ·rw[aM z];by_cases y:i∈bs
  ·rw[aO y,aO (by simp[y])]
  ·rw[aM y,aM (by simp[y,z])]
def HG{bs:jo}{b:Nat}{a:Nat->Nat}(h:b∉bs):Ws (WG bs a) b=WG (bs++[b]) a:=by
 funext i
 unfold Ws WG;by_cases z:i=b
 ·subst z;rw[aO rfl,aM h,aO (by simp)]
 ·rw[aM z];by_cases y:i∈bs
  ·rw[aO y,aO (by simp[y])]
  ·rw[aM y,aM (by simp[y,z])]
abbrev LW:Stmt:=Xf (top 36) 21
inductive Yx(jg jh:aj)(q:je)(H:Hp)(Q:VK)(_:XK):Prop
 |mk(S d k l:aj)(p:jq)(g:jo)(i:Nat->jo)(j:Nat->Nat)(a:jx)(e:List (ZR×V))(m:je)(bs:jo)(n:Nat)(_:q=[.ref S,.int n,.ref l])(_:Z7 jg jh H S d k p g i j a e m)(_:H l=some (.lst (iN bs)))(_:bs.Nodup)(_:∀ b∈bs,b∈g/\1<=j b/\(i b).length<=900)(_:∀ b:Nat,b∈g->l≠(a.getD b .d).ab)(_:∀ h:Hp,(∀ c o,(∀ b:Nat,b∈g->c≠(a.getD b .d).x/\c≠(a.getD b .d).ab)->H c=some o->h c=some o)->(∀ c,h c=none->H c=none)->Z7 jg jh h S d k p g (Vg bs n i) (WG bs j) a e m->Q .non h)
abbrev ZH8:jr:=["self","stem","branches","branch","twig"]
def Xz:ZA ZH8 zEw (Zc LW):=Zz
def ZFr(F:Zj K "take_over" "Shelf.take_over" LW f fd)(L:Yg K mg jg jh)(DT:ZE P w K mg jV ZZ 1 jg "twig_of" zEa (Zo jg)):ZI P w K mg jV ZZ 2 f fd zEw (Yx jg jh):=by
 refine F.ko Xz λa2 A a1 s H vs Q E hr h=>?_;obtain⟨S,d,lk,l,ts,lv,v,j,g,T,ls,bs,W,rfl,R,hl,N,Y,a0,k⟩:=h;have nd:=Xz.nd;intro Xc;refine⟨_,ZU (VV PassesOwn.never rfl (WZ (pv 2)) (Yb 3 nd)
  (ZQ (Zw 4 nd (Y3 (E:=E0) (pv 0) L.cS DT hr Yu (ZX (pv 3))))
  (ZQ (KK (pv 4) ZN Gj)
  (ZU (Xe (Vh yM xL xK UI (X8 (pv 4) rfl) (ZX (pv 1)))))))),?_⟩
 refine⟨_,rfl,l,rfl,⟨_,ZH.of hl⟩,Ql (K:=K) (a:=l) (xs:=iN bs) (λi Z m=>∃ x y:jf,Z=[some (.ref S),some (.int W),some (.ref l),x,y]/\(∀ c o,(∀ b:Nat,b∈lv->c≠(g.getD b .d).x/\c≠(g.getD b .d).ab)->H c=some o->m c=some o)/\(∀ c,m c=none->H c=none)/\Z7 jg jh m S d lk ts lv (Vg (bs.take i) W v) (WG (bs.take i) j) g T ls)
  ⟨_,_,rfl,λc o _ e=>e,λc e=>e,(by
   have e1:Vg [] W v=v:=funext λi=>aM (by simp)
   have e2:WG [] j=j:=funext λi=>aM (by simp)
   rw[show bs.take 0=[] from rfl,e1,e2];exact R)⟩ ?_ ?_ ?_⟩
 ·rintro i Z m _ ⟨x,y,rfl,O,_,R2⟩;refine ZH.of (O _ _ (λb Y=>⟨?_,a0 b Y⟩) hl);obtain⟨dx,I⟩:=(R.tw b Y).tw.self;exact ZD hl I
 ·rintro i u Z m C ⟨x,y,rfl,O,k3,R2⟩;unfold iN at C;rw[zJ] at C;obtain⟨b,eb,rfl⟩:=yG.mp C;obtain⟨r,a3,a4⟩:=Y b (zA eb);have t:b∉bs.take i:=λz=>by
   have hs:bs=bs.take i++b::bs.drop (i+1):=by
    have hi:=(yJ.mp eb);obtain⟨hi,e⟩:=hi;rw[<-e,<-wK hi,sV]
   rw[hs,List.nodup_append] at N;exact N.2.2 b z b (by simp) rfl
  have M:WG (bs.take i) j b=j b:=aM t;have J:Vg (bs.take i) W v b=v b:=aM t;obtain⟨dS,hS⟩:=R2.sh.self;have Wb:=R2.tw b r;obtain⟨q,I⟩:=Wb.tw.self;have B:=Wb.tw.above;rw[M] at I;rw[J] at B;exists _,rfl,S,dS,_,rfl,hS,rfl,_,rfl,S,d,lk,ts.length,T,ls,(b:Int),.ref (g.getD b .d).x,rfl,R2.sh,R2.val b r;exists _,rfl,(g.getD b .d).x,jh,q,_,.int (j b:Nat),rfl,I,L.cT,L.nho,rfl,_,_,rfl,rfl,q,_,I,yP rfl;have eh:((j b:Nat):Int)-1=((j b-1:Nat):Int):=∅
  have D:upd m (g.getD b .d).x (.ins jh q (Yr "holds" (.int (((j b:Nat):Int)-1)) (UP (.ref (g.getD b .d).th) (.ref (g.getD b .d).tg) (g.getD b .d).ab (j b)))) (g.getD b .d).x=some (.ins jh q (UP (.ref (g.getD b .d).th) (.ref (g.getD b .d).tg) (g.getD b .d).ab (j b-1))):=by rw[ZK,eh];rfl
  have X:(g.getD b .d).ab≠(g.getD b .d).x:=ZD B I;have p:upd m (g.getD b .d).x (.ins jh q (Yr "holds" (.int (((j b:Nat):Int)-1)) (UP (.ref (g.getD b .d).th) (.ref (g.getD b .d).tg) (g.getD b .d).ab (j b)))) (g.getD b .d).ab=some (.lst (iN (v b))):=by rw[ZM X];exact B
  have G:∀ c o,c≠(g.getD b .d).x->m c=some o->upd m (g.getD b .d).x (.ins jh q (Yr "holds" (.int (((j b:Nat):Int)-1)) (UP (.ref (g.getD b .d).th) (.ref (g.getD b .d).tg) (g.getD b .d).ab (j b)))) c=some o:=λc o n e=>by rw[ZM n];exact e
  have U:∀ c,upd m (g.getD b .d).x (.ins jh q (Yr "holds" (.int (((j b:Nat):Int)-1)) (UP (.ref (g.getD b .d).th) (.ref (g.getD b .d).tg) (g.getD b .d).ab (j b)))) c=none->m c=none:=λc e=>by
   by_cases z:c=(g.getD b .d).x
   ·rw[z,ZK] at e;cases e
   ·rw[ZM z] at e;exact e
  generalize upd m (g.getD b .d).x (.ins jh q (Yr "holds" (.int (((j b:Nat):Int)-1)) (UP (.ref (g.getD b .d).th) (.ref (g.getD b .d).tg) (g.getD b .d).ab (j b))))=H3 at D p G U⊢;exists _,rfl,(g.getD b .d).x,jh,q,_,.ref (g.getD b .d).ab,rfl,D,L.cT,L.nab,rfl,.inl ⟨rfl,_,ZH.of p⟩,_,rfl,(g.getD b .d).ab,_,.int W,rfl,rfl,p,YQ (by rw[show (iN (v b)).length=(v b).length from zX _];lia)
  have et:bs.take (i+1)=bs.take i++[b]:=by rw[yD,eb];rfl
  exists _,_,rfl,λc o hc e=>?_,λc e=>?_
  ·obtain⟨n1,n2⟩:=hc b r;rw[ZM n2];exact G _ _ n1 (O c o hc e)
  ·by_cases z:c=(g.getD b .d).ab
   ·rw[z,ZK] at e;cases e
   ·rw[ZM z] at e;exact k3 c (U c e)
  ·rw[et,<-C0 t,<-HG t];refine R2.touch r ⟨q,?_⟩ ?_ λc o n1 n2 e=>?_
   ·rw[ZM (Ne.symm X),M];exact D
   ·rw[ZK,J];simp[iN]
   ·rw[ZM n2];exact G _ _ n1 e
 ·rintro Z m ⟨x,y,rfl,O,k3,R2⟩;rw[show (iN bs).length=bs.length from zX _,yF (zY _)] at R2;exact k m O k3 R2
def BM{X:Cx}{k:Nat}{C:aj}{x:Str}{o:jr}{h:Sp}{e:Expr}{a:jy}{t:TA}{p c:aI}(D:UD X.prog X.w X.K X.mg X.base k C o h)(n:ZW (k+1) X.A)(l:Gl X x)(m:X.mg x=some (.ref C))(i:PA X (e::a) t)(d:(x==("__debug__" : Str))=false:=by decide)(j:aq (e::a) X.env=(false,aG e X.env)::aq a X.env:=by rfl)(g:(aE c (aq a X.env)).any (·.1)=false:=by rfl):
  PE X (.Call (.Name x p) (e::a) [] c) (N3 C h [] E0 t):=by
 obtain⟨f,q,M,F,b⟩:=D.ex;exact AE M F n l m b .nil Yu i d j g
def ZNL{X:Cx}{k:Nat}{C:aj}{x:Str}{i:jr}{d:Sp}{p c:aI}(D:UD X.prog X.w X.K X.mg X.base k C i d)(h:ZW (k+1) X.A)(e:Gl X x)(g:X.mg x=some (.ref C))(a:(x==("__debug__" : Str))=false:=by decide):PE X (.Call (.Name x p) [] [] c) (N3 C d [] E0 VP):=by
 obtain⟨f,j,M,F,b⟩:=D.ex;exact AM M F h e g b .nil Yu a
def Xk(n:Nat)(a:Nat->jo):Nat->jo:=λi=>if i=n then [] else a i
def Y8(n:Nat)(a:Nat->Nat):Nat->Nat:=λi=>if i=n then 1 else a i
def Q2{a:jq}{t:ZT}{i:Nat}(h:i<a.length):gd (a++[t]) i=gd a i:=by
 unfold gd;rw[zP,wS h,<-zP]
def Qw{a:jq}{t:ZT}:gd (a++[t]) a.length=t:=by
 unfold gd;rw[zP,wR (zY _)];simp
def M7{b:jx}{a:YB}{i:Nat}(h:i<b.length):(b++[a]).getD i .d=b.getD i .d:=by
 rw[zP,wS h,<-zP]
def Mp{b:jx}{a:YB}:(b++[a]).getD b.length .d=a:=by
 rw[zP,wR (zY _)];simp
def GX{u l:aj}{H H':Hp}{S d M:aj}{f:jq}{D:jo}{B:Nat->jo}{L:Nat->Nat}{n:jx}{q:List (ZR×V)}{Y:je}(R:Z7 u l H S d M f D B L n q Y){t:ZT}{x th tg ab:aj}(O:∀ b o,b≠S->b≠d->H b=some o->H' b=some o)(nx:H x=none)(s:H th=none)(r:H ab=none)(I:ab≠th)(R':Y5 u H' S d M (f.length+1) (Z2 q (.inl (f.length:Int)) (.ref x)) Y)(W:WM l H' x (.ref th) (.ref tg) ab 1 [])(X:∃ k,H' th=some (.lst k)/\(t.h=0->jP H' (Y0 t.rows) k)/\(t.h≠0->k=iN t.bs))(U:YV H' (Yh t) (.ref tg)):
  Z7 u l H' S d M (f++[t]) (D++[f.length]) (Xk f.length B) (Y8 f.length L) (n++[⟨x,th,tg,ab⟩]) (Z2 q (.inl (f.length:Int)) (.ref x)) Y:=by
 obtain⟨⟨dS,P⟩,Q,hl⟩:=R.sh;have m:YK H H':=λc xs e=>O c _ (ZD e P) (ZD e Q) e;have en:(f++[t]).length=f.length+1:=by simp
 have nv:Z5 q (Sum.inl (f.length:Int))=none:=R.none (by unfold YS;exact aJ λz=>by have:=R.lt _ z.2;lia)
 have a:∀ i,i∈D++[f.length]->i∈D\/i=f.length:=λi g=>by simpa using g
 have Z:n.length=f.length:=R.len;have A:∀ i,i∈D->(n++[(⟨x,th,tg,ab⟩:YB)]).getD i .d=n.getD i .d:=λi g=>M7 (by have:=R.lt i g;lia)
 have E:(n++[(⟨x,th,tg,ab⟩:YB)]).getD f.length .d=⟨x,th,tg,ab⟩:=by rw[<-Z];exact Mp
 have y:∀ i,i∈D->∃ C k o,H (n.getD i .d).x=some (.ins l C k)/\H (n.getD i .d).th=some (.lst o)/\H (n.getD i .d).ab=some (.lst (iN (B i))):=λi g=>by
  obtain⟨C,v⟩:=(R.tw i g).tw.self;obtain⟨k,p,_⟩:=(R.tw i g).things;exact⟨C,_,k,v,p,(R.tw i g).tw.above⟩
 have nS:x≠S:=(ZY P nx).symm;have F:ab≠M:=(ZY hl r).symm;have N:th≠M:=(ZY hl s).symm;refine⟨by rw[en];exact R',?_,λi g=>?_,λi g=>?_,by simp[Z],λi g=>?_,λi g=>?_,λi j g hj K=>?_⟩
 ·rw[Jd _ nv,yR,R.keys,yR];rfl
 ·rw[OF];rcases a i g with c | rfl
  ·have T:=R.lt i c;rw[aM (λz=>by have:=Sum.inl.inj z;lia),A i c]
   exact R.val i c
  ·rw[aO rfl,E]
 ·rw[en];rcases a i g with c | rfl
  ·exact vX (R.lt i c)
  ·exact yE _
 ·rcases a i g with c | rfl
  ·have Wi:=R.tw i c;obtain⟨C,k,o,v,p,w⟩:=y i c;have T:=R.lt i c;have ni:i≠f.length:=∅
   have G:=Wi.frame m (λo' e=>O _ _ (R.own i c).1 (ZD v Q) e) (λo' e=>O _ _ (ZD p P) (ZD p Q) e) (λo' e=>O _ _ (ZD w P) (ZD w Q) e);rw[A i c];exists ?_,?_
   ·rw[show Xk f.length B i=B i from aM ni,show Y8 f.length L i=L i from aM ni];exact G.tw
   ·rw[Q2 T];exact G.things
   ·rw[Q2 T];exact G.tag
  ·rw[E];exists ?_,?_
   ·rw[show Xk f.length B f.length=[] from aO rfl,show Y8 f.length L f.length=1 from aO rfl];exact W
   ·rw[Qw];exact X
   ·rw[Qw];exact U
 ·rcases a i g with c | rfl
  ·rw[A i c];exact R.own i c
  ·rw[E];exact⟨nS,F,N,I⟩
 ·rcases a i g with c | rfl
  ·rw[A i c];rcases a j hj with J | rfl
   ·rw[A j J];exact R.two i j c J K
   ·rw[E];obtain⟨C,k,o,v,p,w⟩:=y i c;exact⟨ZY v nx,ZY w r,ZY w s,ZY p s⟩
  ·rw[E];rcases a j hj with J | rfl
   ·rw[A j J];obtain⟨C,k,o,v,p,w⟩:=y j J;exact⟨(ZY v nx).symm,(ZY w r).symm,(ZY p r).symm,(ZY p s).symm⟩
   ·exact absurd rfl K
inductive Yp(jg jh:aj)(k:je)(H:Hp)(Q:VK)(_:XK):Prop
 |mk(S d g:aj)(n:Nat)(a:List (ZR×V))(h:je)(j i:V)(_:k=[.ref S,j,i])(_:Y5 jg H S d g n a h)(_:a.length<=900)(_:∀(c:Hp)(x e:aj),H x=none->H e=none->(∀ b o,b≠S->b≠d->H b=some o->c b=some o)->Y5 jg c S d g (n+1) (Z2 a (.inl (n:Int)) (.ref x)) h->WM jh c x j i e 1 []->Q (.int (n:Int)) c)
def WQ:ZA ["self","things","label","number"] zEs (Zc Lz):=Zz
def BV(F:Zj K "put_twig" "Shelf.put_twig" Lz f fd)(L:Yg K mg jg jh)(DM:UD P w K mg jV 1 jh zEu (Ug jh)):ZI P w K mg jV ZZ 3 f fd zEs (Yp jg jh):=by
 refine F.ko WQ λa1 A Y s H vs Q E hr h=>?_;obtain⟨S,d,c,n,T,ls,th,tg,rfl,R,a0,k⟩:=h;have nd:=WQ.nd;have hu:=Wj hr;intro Xc;refine⟨_,ZQ (Zw 3 nd (X8 (pv 0) rfl)) (ZQ (QY (pv 0) (Zu WI (pv 3) ZN) rfl)
  (ZQ (QT hu (X8 (pv 0) rfl) (pv 3) (BM DM hr rfl L.twig (Zg (pv 1) (pv 2))) rfl) (ZU (Zn (pv 3))))),?_⟩
 obtain⟨⟨a,y⟩,J,M⟩:=R;have Z:S≠d:=ZD y J;have Sl:S≠c:=ZD y M;have dl:d≠c:=ZD J M;exists _,rfl,S,jg,a,_,.int n,rfl,y,L.cS,L.nf,rfl;exists _,rfl,_,_,rfl,rfl,_,rfl,S,jg,a,_,rfl,y,L.cS,L.nf,yP rfl;have l:upd H S (.ins jg a (Yr "following" (.int ((n:Int)+1)) (QS d c n))) S=some (.ins jg a (QS d c (n+1))):=ZK;have q:upd H S (.ins jg a (Yr "following" (.int ((n:Int)+1)) (QS d c n))) d=some (.dK T):=by rw[ZM (Ne.symm Z)];exact J
 have r:upd H S (.ins jg a (Yr "following" (.int ((n:Int)+1)) (QS d c n))) c=some (.lst ls):=by rw[ZM (Ne.symm Sl)];exact M
 have u:∀ b o,b≠S->H b=some o->upd H S (.ins jg a (Yr "following" (.int ((n:Int)+1)) (QS d c n))) b=some o:=λb o n e=>by rw[ZM n];exact e
 have j:∀ b,upd H S (.ins jg a (Yr "following" (.int ((n:Int)+1)) (QS d c n))) b=none->H b=none:=λb e=>by
  by_cases z:b=S
  ·rw[z,ZK] at e;cases e
  ·rw[ZM z] at e;exact e
 generalize upd H S (.ins jg a (Yr "following" (.int ((n:Int)+1)) (QS d c n)))=B at l q r u j⊢;exists _,rfl,_,rfl;intro x G nx V ne;have g1:=Za V (.own x);have X:upd B G (.own x) x=none:=by rw[ZM (Ne.symm ne)];exact nx
 have g2:=Za X (.ins jh G []);have g:=g1.trans g2;refine⟨x,G,th,tg,rfl,ZK,λH2 C O U W=>⟨rfl,?_⟩⟩;have v:∀ b o,B b=some o->H2 b=some o:=λb o e=>O b o (ZY e nx) (g b o e);have m:=v _ _ l;have i:=v _ _ q;have N:=v _ _ r;have p:B C=none:=g.free U;obtain⟨I,t⟩:=W.self;have xd:x≠d:=ZD t i;have D:C≠d:=ZD W.above i;exists _,rfl,S,jg,a,_,.ref d,rfl,m,L.cS,L.nk,rfl,_,rfl,d,_,rfl,XI.k (k:=Sum.inl (n:Int)) i (YQ ∅)
 refine⟨_,rfl,k _ x C (j _ nx) (j _ p) (λb o n1 n2 e=>?_) ⟨⟨a,?_⟩,ZK,?_⟩ ⟨⟨I,?_⟩,?_⟩⟩
 ·rw[ZM n2];exact v b o (u b o n1 e)
 ·rw[ZM Z];exact m
 ·rw[ZM (Ne.symm dl)];exact N
 ·rw[ZM xd];exact t
 ·rw[ZM D];exact W.above
end Tw
namespace Tw
open PySem PySem.Spec L2
variable{jg jh CS CT CH CK CP CB:aj}
def Cf:ZA zE9 zE9 (Zc KP):=Zz
def C5(F:Zj K "has_few_figures" "has_few_figures" KP f fd)(T:YO mg):ZI P w K mg jV ZZ 1 f fd zE9 Vx:=by
 refine F.ok Cf (λc H Q E h=>?_) (λb A a s H c Q E g h=>?_)
 ·obtain⟨i,rfl,_⟩:=h;rfl
 obtain⟨i,rfl,q⟩:=h;intro d;exists _,ZU (Zn (VN OQ (Zm Lh rfl T.abs M8 (Zf (pv 0) Zs)) (Zu GB ZN ZN) (Z3 _)));exists _,rfl,_,rfl,_,_,rfl,rfl,⟨by decide,by decide,by decide⟩,_,_,rfl,rfl
 have e:=ZN4 i;rw[<-e] at q;exact q
def BZ:ZA ["sign"] ["sign"] (Zc LM):=Zz
def EF(F:Zj K "is_sign" "is_sign" LM f fd):ZI P w K mg jV ZZ 1 f fd ["sign"] Wa:=by
 refine F.ok BZ (λk H Q E h=>?_) (λi A d s H k Q E m h=>?_)
 ·obtain⟨c,rfl,_⟩:=h;rfl
 obtain⟨c,rfl,q⟩:=h;intro l;exists _,ZU (Zn (ZKG Jr Jr Ym (pv 0) Ym));have g:(wZ " ").cps.toList=[32]:=by decide +kernel
 have j:(wZ "~").cps.toList=[126]:=by decide +kernel
 have e:=ZJh c;exists _,rfl,_,_,rfl,rfl,_,rfl;refine WV (λb=>?_) (λb=>?_)
 ·exists _,_,rfl,rfl;have a:(!decide ([c]<[32]))=true:=by rw[<-g];exact b
  rw[a,vA] at e;rw[<-e,<-j] at q;exact q
 ·have a:(!decide ([c]<[32]))=false:=by rw[<-g];exact uP.mpr b
  rw[a,uY] at e;rw[<-e] at q;exact q
def ZNU:ZA zEt zEt (Zc MR):=Zz
def ZI6{k:Nat}:ZI P w K mg jV ZZ k f fd zEt (XH 0):=by
 have c:∀ a H Q E,¬ XH 0 a H Q E:=λa H Q E h=>by
  obtain⟨v,t,r,q,_,_,_,d,_⟩:=h
  lia
 exact⟨λa H Q E h=>absurd h (c a H Q E),λA b s H args e a Q E _ _ _ _ h=>absurd h (c a H Q E)⟩
def FM{n:Nat}(F:Zj K "fits" "fits" MR f fd)(T:YO mg)(DW:ZB P w K mg jV 1 "has_few_figures" zE9 Vx)(DS:ZB P w K mg jV 1 "is_sign" ["sign"] Wa)(DF:ZB P w K mg jV (n+1) "fits" zEt (XH n)):ZI P w K mg jV ZZ (n+2) f fd zEt (XH (n+1)):=by
 refine F.ok ZNU (λp H Q E h=>?_) (λa3 A a2 s H p Q E hr h=>?_)
 ·obtain⟨v,t,r,q,rfl,_⟩:=h;rfl
 obtain⟨v,t,r,q,rfl,g,Z,hn,k⟩:=h;have W:=hr.mono (show 1<=n+1 by lia)
 obtain⟨t1,m1⟩:=T.signs;obtain⟨t2,m2⟩:=T.things;intro Xc;refine⟨_,ZQ (Zv (Ye (Zm Xj rfl T.isi Yw (Zf (pv 0) (Zf (XY (v:=.ty "bool") rfl T.bool P7 rfl) Zs)))) (ZU (Zn UQ)) Z1)
  (ZQ (Zv (Ye (Zm Xj rfl T.isi Yw (Zf (pv 0) (Zf (XY (v:=.ty "int") rfl T.int Qo rfl) Zs)))) (ZU (Zn (Zp DW W (Zf (pv 0) Zs)))) Z1)
  (ZQ (Zv (Ye (Zm Xj rfl T.isi Yw (Zf (pv 0) (Zf (XY (v:=.ty "str") rfl T.str Oo rfl) Zs))))
   (ZU (Zn (QN (VN QQ (Zm ZFU rfl T.len XQ (Zf (pv 0) Zs)) (WH (v:=.int 40) rfl m1 ⟨_,rfl⟩) (Z3 _))
    (Pn (Zm (MT rfl) rfl T.all MS (Zf (QO [] [] rfl (BD (pv 0)) (λ_ _ _ _ _=>UG) (λ_ _ _ _ _=>Zp DS W (Zf (pv 0) Zs)) trivial) Zs)))))) Z1)
  (ZQ (Zv (Ye (Zm Xj rfl T.isi Yw (Zf (pv 0) (Zf (XY (v:=.ty "tuple") rfl T.tuple QP rfl) Zs))))
   (ZU (Zn (QN (VN QH (pv 1) ZN (Z3 _)) (QN (VN QQ (Zm WA rfl T.len XQ (Zf (pv 0) Zs)) (WH (v:=.int 4) rfl m2 ⟨_,rfl⟩) (Z3 _))
    (Pn (Zm (MT rfl) rfl T.all MS (Zf (QO [1] ["room"] rfl (Ka (pv 0)) (λ_ _ _ _ _=>UG) (λ_ _ _ _ _=>Zp DF hr (Zf (pv 0) (Zf (Zu QI (pv 1) ZN) Zs))) ⟨rfl,.inl rfl,rfl,trivial⟩) Zs))))))) Z1)
  (ZU (Zn UQ))))),?_⟩
 cases t with
 | int i=>
  have ev:v=.int i:=by rw[ZG] at g;exact g
  subst ev;refine⟨_,rfl,_,_,_,_,rfl,g.ty,Ow,_,rfl,Zl ?_⟩;refine⟨_,rfl,_,_,_,_,rfl,g.ty,Pk,_,rfl,Z8 ?_⟩;have u:=k H (ZC.refl H);rw[KT.fits] at u;exact⟨_,rfl,i,rfl,u⟩
 | str x=>
  have ev:v=.str x:=by rw[ZG] at g;exact g
  subst ev;have hx:Pv x=true:=by rw[KT.fits] at Z;exact Z
  have B:=hx;unfold Pv at B;rw[zT] at B;have O:x.length<=40:=of_decide_eq_true B.1;refine⟨_,rfl,_,_,_,_,rfl,g.ty,Ea,_,rfl,Zl ?_⟩;refine⟨_,rfl,_,_,_,_,rfl,g.ty,KS,_,rfl,Zl ?_⟩;refine⟨_,rfl,_,_,_,_,rfl,g.ty,NK,_,rfl,Z8 ?_⟩;exists _,rfl,x,rfl,nn ∅,_,_,rfl,rfl,_,rfl
  rw[aO (aK (show (x.length:Int)<=40 by lia))]
  exists _,rfl,x,rfl;have a7:x.cps.size<=40:=O;refine UM (n:=x.cps.size) (λi z=>∃ c,x.cps[i]? = some c/\z=.str ⟨#[c]⟩) (λD i m d=>ZC H d/\H D=none/\m=((x.cps.toList.take i).map Uc).map V.bl) (YQ ∅)
   (λD i m d J _=>J) (λD i m d z H4 J _ hy=>hy) (λD m d _=>rfl) (λD N=>⟨Za N _,N,rfl⟩) (λD i m d z G hl J hz j R hR=>?_) (λD m d G j=>?_)
  ·obtain⟨c,hc,rfl⟩:=hz;obtain⟨C,L,rfl⟩:=j;exists _,rfl,c,rfl;refine hR _ d G ⟨λb o e=>by rw[ZM (ZY e L)];exact C b o e,L,?_⟩
   have a0:x.cps.toList[i]? = some c:=by simpa using hc
   rw[yD,a0];simp
  ·obtain⟨C,L,rfl⟩:=j;exists D,_,rfl,ZH.of G;have u:=k d C;rw[KT.fits,hx] at u;have M:(x.cps.toList.take x.cps.size)=x.cps.toList:=yF (by simp)
   rw[M];have I:(x.cps.toList.map Uc).all id=true:=by rw[wG];exact B.2
   rw[I];exact u
 | tup l=>
  have X:=g;rw[ZG] at X;obtain⟨a,p,rfl,I,Y⟩:=X;have hl:=Y.length;rw[KT.fits,zT,zT] at Z;obtain⟨a6,S,U⟩:=Z;have a5:l.length<=4:=of_decide_eq_true S;refine⟨_,rfl,_,_,_,_,rfl,g.ty,Fe,_,rfl,Zl ?_⟩;refine⟨_,rfl,_,_,_,_,rfl,g.ty,LI,_,rfl,Zl ?_⟩;refine⟨_,rfl,_,_,_,_,rfl,g.ty,K1,_,rfl,Zl ?_⟩;refine⟨_,rfl,_,_,_,_,rfl,g.ty,Ma,_,rfl,Z8 ?_⟩;exists _,rfl,_,_,rfl,rfl,_,rfl;refine WV (λc1=>?_) (λc1=>?_)
  ·have r0:0<r:=by
    have:=of_decide_eq_true c1
    lia
   exists _,rfl,a,p,rfl,.inr (Zd.of I),_,_,rfl,rfl,_,rfl;rw[aO (aK (show ((p.length:Nat):Int)<=4 by lia))]
   exists _,rfl,a,rfl,⟨p,Zd.of I⟩;refine UM (n:=p.length) (λi z=>p[i]? = some z) (λD i m d=>ZC H d/\H D=none/\m=((l.take i).map λt=>t.fits (r-1)).map V.bl) (YQ ∅)
    (λD i m d J j=>⟨p,p[i],Zd.of (j.1 _ _ I),by simp[J]⟩) (λD i m d z H4 J j hy=>⟨hy.1,hy.2 p (Zd.of (j.1 _ _ I))⟩) (λD m d j=>⟨p,Zd.of (j.1 _ _ I),zY _⟩)
    (λD N=>⟨Za N _,N,rfl⟩) (λD i m d z G a4 J hz j R hR=>?_) (λD m d G j=>?_)
   ·obtain⟨C,L,rfl⟩:=j;obtain⟨t,M,kt⟩:=Y.get hz;have er:(r:Int)-1=((r-1:Nat):Int):=∅
    have a1:t.fits (q-1)=true:=by
     rw[O5] at U;exact zK.mp U t (zA M)
    exists _,rfl,_,rfl,_,_,rfl,rfl,z,t,r-1,q-1,congrArg (λy=>[z,V.int y]) er,kt.sm C,a1,by lia
    intro H4 s4;refine hR _ H4 (s4 D _ G) ⟨λb o e=>by rw[ZM (ZY e L)];exact s4 b o (C b o e),L,?_⟩
    rw[yD,M];simp
   ·obtain⟨C,L,rfl⟩:=j;exists D,_,rfl,ZH.of G;have u:=k d C;rw[KT.fits,aK r0,vA,S,vA,O5] at u;have M:l.take p.length=l:=yF ∅
    rw[M,wG];exact u
  ·have r0:r=0:=by
    have:¬ ((0:Int)<(r:Int)):=λz=>c1 (aK z)
    lia
   subst r0;have u:=k H (ZC.refl H);rw[KT.fits] at u;exact u
def Fa:ZA zEz zEz (Zc JC):=Zz
def FI(F:Zj K "is_key" "is_key" JC f fd)(T:YO mg)(b:ZB P w K mg jV 5 "fits" zEt (XH 4)):ZI P w K mg jV ZZ 6 f fd zEz Wh:=by
 refine F.ok Fa (λj H Q E h=>?_) (λc A a s H j Q E e h=>?_)
 ·obtain⟨v,t,q,rfl,_⟩:=h;rfl
 obtain⟨v,t,q,rfl,g,d,k⟩:=h;obtain⟨m,i⟩:=T.deep;intro l;exists _,ZU (Zn (Zp b e (Zf (pv 0) (Zf (WH (v:=.int 3) rfl i ⟨_,rfl⟩) Zs))));exact⟨_,rfl,v,t,3,q,rfl,g,d,by decide,k⟩
def HU(T:YO mg)(L:Zh K mg "fits" MR zEt)(b:ZB P w K mg jV 1 "has_few_figures" zE9 Vx)(a:ZB P w K mg jV 1 "is_sign" ["sign"] Wa):∀ n:Nat,ZB P w K mg jV (n+1) "fits" zEt (XH n)
 | 0=>L.of λ_ _ _=>ZI6
 | n+1=>L.of λ_ _ F=>FM F T b a (HU T L b a n)
end Tw
namespace Tw
open PySem PySem.Spec L2 PyProof.Rows
variable{jg jh CS CT CH CK CP CB:aj}
def F2{H:Hp}{b:jF}{c:je}(h:jP H (Y0 b) c):J1 H (b.map (·.1)) c:=by
 have j:c.length=b.length:=by have:=h.length;rw[<-this];exact zX _
 exists by rw[zX];exact j
 intro i u e;obtain⟨a,l,m,g,d,f,k,_⟩:=Ov h e;exists a,l,m,d,f;rw[zP,zJ,g];exact k
inductive Ut(b:je)(H:Hp)(Q:VK)(_:XK):Prop
 |mk(v:V)(t:KT)(_:b=[v])(_:ZG H t v)(_:t.fits 3=true)(_:∀ a,ZC H a->Q v a)
def E9:ZA zEz zEz (Zc KI):=Zz
def Ae(F:Zj K "checked" "checked" KI f fd)(c:ZB P w K mg jV 6 "is_key" zEz Wh):ZI P w K mg jV ZZ 7 f fd zEz Ut:=by
 refine F.ko E9 λe A a s H m Q E g h=>?_;obtain⟨v,t,rfl,i,b,k⟩:=h;intro l;exists _,ZQ (Zv (XU (Ye (Zp c g (ZX (pv 0))))) WY Z1) (ZU (Zn (pv 0)));refine⟨_,rfl,v,t,3,rfl,i,b,λd j=>⟨_,rfl,?_⟩⟩;rw[b];exact Zl ⟨_,rfl,k d j⟩
inductive XG(g:je)(H:Hp)(Q:VK)(_:XK):Prop
 |mk(l:aj)(e:je)(d:jF)(_:g=[.ref l])(_:H l=some (.lst e))(_:jP H (Y0 d) e)(_:∀ r∈d,r.fit)(_:e.length<=100)(_:∀(b:Hp)(c:aj)(a:je),ZC H b->H c=none->b c=some (.lst a)->jP b (Y0 d) a->Q (.ref c) b)
def ZHo:ZA zEv zEv (Zc Lc):=Zz
def ZHB(F:Zj K "own_rows" "own_rows" Lc f fd)(M:ZB P w K mg jV 7 "checked" zEz Ut):ZI P w K mg jV ZZ 8 f fd zEv XG:=by
 refine F.ko ZHo λa0 A J s H vs Q E W h=>?_;obtain⟨l,r,rs,rfl,y,V,hf,T,k⟩:=h;have lk:r.length=rs.length:=by have:=V.length;rw[<-this];exact zX _
 intro Xc;refine⟨_,ZU (Zn (QO [] [] rfl (WZ (pv 0)) (λ_ _ _ _ _=>UG)
   (λ_ _ _ _ _=>Yq (Zg (Zp M W (ZX (Zk K (pv 0) ZN))) (Zp M W (ZX (Zk K (pv 0) ZN))))) trivial)),?_⟩
 exists _,rfl,l,rfl,⟨r,ZH.of y⟩;refine UM (n:=r.length) (λi z=>r[i]? = some z) (λD i t m=>ZC H m/\H D=none/\jP m (Y0 (rs.take i)) t) (YQ ∅)
  (λD i t m I d=>⟨r,r[i],ZH.of (d.1 _ _ y),by simp[I]⟩) (λD i t m z H4 I d X=>⟨X.1,X.2 r (ZH.of (d.1 _ _ y))⟩) (λD t m d=>⟨r,ZH.of (d.1 _ _ y),zY _⟩)
  (λD U=>⟨Za U _,U,.nil⟩) (λD i t m z G a1 I hz d R hR=>?_) (λD t m G d=>?_)
 ·obtain⟨p,B,j⟩:=d;obtain⟨a,v,x,S,rfl,e2,Y,Z⟩:=Ov V hz;have O:=p _ _ e2;have o:=hf _ (zA S);refine⟨_,rfl,.inr (.inl ⟨a,_,_,v,rfl,rfl,Zd.of O,rfl,v,_,rfl,Y.sm p,o.1,λH4 L=>?_⟩)⟩;refine⟨_,rfl,.inr (.inl ⟨a,_,_,x,rfl,rfl,Zd.of (L _ _ O),rfl,x,_,rfl,Z.sm (p.trans L),o.2,λN s5=>?_⟩)⟩;exists YC;intro q hq;have g:=Za hq (.tup [v,x]);have c:=(L.trans s5).trans g;have u:=c _ _ G;have C:YK (upd N q (.tup [v,x])) (upd (upd N q (.tup [v,x])) D (.lst (t++[.ref q]))):=λb xs e=>by rw[ZM (ZD e u)];exact e
  refine hR _ _ u ⟨UK (p.trans c) B,B,?_⟩;rw[yD,S,Hk];refine((j.sm c).mono C _ _).append (.cons (.tup (C _ _ ZK) (.cons ?_ (.cons ?_ .nil))) .nil)
  ·exact(Y.sm (p.trans c)).mono C _ _
  ·exact(Z.sm (p.trans c)).mono C _ _
 ·obtain⟨p,B,j⟩:=d;rw[yF ∅] at j
  exact k m D t p B G j
inductive Wn(g:je)(H:Hp)(Q:VK)(_:XK):Prop
 |mk(l:aj)(d:je)(c:jp)(_:g=[.ref l])(_:H l=some (.lst d))(_:jP H c d)(_:∀ t∈c,t.fits 3=true)(_:d.length<=100)(_:c.Pairwise (λa b=>a.lt b=true))(_:∀ e,ZC H e->Q (.bl true) e)
def Es:ZA ["keys"] ["keys"] (Zc Kd):=Zz
def Kn{c:Type}{R:c->c->Prop}:∀{l:List c},l.Pairwise R->∀{i j:Nat}{a b:c},i<j->l[i]? = some a->l[j]? = some b->R a b
 | [],_,_,_,_,_,_,h,_=>by simp at h
 | x::l,hp,0,j+1,a,b,_,ha,hb=>by
  simp at ha hb;subst ha;exact(vJ.mp hp).1 b (zA hb)
 | x::l,hp,i+1,j+1,a,b,hij,ha,hb=>by
  simp at ha hb;exact Kn (vJ.mp hp).2 ∅ ha hb
def ZMi(F:Zj K "rise" "rise" Kd f fd)(T:YO mg)(S:ZB P w K mg jV 7 "ahead" zE0 YZ):ZI P w K mg jV ZZ 8 f fd ["keys"] Wn:=by
 refine F.ko Es λU A y s H vs Q E hr h=>?_;obtain⟨l,c,ks,rfl,L,t,J,G,u,k⟩:=h;have lk:=t.length;intro Xc;refine⟨_,ZU (Zn (Zm (MT rfl) rfl T.all MS (ZX (QO [0] ["keys"] rfl (Nh rfl T.range (Zg ZN (Zm WA rfl T.len XQ (ZX (pv 0))))) (λ_ _ _ _ _=>UG)
  (λ_ _ _ _ _=>Zp S hr (Zg (Zk K (pv 1) (Zu QI (pv 0) ZN)) (Zk K (pv 1) (pv 0)))) ⟨rfl,.inl rfl,rfl,trivial⟩)))),?_⟩
 exists _,rfl,l,c,rfl,.inl (ZH.of L),1,(c.length:Int),rfl,⟨by lia (splits:=8),by lia (splits:=8),by lia (splits:=8),by lia (splits:=8)⟩
 refine UM (n:=((c.length:Int)-1).toNat) (λi x=>x=.int (1+(i:Int))) (λD i j d=>ZC H d/\H D=none/\j=(wQ i true).map V.bl) (YQ (by lia (splits:=8)))
  (λD i j d q _=>q) (λD i j d x z q _ hy=>hy) (λD j d _=>zY _) (λD I=>⟨Za I _,I,rfl⟩) (λD i j d x o Z q hx p R Y=>?_) (λD j d o p=>?_)
 ·subst hx;obtain⟨g,v,rfl⟩:=p;have r:i+1<c.length:=by lia (splits:=8)
  have N:c[i]? = some (c[i]'(by lia (splits:=8))):=zU (by lia (splits:=8))
  have O:c[i+1]? = some c[i+1]:=zU r;have X:(1:Int)+(i:Int)=((i+1:Nat):Int):=by lia (splits:=8)
  have W:(1:Int)+(i:Int)-1=((i:Nat):Int):=by lia (splits:=8)
  obtain⟨a,B,ka⟩:=t.get N;obtain⟨b,C,kb⟩:=t.get O;have m:=g _ _ L;refine⟨_,rfl,_,rfl,_,_,rfl,rfl,.inl ⟨l,c,_,_,rfl,rfl,ZH.of m,(by rw[W];exact WD N),?_⟩⟩
  refine⟨_,rfl,_,rfl,.inl ⟨l,c,_,_,rfl,rfl,ZH.of m,(by rw[X];exact WD O),?_⟩⟩
  exists _,_,a,b,rfl,ka.sm g,kb.sm g,J a (zA B),J b (zA C);intro z M;rw[Kn u (yE i) B C];refine Y _ z (M D _ o) ⟨UK (g.trans M) v,v,?_⟩;rw[List.replicate_succ',yR];rfl
 ·obtain⟨g,v,rfl⟩:=p;exists D,_,rfl,ZH.of o;have e:(wQ ((c.length:Int)-1).toNat true).all id=true:=by simp
  rw[e];exact k d g
def MN(c:jF):Prop:=(∀ r∈c,r.fit)/\0<c.length/\c.length<=4/\(c.map (·.1)).Pairwise (λa b=>a.lt b=true)
inductive Xq(g:je)(H:Hp)(Q:VK)(_:XK):Prop
 |mk(l:aj)(e:je)(d:jF)(_:g=[.ref l])(_:H l=some (.lst e))(_:jP H (Y0 d) e)(_:MN d)(_:∀(b:Hp)(c:aj)(a:je),ZC H b->H c=none->b c=some (.lst a)->jP b (Y0 d) a->Q (.ref c) b)
def Ww:ZA ["rows","own"] zEv (Zc JI):=Zz
def ZJb(F:Zj K "checked_rows" "checked_rows" JI f fd)(T:YO mg)(W:ZB P w K mg jV 8 "own_rows" zEv XG)(X:ZB P w K mg jV 8 "rise" ["keys"] Wn):ZI P w K mg jV ZZ 9 f fd zEv Xq:=by
 refine F.ko Ww λY A J s H vs Q E S h=>?_;obtain⟨l,V,y,rfl,hl,O,⟨N,h0,h4,I⟩,k⟩:=h;have nd:=Ww.nd;have lk:V.length=y.length:=by have:=O.length;rw[<-this];exact zX _
 obtain⟨t4,m4⟩:=T.rows;intro Xc;refine⟨_,ZQ (Zw 1 nd (Zp W S (ZX (pv 0))))
  (ZQ (Zv (PW.pt (VI (XU (Mh QQ QQ ZN (Zm WA rfl T.len XQ (ZX (pv 1))) (WH (v:=.int 4) rfl m4 ⟨_,rfl⟩)))
   (UR (XU (Ye (Zp X S (ZX (QO [] [] rfl (WZ (pv 1)) (λ_ _ _ _ _=>UG) (λ_ _ _ _ _=>Zk K (pv 0) ZN) trivial)))))))) WY Z1)
  (ZU (Zn (pv 1)))),?_⟩
 exists _,rfl,l,V,y,rfl,hl,O,N,by lia
 intro B D b s3 nD u m;have ly:b.length=y.length:=by have:=m.length;rw[<-this];exact zX _
 exists _,rfl,D,b,rfl,.inl (ZH.of u),_,_,rfl,rfl,_,rfl;rw[aK (show (1:Int)<=(b.length:Int) by lia)]
 refine Z8 ⟨_,_,rfl,rfl,_,rfl,?_⟩;rw[aK (show (b.length:Int)<=4 by lia)]
 refine Zl ?_;exists _,rfl,D,rfl,⟨b,ZH.of u⟩;refine UM (n:=b.length) (λi z=>b[i]? = some z) (λe i q g=>ZC B g/\B e=none/\jP B ((y.map (·.1)).take i) q) (YQ ∅)
  (λe i q g C d=>⟨b,b[i],ZH.of (d.1 _ _ u),by simp[C]⟩) (λe i q g z M C d U=>⟨U.1,U.2 b (ZH.of (d.1 _ _ u))⟩) (λe q g d=>⟨b,ZH.of (d.1 _ _ u),zY _⟩)
  (λe x=>⟨Za x _,x,.nil⟩) (λe i q g z j a0 C hz d R hR=>?_) (λe q g j d=>?_)
 ·obtain⟨p,o,c⟩:=d;obtain⟨a,vk,vv,er,rfl,Z,k1,_⟩:=Ov m hz;refine⟨_,rfl,.inr (.inl ⟨a,_,_,vk,rfl,rfl,Zd.of (p _ _ Z),rfl,?_⟩)⟩;refine hR _ g j ⟨UK p o,o,?_⟩;rw[yD,zJ,er];exact c.append (.cons k1 .nil)
 ·obtain⟨p,o,c⟩:=d;rw[yF (by rw[zX];lia)] at c
  have lz:=c.length;rw[zX] at lz;refine⟨e,q,_,rfl,j,c.sm p,λt ht=>?_,∅,I,λM L=>⟨_,rfl,Zl ⟨_,rfl,k M D b ((s3.trans p).trans L) nD (L _ _ (p _ _ u)) (m.sm (p.trans L))⟩⟩⟩
  obtain⟨r,G,rfl⟩:=zM.mp ht;exact(N r G).1
def UT(a:jF):ZT:=⟨0,a,[]⟩
inductive XF(jg jh:aj)(r:je)(H:Hp)(Q:VK)(_:XK):Prop
 |mk(S d n l:aj)(c:jq)(h:jo)(k:Nat->jo)(m:Nat->Nat)(j:jx)(e:List (ZR×V))(p q:je)(i:jF)(_:r=[.ref S,.ref l])(_:Z7 jg jh H S d n c h k m j e p)(_:h.length<=900)(_:H l=some (.lst q))(_:jP H (Y0 i) q)(_:MN i)(_:∀(g:Hp)(a:YB),H a.x=none->H a.th=none->H a.ab=none->(∀ b o,b≠S->b≠d->H b=some o->g b=some o)->Z7 jg jh g S d n (c++[UT i]) (h++[c.length]) (Xk c.length k) (Y8 c.length m) (j++[a]) (Z2 e (.inl (c.length:Int)) (.ref a.x)) p->Q (.int (c.length:Nat)) g)
def WS:ZA ["self","rows","own"] zE7 (Zc LJ):=Zz
def Mq{jg jh:aj}{H:Hp}{S d h:aj}{j:jq}{b:jo}{e:Nat->jo}{g:Nat->Nat}{c:jx}{a:List (ZR×V)}{i:je}(R:Z7 jg jh H S d h j b e g c a i):a.length=b.length:=by
 have:=congrArg xY R.keys;simpa using this
def FV(F:Zj K "put_leaf" "Shelf.put_leaf" LJ f fd)(L:Yg K mg jg jh)(DC:ZB P w K mg jV 9 "checked_rows" zEv Xq)(DL:ZB P w K mg jV 1 "label_of_rows" zEv XJ)(DT:ZE P w K mg jV ZZ 3 jg "put_twig" zEs (Yp jg jh)):
  ZI P w K mg jV ZZ 10 f fd zE7 (XF jg jh):=by
 refine F.ko WS λa1 A a0 s H vs Q E O h=>?_;obtain⟨S,d,lk,l,ts,lv,av,ho,as,X,ls,us,a,rfl,R,y,hl,hk,G,k⟩:=h;have nd:=WS.nd;have T:=O.mono (show 1<=9 by lia)
 have U:=O.mono (show 3<=9 by lia)
 intro Xc;refine⟨_,ZQ (Zw 2 nd (Zp DC O (ZX (pv 1))))
  (ZU (Zn (Y3 (E:=E0) (pv 0) L.cS DT U Yu (Zg (pv 2) (Zp DL T (ZX (pv 2))))))),?_⟩
 exists _,rfl,l,us,a,rfl,hl,hk,G;intro H1 p i s1 B u m;have R1:=R.same s1;obtain⟨dx,hS⟩:=R1.sh.self;have lu:i.length=a.length:=by have:=m.length;rw[<-this];exact zX _
 have Y:(a.map (·.1)).length=a.length:=zX _;exists _,rfl,S,dx,_,rfl,hS,rfl,_,rfl,_,rfl,p,i,a.map (·.1),rfl,u,F2 m,by rw[lu];exact G.2.1
 intro H2 v s2 W;have q:(Yh (UT a)).kt=N0 (a.map (·.1)):=by
  have e0:(a.map (·.1)).getD 0 (.int 0)=(a.getD 0 rd).1:=by
   rw[zP,zP,zJ];cases a[0]? <;> rfl
  have e1:(a.map (·.1)).getD (a.length-1) (.int 0)=(a.getD (a.length-1) rd).1:=by
   rw[zP,zP,zJ];cases a[a.length-1]? <;> rfl
  unfold N0 Yh UT YU.kt;rw[Y,e0,e1];rfl
 rw[<-q] at W;have V:=On W;obtain⟨C,a6,a5,rfl,a3,_,_⟩:=V;have V:=On W;have c:=s1.trans s2;have R2:=R.same c;exists S,d,lk,ts.length,X,ls,.ref p,.ref C,rfl,R2.sh,by rw[Mq R];exact y
 intro D x J nx n I R3 W3;obtain⟨a2,r⟩:=R2.sh.self;have j:YK H2 D:=λb ys e=>I b _ (ZD e r) (ZD e R2.sh.kept) e;have g:=s2 _ _ u;have N:D p=some (.lst i):=I _ _ (ZD g r) (ZD g R2.sh.kept) g;have M:J≠p:=(ZY g n).symm;have a4:C=C:=rfl;have PP:=GX (t:=UT a) (x:=x) (th:=p) (tg:=C) (ab:=J) R (H':=D) (λb o Z n2 e=>I b o Z n2 (c b o e)) (c.free nx) B (c.free n) M R3 W3
  ⟨i,N,λ_=>m.mono (λb xs e=>j b xs (s2 _ _ e)) _ _,λz=>absurd rfl z⟩ (V.mono j)
 exact k D ⟨x,p,C,J⟩ (c.free nx) B (c.free n) (λb o Z n2 e=>I b o Z n2 (c b o e)) PP
def WB(a:jq)(bs:jo):jF:=bs.flatMap λb=>(gd a b).rows
def Xm(a:jq)(bs:jo):ZT:=⟨(gd a (bs.getD 0 0)).h+1,WB a bs,bs⟩
def OP(c:jq):jo->Prop
 | a::b::r=>(Yh (gd c a)).hi.lt (Yh (gd c b)).lo=true/\OP c (b::r)
 | _=>True
def Il{c:jq}:∀{bs:jo},(∀ j,j+1<bs.length->((YW c bs).getD j .d).hi.lt ((YW c bs).getD (j+1) .d).lo=true)->OP c bs
 | [],_=>trivial
 | [_],_=>trivial
 | a::b::r,h=>⟨h 0 (by simp),Il (bs:=b::r) λj e=>h (j+1) (by simp at e⊢;lia)⟩
def NL{t:ZT}(a:t.rows≠[]):∃ r b,t.rows=r::b/\(Yh t).lo=r.1:=by
 cases e:t.rows with
 | nil=>exact absurd e a
 | cons r b=>exact⟨r,b,rfl,by unfold Yh;rw[e];rfl⟩
def JP{t:ZT}(a:t.rows≠[]):∃ b r,t.rows=b++[r]/\(Yh t).hi=r.1:=by
 rcases uF t.rows with e | ⟨b,r,e⟩
 ·exact absurd e a
 ·rw[uG] at e;exists b,r,e;unfold Yh;rw[e];simp[zP]
def AH{gt:jp}{f:jq}{i:Nat}{t:ZT}(h:Y2 gt f i t){x:KT}(a:x∈t.rows.map (·.1)){y:KT}(b:(Yh t).hi.lt y=true):x.lt y=true:=by
 obtain⟨g,r,e,d⟩:=JP h.ne;have c:=h.up;rw[e,yR] at c a;rw[d] at b;rcases yY.mp a with a | a
 ·have:=(vG.mp c).2.2 x a r.1 (by simp)
  exact lt_trans' _ _ _ this b
 ·simp at a;rw[a];exact b
def AT{l:jp}(f:l.Pairwise λa b=>a.lt b=true){z:KT}(e:l.head? = some z){x:KT}(d:x.lt z=true):∀ y∈l,x.lt y=true:=by
 cases l with
 | nil=>cases e
 | cons a l=>
  simp at e;subst e;intro y c;rcases yZ.mp c with rfl | c
  ·exact d
  ·exact lt_trans' _ _ _ d ((vJ.mp f).1 y c)
def ID{gt:jp}{ts:jq}(hw:WF gt ts):∀{bs:jo},(∀ b∈bs,b<ts.length)->OP ts bs->((WB ts bs).map (·.1)).Pairwise (λa b=>a.lt b=true)/\bs.Nodup
 | [],_,_=>⟨List.Pairwise.nil,List.nodup_nil⟩
 | [a],hb,_=>by
  refine⟨?_,by simp⟩
  have:=(hw a _ (Xw (hb a (by simp)))).up
  simpa [WB] using this
 | a::b::r,hb,hn=>by
  obtain⟨h1,h2⟩:=ID hw (bs:=b::r) (λc hc=>hb c (zD _ hc)) hn.2;have oa:=hw a _ (Xw (hb a (by simp)))
  have ob:=hw b _ (Xw (hb b (by simp)))
  obtain⟨rb,rs,eb,el⟩:=NL ob.ne;have hd:((WB ts (b::r)).map (·.1)).head? = some (Yh (gd ts b)).lo:=by
   rw[el];unfold WB;rw[wU,eb];rfl
  have cross:∀ x∈(gd ts a).rows.map (·.1),∀ y∈(WB ts (b::r)).map (·.1),x.lt y=true:=λx hx=>AT h1 hd (AH oa hx hn.1);refine⟨?_,wO.mpr ⟨λhm=>?_,h2⟩⟩
  ·have e:WB ts (a::b::r)=(gd ts a).rows++WB ts (b::r):=by simp[WB]
   rw[e,yR];exact vG.mpr ⟨oa.up,h1,cross⟩
  ·obtain⟨ra,rs',ea,_⟩:=NL oa.ne;have m1:ra.1∈(gd ts a).rows.map (·.1):=by rw[ea];simp
   have m2:ra.1∈(WB ts (b::r)).map (·.1):=zM.mpr ⟨ra,uT.mpr ⟨a,hm,by rw[ea];simp⟩,rfl⟩
   have:=cross _ m1 _ m2;rw[Np] at this;cases this
def OE{b:jq}{bs:jo}{i:Nat}(a:i<bs.length):(YW b bs).getD i .d=Yh (gd b (bs.getD i 0)):=by
 unfold YW;rw[zP,zJ,zU a,zP,zU a];rfl
def KH{gt:jp}{c:jq}(C:WF gt c){bs:jo}(u:∀ b∈bs,b<c.length){L:YU}(h:over (YW c bs)=some L):
  L=Yh (Xm c bs)/\bs.Nodup/\2<=bs.length/\bs.length<=4/\(∀ b∈bs,(gd c b).h+1=(Xm c bs).h)/\((WB c bs).map (·.1)).Pairwise (λa b=>a.lt b=true)/\WB c bs≠[]:=by
 unfold over at h;split at h
 case isFalse=>cases h
 case isTrue hc=>
  obtain⟨k,E,Q⟩:=hc;have D:(YW c bs).length=bs.length:=zX _;rw[D] at k E;have n:=X5.mpr Q;unfold LY at n;rw[D] at n;have x:OP c bs:=Il λj P=>(n j P).2;obtain⟨B,y⟩:=ID C u x;have O:∀ i,i<bs.length->((YW c bs).getD i .d).h=((YW c bs).getD 0 .d).h:=λi g=>by
   cases i with
   | zero=>rfl
   | succ i=>exact(n i g).1
  have f:∀ i,i<bs.length->bs.getD i 0∈bs:=λi g=>by rw[zP,zU g];exact xG _
  have F:=C _ _ (Xw (u _ (f 0 ∅)))
  have S:=C _ _ (Xw (u _ (f (bs.length-1) ∅)))
  have w:∀ b∈bs,(gd c b).h+1=(Xm c bs).h:=λb v=>by
   obtain⟨i,g,e⟩:=uK v;have:=O i g;rw[OE g,OE ∅] at this
   have p:bs.getD i 0=b:=by rw[zP,zU g,e];rfl
   rw[p] at this;have:=Int.ofNat.inj this;show (gd c b).h+1=(gd c (bs.getD 0 0)).h+1
   lia
  have A:WB c bs≠[]:=λz=>by
   obtain⟨r,o,e,_⟩:=NL F.ne;have:r∈WB c bs:=uT.mpr ⟨_,f 0 ∅,by rw[e];simp⟩
   rw[z] at this;simp at this
  refine⟨?_,y,k,E,w,B,A⟩;rw[<-zH.inj h];have t:((YW c bs).getD 0 .d).lo=(Yh (Xm c bs)).lo:=by
   rw[OE ∅]
   obtain⟨r,o,e,s⟩:=NL F.ne;rw[s]
   cases bs with
   | nil=>simp at k
   | cons b bs=>
    unfold Yh Xm WB;have H:(gd c b).rows=r::o:=e;simp only[wU,H];rfl
  have q:((YW c bs).getD ((YW c bs).length-1) .d).hi=(Yh (Xm c bs)).hi:=by
   rw[D,OE ∅]
   obtain⟨o,r,e,s⟩:=JP S.ne;rw[s];rcases uF bs with z | ⟨G,b,z⟩
   ·rw[z] at k;simp at k
   ·rw[uG] at z;have J:bs.getD (bs.length-1) 0=b:=by rw[z];simp[zP]
    rw[J] at e;have N:WB c bs=WB c G++o++[r]:=by rw[z];simp[WB,e]
    unfold Yh Xm;simp only[N];simp[zP]
  have M:((YW c bs).map YU.m).sum=(Yh (Xm c bs)).m:=by
   have:∀ l:jo,((YW c l).map YU.m).sum=((WB c l).length:Int):=λl=>by
    induction l with
    | nil=>rfl
    | cons b l R=>
     have I:YW c (b::l)=Yh (gd c b)::YW c l:=rfl;have p:WB c (b::l)=(gd c b).rows++WB c l:=by simp[WB]
     rw[I,p,yS,uB,R,zE];show ((gd c b).rows.length:Int)+_=_
     lia
   exact this bs
  have K:((YW c bs).getD 0 .d).h+1=(Yh (Xm c bs)).h:=by
   rw[OE ∅]
   show ((gd c (bs.getD 0 0)).h:Int)+1=(((gd c (bs.getD 0 0)).h+1:Nat):Int)
   lia
  rw[t,q,M,K]
def Y2.ext{gt:jp}{a:jq}{t:ZT}{i:Nat}{u:ZT}(h:Y2 gt a i u)(p:i<=a.length):Y2 gt (a++[t]) i u:=by
 exists h.ne,h.up,h.inn,h.leaf;intro z;obtain⟨g,j,f,k⟩:=h.stem z;have e:∀ b∈u.bs,gd (a++[t]) b=gd a b:=λb d=>Q2 (by have:=(f b d).1;lia)
 exists g,j,λb d=>⟨(f b d).1,by rw[e b d];exact(f b d).2⟩
 rw[k];clear g j f k;have:∀ l:jo,(∀ b∈l,gd (a++[t]) b=gd a b)->(l.flatMap λb=>(gd a b).rows)=l.flatMap λb=>(gd (a++[t]) b).rows:=λl m=>by
  induction l with
  | nil=>rfl
  | cons b l o=>rw[wU,wU,m b (by simp),o λc n=>m c (zD _ n)]
 exact this _ e
def WF.push{gt:jp}{a:jq}{t:ZT}(d:WF gt a)(h:Y2 gt a a.length t):WF gt (a++[t]):=λi u e=>by
 rcases yO i a.length with b | b
 ·rw[wS b] at e;exact(d i u e).ext (xX b)
 ·rw[wR b] at e;have c:i-a.length=0:=by
   rcases Nat.eq_zero_or_pos (i-a.length) with z | z
   ·exact z
   ·rw[vE (by simp;lia)] at e;cases e
  rw[c] at e;simp at e;subst e;have:i=a.length:=∅
  rw[this];exact h.ext (zY _)
def D1{gt:jp}{c:jq}(i:WF gt c){bs:jo}(d:∀ b∈bs,b<c.length){L:YU}(h:over (YW c bs)=some L):Y2 gt c c.length (Xm c bs):=by
 obtain⟨_,_,j,k,l,g,e⟩:=KH i d h;refine⟨e,g,λr m=>?_,λz=>absurd z (by show (gd c (bs.getD 0 0)).h+1≠0;lia),λ_=>⟨j,k,λb a=>⟨d b a,l b a⟩,rfl⟩⟩
 obtain⟨b,a,f⟩:=uT.mp m;exact(i b _ (Xw (d b a))).inn r f
abbrev LV:Stmt:=Xf (top 36) 2
structure Pq(P:al)(w:ar)(K:zZ)(mg:jb)(jV:aC)(k:Nat)(x:Str)(ps:jr)(sp:Sp):Prop where
 ex:∃ f fd,ZI P w K mg jV (Z9 P w) k f fd ps sp/\Zx K fd ps []/\yU K (.ref f)=true/\mg x=some (.ref f)
inductive Z6(gt:jp)(jg jh CS CT CH:aj)(r:je)(H:Hp)(Q:VK)(E:XK):Prop
 |mk(S d p l:aj)(e:jq)(g:jo)(n:Nat->jo)(k:Nat->Nat)(j:jx)(i:List (ZR×V))(q:je)(m:jz)(_:r=[.ref S,.ref l])(_:Z7 jg jh H S d p e g n k j i q)(_:WF gt e)(_:g.length<=800)(_:∀ b,b∈g->(n b).length<=800)(_:H l=some (.lst (m.map V.int)))(_:m.length<=100)(_:∀ x,m.find? (λx=>!YS g x)=some x->UF CT x E H)(_:∀ bs:jo,m=bs.map (λb:Nat=>(b:Int))->(∀ b∈bs,b∈g)->(over (YW e bs)=none->∀ h,ZC H h->E (.ref CS) none h)/\(over (YW e bs)≠none->∀ b,bs.find? (λb=>decide (k b=0))=some b->UF CH (b:Nat) E H)/\(over (YW e bs)≠none->bs.find? (λb=>decide (k b=0))=none->∀(h:Hp)(a:YB),H a.x=none->H a.th=none->H a.ab=none->(∀ c o,c≠S->c≠d->(∀ b:Nat,b∈g->c≠(j.getD b .d).x/\c≠(j.getD b .d).ab)->H c=some o->h c=some o)->Z7 jg jh h S d p (e++[Xm e bs]) (g++[e.length]) (Vg bs e.length (Xk e.length n)) (WG bs (Y8 e.length k)) (j++[a]) (Z2 i (.inl (e.length:Int)) (.ref a.x)) q->Q (.int (e.length:Nat)) h))
abbrev Fy:jr:=["self","numbers","branches","label","number"]
def WX:ZA Fy zEh (Zc LV):=Zz
def ER{gt:jp}{c:jq}(g:WF gt c){bs:jo}(e:∀ b∈bs,b<c.length)(i:Nat):((YW c bs).getD i .d).fit:=by
 rcases yO i bs.length with a | a
 ·rw[OE a];refine Ln (g _ _ (Xw (e _ ?_)));rw[zP,zU a];exact xG _
 ·rw[zP,vE (by unfold YW;rw[zX];exact a)]
  exact BN
def ZOx{X:Cx}{E:XK}{k:Nat}{x:Str}{r:jr}{i:Sp}{e:Expr}{a:jy}{t:TA}{p c:aI}(D:Pq X.prog X.w X.K X.mg X.base k x r i)(n:ZW k X.A)(o:Wx (Z9 X.prog X.w) X E)(j:PA X (e::a) t)(l:Gl X x:=by rfl)(d:(x==("__debug__" : Str))=false:=by decide)(h:aq (e::a) X.env=(false,aG e X.env)::aq a X.env:=by rfl)(g:(aE c (aq a X.env)).any (·.1)=false:=by rfl):PE X (.Call (.Name x p) (e::a) [] c) (Ls i [] E t):=by
 obtain⟨f,fd,F,b,q,m⟩:=D.ex;exact GD F n l m q b .nil o j d h g
def C2{gt:jp}(F:Zj K "put_stem" "Shelf.put_stem" LV f fd)(T:YO mg)(L:Yg K mg jg jh)(DL:ZE P w K mg jV (Z9 P w) 5 jg "labels_of" zEh (Yv jg jh CT))(DO:Pq P w K mg jV 9 "label_over" ["labels"] (VY CS))(DC:ZE P w K mg jV (Z9 P w) 3 jg "check_held" zEh (YN jg jh CH))(DT:ZE P w K mg jV ZZ 3 jg "put_twig" zEs (Yp jg jh))(DK:ZE P w K mg jV ZZ 2 jg "take_over" zEw (Yx jg jh)):
  ZI P w K mg jV (Z9 P w) 10 f fd zEh (Z6 gt jg jh CS CT CH):=by
 refine F.kD WX λc8 A c5 s H vs Q E hr h=>?_;obtain⟨S,d,lk,l,g,lv,av,X,B,u,ls,n,rfl,R,hw,c7,I,hl,M,k1,k2⟩:=h;have nd:=WX.nd;have c3:=hr.mono (show 5<=9 by lia)
 have Z:=hr.mono (show 3<=9 by lia)
 have c2:=hr.mono (show 2<=9 by lia)
 intro Xc;refine⟨_,ZQ (Zw 2 nd (VO Q6 rfl T.list Uo (ZX (pv 1))))
  (ZQ (Zw 3 nd (ZOx (E:=E) DO hr (PR U8 λ_ _ _ h=>h) (ZX (Y3 (E:=E) (pv 0) L.cS DL c3 (PR U8 λ_ _ _ h=>h) (ZX (pv 2))))))
  (ZQ (Xe (Y3 (E:=E) (pv 0) L.cS DC Z (PR U8 λ_ _ _ h=>h) (ZX (pv 2))))
  (ZQ (Zw 4 nd (Y3 (E:=E0) (pv 0) L.cS DT Z Yu (Zg (pv 2) (pv 3))))
  (ZQ (Xe (Y3 (E:=E0) (pv 0) L.cS DK c2 Yu (Zg (pv 4) (pv 2))))
  (ZU (Zn (pv 4))))))),?_⟩
 exists _,rfl,l,n.map V.int,rfl,.inl (ZH.of hl);intro D nD;have g1:=Za nD (.lst (n.map V.int));have p:upd H D (.lst (n.map V.int)) D=some (.lst (n.map V.int)):=ZK;generalize upd H D (.lst (n.map V.int))=H1 at g1 p⊢;have R1:=R.same g1;obtain⟨a2,a8⟩:=R1.sh.self;exists _,rfl,S,a2,_,rfl,a8,rfl,_,rfl,S,d,lk,D,g,lv,av,X,B,u,ls,n,rfl,R1,p,M,λx hx=>(k1 x hx).mono g1;intro bs eb C D2 us H2 s2 e7 a7 W;obtain⟨q1,q2,q3⟩:=k2 bs eb C;have r:∀ b∈bs,b<g.length:=λb h=>R.lt b (C b h);have e5:n.length=bs.length:=by rw[eb,zX]
 have e6:us.length=bs.length:=by rw[W.1];exact zX _
 have a0:=g1.trans s2;refine⟨D2,us,YW g bs,rfl,a7,W,ER hw r,∅,λH3 s3=>⟨λm=>q1 m H3 (a0.trans s3),λLb v m kv=>?_⟩⟩
 have Y:over (YW g bs)≠none:=by rw[m];exact λz=>nomatch z
 obtain⟨eL,c1,c9,e0,e1,e4,e2⟩:=KH hw r m;subst eL;have y:=a0.trans s3;have R3:=R.same y;obtain⟨a3,a9⟩:=R3.sh.self;have eI:n.map V.int=iN bs:=by rw[eb,zL];rfl
 have N:H3 D=some (.lst (iN bs)):=by rw[<-eI];exact s3 _ _ (s2 _ _ p)
 exists _,rfl,S,a3,_,rfl,a9,rfl,_,rfl,S,d,lk,D,g,lv,av,X,B,u,ls,bs,rfl,R3,N,C,λb hf=>(q2 Y b hf).mono y;intro hf H4 s4;have a:=y.trans s4;have R4:=R.same a;obtain⟨a4,q⟩:=R4.sh.self;have kl:=On kv;obtain⟨G,i0,e9,rfl,e3,_,_⟩:=kl;have c4:=(On kv).mono (ZC.tups s4);have j:=s4 _ _ N;exists _,rfl,S,a4,_,rfl,q,rfl,_,rfl,_,rfl,S,d,lk,g.length,u,ls,.ref D,.ref G,rfl,R4.sh,by rw[Mq R];lia
 intro H5 x J nx k fr R5 W5;have a1:YK H4 H5:=λb ys e=>fr b _ (ZD e q) (ZD e R4.sh.kept) e;have O:H5 D=some (.lst (iN bs)):=fr _ _ (ZD j q) (ZD j R4.sh.kept) j;have PP:=GX (t:=Xm g bs) (x:=x) (th:=D) (tg:=G) (ab:=J) R (H':=H5) (λb o n1 n2 e=>fr b o n1 n2 (a b o e)) (a.free nx) nD (a.free k) (ZY j k).symm R5 W5
  ⟨iN bs,O,λz=>absurd z (by show (gd g (bs.getD 0 0)).h+1≠0;lia),λ_=>rfl⟩ (c4.mono a1)
 obtain⟨a5,c0⟩:=R5.self;have el:B.length=g.length:=R.len;have aL:∀ b,b∈lv->(B++[(⟨x,D,G,J⟩:YB)]).getD b .d=B.getD b .d:=λb C=>M7 (by have:=R.lt b C;lia)
 have aN:(B++[(⟨x,D,G,J⟩:YB)]).getD g.length .d=⟨x,D,G,J⟩:=by rw[<-el];exact Mp
 have en:(g++[Xm g bs]).length=g.length+1:=by simp
 refine⟨_,rfl,S,a5,_,rfl,c0,rfl,_,rfl,_,rfl,S,d,lk,D,_,_,_,_,_,_,ls,bs,g.length,rfl,PP,O,c1,λb i=>?_,λb i=>?_,λH6 a6 e8 R6=>⟨_,rfl,?_⟩⟩
 ·have U:=C b i;have c6:=r b i;have nb:b≠g.length:=∅
  have h0:X b≠0:=by
   have:=vK.mp hf b i;simpa using this
  exists xW _ U,?_
  ·rw[show Y8 g.length X b=X b from aM nb];lia
  ·rw[show Xk g.length av b=av b from aM nb];have:=I b U;lia
 ·rcases yY.mp i with c | c
  ·rw[aL b c];exact(ZY (R.tw b c).tw.above nD).symm
  ·rw[zC.mp c,aN];exact ZY j k
 ·refine q3 Y hf H6 ⟨x,D,G,J⟩ (a.free nx) nD (a.free k) (λc o n1 n2 n3 e=>?_) R6;refine a6 c o (λb i=>?_) (fr c o n1 n2 (a c o e));rcases yY.mp i with z | z
  ·rw[aL b z];exact n3 b z
  ·rw[zC.mp z,aN];exact⟨ZY e (a.free nx),ZY e (a.free k)⟩
abbrev LB:Stmt:=Xf (top 36) 15
def MH{g h:aj}{H l:Hp}{S d n:aj}{w:jq}{v:jo}{r:Nat->jo}{u:Nat->Nat}{q:jx}{j:List (ZR×V)}{A k:je}(R:Z7 g h H S d n w v r u q j A)(f:∀ b o,b≠n->H b=some o->l b=some o)(y:l n=some (.lst k)):Z7 g h l S d n w v r u q j k:=by
 obtain⟨⟨x,s⟩,t,a⟩:=R.sh;have m:YK H l:=λc C e=>f c _ (ZD e a) e;refine⟨⟨⟨x,f _ _ (ZD s a) s⟩,f _ _ (ZD t a) t,y⟩,R.keys,R.val,R.lt,R.len,λi p=>?_,R.own,R.two⟩;have W:=R.tw i p;obtain⟨B,z⟩:=W.tw.self;exact W.frame m (λo e=>f _ _ (ZD z a) e) (λo e=>f _ _ (R.own i p).2.2.1 e) (λo e=>f _ _ (R.own i p).2.1 e)
structure Xh(gt:jp)(jg jh:aj)(H:Hp)(S d lk:aj)(ts:jq)(lv:jo)(av:Nat->jo)(ho:Nat->Nat)(as:jx)(kvs:List (ZR×V))(ls:je):Prop where
 sh:Z7 jg jh H S d lk ts lv av ho as kvs ls
 wf:WF gt ts
 vl:Lv ts lv
 av:∀ i,i∈lv->av i=abv ts lv i
 live:∀ i,i∈lv->1<=(abv ts lv i).length+ho i
 l800:ts.length<=800
inductive Vl(gt:jp)(jg jh CD:aj)(n:je)(H:Hp)(Q:VK)(E:XK):Prop
 |mk(S d l:aj)(e:jq)(a:jo)(k:Nat->jo)(b:Nat->Nat)(h:jx)(c:List (ZR×V))(m:je)(i:Nat)(_:n=[.ref S,.int (i:Nat)])(_:Xh gt jg jh H S d l e a k b h c m)(_:i∈a)(_:∀ v g,ZC H g->Sh e a b i none->Q v g)(_:∀ j,Sh e a b i (some j)->UF CD (j:Nat) E H)
abbrev ZOv:jr:=["self","number","road","above"]
def Ur:ZA ZOv zEa (Zc Kf):=Zz
def KA(l:jo)(b:Nat):XX (iN (l++[b])) (-1)=some (.int (b:Nat)):=by
 have:iN (l++[b])=iN l++[.int (b:Nat)]:=by simp[iN]
 rw[this];exact Kb _ _
def Aj{gt:jp}(F:Zj K "road_up" "Shelf.road_up" Kf f fd)(L:Yg K mg jg jh)(N:XN P w K mg jV "Shared" CD)(DT:ZE P w K mg jV ZZ 1 jg "twig_of" zEa (Zo jg))(DH:ZE P w K mg jV ZZ 2 jg "holders" zEa (XA jg jh λ_ k us=>.int ((us.length:Nat)+(k:Nat):Int))):ZI P w K mg jV (Z9 P w) 3 f fd zEa (Vl gt jg jh CD):=by
 refine F.kD Ur λa0 A X s H vs Q E G h=>?_;obtain⟨S,d,lk,e,l,av,k,t,y,ls,i,rfl,U,hi,k1,k2⟩:=h;have nd:=Ur.nd;have T:=G.mono (show 1<=2 by lia)
 intro Xc;refine⟨_,ZQ (Zw 2 nd (XR (ZX (pv 1)))) (ZU (NC MG (Ye UQ)
  (ZQ (Zv (YJ QH (Y3 (E:=E0) (pv 0) L.cS DH G Yu (ZX (Zk K (pv 2) (Pi Pt ZN)))) ZN (Z3 _)) (ZU (Mj U8 N G (ZX (Zk K (pv 2) (Pi Pt ZN))) rfl)) Z1)
  (ZQ (Zw 3 nd (X8 (Y3 (E:=E0) (pv 0) L.cS DT T Yu (ZX (Zk K (pv 2) (Pi Pt ZN)))) rfl))
  (ZQ (Zv (YJ (MQ G.units0) (pv 3) (XR Zs) (Z3 _)) (ZU (Zn (pv 2))) Z1)
  (ZU (Xe (Vh yM xL xK UI (pv 2) (ZX (Zk K (pv 3) ZN)))))))))),?_⟩
 exists _,rfl,YC;intro r nr;refine⟨λm σ H'=>∃(b:Nat)(I:jo)(k3:jf),m=e.length-b/\σ=[some (.ref S),some (.int (i:Nat)),some (.ref r),k3]/\ZC H H'/\H' r=some (.lst (iN (I++[b])))/\I.length<=b/\b∈l/\∀ o,Sh e l k b o->Sh e l k i o,
  ⟨_,i,[],none,rfl,rfl,Za nr _,ZK,yX _,hi,λ_ z=>z⟩,?_⟩
 rintro m σ H1 ⟨b,I,k3,rfl,rfl,Y,B,rl,u,Z⟩;refine⟨_,rfl,Z8 ⟨_,λ_ _ z=>z,?_⟩⟩;have p:=U.sh.same Y;obtain⟨dx,hS⟩:=p.sh.self;have W:=p.tw b u;obtain⟨dt,hx⟩:=W.tw.self;have J:=U.av b u;have lI:(iN (av b)).length=(abv e l b).length:=by rw[J];exact zX _
 refine⟨_,rfl,S,dx,_,rfl,hS,rfl,_,rfl,1,rfl,.inl ⟨r,_,_,.int (b:Nat),rfl,rfl,ZH.of B,KA _ _,S,d,lk,e.length,y,ls,(b:Int),_,_,_,_,_,_,rfl,⟨p.sh,p.val b u,W.tw⟩,?_⟩⟩;exists _,_,rfl,rfl,_,rfl;refine WV (λc=>?_) (λc=>?_)
 ·have D:(abv e l b).length+k b≠1:=λz=>by
   have:=of_decide_eq_true c;rw[lI] at this
   lia
  refine⟨_,rfl,1,rfl,.inl ⟨r,_,_,.int (b:Nat),rfl,rfl,ZH.of B,KA _ _,_,rfl,λdd M=>(k2 b (Z _ (.here D))).go Y M⟩⟩
 ·have D:(abv e l b).length+k b=1:=by
   have:¬ ((1:Int)<((iN (av b)).length:Nat)+(k b:Nat)):=λz=>c (aK z);rw[lI] at this;have:=U.live b u
   lia
  refine⟨_,rfl,S,dx,_,rfl,hS,rfl,_,rfl,1,rfl,.inl ⟨r,_,_,.int (b:Nat),rfl,rfl,ZH.of B,KA _ _,S,d,lk,e.length,y,ls,(b:Int),.ref (t.getD b .d).x,rfl,p.sh,p.val b u,(t.getD b .d).x,jh,dt,_,.ref (t.getD b .d).ab,rfl,hx,L.cT,L.nab,rfl,?_⟩⟩;exists _,rfl,YC;intro e0 O;have C:=Za O (.lst []);have a:=C _ _ W.tw.above;have g:=C _ _ B;have n:=Y.trans C;exists (t.getD b .d).ab,e0,_,rfl,rfl,ZH.of a,ZH.of ZK,_,rfl;generalize upd H1 e0 (.lst [])=H3 at C a g n⊢
  cases v:abv e l b with
  | nil=>
   rw[J,v,show (iN ([]:jo)).isEmpty=true from rfl];exact Z8 ⟨_,rfl,k1 _ H3 n (Z _ (.top D v))⟩
  | cons j q=>
   rw[J,v] at a⊢;rw[show (iN (j::q)).isEmpty=false from rfl];have jl:=MW U.wf U.vl (i:=b) (j:=j) (by rw[v];exact zF)
   have jt:=U.vl.lt j jl.2;have l8:=U.l800;refine Zl ⟨_,rfl,.inl ⟨rfl,_,ZH.of g⟩,_,rfl,.inl ⟨(t.getD b .d).ab,_,0,.int (j:Nat),rfl,rfl,ZH.of a,WD (j:=0) rfl,r,_,.int (j:Nat),rfl,rfl,g,YQ (by simp[iN];lia),?_⟩⟩
   refine⟨e.length-j,∅,j,I++[b],_,rfl,rfl,UK n nr,?_,by simp;lia,jl.2,λo R=>Z o (.up D v R)⟩
   rw[ZK];simp[iN]
structure XD(K:zZ)(mg:jb)(CD:aj):Prop where
 at_:mg "Shared" = some (.ref CD)
 ty:yA K (.ref CD)=some (.type "type")
 mB:yV K CD (.type "BaseException")=some true
 self:yV K CD (.ref CD)=some true
inductive Wo(gt:jp)(jg jh:aj)(m:je)(H:Hp)(Q:VK)(_:XK):Prop
 |mk(S d k:aj)(g:jq)(b:jo)(j:Nat->jo)(e:Nat->Nat)(h:jx)(a:List (ZR×V))(l:je)(i:Nat)(o:jL)(_:m=[.ref S,.int (i:Nat)])(_:Xh gt jg jh H S d k g b j e h a l)(_:i∈b)(_:Sh g b e i o)(_:∀ c,ZC H c->Q (.bl o.isNone) c)
def FK:ZA zEa zEa (Zc JO):=Zz
def Cu{gt:jp}(F:Zj K "alone" "Shelf.alone" JO f fd)(L:Yg K mg jg jh)(N:XD K mg CD)(m:ZE P w K mg jV (Z9 P w) 3 jg "road_up" zEa (Vl gt jg jh CD)):ZI P w K mg jV ZZ 4 f fd zEa (Wo gt jg jh):=by
 refine F.ko FK λu A c s H Z Q E I h=>?_;obtain⟨S,d,J,R,O,r,G,q,b,M,i,o,rfl,U,C,l,k⟩:=h;obtain⟨Y,y,p,n,t⟩:=m.ex;intro V;exists _,ZQ (Ct (λ_=>pv 0) L.cS p n I t (λ_=>ZX (pv 1)) rfl rfl rfl N.at_ N.ty N.mB (λX T=>ZU (Zn UQ))) (ZU (Zn UQ));obtain⟨x,B⟩:=U.sh.sh.self;refine⟨_,rfl,S,x,_,rfl,B,rfl,_,rfl,S,d,J,R,O,r,G,q,b,M,i,rfl,U,C,λv a g z=>?_,λj D W a g e=>?_⟩
 ·cases l.uniq z;exact k a g
 ·cases l.uniq D;exact⟨CD,rfl,N.self,k a g⟩
inductive X1(jg jh:aj)(n:je)(H:Hp)(Q:VK)(_:XK):Prop
 |mk(S d l:aj)(k:jq)(j:jo)(h:Nat->jo)(i:Nat->Nat)(g:jx)(a:List (ZR×V))(m:je)(_:n=[.ref S])(_:Z7 jg jh H S d l k j h i g a m)(_:∀(e:Hp)(c:aj),H c=none->(∀ b o,b≠S->H b=some o->e b=some o)->Z7 jg jh e S d c k j h i g a []->Q .non e)
def Ab:ZA zEn zEn (Zc LB):=Zz
def Bg(F:Zj K "forget" "Shelf.forget" LB f fd)(L:Yg K mg jg jh):ZI P w K mg jV ZZ 1 f fd zEn (X1 jg jh):=by
 refine F.ko Ab λG A u s H vs Q E X h=>?_;obtain⟨S,d,y,B,Z,T,V,O,J,Y,rfl,R,k⟩:=h;intro N;exists _,ZU (QY (pv 0) (XR Zs) rfl);exists YC;intro p g;have v:=Za g (.lst []);have C:=R.same v;obtain⟨q,t⟩:=C.sh.self;exists _,rfl,S,jg,q,_,rfl,t,L.cS,L.nl,yP rfl;have D:S≠p:=λz=>by rw[z,ZK] at t;cases t
 have l:∀ b o,b≠S->H b=some o->upd (upd H p (.lst [])) S (.ins jg q (Yr "looks" (.ref p) (QS d y B.length))) b=some o:=λb o n e=>by rw[ZM n];exact v _ _ e
 obtain⟨⟨U,a⟩,x,I⟩:=R.sh;have m:YK H (upd (upd H p (.lst [])) S (.ins jg q (Yr "looks" (.ref p) (QS d y B.length)))):=λc xs e=>l c _ (ZD e a) e;refine k _ p g l ⟨⟨⟨q,ZK⟩,l _ _ (ZD x a) x,(by rw[ZM (Ne.symm D)];exact ZK)⟩,R.keys,R.val,R.lt,R.len,λi j=>?_,λi j=>?_,R.two⟩
 ·have W:=R.tw i j;obtain⟨M,r,_⟩:=W.things;exact W.frame m (λo e=>l _ _ (R.own i j).1 e) (λo e=>l _ _ (ZD r a) e) (λo e=>l _ _ (ZD W.tw.above a) e)
 ·obtain⟨M,r,_⟩:=(R.tw i j).things;exact⟨(R.own i j).1,ZY (R.tw i j).tw.above g,ZY r g,(R.own i j).2.2.2⟩
end Tw
namespace L2
open PySem PySem.Spec PyProof.Rows
def ME:ai->Bool
 | .bool b=>b
 | _=>false
def Kz:∀{bs:jM}{a:jd},ZO (bs.map V.bl) a->a=bs.map Value.bool
 | [],_,.nil=>rfl
 | b::bs,_,.cons r t=>by
  have e:_=Value.bool b:=r;rw[e,Kz t];rfl
inductive UY(x:V)(a:je)(H:Hp)(Q:VK):Prop
 |mk(l:aj)(bs:jM)(_:x=.ref l)(_:a=[.bl true])(_:H l=some (.lst (bs.map V.bl)))(_:Q (.int (bs.countP id:Nat)) H)
def Ah:P4 X "list.count" UY:=by
 intro a s A H x w v t Q I m k h;obtain⟨l,bs,rfl,rfl,f,q⟩:=h;cases m;obtain⟨u,rfl,j⟩:=k.one;cases(show u=Value.bool true from j);obtain⟨z,i,n,r,p,e⟩:=I.lstM f;have d:=Kz r;subst d;refine call_meets F.slot_list_count ⟨_,e,rfl⟩ F.entry_list_count (F.args_list_count_2 _ _) (PySem.SeqAt.list_countAt l _ n none #[] (.bool true) ME) ⟨e,λy g=>?_,?_⟩
 ·obtain⟨b,o,rfl⟩:=zM.mp (sH.mp g)
  cases b with
  | true=>exact NR (y:=.bl true) (x:=.bl true) rfl rfl rfl rfl
  | false=>exact NR (y:=.bl false) (x:=.bl true) rfl rfl rfl rfl
 ·refine⟨.int (bs.countP id:Nat),H,I.tok _,⟨s.toks,?_⟩,q⟩;have c:(bs.map Value.bool).toArray.toList.countP ME=bs.countP id:=by
   rw[tH,List.countP_map];rfl
  rw[c]
inductive Us(x:V)(a:je)(H:Hp)(Q:VK):Prop
 |mk(l:aj)(bs:jM)(j:Nat)(_:x=.ref l)(_:a=[.bl true])(_:H l=some (.lst (bs.map V.bl)))(_:bs[j]? = some true)(_:∀ i,i<j->bs[i]? = some false)(_:j<1000)(_:Q (.int (j:Nat)) H)
def FX:P4 X "list.index" Us:=by
 intro t s M H x L v K Q I G E h;obtain⟨l,bs,j,rfl,rfl,A,p,k,f,q⟩:=h;cases G;obtain⟨u,rfl,D⟩:=E.one;cases(show u=Value.bool true from D);obtain⟨z,C,n,r,J,e⟩:=I.lstM A;have w:=Kz r;subst w;have g:j<bs.length:=(yJ.mp p).1;have c:j<(bs.map Value.bool).toArray.size:=by simpa using g
 have a:∀ m (d:m<(bs.map Value.bool).toArray.size) b,bs[m]? = some b->ME (bs.map Value.bool).toArray[m]=b:=λm d b o=>by
  have:(bs.map Value.bool).toArray[m]? = some (Value.bool b):=by simp[o]
  rw[wJ d] at this;rw[zH.inj this];rfl
 refine call_meets F.slot_list_index ⟨_,e,rfl⟩ F.entry_list_index (F.args_list_index_2 _ _) (PySem.SeqAt.list_indexAt l _ n none #[] (.bool true) ME j c (by lia (splits:=8)) (a j c true p) (λm d i=>a m d false (k m i))) ⟨e,λy B=>?_,?_⟩
 ·obtain⟨b,o,rfl⟩:=zM.mp (sH.mp B)
  cases b with
  | true=>exact NR (y:=.bl true) (x:=.bl true) rfl rfl rfl rfl
  | false=>exact NR (y:=.bl false) (x:=.bl true) rfl rfl rfl rfl
 ·exact⟨.int (j:Nat),H,I.tok _,⟨_,rfl⟩,q⟩
def Cv{K:zZ}{o:Expr}{f:TE}{b a p:aI}{j:Nat}(h:PE X o f)(c:attributeBase o "count" X.env (aG o X.env)=aG o X.env:=by rfl)(e:((aE a (aq [.Constant (.bool true) j p] X.env)).all (λx=>!x.1)&&(backToKw a (keywordEach [] X.env)).all (λx=>x.1.isSome)
   && decide (([.Constant (.bool true) j p]:jy).length+([]:List Keyword).length+(if ([]:List Keyword).isEmpty then 0 else 1)<30))=true:=by rfl)(d:(b.endLine==a.line)=true:=by rfl)(g:X.K=K:=by rfl):
  PE X (.Call (.Attribute o "count" b) [.Constant (.bool true) j p] [] a) (N2 K "list" UY f (Y9 (tC (.bl true)) VP)):=by
 subst g;exact Vh yM PySem.F.slot_list_count PySem.F.type_list_count Ah h (Zf UQ Zs) c e d
def AA{K:zZ}{o:Expr}{f:TE}{b a p:aI}{j:Nat}(h:PE X o f)(c:attributeBase o "index" X.env (aG o X.env)=aG o X.env:=by rfl)(e:((aE a (aq [.Constant (.bool true) j p] X.env)).all (λx=>!x.1)&&(backToKw a (keywordEach [] X.env)).all (λx=>x.1.isSome)
   && decide (([.Constant (.bool true) j p]:jy).length+([]:List Keyword).length+(if ([]:List Keyword).isEmpty then 0 else 1)<30))=true:=by rfl)(d:(b.endLine==a.line)=true:=by rfl)(g:X.K=K:=by rfl):
  PE X (.Call (.Attribute o "index" b) [.Constant (.bool true) j p] [] a) (N2 K "list" Us f (Y9 (tC (.bl true)) VP)):=by
 subst g;exact Vh yM rD rB FX h (Zf UQ Zs) c e d
end L2
namespace Tw
open PySem PySem.Spec L2 PyProof.Rows
variable{jg jh CS CT CH CK CP CB:aj}
def Fx{X:Cx}{K:zZ}{e:Expr}{b:TE}{f:Str}{a:aI}(g:PE X e b)(d:attributeBase e f X.env (aG e X.env)=aG e X.env)(c:X.K=K:=by rfl):PE X (.Attribute e f a) (Iv K b f):=by
 subst c;exact ZMw g d
structure Nm(K:zZ)(mg:jb)(CB:aj)(C:Nat->aj):Prop where
 base:mg "TwigError" = some (.ref CB)
 ty:yA K (.ref CB)=some (.type "type")
 mB:yV K CB (.type "BaseException")=some true
 n0:mg "NoKey" = some (.ref (C 0))
 n1:mg "NoLeaf" = some (.ref (C 1))
 n2:mg "NoStem" = some (.ref (C 2))
 n3:mg "NoTwig" = some (.ref (C 3))
 n4:mg "NotHeld" = some (.ref (C 4))
 n5:mg "Shared" = some (.ref (C 5))
structure XC(K:zZ)(CB:aj)(C:Nat->aj)(j:Nat):Prop where
 exc:X6 K (C j)
 sub:yV K (C j) (.ref CB)=some true
 val:yT K (.ref (C j)) (.type "ValueError")=some true
 k:∀ i,i<6->yT K (.ref (C j)) (.ref (C i))=some (decide (i=j))
def Nc:Nat->Str
 | 0=> "key"
 | 1=> "leaf"
 | 2=> "stem"
 | 3=> "twig"
 | 4=> "held"
 | _=> "shared"
def ZPe(K:zZ)(d:aj)(C:Nat->aj)(Q:VK):XK:=λcls g b=>∃ j,j<6/\cls=.ref (C j)/\XC K d C j /\
 ((j<3/\∀ a t,ZC b a->a t=some (.tup [.str (Nc j)])->Q (.ref t) a) \/
  (3<=j/\∃ c x e,g=some c/\b c=some (.xd [("number",.int x)])/\Yd K (C j) e "number" /\ ∀ a t,ZC b a->a t=some (.tup [.str (Nc j),.int x])->Q (.ref t) a))
inductive YM(P:al)(w:ar)(K:zZ)(mg:jb)(jV:aC)(g:aj)(C:Nat->aj)(h:je)(H:Hp)(Q:VK)(_:XK):Prop
 |mk(f:aj)(fd c:am)(b:Sp)(_:h=[.ref f])(_:ZI P w K mg jV (Z9 P w) 70 f fd [] b)(_:∀ s,BindsTo s fd ⟨[],[]⟩ [])(_:H f=some (Yj f { cls:=.type "function",data:=.func c }))(_:∀(e:VK)(d:XK),(∀ v a,(∀ t:aj,a t=none->Q (.ref t) (upd a t (.tup [.str "told",v])))->e v a)->(∀ cls o a,ZPe K g C Q cls o a->d cls o a)->b [] H e d)
abbrev Bd:jr:=["_law_call","_law_found","e","_law_flags","_law_at"]
def V9:ZA Bd zE1 (Zc JN):=Zz
abbrev fl6(j:Nat):jM:=[decide (0=j),decide (1=j),decide (2=j),decide (3=j),decide (4=j),decide (5=j)]
def Cw{CB:aj}{C:Nat->aj}(F:Zj K "_law_asked" "_law_asked" JN f fd)(T:YO mg)(L:Nm K mg CB C):ZI P w K mg jV ZZ 71 f fd zE1 (YM P w K mg jV CB C):=by
 refine F.ko V9 λa2 A a1 s H vs Q E hr h=>?_;obtain⟨g,gd,M,a3,rfl,FL,bL,hg,Z⟩:=h;have y:=V9.nd;intro Xc;refine⟨_,ZQ (Zw 1 y OO)
  (ZQ (B5 (i:=2) (j:=1) (q:=0) FL hr bL rfl (Or.inl rfl) rfl rfl rfl rfl L.base y rfl rfl L.ty L.mB
   (λa E'=>ZQ (Zw 3 y (XR (Pc (Zm (r:=XT K) Py rfl T.isi Yw (Zg (pv 2) (WH (v:=.ref (C 0)) rfl L.n0 rfl))) (Zm (r:=XT K) Py rfl T.isi Yw (Zg (pv 2) (WH (v:=.ref (C 1)) rfl L.n1 rfl)))
     (Zm (r:=XT K) Py rfl T.isi Yw (Zg (pv 2) (WH (v:=.ref (C 2)) rfl L.n2 rfl))) (Zm (r:=XT K) Py rfl T.isi Yw (Zg (pv 2) (WH (v:=.ref (C 3)) rfl L.n3 rfl))))))
    (ZQ (Zw 3 y (Zu OB (pv 3) (XR (Zg (Zm (r:=XT K) Py rfl T.isi Yw (Zg (pv 2) (WH (v:=.ref (C 4)) rfl L.n4 rfl))) (Zm (r:=XT K) Py rfl T.isi Yw (Zg (pv 2) (WH (v:=.ref (C 5)) rfl L.n5 rfl)))))))
    (ZQ (Zv (PW.pt (VI (YJ Qi (Cv (K:=K) (pv 3)) ZN (Z3 _))
     (UR (XU (Ye (Zm (r:=XT K) Py rfl T.isi Yw (Zg (pv 2) (XY (v:=.ty "ValueError") rfl T.ValueError Ee rfl)))))))) WY Z1)
    (ZQ (Zw 4 y (AA (K:=K) (pv 3)))
    (ZQ (Zv (YJ OQ (pv 4) ZN (Z3 _)) (ZU (Zn (Yq (ZX (Zk K (XR (OY Ym Ym Ym)) (pv 4)))))) Z1)
    (ZU (Zn (Yq (Zg (Zk K (XR (OY Ym Ym Ym)) (Zu QI (pv 4) ZN)) (Fx (pv 2) (by rfl))))))))))) rfl rfl)
  (ZU (Zn (Yq (Zg Ym (pv 1)))))),?_⟩
 exists rfl,⟨M,hg⟩;refine Z _ _ (λv B k2=>?_) λcls z B k2=>?_
 ·exact⟨_,rfl,YC,λt n=>k2 t n⟩
 ·obtain⟨j,hj,rfl,b,u⟩:=k2;exists C j,rfl,b.sub;intro a S;have g1:=Za S (XO Qu a (C j) z);have d:OM (upd B a (XO Qu a (C j) z)) a (C j):=EV ZK;have l:upd B a (XO Qu a (C j) z) a=some (XO Qu a (C j) z):=ZK;generalize upd B a (XO Qu a (C j) z)=H3 at g1 d l⊢;exists _,rfl,a,C j,_,_,rfl,d,b.exc,rfl,b.k 0 ∅,_,rfl,a,C j,_,_,rfl,d,b.exc,rfl,b.k 1 ∅,_,rfl,a,C j,_,_,rfl,d,b.exc,rfl,b.k 2 ∅,_,rfl,a,C j,_,_,rfl,d,b.exc,rfl,b.k 3 ∅,YC
  intro l1 W;have g2:=Za W (.lst [.bl (decide (0=j)),.bl (decide (1=j)),.bl (decide (2=j)),.bl (decide (3=j))]);have o:=d.mono g2;exists _,rfl,_,rfl,a,C j,_,_,rfl,o,b.exc,rfl,b.k 4 ∅,_,rfl,a,C j,_,_,rfl,o,b.exc,rfl,b.k 5 ∅,YC
  intro l2 X;have g3:=Za X (.lst [.bl (decide (4=j)),.bl (decide (5=j))]);exists l1,l2,_,_,rfl,rfl,g3 _ _ ZK,ZK,YC;intro p hp;have g4:=Za hp (.lst ([V.bl (decide (0=j)),.bl (decide (1=j)),.bl (decide (2=j)),.bl (decide (3=j))]++[.bl (decide (4=j)),.bl (decide (5=j))]));have G:=(g2.trans g3).trans g4;generalize N:upd (upd (upd H3 l1 (.lst [.bl (decide (0=j)),.bl (decide (1=j)),.bl (decide (2=j)),.bl (decide (3=j))])) l2 (.lst [.bl (decide (4=j)),.bl (decide (5=j))])) p (.lst ([V.bl (decide (0=j)),.bl (decide (1=j)),.bl (decide (2=j)),.bl (decide (3=j))]++[.bl (decide (4=j)),.bl (decide (5=j))]))=H4 at G⊢;have D:H4 p=some (.lst ((fl6 j).map V.bl)):=by rw[<-N];exact ZK
  have a0:=d.mono G;have I:=G _ _ l;have e:=g1.trans G;have m:(fl6 j).countP id=1:=by
   have:j=0\/j=1\/j=2\/j=3\/j=4\/j=5:=∅
   rcases this with rfl | rfl | rfl | rfl | rfl | rfl <;> rfl
  have U:(fl6 j)[j]? = some true:=by
   have:j=0\/j=1\/j=2\/j=3\/j=4\/j=5:=∅
   rcases this with rfl | rfl | rfl | rfl | rfl | rfl <;> rfl
  have Y:∀ i,i<j->(fl6 j)[i]? = some false:=λi hi=>by
   have:j=0\/j=1\/j=2\/j=3\/j=4\/j=5:=∅
   have:i=0\/i=1\/i=2\/i=3\/i=4:=∅
   rename_i h1
   rcases h1 with rfl | rfl | rfl | rfl | rfl | rfl <;> rcases this with rfl | rfl | rfl | rfl | rfl <;> first | rfl | lia
  exists _,rfl,.inl ⟨rfl,_,ZH.of D⟩,p,_,rfl,rfl,D,rfl,_,rfl;refine Of (by rw[m];rfl) ?_
  refine⟨_,rfl,a,C j,_,_,rfl,a0,b.exc,rfl,b.val,_,rfl,Zl ?_⟩;exists _,rfl,.inl ⟨rfl,_,ZH.of D⟩,p,_,j,rfl,rfl,D,U,Y,by lia
  exists _,rfl,_,_,rfl,rfl,_,rfl;rcases u with ⟨j3,u⟩ | ⟨j3,dx,x,fI,rfl,R,O,u⟩
  ·rw[aK (show (j:Int)<3 by lia)]
   refine Z8 ⟨YC,λl3 c=>⟨_,rfl,.inl ⟨l3,_,_,.str (Nc j),rfl,rfl,ZH.of ZK,?_,YC,λt n=>?_⟩⟩⟩
   ·have:j=0\/j=1\/j=2:=∅
    rcases this with rfl | rfl | rfl <;> rfl
   ·exact u _ t ((e.trans (Za c _)).trans (Za n _)) ZK
  ·rw[aJ (show ¬ (j:Int)<3 by lia)]
   refine Zl ⟨YC,λl3 c=>?_⟩;have J:=Za c (.lst [.str "twig",.str "held",.str "shared"]);refine⟨_,rfl,_,_,rfl,rfl,.inl ⟨l3,_,_,.str (Nc j),rfl,rfl,ZH.of ZK,?_,?_⟩⟩
   ·have:j=3\/j=4\/j=5:=∅
    rcases this with rfl | rfl | rfl <;> rfl
   ·exists _,rfl,Qu,a,C j,dx,_,.int x,fI,rfl,J _ _ I,J _ _ (e _ _ R),O,rfl,YC;intro t n;exact u _ t ((e.trans J).trans (Za n _)) ZK
end Tw
namespace L2
open PySem PySem.Spec PyProof.Rows
inductive Vq(b:zZ)(c:je)(H:Hp)(Q:VK):Prop
 |mk(p:aj)(a:jz)(_:c=[.ref p])(_:ZH b H p (a.map V.int))(_:a≠[])(_:∀ m,m∈a->(∀ x∈a,x<=m)->Q (.int m) H)
def Jg(E:X.calm=true):Wq X (.builtin "max") (Vq X.K):=by
 intro A s V H U T Q I r h;obtain⟨p,o,rfl,G,n,q⟩:=h;obtain⟨u,rfl,N⟩:=VT r;cases N;obtain⟨L,O,M,S⟩:=I.list G;have b:=K5 O;obtain⟨a,e⟩:=b.allInts.items;have y:=M.isList;rw[e] at y;have w:a.toList.map (·.1)=o:=by
  rw[<-nums_intItems,<-e];exact b.numsOf
 have f:a.size=o.length:=by rw[<-w];simp
 have g:0<a.size:=by
  rw[f];exact vU.mpr n
 refine max_intList (I.ok.hd E) y g λv R P z F=>?_;obtain⟨B,t⟩:=argBest_gt (numAt a) (a.size-1);generalize argBest (λi j=>decide (numAt a i > numAt a j)) (a.size-1)=j at z B t;have m:j<a.size:=∅
 have d:∀ i (b:i<a.size),numAt a i=a[i].1:=λi b=>by unfold numAt;simp[b]
 have D:v=.int (numAt a j) a[j].2:=by
  have:=z;unfold intItems at this;simp[m] at this;rw[d j m];exact this.symm
 have c:∀ i (b:i<a.size),o[i]? = some (numAt a i):=λi b=>by rw[<-w,d i b];simp[b]
 refine⟨.int (numAt a j),H,I.kept (t':=P) F,⟨_,D⟩,q _ (zA (c j m)) λx J=>?_⟩;obtain⟨i,k,C⟩:=uK J;have l:i<a.size:=∅
 have:=c i l;rw[zU k,C] at this;rw[zH.inj this];exact t i ∅
end L2
namespace Tw
open PySem PySem.Spec L2 PyProof.Rows
inductive Vz(x:V)(c:je)(H:Hp)(Q:VK):Prop
 |mk(l:aj)(b:je)(a:jp)(v:V)(t:KT)(j:Nat)(_:x=.ref l)(_:c=[v])(_:H l=some (.lst b))(_:jP H a b)(_:ZG H t v)(_:∀ k∈a,k.depth<=100)(_:a[j]? = some t)(_:∀ i k,i<j->a[i]? = some k->k.eqb t=false)(_:j<1000)(_:Q (.int (j:Nat)) H)
open Classical in
def ZIq{k:Nat}(V:ZW (k+3) X.A):P4 X "list.index" Vz:=by
 intro N s σ H x vs v us Q I rx rv h;obtain⟨l,ws,L,v0,t,j,rfl,rfl,S,U,W,T,K,G,B,q⟩:=h;cases rx;obtain⟨u,rfl,ru⟩:=rv.one;obtain⟨z,b,n,r,hl,e⟩:=I.lstM S;have Z:=MI I t v0 u W ru;have M:=kvals_of I L ws b U r;have lk:=M.length;have C:j<b.length:=by have:=(yJ.mp K).1;lia (splits:=8)
 have p:j<b.toArray.size:=by simpa using C
 have f:∀ m (i:m<b.toArray.size),∃ k,L[m]? = some k/\ZV s.heap k b.toArray[m]:=λm i=>by
  have E:m<b.length:=by simpa using i
  obtain⟨a,d,g⟩:=M.get (zU E);exact⟨a,d,by simpa using g⟩
 have o:∀(y:ai)(a:KT),ZV s.heap a y->decide (∃ k,ZV s.heap k y/\k.eqb t=true)=a.eqb t:=λy a w=>by
  cases c:a.eqb t with
  | true=>exact aK ⟨a,w,c⟩
  | false=>
   refine aJ ?_;rintro⟨Y,P,R⟩;have d:=N1 _ _ (ZV.inj a Y y w P);rw[d,R] at c;cases c
 refine call_meets F.slot_list_index ⟨_,e,rfl⟩ F.entry_list_index (F.args_list_index_2 _ _) (PySem.SeqAt.list_indexAt l _ n none #[] u (λy=>decide (∃ k,ZV s.heap k y/\k.eqb t=true)) j p (by lia (splits:=8)) ?_ (λm i D=>?_)) ⟨e,λy w=>?_,?_⟩
 ·obtain⟨a,d,g⟩:=f j p;rw[K] at d;cases d;exact aK ⟨t,g,NY t⟩
 ·obtain⟨a,d,g⟩:=f m i;rw[o _ a g];exact G m a D d
 ·obtain⟨m,i,O⟩:=uK (sH.mp w);obtain⟨a,d,g⟩:=f m (by simpa using i)
  have J:ZV s.heap a y:=by rw[<-O];simpa using g
  rw[o y a J];exact Ku a.depth a t _ y u (zY _) J Z ((ZW.key V.in1) (zI (T a (zA d)) (by lia (splits:=8))))
 ·exact⟨.int (j:Nat),H,I.tok _,⟨_,rfl⟩,q⟩
end Tw
namespace Srt
open PySem PySem.W PyProof.Rows
structure Uq(lt:Nat->Nat->Bool):Prop where
 asym:∀ i j,lt i j=true->lt j i=false
 trans:∀ i j k,lt j i=false->lt k j=false->lt k i=false
def gt(p:jB)(i:Nat):Nat:=p.getD i 0
def Qx(p:jB)(i:Nat):gt p i=(p[i]?).getD 0:=by unfold gt;rw[Array.getD_eq_getD_getElem?]
def Me{p:jB}{i j:Nat}(a:j<=p.size)(k:Nat):gt (kas_rev p i j) k=if i<=k/\k<j then gt p (i+j-1-k) else gt p k:=by
 rw[Qx,Qx,Qx];unfold kas_rev;rw[getElem?_mirror_all a];split <;> rfl
def B9{p:jB}{k l:Nat}(a:k<p.size)(b:l<=k)(x:Nat):gt (bubble p k (k-l)) x=if x=l then gt p k else if l<x/\x<=k then gt p (x-1) else gt p x:=by
 rw[Qx,Qx,Qx,Qx,getElem?_bubble a (k-l) ∅]
 have e:k-(k-l)=l:=∅
 rw[e];split
 ·rfl
 ·split <;> rfl
def PB(n:Nat)(p:jB):Prop:=p.Perm (xS (zQ n))
def PB.size{n:Nat}{p:jB}(h:PB n p):p.size=n:=by rw[h.size_eq];simp
def PB.lt{n:Nat}{p:jB}(h:PB n p){i:Nat}(a:i<n):gt p i<n:=by
 have b:=h.size;rw[Qx,wJ ∅]
 have:p[i]'∅∈(xS (zQ n)):=h.mem_iff.mp (Array.getElem_mem _)
 simpa using this
def PB.rev{n:Nat}{p:jB}(h:PB n p)(i j:Nat):PB n (kas_rev p i j):=(mirror_perm _ _ _ _).trans h
def PB.bub{n:Nat}{p:jB}(h:PB n p)(i j:Nat):PB n (bubble p i j):=(bubble_perm _ _ _).trans h
section
variable{lt:Nat->Nat->Bool}{n:Nat}{cmp:Nat->Nat->(Bool->ak->Prop)->ak->Prop}
def QR(lt:Nat->Nat->Bool)(p:jB)(k:Nat):Prop:=∀ i j,i<=j->j<k->lt (gt p j) (gt p i)=false
def Qv(lt:Nat->Nat->Bool)(p:jB)(k:Nat):Prop:=∀ i j,i<=j->j<k->lt (gt p i) (gt p j)=false
def Uq.irr(O:Uq lt)(i:Nat):lt i i=false:=by
 cases h:lt i i with
 | false=>rfl
 | true=>exact absurd (O.asym i i h) (by rw[h];decide)
def PH(lt:Nat->Nat->Bool)(n:Nat)(cmp:Nat->Nat->(Bool->ak->Prop)->ak->Prop)(s:ak):Prop:=∀ i j,i<n->j<n->∀ C:Bool->ak->Prop,C (lt i j) s->cmp i j C s
def KB(O:Uq lt)(k:PH lt n cmp s){p:jB}(e:PB n p):∀(f m N:Nat)(Q:Nat->ak->Prop),f+m=N->N<=n->1<=m->QR lt p m ->
  (∀ a,m<=a->a<=N->QR lt p a->(a=N\/lt (gt p a) (gt p (a-1))=true)->Q a s)->(kas_asc p f m).kasWp cmp Q s
 | 0,m,N,Q,v,g,w,b,c=>c m (zY _) ∅ b (.inl ∅)
 | f+1,m,N,Q,v,g,w,b,c=>by
  refine k _ _ (e.lt (i:=m) ∅) (e.lt (i:=m-1) ∅) _ ?_
  show (if lt (gt p m) (gt p (m-1))=true then KasT.ret m else kas_asc p f (m+1)).kasWp cmp Q s
  cases l:lt (gt p m) (gt p (m-1)) with
  | true=>rw[aO rfl];exact c m (zY _) ∅ b (.inr l)
  | false=>
   rw[aM zV];refine KB O k e f (m+1) N Q ∅ g ∅ (λi j d y=>?_) λa x q r t=>c a ∅ q r t
   rcases yO j m with h | h
   ·exact b i j d h
   ·have o:j=m:=∅
    subst o;rcases yO i j with u | u
    ·exact O.trans _ _ _ (b i (j-1) ∅ ∅) l
    ·have:i=j:=∅
     rw[this];exact O.irr _
def Lg(lt:Nat->Nat->Bool)(p:jB)(m q:Nat):Prop:=q+1<=m/\∀ i j,m-(q+1)<=i->i<m->m-(q+1)<=j->j<m->lt (gt p i) (gt p j)=false
def HM(O:Uq lt){p:jB}{m q:Nat}(h:m<=p.size)(e:Lg lt p m q)(b:Qv lt p m):Qv lt (kas_rev p (m-(q+1)) m) m:=by
 obtain⟨l,d⟩:=e;have g (k:Nat):=Me (p:=p) (i:=m-(q+1)) h k;intro i j a f;rw[g i,g j];split
 ·rename_i c
  rw[aO ⟨∅,∅⟩]
  exact d _ _ ∅ ∅ ∅ ∅
 ·rename_i c
  split
  ·exact b _ _ ∅ ∅
  ·exact b _ _ a f
def MX(O:Uq lt)(D:PH lt n cmp s):∀(f:Nat)(p:jB)(m q N:Nat)(Q:jB×Nat×Nat->ak->Prop),PB n p->f+m=N->N<=n->Qv lt p m->Lg lt p m q ->
  (∀ a c u,PB n a->m<=c->c<=N->Qv lt a c->Lg lt a c u->Q (a,c,u) s)->(kas_desc f p m q).kasWp cmp Q s
 | 0,p,m,q,N,Q,b,P,F,r,o,x=>x p m q b (zY _) ∅ r o
 | f+1,p,m,q,N,Q,b,P,F,r,o,x=>by
  have S:=o.1;have V:=b.size;refine D _ _ (b.lt (i:=m) ∅) (b.lt (i:=m-1) ∅) _ ?_
  show (if lt (gt p m) (gt p (m-1))=true then (if q > 0 then kas_desc f (kas_rev p (m-(q+1)) m) (m+1) 0 else kas_desc f p (m+1) 0) else .ask (p.getD (m-1) 0) (p.getD m 0) λd=>if d=true then .ret (p,m,q) else kas_desc f p (m+1) (q+1):KasT _).kasWp cmp Q s
  have t:∀ a:jB,PB n a->Qv lt a m->gt a m=gt p m->lt (gt p m) (gt p (m-1))=true->(∀ i,i<m->lt (gt a i) (gt p (m-1))=false)->Qv lt a (m+1):=λa _ w e E R i j v U=>by
   rcases yO j m with h | h
   ·exact w i j v h
   ·have C:j=m:=∅
    subst C;rcases yO i j with l | l
    ·rw[e];exact O.trans _ _ _ (O.asym _ _ E) (R i l)
    ·have:i=j:=∅
     rw[this];exact O.irr _
  cases E:lt (gt p m) (gt p (m-1)) with
  | true=>
   rw[aO rfl];split
   ·have w:=HM O ∅ o r
    have g (k:Nat):=Me (p:=p) (i:=m-(q+1)) (j:=m) ∅ k
    refine MX O D f _ (m+1) 0 N Q (b.rev _ _) ∅ F (t _ (b.rev _ _) w (by rw[g m,aM ∅]) E λi T=>?_) ⟨∅,λi j G H I J=>?_⟩ λa c u y K z A B=>x a c u y ∅ z A B
    ·rw[g i];split
     ·exact o.2 _ _ ∅ ∅ ∅ ∅
     ·exact r _ _ ∅ ∅
    ·have:i=j:=∅
     rw[this];exact O.irr _
   ·refine MX O D f _ (m+1) 0 N Q b ∅ F (t _ b r rfl E λi T=>r _ _ ∅ ∅) ⟨∅,λi j G H I J=>?_⟩ λa c u y K z A B=>x a c u y ∅ z A B
    have:i=j:=∅
    rw[this];exact O.irr _
  | false=>
   rw[aM zV];refine D _ _ (b.lt (i:=m-1) ∅) (b.lt (i:=m) ∅) _ ?_
   show (if lt (gt p (m-1)) (gt p m)=true then KasT.ret (p,m,q) else kas_desc f p (m+1) (q+1)).kasWp cmp Q s
   cases L:lt (gt p (m-1)) (gt p m) with
   | true=>rw[aO rfl];exact x p m q b (zY _) ∅ r o
   | false=>
    rw[aM zV];refine MX O D f _ (m+1) (q+1) N Q b ∅ F (λi j v U=>?_) ⟨∅,λi j G H I J=>?_⟩ λa c u y K z A B=>x a c u y ∅ z A B
    ·rcases yO j m with h | h
     ·exact r i j v h
     ·have C:j=m:=∅
      subst C;rcases yO i j with l | l
      ·exact O.trans _ _ _ L (r i (j-1) ∅ ∅)
      ·have:i=j:=∅
       rw[this];exact O.irr _
    ·rcases yO i m with h | h
     ·rcases yO j m with l | l
      ·exact o.2 i j ∅ h ∅ l
      ·have C:j=m:=∅
       subst C;exact O.trans _ _ _ L (o.2 i (j-1) ∅ h ∅ ∅)
     ·have M:i=m:=∅
      subst M;rcases yO j i with l | l
      ·exact O.trans _ _ _ (o.2 (i-1) j ∅ ∅ ∅ l) E
      ·have:i=j:=∅
       rw[this];exact O.irr _
def ZHD{p:jB}{m:Nat}(b:m<=p.size)(c:Qv lt p m):QR lt (kas_rev p 0 m) m:=λi j a d=>by
 have g (k:Nat):=Me (p:=p) (i:=0) b k;rw[g i,g j,aO ⟨∅,∅⟩,aO ⟨∅,∅⟩]
 exact c _ _ ∅ ∅
def HF(O:Uq lt)(h:PH lt n cmp s){p:jB}(b:PB n p){m N:Nat}{Q:Nat×jB->ak->Prop}(f:1<=m)(l:m<=N)(g:N<=n)(i:Qv lt p m)(j:∀ a c,PB n c->1<=a->a<=N->QR lt c a->Q (a,c) s):(kas_tail3 m N p).kasWp cmp Q s:=by
 unfold kas_tail3;rw[KasT.kasWp_bind];exact KB O h (b.rev 0 m) (N-m) m N _ ∅ g f (ZHD (by have:=b.size;lia) i) λa k d e _=>j a _ (b.rev 0 m) ∅ d e
def Jn(O:Uq lt)(e:PH lt n cmp s){p:jB}(q:PB n p){m N:Nat}{Q:Nat×jB->ak->Prop}(x:m+1<=N)(d:N<=n)(o:Qv lt p (m+1))(h:∀ a b,PB n b->1<=a->a<=N->QR lt b a->Q (a,b) s):(kas_descPart m N p).kasWp cmp Q s:=by
 unfold kas_descPart;rw[KasT.kasWp_bind];refine MX O e (N-(m+1)) p (m+1) 0 N _ q ∅ d o ⟨∅,λi j r t u v=>?_⟩ λb a k c w f g l=>?_
 ·have:i=j:=∅
  rw[this];exact O.irr _
 ·have y:=c.size;show (if k > 0 then kas_tail3 a N (kas_rev b (a-(k+1)) a) else kas_tail3 a N b).kasWp cmp Q s
  split
  ·exact HF O e (c.rev _ _) ∅ f d (HM O ∅ l g) h
  ·exact HF O e c ∅ f d g h
def Ej(O:Uq lt)(l:PH lt n cmp s){p:jB}(a:PB n p){Q:Nat×jB->ak->Prop}(F:1<=n)(o:∀ q v,PB n v->1<=q->q<=n->QR lt v q->Q (q,v) s):(kas_count n p).kasWp cmp Q s:=by
 unfold kas_count;rw[KasT.kasWp_bind];have H:=a.size;refine KB O l a (n-1) 1 n _ ∅ (zY _) (zY _) (λi j b t=>?_) λm x y c d=>?_
 ·have:i=j:=∅
  rw[this];exact O.irr _
 ·split
  ·exact o m p a x y c
  ·rename_i u
   have G:m<n:=by have:m≠n:=λe=>u (by rw[e];simp);lia
   have z:lt (gt p m) (gt p (m-1))=true:=by
    rcases d with d | d
    ·lia
    ·exact d
   split
   ·rename_i D
    refine l _ _ (a.lt (i:=0) ∅) (a.lt (i:=m-1) ∅) _ ?_
    show (if lt (gt p 0) (gt p (m-1))=true then KasT.ret (m,p) else kas_descPart m n (kas_rev p 0 m)).kasWp cmp Q s
    cases C:lt (gt p 0) (gt p (m-1)) with
    | true=>rw[aO rfl];exact o m p a x y c
    | false=>
     rw[aM zV];have w:∀ i j,i<m->j<m->lt (gt p i) (gt p j)=false:=λi j E t=>
      O.trans _ _ _ (c j (m-1) ∅ ∅) (O.trans _ _ _ C (c 0 i ∅ E))
     have g (k:Nat):=Me (p:=p) (i:=0) (j:=m) ∅ k
     refine Jn O l (a.rev 0 m) ∅ (zY _) (λi j b t=>?_) o
     rw[g i,g j];rcases yO j m with h | h
     ·rw[aO ⟨∅,∅⟩,aO ⟨∅,∅⟩]
      exact w _ _ ∅ ∅
     ·have r:j=m:=∅
      subst r;rcases yO i j with f | f
      ·rw[aO ⟨∅,f⟩,aM ∅]
       exact O.trans _ _ _ (O.asym _ _ z) (w _ _ ∅ ∅)
      ·have:i=j:=∅
       rw[this,aM ∅];exact O.irr _
   ·have B:m=1:=∅
    subst B;refine Jn O l a ∅ (zY _) (λi j b t=>?_) o
    rcases yO i j with f | f
    ·have A:i=0:=∅
     have r:j=1:=∅
     subst A r;exact O.asym _ _ z
    ·have:i=j:=∅
     rw[this];exact O.irr _
def KO(O:Uq lt)(m:PH lt n cmp s){p:jB}(e:PB n p){k:Nat}(q:k<n)(g:QR lt p k):∀(f l r:Nat)(Q:Nat->ak->Prop),l<=r->r<=k->r-l<=f->(∀ i,i<l->lt (gt p k) (gt p i)=false)->(∀ i,r<=i->i<k->lt (gt p k) (gt p i)=true) ->
  (∀ j,j<=k->(∀ i,i<j->lt (gt p k) (gt p i)=false)->(∀ i,j<=i->i<k->lt (gt p k) (gt p i)=true)->Q j s)->(kas_place p k f l r).kasWp cmp Q s
 | 0,l,r,Q,v,t,w,a,b,c=>c l ∅ a λi d=>b i ∅
 | f+1,l,r,Q,v,t,w,a,b,c=>by
  unfold kas_place;split
  ·exact c l ∅ a λi d=>b i ∅
  ·rename_i x
   refine m _ _ (e.lt (i:=k) q) (e.lt (i:=(l+r) / 2) ∅) _ ?_
   show (if lt (gt p k) (gt p ((l+r) / 2))=true then kas_place p k f l ((l+r) / 2) else kas_place p k f ((l+r) / 2+1) r).kasWp cmp Q s
   cases u:lt (gt p k) (gt p ((l+r) / 2)) with
   | true=>
    rw[aO rfl];refine KO O m e q g f l ((l+r) / 2) Q ∅ ∅ ∅ a (λi d o=>?_) c
    cases h:lt (gt p k) (gt p i) with
    | true=>rfl
    | false=>
     have:=O.trans _ _ _ (g ((l+r) / 2) i d o) h;rw[u] at this;cases this
   | false=>
    rw[aM zV];refine KO O m e q g f ((l+r) / 2+1) r Q ∅ t ∅ (λi d=>?_) b c
    exact O.trans _ _ _ (g i ((l+r) / 2) ∅ ∅) u
def IN(O:Uq lt)(v:PH lt n cmp s):∀(f:Nat)(p:jB)(k:Nat)(Q:jB->ak->Prop),PB n p->f+k=n->1<=k->QR lt p k->(∀ o,PB n o->QR lt o n->Q o s)->(kas_bin f p k).kasWp cmp Q s
 | 0,p,k,Q,e,u,y,c,m=>m p e (by rw[<-u,Nat.zero_add];exact c)
 | f+1,p,k,Q,e,u,y,c,m=>by
  unfold kas_bin;rw[KasT.kasWp_bind];have C:=e.size;refine KO O v e ∅ c k 0 k _ (yX _) (zY _) ∅ (λi w=>absurd w ∅) (λi w z=>absurd z ∅) λl A a b=>?_
  have g (x:Nat):=B9 (p:=p) (k:=k) (l:=l) ∅ A x
  refine IN O v f _ (k+1) Q (e.bub _ _) ∅ ∅ (λi j h B=>?_) m
  rw[g i,g j];by_cases t:i=l
  ·rw[aO t];by_cases d:j=l
   ·rw[aO d];exact O.irr _
   ·rw[aM d,aO ⟨∅,∅⟩]
    exact O.asym _ _ (b (j-1) ∅ ∅)
  ·rw[aM t];by_cases d:j=l
   ·rw[aO d,aM ∅]
    exact a i ∅
   ·rw[aM d];by_cases q:l<i/\i<=k
    ·rw[aO q,aO ⟨∅,∅⟩]
     exact c _ _ ∅ ∅
    ·rw[aM q];by_cases r:l<j/\j<=k
     ·rw[aO r];exact c _ _ ∅ ∅
     ·rw[aM r];exact c _ _ h ∅
def sort_ok(O:Uq lt)(b:PH lt n cmp s)(g:1<=n){Q:jB->ak->Prop}(d:∀ p,PB n p->QR lt p n->Q p s):(kas_sort n).kasWp cmp Q s:=by
 unfold kas_sort;rw[KasT.kasWp_bind];refine Ej O b (p:=xS (zQ n)) (Array.Perm.refl _) g λm p c f h a=>?_;show (if m<n then kas_bin (n-max m 1) p (max m 1) else .ret p:KasT _).kasWp cmp Q s
 split
 ·have e:max m 1=m:=∅
  rw[e];exact IN O b (n-m) p m Q c ∅ f a d
 ·have e:m=n:=∅
  subst e;exact d p c a
end
end Srt
namespace Tw
open PySem PySem.Spec L2 PyProof.Rows
section
variable{jU:js}{σ:L2.St}
end
section
variable{jU:js}{σ:L2.St}{H:Hp}
def Em{a:aj}{o:HO}(I:ZF X jU σ H s)(l:X.s₀.heap.get? a=none)(t:a≠X.env.locals)(m:∀ x c,X.env.cells.lookup x=some c->c≠a)(y:∀ p∈X.pn++jU,p.1≠a)(v:H a=none)(h:Zb X.prog X.w (upd H a o) s.heap a o):ZF X jU σ (upd H a o) s:=by
 have g:∀{b:aj}{u:HO},H b=some u->b≠a:=fun{b u} e z=>by rw[z,v] at e;cases e
 refine⟨I.ok,I.os,I.bare,⟨I.base.keep,I.base.slot,λb i q n A=>?_,I.base.there,λb k q=>?_,λb i u q=>?_,λb B q=>?_⟩,I.loc,I.cell,?_,λx c e=>?_,λp d=>?_,λb u e=>?_,I.len⟩
 ·rw[ZM (λz=>by rw[z,l] at q;cases q)];exact I.base.free b i q n A
 ·have e:=I.base.tups b k q;rw[ZM (g e)];exact e
 ·have e:=I.base.frzs b i u q;rw[ZM (g e)];exact e
 ·obtain⟨f,e⟩:=I.base.tbls b B q;exact⟨f,by rw[ZM (g e)];exact e⟩
 ·rw[ZM (Ne.symm t)];exact I.free
 ·rw[ZM (m x c e)];exact I.freeC x c e
 ·obtain⟨e,n,r⟩:=I.pin p d;exact⟨e,by rw[ZM (y p d)];exact n,r⟩
 ·by_cases j:b=a
  ·subst j;rw[ZK] at e;cases e;exact h
  ·rw[ZM j] at e;exact(I.hok b u e).stay (λ_ _ _ q=>q) (λc q=>by rw[ZM (g q)];exact q) λc k q=>by rw[ZM (g q)];exact q
def ZO.getD{b:je}{a:jd}(r:ZO b a){i:Nat}(h:i<b.length):ZS (b.getD i .non) (a.getD i Value.none):=by
 have e:=r.length;obtain⟨u,c,d⟩:=r.get (i:=i) (x:=b[i]) (by simp[h])
 rw[zP,zP,c,zU h];exact d
def Jx{b:je}{a:jd}(r:ZO b a):∀(l:jo),(∀ i∈l,i<b.length)->ZO (l.map λi=>b.getD i .non) (l.map λi=>a.getD i Value.none)
 | [],_=>.nil
 | i::l,h=>.cons (ZO.getD r (h i zF)) (Jx r l λj c=>h j (zD _ c))
def II{b:jp}{a:je}(d:jP H b a):∀(l:jo),(∀ i∈l,i<a.length)->jP H (l.map λi=>b.getD i (.int 0)) (l.map λi=>a.getD i .non)
 | [],_=>.nil
 | i::l,h=>by
  have c:=h i zF;obtain⟨t,e,g⟩:=d.get (i:=i) (v:=a[i]) (by simp[c])
  refine .cons (show ZG H (b.getD i (.int 0)) (a.getD i .non) from ?_) (II d l λj f=>h j (zD _ f));rw[zP,zP,e,zU c];exact g
def range_getD{a:Type}(l:List a)(d:a):(zQ l.length).map (λi=>l.getD i d)=l:=by
 apply List.ext_getElem
 ·simp
 ·intro i c b;simp[b]
end
def XL(t:Int×Int×Int):KT:=.tup [.int t.1,.int t.2.1,.int t.2.2]
def Dl(t u:Int×Int×Int):(XL t).plt (XL u)=(XL t).lt (XL u):=by
 obtain⟨a,b,c⟩:=t;obtain⟨d,e,f⟩:=u;unfold XL;simp only[KT.plt,pltL,KT.lt,ltL,KT.eqb]
def OW(h:aC)(a:jK)(b:jd):Prop:=jQ h (a.map XL) b
def Lj{h:aC}{t:Int×Int×Int}{v:ai}(x:ZV h (XL t) v):∃(a:aj)(c d e:Tok),v=.ref a/\IsTup h a #[.int t.1 c,.int t.2.1 d,.int t.2.2 e]:=by
 unfold XL at x;rw[ZV] at x;obtain⟨a,n,rfl,f,b⟩:=x;rw[jQ] at b;obtain⟨o,k,rfl,c,b⟩:=b;rw[jQ] at b;obtain⟨p,l,rfl,d,b⟩:=b;rw[jQ] at b;obtain⟨q,m,rfl,e,b⟩:=b;rw[jQ] at b;subst b;rw[ZV] at c d e;obtain⟨g,rfl⟩:=c;obtain⟨i,rfl⟩:=d;obtain⟨j,rfl⟩:=e;exact⟨a,g,i,j,rfl,f⟩
def AK{t u:Int×Int×Int}{x y:ai}{Q:Bool->ak->Prop}(R:ZV s.heap (XL t) x)(S:ZV s.heap (XL u) y)(Z:A.units+2<cLine)(h:Q ((XL t).lt (XL u)) s):aA (az prog w) A (keyLt' (tuples' true) x y) Q E s:=by
 obtain⟨a,m,o,r,rfl,T⟩:=Lj R;obtain⟨c,v,z,B,rfl,U⟩:=Lj S;obtain⟨C,D,F⟩:=t;obtain⟨G,H,I⟩:=u;rw[<-Dl] at h;unfold XL at h;rw[KT.plt,pltL,pltL,pltL,pltL] at h;obtain⟨⟨X,Y,J,sl⟩,O,M,n,N⟩:=T;obtain⟨⟨cl2,L,K,V⟩,i,l,n2,g⟩:=U;refine PySem.W.kat_lt O N i g ?_;show PySem.W.KatLex prog w A true _ Q [(.int C m,.int G v),(.int D o,.int H z),(.int F r,.int I B)] 0 s;have d:∀(p q:Int)(j k:Tok)(f:Bool->ak->Prop),f ((KT.int p).plt (KT.int q)) s->aA (az prog w) A (oneLt' false (.int p j) (.int q k)) f (λ_ _=>False) s:=λp q j k f P=>by
  refine PySem.W.kat_one _ _ (Hq 0 (.int p) (.int q) A _ _ (by simp[KT.depth]) ⟨j,rfl⟩ ⟨k,rfl⟩ (by simp[KT.cmp]) (by simp[KT.depth];lia) prog w _ _ ?_)
  exact P
 have b:∀ p q:Int,(KT.int p).eqb (KT.int q)=(p==q):=λp q=>by rw[KT.eqb]
 refine tN (SeqAt.EqAt.int_int C m G v prog w _ _ ?_);refine tR (λe=>sF ?_) (λe=>sM ?_)
 ·rw[b,e,aO rfl] at h;refine tN (SeqAt.EqAt.int_int D o H z prog w _ _ ?_);refine tR (λe=>sF ?_) (λe=>sM ?_)
  ·rw[b,e,aO rfl] at h;refine tN (SeqAt.EqAt.int_int F r I B prog w _ _ ?_);refine tR (λe=>sF (PySem.W.kat_nil ?_)) (λe=>sM ?_)
   ·rw[b,e,aO rfl] at h;exact h
   ·rw[b,e,aM zV] at h;exact d _ _ _ _ _ h
  ·rw[b,e,aM zV] at h;exact d _ _ _ _ _ h
 ·rw[b,e,aM zV,KT.plt] at h;exact oneLt_int h
def HW{h:aC}:∀{ts:jK}{vs:jd},OW h ts vs->∃ b,PySem.W.KatTups h vs b/\b.length=vs.length/\∀ v∈b,∃ k t,v=Value.int k t
 | [],vs,x=>by
  unfold OW at x;rw[vP,jQ] at x;subst x;exact⟨[],.nil,rfl,λv c=>absurd c (by simp)⟩
 | t::ts,vs,x=>by
  unfold OW at x;rw[yS,jQ] at x;obtain⟨v,r,rfl,m,x⟩:=x;obtain⟨b,d,e,f⟩:=HW (ts:=ts) (vs:=r) x;obtain⟨a,l,q,u,rfl,p⟩:=Lj m;obtain⟨o,j,g,n,i⟩:=p;exists .int t.1 l::b,.cons j g i rfl d,by simp[e]
  intro v c;rcases yZ.mp c with rfl | c
  ·exact⟨_,_,rfl⟩
  ·exact f v c
def ZKl{f:jK}{a:jd}{Q:PyProof.Rows.SortKind->ak->Prop}(j:0<a.length)(h:OW s.heap f a)(d:Q (tuples' true) s):aA (az prog w) A (keyKind' a.toArray) Q E s:=by
 obtain⟨g,b,i,c⟩:=HW h;refine PySem.W.kat_kind (T:=.type "int") b ∅ (λv e=>?_) (by decide) d
 obtain⟨k,t,rfl⟩:=c v e;exact yL.of_pure rfl
def EQ{c:jK}{a:jd}{Q:SortSt->ak->Prop}(z:2<=a.length)(l:a.length<64)(h:OW s.heap c a)(I:A.units+2<cLine)(H:∀ (p:jB) (b:SortSt),Srt.PB a.length p->arrOf b=p.map (PySem.W.kas_item (a.toArray.zip a.toArray))->failedOf b=none->Q b s):
  aA (az prog w) A ((sortRuns').run (SortSt.mk' (tuples' true) (a.toArray.zip a.toArray) #[] 7 none)) (λr e=>Q r.2 e) E s:=by
 have F:c.length=a.length:=by have:=jQ.length h;rwa [zX] at this
 refine PySem.W.kat_run (G:=λp e=>e=s/\Srt.PB a.length p) rfl z l (λp b e M n o q=>?_) ?_
 ·obtain⟨rfl,f⟩:=q;exact H p b f n o
 ·refine Srt.sort_ok (lt:=λi j=>((c.map XL).getD i (.int 0)).lt ((c.map XL).getD j (.int 0))) ⟨λi j=>O1 _ _,λi j k=>le_trans'⟩ (λi j d D C B=>?_) ∅ λp f N=>⟨rfl,f⟩
  unfold PySem.W.kas_ask;have g:∀ i,i<a.length->∃ t,(c.map XL).getD i (.int 0)=XL t/\ZV s.heap (XL t) (a.getD i Value.none):=λi d=>by
   obtain⟨t,m,v⟩:=jQ.get h (zU d);rw[zJ] at m;obtain⟨L,u,rfl⟩:=yG.mp m;exists L,by rw[zP,zJ,u];rfl
   rw[zP,zU d];exact v
  obtain⟨O,x,J⟩:=g i d;obtain⟨P,y,K⟩:=g j D;refine AK J K I ?_;rw[<-x,<-y];exact B
section
variable{jU:js}{σ:L2.St}{H:Hp}
def D0{k:Nat}{l:aj}{L:je}{C:jK}{Q:VK}(hr:ZW (k+2) X.A)(I:ZF X jU σ H s)(hl:ZH X.K H l L)(hk:jP H (C.map XL) L)(c1:L.length<64)(q:∀ (D:aj) (ws:je) (rs:jK) (U:Hp),ZC H U->H D=none->U D=some (.lst ws)->jP U (rs.map XL) ws->rs.Perm C->Q (.ref D) U):
  aA (az X.prog X.w) X.A (call (.builtin "sorted") [.ref l]) (EP X jU σ Q) X.xe s:=by
 obtain⟨c,rv,pl,hz⟩:=I.list hl;have c0:=rv.length;have a4:=hk.length;rw[zX] at a4;have a9:ZW k X.A.in1.in1:=(ZW.in1 (k:=k+1) hr).in1;refine Calls.call_function_entry kind_sorted plain_sorted entry_sorted (args_sorted1 _) ?_;unfold Builtin.«sorted»;refine aa (m:=checkCount "sorted" 1 1 _) (ad ?_);refine aa (collect_list pl.isList ?_ (by rw[sizeLine_eq];lia))
 refine aa (wpAny_newList ?_ (by rw[sizeLine_eq];lia))
 have y:((s.heap.push (seqObj "list" #[] 0)).update s.heap.objs.size (Obj.mapSeq (· ++ c.toArray))).objs.size=s.heap.objs.size+1:=by rw[Heap.size_update,size_push']
 obtain⟨f,x⟩:∃ f,((s.heap.push (seqObj "list" #[] 0)).update s.heap.objs.size (Obj.mapSeq (· ++ c.toArray))).push (seqObj "list" c.toArray 0)=f:=⟨_,rfl⟩;have u:f.get? (s.heap.objs.size+1)=some (seqObj "list" c.toArray 0):=by rw[<-x,<-y];exact yW _ rfl
 have P:∀ b o,s.heap.get? b=some o->f.get? b=some o:=λb o z=>by
  have G:b<s.heap.objs.size:=zW z;rw[<-x,Heap.get?_push_ne _ _ _ (by rw[y];exact zO (vX G)),tK _ _ _ _ (zO G),Heap.get?_push_ne _ _ _ (zO G)]
  exact z
 have c4:f.objs.size=s.heap.objs.size+2:=by rw[<-x,size_push',y]
 obtain⟨D,eD⟩:∃ D,s.heap.objs.size+1=D:=⟨_,rfl⟩;rw[eD] at u;have F:s.heap.objs.size<=D:=∅
 have j:H D=none:=I.hok.fresh F;have d:Wf X jU H D:=I.fpOk F j;have a1:X.s₀.heap.get? D=none:=vH (zI I.sz F);have I1:ZF X jU σ H { s with heap:=f }:=I.kept (t':=s.toks) P;have a0:((s.heap.push (seqObj "list" #[] 0)).update s.heap.objs.size (Obj.mapSeq (· ++ c.toArray))).objs.size=D:=y.trans eD;show aA _ _ _ _ _ { s with heap:=((s.heap.push (seqObj "list" #[] 0)).update s.heap.objs.size (Obj.mapSeq (· ++ c.toArray))).push (seqObj "list" c.toArray 0) };rw[x,a0];refine aa (af (wpAny_call_entry slot_list_sort ⟨_,u,rfl⟩ entry_list_sort ?body (args_list_sort _)));rw[list_sort_plain];refine aa (listItems_at u rfl ?_);refine aa (listUpdate_at u rfl ?_ (by rw[zN,sizeLine_eq];lia) (yX _))
 have T:=wH.update f D (Obj.mapSeq λ_=>(#[]:jw));obtain⟨e1,J⟩:∃ e1,(f.update D (Obj.mapSeq λ_=>(#[]:jw))).get? D=some (seqObj "list" #[] e1):=⟨_,get?_update_seq u λ_=>#[]⟩;obtain⟨h,M⟩:∃ h,f.update D (Obj.mapSeq λ_=>(#[]:jw))=h:=⟨_,rfl⟩;rw[M] at J T;show aA _ _ _ _ _ { s with heap:=f.update D (Obj.mapSeq λ_=>(#[]:jw)) };rw[M];have I2:ZF X jU σ H { s with heap:=h }:=ZF.turned (s:={ s with heap:=f }) (t':=s.toks) (it:=D) I1 (λb o n z=>(T.2 b n).trans z) d.1 d.2.1 d.2.2.2.1 d.2.2.2.2.1 d.2.2.2.2.2;refine aa (seqEpoch_at J rfl ?_);refine aa (wpAny_newTuple ?_ (by show c.length<=_;rw[sizeLine_eq];lia))
 refine aa (wpAny_newList ?_ (yX _));refine af ?_;obtain⟨e,N⟩:∃ e,(h.push (seqObj "tuple" c.toArray 0)).push (seqObj "list" #[] 0)=e:=⟨_,rfl⟩;have v:∀ b o,h.get? b=some o->e.get? b=some o:=λb o z=>by rw[<-N];exact zS _ (zS _ z)
 have I3:ZF X jU σ H { s with heap:=e }:=I2.kept (t':=s.toks) v;have R:e.get? D=some (seqObj "list" #[] e1):=v _ _ J;have sv:OW e C c:=kvals_of I3 _ _ _ hk rv;show aA _ _ _ _ _ { s with heap:=(h.push (seqObj "tuple" c.toArray 0)).push (seqObj "list" #[] 0) };rw[N];dsimp only;have E:∀(p:jB),Srt.PB c.length p->EP X jU σ Q (.ref D) { s with heap:=e.update D (Obj.mapSeq λ_=>xS (p.toList.map λi=>c.getD i Value.none)) }:=by
  intro p hp;have a7:=hp.size;have t:∀ i∈p.toList,i<L.length:=λi hi=>by
   have:i∈(xS (zQ c.length)):=hp.mem_iff.mp (sC.mp hi);have:=(xN.mp (by simpa using this):i<c.length)
   lia
  have a5:p.toList.length=c.length:=by rw[vT,a7]
  have s2:=wH.update e D (Obj.mapSeq λ_=>xS (p.toList.map λi=>c.getD i Value.none));obtain⟨c2,a2⟩:∃ c2,(e.update D (Obj.mapSeq λ_=>xS (p.toList.map λi=>c.getD i Value.none))).get? D=some (seqObj "list" (xS (p.toList.map λi=>c.getD i Value.none)) c2):=⟨_,get?_update_seq R λ_=>xS (p.toList.map λi=>c.getD i Value.none)⟩;have J2:ZF X jU σ H { s with heap:=e.update D (Obj.mapSeq λ_=>xS (p.toList.map λi=>c.getD i Value.none)) }:=ZF.turned (s:={ s with heap:=e }) (t':=s.toks) (it:=D) I3 (λb o n z=>(s2.2 b n).trans z) j d.2.1 d.2.2.2.1 d.2.2.2.2.1 d.2.2.2.2.2;have J3:=Em (a:=D) (o:=.lst (p.toList.map λi=>L.getD i .non)) J2 a1 d.2.1 d.2.2.2.2.1 d.2.2.2.2.2 j ⟨by rw[zX,a5,sizeLine_eq];lia,_,c2,Jx rv _ t,a2⟩
  have g:=Za j (.lst (p.toList.map λi=>L.getD i .non));refine⟨.ref D,_,J3,rfl,q D _ (p.toList.map λi=>C.getD i (0,0,0)) _ g j ZK ?_ ?_⟩
  ·have:=II (hk.sm g) _ t;have e2:(p.toList.map λi=>(C.map XL).getD i (.int 0))=(p.toList.map λi=>C.getD i (0,0,0)).map XL:=by
    rw[zL];refine uJ λi hi=>?_;have c3:=t i hi;have a3:i<C.length:=∅
    simp[zP,zU a3]
   rw[e2] at this;exact this
  ·have a6:p.toList.Perm (zQ c.length):=by simpa using Array.perm_iff_toList_perm.mp hp
   have:=a6.map (λi=>C.getD i (0,0,0));rw[show c.length=C.length by lia,range_getD] at this
   exact this
 by_cases h:c.length<2
 ·rw[aO (by rw[zN];exact h),aO (by rw[zN];exact h)]
  refine aa (ad (aa (ad ?_)));dsimp only;have e0:((arrOf (SortSt.mk' general' (c.toArray.zip c.toArray) #[] 7 none)).map (·.2))=xS ((xS (zQ c.length)).toList.map λi=>c.getD i Value.none):=by
   show ((c.toArray.zip c.toArray).map (·.2))=_;apply Array.toList_inj.mp;rw[Array.toList_map,ksk_zip];simp only[tH];rw[range_getD,List.map_snd_zip ∅]
  rw[e0];refine aa (seqEpoch_at R rfl ?_);refine aa (listUpdate_at R rfl ?_ (yX _) (by rw[zN,zX,tH,tO,sizeLine_eq];lia))
  simp only[bne_self_eq_false,vW,if_false];exact ad ⟨.none,rfl,ad ⟨_,rfl,E _ (Array.Perm.refl _)⟩⟩
 ·rw[aM (by rw[zN];exact h),aM (by rw[zN];exact h)]
  refine aa (ZKl ∅ sv ?_)
  refine aa (Zt (EQ (Q:=λB S=>S={ s with heap:=e }/\∃ p:jB,Srt.PB c.length p/\arrOf B=p.map (PySem.W.kas_item (c.toArray.zip c.toArray))/\failedOf B=none)
   ∅ ∅ sv (by have a:=a9.un;lia) λp B Y Z b4=>⟨rfl,p,Y,Z,b4⟩) λr S a8=>?_)
  obtain⟨⟨⟩,B⟩:=r;obtain⟨rfl,p,Y,Z,b4⟩:=a8;have O:=PySem.W.kat_snds rfl Z;dsimp only;rw[O];refine aa (seqEpoch_at R rfl ?_);refine aa (listUpdate_at R rfl ?_ (yX _) (by rw[zN,zX,vT,Y.size,sizeLine_eq];lia))
  rw[b4];simp only[bne_self_eq_false,vW,if_false];exact ad ⟨.none,rfl,ad ⟨_,rfl,E p Y⟩⟩
end
end Tw
namespace L2
open PySem PySem.Spec PyProof.Rows
section
variable{σ:St}{H:Hp}
def Fv{J:It}{K:zZ}{r:jo}{z:TT}{w:TE}{Q:VK}{n:Nat}(h:Nat->V->Prop)(g:aj->Nat->je->Hp->Prop)(S:n<ap)(q:∀ D i b H,i<n->g D i b H->J.go i H)(I:∀ D i b H x k,i<n->g D i b H->J.yld i H x k->k=H/\h i x)(j:∀ D b H,g D n b H->J.stop n H)(B:∀ D,H D=none->g D 0 [] (upd H D (.lst [])))(step:∀ D i b H x,H D=some (.lst b)->b.length<=i->i<n->h i x->g D i b H->∃ a u v,x=.ref a/\Zd K H a [u,v]/\∀ (R:VK) (N:Hp->Prop),(∀ y f,f D=some (.lst b)->g D (i+1) (b++[y]) (upd f D (.lst (b++[y])))->R y f)->(∀ f,f D=some (.lst b)->g D (i+1) b f->N f) ->
   z ([some u,some v]++r.map λi=>(σ[i]?).join) H λc t=>if c=true then w ([some u,some v]++r.map λi=>(σ[i]?).join) t R else N t)(o:∀ D b H,H D=some (.lst b)->g D n b H->Q (.ref D) H):Nl J 2 (KG K) σ r z w H Q:=by
 intro D C;exists λi m H=>m=n-i/\i<=n/\∃ b,H D=some (.lst b)/\b.length<=i/\g D i b H,⟨n,rfl,yX _,[],ZK,zY _,B D C⟩;rintro i m H ⟨rfl,P,b,e,E,p⟩;by_cases d:i<n
 ·refine .inr ⟨q D i b H d p,λx k y M F=>?_⟩;obtain⟨rfl,L⟩:=I D i b H x k d p y;obtain⟨a,u,v,rfl,G,O⟩:=step D i b _ x e E d L p
  match M,F with
  | [T,U],_=>
   exists a,_,rfl,G,rfl,u,_,rfl,v,_,rfl,rfl,⟨[some u,some v],rfl,rfl⟩;refine O _ _ (λy f l s=>?_) (λf l s=>?_)
   ·exact⟨b,n-(i+1),l,∅,∅,rfl,d,b++[y],ZK,by rw[zE,xI];lia,s⟩
   ·exact⟨n-(i+1),∅,rfl,d,b,l,∅,s⟩
 ·have A:i=n:=∅
  subst A;exact .inl ⟨j D b H p,o D b H e p⟩
end
end L2
namespace Tw
open PySem PySem.Spec L2 PyProof.Rows
variable{jg jh CS CT CH CK CP CB:aj}
def Mt{X:Cx}{K:zZ}{k:Nat}{o e:Expr}{h:TE}{t:TA}{c a:aI}(m:ZW (k+3) X.A)(l:PE X o h)(j:PA X [e] t)(d:attributeBase o "index" X.env (aG o X.env)=aG o X.env:=by rfl)(g:((aE a (aq [e] X.env)).all (λx=>!x.1)&&(backToKw a (keywordEach [] X.env)).all (λx=>x.1.isSome)
   && decide (([e]:jy).length+([]:List Keyword).length+(if ([]:List Keyword).isEmpty then 0 else 1)<30))=true:=by rfl)(f:(c.endLine==a.line)=true:=by rfl)(n:aq [e] X.env=(false,aG e X.env)::aq [] X.env:=by rfl)(b:(aE a (aq [] X.env)).any (·.1)=false:=by rfl)(i:X.K=K:=by rfl):
  PE X (.Call (.Attribute o "index" c) [e] [] a) (N2 K "list" Vz h t):=by
 subst i;exact Vh yM rD rB (ZIq m) l j d g f n b
inductive Pm(f:je)(H:Hp)(Q:VK):Prop
 |mk(l:aj)(b:je)(d:jK)(_:f=[.ref l])(_:H l=some (.lst b))(_:jP H (d.map XL) b)(_:b.length<64)(_:∀(D:aj)(e:je)(c:jK)(a:Hp),ZC H a->H D=none->a D=some (.lst e)->jP a (c.map XL) e->c.Perm d->Q (.ref D) a)
def CG{X:Cx}{k:Nat}(e:ZW (k+2) X.A):Wq X (.builtin "sorted") Pm:=by
 intro b s n H m i Q I r h;obtain⟨l,j,g,rfl,d,c,a,q⟩:=h;obtain⟨u,rfl,f⟩:=VT r;cases f;exact D0 e I (ZH.of d) c a q
def Fl{H:Hp}{k:jK}{l:je}{i:Nat}{u:V}(h:jP H (k.map XL) l)(e:l[i]? = some u):∃ t a,t∈k/\u=.ref a/\H a=some (.tup [.int t.1,.int t.2.1,.int t.2.2]):=by
 obtain⟨t,d,c⟩:=h.get e;rw[zJ] at d;obtain⟨r,m,rfl⟩:=yG.mp d;unfold XL at c;rw[ZG] at c;obtain⟨a,x,rfl,n,b⟩:=c;rw[jP] at b;obtain⟨s,o,rfl,f,b⟩:=b;rw[jP] at b;obtain⟨v,p,rfl,g,b⟩:=b;rw[jP] at b;obtain⟨w,q,rfl,j,b⟩:=b;rw[jP] at b;subst b;rw[ZG] at f g j;subst f g j;exact⟨r,a,zA m,rfl,n⟩
structure XW(H:Hp)(dT:aj)(ts:jq)(lv:jo)(bs:ju)(kvs:List (ZR×V)):Prop where
 dict:H dT=some (.dK kvs)
 vl:Lv ts lv
 keys:kvs.map (·.1)=lv.map (λi:Nat=>(Sum.inl (i:Int):ZR))
 len:bs.length=ts.length
 tw:∀ i:Nat,i∈lv->∃ tp us,Z5 kvs (Sum.inl (i:Int))=some (.ref tp)/\H tp=some (.tup [.str (kindOf (gd ts i)),.ref (bs.getD i 0)])/\H (bs.getD i 0)=some (.lst us)/\((gd ts i).h=0->jP H (Y0 (gd ts i).rows) us)/\((gd ts i).h≠0->us=iN (gd ts i).bs)
def XW.at{H:Hp}{d:aj}{c:jq}{b:jo}{bs:ju}{a:List (ZR×V)}(h:XW H d c b bs a):VG H c b a:=⟨h.keys,λi l=>by
 obtain⟨m,n,e,f,g,j,k⟩:=h.tw i l;exact⟨_,e,m,_,n,rfl,f,g,j,k⟩⟩
def XW.frame{H H':Hp}{b:aj}{e:jq}{c:jo}{bs:ju}{a:List (ZR×V)}(h:XW H b e c bs a)(m:YK H H')(p:H' b=some (.dK a))(n:∀ i:Nat,i∈c->∀ o,H (bs.getD i 0)=some o->H' (bs.getD i 0)=some o):XW H' b e c bs a:=by
 exists p,h.vl,h.keys,h.len;intro i d;obtain⟨q,r,f,g,j,k,l⟩:=h.tw i d;exact⟨q,r,f,m _ _ g,n i d _ j,λz=>(k z).mono m _ _,l⟩
def XW.same{H b:Hp}{c:aj}{f:jq}{d:jo}{bs:ju}{a:List (ZR×V)}(h:XW H c f d bs a)(s:ZC H b):XW b c f d bs a:=h.frame (ZC.tups s) (s _ _ h.dict) λi g o e=>s _ _ e
def XW.sx{H c:Hp}{p d:aj}{f:jq}{b:jo}{bs:ju}{a:List (ZR×V)}(h:XW H d f b bs a)(W:ZL H p)(k:∀ i:Nat,i∈b->bs.getD i 0≠p)(s:ZJ p H c):XW c d f b bs a:=by
 obtain⟨l,e⟩:=W.some;exact h.frame (s.tupsW W) (s _ _ h.dict (ZD h.dict e)) λi j o g=>s _ _ g (k i j)
def XW.lawT{gt:jp}{H:Hp}{e:aj}{d:jq}{f:jo}{bs:ju}{c:List (ZR×V)}(h:XW H e d f bs c)(i:WF gt d)(g:gt.length=64)(j:gt.Pairwise λa b=>a.lt b=true):Y6 gt H e d f c:=⟨h.dict,h.at,h.vl,i,g,j⟩
def KM{gt:jp}(n:gt.Pairwise λa b=>a.lt b=true){t:KT}(h:t∈gt):∃ j,j<gt.length/\gt[j]? = some t/\∀ i k,i<j->gt[i]? = some k->k.eqb t=false:=by
 obtain⟨j,f,e⟩:=uK h;have d:gt[j]? = some t:=by rw[zU f,e]
 exists j,f,d;intro i k l m;have:=Kn n l m d
 cases c:k.eqb t with
 | false=>rfl
 | true=>
  have g:=N1 _ _ c;subst g;rw[Np] at this;cases this
def LZ{gt:jp}{g:jq}{i:Nat}{t:ZT}(h:Y2 gt g i t):(Yh t).lo∈gt/\(Yh t).hi∈gt:=by
 obtain⟨r,j,e,c⟩:=NL h.ne;obtain⟨f,d,a,b⟩:=JP h.ne;rw[c,b];exact⟨(h.inn r (by rw[e];simp)).1,(h.inn d (by rw[a];simp)).1⟩
structure UN(gt:jp)(H:Hp)(gl:aj)(gs:je):Prop where
 at_:H gl=some (.lst gs)
 keys:jP H gt gs
 fit:∀ t∈gt,t.fits 3=true
 len:gt.length=64
 up:gt.Pairwise λa b=>a.lt b=true
def UN.frame{gt:jp}{H H':Hp}{a:aj}{b:je}(g:UN gt H a b)(m:YK H H')(k:H' a=some (.lst b)):UN gt H' a b:=⟨k,g.keys.mono m _ _,g.fit,g.len,g.up⟩
def UN.same{gt:jp}{H a:Hp}{b:aj}{c:je}(g:UN gt H b c)(s:ZC H a):UN gt a b c:=g.frame (ZC.tups s) (s _ _ g.at_)
def UN.sx{gt:jp}{H b:Hp}{p a:aj}{c:je}(g:UN gt H a c)(W:ZL H p)(n:a≠p)(s:ZJ p H b):UN gt b a c:=g.frame (s.tupsW W) (s _ _ g.at_ n)
inductive Vy(gt:jp)(o:je)(H:Hp)(Q:VK)(_:XK):Prop
 |mk(p k j e:aj)(l:jq)(a:jo)(bs:ju)(g c:List (ZR×V))(n:Nat->Nat)(m:je)(_:o=[.ref p,.ref k,.ref j,.ref e])(_:ZL H p)(_:XW H k l a bs g)(_:∀ i:Nat,i∈a->bs.getD i 0≠p)(_:WF gt l)(_:H j=some (.dK c))(_:VZ c a n)(_:UN gt H e m)(_:e≠p)(_:0<a.length)(_:a.length<64)(_:∀(d:Hp)(D:aj)(h:jo),ZJ p H d->ZL d p->H D=none->d D=some (.lst (iN h))->(∀ b∈h,b∈a)->h.length<=4->Q (.ref D) d)
abbrev B2:jr:=["_law_well_here","_law_twigs","_law_holds","_law_grid_here","_law_some","_law_run_here","_law_last","_law_at","_law_most","_law_labels","_law_low","_law_top","_law_number"]
def PF:ZA B2 zEe (Zc Kt):=Zz
def Ak:(["_law_label_here","_law_number","_law_grid_here","_law_last"]:jr).Nodup:=by decide +kernel
def Bw{gt:jp}(F:Zj K "_law_run" "_law_run" Kt f fd)(T:YO mg)(DP:ZB P w K mg jV 1 "_law_pull" zEf YT)(DK:ZB P w K mg jV 2 "_law_picked" zEg YA)(DL:ZB P w K mg jV 2 "_law_label" zEc (Yk gt)):
  ZI P w K mg jV ZZ 4 f fd zEe (Vy gt):=by
 refine F.ko PF λt8 A t4 s H vs Q E hr h=>?_;obtain⟨p,dT,dH,gl,ts,d,bs,a8,hvs,ho,gs,rfl,W,Y,bp,hw,r6,hH,G,m2,l0,a0,k⟩:=h;have nd:=PF.nd;have hu:=Wj hr;have m8:=hr.mono (show 1<=3 by lia)
 have c4:=hr.mono (show 2<=3 by lia)
 intro Xc;refine⟨_,ZQ (OR (i:=4) [2] ["_law_holds"] nd rfl rfl rfl (WZ (Zm (QL rfl) rfl T.sorted UW (ZX (pv 1)))) (λ_ _ _ _ _=>NN (YJ QH (WP hu (pv 1) (pv 0)) ZN (Z3 _))) (λ_ _ _ _ _=>pv 0) ⟨rfl,.inl rfl,rfl,trivial⟩)
  (ZQ (Zv (PW.pt (VI (YJ WW (Zp DP m8 (Zg (pv 0) ZN)) ZN (Z3 _)) (UR (YJ (MQ hr.units0) (pv 4) (XR Zs) (Z3 _))))) (ZU (Zw 4 nd (Zm (QL rfl) rfl T.sorted UW (ZX (pv 1))))) Z1)
  (ZQ (Zw 5 nd (XR (ZX (Zp DK c4 (Zg (pv 0) (pv 4))))))
  (ZQ (ND (i:=6) nd rfl (Or.inr rfl) (Zp DL c4 (Zg (pv 1) (Zk K (pv 5) ZN))))
  (ZQ (Zw 7 nd (Mt (K:=K) hr (pv 3) (ZX (Zk K (pv 6) ZN))))
  (ZQ (Zw 8 nd (Zu WI ZN (Zp DP m8 (Zg (pv 0) ZN))))
  (ZQ (OR (i:=9) [1] ["_law_twigs"] nd rfl rfl rfl (WZ (pv 4)) (λ_ _ _ _ _=>UG) (λ_ _ _ _ _=>Yq (Zg (Zp DL c4 (Zg (pv 1) (pv 0))) (pv 0))) ⟨rfl,.inl rfl,rfl,trivial⟩)
  (ZQ (Jv (g:=KG K) ["_law_label_here","_law_number"] "_law_label_here" (i:=4) [3,6] ["_law_grid_here","_law_last"] nd rfl rfl rfl (λ_ _ _ _ _=>FH rfl Ak rfl rfl rfl rfl) (WZ (pv 9))
   (λ_ _ _ _ _=>NN (YJ WW (Zk K (pv 0) ZN) (Zk K (pv 3) ZN) (Z3 _)))
   (λ_ _ _ _ _=>Yq (OY (Mt (K:=K) hr (pv 2) (ZX (Zk K (pv 0) ZN))) (Mt (K:=K) hr (pv 2) (ZX (Zk K (pv 0) ZN))) (pv 1)))
   ⟨rfl,.inl rfl,rfl,rfl,.inl rfl,rfl,trivial⟩)
  (ZQ (VV PassesOwn.never rfl (WZ (Zm (CG c4) rfl T.sorted UW (ZX (pv 4)))) (Q7 rfl (Y7 (Yb 10 nd) (Y7 (Yb 11 nd) (Y7 (Yb 12 nd) Q4))))
   (ZU (Zv (PW.pt (Na (YJ QH (pv 10) (pv 7) (Z3 _)) (Mb (YJ OQ (Zm WA rfl T.len XQ (ZX (pv 5))) (pv 8) (Z3 _)))))
    (ZQ (Xe (Vh yM xL xK UI (pv 5) (ZX (pv 12)))) (ZU (Zw 7 nd (pv 11)))) Z1)))
  (ZU (Zn (pv 5))))))))))),?_⟩
 have eI:(d.map λi:Nat=>(i:Int)).map V.int=iN d:=by rw[zL];rfl
 obtain⟨xsP,r9⟩:=W.some;have M:∀ c,H c=none->c≠p:=λc e=>(ZY r9 e).symm;have i0:∀ t∈gt,t.depth<=100:=λt ht=>zI (Q3 t 3 (G.fit t ht)) ∅
 exists _,rfl,dT,a8,d.map λi:Nat=>(i:Int),rfl,Y.dict,(by rw[Y.keys,zL];rfl),US Y.vl.up,by simpa using a0
 intro q nq;rw[eI];have g1:=Za nq (.lst (iN d));have hq:upd H q (.lst (iN d)) q=some (.lst (iN d)):=ZK;generalize upd H q (.lst (iN d))=H1 at g1 hq⊢;refine⟨q,rfl,⟨_,ZH.of hq⟩,MF d (λj=>decide (0<ho j)) ∅ (λi H3 s3 hi=>⟨_,.int (d[i]:Nat),ZH.of (s3 _ _ hq),by simp[iN,zU hi]⟩) (λi H3 x H4 s3 hi hy=>⟨hy.1,hy.2 _ (ZH.of (s3 _ _ hq))⟩) (λH3 s3=>⟨_,ZH.of (s3 _ _ hq),by simp[iN]⟩) (λH2 j R hj s2 hR=>?_) (λD5 H2 s2 i6 Z=>?_)⟩
 ·have jl:j∈d:=hj;have hg:Zi H2 dH (.int (j:Nat)) (some (.int (ho j:Nat))):=hH.2 j jl ▸ Zi.k (k:=Sum.inl (j:Int)) ((g1.trans s2) _ _ r6);have ed:decide (((ho j:Nat):Int) > 0)=decide (0<ho j):=by rw[decide_eq_decide];lia
  exists _,rfl,_,rfl,dH,.int (ho j:Nat),rfl,hg,_,_,rfl,rfl,_,rfl;rw[ed];exact hR
 have i9:=g1.trans s2;have W2:=W.same i9;have n5:H D5=none:=ZC.free g1 i6;have b5:∀ b∈d.filter (λj=>decide (0<ho j)),b∈d:=λb hb=>(xU.mp hb).1;have l5:(d.filter (λj=>decide (0<ho j))).length<64:=xP (vD _ _) a0;generalize d.filter (λj=>decide (0<ho j))=l at Z b5 l5;clear hq i6;exists _,rfl,p,8,rfl,W2,VW (by decide) (by decide)
 intro r H5 r0 r1 W5 s3;have U:ZJ p H H5:=(ZJ.of i9).trans s3
 replace Z:=s3 _ _ Z (M _ n5)
 clear s3 i9 W2 g1 s2;exists rfl,_,rfl;have L:∀(H6:Hp)(q:aj),ZJ p H H6->ZL H6 p->H6 q=none->H q=none:=λH6 q x6 W6 e=>by
  cases z:H q with
  | none=>rfl
  | some o=>
   by_cases y:q=p
   ·subst y;obtain⟨xs,e'⟩:=W6.some;rw[e'] at e;cases e
   ·rw[x6 _ _ z y] at e;cases e
 refine WV (λc=>?gT) (λc=>?gE)
 case' gE=>
  exists _,rfl,YC;intro e0 m4;have g0:=Za m4 (.lst []);exists D5,e0,iN l,rfl,rfl,ZH.of (g0 _ _ Z),ZH.of ZK,_,rfl
  replace Z:=g0 _ _ Z
  replace W5:=W5.same g0
  replace U:=U.trans (ZJ.of g0)
  generalize upd H5 e0 (.lst [])=H6 at g0 Z W5 U⊢;clear g0 m4;refine WV (λc2=>?gT2) (λc2=>?gF)
 case' gF=>
  have p5:0<l.length:=by
   cases l with
   | nil=>exact absurd rfl c2
   | cons _ _=>simp
 case' gT=>
  exists _,rfl,dT,a8,d.map λi:Nat=>(i:Int),rfl,(Y.sx W bp U).dict,(by rw[Y.keys,zL];rfl),US Y.vl.up,by simpa using a0
  intro D5 nq;rw[eI];have i4:H D5=none:=L _ D5 U W5 nq;have g:=Za nq (.lst (iN d))
  replace U:=U.trans (ZJ.of g)
  replace W5:=W5.same g
  clear n5;have n5:=i4
  replace Z:=ZK (H:=H5) (a:=D5) (o:=HO.lst (iN d))
  replace l5:d.length<64:=by simpa using a0
  have p5:0<d.length:=by simpa using l0
  generalize i2:d=l at l5 p5 W5 U Z g⊢
  replace b5:∀ b∈l,b∈d:=λb hb=>by rw[i2];exact hb
 case' gT2=>
  exists _,rfl,dT,a8,d.map λi:Nat=>(i:Int),rfl,(Y.sx W bp U).dict,(by rw[Y.keys,zL];rfl),US Y.vl.up,by simpa using a0
  intro D5 nq;rw[eI];have i4:H D5=none:=L _ D5 U W5 nq;have g:=Za nq (.lst (iN d))
  replace U:=U.trans (ZJ.of g)
  replace W5:=W5.same g
  clear n5;have n5:=i4
  replace Z:=ZK (H:=H6) (a:=D5) (o:=HO.lst (iN d))
  replace l5:d.length<64:=by simpa using a0
  have p5:0<d.length:=by simpa using l0
  generalize i2:d=l at l5 p5 W5 U Z g⊢
  replace b5:∀ b∈l,b∈d:=λb hb=>by rw[i2];exact hb
 all_goals
  have a5:=M _ n5;exists _,rfl,_,rfl,p,D5,iN l,rfl,W5,a5,Z,by simpa [iN] using p5,by simp[iN];lia
  intro x H7 x7 W7 hx;obtain⟨b0,r5,rfl⟩:=zM.mp hx;have o2:=U.trans x7;have p3:=x7 _ _ Z a5;exists YC;intro X n6;have g8:=Za n6 (.lst [.int (b0:Nat)]);have h6:upd H7 X (.lst [.int (b0:Nat)]) X=some (.lst [.int (b0:Nat)]):=ZK;have i5:H X=none:=L _ X o2 W7 n6;generalize upd H7 X (.lst [.int (b0:Nat)])=H8 at g8 h6⊢;have o3:=o2.trans (ZJ.of g8);have W8:=W7.same g8;have p4:=g8 _ _ p3;have e9:=b5 b0 r5;refine⟨_,rfl,_,rfl,.inl ⟨X,_,0,.int (b0:Nat),rfl,rfl,ZH.of h6,rfl,dT,b0,ts,d,a8,rfl,(Y.sx W bp o3).lawT hw G.len G.up,e9,λH9 v s9 hv=>?_⟩⟩;obtain⟨ta,vlo,o5,rfl,c5,t6,n3⟩:=hv;have o4:=o3.trans (ZJ.of s9);have W9:=W8.same s9;have t3:=hw b0 _ (Xw (Y.vl.lt b0 e9));obtain⟨j0,t9,p6,t0⟩:=KM G.up (LZ t3).2;have G9:=G.sx W m2 o4;have t7:=G.len;refine⟨_,rfl,.inl ⟨rfl,_,ZH.of G9.at_⟩,_,rfl,.inr (.inl ⟨ta,_,2,o5,rfl,rfl,Zd.of c5,rfl,gl,gs,gt,o5,_,j0,rfl,rfl,G9.at_,G9.keys,n3,i0,p6,t0,∅,?_⟩)⟩
  refine⟨_,rfl,p,3,rfl,W9,VW (by decide) (by decide),λr2 l8 r20 r21 o8 c8=>⟨_,_,rfl,rfl,?_⟩⟩
  have e3:=o4.trans c8;have S:=c8 _ _ (s9 _ _ p4) a5;have e2:=M _ i5;have c9:=c8 _ _ (s9 _ _ h6) e2;have t5:ta≠p:=λz=>by
   obtain⟨xs,q⟩:=W9.some;rw[z,q] at c5;cases c5
  have m9:=c8 _ _ c5 t5;exists _,rfl,D5,rfl,⟨_,ZH.of S⟩;refine UM (n:=l.length) (λi z=>(iN l)[i]? = some z) (λD i ys I=>ZC l8 I/\l8 D=none/\jP I ((l.take i).map λb:Nat=>KT.tup [(Yh (gd ts b)).kt,.int (b:Nat)]) ys) (YQ ∅)
   (λD i ys I hi C=>⟨_,.int (l[i]:Nat),ZH.of (C.1 _ _ S),by simp[iN,hi]⟩) (λD i ys I z o6 hi C hy=>⟨hy.1,hy.2 _ (ZH.of (C.1 _ _ S))⟩) (λD ys I C=>⟨_,ZH.of (C.1 _ _ S),by simp[iN]⟩)
   (λD hD=>⟨Za hD _,hD,.nil⟩) (λD i ys I z eD r7 hi hz C R hR=>?_) (λD9 a3 l9 c0 C=>?_)
  ·obtain⟨s',nD,s6⟩:=C;have s7:z=.int (l[i]:Nat):=by
    unfold iN at hz;rw[zJ,zU hi] at hz;exact(zH.inj hz).symm
   subst s7;have mi:l[i]∈l:=xG _;have i8:=e3.trans (ZJ.of s');refine⟨_,rfl,_,rfl,dT,l[i],ts,d,a8,rfl,(Y.sx W bp i8).lawT hw G.len G.up,b5 _ mi,λe6 v a2 hv=>⟨_,rfl,YC,λtq i7=>?_⟩⟩;have g:=Za i7 (.tup [v,.int (l[i]:Nat)]);have sA:=a2.trans g;have a4:=sA _ _ eD;have tD:YK (upd e6 tq (.tup [v,.int (l[i]:Nat)])) (upd (upd e6 tq (.tup [v,.int (l[i]:Nat)])) D (.lst (ys++[.ref tq]))):=λb xs e=>by rw[ZM (ZD e a4)];exact e
   refine hR _ _ a4 ⟨UK (s'.trans sA) nD,nD,?_⟩;rw[yD,zU hi,yR];exact((s6.sm sA).mono tD _ _).append (.cons (.tup (tD _ _ ZK) (.cons (((hv.key).sm g).mono tD _ _) (.cons (.int _) .nil))) .nil)
  obtain⟨a9,nD9,a7⟩:=C;rw[yF (zY _)] at a7;have s8:=a7.length;rw[zX] at s8;have e4:=e3.trans (ZJ.of a9);have o9:=o8.same a9;have n0:=a9 _ _ m9;exists _,rfl,D9,rfl,⟨_,ZH.of c0⟩;refine Fv (K:=K) (n:=l.length) (λi z=>a3[i]? = some z) (λD i zs I=>ZC l9 I/\l9 D=none/\∃ O:jK,jP I (O.map XL) zs/\(∀ t∈O,∃ b:Nat,b∈d/\t.2.2=(b:Int))/\zs.length<=i) (YQ ∅)
   (λD i ys I hi C=>⟨a3,a3[i],ZH.of (C.1 _ _ c0),by simp[show i<a3.length by lia]⟩) (λD i ys I z o6 hi C hy=>⟨hy.1,hy.2 a3 (ZH.of (C.1 _ _ c0))⟩) (λD ys I C=>⟨a3,ZH.of (C.1 _ _ c0),∅⟩)
   (λD hD=>⟨Za hD _,hD,[],.nil,λt ht=>absurd ht (by simp),zY _⟩) (λD i zs I z eD r7 hi hz C=>?_) (λD4 zs e6 p9 C=>?_)
  ·obtain⟨s',nD,O,c7,c6,r8⟩:=C;obtain⟨kt,m0,m6⟩:=a7.get hz;rw[zJ,zU hi] at m0;have m1:=(zH.inj m0).symm;subst m1;have mi:l[i]∈l:=xG _;rw[ZG] at m6;obtain⟨pa,us2,rfl,c3,J⟩:=m6;rw[jP] at J;obtain⟨v1,r1,rfl,k1,J⟩:=J;rw[jP] at J;obtain⟨v2,r3,rfl,k2,J⟩:=J;rw[jP] at J;subst J;rw[ZG] at k2;subst k2;have lb:=(On k1).mono (ZC.tups s');obtain⟨tb,n7,m5,rfl,i3,n4,n2⟩:=lb;have i8:=e4.trans (ZJ.of s');have G':=G.sx W m2 i8;have s0:=s' _ _ n0;have n9:=hw _ _ (Xw (Y.vl.lt _ (b5 _ mi)));obtain⟨j1,hj1,p7,t1⟩:=KM G.up (LZ n9).1;obtain⟨j2,hj2,p8,t2⟩:=KM G.up (LZ n9).2;exists pa,_,_,rfl,Zd.of (s' _ _ c3);intro R N hR hN;refine⟨_,rfl,.inr (.inl ⟨tb,_,0,_,rfl,rfl,Zd.of i3,rfl,_,rfl,.inr (.inl ⟨ta,_,0,_,rfl,rfl,Zd.of s0,rfl,rfl,_,rfl,?_⟩)⟩)⟩;refine WV (λc=>?_) (λc=>hN _ eD ⟨s',nD,O,c7,c6,∅⟩)
   refine⟨_,rfl,.inl ⟨rfl,_,ZH.of G'.at_⟩,_,rfl,.inr (.inl ⟨tb,_,1,n7,rfl,rfl,Zd.of i3,rfl,gl,gs,gt,n7,_,j1,rfl,rfl,G'.at_,G'.keys,n4,i0,p7,t1,∅,?_⟩)⟩
   refine⟨_,rfl,.inl ⟨rfl,_,ZH.of G'.at_⟩,_,rfl,.inr (.inl ⟨tb,_,2,m5,rfl,rfl,Zd.of i3,rfl,gl,gs,gt,m5,_,j2,rfl,rfl,G'.at_,G'.keys,n2,i0,p8,t2,∅,?_⟩)⟩
   exists _,rfl,YC;intro tq i7;have g:=Za i7 (.tup [.int (j1:Nat),.int (j2:Nat),.int (l[i]:Nat)]);have a4:=g _ _ eD;have tD:YK (upd I tq (.tup [.int (j1:Nat),.int (j2:Nat),.int (l[i]:Nat)])) (upd (upd I tq (.tup [.int (j1:Nat),.int (j2:Nat),.int (l[i]:Nat)])) D (.lst (zs++[.ref tq]))):=λb xs e=>by rw[ZM (ZD e a4)];exact e
   refine hR _ _ a4 ⟨UK (s'.trans g) nD,nD,O++[((j1:Int),(j2:Int),(l[i]:Int))],?_,λt ht=>?_,by simp;lia⟩
   ·rw[yR];exact((c7.sm g).mono tD _ _).append (.cons (.tup (tD _ _ ZK) (.cons (.int _) (.cons (.int _) (.cons (.int _) .nil)))) .nil)
   ·rcases yY.mp ht with h | h
    ·exact c6 t h
    ·rw[zC.mp h];exact⟨l[i],b5 _ mi,rfl⟩
  obtain⟨a2,i6,O,c7,c6,r8⟩:=C;have o0:=e4.trans (ZJ.of a2);have p0:=o9.same a2;exists _,rfl,D4,zs,O,rfl,p9,c7,by lia
  intro Ds ws rs o7 l1 n8 m3 s4 i1;have o1:=o0.trans (ZJ.of l1);have p1:=p0.same l1;have e1:=l1 _ _ (a2 _ _ (a9 _ _ c9));have l7:Ds≠X:=λz=>by
   rw[z,a2 _ _ (a9 _ _ c9)] at n8;cases n8
  refine⟨Ds,rfl,⟨_,ZH.of m3⟩,Ql (K:=K) (a:=Ds) (xs:=ws) (λi σ I=>∃(l2 l3 l6:jf)(e8:Int)(ns:jo),σ=[some (.ref p),some (.ref dT),some (.ref dH),some (.ref gl),some (.ref D4),some (.ref X),some (.ref ta),some (.int e8),some (.int (2+r2)),some (.ref D9),l2,l3,l6]/\(∀ c o,c≠X->o7 c=some o->I c=some o)/\I X=some (.lst (iN ns))/\(∀ b∈ns,b∈d)/\ns.length<=4)
   ⟨_,_,_,_,[b0],rfl,λc o _ e=>e,e1,λb hb=>by rw[zC.mp hb];exact e9,by simp⟩ (λi σ I _ C=>?_) ?_ ?_⟩
  ·obtain⟨_,_,_,_,_,_,k',_⟩:=C;exact ZH.of (k' _ _ l7 m3)
  ·rintro i u σ e7 n1 ⟨l2,l3,l6,e8,ns,rfl,m,B,a6,l4⟩;obtain⟨t,pa,mt,rfl,c3⟩:=Fl s4 n1;obtain⟨b,hb,eb⟩:=c6 t (i1.subset mt);have m7:=m _ _ (ZD c3 e1) c3;exists pa,_,rfl,Zd.of m7,rfl,_,_,rfl,_,_,rfl,_,_,rfl,rfl;refine⟨_,rfl,_,rfl,_,_,rfl,rfl,_,rfl,WV (λc1=>?_) (λc1=>?_)⟩
   ·refine⟨_,rfl,X,_,rfl,.inl (ZH.of B),_,rfl,_,_,rfl,rfl,_,rfl,WV (λc2=>?_) (λc2=>?_)⟩
    ·have hlt:ns.length<4:=by
      have:=of_decide_eq_true c2;simp[iN] at this
      lia
     exists _,rfl,.inl ⟨rfl,_,ZH.of B⟩,_,rfl,X,_,_,rfl,rfl,B,YQ (by simp[iN];lia)
     refine⟨_,rfl,_,_,_,_,ns++[b],rfl,λc o n e=>by rw[ZM n];exact m _ _ n e,?_,λb' r4=>?_,by simp;lia⟩
     ·rw[ZK,eb];simp[iN]
     ·rcases yY.mp r4 with h | h
      ·exact a6 b' h
      ·rw[zC.mp h];exact hb
    ·exact⟨_,_,_,_,ns,rfl,m,B,a6,l4⟩
   ·exact⟨_,_,_,_,ns,rfl,m,B,a6,l4⟩
  ·rintro σ e7 ⟨l2,l3,l6,e8,ns,rfl,m,B,a6,l4⟩;have p2:ZL e7 p:=by
    obtain⟨a1,b1,c1,d1,s1,rr⟩:=p1.ex;exact⟨a1,b1,c1,d1,m _ _ (Ne.symm e2) s1,rr⟩
   exact⟨_,rfl,k e7 X ns (λc o e n=>m _ _ (ZY e i5) (o1 _ _ e n)) p2 i5 B a6 l4⟩
def Hj{a:jq}{b:jo}(d:Lv a b)(t:ZT)(i:Nat):abv (a++[t]) (b++[a.length]) i=abv a b i++(if i∈t.bs then [a.length] else []):=by
 unfold abv;rw[vL]
 congr 1
 ·refine tP λj c=>?_;rw[Q2 (d.lt j c)]
 ·by_cases h:i∈t.bs
  ·simp[Qw,h]
  ·simp[Qw,h]
def Jt{gt:jp}{a:jq}{b:jo}(d:WF gt a)(c:Lv a b){i:Nat}(h:a.length<=i+1):abv a b i=[]:=by
 cases e:abv a b i with
 | nil=>rfl
 | cons j r=>
  have:=MW d c (i:=i) (j:=j) (by rw[e];exact zF)
  have:=c.lt j this.2
  lia
def Lv.push{g:jq}{f:jo}{t:ZT}(h:Lv g f)(d:∀ b∈t.bs,b∈f):Lv (g++[t]) (f++[g.length]):=by
 refine⟨λi e=>?_,λi e b c=>?_,vG.mpr ⟨h.up,rV _ _,λa j b d=>by rw[zC.mp d];exact h.lt a j⟩⟩
 ·rw[zE,xI];rcases yY.mp e with z | z
  ·have:=h.lt i z
   lia
  ·rw[zC.mp z]
   lia
 ·rcases yY.mp e with z | z
  ·rw[Q2 (h.lt i z)] at c;exact xW _ (h.cl i z b c)
  ·rw[zC.mp z,Qw] at c;exact xW _ (d b c)
def ZMu{gt:jp}{e:jq}{a:jF}(g:MN a)(i:(a.map (·.1)).Sublist gt):Y2 gt e e.length (UT a):=by
 obtain⟨h,c,f,b⟩:=g;refine⟨λz=>?_,b,λr d=>⟨i.subset (zM.mpr ⟨r,d,rfl⟩),h r d⟩,λ_=>⟨rfl,f⟩,λz=>absurd rfl z⟩;have j:a=[]:=z;rw[j] at c;simp at c
def ZLm{gt:jp}{c:jF}(h:gt.Pairwise λa b=>a.lt b=true)(f:∀ r∈c,r.fit)(g:(c.map (·.1)).Sublist gt)(d:0<c.length)(e:c.length<=4):MN c:=⟨f,d,e,h.sublist g⟩
def Dw{gt:jp}{f g:aj}{H q:Hp}{S d p:aj}{a:jq}{e:jo}{h:Nat->jo}{j:Nat->Nat}{u l:jx}{o c:List (ZR×V)}{w n:je}{k:jF}(U:Xh gt f g H S d p a e h j u o w)(A:a.length<=700)(x:Y2 gt a a.length (UT k))(R:Z7 f g q S d p (a++[UT k]) (e++[a.length]) (Xk a.length h) (Y8 a.length j) l c n):Xh gt f g q S d p (a++[UT k]) (e++[a.length]) (Xk a.length h) (Y8 a.length j) l c n:=by
 have W:=U.wf.push x;have t:(a++[UT k]).length=a.length+1:=by simp
 have r:Lv (a++[UT k]) (e++[a.length]):=U.vl.push λb v=>by cases v
 have s:∀ i,abv (a++[UT k]) (e++[a.length]) i=abv a e i:=λi=>by
  rw[Hj U.vl,aM (by show i∉([]:jo);simp),wX]
 have inl:∀ i,i∈e++[a.length]->i≠a.length->i∈e:=λi m z=>(yY.mp m).elim id λy=>absurd (zC.mp y) z;refine⟨R,W,r,λi m=>?_,λi m=>?_,by rw[t];lia⟩
 ·by_cases z:i=a.length
  ·subst z;rw[show Xk a.length h a.length=[] from aO rfl];exact(Jt W r (by rw[t];lia)).symm
  ·rw[show Xk a.length h i=h i from aM z,s];exact U.av i (inl i m z)
 ·by_cases z:i=a.length
  ·subst z;rw[show Y8 a.length j a.length=1 from aO rfl]
   lia
  ·rw[show Y8 a.length j i=j i from aM z,s];exact U.live i (inl i m z)
def Fg{gt:jp}{j k:aj}{H u:Hp}{S d s:aj}{a:jq}{f:jo}{e:Nat->jo}{c:Nat->Nat}{A m:jx}{r g:List (ZR×V)}{C o:je}{bs:jo}(U:Xh gt j k H S d s a f e c A r C)(D:a.length<=700)(p:∀ b∈bs,b∈f){L:YU}(q:over (YW a bs)=some L)(B:∀ b∈bs,1<=c b)(R:Z7 j k u S d s (a++[Xm a bs]) (f++[a.length]) (Vg bs a.length (Xk a.length e)) (WG bs (Y8 a.length c)) m g o):Xh gt j k u S d s (a++[Xm a bs]) (f++[a.length]) (Vg bs a.length (Xk a.length e)) (WG bs (Y8 a.length c)) m g o:=by
 have W:=U.wf.push (D1 U.wf (λb h=>U.vl.lt b (p b h)) q);have x:(a++[Xm a bs]).length=a.length+1:=by simp
 have v:Lv (a++[Xm a bs]) (f++[a.length]):=U.vl.push p;have w:∀ i,abv (a++[Xm a bs]) (f++[a.length]) i=abv a f i++(if i∈bs then [a.length] else []):=λi=>Hj U.vl (Xm a bs) i
 have inl:∀ i,i∈f++[a.length]->i≠a.length->i∈f:=λi l z=>(yY.mp l).elim id λy=>absurd (zC.mp y) z;refine⟨R,W,v,λi l=>?_,λi l=>?_,by rw[x];lia⟩
 ·by_cases z:i=a.length
  ·subst z;have t:a.length∉bs:=λy=>by have:=U.vl.lt _ (p _ y);lia
   rw[show Vg bs a.length (Xk a.length e) a.length=Xk a.length e a.length from aM t,show Xk a.length e a.length=[] from aO rfl];exact(Jt W v (by rw[x];lia)).symm
  ·rw[w];have n:Xk a.length e i=e i:=aM z;by_cases y:i∈bs
   ·rw[show Vg bs a.length (Xk a.length e) i=Xk a.length e i++[a.length] from aO y,n,aO y,U.av i (inl i l z)]
   ·rw[show Vg bs a.length (Xk a.length e) i=Xk a.length e i from aM y,n,aM y,wX];exact U.av i (inl i l z)
 ·by_cases z:i=a.length
  ·subst z;have t:a.length∉bs:=λy=>by have:=U.vl.lt _ (p _ y);lia
   rw[show WG bs (Y8 a.length c) a.length=Y8 a.length c a.length from aM t,show Y8 a.length c a.length=1 from aO rfl]
   lia
  ·rw[w];have n:Y8 a.length c i=c i:=aM z;have f:=U.live i (inl i l z);by_cases y:i∈bs
   ·rw[show WG bs (Y8 a.length c) i=Y8 a.length c i-1 from aO y,n,aO y,zE,xI];have:=B i y
    lia
   ·rw[show WG bs (Y8 a.length c) i=Y8 a.length c i from aM y,n,aM y,wX];exact f
structure Pl where
 S:aj
 d:aj
 lk:aj
 dT:aj
 dH:aj
 gl:aj
 tl:aj
 as:jx
 bs:ju
structure Md where
 ts:jq
 lv:jo
 av:Nat->jo
 ho:Nat->Nat
def Pl.ab(p:Pl)(i:Nat):Addr:=(p.as.getD i .d).ab
def Pl.th(p:Pl)(i:Nat):Addr:=(p.as.getD i .d).th
def Pl.x(p:Pl)(i:Nat):Addr:=(p.as.getD i .d).x
def Pl.b(p:Pl)(i:Nat):Addr:=p.bs.getD i 0
structure LS(gt:jp)(jg jh:aj)(H:Hp)(a:Pl)(m:Md):Prop where
 sh:∃ kvs ls,Xh gt jg jh H a.S a.d a.lk m.ts m.lv m.av m.ho a.as kvs ls/\ls.length<=100
 lw:∃ kvs,XW H a.dT m.ts m.lv a.bs kvs
 hd:∃ hvs,H a.dH=some (.dK hvs)/\VZ hvs m.lv m.ho
 gr:∃ gs,UN gt H a.gl gs
 told:H a.tl=some (.lst (iN (zQ m.ts.length)))
 dd:a.dT≠a.d/\a.dH≠a.d/\a.dT≠a.dH
 tt:a.tl≠a.lk/\a.tl≠a.gl/\a.lk≠a.gl
 t2:∀ i:Nat,i∈m.lv->a.tl≠a.ab i/\a.tl≠a.th i/\a.gl≠a.ab i
 t3:∀ i:Nat,i∈m.lv->a.b i≠a.tl/\a.b i≠a.lk/\∀ j:Nat,j∈m.lv->a.b i≠a.ab j
 l64:m.lv.length<64
 l700:m.ts.length<=700
structure WT(a:Pl)(m:Md)(p:aj):Prop where
 lk:a.lk≠p
 gl:a.gl≠p
 tl:a.tl≠p
 tw:∀ i:Nat,i∈m.lv->a.ab i≠p/\a.th i≠p/\a.b i≠p
section
variable{gt:jp}{jg jh:aj}{H H':Hp}{a:Pl}{m:Md}{p:aj}
def LS.shp(h:LS gt jg jh H a m):∃ b c,Z7 jg jh H a.S a.d a.lk m.ts m.lv m.av m.ho a.as b c:=by
 obtain⟨b,c,U,_⟩:=h.sh;exact⟨b,c,U.sh⟩
def LS.wf(h:LS gt jg jh H a m):WF gt m.ts:=by
 obtain⟨b,c,U,_⟩:=h.sh;exact U.wf
def LS.off(h:LS gt jg jh H a m)(n:H p=none):WT a m p:=by
 obtain⟨c,g,U,_⟩:=h.sh;obtain⟨YY,L⟩:=h.lw;obtain⟨f,G⟩:=h.gr;refine⟨ZY U.sh.sh.looks n,ZY G.at_ n,ZY h.told n,λi b=>⟨ZY (U.sh.tw i b).tw.above n,?_,?_⟩⟩
 ·obtain⟨d,e,_⟩:=(U.sh.tw i b).things;exact ZY e n
 ·obtain⟨j,d,_,_,e,_⟩:=L.tw i b;exact ZY e n
def LS.sx{A:je}(h:LS gt jg jh H a m)(o:WT a m p)(c:H p=some (.lst A))(s:ZJ p H H'):LS gt jg jh H' a m:=by
 obtain⟨j,z,U,f⟩:=h.sh;obtain⟨YY,L⟩:=h.lw;obtain⟨g,r,w⟩:=h.hd;obtain⟨v,G⟩:=h.gr;have l:YK H H':=λb C e=>s b _ e (ZD e c);have R:=U.sh;obtain⟨⟨u,q⟩,t,x⟩:=R.sh;refine⟨⟨j,z,⟨⟨⟨⟨u,s _ _ q (ZD q c)⟩,s _ _ t (ZD t c),s _ _ x o.lk⟩,R.keys,R.val,R.lt,R.len,λi d=>?_,R.own,R.two⟩,U.wf,U.vl,U.av,U.live,U.l800⟩,f⟩,
  ⟨YY,L.frame l (s _ _ L.dict (ZD L.dict c)) λi d k e=>s _ _ e (o.tw i d).2.2⟩,⟨g,s _ _ r (ZD r c),w⟩,⟨v,G.frame l (s _ _ G.at_ o.gl)⟩,s _ _ h.told o.tl,h.dd,h.tt,h.t2,h.t3,h.l64,h.l700⟩
 have n:=R.tw i d;obtain⟨B,y⟩:=n.tw.self;exact n.frame l (λk e=>s _ _ e (ZD y c)) (λk e=>s _ _ e (o.tw i d).2.1) (λk e=>s _ _ e (o.tw i d).1)
def LS.same(h:LS gt jg jh H a m)(s:ZC H H'):LS gt jg jh H' a m:=by
 obtain⟨d,i,U,b⟩:=h.sh;obtain⟨YY,L⟩:=h.lw;obtain⟨c,g,f⟩:=h.hd;obtain⟨e,G⟩:=h.gr;exact⟨⟨d,i,⟨U.sh.same s,U.wf,U.vl,U.av,U.live,U.l800⟩,b⟩,⟨YY,L.same s⟩,⟨c,s _ _ g,f⟩,⟨e,G.same s⟩,s _ _ h.told,h.dd,h.tt,h.t2,h.t3,h.l64,h.l700⟩
end
structure LO(gt:jp)(H:Hp)(a:Pl)(m:Md):Prop where
 lw:∃ kvs,XW H a.dT m.ts m.lv a.bs kvs
 hd:∃ hvs,H a.dH=some (.dK hvs)/\VZ hvs m.lv m.ho
 gr:∃ gs,UN gt H a.gl gs
 told:H a.tl=some (.lst (iN (zQ m.ts.length)))
def LS.lo{gt:jp}{s q:aj}{H H':Hp}{a:Pl}{m:Md}(h:LS gt s q H a m)(t:∀ c o,c≠a.S->c≠a.d->c≠a.lk->(∀ i:Nat,i∈m.lv->c≠a.x i/\c≠a.ab i)->H c=some o->H' c=some o):LO gt H' a m:=by
 obtain⟨J,N,U,B⟩:=h.sh;obtain⟨YY,L⟩:=h.lw;obtain⟨v,F,E⟩:=h.hd;obtain⟨D,G⟩:=h.gr;have R:=U.sh;obtain⟨⟨M,u⟩,z,A⟩:=R.sh;have w:∀ i:Nat,i∈m.lv->∃ n p,H (a.x i)=some (.ins q n p):=λi f=>by
  obtain⟨n,e⟩:=(R.tw i f).tw.self;exact⟨n,_,e⟩
 have r:∀ i:Nat,i∈m.lv->H (a.ab i)=some (.lst (iN (m.av i))):=λi f=>(R.tw i f).tw.above;have C:YK H H':=λb P e=>t b _ (ZD e u) (ZD e z) (ZD e A) (λi f=>by
  obtain⟨n,p,k⟩:=w i f;exact⟨ZD e k,ZD e (r i f)⟩) e
 have g:∀(c:aj)(l:je),H c=some (.lst l)->c≠a.lk->(∀ i:Nat,i∈m.lv->c≠a.ab i)->H' c=some (.lst l):=λc l e y K=>t c _ (ZD e u) (ZD e z) y (λi f=>by
  obtain⟨n,p,k⟩:=w i f;exact⟨ZD e k,K i f⟩) e
 have dict:∀(c:aj)(l:List (ZR×V)),H c=some (.dK l)->c≠a.d->H' c=some (.dK l):=λc l e y=>t c _ (ZD e u) y (ZD e A) (λi f=>by
  obtain⟨n,p,k⟩:=w i f;exact⟨ZD e k,ZD e (r i f)⟩) e
 refine⟨⟨YY,L.frame C (dict _ _ L.dict h.dd.1) λi f o e=>?_⟩,⟨v,dict _ _ F h.dd.2.1,E⟩,⟨D,G.frame C (g _ _ G.at_ h.tt.2.2.symm λi f=>(h.t2 i f).2.2)⟩,g _ _ h.told h.tt.1 λi f=>(h.t2 i f).1⟩;obtain⟨O,p,_,_,k,_⟩:=L.tw i f;have:o=.lst p:=by have:=e.symm.trans k;exact zH.inj this
 subst this;exact g _ _ e (h.t3 i f).2.1 λj I=>(h.t3 i f).2.2 j I
def Yo{i j:Nat}:((Sum.inl ((i:Nat):Int):ZR)=Sum.inl ((j:Nat):Int)) ↔ i=j:=⟨λz=>by have:=Sum.inl.inj z;lia,λz=>by rw[z]⟩
def Va{a:jo}{n i:Nat}(h:i∈a++[n])(z:i≠n):i∈a:=(yY.mp h).elim id λy=>absurd (zC.mp y) z
def FW{a:List (ZR×V)}{b:jo}{n:Nat}(e:∀ i∈b,i<n)(h:a.map (·.1)=b.map (λi:Nat=>(Sum.inl (i:Int):ZR))):Z5 a (Sum.inl (n:Int))=none:=by
 cases z:Z5 a (Sum.inl (n:Int)) with
 | none=>rfl
 | some v=>
  have:=Oy z;rw[h] at this;obtain⟨i,d,c⟩:=zM.mp this;have f:=Yo.mp c;have g:=e i d
  lia
def GV{a:List (ZR×V)}{b:jo}{n:Nat}{v:V}(c:∀ i∈b,i<n)(h:a.map (·.1)=b.map (λi:Nat=>(Sum.inl (i:Int):ZR))):(Z2 a (.inl (n:Int)) v).map (·.1)=(b++[n]).map (λi:Nat=>(Sum.inl (i:Int):ZR)):=by
 rw[Jd v (FW c h),yR,h,yR];rfl
def Ho{b:List (ZR×V)}{c:jo}{n:Nat}{a:Nat->Nat}(e:∀ i∈c,i<n)(h:VZ b c a):VZ (Z2 b (.inl (n:Int)) (.int 1)) (c++[n]) (Y8 n a):=by
 exists GV e h.1;intro i d;rw[OF];by_cases z:i=n
 ·subst z;rw[aO rfl,show Y8 i a i=1 from aO rfl];rfl
 ·rw[aM (λy=>z (Yo.mp y)),show Y8 n a i=a i from aM z];exact h.2 i (Va d z)
def HE{a:List (ZR×V)}{k:ZR}{v w:V}(h:Z5 a k=some w):(Z2 a k v).map (·.1)=a.map (·.1):=by
 have d:=Oy h;unfold Z2;split
 ·rw[zL];refine uJ λp _=>?_;show (if p.1=k then (p.1,v) else p).1=p.1
  split <;> rfl
 ·rename_i c
  exfalso
  apply c;obtain⟨p,b,e⟩:=zM.mp d;simp
  first | exact⟨p.2,by rw[<-e];exact b⟩ | exact⟨p.1,p.2,b,e⟩
def IY{c:List (ZR×V)}{d:jo}{b:Nat}{a:Nat->Nat}(h:VZ c d a)(e:b∈d):VZ (Z2 c (.inl (b:Int)) (.int ((a b-1:Nat):Int))) d (Ws a b):=by
 exists by rw[HE (h.2 b e)];exact h.1
 intro i f;rw[OF];by_cases z:i=b
 ·subst z;rw[aO rfl,show Ws a i i=a i-1 from aO rfl]
 ·rw[aM (λy=>z (Yo.mp y)),show Ws a b i=a i from aM z];exact h.2 i f
def Jh{bs:ju}{D:aj}{i:Nat}(h:i<bs.length):(bs++[D]).getD i 0=bs.getD i 0:=by
 rw[zP,wS h,<-zP]
def IT{bs:ju}{D:aj}:(bs++[D]).getD bs.length 0=D:=by
 rw[zP,wR (zY _)];simp
def Jb{H c:Hp}{k:aj}{a:jq}{g:jo}{bs:ju}{f:List (ZR×V)}{t:ZT}{tp D:aj}{us:je}(L:XW H k a g bs f)(l:∀ b∈t.bs,b∈g)(m:YK H c)(F:∀ i:Nat,i∈g->∀ o,H (bs.getD i 0)=some o->c (bs.getD i 0)=some o)(B:c k=some (.dK (Z2 f (.inl (a.length:Int)) (.ref tp))))(E:c tp=some (.tup [.str (kindOf t),.ref D]))(A:c D=some (.lst us))(w:t.h=0->jP c (Y0 t.rows) us)(x:t.h≠0->us=iN t.bs):XW c k (a++[t]) (g++[a.length]) (bs++[D]) (Z2 f (.inl (a.length:Int)) (.ref tp)):=by
 have G:(a++[t]).length=a.length+1:=by simp
 exists B,L.vl.push l,GV L.vl.lt L.keys,by simp[L.len]
 intro i C;by_cases z:i=a.length
 ·subst z;have j:(bs++[D]).getD a.length 0=D:=by rw[<-L.len];exact IT
  exists tp,us,by rw[OF,aO rfl],?_,?_,?_
  ·rw[Qw,j];exact E
  ·rw[j];exact A
  ·rw[Qw];exact w
  ·rw[Qw];exact x
 ·have d:i∈g:=Va C z;have e:=L.vl.lt i d;obtain⟨n,p,j,r,s,u,v⟩:=L.tw i d;have q:(bs++[D]).getD i 0=bs.getD i 0:=Jh (by have:=L.len;lia)
  exists n,p,by rw[OF,aM (λy=>z (Yo.mp y))];exact j,?_,?_,?_
  ·rw[Q2 e,q];exact m _ _ r
  ·rw[q];exact F i d _ s
  ·rw[Q2 e];exact λy=>(u y).mono m _ _
  ·rw[Q2 e];exact v
def Pl.push(a:Pl)(b:YB)(D:aj):Pl:={ a with as:=a.as++[b],bs:=a.bs++[D] }
section
variable{gt:jp}{jg jh:aj}{H H':Hp}{a:Pl}{m:Md}{p:aj}{new:YB}{D:aj}
def LS.asl(h:LS gt jg jh H a m):a.as.length=m.ts.length/\a.bs.length=m.ts.length:=by
 obtain⟨b,c,R⟩:=h.shp;obtain⟨YY,L⟩:=h.lw;exact⟨R.len,L.len⟩
def LS.lt(h:LS gt jg jh H a m){i:Nat}(b:i∈m.lv):i<m.ts.length:=by
 obtain⟨c,d,R⟩:=h.shp;exact R.lt i b
def Pd(h:LS gt jg jh H a m){i:Nat}(c:i∈m.lv):(a.push new D).ab i=a.ab i/\(a.push new D).th i=a.th i/\(a.push new D).x i=a.x i/\(a.push new D).b i=a.b i:=by
 obtain⟨g,j⟩:=h.asl;have f:=h.lt c;have e:(a.as++[new]).getD i .d=a.as.getD i .d:=M7 ∅
 unfold Pl.ab Pl.th Pl.x Pl.b Pl.push;dsimp only;rw[e,Jh ∅]
 exact⟨rfl,rfl,rfl,rfl⟩
def Pz(h:LS gt jg jh H a m):(a.push new D).ab m.ts.length=new.ab/\(a.push new D).th m.ts.length=new.th/\(a.push new D).x m.ts.length=new.x/\(a.push new D).b m.ts.length=D:=by
 obtain⟨f,g⟩:=h.asl;have e:(a.as++[new]).getD m.ts.length .d=new:=by rw[<-f];exact Mp
 have c:(a.bs++[D]).getD m.ts.length 0=D:=by rw[<-g];exact IT
 unfold Pl.ab Pl.th Pl.x Pl.b Pl.push;dsimp only;rw[e,c];exact⟨rfl,rfl,rfl,rfl⟩
def Jy(h:LS gt jg jh H a m){t:ZT}{s:Nat->jo}{k:Nat->Nat}(U:H new.th=none)(K:H new.ab=none)(L:H D=none)(x:D≠new.ab)(P:∃ c I,Xh gt jg jh H' a.S a.d a.lk (m.ts++[t]) (m.lv++[m.ts.length]) s k (a.as++[new]) c I/\I.length<=100)(J:∃ c,XW H' a.dT (m.ts++[t]) (m.lv++[m.ts.length]) (a.bs++[D]) c)(F:∃ u,H' a.dH=some (.dK u)/\VZ u (m.lv++[m.ts.length]) k)(C:∃ N,UN gt H' a.gl N)(n:H' a.tl=some (.lst (iN (zQ (m.ts.length+1)))))(l:m.lv.length+1<64)(T:m.ts.length+1<=700):LS gt jg jh H' (a.push new D) ⟨m.ts++[t],m.lv++[m.ts.length],s,k⟩:=by
 have M:(m.ts++[t]).length=m.ts.length+1:=by simp
 obtain⟨N,G⟩:=h.gr;obtain⟨c,I,R⟩:=h.shp;have E:∀ i:Nat,i∈m.lv->H (a.ab i)=some (.lst (iN (m.av i))):=λi f=>(R.tw i f).tw.above;obtain⟨YY,O⟩:=h.lw;have Q:∀ i:Nat,i∈m.lv->∃ w,H (a.b i)=some (.lst w):=λi f=>by
  obtain⟨Y,w,_,_,e,_⟩:=O.tw i f;exact⟨w,e⟩
 refine⟨P,J,F,C,by rw[M];exact n,h.dd,h.tt,λi f=>?_,λi f=>?_,by simpa using l,by rw[M];exact T⟩
 ·by_cases z:i=m.ts.length
  ·subst z;obtain⟨A,B,_,_⟩:=Pz (new:=new) (D:=D) h;rw[A,B];exact⟨ZY h.told K,ZY h.told U,ZY G.at_ K⟩
  ·obtain⟨A,B,_,_⟩:=Pd (new:=new) (D:=D) h (i:=i) (Va f z);rw[A,B];exact h.t2 i (Va f z)
 ·have r:∀ j:Nat,j∈m.lv++[m.ts.length]->(j∈m.lv/\(a.push new D).ab j=a.ab j)\/(j=m.ts.length/\(a.push new D).ab j=new.ab):=λj q=>by
   by_cases y:j=m.ts.length
   ·subst y;exact .inr ⟨rfl,(Pz h).1⟩
   ·exact .inl ⟨Va q y,(Pd h (Va q y)).1⟩
  by_cases z:i=m.ts.length
  ·subst z;rw[(Pz (new:=new) (D:=D) h).2.2.2];exists (ZY h.told L).symm,(ZY R.sh.looks L).symm;intro j q;rcases r j q with ⟨v,o⟩ | ⟨v,o⟩
   ·rw[o];exact(ZY (E j v) L).symm
   ·rw[o];exact x
  ·have g:i∈m.lv:=Va f z;rw[(Pd (new:=new) (D:=D) h g).2.2.2];obtain⟨V,W,X⟩:=h.t3 i g;exists V,W;intro j q;rcases r j q with ⟨v,o⟩ | ⟨v,o⟩
   ·rw[o];exact X j v
   ·obtain⟨w,e⟩:=Q i g;rw[o];exact ZY e K
def WT.push(h:LS gt jg jh H a m)(o:WT a m p){t:ZT}{b:Nat->jo}{f:Nat->Nat}(j:new.th≠p)(k:new.ab≠p)(l:D≠p):WT (a.push new D) ⟨m.ts++[t],m.lv++[m.ts.length],b,f⟩ p:=by
 exists o.lk,o.gl,o.tl;intro i g;have n:(m.ts++[t]).length=m.ts.length+1:=by simp
 by_cases z:i=m.ts.length
 ·subst z;obtain⟨c,d,_,e⟩:=Pz (new:=new) (D:=D) h;rw[c,d,e];exact⟨k,j,l⟩
 ·obtain⟨c,d,_,e⟩:=Pd (new:=new) (D:=D) h (i:=i) (Va g z);rw[c,d,e];exact o.tw i (Va g z)
def Ze(a:Pl)(m:Md)(c:aj):Prop:=c≠a.S/\c≠a.d/\c≠a.lk/\c≠a.dT/\c≠a.dH/\c≠a.tl/\∀ i:Nat,i∈m.lv->c≠a.x i/\c≠a.ab i
def Ze.push(h:LS gt jg jh H a m){c:aj}(v:Ze a m c){t:ZT}{b:Nat->jo}{f:Nat->Nat}(j:c≠new.x)(k:c≠new.ab):Ze (a.push new D) ⟨m.ts++[t],m.lv++[m.ts.length],b,f⟩ c:=by
 obtain⟨l,n,o,q,r,s,u⟩:=v;exists l,n,o,q,r,s;intro i g;have w:(m.ts++[t]).length=m.ts.length+1:=by simp
 by_cases z:i=m.ts.length
 ·subst z;obtain⟨d,_,e,_⟩:=Pz (new:=new) (D:=D) h;rw[d,e];exact⟨j,k⟩
 ·obtain⟨d,_,e,_⟩:=Pd (new:=new) (D:=D) h (i:=i) (Va g z);rw[d,e];exact u i (Va g z)
def LS.tup(h:LS gt jg jh H a m){c:aj}{o:je}(e:H c=some (.tup o)):Ze a m c:=by
 obtain⟨n,s,R⟩:=h.shp;obtain⟨YY,L⟩:=h.lw;obtain⟨k,f,_⟩:=h.hd;obtain⟨⟨q,d⟩,g,j⟩:=R.sh;exists ZD e d,ZD e g,ZD e j,ZD e L.dict,ZD e f,ZD e h.told;intro i b;obtain⟨r,l⟩:=(R.tw i b).tw.self;exact⟨ZD e l,ZD e (R.tw i b).tw.above⟩
end
def Z7.frame{b c:aj}{H H':Hp}{S d g:aj}{p:jq}{j:jo}{k:Nat->jo}{l:Nat->Nat}{a:jx}{e:List (ZR×V)}{n:je}(R:Z7 b c H S d g p j k l a e n)(m:YK H H')(u:∀ o,H S=some o->H' S=some o)(v:∀ o,H d=some o->H' d=some o)(w:∀ o,H g=some o->H' g=some o)(h:∀ i:Nat,i∈j->(∀ o,H (a.getD i .d).x=some o->H' (a.getD i .d).x=some o)/\(∀ o,H (a.getD i .d).th=some o->H' (a.getD i .d).th=some o)/\(∀ o,H (a.getD i .d).ab=some o->H' (a.getD i .d).ab=some o)):Z7 b c H' S d g p j k l a e n:=by
 obtain⟨⟨q,r⟩,s,t⟩:=R.sh;exact⟨⟨⟨q,u _ r⟩,v _ s,w _ t⟩,R.keys,R.val,R.lt,R.len,λi f=>(R.tw i f).frame m (h i f).1 (h i f).2.1 (h i f).2.2,R.own,R.two⟩
def Xh.frame{gt:jp}{a b:aj}{H H':Hp}{S d h:aj}{k:jq}{j:jo}{f:Nat->jo}{g:Nat->Nat}{e:jx}{c:List (ZR×V)}{i:je}(U:Xh gt a b H S d h k j f g e c i)(R:Z7 a b H' S d h k j f g e c i):Xh gt a b H' S d h k j f g e c i:=⟨R,U.wf,U.vl,U.av,U.live,U.l800⟩
def LG{f g:aj}{H:Hp}{S d m:aj}{u:jq}{p:jo}{q:Nat->jo}{r:Nat->Nat}{j:jx}{h:List (ZR×V)}{s z:je}{c:aj}{o':HO}(R:Z7 f g H S d m u p q r j h s)(e:H c=some (.lst z))(y:m≠c)(t:∀ i:Nat,i∈p->(j.getD i .d).ab≠c/\(j.getD i .d).th≠c):Z7 f g (upd H c o') S d m u p q r j h s:=by
 obtain⟨⟨A,v⟩,w,C⟩:=id R.sh;have k:∀ b o,b≠c->H b=some o->upd H c o' b=some o:=λb o n e=>by rw[ZM n];exact e
 refine R.frame (λb D a=>k _ _ (ZD a e) a) (λo a=>k _ _ (ZD v e) a) (λo a=>k _ _ (ZD w e) a) (λo a=>k _ _ y a) λi l=>?_;obtain⟨B,x⟩:=(R.tw i l).tw.self;exact⟨λo a=>k _ _ (ZD x e) a,λo a=>k _ _ (t i l).2 a,λo a=>k _ _ (t i l).1 a⟩
def OS{f g:aj}{H:Hp}{S d q:aj}{t:jq}{s:jo}{m:Nat->jo}{p:Nat->Nat}{l:jx}{h z:List (ZR×V)}{r:je}{c:aj}{o':HO}(R:Z7 f g H S d q t s m p l h r)(e:H c=some (.dK z))(y:d≠c):Z7 f g (upd H c o') S d q t s m p l h r:=by
 obtain⟨⟨A,u⟩,C,v⟩:=id R.sh;have k:∀ b o,b≠c->H b=some o->upd H c o' b=some o:=λb o n e=>by rw[ZM n];exact e
 refine R.frame (λb E a=>k _ _ (ZD a e) a) (λo a=>k _ _ (ZD u e) a) (λo a=>k _ _ y a) (λo a=>k _ _ (ZD v e) a) λi j=>?_;obtain⟨B,x⟩:=(R.tw i j).tw.self;obtain⟨D,w,_⟩:=(R.tw i j).things;exact⟨λo a=>k _ _ (ZD x e) a,λo a=>k _ _ (ZD w e) a,λo a=>k _ _ (ZD (R.tw i j).tw.above e) a⟩
def Nj{H a:Hp}{p:aj}(W:ZL H p)(k:∀ o,H p=some o->a p=some o):ZL a p:=by
 obtain⟨b,c,d,e,f,g⟩:=W.ex;exact⟨b,c,d,e,k _ f,g⟩
def Xd(a:Pl):je:=[.ref a.S,.ref a.dT,.ref a.dH,.ref a.gl,.ref a.tl]
inductive YI(gt:jp)(jg jh:aj)(i:je)(H:Hp)(Q:VK)(_:XK):Prop
 |mk(p h:aj)(b:Int)(a:Pl)(m:Md)(_:i=[.ref p,.ref h,.int b])(_:ZL H p)(_:H h=some (.tup (Xd a)))(_:LS gt jg jh H a m)(_:WT a m p)(_:0<=b)(_:b<16)(_:m.lv.length<=50)(_:m.ts.length<=600)(_:∀(e:Hp)(g:Pl)(d:Md),(∀ c o,H c=some o->Ze a m c->Ze g d c/\(c≠p->e c=some o))->ZL e p->LS gt jg jh e g d->WT g d p->Xd g=Xd a->d.ts.length=m.ts.length+1->d.lv=m.lv++[m.ts.length]->Q (.bl true) e)
abbrev F8:jr:=["_law_well_here","_law_state","_law_block","_law_shelf","_law_twigs","_law_holds","_law_grid_here","_law_told","_law_rows","_law_number"]
def Xo:ZA F8 zEi (Zc Ll):=Zz
def HA(n:Nat):iN (zQ n)++[.int (n:Nat)]=iN (zQ (n+1)):=by rw[List.range_succ];simp[iN]
def Cz{e:jo}{n:Nat}(h:∀ b∈e,b<n):Os (-1) (e.map λb:Nat=>(b:Int))<(n:Int):=by
 have i:∀(l:jz)(x:Int),x<(n:Int)->(∀ y∈l,y<(n:Int))->Ux x l<(n:Int):=λl=>by
  induction l with
  | nil=>intro x a _;exact a
  | cons c l k=>
   intro x a g;unfold Ux;rw[tY];refine k _ ?_ λy d=>g y (zD _ d);split
   ·exact g c zF
   ·exact a
 cases e with
 | nil=>show (-1:Int)<_;lia
 | cons b r=>
  show Ux _ _<_;refine i _ _ (show ((b:Nat):Int)<(n:Int) by have:=h b zF;lia) λy d=>?_
  obtain⟨z,j,rfl⟩:=zM.mp d;have:=h z (zD _ j);show ((z:Nat):Int)<(n:Int)
  lia
def FC{gt:jp}(F:Zj K "_law_put_leaf" "_law_put_leaf" Ll f fd)(T:YO mg)(L:Yg K mg jg jh)(DR:ZB P w K mg jV 2 "_law_leaf_rows" zEk Yy)(DM:ZE P w K mg jV ZZ 10 jg "put_leaf" zE7 (XF jg jh)):
  ZI P w K mg jV ZZ 11 f fd zEi (YI gt jg jh):=by
 refine F.ko Xo λi6 A i1 s H vs Q E hr h=>?_;obtain⟨p,st,b,a,m,rfl,W,e6,q,O,b0,b1,l2,i5,k⟩:=h;have nd:=Xo.nd;have hu:=Wj hr;have e5:=hr.mono (show 2<=10 by lia)
 intro Xc;refine⟨_,ZQ (Qt (pv 1) (Q7 rfl (Y7 (Yb 3 nd) (Y7 (Yb 4 nd) (Y7 (Yb 5 nd) (Y7 (Yb 6 nd) (Y7 (Yb 7 nd) Q4)))))))
  (ZQ (Zw 8 nd (Zp DR e5 (Qc (pv 0) (Zg (pv 6) (pv 2)))))
  (ZQ (Zw 9 nd (Y3 (E:=E0) (pv 3) L.cS DM hr Yu (ZX (VO Q6 rfl T.list Uo (ZX (pv 8))))))
  (ZQ (Zv (PW.pt (VI (XU (Ye (Zm Xj rfl T.isi Yw (Zg (pv 9) (XY (v:=.ty "int") rfl T.int Qo rfl))))) (VI (Ye (Zm Xj rfl T.isi Yw (Zg (pv 9) (XY (v:=.ty "bool") rfl T.bool P7 rfl))))
   (UR (YJ QQ (pv 9) (ZMV rfl rfl T.max (ZX (pv 7)) (D8 (Pi Pt ZN) BR)) (Z3 _)))))) WY Z1)
  (ZQ (Xe (Vh yM xL xK UI (pv 7) (ZX (pv 9))))
  (ZQ (QT hu (pv 4) (pv 9) (Yq (Zg Ym (pv 8))) rfl)
  (ZQ (QT hu (pv 5) (pv 9) ZN rfl)
  (ZU (Zn UQ)))))))),?_⟩
 obtain⟨l7,c1⟩:=W.some;obtain⟨gs,G⟩:=q.gr;have e8:gs.length=64:=by rw[<-G.keys.length,G.len]
 exists _,rfl,st,_,rfl,Zd.of e6,rfl,_,_,rfl,_,_,rfl,_,_,rfl,_,_,rfl,_,_,rfl,rfl;exists _,rfl,_,rfl,_,rfl,p,a.gl,b,gs,gt,rfl,W,O.gl,G.at_,G.keys,G.fit,e8,b0,b1;intro D us rs H1 s1 W1 nD a1 a2 e3 c2 i7 i8;have S1:=q.sx O c1 s1;have l6:us.length=rs.length:=by have:=a2.length;rw[<-this];exact zX _
 have Gd:=ZLm G.up e3 c2 ∅ ∅
 obtain⟨e7,ls,U1,c4⟩:=S1.sh;obtain⟨dx,e0⟩:=U1.sh.sh.self;exists _,rfl,a.S,dx,_,rfl,e0,rfl,_,rfl,D,us,rfl,.inl (ZH.of a1);intro l9 n9;have U:=Za n9 (.lst us);have e9:upd H1 l9 (.lst us) l9=some (.lst us):=ZK;generalize upd H1 l9 (.lst us)=H2 at U e9⊢;have S2:=S1.same U;have U2:=U1.sh.same U;have l3:=q.l64;exists a.S,a.d,a.lk,l9,m.ts,m.lv,m.av,m.ho,a.as,e7,ls,us,rs,rfl,U2,∅,e9,a2.sm U,Gd
 intro R u nx a5 M fr R3;have i0:∀ y∈(zQ m.ts.length),y<m.ts.length:=λy hy=>xN.mp hy;have U3:=Dw (U1.frame U1.sh) ∅ (ZMu Gd c2) R3
 have X:=S2.lo (H':=R) λc o n1 n2 n3 n4 e=>fr c o n1 n2 e;have j:=X.told;have c0:(iN (zQ m.ts.length))=((zQ m.ts.length).map λb:Nat=>(b:Int)).map V.int:=by rw[zL];rfl
 refine⟨_,rfl,_,_,_,_,rfl,.int _,Pk,_,rfl,Zl ?_⟩;refine⟨_,rfl,_,_,_,_,rfl,.int _,Ow,_,rfl,Zl ?_⟩;exists _,rfl,_,rfl,1,rfl,a.tl,(zQ m.ts.length).map (λb:Nat=>(b:Int)),-1,rfl,rfl,ZH.of (by rw[<-c0];exact j),_,_,rfl,rfl,_,rfl
 rw[aJ (by have:=Cz i0;lia)]
 refine Zl ?_;exists _,rfl,.inl ⟨rfl,_,ZH.of j⟩,_,rfl,a.tl,_,.int (m.ts.length:Nat),rfl,rfl,j,YQ (by simp[iN];lia)
 have i9:=U2.sh.looks;obtain⟨x,r,hH⟩:=X.hd;obtain⟨YY,l⟩:=X.lw;obtain⟨c8,G3⟩:=X.gr;have c9:R D=some (.lst us):=by
  have e:=U _ _ a1;obtain⟨⟨dS,hS⟩,hk,_⟩:=U2.sh;exact fr _ _ (ZD e hS) (ZD e hk) e
 have i3:YK H1 R:=λc ys e=>by
  obtain⟨⟨dS,hS⟩,hk,_⟩:=U2.sh;have C:=U _ _ e;exact fr _ _ (ZD C hS) (ZD C hk) C
 have e4:=a2.mono i3 _ _;have g:∀ c,H2 c=none->H c=none:=λc e=>by
  cases z:H c with
  | none=>rfl
  | some o=>
   by_cases y:c=p
   ·subst y;obtain⟨xs,C⟩:=W1.some;rw[U _ _ C] at e;cases e
   ·rw[U _ _ (s1 _ _ z y)] at e;cases e
 have N:a.tl≠u.ab/\a.tl≠u.th:=⟨ZY S2.told M,ZY S2.told a5⟩;have c5:∀ i:Nat,i∈m.lv++[m.ts.length]->((a.as++[u]).getD i .d).ab≠a.tl/\((a.as++[u]).getD i .d).th≠a.tl:=λi hi=>by
  by_cases z:i=m.ts.length
  ·subst z;obtain⟨e1,e2,_,_⟩:=Pz (new:=u) (D:=D) q;exact⟨λy=>N.1 (by rw[<-e1];exact y.symm),λy=>N.2 (by rw[<-e2];exact y.symm)⟩
  ·obtain⟨e1,e2,_,_⟩:=Pd (new:=u) (D:=D) q (i:=i) (Va hi z);have t2:=q.t2 i (Va hi z);exact⟨λy=>t2.1 (by rw[<-e1];exact y.symm),λy=>t2.2.1 (by rw[<-e2];exact y.symm)⟩
 have R4:=LG (o':=.lst (iN (zQ m.ts.length)++[.int (m.ts.length:Nat)])) R3 j q.tt.1.symm c5;have B:∀ c o,c≠a.tl->R c=some o->upd R a.tl (.lst (iN (zQ m.ts.length)++[.int (m.ts.length:Nat)])) c=some o:=λc o n e=>by rw[ZM n];exact e
 have Y:upd R a.tl (.lst (iN (zQ m.ts.length)++[.int (m.ts.length:Nat)])) a.tl=some (.lst (iN (zQ (m.ts.length+1)))):=by rw[ZK,HA]
 generalize upd R a.tl (.lst (iN (zQ m.ts.length)++[.int (m.ts.length:Nat)]))=H4 at R4 B Y⊢;exists _,rfl,YC;intro t nt;have g5:=Za nt (.tup [.str "leaf",.ref D]);have t5:upd H4 t (.tup [.str "leaf",.ref D]) t=some (.tup [.str "leaf",.ref D]):=ZK;generalize upd H4 t (.tup [.str "leaf",.ref D])=H5 at g5 t5⊢;have R5:=R4.same g5;have a0:H5 a.dT=some (.dK YY):=g5 _ _ (B _ _ (ZD l.dict j) l.dict);have l5:YY.length=m.lv.length:=by have:=congrArg xY l.keys;simpa using this
 have l4:x.length=m.lv.length:=by have:=congrArg xY hH.1;simpa using this
 exists _,rfl,_,rfl,a.dT,_,rfl,XI.k (k:=Sum.inl (m.ts.length:Int)) a0 (YQ ∅)
 have R6:=OS (o':=.dK (Z2 YY (.inl (m.ts.length:Int)) (.ref t))) R5 a0 q.dd.1.symm;have I:∀ c o,c≠a.dT->H5 c=some o->upd H5 a.dT (.dK (Z2 YY (.inl (m.ts.length:Int)) (.ref t))) c=some o:=λc o n e=>by rw[ZM n];exact e
 have a9:upd H5 a.dT (.dK (Z2 YY (.inl (m.ts.length:Int)) (.ref t))) a.dT=some (.dK (Z2 YY (.inl (m.ts.length:Int)) (.ref t))):=ZK;generalize upd H5 a.dT (.dK (Z2 YY (.inl (m.ts.length:Int)) (.ref t)))=H6 at R6 I a9⊢;have a7:H6 a.dH=some (.dK x):=I _ _ q.dd.2.2.symm (g5 _ _ (B _ _ (ZD r j) r));exists _,rfl,_,rfl,a.dH,_,rfl,XI.k (k:=Sum.inl (m.ts.length:Int)) a7 (YQ ∅)
 have R7:=OS (o':=.dK (Z2 x (.inl (m.ts.length:Int)) (.int 1))) R6 a7 q.dd.2.1.symm;have J:∀ c o,c≠a.dH->H6 c=some o->upd H6 a.dH (.dK (Z2 x (.inl (m.ts.length:Int)) (.int 1))) c=some o:=λc o n e=>by rw[ZM n];exact e
 have a8:upd H6 a.dH (.dK (Z2 x (.inl (m.ts.length:Int)) (.int 1))) a.dH=some (.dK (Z2 x (.inl (m.ts.length:Int)) (.int 1))):=ZK;generalize upd H6 a.dH (.dK (Z2 x (.inl (m.ts.length:Int)) (.int 1)))=Z at R7 J a8⊢;have a3:∀ c o,c≠a.tl->c≠a.dT->c≠a.dH->R c=some o->Z c=some o:=λc o n1 n2 n3 e=>J _ _ n3 (I _ _ n2 (g5 _ _ (B _ _ n1 e)));have a6:YK R Z:=λc ys e=>a3 _ _ (ZD e j) (ZD e l.dict) (ZD e r) e;have a4:∀ c xs,c≠a.tl->R c=some (.lst xs)->Z c=some (.lst xs):=λc xs n e=>a3 _ _ n (ZD e l.dict) (ZD e r) e;have tD:a.tl≠D:=ZY q.told nD;have c6:D≠u.ab:=ZY (U _ _ a1) M;have i2:Z t=some (.tup [.str "leaf",.ref D]):=J _ _ (ZD t5 (g5 _ _ (B _ _ (ZD r j) r))) (I _ _ (ZD t5 a0) t5);have c7:LS gt jg jh Z (a.push u D) ⟨m.ts++[UT rs],m.lv++[m.ts.length],Xk m.ts.length m.av,Y8 m.ts.length m.ho⟩:=by
  refine Jy q (g _ a5) (g _ M) nD c6 ⟨_,ls,U3.frame R7,c4⟩ ⟨_,Jb (tp:=t) l (λb hb=>by cases hb) a6 (λi hi o e=>?_) ?_ ?_ (a4 _ _ tD.symm c9) (λ_=>e4.mono a6 _ _) (λz=>absurd rfl z)⟩ ⟨_,a8,Ho (λi hi=>q.lt hi) hH⟩ ⟨c8,G3.frame a6 (a4 _ _ q.tt.2.1.symm G3.at_)⟩ ?_ ∅ ∅
  ·obtain⟨tp,i4,_,_,C,_⟩:=l.tw i hi;have:o=.lst i4:=by have:=e.symm.trans C;exact zH.inj this
   subst this;exact a4 _ _ (q.t3 i hi).1 e
  ·exact J _ _ q.dd.2.2 a9
  ·exact i2
  ·exact J _ _ (ZD Y (B _ _ (ZD r j) r)) (I _ _ (ZD Y (B _ _ (ZD l.dict j) l.dict)) (g5 _ _ Y))
 have c3:∀ c o,c≠a.S->c≠a.d->c≠a.tl->c≠a.dT->c≠a.dH->H1 c=some o->Z c=some o:=λc o n1 n2 n3 n4 n5 e=>a3 _ _ n3 n4 n5 (fr _ _ n1 n2 (U _ _ e));have W7:ZL Z p:=Nj W1 λo e=>by
  obtain⟨xs,C⟩:=W1.some;have eo:o=.lst xs:=by have:=e.symm.trans C;exact zH.inj this
  subst eo;obtain⟨⟨dS,hS⟩,hk,_⟩:=U1.sh.sh;obtain⟨l1,LA⟩:=S1.lw;obtain⟨l0,hA,_⟩:=S1.hd;exact c3 _ _ (ZD C hS) (ZD C hk) O.tl.symm (ZD C LA.dict) (ZD C hA) C
 have pn:∀ c,H c=none->c≠p:=λc e=>(ZY c1 e).symm;refine k Z _ _ (λc o e v=>?_) W7 c7 (O.push q (pn _ (g _ a5)) (pn _ (g _ M)) (pn _ nD)) rfl (by simp) rfl
 obtain⟨v1,v2,v3,v4,v5,v6,v7⟩:=id v;exact⟨v.push q (ZY e (g _ nx)) (ZY e (g _ M)),λcp=>c3 _ _ v1 v2 v6 v4 v5 (s1 _ _ e cp)⟩
end Tw
namespace L2
open PySem PySem.Spec PyProof.Rows
def YL(H a:Hp):Prop:=(∀ b d,H b=some (.ext d)->a b=some (.ext d))/\∀ b c,H b=some (.tbl c)->a b=some (.tbl c)
def YL.same{H a:Hp}(s:ZC H a):YL H a:=⟨λb _ e=>s b _ e,λb _ e=>s b _ e⟩
def YL.trans{H d f:Hp}(a:YL H d)(b:YL d f):YL H f:=⟨λc h e=>b.1 c h (a.1 c h e),λc g e=>b.2 c g (a.2 c g e)⟩
def ZP.ext{H b:Hp}{T:aj}{q:Str}(h:ZP H T q)(e:YL H b):ZP b T q:=by
 obtain⟨l,g,i,j⟩:=h;exists l,e.2 _ _ g,i;intro a f k;obtain⟨c,d,m,n,o⟩:=j a f k;exact⟨c,d,m,e.1 _ _ n,o⟩
section
variable{cs:ju}{HL Hc H' H3:Hp}
def Ng(d:∀ c∈cs,H' c=none)(f:ZC (reT cs Hc H') H3){b:aj}{o:HO}(e:H' b=some o):unT cs H3 b=some o:=by
 have a:b∉cs:=λz=>by rw[d b z] at e;cases e
 rw[VL a];exact f _ _ (by rw[Vn a];exact e)
def Pp(a:∀ c∈cs,∃ o,Hc c=some (Yj c o))(b:ZC (reT cs Hc H') H3):∀ c∈cs,H3 c=Hc c:=λc h=>by
 obtain⟨o,e⟩:=a c h;rw[e];exact b _ _ (by rw[NH h];exact e)
def OJ(a:∀ c∈cs,∃ o,Hc c=some (Yj c o))(f:ZC (reT cs Hc H') H3){t:aj}{b:je}(e:H3 t=some (.tup b)):unT cs H3 t=some (.tup b):=by
 rw[VL λz=>?_]
 ·exact e
 ·rw[Pp a f t z] at e;obtain⟨o,d⟩:=a t z;rw[d] at e;cases e
end
end L2
namespace Tw
open PySem PySem.Spec L2 PyProof.Rows
variable{jg jh CS CT CH CK CP CB:aj}
def GH{K:zZ}:yT K (.type "list") (.type "list")=some true:=by kernel_rfl
def G8{gt:jp}{a:jq}{b:jo}{ho:Nat->Nat}(l:WF gt a)(d:Lv a b):∀(n j:Nat),j∈b->a.length-j<=n->∃ o,Sh a b ho j o
 | 0,j,k,h=>absurd (d.lt j k) ∅
 | n+1,j,k,h=>by
  by_cases c:(abv a b j).length+ho j=1
  ·cases e:abv a b j with
   | nil=>exact⟨none,.top c e⟩
   | cons i r=>
    have g:=MW l d (i:=j) (j:=i) (by rw[e];exact zF)
    have m:=d.lt i g.2;obtain⟨o,f⟩:=G8 l d n i g.2 ∅
    exact⟨o,.up c e f⟩
  ·exact⟨some j,.here c⟩
def Pu(t:ZT):jp:=if t.h=0 then Y0 t.rows else t.bs.map λb:Nat=>KT.int (b:Nat)
def Nz{H:Hp}:∀(l:jo),jP H (l.map λb:Nat=>KT.int (b:Nat)) (iN l)
 | []=>.nil
 | b::l=>.cons (.int _) (Nz l)
def GZ{H:Hp}{t:ZT}{a:je}(b:t.h=0->jP H (Y0 t.rows) a)(d:t.h≠0->a=iN t.bs):jP H (Pu t) a:=by
 unfold Pu;by_cases c:t.h=0
 ·rw[aO c];exact b c
 ·rw[aM c,d c];exact Nz _
def Iq(l:jo)(h:l.length<=100):(KT.tup (l.map λb:Nat=>KT.int (b:Nat))).wide 5=true:=by
 rw[KT.wide,Oa];have:(l.map λb:Nat=>KT.int (b:Nat)).all (·.wide (5-1))=true:=by
  rw[wG];exact zK.mpr λ_ _=>by simp[KT.wide]
 rw[this,zX,aK h];rfl
def ZLr{gt:jp}{f:jq}{i:Nat}{t:ZT}(a:Y2 gt f i t):(KT.tup (Pu t)).wide 5=true:=by
 unfold Pu;by_cases c:t.h=0
 ·rw[aO c];have g:=(a.leaf c).2;rw[KT.wide,Oa];have:(Y0 t.rows).all (·.wide (5-1))=true:=by
   unfold Y0;rw[wG];refine zK.mpr λr e=>?_;obtain⟨b,d⟩:=(a.inn r e).2;show (KT.tup [r.1,r.2]).wide 4=true;rw[KT.wide,Oa];simp[Oh _ 3 b,Oh _ 3 d]
  rw[this,show (Y0 t.rows).length=t.rows.length from zX _,aK (show t.rows.length<=100 by lia)]
  rfl
 ·rw[aM c];have:=(a.stem c).2.1;exact Iq _ ∅
def CN{L:YU}(h:L.fit):L.kt.wide 5=true:=by
 unfold YU.kt;have a:=Oh _ 4 (KC _ 3 4 h.1 (uQ (Q3 _ 3 h.1)));have b:=Oh _ 4 (KC _ 3 4 h.2 (uQ (Q3 _ 3 h.2)));rw[KT.wide,Oa];simp[KT.wide,a,b]
inductive Xi(gt:jp)(jg jh:aj)(e:je)(H:Hp)(Q:VK)(_:XK):Prop
 |mk(a:Pl)(m:Md)(_:e=[.ref a.S,.ref a.dT,.ref a.dH])(_:LS gt jg jh H a m)(_:∀(b:Hp)(d:Pl),(∀ c o,H c=some o->Ze a m c->Ze d m c/\b c=some o)->(∀ T q,ZP H T q->ZP b T q)->LS gt jg jh b d m->Xd d=Xd a->Q (.bl true) b)
abbrev CY:jr:=["_law_shelf","_law_twigs","_law_holds","_law_numbers","_law_number","_law_kind","_law_what","_law_seen","_law_found"]
def V4:ZA CY zEo (Zc JH):=Zz
def F0{gt:jp}(F:Zj K "_law_exact" "_law_exact" JH f fd)(T:YO mg)(L:Yg K mg jg jh)(DN:ZE P w K mg jV ZZ 1 jg "numbers" zEn (XE jg))(DY:ZE P w K mg jV ZZ 1 jg "many" zEn (Vk jg))(n6:ZE P w K mg jV ZZ 2 jg "look" zEa (Vj jg jh))(n5:ZE P w K mg jV ZZ 2 jg "label" zEa (XA jg jh λtg _ _=>tg))(n7:ZE P w K mg jV ZZ 2 jg "outside" zEa (XA jg jh λ_ ho _=>.int ho))(m9:ZE P w K mg jV ZZ 2 jg "holders" zEa (XA jg jh λ_ ho us=>.int ((us.length:Nat)+(ho:Nat):Int)))(m7:ZE P w K mg jV ZZ 4 jg "alone" zEa (Wo gt jg jh))(m8:ZE P w K mg jV ZZ 1 jg "forget" zEn (X1 jg jh))(c0:ZB P w K mg jV 7 "_law_alike" zEd (YF 6))(c1:ZB P w K mg jV 1 "_law_count" zEd Wl)(n0:ZB P w K mg jV 2 "_law_label" zEc (Yk gt))(m6:ZB P w K mg jV 1 "_law_above" zEc (Xb gt))(n8:ZB P w K mg jV 2 "_law_shared" zEm (Xx gt)):
  ZI P w K mg jV ZZ 8 f fd zEo (Xi gt jg jh):=by
 refine F.ko V4 λt4 A r1 s H vs Q E hr h=>?_;obtain⟨a,m,rfl,y,k⟩:=h;have nd:=V4.nd;have hu:=Wj hr;have J:=hr.mono (show 1<=7 by lia)
 have X:=hr.mono (show 2<=7 by lia)
 have p2:=hr.mono (show 4<=7 by lia)
 intro Xc;refine⟨_,ZQ (Zw 3 nd (Ni (E:=E0) (pv 0) L.cS DN J Yu))
  (ZQ (Zv (PW.pt (VI (XU (Ye (Zm Xj rfl T.isi Yw (Zg (pv 3) (XY (v:=.ty "list") rfl T.list Uo rfl))))) (UR (XU (Ye (Zp c0 hr (Zg (VO OA rfl T.tuple QP (ZX (pv 3))) (VO OA rfl T.tuple QP (ZX (Zm (QL rfl) rfl T.sorted UW (ZX (pv 1)))))))))))) WY Z1)
  (ZQ (Zv (XU (Ye (Zp c1 J (Zg (Ni (E:=E0) (pv 0) L.cS DY J Yu) (Zm Kk rfl T.len XQ (ZX (pv 1))))))) WY Z1)
  (ZQ (VV PassesOwn.never rfl (WZ (pv 3)) (Yb 4 nd)
   (ZQ (Qt (WP hu (pv 1) (pv 4)) (Q7 rfl (Y7 (Yb 5 nd) (Y7 (Yb 6 nd) Q4))))
   (ZQ (Zw 7 nd (Y3 (E:=E0) (pv 0) L.cS n6 X Yu (ZX (pv 4))))
   (ZQ (Zv (PW.pt (VI (XU (Ye (Zm Xj rfl T.isi Yw (Zg (pv 7) (XY (v:=.ty "tuple") rfl T.tuple QP rfl))))) (VI (YJ Qi (Zm WA rfl T.len XQ (ZX (pv 7))) ZN (Z3 _)) (VI (YJ Qi (Zk K (pv 7) ZN) (pv 5) (Z3 _))
    (UR (XU (Ye (Zm Xj rfl T.isi Yw (Zg (Zk K (pv 7) ZN) (XY (v:=.ty "list") rfl T.list Uo rfl)))))))))) WY Z1)
   (ZQ (Zv (XU (Ye (Zp c0 hr (Zg (VO OA rfl T.tuple QP (ZX (Zk K (pv 7) ZN))) (VO OA rfl T.tuple QP (ZX (pv 6))))))) WY Z1)
   (ZQ (Zv (XU (Ye (Zp c0 hr (Zg (Y3 (E:=E0) (pv 0) L.cS n5 X Yu (ZX (pv 4))) (Zp n0 X (Zg (pv 1) (pv 4))))))) WY Z1)
   (ZQ (Xe (NG yM sP sO M5 (Zk K (pv 7) ZN)))
   (ZQ (Zv (XU (Ye (Zp c1 J (Zg (Y3 (E:=E0) (pv 0) L.cS n7 X Yu (ZX (pv 4))) (WP hu (pv 2) (pv 4)))))) WY Z1)
   (ZQ (Zv (XU (Ye (Zp c1 J (Zg (Y3 (E:=E0) (pv 0) L.cS m9 X Yu (ZX (pv 4))) (Zu WI (WP hu (pv 2) (pv 4)) (Zm WA rfl T.len XQ (ZX (Zp m6 J (Zg (pv 1) (pv 4)))))))))) WY Z1)
   (ZQ (Zw 8 nd (Y3 (E:=E0) (pv 0) L.cS m7 p2 Yu (ZX (pv 4))))
   (ZU (Zv (PW.pt (VI (XU (Ye (Zm Xj rfl T.isi Yw (Zg (pv 8) (XY (v:=.ty "bool") rfl T.bool P7 rfl))))) (UR (YJ Qi (pv 8) (GQ (ML (Zp n8 X (Qc (pv 1) (Zg (pv 2) (pv 4)))))) (Z3 _))))) WY Z1))))))))))))
  (ZQ (Xe (NG yM sP sO M5 (pv 3)))
  (ZQ (Xe (Ni (E:=E0) (pv 0) L.cS m8 J Yu))
  (ZU (Zn (VN WW (Zm WA rfl T.len XQ (ZX (Ni (E:=E0) (pv 0) L.cS DN J Yu))) (Zm Kk rfl T.len XQ (ZX (pv 1))) (Z3 _))))))))),?_⟩
 obtain⟨g,ls,U,r9⟩:=y.sh;obtain⟨r,Lw⟩:=y.lw;obtain⟨c7,p0,hH⟩:=y.hd;obtain⟨gs,G⟩:=y.gr;have a0:=y.l64;have eI:(m.lv.map λi:Nat=>(i:Int)).map V.int=iN m.lv:=by rw[zL];rfl
 have wN:=Iq m.lv ∅
 have p5:g.length=m.lv.length:=Mq U.sh;have p6:r.length=m.lv.length:=by have:=congrArg xY Lw.keys;simpa using this
 exists _,rfl,a.S,_,_,rfl,U.sh.sh.self.choose_spec,rfl,a.S,a.d,a.lk,m.ts.length,g,ls,m.lv.map (λi:Nat=>(i:Int)),rfl,U.sh.sh,(by rw[U.sh.keys,zL];rfl),US Lw.vl.up,by simpa using a0
 intro q nq;rw[eI];have g1:=Za nq (.lst (iN m.lv));have hq:upd H q (.lst (iN m.lv)) q=some (.lst (iN m.lv)):=ZK;generalize upd H q (.lst (iN m.lv))=H1 at g1 hq⊢;refine⟨_,rfl,_,_,_,_,rfl,.lst hq,GH,_,rfl,Zl ?_⟩;refine⟨_,rfl,q,_,rfl,.inl ⟨ZH.of hq,λt1 p9=>?_⟩⟩;have ga:=Za p9 (.tup (iN m.lv));exists _,rfl,a.dT,r,m.lv.map (λi:Nat=>(i:Int)),rfl,(g1.trans ga) _ _ Lw.dict,(by rw[Lw.keys,zL];rfl),US Lw.vl.up,by simpa using a0
 intro q2 p7;rw[eI];have gb:=Za p7 (.lst (iN m.lv));refine⟨q2,_,rfl,.inl ⟨ZH.of ZK,λt2 r0=>?_⟩⟩;have gc:=Za r0 (.tup (iN m.lv));refine⟨.ref t1,.ref t2,.tup (m.lv.map λb:Nat=>KT.int (b:Nat)),5,rfl,.tup ((gb.trans gc) _ _ ZK) (Nz _),.tup ZK (Nz _),wN,by decide,λH2 s2=>⟨_,rfl,Zl ?_⟩⟩
 have a2:=((ga.trans gb).trans gc).trans s2;have a4:=g1.trans a2;have l1:=a2 _ _ hq;clear s2;have U2:=U.frame (U.sh.same a4);exists _,rfl,a.S,_,_,rfl,U2.sh.sh.self.choose_spec,rfl,a.S,a.d,a.lk,m.ts.length,g,ls,rfl,U2.sh.sh;refine⟨_,rfl,a.dT,r,rfl,a4 _ _ Lw.dict,(g.length:Int),by rw[p5,p6];rfl,λH3 s3=>⟨_,rfl,Zl ?_⟩⟩
 have a5:=a4.trans s3;have c5:=s3 _ _ l1;have U3:=U.frame (U.sh.same a5);have c2:=Lw.same a5;have i6:=a5 _ _ p0;have R:=U3.sh.sh.looks;have e6:q≠a.lk:=(ZY U.sh.sh.looks nq).symm;clear s3 l1 U2 a2 a4;refine⟨_,rfl,q,rfl,⟨_,ZH.of c5⟩,Ql (K:=K) (a:=q) (xs:=iN m.lv) (λi σ H'=>∃(x4 x5 x6 x7 x8:jf)(l8:je),σ=[some (.ref a.S),some (.ref a.dT),some (.ref a.dH),some (.ref q),x4,x5,x6,x7,x8]/\(∀ c o,c≠a.lk->H3 c=some o->H' c=some o)/\H' a.lk=some (.lst l8)/\l8.length<=100+i)
  ⟨_,_,_,_,_,ls,rfl,λc o _ e=>e,R,∅⟩ (λi σ H' _ hP=>?_) ?_ ?_⟩
 ·obtain⟨_,_,_,_,_,_,_,k',_⟩:=hP;exact ZH.of (k' _ _ e6 c5)
 ·rintro i u σ M c6 ⟨x4,x5,x6,x7,x8,p,rfl,z,B,l4⟩;unfold iN at c6;rw[zJ] at c6;obtain⟨j,ej,rfl⟩:=yG.mp c6;have C:j∈m.lv:=zA ej;have ii:i<m.lv.length:=(yJ.mp ej).1;have I:Xh gt jg jh M a.S a.d a.lk m.ts m.lv m.av m.ho a.as g p:=⟨MH U3.sh z B,U3.wf,U3.vl,U3.av,U3.live,U3.l800⟩;have r6:YK H3 M:=λb ys e=>z b _ (ZD e R) e;have D:XW M a.dT m.ts m.lv a.bs r:=c2.frame r6 (z _ _ (ZD c2.dict R) c2.dict) λb hb o e=>z _ _ (y.t3 b hb).2.1 e;have i7:M a.dH=some (.dK c7):=z _ _ (ZD i6 R) i6;obtain⟨tp,us,e1,e2,e3,e4,e5⟩:=D.tw j C;have m2:=U.wf j _ (Xw (U.vl.lt j C));have p1:Zi M a.dT (.int (j:Nat)) (some (.ref tp)):=e1 ▸ Zi.k (k:=Sum.inl (j:Int)) D.dict;exists _,rfl,_,rfl,a.dT,.ref tp,rfl,p1,tp,_,rfl,Zd.of e2,rfl,_,_,rfl,_,_,rfl,rfl;have W4:=I.sh.tw j C;obtain⟨vs,w1,w2,w3⟩:=W4.things;obtain⟨ta,vlo,t9,o8,p4,t8,t7⟩:=W4.tag;cases o8;obtain⟨o1,o2,o3,o4⟩:=I.sh.own j C;exists _,rfl,a.S,_,_,rfl,I.sh.sh.self.choose_spec,rfl,_,rfl,a.S,a.d,a.lk,m.ts.length,g,p,(j:Int),_,_,_,_,_,_,vs,_,_,rfl,⟨I.sh.sh,I.sh.val j C,W4.tw⟩,w1,p4,Ne.symm o3,Ne.symm o2,by lia
  intro H5 l' t l a1 l9 c4 O;have eK:(if (Yh (gd m.ts j)).h > 0 then ("stem" : Str) else "leaf")=kindOf (gd m.ts j):=by
   unfold kindOf;show (if (((gd m.ts j).h:Nat):Int) > 0 then ("stem" : Str) else "leaf")=_
   by_cases c:(gd m.ts j).h=0
   ·rw[aO c,aM ∅]
   ·rw[aM c,aO ∅]
  rw[eK] at O;refine⟨_,rfl,_,_,_,_,rfl,.tup O,Ma,_,rfl,Zl ?_⟩;refine⟨_,rfl,t,_,rfl,.inr (Zd.of O),rfl,_,rfl,Of rfl ?_⟩;refine⟨_,rfl,.inr (.inl ⟨t,_,0,_,rfl,rfl,Zd.of O,rfl,_,rfl,rfl,_,rfl,Of rfl ?_⟩)⟩;refine⟨_,rfl,.inr (.inl ⟨t,_,1,_,rfl,rfl,Zd.of O,rfl,_,_,_,_,rfl,.lst c4,GH,_,rfl,Zl ?_⟩)⟩;have r8:∀ c o,c≠a.lk->M c=some o->H5 c=some o:=l;have e8:YK M H5:=λb ys e=>l b _ (ZD e B) e;refine⟨_,rfl,.inr (.inl ⟨t,_,1,_,rfl,rfl,Zd.of O,rfl,l',vs,rfl,.inl ⟨ZH.of c4,λr4 m0=>?_⟩⟩)⟩;have i2:=Za m0 (.tup vs);have o0:XW H5 a.dT m.ts m.lv a.bs r:=D.frame e8 (l _ _ (ZD D.dict B) D.dict) λb hb o e=>l _ _ (y.t3 b hb).2.1 e;have o7:=l _ _ (y.t3 j C).2.1 e3;refine⟨_,rfl,a.b j,us,rfl,.inl ⟨ZH.of (i2 _ _ o7),λr5 m1=>?_⟩⟩;have i3:=Za m1 (.tup us);have c3:=i2.trans i3;have kV:jP M (Pu (gd m.ts j)) vs:=GZ w2 w3;have kU:jP M (Pu (gd m.ts j)) us:=GZ e4 e5;refine⟨.ref r4,.ref r5,.tup (Pu (gd m.ts j)),5,rfl,.tup (i3 _ _ ZK) ((kV.mono e8 _ _).sm c3),.tup ZK ((kU.mono e8 _ _).sm c3),ZLr m2,by decide,λH6 s6=>⟨_,rfl,Zl ?_⟩⟩
  have e7:=c3.trans s6;have U5:Xh gt jg jh H5 a.S a.d a.lk m.ts m.lv m.av m.ho a.as g (p++[.int (j:Nat)]):=⟨MH I.sh l a1,I.wf,I.vl,I.av,I.live,I.l800⟩;have U6:=U5.frame (U5.sh.same e7);have W6:=U6.sh.tw j C;exists _,rfl,a.S,_,_,rfl,U6.sh.sh.self.choose_spec,rfl,_,rfl,a.S,a.d,a.lk,m.ts.length,g,_,(j:Int),_,_,_,_,_,_,rfl,⟨U6.sh.sh,U6.sh.val j C,W6.tw⟩;have o5:=o0.same e7;have n9:Y6 gt H6 a.dT m.ts m.lv r:=o5.lawT U.wf G.len G.up;exists _,rfl,_,rfl,a.dT,j,m.ts,m.lv,r,rfl,n9,C;intro H7 v7 s7 l6;refine⟨_,v7,(Yh (gd m.ts j)).kt,5,rfl,(W6.tag.mono (ZC.tups s7)).key,l6.key,CN (Ln m2),by decide,λH8 s8=>⟨_,rfl,Zl ?_⟩⟩
  have a7:=(e7.trans s7).trans s8;have p3:=a7 _ _ O;have l0:=a7 _ _ c4;refine⟨_,rfl,.inr (.inl ⟨t,_,1,_,rfl,rfl,Zd.of p3,rfl,.inl ⟨rfl,_,ZH.of l0⟩,l',vs,rfl,rfl,l0,?_⟩)⟩;have N:∀ c o,c≠a.lk->M c=some o->upd H8 l' (.lst []) c=some o:=λc o n e=>by rw[ZM (ZY e l9)];exact a7 _ _ (l _ _ n e)
  have e0:upd H8 l' (.lst []) a.lk=some (.lst (p++[.int (j:Nat)])):=by rw[ZM (ZY B l9)];exact a7 _ _ a1
  generalize upd H8 l' (.lst [])=H9 at N e0⊢;have r7:YK M H9:=λb ys e=>N b _ (ZD e B) e;have U9:Xh gt jg jh H9 a.S a.d a.lk m.ts m.lv m.av m.ho a.as g (p++[.int (j:Nat)]):=⟨MH I.sh N e0,I.wf,I.vl,I.av,I.live,I.l800⟩;have i0:XW H9 a.dT m.ts m.lv a.bs r:=D.frame r7 (N _ _ (ZD D.dict B) D.dict) λb hb o e=>N _ _ (y.t3 b hb).2.1 e;have i8:H9 a.dH=some (.dK c7):=N _ _ (ZD i7 B) i7;have W9:=U9.sh.tw j C;have i9:∀ H',ZC H9 H'->Zi H' a.dH (.int (j:Nat)) (some (.int (m.ho j:Nat))):=λH' s'=>hH.2 j C ▸ Zi.k (k:=Sum.inl (j:Int)) (s' _ _ i8);exists _,rfl,a.S,_,_,rfl,U9.sh.sh.self.choose_spec,rfl,_,rfl,a.S,a.d,a.lk,m.ts.length,g,_,(j:Int),_,_,_,_,_,_,rfl,⟨U9.sh.sh,U9.sh.val j C,W9.tw⟩;refine⟨_,rfl,_,rfl,a.dH,.int (m.ho j:Nat),rfl,i9 _ (ZC.refl _),(m.ho j:Nat),rfl,λs1 a6=>⟨_,rfl,Zl ?_⟩⟩;have a3:=U9.frame (U9.sh.same a6);have o6:=a3.sh.tw j C;exists _,rfl,a.S,_,_,rfl,a3.sh.sh.self.choose_spec,rfl,_,rfl,a.S,a.d,a.lk,m.ts.length,g,_,(j:Int),_,_,_,_,_,_,rfl,⟨a3.sh.sh,a3.sh.val j C,o6.tw⟩;exists _,rfl,_,rfl,a.dH,.int (m.ho j:Nat),rfl,i9 _ a6,_,rfl,_,rfl,a.dT,j,m.ts,m.lv,r,rfl,(i0.same a6).lawT U.wf G.len G.up,a0;intro s4 m5 r2 s0 i4;refine⟨m5,_,rfl,.inl (ZH.of i4),_,_,rfl,rfl,((iN (m.av j)).length:Nat)+(m.ho j:Nat),?_,λs5 a2=>⟨_,rfl,Zl ?_⟩⟩
  ·rw[U.av j C];show [V.int _,V.int _]++[]=_;rw[Int.add_comm (m.ho j:Int)];rfl
  have m4:=(a6.trans r2).trans a2;have i1:=U9.frame (U9.sh.same m4);obtain⟨o,l3⟩:=G8 (ho:=m.ho) U.wf U.vl _ j C (zY _);exists _,rfl,a.S,_,_,rfl,i1.sh.sh.self.choose_spec,rfl,_,rfl,a.S,a.d,a.lk,m.ts,m.lv,m.av,m.ho,a.as,g,_,j,o,rfl,i1,C,l3;intro s9 r3;have a8:=m4.trans r3;refine⟨_,rfl,_,_,_,_,rfl,.bl _,ZNp,_,rfl,Zl ?_⟩;exists _,rfl,_,rfl,_,rfl,_,rfl,a.dT,a.dH,j,m.ts,m.lv,r,c7,m.ho,rfl,(i0.same a8).lawT U.wf G.len G.up,a0,C,a8 _ _ i8,hH;intro t0 o' m3 l5;cases l3.uniq l5;have eo:V.bl o.isNone=V.bl (decide (oV o=V.non)):=by
   cases o with
   | none=>rfl
   | some k=>rfl
  refine⟨rfl,_,rfl,Of eo ?_⟩;refine⟨_,_,_,_,_,p++[.int (j:Nat)],rfl,λc o' n e=>(a8.trans m3) _ _ (N _ _ n (z _ _ n e)),(a8.trans m3) _ _ e0,by rw[zE,xI];lia⟩
 ·rintro σ M ⟨x4,x5,x6,x7,x8,p,rfl,z,B,l4⟩;have l2:=z _ _ e6 c5;exists _,rfl,.inl ⟨rfl,_,ZH.of l2⟩,q,_,rfl,rfl,l2;have l:∀ c o,c≠a.lk->c≠q->H3 c=some o->upd M q (.lst []) c=some o:=λc o n1 n2 e=>by rw[ZM n2];exact z _ _ n1 e
  have a1:upd M q (.lst []) a.lk=some (.lst p):=by rw[ZM (Ne.symm e6)];exact B
  generalize upd M q (.lst [])=H5 at l a1⊢;have x:∀ c o,c≠a.lk->H c=some o->H5 c=some o:=λc o n e=>l _ _ n (ZY e nq) (a5 _ _ e);have U5:Xh gt jg jh H5 a.S a.d a.lk m.ts m.lv m.av m.ho a.as g p:=⟨MH U.sh x a1,U.wf,U.vl,U.av,U.live,U.l800⟩;exists _,rfl,a.S,_,_,rfl,U5.sh.sh.self.choose_spec,rfl,a.S,a.d,a.lk,m.ts,m.lv,m.av,m.ho,a.as,g,p,rfl,U5.sh;intro H6 c9 W o9 R6;exists _,rfl,a.S,_,_,rfl,R6.sh.self.choose_spec,rfl,a.S,a.d,c9,m.ts.length,g,[],m.lv.map (λi:Nat=>(i:Int)),rfl,R6.sh,(by rw[U.sh.keys,zL];rfl),US Lw.vl.up,by simpa using a0
  intro q7 p8;rw[eI];have g7:=Za p8 (.lst (iN m.lv));have Z:∀ c o,c≠a.lk->c≠a.S->H c=some o->upd H6 q7 (.lst (iN m.lv)) c=some o:=λc o n1 n2 e=>g7 _ _ (o9 _ _ n2 (x _ _ n1 e));have U7:Xh gt jg jh (upd H6 q7 (.lst (iN m.lv))) a.S a.d c9 m.ts m.lv m.av m.ho a.as g []:=⟨R6.same g7,U.wf,U.vl,U.av,U.live,U.l800⟩;exists q7,_,rfl,.inl (ZH.of ZK);generalize upd H6 q7 (.lst (iN m.lv))=H7 at Z U7⊢;have Y:=y.lo (H':=H7) λc o n1 n2 n3 n4 e=>Z c o n3 n1 e;obtain⟨c8,e9⟩:=Y.lw;have l7:c8.length=m.lv.length:=by have:=congrArg xY e9.keys;simpa using this
  exists _,rfl,a.dT,c8,rfl,e9.dict,rfl;have ed:decide (V.int ((iN m.lv).length:Nat)=V.int (c8.length:Nat))=true:=aK (by rw[l7];simp[iN])
  rw[ed];obtain⟨⟨t5,i5⟩,t6,a9⟩:=U.sh.sh;refine k H7 { a with lk:=c9 } (λc o e v=>?_) (λT' q' tb=>?_) ⟨⟨g,[],U7,by simp⟩,Y.lw,Y.hd,Y.gr,Y.told,y.dd,?_,y.t2,λi hi=>?_,y.l64,y.l700⟩ rfl
  ·obtain⟨v1,v2,v3,v4,v5,v6,v7⟩:=v;exact⟨⟨v1,v2,ZY (x _ _ v3 e) W,v4,v5,v6,v7⟩,Z _ _ v3 v1 e⟩
  ·exact ZP.ext (T:=T') (q:=q') tb ⟨λb φ e=>Z _ _ (ZD e a9) (ZD e i5) e,λb φ e=>Z _ _ (ZD e a9) (ZD e i5) e⟩
  ·exact⟨ZY (x _ _ y.tt.1 y.told) W,y.tt.2.1,(ZY (x _ _ y.tt.2.2.symm G.at_) W).symm⟩
  ·obtain⟨t1,t2,t3⟩:=y.t3 i hi;obtain⟨tp,us,_,_,e,_⟩:=Lw.tw i hi;exact⟨t1,ZY (x _ _ t2 e) W,t3⟩
structure Dg(ts:jq)(lv:jo)(av:Nat->jo)(ho:Nat->Nat)(pd:List (Nat×Nat))(ex:Nat->Prop):Prop where
 vl:Lv ts lv
 srt:∀ b∈lv,(av b).Pairwise (· < ·)
 mem:∀ b∈lv,∀ j,j∈av b ↔ j<ts.length/\b∈(gd ts j).bs/\(j∈lv\/(b,j)∈pd)
 pl:∀ x∈pd,x.1∈lv/\x.1∈(gd ts x.2).bs/\x.2∉lv/\x.2<ts.length
 live:∀ b∈lv,¬ ex b->1<=(av b).length+ho b
def Q1{l:jo}(h:l.Pairwise (· < ·)):l.Nodup:=h.imp λh=>zO h
def NM{l:jo}(h:l.Pairwise (· < ·)){a b:Nat}:a∈l.erase b ↔ a≠b/\a∈l:=(Q1 h).mem_erase_iff
section
variable{ts:jq}{lv:jo}{av:Nat->jo}{ho:Nat->Nat}{pd:List (Nat×Nat)}{ex:Nat->Prop}{i b:Nat}{r:jo}
def Dg.start(h:Dg ts lv av ho pd (· = i))(o:i∈lv)(e:av i=[])(s:∀ b∈(gd ts i).bs,b<i):Dg ts (lv.erase i) av ho ((gd ts i).bs.map (λb=>(b,i))++pd) λ_=>False:=by
 have d:∀{a:Nat},a∈lv.erase i ↔ a≠i/\a∈lv:=NM h.vl.up;have B:∀ j∈lv,i∉(gd ts j).bs:=λj m z=>by
  have:=(h.mem i o j).mpr ⟨h.vl.lt j m,z,.inl m⟩;rw[e] at this;cases this
 have q:=h.vl.lt i o;refine⟨⟨λj m=>h.vl.lt j (d.mp m).2,λj m b f=>?_,h.vl.up.sublist uN⟩,λb f=>h.srt b (d.mp f).2,λb f j=>?_,λx A=>?_,λb f _=>h.live b (d.mp f).2 (d.mp f).1⟩
 ·have n:=(d.mp m).2;exact d.mpr ⟨λz=>B j n (z ▸ f),h.vl.cl j n b f⟩
 ·rw[h.mem b (d.mp f).2 j];constructor
  ·rintro⟨k,g,l | l⟩
   ·by_cases z:j=i
    ·subst z;exact⟨k,g,.inr (xW _ (zM.mpr ⟨b,g,rfl⟩))⟩
    ·exact⟨k,g,.inl (d.mpr ⟨z,l⟩)⟩
   ·exact⟨k,g,.inr (yN _ l)⟩
  ·rintro⟨k,g,l | l⟩
   ·exact⟨k,g,.inl (d.mp l).2⟩
   ·rcases yY.mp l with z | z
    ·obtain⟨c,_,w⟩:=zM.mp z;cases w;exact⟨k,g,.inl o⟩
    ·exact⟨k,g,.inr z⟩
 ·rcases yY.mp A with z | z
  ·obtain⟨c,p,rfl⟩:=zM.mp z;have:=s c p;exact⟨d.mpr ⟨zO this,h.vl.cl i o c p⟩,p,λy=>(d.mp y).1 rfl,q⟩
  ·obtain⟨t,u,C,v⟩:=h.pl x z;refine⟨d.mpr ⟨λy=>?_,t⟩,u,λy=>C (d.mp y).2,v⟩;have:=(h.mem x.1 t x.2).mpr ⟨v,u,.inr z⟩;rw[y,e] at this;cases this
def OI(av:Nat->jo)(b i:Nat):Nat->jo:=λc=>if c=b then (av c).erase i else av c
def Dg.cut(h:Dg ts lv av ho ((b::r).map (λb=>(b,i))++pd) λ_=>False)(v:(b::r).Nodup)(t:∀ x∈pd,x.2≠i):b∈lv/\i∈av b/\Dg ts lv (OI av b i) ho (r.map (λb=>(b,i))++pd) (· = b):=by
 have g:(b,i)∈(b::r).map (λb=>(b,i))++pd:=xW _ (zM.mpr ⟨b,zF,rfl⟩);obtain⟨m,o,p,q⟩:=h.pl _ g;have OP:=(wO.mp v).1;have a:∀{c j:Nat},(c,j)≠(b,i)->((c,j)∈(b::r).map (λb=>(b,i))++pd ↔ (c,j)∈r.map (λb=>(b,i))++pd):=fun{c j} n=>by
  rw[yS,sJ,yZ];exact⟨λz=>z.resolve_left n,.inr⟩
 have w:(b,i)∉r.map (λb=>(b,i))++pd:=λz=>by
  rcases yY.mp z with y | y
  ·obtain⟨c,d,e⟩:=zM.mp y;cases e;exact OP d
  ·exact t _ y rfl
 have s:i∈av b:=(h.mem b m i).mpr ⟨q,o,.inr g⟩;refine⟨m,s,h.vl,λc d=>?_,λc d j=>?_,λx u=>?_,λc d z=>?_⟩
 ·unfold OI;split
  ·exact(h.srt c d).sublist uN
  ·exact h.srt c d
 ·unfold OI;by_cases z:c=b
  ·subst z;rw[aO rfl,NM (h.srt c d),h.mem c d j];constructor
   ·rintro⟨n,k,l,f | f⟩
    ·exact⟨k,l,.inl f⟩
    ·exact⟨k,l,.inr ((a λy=>n (Prod.mk.inj y).2).mp f)⟩
   ·rintro⟨k,l,f⟩;have n:j≠i:=λy=>by
     subst y;exact f.elim p w
    exact⟨n,k,l,f.imp id λy=>(a λy=>n (Prod.mk.inj y).2).mpr y⟩
  ·rw[aM z,h.mem c d j];have n:(c,j)≠(b,i):=λy=>z (Prod.mk.inj y).1;rw[a n]
 ·exact h.pl x (yY.mp u |>.elim (λy=>xW _ (by rw[yS];exact zD _ y)) λy=>yN _ y)
 ·rw[show OI av b i c=av c from aM z];exact h.live c d id
def Dg.abv(h:Dg ts lv av ho [] ex)(g:b∈lv):av b=abv ts lv b:=by
 have k:(Tw.abv ts lv b).Pairwise (· < ·):=h.vl.up.sublist tJ;refine List.Perm.eq_of_pairwise (le:=(· < ·)) (λa c _ _ e d=>absurd e (Nat.lt_asymm d)) (h.srt b g) k ((rH (Q1 (h.srt b g)) (Q1 k)).mpr λj=>?_);rw[h.mem b g j];unfold Tw.abv;rw[xU,decide_eq_true_iff];constructor
 ·rintro⟨_,d,f | f⟩
  ·exact⟨f,d⟩
  ·cases f
 ·rintro⟨e,d⟩;exact⟨h.vl.lt j e,d,.inl e⟩
end
def HX{d:jq}:∀{l:jo},(∀ b∈l,(gd d b).rows≠[])->((l.flatMap λb=>(gd d b).rows).map (·.1)).Pairwise (λa b=>a.lt b=true)->l.Nodup
 | [],_,_=>List.nodup_nil
 | b::l,h,hp=>by
  rw[wU,yR,vG] at hp;refine wO.mpr ⟨λz=>?_,HX (λc f=>h c (zD _ f)) hp.2.1⟩;obtain⟨r,j,e⟩:=List.exists_cons_of_ne_nil (h b zF);have g:r.1∈(gd d b).rows.map (·.1):=by rw[e];simp
  have i:r.1∈(l.flatMap λb=>(gd d b).rows).map (·.1):=zM.mpr ⟨r,uT.mpr ⟨b,z,by rw[e];simp⟩,rfl⟩
  have:=hp.2.2 _ g _ i;rw[Np] at this;cases this
def Hw{gt:jp}{a:jq}(d:WF gt a){i:Nat}(c:i<a.length)(g:(gd a i).h≠0):(gd a i).bs.Nodup:=by
 have e:=d i _ (Xw c);obtain⟨_,_,j,k⟩:=e.stem g;have f:=e.up;rw[k] at f;exact HX (λb l=>(d b _ (Xw (Nat.lt_trans (j b l).1 c))).ne) f
def KR{gt:jp}{c:jq}(e:WF gt c):∀(n i:Nat),i<n->i<c.length->(gd c i).h<(gd c i).rows.length
 | 0,i,h,_=>absurd h (Nat.not_lt_zero _)
 | n+1,i,h,j=>by
  have k:=e i _ (Xw j);by_cases f:(gd c i).h=0
  ·rw[f];exact vU.mpr k.ne
  obtain⟨g,s,d,m⟩:=k.stem f;have o:=Hw e j f;rw[m];generalize (gd c i).bs=l at g d o
  match l,g,d with
  | a::b::r,_,d=>
   have t:=d a zF;have u:=d b (zD _ zF);have p:=KR e n a ∅ ∅
   have q:=KR e n b ∅ ∅
   rw[wU,wU,zE,zE]
   lia
inductive VF(ts:jq)(A:Nat->Prop):Nat->Prop
 | held {i:Nat}:A i->VF ts A i
 | step {i b:Nat}:VF ts A i->b∈(gd ts i).bs->VF ts A b
def VF.sub{c:jq}{A:Nat->Prop}{b:jo}(e:Lv c b)(h:∀ i,A i->i∈b){i:Nat}(r:VF c A i):i∈b:=by
 induction r with
 | held a=>exact h _ a
 | step _ d f=>exact e.cl _ f _ d
def VF.all{d:jq}{c:jo}{m:Nat->Nat}(k:∀ j∈c,∀ b∈(gd d j).bs,b<j)(l:Lv d c)(a:∀ i,i∈c->1<=(abv d c i).length+m i):∀(n i:Nat),d.length-i<=n->i∈c->VF d (λj=>j∈c/\0<m j) i
 | 0,i,h,g=>absurd (l.lt i g) ∅
 | n+1,i,h,g=>by
  by_cases o:0<m i
  ·exact .held ⟨g,o⟩
  ·cases e:abv d c i with
   | nil=>
    have:=a i g;rw[e] at this;exact absurd this (by simp;lia)
   | cons j r=>
    have f:j∈abv d c i:=by rw[e];exact zF
    unfold abv at f;rw[xU,decide_eq_true_iff] at f;have:=k j f.1 i f.2;have:=l.lt i g;exact .step (VF.all k l a n j ∅ f.1) f.2
end Tw
namespace L2
open PySem PySem.Spec PyProof.Rows
def AX{a:jz}{b:jd}(h:ZO (a.map V.int) b):PySem.W.kf_ints b=true/\∀(i:Nat)(n:Int),a[i]? = some n->∃ t,b[i]? = some (.int n t):=by
 refine⟨?_,λi n e=>?_⟩
 ·induction a generalizing b with
  | nil=>cases h;rfl
  | cons n a d=>
   cases h with
   | cons r t=>
    obtain⟨f,rfl⟩:=r;rw[PySem.W.kf_ints];exact d t
 ·obtain⟨u,c,t,rfl⟩:=h.get (x:=.int n) (i:=i) (by rw[zJ,e];rfl)
  exact⟨t,c⟩
inductive Qr(x:V)(c:je)(H:Hp)(Q:VK):Prop
 |mk(l:aj)(a:jz)(b:Int)(_:x=.ref l)(_:c=[.int b])(_:H l=some (.lst (a.map V.int)))(_:b∈a)(_:Q .non (upd H l (.lst ((a.erase b).map V.int))))
def DZ:P4 X "list.remove" Qr:=by
 intro D s Y H x V v U Q I R P h;obtain⟨l,d,b,rfl,rfl,C,J,q⟩:=h;cases R;obtain⟨u,rfl,O⟩:=P.one;obtain⟨S,rfl⟩:=O;obtain⟨z,c,n,r,T,e⟩:=I.lstM C;obtain⟨N,o⟩:=AX r;have B:=List.idxOf_lt_length_of_mem J;have g:c.length=d.length:=by have:=r.length;rw[zX] at this;exact this.symm
 have Lo:∀(m:Nat)(j:m<c.toArray.size)(k:Int),d[m]? = some k->isInt b c.toArray[m]=decide (k=b):=λm j k K=>by
  obtain⟨t,G⟩:=o m k K;have:c.toArray[m]? = some (Value.int k t):=by simpa using G
  rw[wJ j] at this;rw[zH.inj this];show (k==b)=_;rw[xH];simp
 have f:d.idxOf b<c.toArray.size:=by rw[zN,g];exact B
 have M:c.toArray.size<=sizeLine:=by
  rw[zN,g];have:=z;rw[zX] at this;exact this
 refine call_meets F.slot_list_remove ⟨_,e,rfl⟩ F.entry_list_remove (F.args_list_remove_2 _ _) (MeetsSeq.list_remove l c.toArray n (.int b S) (isInt b) (λy L=>PySem.W.kf_eq N y (by simpa using L)) (d.idxOf b) f ?_ (λm j w=>?_) M) ⟨e,?_⟩
 ·rw[Lo _ f b (by rw[zU B,List.getElem_idxOf B])]
  exact aK rfl
 ·have A:m<d.length:=∅
  rw[Lo m j d[m] (zU A)];have:=List.not_of_lt_findIdx (p:=(· == b)) (xs:=d) (i:=m) w;exact aJ λz=>by rw[z] at this;simp at this
 ·have E:d.erase b=d.take (d.idxOf b)++d.drop (d.idxOf b+1):=by rw[List.erase_eq_eraseIdx_of_idxOf rfl,qW]
  refine⟨.non,_,I.lset (its':=c.take (d.idxOf b)++c.drop (d.idxOf b+1)) C e ?_ ?_ ?_,rfl,q⟩
  ·apply Array.toList_inj.mp;rw[Array.toList_eraseIdxIfInBounds,qW]
  ·rw[E,yR,List.map_take,List.map_drop];exact(r.take _).append (r.drop _)
  ·rw[zX];have:=List.length_erase_le (l:=d) (a:=b);rw[zX] at z
   lia
end L2
namespace Tw
open PySem PySem.Spec L2 PyProof.Rows
variable{jg jh CS CT CH CK CP CB:aj}
abbrev Kr:Stmt:=Xf (top 36) 4
abbrev Kq:Stmt:=Xf (top 36) 5
abbrev Nq:Stmt:=Xf (top 36) 6
structure Zr(K:zZ)(C:aj)(m q:Str)(st:aB)(ps:jr):Prop where
 ex:∃ f fd,UJ K C m f/\Zj K m q st f fd/\Zx K fd ps []
def Zr.of{P:al}{w:ar}{K:zZ}{g:jb}{a:aC}{e:WR}{C:aj}{m q:Str}{j:aB}{d:jr}{k:Nat}{i:Sp}(L:Zr K C m q j d)(h:∀ f c,Zj K m q j f c->ZI P w K g a e k f c d i):ZE P w K g a e k C m d i:=by
 obtain⟨f,c,M,F,b⟩:=L.ex;exact⟨f,c,M,h f c F,b⟩
def JF{a:List (ZR×V)}{b:jo}{i:Nat}(d:b.Nodup)(h:a.map (·.1)=b.map (λi:Nat=>(Sum.inl (i:Int):ZR))):(WE a (.inl (i:Int))).map (·.1)=(b.erase i).map (λi:Nat=>(Sum.inl (i:Int):ZR)):=by
 have c:(WE a (.inl (i:Int))).map (·.1)=(a.map (·.1)).filter λk=>decide (k≠.inl (i:Int)):=by
  unfold WE;rw[List.filter_map];rfl
 rw[c,h,List.filter_map,d.erase_eq_filter]
 congr 1
 refine tP λj _=>?_;show decide ((Sum.inl (j:Int):ZR)≠Sum.inl (i:Int))=(j != i);rw[xH];simp
 lia
def FS(l:jo)(i:Nat):(l.map λn:Nat=>(n:Int)).erase (i:Int)=(l.erase i).map λn:Nat=>(n:Int):=by
 induction l with
 | nil=>rfl
 | cons a l b=>
  rw[yS,List.erase_cons,List.erase_cons];by_cases z:a=i
  ·rw[aO (by rw[z];exact beq_self_eq_true _),aO (by rw[z];exact beq_self_eq_true _)]
  ·have c:¬ ((a:Int)==(i:Int))=true:=λy=>z (by have:=eq_of_beq y;lia)
   rw[aM c,aM (λy=>z (eq_of_beq y)),b];rfl
def LH{a:List (ZR×V)}{k j:ZR}(h:j≠k):Z5 (WE a k) j=Z5 a j:=by
 induction a with
 | nil=>rfl
 | cons p r b=>
  by_cases z:p.1=k
  ·rw[ZIf z,b,V3 (by rw[z];exact Ne.symm h)]
  ·rw[Cq z];by_cases y:p.1=j
   ·rw[UC y,UC y]
   ·rw[V3 y,V3 y,b]
section
variable{jg jh:aj}{H H':Hp}{S d lk:aj}{ts:jq}{lv:jo}{av:Nat->jo}{ho:Nat->Nat}{as:jx}{kvs:List (ZR×V)}{ls:je}{b i:Nat}
def Z7.gone(R:Z7 jg jh H S d lk ts lv av ho as kvs ls)(r:lv.Pairwise (· < ·)):Z7 jg jh (upd H d (.dK (WE kvs (.inl (i:Int))))) S d lk ts (lv.erase i) av ho as (WE kvs (.inl (i:Int))) ls:=by
 obtain⟨⟨s,q⟩,h,p⟩:=R.sh;have g:∀{a:Nat},a∈lv.erase i ↔ a≠i/\a∈lv:=NM r;have k:∀ c o,c≠d->H c=some o->upd H d (.dK (WE kvs (.inl (i:Int)))) c=some o:=λc o n e=>by rw[ZM n];exact e
 have m:YK H (upd H d (.dK (WE kvs (.inl (i:Int))))):=λc x e=>k c _ (ZD e h) e;refine⟨⟨⟨s,k _ _ (ZD q h) q⟩,ZK,k _ _ (ZD p h) p⟩,JF (Q1 r) R.keys,λj f=>?_,λj f=>R.lt j (g.mp f).2,R.len,λj f=>?_,λj f=>R.own j (g.mp f).2,λj l f p=>R.two j l (g.mp f).2 (g.mp p).2⟩
 ·rw[LH (λz=>(g.mp f).1 (Yo.mp z))];exact R.val j (g.mp f).2
 ·have W:=R.tw j (g.mp f).2;obtain⟨v,u⟩:=W.tw.self;obtain⟨w,t,_⟩:=W.things;exact W.frame m (λo e=>k _ _ (ZD u h) e) (λo e=>k _ _ (ZD t h) e) (λo e=>k _ _ (ZD W.tw.above h) e)
def Z7.set1(R:Z7 jg jh H S d lk ts lv av ho as kvs ls)(g:b∈lv){av':Nat->jo}{ho':Nat->Nat}(B:∀ c,c≠b->av' c=av c)(C:∀ c,c≠b->ho' c=ho c)(F:∃ u,H' (as.getD b .d).x=some (.ins jh u (UP (.ref (as.getD b .d).th) (.ref (as.getD b .d).tg) (as.getD b .d).ab (ho' b))))(E:H' (as.getD b .d).ab=some (.lst (iN (av' b))))(k:∀ c o,c≠(as.getD b .d).x->c≠(as.getD b .d).ab->H c=some o->H' c=some o):Z7 jg jh H' S d lk ts lv av' ho' as kvs ls:=by
 obtain⟨⟨t,r⟩,n,s⟩:=R.sh;have h:=R.tw b g;obtain⟨v,a⟩:=h.tw.self;have f:=h.tw.above;obtain⟨L,q,y,A⟩:=h.things;have m:YK H H':=λc U e=>k c _ (ZD e a) (ZD e f) e;refine⟨⟨⟨t,k _ _ (R.own b g).1.symm (ZD r f) r⟩,k _ _ (ZD n a) (ZD n f) n,k _ _ (ZD s a) (R.own b g).2.1.symm s⟩,R.keys,R.val,R.lt,R.len,λi l=>?_,R.own,R.two⟩;by_cases z:i=b
 ·subst z;exact⟨⟨F,E⟩,⟨L,k _ _ (ZD q a) (R.own i l).2.2.2.symm q,λz=>(y z).mono m _ _,A⟩,h.tag.mono m⟩
 ·have j:=R.tw i l;obtain⟨J,K,P,Q⟩:=R.two i b l g z;obtain⟨M,N,I,O⟩:=R.two b i g l (Ne.symm z);obtain⟨w,p⟩:=j.tw.self;obtain⟨T,D,_⟩:=j.things;have G:=j.frame m (λo e=>k _ _ J (ZD p f) e) (λo e=>k _ _ (ZD D a) I.symm e) (λo e=>k _ _ (ZD j.tw.above a) K e);refine⟨?_,G.things,G.tag⟩;rw[B i z,C i z];exact G.tw
end
def Pw(a:Nat->Nat)(b:Nat):Nat->Nat:=λi=>if i=b then a i+1 else a i
inductive Vb(jg jh:aj)(n:je)(H:Hp)(Q:VK)(_:XK):Prop
 |mk(S d k:aj)(m:jq)(h:jo)(i:Nat->jo)(j:Nat->Nat)(g:jx)(a:List (ZR×V))(l:je)(b:Nat)(_:n=[.ref S,.int (b:Nat)])(_:Z7 jg jh H S d k m h i j g a l)(_:b∈h)(_:∀ e:Hp,(∀ c o,c≠(g.getD b .d).x->H c=some o->e c=some o)->Z7 jg jh e S d k m h i (Pw j b) g a l->Q .non e)
def QC:ZA zE3 zEa (Zc Kr):=Zz
def ZMH(F:Zj K "hold" "Shelf.hold" Kr f fd)(L:Yg K mg jg jh)(u:ZE P w K mg jV ZZ 1 jg "twig_of" zEa (Zo jg)):ZI P w K mg jV ZZ 2 f fd zEa (Vb jg jh):=by
 refine F.ko QC λy A q s H T Q E C h=>?_;obtain⟨S,d,D,M,O,v,i,g,p,G,b,rfl,R,l,k⟩:=h;have J:=QC.nd;intro N;refine⟨_,ZQ (Zw 2 J (Y3 (E:=E0) (pv 0) L.cS u C Yu (ZX (pv 1))))
  (ZU (KK (pv 2) ZN ZNt)),?_⟩
 obtain⟨z,B⟩:=R.sh.self;have t:=R.tw b l;obtain⟨j,m⟩:=t.tw.self;have a:=t.tw.above;exists _,rfl,S,z,_,rfl,B,rfl,_,rfl,S,d,D,M.length,p,G,(b:Int),.ref (g.getD b .d).x,rfl,R.sh,R.val b l;exists _,rfl,(g.getD b .d).x,jh,j,_,.int (i b:Nat),rfl,m,L.cT,L.nho,rfl,_,_,rfl,rfl,j,_,m,yP rfl;have r:(g.getD b .d).ab≠(g.getD b .d).x:=ZD a m;refine k _ (λc o n e=>by rw[ZM n];exact e) (R.set1 l (av':=v) (ho':=Pw i b) (λ_ _=>rfl) (λc n=>aM n) ⟨j,?_⟩ ?_ λc o I _ e=>by rw[ZM I];exact e)
 ·rw[ZK,show Pw i b b=i b+1 from aO rfl];rfl
 ·rw[ZM r];exact a
inductive X0(gt:jp)(n:Nat)(jg jh:aj)(v:je)(H:Hp)(Q:VK)(_:XK):Prop
 |mk(S d s:aj)(g:jq)(e:jo)(r:Nat->jo)(k:Nat->Nat)(p:jx)(q:List (ZR×V))(t:je)(u:List (Nat×Nat))(i:Nat)(_:v=[.ref S,.int (i:Nat)])(_:Z7 jg jh H S d s g e r k p q t)(_:WF gt g)(_:Dg g e r k u (· = i))(_:i∈e)(_:(gd g i).h<=n)(_:∀(m:Hp)(a:jo)(j:Nat->jo)(l:List (ZR×V)),(∀ c o,c≠d->(∀ b:Nat,b∈e->c≠(p.getD b .d).ab)->H c=some o->m c=some o)->Z7 jg jh m S d s g a j k p l t->Dg g a j k u (λ_=>False)->a.Sublist e->(∀ b∈e,0<k b->b∈a)->Q .non m)
def Uj:ZA ["self","number","twig","branch"] zEa (Zc Nq):=Zz
def Eg{gt:jp}{n:Nat}(F:Zj K "drop_unheld" "Shelf.drop_unheld" Nq f fd)(L:Yg K mg jg jh)(DH:ZE P w K mg jV ZZ 2 jg "holders" zEa (XA jg jh λ_ v us=>.int ((us.length:Nat)+(v:Nat):Int)))(DT:ZE P w K mg jV ZZ 1 jg "twig_of" zEa (Zo jg))(DS:ZB P w K mg jV 1 "is_stem" ["twig"] (Xv jh))(DR:ZE P w K mg jV ZZ (n+3) jg "drop_unheld" zEa (λvs H Q E=>∃ m,m<n/\X0 gt m jg jh vs H Q E)):ZI P w K mg jV ZZ (n+4) f fd zEa (X0 gt n jg jh):=by
 refine F.ko Uj λi0 A e4 s H vs Q E hr h=>?_;obtain⟨S,d,lk,r,J,T,v,l,y,ls,pd,i,rfl,R,hw,G,N,hn,k⟩:=h;have nd:=Uj.nd;have a4:=hr.mono (show 1<=n+3 by lia)
 have c9:=hr.mono (show 2<=n+3 by lia)
 intro Xc;refine⟨_,ZQ (Zv (YJ QH (Y3 (E:=E0) (pv 0) L.cS DH c9 Yu (ZX (pv 1))) ZN (Z3 _)) (ZU Dy) Z1)
  (ZQ (Zw 2 nd (Mv (X8 (pv 0) rfl) (pv 1) ⟨rfl,rfl,rfl,rfl⟩))
  (ZU (Zv (Ye (Zp DS a4 (ZX (pv 2))))
   (ZU (VV PassesOwn.never rfl (WZ (X8 (pv 2) rfl)) (Yb 3 nd)
    (ZQ (Xe (Vh yM PySem.F.slot_list_remove PySem.F.type_list_remove DZ (X8 (Y3 (E:=E0) (pv 0) L.cS DT a4 Yu (ZX (pv 3))) rfl) (ZX (pv 1))))
    (ZU (Xe (Y3 (E:=E0) (pv 0) L.cS DR hr Yu (ZX (pv 3)))))))) Z1))),?_⟩
 obtain⟨dx,hS⟩:=R.sh.self;have W:=R.tw i N;obtain⟨dt,hx⟩:=W.tw.self;have lI:(iN (T i)).length=(T i).length:=zX _;exists _,rfl,S,dx,_,rfl,hS,rfl,_,rfl,S,d,lk,r.length,y,ls,(i:Int),_,_,_,_,_,_,rfl,⟨R.sh,R.val i N,W.tw⟩;exists _,_,rfl,rfl,_,rfl;refine WV (λc=>?_) (λc=>?_)
 ·have hc:1<=(T i).length+v i:=by
   have:=of_decide_eq_true c;rw[lI] at this
   lia
  refine k H J T y (λc o _ _ e=>e) R ⟨G.vl,G.srt,G.mem,G.pl,λb C _=>?_⟩ (wC.refl _) λb C _=>C;by_cases z:b=i
  ·rw[z];exact hc
  ·exact G.live b C z
 ·have hc:(T i).length+v i=0:=by
   have:¬ ((0:Int)<((iN (T i)).length:Nat)+(v i:Nat)):=λz=>c (aK z);rw[lI] at this
   lia
  have ea:T i=[]:=vS ∅
  have h0:v i=0:=∅
  have Y:=R.sh.kept;have a3:=R.lt i N;have ok:=hw i _ (Xw a3);exists _,rfl,S,jg,dx,_,.ref d,rfl,hS,L.cS,L.nk,rfl,d,rfl,.inl ⟨y,Rd.of Y⟩,_,rfl,y,.inl (i:Int),.ref (l.getD i .d).x,Y,rfl,R.val i N;have U:∀ b o,b≠d->H b=some o->upd H d (.dK (WE y (.inl (i:Int)))) b=some o:=λb o n e=>by rw[ZM n];exact e
  have R1:=R.gone (i:=i) G.vl.up;obtain⟨us,M,i2,e7⟩:=W.things;obtain⟨q,k0,k1,eq,a7,_,_⟩:=W.tag;cases eq;have c2:∀ b∈(gd r i).bs,b<i:=λb C=>by
   by_cases z:(gd r i).h=0
   ·rw[(ok.leaf z).1] at C;cases C
   ·exact((ok.stem z).2.2.1 b C).1
  have G1:=G.start N ea c2;have pi:∀ x∈pd,x.2≠i:=λx hx z=>(G.pl x hx).2.2.1 (by rw[z];exact N)
  have O:∀ b∈J,0<v b->b∈J.erase i:=λb C hp=>(NM G.vl.up).mpr ⟨λz=>(by rw[z,h0] at hp;cases hp),C⟩
  generalize upd H d (.dK (WE y (.inl (i:Int))))=H1 at U R1⊢;have a5:=U _ _ (ZD hx Y) hx;have a9:=U _ _ (ZD W.tw.above Y) W.tw.above;have e6:=U _ _ (ZD a7 Y) a7;exists _,rfl,(l.getD i .d).x,.ref (l.getD i .d).th,_,(l.getD i .d).ab,v i,_,_,_,rfl,⟨⟨dt,a5⟩,a9⟩,e6,_,rfl;by_cases hz:(gd r i).h=0
  ·have eb:=(ok.leaf hz).1;rw[eb] at G1;rw[aJ (show ¬ (Yh (gd r i)).h > 0 by show ¬ ((gd r i).h:Int) > 0;lia)]
   refine Zl (k H1 _ _ _ (λc o n _ e=>U c o n e) R1 G1 uN O)
  ·rw[aK (show (Yh (gd r i)).h > 0 by show ((gd r i).h:Int) > 0;lia)]
   have ew:=e7 hz;subst ew;have e2:=Hw hw a3 hz;obtain⟨b2,b4,bh,_⟩:=ok.stem hz;have e8:=U _ _ (ZD M Y) M;refine Z8 ⟨_,rfl,(l.getD i .d).x,jh,dt,_,.ref (l.getD i .d).th,rfl,a5,L.cT,L.nth,rfl,_,rfl,⟨_,ZH.of e8⟩,?_⟩;have a8:∀ b:Nat,b∈J->(l.getD i .d).th≠(l.getD b .d).ab:=λb C=>by
    by_cases z:b=i
    ·rw[z];exact(R.own i N).2.2.2.symm
    ·exact(R.two b i C N z).2.2.1.symm
   refine Ql (K:=K) (a:=(l.getD i .d).th) (xs:=iN (gd r i).bs) (λj σ I=>∃(x3:jf)(t:jo)(g:Nat->jo)(p:List (ZR×V)),σ=[some (.ref S),some (.int (i:Nat)),some (.ref (l.getD i .d).x),x3]/\(∀ c o,c≠d->(∀ b:Nat,b∈J->c≠(l.getD b .d).ab)->H c=some o->I c=some o)/\Z7 jg jh I S d lk r t g v l p ls/\Dg r t g v (((gd r i).bs.drop j).map (λb=>(b,i))++pd) (λ_=>False)/\t.Sublist (J.erase i)/\∀ b∈J,0<v b->b∈t)
    ⟨_,_,_,_,rfl,λc o n _ e=>U c o n e,R1,G1,wC.refl _,O⟩ ?_ ?_ ?_
   ·rintro j σ I _ ⟨x3,t,g,p,rfl,B,_⟩;exact ZH.of (B _ _ (ZD M Y) a8 M)
   ·rintro j u σ I Z ⟨x3,t,g,p,rfl,B,R2,G2,D,a1⟩;unfold iN at Z;rw[zJ] at Z;obtain⟨b,eb,rfl⟩:=yG.mp Z;obtain⟨jl,ej⟩:=yJ.mp eb;have ed:(gd r i).bs.drop j=b::(gd r i).bs.drop (j+1):=by rw[<-ej];exact wK jl
    rw[ed] at G2;have e3:(b::(gd r i).bs.drop (j+1)).Nodup:=by rw[<-ed];exact e2.sublist (List.drop_sublist _ _)
    obtain⟨bl,ib,G3⟩:=G2.cut e3 pi;obtain⟨c3,c6⟩:=R2.sh.self;have Wb:=R2.tw b bl;obtain⟨db,a0⟩:=Wb.tw.self;have X:=Wb.tw.above;have eI:iN (g b)=((g b).map λn:Nat=>(n:Int)).map V.int:=by rw[zL];rfl
    have eE:((g b).map λn:Nat=>(n:Int)).erase (i:Int)=((g b).erase i).map λn:Nat=>(n:Int):=FS _ _;exists _,rfl,S,c3,_,rfl,c6,rfl,_,rfl,S,d,lk,r.length,p,ls,(b:Int),.ref (l.getD b .d).x,rfl,R2.sh,R2.val b bl,(l.getD b .d).x,jh,db,_,.ref (l.getD b .d).ab,rfl,a0,L.cT,L.nab,rfl,.inl ⟨rfl,_,ZH.of X⟩,_,rfl,(l.getD b .d).ab,(g b).map (λn:Nat=>(n:Int)),(i:Int),rfl,rfl,by rw[<-eI];exact X,zM.mpr ⟨i,ib,rfl⟩
    rw[eE];have e9:(l.getD b .d).x≠(l.getD b .d).ab:=ZD a0 X;have R3:=R2.set1 (H':=upd I (l.getD b .d).ab (.lst ((((g b).erase i).map λn:Nat=>(n:Int)).map V.int))) bl (av':=OI g b i) (ho':=v) (λc n=>aM n) (λ_ _=>rfl) ⟨db,by rw[ZM e9];exact a0⟩ (by rw[ZK,show OI g b i b=(g b).erase i from aO rfl,zL];rfl) λc o _ n2 e=>by rw[ZM n2];exact e
    have c1:b∈J:=rZ (D.subset bl);have a2:∀ c o,c≠d->(∀ b:Nat,b∈J->c≠(l.getD b .d).ab)->H c=some o->upd I (l.getD b .d).ab (.lst ((((g b).erase i).map λn:Nat=>(n:Int)).map V.int)) c=some o:=λc o n1 n2 e=>by rw[ZM (n2 b c1)];exact B c o n1 n2 e
    generalize upd I (l.getD b .d).ab (.lst ((((g b).erase i).map λn:Nat=>(n:Int)).map V.int))=H3 at R3 a2⊢;obtain⟨c4,c7⟩:=R3.sh.self;have i1:=bh b (zA eb);exists _,rfl,S,c4,_,rfl,c7,rfl,_,rfl,(gd r b).h,∅,S,d,lk,r,t,_,v,l,p,ls,_,b,rfl,R3,hw,G3,bl,zY _
    intro H4 e1 c0 a6 c5 R4 G4 e5 e0;exact⟨_,e1,c0,a6,rfl,λc o n1 n2 e=>c5 c o n1 (λc' c8=>n2 c' (rZ (D.subset c8))) (a2 c o n1 n2 e),R4,G4,e5.trans D,λc hc hp=>e0 c (a1 c hc hp) hp⟩
   ·rintro σ I ⟨x3,t,g,p,rfl,B,R2,G2,D,a1⟩;rw[show (iN (gd r i).bs).length=(gd r i).bs.length from zX _,List.drop_of_length_le (zY _)] at G2;exact k I t g p B R2 G2 (D.trans uN) a1
def HR{gt:jp}(a:Zr K jg "drop_unheld" "Shelf.drop_unheld" Nq zEa)(L:Yg K mg jg jh)(j:ZE P w K mg jV ZZ 2 jg "holders" zEa (XA jg jh λ_ b A=>.int ((A.length:Nat)+(b:Nat):Int)))(o:ZE P w K mg jV ZZ 1 jg "twig_of" zEa (Zo jg))(l:ZB P w K mg jV 1 "is_stem" ["twig"] (Xv jh)):∀ n:Nat,ZE P w K mg jV ZZ (n+3) jg "drop_unheld" zEa (λg H Q E=>∃ m,m<n/\X0 gt m jg jh g H Q E)
 | 0=>a.of λ_ _ _=>K0 λg H Q E h=>by obtain⟨m,s,_⟩:=h;lia
 | n+1=>a.of λ_ _ F=>(Eg F L j o l (HR a L j o l n)).imp λg H Q E h=>by
  obtain⟨m,s,S,d,u,z,x,q,b,p,c,v,y,i,e,R,t,G,r,B,k⟩:=h;exact⟨S,d,u,z,x,q,b,p,c,v,y,i,e,R,t,G,r,∅,k⟩
def Xh.dg{gt:jp}{f g:aj}{H:Hp}{S d o:aj}{l:jq}{k:jo}{i:Nat->jo}{e:Nat->Nat}{m:jx}{h:List (ZR×V)}{p:je}{b:Nat}(U:Xh gt f g H S d o l k i e m h p):Dg l k i (Ws e b) [] (· = b):=by
 refine⟨U.vl,λc a=>?_,λc a j=>?_,λx n=>(by cases n),λc a z=>?_⟩
 ·rw[U.av c a];exact U.vl.up.sublist tJ
 ·rw[U.av c a];unfold abv;rw[xU,decide_eq_true_iff];exact⟨λz=>⟨U.vl.lt j z.1,z.2,.inl z.1⟩,λz=>⟨z.2.2.elim id (λy=>by cases y),z.2.1⟩⟩
 ·rw[U.av c a,show Ws e b c=e c from aM z];exact U.live c a
inductive Ya(gt:jp)(jg jh CH:aj)(t:je)(H:Hp)(Q:VK)(E:XK):Prop
 |mk(S d p:aj)(r:jq)(i:jo)(s:Nat->jo)(g:Nat->Nat)(k:jx)(n:List (ZR×V))(q:je)(b:Nat)(_:t=[.ref S,.int (b:Nat)])(_:Xh gt jg jh H S d p r i s g k n q)(_:gt.length=64)(_:gt.Pairwise (λa b=>a.lt b=true))(_:b∈i)(_:g b=0->UF CH (b:Nat) E H)(_:0<g b->∀(l:Hp)(e:jo)(m:Nat->jo)(h:List (ZR×V)),(∀ c o,c≠d->c≠(k.getD b .d).x->(∀ j:Nat,j∈i->c≠(k.getD j .d).ab)->H c=some o->l c=some o)->Xh gt jg jh l S d p r e m (Ws g b) k h q->e.Sublist i->(∀ c∈i,0<Ws g b c->c∈e)->Q .non l)
def Vv:ZA zE3 zEa (Zc Kq):=Zz
def BS{gt:jp}(F:Zj K "let_go" "Shelf.let_go" Kq f fd)(L:Yg K mg jg jh)(DC:ZE P w K mg jV (Z9 P w) 3 jg "check_held" zEh (YN jg jh CH))(DT:ZE P w K mg jV ZZ 1 jg "twig_of" zEa (Zo jg))(DD:ZE P w K mg jV ZZ 67 jg "drop_unheld" zEa (λvs H Q E=>∃ m,m<64/\X0 gt m jg jh vs H Q E)):
  ZI P w K mg jV (Z9 P w) 68 f fd zEa (Ya gt jg jh CH):=by
 refine F.kD Vv λa5 A a2 s H vs Q E V h=>?_;obtain⟨S,d,lk,D,lv,I,j,i,p,ls,b,rfl,U,lg,up,r,k1,k2⟩:=h;have nd:=Vv.nd;have W:=V.mono (show 1<=67 by lia)
 have X:=V.mono (show 3<=67 by lia)
 intro Xc;refine⟨_,ZQ (Xe (Y3 (E:=E) (pv 0) L.cS DC X (PR U8 λ_ _ _ h=>h) (ZX (XR (ZX (pv 1))))))
  (ZQ (Zw 2 nd (Y3 (E:=E0) (pv 0) L.cS DT W Yu (ZX (pv 1))))
  (ZQ (KK (pv 2) ZN Gj)
  (ZU (Xe (Y3 (E:=E0) (pv 0) L.cS DD V Yu (ZX (pv 1))))))),?_⟩
 obtain⟨dx,hS⟩:=U.sh.sh.self;exists _,rfl,S,dx,_,rfl,hS,rfl,_,rfl,YC;intro l nl;have g:=Za nl (.lst [.int (b:Nat)]);have hl:=ZK (H:=H) (a:=l) (o:=.lst [.int (b:Nat)]);generalize upd H l (.lst [.int (b:Nat)])=H1 at g hl⊢;have R1:=U.sh.same g;refine⟨S,d,lk,l,D,lv,I,j,i,p,ls,[b],rfl,R1,hl,λc k=>by rw[zC.mp k];exact r,λc k=>?_,λk C s2=>?_⟩
 ·have h1:=zC.mp (rN k);have h2:=List.find?_some k;subst h1;exact(k1 (of_decide_eq_true h2)).mono g
 have hp:0<j b:=by
  have:=vK.mp k b zF;simp at this
  lia
 have z:=g.trans s2;have R2:=U.sh.same z;obtain⟨M,R⟩:=R2.sh.self;have Wb:=R2.tw b r;obtain⟨q,Y⟩:=Wb.tw.self;have u:=Wb.tw.above;exists _,rfl,S,M,_,rfl,R,rfl,_,rfl,S,d,lk,D.length,p,ls,(b:Int),.ref (i.getD b .d).x,rfl,R2.sh,R2.val b r;exists _,rfl,(i.getD b .d).x,jh,q,_,.int (j b:Nat),rfl,Y,L.cT,L.nho,rfl,_,_,rfl,rfl,q,_,Y,yP rfl;have a4:(i.getD b .d).ab≠(i.getD b .d).x:=ZD u Y;have eh:((j b:Nat):Int)-1=((j b-1:Nat):Int):=∅
 have G:=R2.set1 (H':=upd C (i.getD b .d).x (.ins jh q (Yr "holds" (.int (((j b:Nat):Int)-1)) (UP (.ref (i.getD b .d).th) (.ref (i.getD b .d).tg) (i.getD b .d).ab (j b))))) r (av':=I) (ho':=Ws j b) (λ_ _=>rfl) (λc n=>aM n) ⟨q,by
  rw[ZK,show Ws j b b=j b-1 from aO rfl,eh];rfl⟩ (by rw[ZM a4];exact u) λc o n1 _ e=>by rw[ZM n1];exact e
 have t:∀ c o,c≠(i.getD b .d).x->C c=some o->upd C (i.getD b .d).x (.ins jh q (Yr "holds" (.int (((j b:Nat):Int)-1)) (UP (.ref (i.getD b .d).th) (.ref (i.getD b .d).tg) (i.getD b .d).ab (j b)))) c=some o:=λc o n e=>by rw[ZM n];exact e
 generalize upd C (i.getD b .d).x (.ins jh q (Yr "holds" (.int (((j b:Nat):Int)-1)) (UP (.ref (i.getD b .d).th) (.ref (i.getD b .d).tg) (i.getD b .d).ab (j b))))=H3 at G t⊢;obtain⟨N,T⟩:=G.sh.self;have v:=U.sh.lt b r;have a6:=KR U.wf _ b (yE _) v;have a0:=(U.wf b _ (Xw v)).len up;rw[lg] at a0;exists _,rfl,S,N,_,rfl,T,rfl,_,rfl,(gd D b).h,∅,S,d,lk,D,lv,I,_,i,p,ls,[],b,rfl,G,U.wf,U.dg,r,zY _
 intro H4 a1 J y O R4 B a3 Z;refine k2 hp H4 a1 J y (λc o n1 n2 n3 e=>O c o n1 n3 (t c o n2 (z c o e))) ⟨R4,U.wf,B.vl,λc k=>B.abv k,λc k=>?_,U.l800⟩ a3 Z;rw[<-B.abv k];exact B.live c k id
end Tw
namespace L2
open PySem PySem.Spec PyProof.Rows
section
variable{jU:js}{σ:St}{H:Hp}
def Ar:HO->Prop
 | .dK _=>True
 | .frz _ (.dK _)=>True
 | _=>False
def ZF.re{d:aj}{v u:HO}(I:ZF X jU σ H s)(e:H d=some v)(h:Ar v)(B:∀ o x,X.H₀ d≠some (.frz o x))(g:Zb X.prog X.w H s.heap d u):ZF X jU σ (upd H d u) s:=by
 have f:∀{b:aj},H b=none->b≠d:=fun{b} q z=>by rw[z,e] at q;cases q
 have C:∀{b y:aj},H b=some (.own y)->b≠d:=fun{b y} q z=>by rw[z,e] at q;cases q;exact h
 have j:∀{b:aj}{a:je},H b=some (.tup a)->b≠d:=fun{b a} q z=>by rw[z,e] at q;cases q;exact h
 have A:∀{b:aj}{a:jw},H b=some (.tbl a)->b≠d:=fun{b a} q z=>by rw[z,e] at q;cases q;exact h
 refine⟨I.ok,I.os,I.bare,⟨I.base.keep,I.base.slot,λb o q n t=>?_,I.base.there,λb a q=>?_,λb o x q=>?_,λb D q=>?_⟩,I.loc,I.cell,?_,λx c q=>?_,λp r=>?_,λb o q=>?_,I.len⟩
 ·have z:=I.base.free b o q n t;rw[ZM (f z)];exact z
 ·have z:=I.base.tups b a q;rw[ZM (j z)];exact z
 ·have z:=I.base.frzs b o x q;rw[ZM (show b≠d from λy=>B o x (y ▸ q))];exact z
 ·obtain⟨m,z⟩:=I.base.tbls b D q;exact⟨m,by rw[ZM (A z)];exact z⟩
 ·rw[ZM (f I.free)];exact I.free
 ·rw[ZM (f (I.freeC x c q))];exact I.freeC x c q
 ·obtain⟨E,l,F⟩:=I.pin p r;exact⟨E,by rw[ZM (f l)];exact l,F⟩
 ·have k:∀{b o},Zb X.prog X.w H s.heap b o->Zb X.prog X.w (upd H d u) s.heap b o:=λx=>x.stay (λ_ _ _ q=>q) (λc q=>by rw[ZM (C q)];exact q) λc a q=>by rw[ZM (j q)];exact q
  by_cases i:b=d
  ·subst i;rw[ZK] at q;cases q;exact k g
  ·rw[ZM i] at q;exact k (I.hok b o q)
def ZF.nofrz{d:aj}{a:List (ZR×V)}(I:ZF X jU σ H s)(e:H d=some (.dK a)):∀ o x,X.H₀ d≠some (.frz o x):=λo x q=>by
 have:=I.base.frzs d o x q;rw[e] at this;cases this
inductive NA(t:TS)(D:Yt)(σ:L2.St)(H:Hp):Prop
 |mk(d a:_)(_:H d=some (.dK a))(_:t ⟨λb c=>∃ o u,c d=some (.frz o (.dK u))/\D.nx b (upd c d (.dK u)),λ_ _=>False,λ_ _=>False,λ_ _=>False⟩ σ H)
def CI{g:aB}{t:TS}(h:PS X g t):PS X g (NA t):=by
 rintro jU s σ H D I ⟨d,i,e,q⟩;refine Zt (h jU s σ H _ I q) λf m z=>?_;have j:=I.nofrz e
 cases f with
 | next=>
  obtain⟨a,l,b,o,u,c,k⟩:=z;exact⟨a,_,b.re c trivial j (b.hok d _ c).2,k⟩
 | brk=>obtain⟨_,_,_,z⟩:=z;exact z.elim
 | cont=>obtain⟨_,_,_,z⟩:=z;exact z.elim
 | ret u=>obtain⟨_,_,_,_,_,z⟩:=z;exact z.elim
def GR(d:aj)(o:aH)(a:List (ZR×V)):It:=
 ⟨λi H=>H d=some (.frz o (.dK a))/\i<a.length,λi H x b=>b=H/\∃ p,a[i]? = some p/\x=kV p.1,λi H=>H d=some (.frz o (.dK a))/\a.length<=i⟩
def GT{a:Type}:∀{c:List (a×V)}{d:List (a×ai)}{i:Nat}{p:a×V},KV c d->c[i]? = some p->∃ u,d[i]? = some (p.1,u)
 | _,_,_,_,.nil,e=>by simp at e
 | _,_,0,p,.cons (b:=b) r _,e=>by simp at e;subst e;exact⟨b.2,by rw[r.1];rfl⟩
 | _,_,i+1,p,.cons _ t,e=>by
  obtain⟨u,h⟩:=GT (i:=i) (p:=p) t (by simpa using e)
  exact⟨u,by simpa using h⟩
def EX{k:ZR}{v:ai}(h:PJ k v=true):ZS (kV k) v:=by
 rcases Ub h with ⟨i,t,rfl,rfl⟩ | ⟨x,t,rfl,rfl⟩
 ·exact⟨t,rfl⟩
 ·exact⟨t,rfl⟩
def Jm{P:al}{w:ar}{h:aC}{d:aj}{o:aH}{a:List (ZR×V)}{j:Array DictEntry}{i:Nat}(k:o.data=.dict j i)(x:Zb P w H h d (.frz o (.dK a))):∃ b,KV a b/\h.DictAt (VD P w) d b i:=by
 obtain⟨e,_,_,b,r,n,m,l,g,c,f,q⟩:=x;rw[e] at g;cases g;rw[k] at f;cases f;exact⟨b,r,o,j,e,c,k,q⟩
def K8{c:Type}{a:List (c×V)}{b:List (c×ai)}(h:KV a b):a.length=b.length:=Paired.length h
def BO{P:al}{w:ar}{K:zZ}{tg:Expr}{d:aj}{o:aH}{j:List (ZR×V)}{U:Array DictEntry}{N:Nat}(Q:o.data=.dict U N)(g:aj):VH P w K tg (GR d o j) [g] g (λi h=>h.IsKeyIter g d i j.length N) where
 mem:=by simp
 obj:=λi h a b f=>by
  have e:b=g:=by simpa using f
  subst e;obtain⟨o,e,c,d⟩:=a;exact⟨o,e,λv z=>by rw[d] at z;cases z⟩
 keep:=λi h m a k=>a.at λo e=>k g (by simp) o e
 item:=by
  intro X F L D O i jU s σ H E I n a G;subst F L D;obtain⟨J,q⟩:=G;obtain⟨vs,r,t⟩:=Jm Q (I.hok d _ J);obtain⟨p,R⟩:∃ p,j[i]? = some p:=⟨_,zU q⟩;obtain⟨u,hu⟩:=GT r R;obtain⟨x,y,Y,A,B,C⟩:=n g (by simp)
  rw[K8 r] at a⊢;refine wpAny_pyNext_dict_item a t hu λM m Z l sb=>?_;have S:ZF X jU σ H { s with heap:=m }:=I.turned (t':=s.toks) (λb o f e=>(sb.2 b f).trans e) x y A B C;exact⟨M,rfl,letGo_keyiter (s':={ s with heap:=m }) l ⟨_,H,S,EX Z,⟨rfl,p,R,rfl⟩,l,λb f=>(n b f).1⟩⟩
 done:=by
  intro X F L D O i jU s σ H E I n a G;subst F L D;obtain⟨J,q⟩:=G;obtain⟨vs,r,t⟩:=Jm Q (I.hok d _ J);obtain⟨x,y,Y,A,B,C⟩:=n g (by simp)
  rw[K8 r] at a q;exact wpAny_pyNext_dict_end (I.ok.hd O) a t (List.getElem?_eq_none_iff.mpr q) λm T=>⟨rfl,I.turned (t':=s.toks) (λb o f e=>T b o f e) x y A B C⟩
 self:=λ_ _ _ _ _ a h=>wpAny_pyIter_keyiter a h
inductive PQ(R:It->Hp->Prop)(x:V)(b:Hp):Prop
 |mk(d a:_)(_:x=.ref d)(_:b d=some (.dK a))(_:∀ o,R (GR d o a) (upd b d (.frz o (.dK a))))
def Ew(b:TE):TI:=λσ H R=>b σ H λx a=>PQ R x a
def BW{C l:Expr}{m:TE}(z:PE X l m):PI X C l (Ew m):=by
 intro jU s σ H R I h;refine YD (z jU s σ H _ I h) λv a x F f B A=>?_;obtain⟨d,j,rfl,e,q⟩:=A;cases B;obtain⟨G,E,D,r,o,t,p,g,c,k,rest⟩:=id (f.hok d _ e);have n:a.heap.DictAt (VD X.prog X.w) d D p:=⟨o,t,g,c,k,rest⟩;refine wpAny_pyIter_dict E n ?_;rw[<-K8 r];have i:=f.re (u:=.frz o (.dK j)) e trivial (f.nofrz e) ⟨g,f.hok d _ e⟩;refine⟨a.heap.objs.size,[a.heap.objs.size],_,_,_,rfl,i.kept (t':=a.toks) λb o e=>zS _ e,BO k _,⟨_,yW _ rfl,rfl,rfl⟩,λb y=>?_,q o⟩;have e:b=a.heap.objs.size:=by simpa using y
 subst e;exact i.fpOk (zY _) (i.hok.fresh (zY _))
end
end L2
namespace Tw
open PySem PySem.Spec L2 PyProof.Rows
variable{jg jh CS CT CH CK CP CB:aj}
def UO(b a:jo):jo:=b.filter λi=>decide (i∉a)
def IO(b:jo):UO b []=b:=List.filter_eq_self.mpr λa _=>aK (vZ)
def EH{c a:jo}{b:Nat}(d:b∈c)(f:b∉a):(UO c (a++[b])).length<(UO c a).length:=by
 have e:UO c (a++[b])=(UO c a).filter λi=>decide (i≠b):=by
  unfold UO;rw[List.filter_filter];refine tP λi _=>?_;rw[<-Bool.decide_and,decide_eq_decide];simp;exact And.comm
 rw[e,List.length_filter_lt_length_iff_exists];exact⟨b,xU.mpr ⟨d,aK f⟩,by simp⟩
def We(a b:jo)(n:Nat):jo:=(a.take n).filter (λi=>decide (i∈b))++a.drop n
def IE(a b:jo)(n:Nat):(We a b n).Sublist a:=by
 have:=wC.append_right (l:=a.drop n) (tJ (p:=λi=>decide (i∈b)) (l:=a.take n))
 rwa [sV] at this
def ZNr{a c:jo}{n b:Nat}(e:a[n]? = some b):b∈We a c n:=by
 obtain⟨h,rfl⟩:=yJ.mp e;exact yN _ (by rw[wK h];exact zF)
def AI{c a:jo}{n b:Nat}(e:c[n]? = some b)(d:b∈a):We c a (n+1)=We c a n:=by
 obtain⟨h,rfl⟩:=yJ.mp e;unfold We;rw[qV h,vL,wK h,List.append_assoc];simp[d]
def Ex{a c:jo}{n b:Nat}(f:a.Pairwise (· < ·))(e:a[n]? = some b)(d:b∉c):We a c (n+1)=(We a c n).erase b:=by
 obtain⟨h,rfl⟩:=yJ.mp e;unfold We;rw[qV h,vL,wK h,List.erase_append_right (l₁:=(a.take n).filter λi=>decide (i∈c)) _ (λz=>d (by simpa using (xU.mp z).2)),List.erase_cons_head]
 simp[d]
def Fs{a b:jo}(d:a.Pairwise (· < ·))(e:b.Pairwise (· < ·))(h:∀ i,i∈a ↔ i∈b):a=b:=
 List.Perm.eq_of_pairwise (le:=(· < ·)) (λa c _ _ f g=>absurd f (Nat.lt_asymm g)) d e ((rH (Q1 d) (Q1 e)).mpr h)
def Fw{g:jq}{e d f:jo}{l:Nat->Nat}(w:Lv g e)(k:Lv g d)(o:d.Sublist e)(v:∀ c∈e,0<l c->c∈d)(m:∀ i∈d,VF g (λj=>j∈d/\0<l j) i)(p:∀ i∈f,VF g (λj=>j∈e/\0<l j) i)(q:∀ c∈e,0<l c->c∈f)(s:∀ i∈f,∀ b∈(gd g i).bs,b∈f):We e f e.length=d:=by
 refine Fs (w.up.sublist (IE _ _ _)) k.up λi=>?_;unfold We;rw[List.drop_length,wX,List.take_length,xU,decide_eq_true_iff];constructor
 ·rintro⟨_,h⟩;exact(p i h).sub k λj n=>v j n.1 n.2
 ·intro h;exists o.subset h;have r:=m i h;clear h
  induction r with
  | held a=>exact q _ (o.subset a.1) a.2
  | step _ t u=>exact s _ u _ t
def Wr(a:jo):List (ZR×V):=a.map λb:Nat=>((Sum.inl (b:Int):ZR),V.bl true)
def KD{c:jo}{b:Nat}(h:b∉c):Z5 (Wr c) (Sum.inl (b:Int))=none:=by
 cases z:Z5 (Wr c) (Sum.inl (b:Int)) with
 | none=>rfl
 | some v=>
  have:=Oy z;unfold Wr at this;rw[zL] at this;obtain⟨i,d,a⟩:=zM.mp this;have a:((i:Nat):Int)=(b:Nat):=Sum.inl.inj a;exact absurd (by rw[<-Int.ofNat.inj a];exact d) h
def HD{a:jo}{b:Nat}(h:b∈a):(Z5 (Wr a) (Sum.inl (b:Int))).isSome=true:=by
 cases z:Z5 (Wr a) (Sum.inl (b:Int)) with
 | some v=>rfl
 | none=>
  refine absurd ?_ (EG z);unfold Wr;rw[zL];exact zM.mpr ⟨b,h,rfl⟩
def Aq{a:jo}{b:Nat}(h:b∉a):Z2 (Wr a) (Sum.inl (b:Int)) (.bl true)=Wr (a++[b]):=by
 unfold Z2;rw[Qz,KD h];show _=Wr (a++[b]);unfold Wr;rw[yR];rfl
structure QV(ts:jq)(lv:jo)(ho:Nat->Nat)(todo fs:jo):Prop where
 t:∀ i∈todo,VF ts (λj=>j∈lv/\0<ho j) i
 f:∀ i∈fs,VF ts (λj=>j∈lv/\0<ho j) i
 h:∀ c∈lv,0<ho c->c∈fs\/c∈todo
 c:∀ i∈fs,∀ b∈(gd ts i).bs,b∈fs\/b∈todo
 n:fs.length+(UO lv fs).length<=lv.length
 m:todo.length+5 * (UO lv fs).length<=6 * lv.length
section
variable{ts:jq}{lv:jo}{ho:Nat->Nat}{todo fs r:jo}{b:Nat}
def QV.start:QV ts lv ho (lv.filter λj=>decide (0<ho j)) []:=by
 exists λi f=>.held ?_,λ_ h=>(by cases h),λc e z=>.inr (xU.mpr ⟨e,aK z⟩),λ_ h=>(by cases h),?_
 ·obtain⟨a,d⟩:=xU.mp f;exact⟨a,of_decide_eq_true d⟩
 ·rw[IO];simp
 ·rw[IO];have:=vD (λj=>decide (0<ho j)) lv
  lia
def QV.old(s:QV ts lv ho (r++[b]) fs)(e:b∈fs):QV ts lv ho r fs:=by
 have m:∀{i},i∈r++[b]->i∈fs\/i∈r:=fun{i} h=>by
  rcases yY.mp h with h | h
  ·exact .inr h
  ·rw[zC.mp h];exact .inl e
 exists λi d=>s.t i (xW _ d),s.f,λc a z=>(s.h c a z).elim .inl m,λi d c a=>(s.c i d c a).elim .inl m,s.n;have:=s.m;rw[zE] at this;exact zI (Nat.add_le_add_right (tV _ _) _) this
def QV.new(s:QV ts lv ho (r++[b]) fs)(j:b∉fs)(k:b∈lv)(l:(gd ts b).bs.length<=4):QV ts lv ho (r++(gd ts b).bs) (fs++[b])/\(r++(gd ts b).bs).length+5 * (UO lv (fs++[b])).length<(r++[b]).length+5 * (UO lv fs).length:=by
 have o:=EH k j;have g:=s.t b (yN _ zF);have m:∀{i},i∈r++[b]->i∈fs++[b]\/i∈r++(gd ts b).bs:=fun{i} h=>by
  rcases yY.mp h with h | h
  ·exact .inr (xW _ h)
  ·exact .inl (yN _ h)
 have e:(r++(gd ts b).bs).length+5 * (UO lv (fs++[b])).length<(r++[b]).length+5 * (UO lv fs).length:=by
  rw[zE,zE,xI]
  lia
 refine⟨⟨λi d=>?_,λi d=>?_,λc a z=>(s.h c a z).elim (λy=>.inl (xW _ y)) m,λi d c a=>?_,?_,zI (xX e) s.m⟩,e⟩
 ·rcases yY.mp d with h | h
  ·exact s.t i (xW _ h)
  ·exact .step g h
 ·rcases yY.mp d with h | h
  ·exact s.f i h
  ·rw[zC.mp h];exact g
 ·rcases yY.mp d with h | h
  ·exact(s.c i h c a).elim (λy=>.inl (xW _ y)) m
  ·rw[zC.mp h] at a;exact .inr (yN _ a)
 ·have:=s.n;rw[zE,xI]
  lia
end
abbrev kN(l:jo):jE:=l.map λi:Nat=>(Sum.inl (i:Int):ZR)
inductive Xg(gt:jp)(q:je)(H:Hp)(Q:VK)(_:XK):Prop
 |mk(e d:aj)(l:jq)(k a:jo)(bs:ju)(p g:List (ZR×V))(n:Nat->Nat)(_:q=[.ref e,.ref d])(_:XW H e l k bs p)(_:WF gt l)(_:H d=some (.dK g))(_:VZ g k n)(_:e≠d)(_:k.length<64)(_:Lv l a)(_:a.Sublist k)(_:∀ c∈k,0<n c->c∈a)(_:∀ i∈a,VF l (λj=>j∈a/\0<n j) i)(_:∀(m:Hp)(h b:List (ZR×V)),(∀ c o,c≠e->c≠d->H c=some o->m c=some o)->XW m e l a bs h->m d=some (.dK b)->VZ b a n->Q .non m)
abbrev AB:jr:=["_law_twigs","_law_holds","_law_todo","_law_found","_law_here","_law_number"]
def Vw:ZA AB zEq (Zc LF):=Zz
inductive Ip(H:Hp)(dT dH fa:aj)(ts:jq)(lv:jo)(ho:Nat->Nat):Nat->L2.St->Hp->Prop
 |mk{ta:aj}{todo fs:jo}{k4:jf}{H':Hp}:ZC H H'->H ta=none->H' ta=some (.lst (iN todo))->H' fa=some (.dK (Wr fs))->QV ts lv ho todo fs->Ip H dT dH fa ts lv ho (todo.length+5 * (UO lv fs).length) [some (.ref dT),some (.ref dH),some (.ref ta),some (.ref fa),k4,none] H'
inductive JY(H:Hp)(dT dH ta fa:aj)(k4:jf)(kvs hvs:List (ZR×V))(lv fs:jo):Nat->L2.St->Hp->Prop
 |mk{i:Nat}{k5:jf}{H':Hp}{kt kh:List (ZR×V)}:(∀ c o,c≠dT->c≠dH->H c=some o->H' c=some o)->H' dT=some (.dK kt)->H' dH=some (.dK kh)->kt.map (·.1)=kN (We lv fs i)->kh.map (·.1)=kN (We lv fs i)->(∀ j∈We lv fs i,Z5 kt (Sum.inl (j:Int))=Z5 kvs (Sum.inl (j:Int)))->(∀ j∈We lv fs i,Z5 kh (Sum.inl (j:Int))=Z5 hvs (Sum.inl (j:Int))) ->
  JY H dT dH ta fa k4 kvs hvs lv fs i [some (.ref dT),some (.ref dH),some (.ref ta),some (.ref fa),k4,k5] H'
def ZLW{a:jq}{gt:jp}(d:WF gt a){i:Nat}(c:i<a.length):(gd a i).bs.length<=4:=by
 by_cases b:(gd a i).h=0
 ·rw[((d i _ (Xw c)).leaf b).1];exact yX _
 ·exact((d i _ (Xw c)).stem b).2.1
def AO{gt:jp}(F:Zj K "_law_swept" "_law_swept" LF f fd)(T:YO mg):ZI P w K mg jV ZZ 2 f fd zEq (Xg gt):=by
 refine F.ko Vw λi4 A i3 s H vs Q E hr h=>?_;obtain⟨g,dH,ts,B,e7,bs,d,c8,ho,rfl,r,hw,S,hH,dd,c9,c5,sl,kp,c6,k⟩:=h;have nd:=Vw.nd;have hu:=Wj hr;intro Xc;refine⟨_,ZQ (CI (OR (i:=2) [1] ["_law_holds"] nd rfl rfl rfl (BW (pv 0)) (λ_ _ _ _ _=>NN (YJ QH (WP hu (pv 1) (pv 0)) ZN (Z3 _))) (λ_ _ _ _ _=>pv 0) ⟨rfl,.inl rfl,rfl,trivial⟩))
  (ZQ (Zw 3 nd NJ)
  (ZQ (NC PassesOwn.never (YJ (Ib hr.units0) (pv 2) (XR Zs) (Z3 _))
   (ZQ (Zw 4 nd (NG yM rQ rP IG (pv 2)))
   (ZU (Zv (Qm (NQ hu (pv 4) (pv 3)))
    (ZQ (QT hu (pv 3) (pv 4) UQ rfl)
    (ZU (Zv (YJ WW (Zk K (WP hu (pv 0) (pv 4)) ZN) Ym (Z3 _))
     (ZU (Zw 2 nd (Zu OB (pv 2) (VO Q6 rfl T.list Uo (ZX (Zk K (WP hu (pv 0) (pv 4)) ZN)))))) Z1))) Z1))))
  (ZU (VV PassesOwn.never rfl (WZ (Zm (QL rfl) rfl T.sorted UW (ZX (pv 0)))) (Yb 5 nd)
   (ZU (Zv (Qm (NQ hu (pv 5) (pv 3))) (ZQ (Xe (Mv (pv 0) (pv 5) ⟨rfl,rfl,rfl,rfl⟩)) (ZU (Xe (Mv (pv 1) (pv 5) ⟨rfl,rfl,rfl,rfl⟩)))) Z1)))))),?_⟩
 have lk:d.length=B.length:=by have:=congrArg xY r.keys;simpa using this
 exists g,d,r.dict,_,rfl,g,d,rfl,r.dict;intro o;have hf:upd H g (.frz o (.dK d)) g=some (.frz o (.dK d)):=ZK;have hn:∀ c u,c≠g->H c=some u->upd H g (.frz o (.dK d)) c=some u:=λc u n e=>by rw[ZM n];exact e
 have hb:∀ c,upd H g (.frz o (.dK d)) c=none->H c=none:=λc e=>by
  by_cases z:c=g
  ·rw[z,ZK] at e;cases e
  ·rwa [ZM z] at e
 generalize upd H g (.frz o (.dK d))=H1 at hf hn hb⊢;refine MF B (λj=>decide (0<ho j)) ∅ (λi Z C hi=>⟨C _ _ hf,∅⟩) (λi Z x H4 C hi hy=>⟨hy.1,?_⟩) (λZ C=>⟨C _ _ hf,∅⟩) (λN j R hj s2 hR=>?_) (λD5 N s2 nD e5=>?_)
 ·obtain⟨p,ep,rfl⟩:=hy.2;have:=congrArg (λl=>l[i]?) r.keys;simp only[zJ,ep] at this;obtain⟨b,e1,e2⟩:=yG.mp this.symm;have e2:(Sum.inl (b:Int):ZR)=p.1:=e2;rw[zJ,e1,<-e2];rfl
 ·have hg:Zi N dH (.int (j:Nat)) (some (.int (ho j:Nat))):=hH.2 j hj ▸ Zi.k (k:=Sum.inl (j:Int)) (s2 _ _ (hn _ _ dd.symm S));have ed:decide (((ho j:Nat):Int) > 0)=decide (0<ho j):=by rw[decide_eq_decide];lia
  exists _,rfl,_,rfl,dH,.int (ho j:Nat),rfl,hg,_,_,rfl,rfl,_,rfl;rw[ed];exact hR
 have n5:=hb _ nD;have d5:D5≠g:=λz=>by rw[z,hf] at nD;cases nD
 exists o,d,s2 _ _ hf;have C:ZC H (upd N g (.dK d)):=λc u e=>by
  by_cases z:c=g
  ·rw[z,ZK,<-r.dict,<-z];exact e
  ·rw[ZM z];exact s2 _ _ (hn _ _ z e)
 have e6:upd N g (.dK d) D5=some (.lst (iN (B.filter λj=>decide (0<ho j)))):=by rw[ZM d5];exact e5
 generalize upd N g (.dK d)=Z at C e6⊢;clear hf hn hb s2 nD e5 d5;intro G a1;have D:=ZC.free C a1;exists Ip H g dH G ts B ho,⟨_,.mk (C.trans (Za a1 _)) n5 (Za a1 _ _ _ e6) ZK .start⟩;clear e6 C a1 n5;rintro m σ H1 ⟨s1,a5,a4,c1,I⟩;rename_i Y a2 J k4
 exists _,rfl,YC;intro e0 c0;have g0:=Za c0 (.lst []);exists Y,e0,iN a2,rfl,rfl,ZH.of (g0 _ _ a4),ZH.of ZK,_,rfl;have M:=g0 _ _ a4;have L:=g0 _ _ c1;have s2:=s1.trans g0;generalize upd H1 e0 (.lst [])=N at M L s2⊢;clear g0 c0 a4 c1 s1;rcases uF a2 with z | ⟨rest,b,z⟩
 ·subst z;refine Zl ?_;have eI:(B.map λi:Nat=>(i:Int)).map V.int=iN B:=by rw[zL];rfl
  exists _,rfl,g,d,B.map λi:Nat=>(i:Int),rfl,s2 _ _ r.dict,(by rw[r.keys,zL];rfl),US r.vl.up,by simpa using c9
  intro q nq;rw[eI];have g1:=Za nq (.lst (iN B));have hq:upd N q (.lst (iN B)) q=some (.lst (iN B)):=ZK;have C:=s2.trans g1;have v:=g1 _ _ L;generalize upd N q (.lst (iN B))=Z at g1 hq C v⊢;have a7:=C _ _ r.dict;have a6:=C _ _ S;have i2:q≠g:=ZD hq a7;have i1:q≠dH:=ZD hq a6;have e9:G≠g:=λz=>by rw[z,r.dict] at D;cases D
  have e8:G≠dH:=λz=>by rw[z,S] at D;cases D
  refine⟨q,rfl,⟨_,ZH.of hq⟩,Ql (K:=K) (a:=q) (xs:=iN B) (JY Z g dH Y G k4 d c8 B J) (.mk (λ_ _ _ _ e=>e) a7 a6 r.keys hH.1 (λ_ _=>rfl) λ_ _=>rfl) (λi σ H4 _ hP=>by obtain⟨fr,_⟩:=hP;exact ZH.of (fr _ _ i2 i1 hq)) ?_ ?_⟩
  ·rintro i u σ H4 c3 ⟨fr,eT,eH,k1,k2,v1,v2⟩;rename_i k5 kt kh
   rw[zJ] at c3;obtain⟨n,en,rfl⟩:=yG.mp c3;exists _,rfl,_,rfl,G,_,rfl,Zi.k (k:=Sum.inl (n:Int)) (fr _ _ e9 e8 v),_,rfl;by_cases a0:n∈J
   ·rw[HD a0];have ec:=AI en a0;exact Zl (.mk fr eT eH (ec ▸ k1) (ec ▸ k2) (ec ▸ v1) (ec ▸ v2))
   ·rw[KD a0];have ec:=Ex r.vl.up en a0;have c2:n∈We B J i:=ZNr en;have cu:(We B J i).Pairwise (· < ·):=r.vl.up.sublist (IE _ _ _);obtain⟨tp,us,x1,_⟩:=r.tw n (zA en);have x2:=hH.2 n (zA en);have me:∀{j:Nat},j∈We B J (i+1)->j∈We B J i/\(Sum.inl (j:Int):ZR)≠Sum.inl (n:Int):=fun{j} h=>by
     rw[ec] at h;obtain⟨h1,h2⟩:=(NM cu).mp h;exact⟨h2,λz=>h1 (by have:=Sum.inl.inj z;lia)⟩
    refine Z8 ⟨_,rfl,g,rfl,.inl ⟨kt,Rd.of eT⟩,_,rfl,kt,Sum.inl (n:Int),_,eT,rfl,(v1 n c2).trans x1,?_⟩;have a8:upd H4 g (.dK (WE kt (Sum.inl (n:Int)))) dH=some (.dK kh):=by rw[ZM dd.symm];exact eH
    exists _,rfl,dH,rfl,.inl ⟨kh,Rd.of a8⟩,_,rfl,kh,Sum.inl (n:Int),_,a8,rfl,(v2 n c2).trans x2;refine .mk (λc o n1 n2 e=>by rw[ZM n2,ZM n1];exact fr c o n1 n2 e) (by rw[ZM dd,ZK]) ZK ?_ ?_ (λj hj=>?_) λj hj=>?_
    ·rw[ec];exact JF (Q1 cu) k1
    ·rw[ec];exact JF (Q1 cu) k2
    ·rw[LH (me hj).2];exact v1 j (me hj).1
    ·rw[LH (me hj).2];exact v2 j (me hj).1
  ·rintro σ H4 ⟨fr,eT,eH,k1,k2,v1,v2⟩;rename_i k5 kt kh
   have el:(iN B).length=B.length:=zX _;have ec:We B J (iN B).length=e7:=by
    rw[el];exact Fw r.vl c5 sl kp c6 I.f (λc hc z=>(I.h c hc z).elim id λy=>(by cases y)) λi hi b hb=>(I.c i hi b hb).elim id λy=>(by cases y)
   rw[ec] at k1 k2 v1 v2;have a3:∀ c o,c≠g->c≠dH->H c=some o->H4 c=some o:=λc o n1 n2 e=>fr c o n1 n2 (C c o e);have tu:YK H H4:=λc xs e=>a3 c _ (ZD e r.dict) (ZD e S) e;refine k H4 kt kh a3 ⟨eT,c5,k1,r.len,λi hi=>?_⟩ eH ⟨k2,λi hi=>(v2 i hi).trans (hH.2 i (sl.subset hi))⟩;obtain⟨tp,us,e1,e2,e3,e4,e5⟩:=r.tw i (sl.subset hi);exact⟨tp,us,(v1 i hi).trans e1,tu _ _ e2,a3 _ _ (ZD e3 r.dict) (ZD e3 S) e3,λz=>(e4 z).mono tu _ _,e5⟩
 ·rw[uG] at z;subst z;have c7:(!(iN (rest++[b])).isEmpty)=true:=by simp[iN]
  rw[c7];refine Z8 ⟨_,λ_ _ z=>z,?_⟩;have rb:=I.t b (by simp)
  have bl:b∈B:=rb.sub r.vl λi h=>h.1;have eI:iN (rest++[b])=iN rest++[.int (b:Nat)]:=by simp[iN]
  exists _,rfl,.inl ⟨rfl,_,ZH.of M⟩,Y,iN (rest++[b]),.int (b:Nat),rfl,rfl,M,by rw[eI];simp
  have c4:G≠Y:=ZD L M;have W:upd N Y (.lst (iN (rest++[b])).dropLast) Y=some (.lst (iN rest)):=by rw[ZK,eI,List.dropLast_concat]
  have v:upd N Y (.lst (iN (rest++[b])).dropLast) G=some (.dK (Wr J)):=by rw[ZM c4];exact L
  have C:ZC H (upd N Y (.lst (iN (rest++[b])).dropLast)):=UK s2 a5;generalize upd N Y (.lst (iN (rest++[b])).dropLast)=Z at W v C⊢;exists _,rfl,_,rfl,G,_,rfl,Zi.k (k:=Sum.inl (b:Int)) v,_,rfl;by_cases O:b∈J
  ·rw[HD O];exact Zl ⟨_,by rw[zE];exact Nat.add_lt_add_right (yE _) _,.mk C a5 W v (I.old O)⟩
  ·rw[KD O];have lf:=I.n;have lm:=I.m;have lr:(rest++[b]).length=rest.length+1:=zE;refine Z8 ⟨_,rfl,_,rfl,G,_,rfl,XI.k (k:=Sum.inl (b:Int)) v (YQ (by unfold Wr;rw[zX];lia)),?_⟩
   rw[Aq O];have X:upd Z G (.dK (Wr (J++[b]))) Y=some (.lst (iN rest)):=by rw[ZM c4.symm];exact W
   have U:upd Z G (.dK (Wr (J++[b]))) G=some (.dK (Wr (J++[b]))):=ZK;have s4:ZC H (upd Z G (.dK (Wr (J++[b])))):=UK C D;generalize upd Z G (.dK (Wr (J++[b])))=H4 at X U s4⊢;obtain⟨tp,us,e1,e2,e3,e4,e5⟩:=(r.same s4).tw b bl;have g1:Zi H4 g (.int (b:Nat)) (some (.ref tp)):=e1 ▸ Zi.k (k:=Sum.inl (b:Int)) (s4 _ _ r.dict);have bt:=r.vl.lt b bl;obtain⟨I2,mm⟩:=I.new O bl (ZLW hw bt);refine⟨_,rfl,_,rfl,g,.ref tp,rfl,g1,.inr (.inl ⟨tp,_,0,_,rfl,rfl,Zd.of e2,rfl,?_⟩)⟩;exists rfl,_,rfl;by_cases h0:(gd ts b).h=0
   ·have ek:decide (V.str (kindOf (gd ts b))=V.str "stem")=false:=aJ (by unfold kindOf;rw[aO h0];decide)
    rw[ek];rw[((hw b _ (Xw bt)).leaf h0).1,wX] at I2 mm;exact Zl ⟨_,mm,.mk s4 a5 X U I2⟩
   ·have ek:decide (V.str (kindOf (gd ts b))=V.str "stem")=true:=aK (by unfold kindOf;rw[aM h0])
    rw[ek];have ew:=e5 h0;subst ew;have i5:=I2.m;refine Z8 ⟨_,rfl,_,rfl,_,rfl,g,.ref tp,rfl,g1,.inr (.inl ⟨tp,_,1,_,rfl,rfl,Zd.of e2,rfl,_,_,rfl,.inl (ZH.of e3),λq1 n1=>?_⟩)⟩;have g4:=Za n1 (.lst (iN (gd ts b).bs));exists Y,q1,iN rest,_,rfl,rfl,g4 _ _ X,ZK,xX (YQ (by rw[zX,zX,<-zE];lia))
    intro q2 n2;have g5:=Za n2 (.lst (iN rest++iN (gd ts b).bs));have a9:=g4.trans g5;have i0:=ZC.free (s4.trans g4) n2;exact⟨_,mm,.mk (s4.trans a9) i0 (by rw[ZK,<-yR]) (a9 _ _ U) I2⟩
def BK{c:List (ZR×V)}{d:jo}{b:Nat}{a:Nat->Nat}(h:VZ c d a)(e:b∈d):VZ (Z2 c (.inl (b:Int)) (.int (((a b:Nat):Int)+1))) d (Pw a b):=by
 exists by rw[HE (h.2 b e)];exact h.1
 intro i f;rw[OF];by_cases z:i=b
 ·subst z;rw[aO rfl,show Pw a i i=a i+1 from aO rfl];rfl
 ·rw[aM (λy=>z (Yo.mp y)),show Pw a b i=a i from aM z];exact h.2 i f
inductive Wd(gt:jp)(jg jh:aj)(g:je)(H:Hp)(Q:VK)(_:XK):Prop
 |mk(p e:aj)(a:Pl)(m:Md)(_:g=[.ref p,.ref e])(_:ZL H p)(_:H e=some (.tup (Xd a)))(_:LS gt jg jh H a m)(_:WT a m p)(_:0<m.lv.length)(_:∀(b:Hp)(d:Md),(∀ c o,c≠p->Ze a m c->H c=some o->b c=some o)->LS gt jg jh b a d->d.ts=m.ts->d.lv.Sublist m.lv->Q (.bl true) b)
abbrev AG:jr:=["_law_well_here","_law_state","_law_shelf","_law_twigs","_law_holds","_law_grid_here","_law_told","_law_number"]
def V1:ZA AG zEb (Zc Ke):=Zz
def Bv{gt:jp}(F:Zj K "_law_hold" "_law_hold" Ke f fd)(T:YO mg)(L:Yg K mg jg jh)(DK:ZB P w K mg jV 2 "_law_picked" zEg YA)(DM:ZE P w K mg jV ZZ 2 jg "hold" zEa (Vb jg jh)):
  ZI P w K mg jV ZZ 3 f fd zEb (Wd gt jg jh):=by
 refine F.ko V1 λa5 A a3 s H vs Q E hr h=>?_;obtain⟨p,st,a,m,rfl,W,a1,l,O,l0,k⟩:=h;have D:=V1.nd;have hu:=Wj hr;intro Xc;refine⟨_,ZQ (Qt (pv 1) (Q7 rfl (Y7 (Yb 2 D) (Y7 (Yb 3 D) (Y7 (Yb 4 D) (Y7 (Yb 5 D) (Y7 (Yb 6 D) Q4)))))))
  (ZQ (Zw 7 D (Zp DK hr (Zg (pv 0) (Zm (QL rfl) rfl T.sorted UW (ZX (pv 3))))))
  (ZQ (QT hu (pv 4) (pv 7) (Zu WI (WP hu (pv 4) (pv 7)) ZN) rfl)
  (ZU (Zn (GQ (ML (Y3 (E:=E0) (pv 2) L.cS DM hr Yu (ZX (pv 7))))))))),?_⟩
 obtain⟨a6,J⟩:=W.some;obtain⟨a4,Lw⟩:=l.lw;have a2:=l.l64;have eL:(m.lv.map λi:Nat=>(i:Int)).map V.int=iN m.lv:=by rw[zL];rfl
 exists _,rfl,st,_,rfl,Zd.of a1,rfl,_,_,rfl,_,_,rfl,_,_,rfl,_,_,rfl,_,_,rfl,rfl;exists _,rfl,_,rfl,a.dT,a4,m.lv.map λi:Nat=>(i:Int),rfl,Lw.dict,(by rw[Lw.keys,zL];rfl),US Lw.vl.up,by simpa using a2
 intro q nq;rw[eL];have g1:=Za nq (.lst (iN m.lv));have hq:upd H q (.lst (iN m.lv)) q=some (.lst (iN m.lv)):=ZK;generalize upd H q (.lst (iN m.lv))=H1 at g1 hq⊢;exists p,q,iN m.lv,rfl,W.same g1,(ZY J nq).symm,hq,by rw[zX];exact l0,by rw[zX];lia
 intro x t x2 W2 hx;obtain⟨b,I,rfl⟩:=zM.mp hx;have xx:ZJ p H t:=(ZJ.of g1).trans x2;have B:=l.sx O J xx;obtain⟨N,ls,U,R⟩:=B.sh;obtain⟨YY,u⟩:=B.lw;obtain⟨j,g,hH⟩:=B.hd;obtain⟨gs,G⟩:=B.gr;have lh:j.length=m.lv.length:=by have:=congrArg xY hH.1;simpa using this
 have hg:Zi t a.dH (.int (b:Nat)) (some (.int (m.ho b:Nat))):=hH.2 b I ▸ Zi.k (k:=Sum.inl (b:Int)) g;exists _,rfl,_,rfl,a.dH,.int (m.ho b:Nat),rfl,hg,_,_,rfl,rfl,_,rfl,_,rfl,a.dH,_,rfl,XI.k (k:=Sum.inl (b:Int)) g (YQ ∅)
 have X:=OS (o':=.dK (Z2 j (.inl (b:Int)) (.int (((m.ho b:Nat):Int)+1)))) U.sh g l.dd.2.1.symm;have Y:∀ c o,c≠a.dH->t c=some o->upd t a.dH (.dK (Z2 j (.inl (b:Int)) (.int (((m.ho b:Nat):Int)+1)))) c=some o:=λc o n e=>by rw[ZM n];exact e
 have y:upd t a.dH (.dK (Z2 j (.inl (b:Int)) (.int (((m.ho b:Nat):Int)+1)))) a.dH=some (.dK (Z2 j (.inl (b:Int)) (.int (((m.ho b:Nat):Int)+1)))):=ZK;generalize upd t a.dH (.dK (Z2 j (.inl (b:Int)) (.int (((m.ho b:Nat):Int)+1))))=H3 at X Y y⊢;obtain⟨dS,hS⟩:=X.sh.self;obtain⟨dx,M⟩:=(X.tw b I).tw.self;exists _,rfl,a.S,dS,_,rfl,hS,rfl,_,rfl,a.S,a.d,a.lk,m.ts,m.lv,m.av,m.ho,a.as,N,ls,b,rfl,X,I;intro Z fr R4;have r:∀ c o,c≠a.dH->(∀ C dx fs,o≠.ins C dx fs)->t c=some o->Z c=some o:=λc o n ni e=>fr _ _ (ZD (Y c o n e) M (ni _ _ _)) (Y c o n e);have tu:YK t Z:=λc ys e=>r c _ (ZD e g) (by intro _ _ _ z;cases z) e
 have a0:=fr _ _ (ZD y M) y;refine k Z ⟨m.ts,m.lv,m.av,Pw m.ho b⟩ (λc o np v e=>fr _ _ (v.2.2.2.2.2.2 b I).1 (Y c o v.2.2.2.2.1 (xx _ _ e np))) ⟨⟨N,ls,⟨R4,U.wf,U.vl,U.av,λi hi=>zI (U.live i hi) (Nat.add_le_add_left ?_ _),U.l800⟩,R⟩,⟨YY,u.frame tu (r _ _ l.dd.2.2 (by intro _ _ _ z;cases z) u.dict) λi hi o e=>?_⟩,⟨_,a0,BK hH I⟩,⟨gs,G.frame tu (r _ _ (ZD G.at_ g) (by intro _ _ _ z;cases z) G.at_)⟩,r _ _ (ZD B.told g) (by intro _ _ _ z;cases z) B.told,l.dd,l.tt,l.t2,l.t3,l.l64,l.l700⟩ rfl (wC.refl _)
 ·show m.ho i<=(if i=b then m.ho i+1 else m.ho i)
  split <;> lia
 ·obtain⟨tp,us,_,_,e3,_⟩:=u.tw i hi;have:=e.symm.trans e3;cases this;exact r _ _ (ZD e g) (by intro _ _ _ z;cases z) e
abbrev qS:Str:=("_law_put_stem" ++ ".<locals>.") ++ "<lambda>"
abbrev cl2(n:Nat):jC:=[((("_law_shelf" : String):Str),n+4),((("_law_handed" : String):Str),n+3)]
def QM(j:Nat):Arguments×Expr×Scope:=match (XM VM)[j]? with
 | some (.Assign _ (.Call _ [.Lambda a b c _] _ _) _)=>(a,b,c)
 | _=>(⟨[],[],none,[],[],none,[]⟩,.Name "" ⟨0,0,0,0⟩,(Zc VM))
def GJ{f g:aj}{H l:Hp}{S d r T:aj}{u:jq}{t:jo}{n:Nat->jo}{p:Nat->Nat}{m:jx}{h:List (ZR×V)}{s:je}{q:Str}(R:Z7 f g H S d r u t n p m h s)(k:ZP H T q)(a:∀ b o,b≠T->H b=some o->l b=some o):Z7 f g l S d r u t n p m h s:=by
 obtain⟨C,c,_⟩:=id k;obtain⟨⟨A,v⟩,w,x⟩:=id R.sh;refine R.frame (λb E e=>a _ _ (ZD e c) e) (λo e=>a _ _ (ZD v c) e) (λo e=>a _ _ (ZD w c) e) (λo e=>a _ _ (ZD x c) e) λi j=>?_;obtain⟨B,z⟩:=(R.tw i j).tw.self;obtain⟨D,y,_⟩:=(R.tw i j).things;exact⟨λo e=>a _ _ (ZD z c) e,λo e=>a _ _ (ZD y c) e,λo e=>a _ _ (ZD (R.tw i j).tw.above c) e⟩
def Eu{gt:jp}{o q m f c':aj}{co:aH}{pm ctv:ai}{n:Nat}(i:Xr co qS)(L:Yg K mg jg jh)(t:ZE P w K mg jV (Z9 P w) 10 jg "put_stem" zEh (Z6 gt jg jh o q m)):
  ZI P w K mg jV (Z9 P w) 70 f (sL "<lambda>" qS (QM 6).1 (QM 6).2.1 (QM 6).2.2 (cl2 n) pm (.ref c') ctv) []
   (JD f c' (wV "<lambda>" qS (QM 6).1 (QM 6).2.1 (QM 6).2.2 (cl2 n) pm c' ctv) co (cl2 n) zE5 (Z6 gt jg jh o q m)):=by
 have T:(("_law_shelf" : String):Str)≠(("_law_handed" : String):Str):=by decide
 refine IW (k:=69) (λx y c v B=>?_) (λx h=>?_) (λx c h=>?_) (by decide +kernel) rfl rfl rfl (by decide +kernel) i λA j s H X Q E D h=>?_
 ·have a:=PySem.mem_of_lookup v;have b:=PySem.mem_of_lookup B;simp only[yZ,vZ,or_false,Prod.mk.injEq] at a b;rcases a with ⟨a,e⟩ | ⟨a,e⟩ <;> rcases b with ⟨b,g⟩ | ⟨b,g⟩
  ·rw[a,b]
  ·exact absurd (e.symm.trans g) (xT (yE (n+3)))
  ·exact absurd (g.symm.trans e) (xT (yE (n+3)))
  ·rw[a,b]
 ·have r:∀ p∈(QM 6).2.2.names,(p.2=.cell\/p.2=.free)->p.1=(("_law_handed" : String):Str)\/p.1=(("_law_shelf" : String):Str):=by decide +kernel
  have:x=(("_law_handed" : String):Str)\/x=(("_law_shelf" : String):Str):=by
   rcases h with h | h
   ·exact r _ (PySem.mem_of_lookup h) (.inl rfl)
   ·exact r _ (PySem.mem_of_lookup h) (.inr rfl)
  rcases this with z | z
  ·exact⟨n+3,by rw[z];rfl⟩
  ·exact⟨n+4,by rw[z];rfl⟩
 ·have a:=PySem.mem_of_lookup h;exact zM.mpr ⟨_,a,rfl⟩
 ·obtain⟨S,d,M,l,V,O,I,J,G,F,N,U,rfl,R,_⟩:=id h;obtain⟨u,C⟩:=R.sh.self;exact⟨_,Y3 (E:=E) (pv 0) L.cS t (D.mono ∅) (PR (E1:=E) Ga λ_ _ _ h=>h) (ZX (pv 1)),_,rfl,S,u,_,rfl,C,rfl,_,rfl,h⟩
def MY{gt:jp}{CB:aj}{C:Nat->aj}{n:Nat}{σ:L2.St}{H2:Hp}{Q:VK}{T hd S d lk:aj}{ts:jq}{lv:jo}{av:Nat->jo}{ho:Nat->Nat}{as:jx}{kvs:List (ZR×V)}{ls:je}{ns:jz}{NX:jr}{j0 j1:Nat}{f3 f4:aj}(L:Yg K mg jg jh)(X2:XC K CB C 2)(X3:XC K CB C 3)(X4:XC K CB C 4)(F3:Yd K (C 3) f3 "number")(F4:Yd K (C 4) f4 "number")(DM:ZE P w K mg jV (Z9 P w) 10 jg "put_stem" zEh (Z6 gt jg jh (C 2) (C 3) (C 4)))(tab:ZP H2 T qS)(hj:NX[j0]? = some (("_law_handed" : String):Str))(hσ:σ[j0]? = some (some (.ref hd)))(hj1:NX[j1]? = some (("_law_shelf" : String):Str))(hσ1:σ[j1]? = some (some (.ref S)))(hhd:H2 hd=some (.lst (ns.map V.int)))(R:Z7 jg jh H2 S d lk ts lv av ho as kvs ls)(hw:WF gt ts)(t800:lv.length<=800)(a800:∀ b,b∈lv->(av b).length<=800)(h100:ns.length<=100)(k1:∀ x,ns.find? (λx=>!YS lv x)=some x->∀ (h:Hp) (t:aj),(∀ b o,b≠T->H2 b=some o->h b=some o)->ZP h T qS->h t=some (.tup [.str "twig",.int x])->Q (.ref t) h)(k2:∀ bs:jo,ns=bs.map (λb:Nat=>(b:Int))->(∀ b∈bs,b∈lv) ->
   (over (YW ts bs)=none->∀ (h:Hp) (t:aj),(∀ b o,b≠T->H2 b=some o->h b=some o)->ZP h T qS->h t=some (.tup [.str "stem"])->Q (.ref t) h) /\
   (over (YW ts bs)≠none->∀ b,bs.find? (λb=>decide (ho b=0))=some b->∀ (h:Hp) (t:aj),(∀ b o,b≠T->H2 b=some o->h b=some o)->ZP h T qS->h t=some (.tup [.str "held",.int (b:Nat)])->Q (.ref t) h) /\
   (over (YW ts bs)≠none->bs.find? (λb=>decide (ho b=0))=none->∀ (h:Hp) (t:aj) (a:YB),H2 a.x=none->H2 a.th=none->H2 a.ab=none ->
    (∀ c o,c≠S->c≠d->c≠T->(∀ b:Nat,b∈lv->c≠(as.getD b .d).x/\c≠(as.getD b .d).ab)->H2 c=some o->h c=some o)->ZP h T qS ->
    Z7 jg jh h S d lk (ts++[Xm ts bs]) (lv++[ts.length]) (Vg bs ts.length (Xk ts.length av)) (WG bs (Y8 ts.length ho)) (as++[a]) (Z2 kvs (.inl (ts.length:Int)) (.ref a.x)) ls->h t=some (.tup [.str "told",.int (ts.length:Nat)])->Q (.ref t) h)):
  Kx (YM P w K mg jV CB C) (cl2 n) zE5 NX (Y9 (Lq T (QM 6).1 (QM 6).2.1 (QM 6).2.2 qS (cl2 n)) VP) σ H2 Q:=by
 exists tab;intro I f c' co pm a1 a6 hf a5 N u c3;refine⟨[.ref S,.ref hd],rfl,λi x v U H=>?_,λY eU c1 E CA=>?_⟩
 ·have i2:=(yJ.mp H).1
  match i,i2,U,H with
  | 0,_,U,H=>cases U;cases H;exact⟨j1,hj1,hσ1⟩
  | 1,_,U,H=>cases U;cases H;exact⟨j0,hj,hσ⟩
  | i+2,i2,_,_=>exact absurd (show i+2<2 from i2) ∅
 have k:∀ c∈(cl2 n).map (·.2),∃ o,Y c=some (Yj c o):=λc hc=>by
  obtain⟨o,v,e,_⟩:=CA.all c hc;exact⟨o,e⟩
 obtain⟨ps,hT,_⟩:=id tab;obtain⟨c4,a3,_⟩:=id u;have W:=N _ _ (ZD hhd hT) hhd;have Z:=GJ R tab N;have l:∀ b,I b=none->H2 b=none:=λb e=>by
  cases z:H2 b with
  | none=>rfl
  | some o=>
   by_cases y:b=T
   ·rw[y,a3] at e;cases e
   ·rw[N _ _ y z] at e;cases e
 exists f,_,_,_,rfl,Eu (n:=n) (f:=f) (c':=c') (co:=co) (pm:=pm) (ctv:=a1) a6 L DM,λs=>.of_eq rfl,E _ _ hf;intro Q' E' hQ hE;exists rfl,E _ _ hf,E _ _ a5,[.ref S,.ref hd],CA;rw[eU];have q:∀(j h:Hp),ZC I j->(∀ c∈(cl2 n).map (·.2),j c=none)->ZC (reT ((cl2 n).map (·.2)) Y j) h->(∀ b o,b≠T->H2 b=some o->unT ((cl2 n).map (·.2)) h b=some o)/\ZP (unT ((cl2 n).map (·.2)) h) T qS:=by
  intro j h B m p;have bk:ZC j (unT ((cl2 n).map (·.2)) h):=λb o e=>Ng m p e;exact⟨λb o nb e=>bk _ _ (B _ _ (N b o nb e)),u.ext (YL.same (B.trans bk))⟩
 have A:∀(j:Hp)(b:aj)(o:HO),(∀ c∈(cl2 n).map (·.2),j c=none)->j b=some o->reT ((cl2 n).map (·.2)) Y j b=some o:=λj b o m e=>by
  have:b∉(cl2 n).map (·.2):=λz=>by rw[m b z] at e;cases e
  unfold reT;rw[aM this];exact e
 refine⟨S,d,lk,hd,ts,lv,av,ho,as,kvs,ls,ns,rfl,Z,hw,t800,a800,W,h100,λx hx G j B D m=>?_,λbs eb hb=>?_⟩
 ·refine hE _ _ _ ⟨3,∅,rfl,X3,.inr ⟨∅,G,x,f3,rfl,A _ _ _ m D,F3,λh t p F=>?_⟩⟩
  obtain⟨J,M⟩:=q j h B m p;exact⟨Pp k p,k1 x hx _ t J M (OJ k p F)⟩
 ·obtain⟨q1,q2,q3⟩:=k2 bs eb hb;refine⟨λr j B m=>?_,λr b a4 G j B D m=>?_,λr a8 j a nx c0 a9 O R' m=>hQ _ _ λt F=>?_⟩
  ·refine hE _ _ _ ⟨2,∅,rfl,X2,.inl ⟨∅,λh t p F=>?_⟩⟩
   obtain⟨J,M⟩:=q j h B m p;exact⟨Pp k p,q1 r _ t J M (OJ k p F)⟩
  ·refine hE _ _ _ ⟨4,∅,rfl,X4,.inr ⟨∅,G,(b:Nat),f4,rfl,A _ _ _ m D,F4,λh t p F=>?_⟩⟩
   obtain⟨J,M⟩:=q j h B m p;exact⟨Pp k p,q2 r b a4 _ t J M (OJ k p F)⟩
  ·have g:=Za F (.tup [.str "told",.int (ts.length:Nat)]);have bk:ZC j (unT ((cl2 n).map (·.2)) (upd (reT ((cl2 n).map (·.2)) Y j) t (.tup [.str "told",.int (ts.length:Nat)]))):=λb o z=>Ng m g z;obtain⟨⟨c2,a2⟩,a7,_⟩:=Z.sh;have a0:∀(b:aj)(o:HO),I b=some o->(∀ i:Nat,i∈lv->b≠(as.getD i .d).x/\b≠(as.getD i .d).ab)->b≠S->b≠d->j b=some o:=λb o e n1 n2 n3=>O b o n2 n3 n1 e;have kx:∀(b:aj)(o:HO),I b=some o->(∀ C G X,o≠.ins C G X)->(∀ X,o≠.lst X)->(∀ X,o≠.dK X)->j b=some o:=λb o e m1 m2 m3=>a0 b o e (λi hi=>by
    obtain⟨G,hx⟩:=(Z.tw i hi).tw.self;exact⟨ZD e hx (m1 _ _ _),ZD e (Z.tw i hi).tw.above (m2 _)⟩) (ZD e a2 (m1 _ _ _)) (ZD e a7 (m3 _))
   have ex:YL I j:=⟨λb φ z=>kx _ _ z (by intro _ _ _ y;cases y) (by intro _ y;cases y) (by intro _ y;cases y),λb φ z=>kx _ _ z (by intro _ _ _ y;cases y) (by intro _ y;cases y) (by intro _ y;cases y)⟩
   exact⟨Pp k g,q3 r a8 _ t a (l _ nx) (l _ c0) (l _ a9) (λc o n1 n2 n3 n4 e=>bk _ _ (O c o n1 n2 n4 (N _ _ n3 e))) (u.ext (ex.trans (YL.same bk))) (R'.same bk) (OJ k g ZK)⟩
abbrev qG:Str:=("_law_let_go" ++ ".<locals>.") ++ "<lambda>"
abbrev Wt(n:Nat):jC:=[((("_law_shelf" : String):Str),n+3),((("_law_number" : String):Str),n+2)]
def QJ(j:Nat):Arguments×Expr×Scope:=match (XM VQ)[j]? with
 | some (.Assign _ (.Call _ [.Lambda a b c _] _ _) _)=>(a,b,c)
 | _=>(⟨[],[],none,[],[],none,[]⟩,.Name "" ⟨0,0,0,0⟩,(Zc VQ))
def Cm{gt:jp}{m f c':aj}{co:aH}{pm ctv:ai}{n:Nat}(j:Xr co qG)(L:Yg K mg jg jh)(q:ZE P w K mg jV (Z9 P w) 68 jg "let_go" zEa (Ya gt jg jh m)):
  ZI P w K mg jV (Z9 P w) 70 f (sL "<lambda>" qG (QJ 4).1 (QJ 4).2.1 (QJ 4).2.2 (Wt n) pm (.ref c') ctv) []
   (JD f c' (wV "<lambda>" qG (QJ 4).1 (QJ 4).2.1 (QJ 4).2.2 (Wt n) pm c' ctv) co (Wt n) zE6 (Ya gt jg jh m)):=by
 refine IW (k:=69) (λx y c t u=>?_) (λx h=>?_) (λx c h=>?_) (by decide +kernel) rfl rfl rfl (by decide +kernel) j λA l s H O Q E B h=>?_
 ·have a:=PySem.mem_of_lookup t;have e:=PySem.mem_of_lookup u;simp only[yZ,vZ,or_false,Prod.mk.injEq] at a e;rcases a with ⟨a,g⟩ | ⟨a,g⟩ <;> rcases e with ⟨e,i⟩ | ⟨e,i⟩
  ·rw[a,e]
  ·exact absurd (g.symm.trans i) (xT (yE (n+2)))
  ·exact absurd (i.symm.trans g) (xT (yE (n+2)))
  ·rw[a,e]
 ·have o:∀ p∈(QJ 4).2.2.names,(p.2=.cell\/p.2=.free)->p.1=(("_law_number" : String):Str)\/p.1=(("_law_shelf" : String):Str):=by decide +kernel
  have:x=(("_law_number" : String):Str)\/x=(("_law_shelf" : String):Str):=by
   rcases h with h | h
   ·exact o _ (PySem.mem_of_lookup h) (.inl rfl)
   ·exact o _ (PySem.mem_of_lookup h) (.inr rfl)
  rcases this with z | z
  ·exact⟨n+2,by rw[z];rfl⟩
  ·exact⟨n+3,by rw[z];rfl⟩
 ·have a:=PySem.mem_of_lookup h;exact zM.mpr ⟨_,a,rfl⟩
 ·obtain⟨S,d,I,N,M,F,G,D,C,J,b,rfl,U,_⟩:=id h;obtain⟨r,v⟩:=U.sh.sh.self;exact⟨_,Y3 (E:=E) (pv 0) L.cS q (B.mono ∅) (PR (E1:=E) Ga λ_ _ _ h=>h) (ZX (pv 1)),_,rfl,S,r,_,rfl,v,rfl,_,rfl,h⟩
def CQ{gt:jp}{CB:aj}{C:Nat->aj}{n:Nat}{σ:L2.St}{F:Hp}{Q:VK}{T S d lk:aj}{ts:jq}{D:jo}{av:Nat->jo}{B:Nat->Nat}{G:jx}{M:List (ZR×V)}{ls:je}{b:Nat}{Y:jr}{j0 j1:Nat}{f4:aj}(L:Yg K mg jg jh)(X4:XC K CB C 4)(F4:Yd K (C 4) f4 "number")(DM:ZE P w K mg jV (Z9 P w) 68 jg "let_go" zEa (Ya gt jg jh (C 4)))(O:ZP F T qG)(hj:Y[j0]? = some (("_law_number" : String):Str))(a6:σ[j0]? = some (some (.int (b:Nat))))(a4:Y[j1]? = some (("_law_shelf" : String):Str))(J:σ[j1]? = some (some (.ref S)))(U:Xh gt jg jh F S d lk ts D av B G M ls)(lg:gt.length=64)(up:gt.Pairwise (λa b=>a.lt b=true))(hb:b∈D)(k1:B b=0->∀ (h:Hp) (t:aj),(∀ c o,c≠T->F c=some o->h c=some o)->ZP h T qG->h t=some (.tup [.str "held",.int (b:Nat)])->Q (.ref t) h)(k2:0<B b->∀ (h:Hp) (t:aj) (m:jo) (r:Nat->jo) (l:List (ZR×V)),(∀ c o,c≠T->c≠d->c≠(G.getD b .d).x->(∀ j:Nat,j∈D->c≠(G.getD j .d).ab)->F c=some o->h c=some o)->ZP h T qG->Xh gt jg jh h S d lk ts m r (Ws B b) G l ls->m.Sublist D->(∀ c∈D,0<Ws B b c->c∈m)->h t=some (.tup [.str "told",.non])->Q (.ref t) h):
  Kx (YM P w K mg jV CB C) (Wt n) zE6 Y (Y9 (Lq T (QJ 4).1 (QJ 4).2.1 (QJ 4).2.2 qG (Wt n)) VP) σ F Q:=by
 exists O;intro HL f c' co pm Z a1 hf a0 fr q a9;refine⟨[.ref S,.int (b:Nat)],rfl,λi x v I A=>?_,λX eU a7 u CA=>?_⟩
 ·have i2:=(yJ.mp A).1
  match i,i2,I,A with
  | 0,_,I,A=>cases I;cases A;exact⟨j1,a4,J⟩
  | 1,_,I,A=>cases I;cases A;exact⟨j0,hj,a6⟩
  | i+2,i2,_,_=>exact absurd (show i+2<2 from i2) ∅
 have p:∀ c∈(Wt n).map (·.2),∃ o,X c=some (Yj c o):=λc hc=>by
  obtain⟨o,v,e,_⟩:=CA.all c hc;exact⟨o,e⟩
 have W:=U.frame (GJ U.sh O fr);exists f,_,_,_,rfl,Cm (n:=n) (f:=f) (c':=c') (co:=co) (pm:=pm) (ctv:=Z) a1 L DM,λs=>.of_eq rfl,u _ _ hf;intro Q' E' hQ hE;exists rfl,u _ _ hf,u _ _ a0,[.ref S,.int (b:Nat)],CA;rw[eU];have N:∀(k:Hp)(b:aj)(o:HO),(∀ c∈(Wt n).map (·.2),k c=none)->k b=some o->reT ((Wt n).map (·.2)) X k b=some o:=λk b o E e=>by
  have:b∉(Wt n).map (·.2):=λz=>by rw[E b z] at e;cases e
  unfold reT;rw[aM this];exact e
 refine⟨S,d,lk,ts,D,av,B,G,M,ls,b,rfl,W,lg,up,hb,λh0 dx k s' a3 E=>?_,λh0 k m r l H U' sl kp E=>hQ _ _ λt ht=>?_⟩
 ·refine hE _ _ _ ⟨4,∅,rfl,X4,.inr ⟨∅,dx,(b:Nat),f4,rfl,N _ _ _ E a3,F4,λh t s3 ht=>?_⟩⟩
  have bk:ZC k (unT ((Wt n).map (·.2)) h):=λb o e=>Ng E s3 e;exact⟨Pp p s3,k1 h0 _ t (λc o nT e=>bk _ _ (s' _ _ (fr c o nT e))) (q.ext (YL.same (s'.trans bk))) (OJ p s3 ht)⟩
 ·have g:=Za ht (.tup [.str "told",.non]);have bk:ZC k (unT ((Wt n).map (·.2)) (upd (reT ((Wt n).map (·.2)) X k) t (.tup [.str "told",.non]))):=λb o z=>Ng E g z;have a2:=W.sh.sh.kept;obtain⟨a8,a5⟩:=(W.sh.tw b hb).tw.self;have kx:∀(c:aj)(o:HO),HL c=some o->(∀ C dx R,o≠.ins C dx R)->(∀ R,o≠.lst R)->(∀ R,o≠.dK R)->k c=some o:=λc o e m1 m2 m3=>H c o (ZD e a2 (m3 _)) (ZD e a5 (m1 _ _ _)) (λj hj=>ZD e (W.sh.tw j hj).tw.above (m2 _)) e;have ex:YL HL k:=⟨λb φ z=>kx _ _ z (by intro _ _ _ y;cases y) (by intro _ y;cases y) (by intro _ y;cases y),λb φ z=>kx _ _ z (by intro _ _ _ y;cases y) (by intro _ y;cases y) (by intro _ y;cases y)⟩
  exact⟨Pp p g,k2 h0 _ t m r l (λc o nT n1 n2 n3 e=>bk _ _ (H c o n1 n2 n3 (fr c o nT e))) (q.ext (ex.trans (YL.same bk))) (U'.frame (U'.sh.same bk)) sl kp (OJ p g ZK)⟩
end Tw
namespace L2
open PySem PySem.Spec PyProof.Rows
inductive VX(a:zZ)(x y:V)(H:Hp)(Q:VK):Prop
 |mk(p b:aj)(c:jz)(_:x=.ref p)(_:y=.ref b)(_:ZH a H p (c.map V.int))(_:ZH a H b (c.map V.int))(_:Q (.bl false) H)
def ZIo(F:X.A.units<cLine):Yi X (ay .NotEq) (VX X.K):=by
 intro l s Y H x y v u Q I O P h;obtain⟨p,b,a,rfl,rfl,C,D,q⟩:=h;cases O;cases P;obtain⟨d,m,M,U⟩:=I.list C;obtain⟨c,n,N,W⟩:=I.list D;have L:=m.length;have R:=n.length;refine PySem.SeqAt.RcNeAt.lists (e:=λ_=>true) M.isList N.isList (by simp;lia) F (λj i B=>?_) X.prog X.w X.xe _ (Yf I q (by simp))
 have E:j<a.length:=by simp at i;simp at L;lia
 have k:(a.map V.int)[j]? = some (.int a[j]):=by simp[E]
 obtain⟨S,t,o⟩:=m.get k;obtain⟨T,z,r⟩:=n.get k;obtain⟨f,rfl⟩:=o;obtain⟨g,rfl⟩:=r;have G:d.toArray[j]=Value.int a[j] f:=by
  have:d.toArray[j]? = some (Value.int a[j] f):=by simpa using t
  rw[wJ i] at this;exact zH.inj this
 have J:c.toArray[j]=Value.int a[j] g:=by
  have:c.toArray[j]? = some (Value.int a[j] g):=by simpa using z
  rw[wJ B] at this;exact zH.inj this
 rw[G,J];have:=PySem.SeqAt.EqAt.int_int (A:=X.A.in1) (s:=s) a[j] f a[j] g;simpa using this
end L2
namespace Tw
open PySem PySem.Spec L2 PyProof.Rows
variable{jg jh CS CT CH CK CP CB:aj}
def ZOM{n:Nat}{y:Str}{c:aj}(h:(cl2 n).lookup y=some c):(cellsFrom (n+1) (Zc VM).names []).lookup y=some c:=by
 have e:=PySem.mem_of_lookup h;simp only[yZ,vZ,or_false,Prod.mk.injEq] at e;rcases e with ⟨a,b⟩ | ⟨a,b⟩
 ·rw[a,b];rfl
 ·rw[a,b];rfl
def FQ{n:Nat}:∀ c∈(cl2 n).map (·.2),∃ y,(cl2 n).lookup y=some c:=λc a=>by
 have e:c=n+4\/c=n+3:=by simpa using a
 rcases e with e | e
 ·exact⟨(("_law_shelf" : String):Str),by rw[e];rfl⟩
 ·exact⟨(("_law_handed" : String):Str),by rw[e];rfl⟩
def Ay:(Zc VM).names.lookup (("_law_handed" : String):Str)=some .cell:=by decide +kernel
def FF:(Zc VM).names.lookup (("_law_shelf" : String):Str)=some .cell:=by decide +kernel
def BF{n:Nat}:∀ y∈[(("_law_shelf" : String):Str),(("_law_handed" : String):Str)],(Zc VM).names.lookup y=some .cell/\∃ c,(cl2 n).lookup y=some c:=λy a=>by
 have e:y=(("_law_shelf" : String):Str)\/y=(("_law_handed" : String):Str):=by simpa using a
 rcases e with e | e
 ·rw[e];exact⟨FF,_,rfl⟩
 ·rw[e];exact⟨Ay,_,rfl⟩
def Go{gt:jp}{g j:aj}{H p:Hp}{a:Pl}{m:Md}(h:LS gt g j H a m)(f:∀ c o,(∀ D,o≠.tbl D)->H c=some o->p c=some o):LS gt g j p a m:=by
 obtain⟨l,s,U,n⟩:=h.sh;obtain⟨YY,L⟩:=h.lw;obtain⟨q,x,v⟩:=h.hd;obtain⟨u,G⟩:=h.gr;have r:YK H p:=λc K e=>f _ _ (by intro _ z;cases z) e
 obtain⟨⟨F,w⟩,y,A⟩:=id U.sh.sh;have R:Z7 g j p a.S a.d a.lk m.ts m.lv m.av m.ho a.as l s:=by
  refine U.sh.frame r (λo e=>f _ _ (by have b:=e.symm.trans w;cases b;intro _ z;cases z) e) (λo e=>f _ _ (by have b:=e.symm.trans y;cases b;intro _ z;cases z) e) (λo e=>f _ _ (by have b:=e.symm.trans A;cases b;intro _ z;cases z) e) λi k=>?_
  obtain⟨I,C⟩:=(U.sh.tw i k).tw.self;obtain⟨E,B,_⟩:=(U.sh.tw i k).things;exact⟨λo e=>f _ _ (by have b:=e.symm.trans C;cases b;intro _ z;cases z) e,λo e=>f _ _ (by have b:=e.symm.trans B;cases b;intro _ z;cases z) e,λo e=>f _ _ (by have b:=e.symm.trans (U.sh.tw i k).tw.above;cases b;intro _ z;cases z) e⟩
 refine⟨⟨l,s,U.frame R,n⟩,⟨YY,L.frame r (f _ _ (by intro _ z;cases z) L.dict) λi k o e=>?_⟩,⟨q,f _ _ (by intro _ z;cases z) x,v⟩,⟨u,G.frame r (f _ _ (by intro _ z;cases z) G.at_)⟩,f _ _ (by intro _ z;cases z) h.told,h.dd,h.tt,h.t2,h.t3,h.l64,h.l700⟩
 obtain⟨J,E,_,_,t,_⟩:=L.tw i k;exact f _ _ (by have b:=e.symm.trans t;cases b;intro _ z;cases z) e
def Gf{gt:jp}{s q:aj}{H H':Hp}{a:Pl}{m:Md}(h:LS gt s q H a m)(t:∀ c o,(∀ N,o≠.tbl N)->c≠a.S->c≠a.d->c≠a.lk->(∀ i:Nat,i∈m.lv->c≠a.x i/\c≠a.ab i)->H c=some o->H' c=some o):LO gt H' a m:=by
 obtain⟨K,P,U,C⟩:=h.sh;obtain⟨YY,L⟩:=h.lw;obtain⟨v,I,F⟩:=h.hd;obtain⟨E,G⟩:=h.gr;have R:=U.sh;obtain⟨⟨O,u⟩,A,B⟩:=R.sh;have w:∀ i:Nat,i∈m.lv->∃ n p,H (a.x i)=some (.ins q n p):=λi f=>by
  obtain⟨n,e⟩:=(R.tw i f).tw.self;exact⟨n,_,e⟩
 have r:∀ i:Nat,i∈m.lv->H (a.ab i)=some (.lst (iN (m.av i))):=λi f=>(R.tw i f).tw.above;have D:YK H H':=λb T e=>t b _ (by intro _ z;cases z) (ZD e u) (ZD e A) (ZD e B) (λi f=>by
  obtain⟨n,p,k⟩:=w i f;exact⟨ZD e k,ZD e (r i f)⟩) e
 have g:∀(c:aj)(l:je),H c=some (.lst l)->c≠a.lk->(∀ i:Nat,i∈m.lv->c≠a.ab i)->H' c=some (.lst l):=λc l e y M=>t c _ (by intro _ z;cases z) (ZD e u) (ZD e A) y (λi f=>by
  obtain⟨n,p,k⟩:=w i f;exact⟨ZD e k,M i f⟩) e
 have dict:∀(c:aj)(l:List (ZR×V)),H c=some (.dK l)->c≠a.d->H' c=some (.dK l):=λc l e y=>t c _ (by intro _ z;cases z) (ZD e u) y (ZD e B) (λi f=>by
  obtain⟨n,p,k⟩:=w i f;exact⟨ZD e k,ZD e (r i f)⟩) e
 refine⟨⟨YY,L.frame D (dict _ _ L.dict h.dd.1) λi f o e=>?_⟩,⟨v,dict _ _ I h.dd.2.1,F⟩,⟨E,G.frame D (g _ _ G.at_ h.tt.2.2.symm λi f=>(h.t2 i f).2.2)⟩,g _ _ h.told h.tt.1 λi f=>(h.t2 i f).1⟩;obtain⟨Q,p,_,_,k,_⟩:=L.tw i f;have:o=.lst p:=by have:=e.symm.trans k;exact zH.inj this
 subst this;exact g _ _ e (h.t3 i f).2.1 λj J=>(h.t3 i f).2.2 j J
def Jz{bs:jo}{a:Nat->Nat}:(bs.map (λb:Nat=>(b:Int))).find? (λn=>decide (((a n.toNat:Nat):Int)=0))=(bs.find? λb=>decide (a b=0)).map λb:Nat=>(b:Int):=by
 rw[List.find?_map]
 congr 1
 refine congrArg (λq=>List.find? q bs) (funext λb=>?_);show decide (((a ((b:Nat):Int).toNat:Nat):Int)=0)=decide (a b=0);rw[decide_eq_decide];simp
def ET{bs:jo}{n:Nat}{a:Nat->Nat}(h:n∉bs):Y8 n (WG bs a)=WG bs (Y8 n a):=by
 funext i
 by_cases z:i=n
 ·subst z;show (if i=i then 1 else WG bs a i)=(if i∈bs then (if i=i then 1 else a i)-1 else (if i=i then 1 else a i))
  rw[aO rfl,aM h];simp
 ·show (if i=n then 1 else (if i∈bs then a i-1 else a i))=(if i∈bs then (if i=n then 1 else a i)-1 else (if i=n then 1 else a i))
  rw[aM z,aM z]
def WT.av{gt:jp}{b c:aj}{H:Hp}{a:Pl}{m:Md}{p:aj}{q:je}(o:WT a m p)(h:LS gt b c H a m)(e:H p=some (.lst q)):Ze a m p:=by
 obtain⟨n,u,R⟩:=h.shp;obtain⟨YY,L⟩:=h.lw;obtain⟨k,g,_⟩:=h.hd;obtain⟨⟨r,f⟩,j,t⟩:=R.sh;exists ZD e f,ZD e j,o.lk.symm,ZD e L.dict,ZD e g,o.tl.symm;intro i d;obtain⟨s,l⟩:=(R.tw i d).tw.self;exact⟨ZD e l,(o.tw i d).1.symm⟩
inductive Y1(gt:jp)(jg jh T:aj)(h:je)(H:Hp)(Q:VK)(_:XK):Prop
 |mk(p g:aj)(a:Pl)(m:Md)(_:h=[.ref p,.ref g])(_:ZL H p)(_:H g=some (.tup (Xd a)))(_:LS gt jg jh H a m)(_:WT a m p)(_:0<m.lv.length)(_:m.lv.length<=60)(_:m.ts.length<=600)(_:ZP H T qS)(_:∀(d:Hp)(e:Pl)(b:Md),(∀ c o,H c=some o->Ze a m c->Ze e b c/\(c≠p->c≠T->d c=some o))->LS gt jg jh d e b->ZL d p->WT e b p->Xd e=Xd a->m.ts.length<=b.ts.length->b.ts.length<=m.ts.length+1->m.lv.length<=b.lv.length->b.lv.length<=m.lv.length+1->ZP d T qS->Q (.bl true) d)
abbrev JU:jr:=["_law_well_here","_law_state","_law_shelf","_law_twigs","_law_holds","_law_grid_here","_law_told","_law_numbers","_law_some","_law_due","_law_handed","_law_found","_law_number"]
def Yz:ZA JU zEb (Zc VM):=Zz
def Ey{A:aw}{outer:jA}{s:ak}{Hs:Hp}{E:XK}{gt:jp}{CB:aj}{C:Nat->aj}{c T f3 f4:aj}(CC:xV jV c T)(t4:jV.BuiltinsAt mg T)(X:YO mg)(L:Yg K mg jg jh)(X2:XC K CB C 2)(X3:XC K CB C 3)(X4:XC K CB C 4)(F3:Yd K (C 3) f3 "number")(F4:Yd K (C 4) f4 "number")(DM:ZE P w K mg jV (Z9 P w) 10 jg "put_stem" zEh (Z6 gt jg jh (C 2) (C 3) (C 4)))(DQ:ZB P w K mg jV 71 "_law_asked" zE1 (YM P w K mg jV CB C))(DR:ZB P w K mg jV 4 "_law_run" zEe (Vy gt))(DP:ZB P w K mg jV 1 "_law_pull" zEf YT)(DK:ZB P w K mg jV 2 "_law_picked" zEg YA)(DW:ZB P w K mg jV 8 "_law_wrong" zEj (Xa gt))(DU:ZB P w K mg jV 1 "_law_unheld" zEp Y4)(r8:ZB P w K mg jV 7 "_law_alike" zEd (YF 6))(hr:ZW 71 (A.deeper (envOfC "_law_put_stem" (Zc VM) s.heap.objs.size f (.ref c)))):
  ∃ t,WC (Wu ZZ P w K mg jV JU "_law_put_stem" (Zc VM) f (.ref c) A outer s Hs E) ((XM VM).drop 3) t /\
   ∀(H H3:Hp)(Q:VK)(p st LN:aj)(a:Pl)(m:Md)(x8:jf)(I:jz),ZL H p->LS gt jg jh H a m->WT a m p->0<m.lv.length->m.lv.length<=60->m.ts.length<=600->ZP H T qS->ZJ p H H3->ZL H3 p->H LN=none->H3 LN=some (.lst (I.map V.int))->I.length<=6 ->
    (∀(H':Hp)(a':Pl)(m':Md),(∀ c o,H c=some o->Ze a m c->Ze a' m' c/\(c≠p->c≠T->H' c=some o))->LS gt jg jh H' a' m'->ZL H' p->WT a' m' p->Xd a'=Xd a->m.ts.length<=m'.ts.length->m'.ts.length<=m.ts.length+1->m.lv.length<=m'.lv.length->m'.lv.length<=m.lv.length+1->ZP H' T qS->Q (.bl true) H') ->
    t { nx:=λ_ H'=>Q .non H',rt:=Q } [some (.ref p),some (.ref st),some (.ref a.S),some (.ref a.dT),some (.ref a.dH),some (.ref a.gl),some (.ref a.tl),some (.ref LN),x8,none,none,none,none] H3:=by
 have nd:=Yz.nd;have hu:=Wj hr;have t9:=hr.mono (show 1<=71 by lia)
 have hr2:=hr.mono (show 2<=71 by lia)
 have hr4:=hr.mono (show 4<=71 by lia)
 have hr7:=hr.mono (show 7<=71 by lia)
 have hr8:=hr.mono (show 8<=71 by lia)
 obtain⟨fA,fdA,FA,bA,kA,mA⟩:=DQ.ex;refine⟨_,ZQ (Zw 9 nd (Zp DW hr8 (Qc (pv 3) (Zg (pv 7) OO))))
  (ZQ (Zv (Qm (ML (pv 9))) (ZU (Zw 9 nd (Zp DU t9 (Zg (pv 4) (pv 7))))) Z1)
  (ZQ (ND (i:=10) nd rfl (Or.inr rfl) (VO Q6 rfl X.list Uo (ZX (pv 7))))
  (ZQ (Zw 11 nd (Gg (cl:=cl2 s.heap.objs.size) (N:=zE5) FA hr rfl mA kA bA (ZX (Gx (P:=T) (cl:=cl2 s.heap.objs.size) rfl CC t4 rfl rfl)) (λy c h=>ZOM h) FQ BF λ_=>rfl))
  (ZQ (Zv (YJ (ZIo hr.units0) (pv 10) (pv 7) (Z3 _)) WY Z1)
  (ZQ (Zv (Qm (JW (pv 9))) (ZU (Zn (Zp r8 hr7 (Zg (pv 11) (pv 9))))) Z1)
  (ZQ (Xe (NG yM sP sO M5 (pv 10)))
  (ZQ (Zv (PW.pt (VI (YJ Qi (Zk K (pv 11) ZN) Ym (Z3 _)) (VI (XU (Ye (Zm Xj rfl X.isi Yw (Zg (Zk K (pv 11) ZN) (XY (v:=.ty "int") rfl X.int Qo rfl)))))
   (VI (Ye (Zm Xj rfl X.isi Yw (Zg (Zk K (pv 11) ZN) (XY (v:=.ty "bool") rfl X.bool P7 rfl)))) (UR (YJ QQ (Zk K (pv 11) ZN) (Zm (Jg rfl) rfl X.max Oq (ZX (pv 6))) (Z3 _))))))) WY Z1)
  (ZQ (Xe (Vh yM xL xK UI (pv 6) (ZX (Zk K (pv 11) ZN))))
  (ZQ (VV MG rfl (WZ (pv 7)) (Yb 12 nd) (ZU (QT hu (pv 4) (pv 12) (Zu QI (WP hu (pv 4) (pv 12)) ZN) rfl)))
  (ZQ (QT hu (pv 3) (Zk K (pv 11) ZN) (Yq (Zg Ym (pv 7))) rfl)
  (ZQ (QT hu (pv 4) (Zk K (pv 11) ZN) ZN rfl)
  (ZU (Zn UQ))))))))))))),λH H3 Q p st LN a m x8' I W R O l0 l60 l600 tab x3 W3 o8 J lns k=>?_⟩
 obtain⟨xsP,l5⟩:=W.some;obtain⟨kvs,ls,U,l100⟩:=R.sh;obtain⟨gs,G⟩:=R.gr;have l64:=R.l64;have lt0:0<m.ts.length:=by
  obtain⟨i,Y⟩:=sD l0;have:=R.lt Y
  lia
 have eI:((zQ m.ts.length).map λi:Nat=>(i:Int)).map V.int=iN (zQ m.ts.length):=by rw[zL];rfl
 have S3:=R.sx O l5 x3;obtain⟨kvs3,ls3,U3,l3⟩:=S3.sh;obtain⟨r6,s0⟩:=S3.lw;obtain⟨n8,t5,s8⟩:=S3.hd;have i2:ZP H3 T qS:=ZP.ext tab ⟨λb φ e=>x3 _ _ e (ZD e l5),λb φ e=>x3 _ _ e (ZD e l5)⟩;have OL:=R.off o8;have i1:∀ b,b∈m.lv->(m.av b).length<=800:=λb hb=>by
  rw[U.av b hb];have:=ZMm m.ts m.lv b
  lia
 obtain⟨xs3,m2⟩:=W3.some;have c6:∀(H4 H6:Hp),ZC H3 H4->(∀ b o,b≠T->H4 b=some o->H6 b=some o)->ZP H4 T qS->ZP H6 T qS->∀ H7,ZC H6 H7->Q (.bl true) H7:=λH4 H6 s4 l r5 a1 H7 s7=>by
  obtain⟨ps4,p8,_⟩:=id r5;refine k H7 a m (λc o e v=>⟨v,λn1 n2=>s7 _ _ (l _ _ n2 (s4 _ _ (x3 _ _ e n1)))⟩) (Go (S3.same s4) λc o z e=>s7 _ _ (l _ _ (ZD e p8 (z _)) e)) (Nj W3 λo e=>s7 _ _ (l _ _ (ZD (s4 _ _ m2) p8) (s4 _ _ e))) O rfl (zY _) ∅ (zY _) ∅ (ZP.ext a1 (YL.same s7))
 have o5:∀ bs c3:jo,I=bs.map (λb:Nat=>(b:Int))->I=c3.map (λb:Nat=>(b:Int))->bs=c3:=λbs c3 e1 e2=>by
  have e3:=e1.symm.trans e2;have:=congrArg (List.map wF) e3;simpa [zL,Function.comp_def] using this
 have i7:∀(bs:jo)(x:Int),I=bs.map (λb:Nat=>(b:Int))->(∀ b∈bs,b∈m.lv)->I.find? (λx=>!YS m.lv x)=some x->False:=λbs x e1 hb hx=>by
  have h1:=rN hx;have h2:=List.find?_some hx;rw[e1] at h1;obtain⟨b,c9,rfl⟩:=zM.mp h1;have:=hb b c9;unfold YS at h2;simp at h2;exact h2 this
 refine⟨_,rfl,_,rfl,a.dT,LN,I,m.ts,m.lv,r6,rfl,s0.lawT R.wf G.len G.up,J,∅,λx hx t H4 s4 ht=>?_,λbs eb hb i5 t H4 s4 ht=>?_,λbs eb hb i5 H4 s4=>?_⟩
 ·refine⟨_,rfl,_,rfl,Zl ?_⟩;exists _,rfl,LN,_,rfl,.inl (ZH.of (s4 _ _ J));intro B M;have g5:=Za M (.lst (I.map V.int));have r:upd H4 B (.lst (I.map V.int)) B=some (.lst (I.map V.int)):=ZK;generalize upd H4 B (.lst (I.map V.int))=H5 at g5 r⊢;have g:=s4.trans g5;have q:=ZP.ext i2 (YL.same g);refine MY (CB:=CB) (C:=C) (f3:=f3) (f4:=f4) (j0:=10) (j1:=2) (hd:=B) (ns:=I) L X2 X3 X4 F3 F4 DM q rfl rfl rfl rfl r (U3.sh.same g) R.wf ∅ i1 ∅ (λx' i0 H6 tf l a1 e4=>?_) λbs eb hb=>⟨λa0=>(i7 bs x eb hb hx).elim,λa0=>(i7 bs x eb hb hx).elim,λa0=>(i7 bs x eb hb hx).elim⟩
  cases hx.symm.trans i0;obtain⟨o9,Z,_⟩:=id q;have j:=l _ _ (ZD r Z) r;have a4:=g _ _ J;have c5:=l _ _ (ZD a4 Z) a4;have e0:=g5 _ _ ht;have l6:=l _ _ (ZD e0 Z) e0;refine⟨_,rfl,_,rfl,B,LN,I,rfl,rfl,ZH.of j,ZH.of c5,_,rfl,Zl ?_⟩;refine⟨_,rfl,_,rfl,Z8 ?_⟩;exact⟨_,rfl,_,rfl,.ref tf,.ref t,.tup [.str "twig",.int x],5,rfl,.tup e4 (.cons (.str _) (.cons (.int _) .nil)),.tup l6 (.cons (.str _) (.cons (.int _) .nil)),rfl,by decide,λH7 s7=>c6 H5 H6 g l q a1 H7 s7⟩
 ·refine⟨_,rfl,_,rfl,Zl ?_⟩;exists _,rfl,LN,_,rfl,.inl (ZH.of (s4 _ _ J));intro B M;have g5:=Za M (.lst (I.map V.int));have r:upd H4 B (.lst (I.map V.int)) B=some (.lst (I.map V.int)):=ZK;generalize upd H4 B (.lst (I.map V.int))=H5 at g5 r⊢;have g:=s4.trans g5;have q:=ZP.ext i2 (YL.same g);refine MY (CB:=CB) (C:=C) (f3:=f3) (f4:=f4) (j0:=10) (j1:=2) (hd:=B) (ns:=I) L X2 X3 X4 F3 F4 DM q rfl rfl rfl rfl r (U3.sh.same g) R.wf ∅ i1 ∅ (λx' i0=>(i7 bs x' eb hb i0).elim) λc3 l2 c9=>?_
  cases o5 bs c3 eb l2;refine⟨λa0 H6 tf l a1 e4=>?_,λa0=>absurd i5 a0,λa0=>absurd i5 a0⟩;obtain⟨o9,Z,_⟩:=id q;have j:=l _ _ (ZD r Z) r;have a4:=g _ _ J;have c5:=l _ _ (ZD a4 Z) a4;have e0:=g5 _ _ ht;have l6:=l _ _ (ZD e0 Z) e0;refine⟨_,rfl,_,rfl,B,LN,I,rfl,rfl,ZH.of j,ZH.of c5,_,rfl,Zl ?_⟩;refine⟨_,rfl,_,rfl,Z8 ?_⟩;exact⟨_,rfl,_,rfl,.ref tf,.ref t,.tup [.str "stem"],5,rfl,.tup e4 (.cons (.str _) .nil),.tup l6 (.cons (.str _) .nil),rfl,by decide,λH7 s7=>c6 H5 H6 g l q a1 H7 s7⟩
 ·refine⟨_,rfl,_,rfl,Z8 ?_⟩;have hv:∀ n∈I,Z5 n8 (.inl n)=some (.int ((m.ho n.toNat:Nat):Int)):=λn hn=>by
   rw[eb] at hn;obtain⟨b,c9,rfl⟩:=zM.mp hn;simpa using s8.2 b (hb b c9)
  refine⟨_,rfl,_,rfl,a.dH,LN,n8,I,(λn=>((m.ho n.toNat:Nat):Int)),rfl,s4 _ _ t5,s4 _ _ J,hv,λn hn t i9 p0 ht=>?_,λhn i9 p0=>?_⟩
  ·have c7:=s4.trans p0;exists _,rfl,LN,_,rfl,.inl (ZH.of (c7 _ _ J));intro B M;have g5:=Za M (.lst (I.map V.int));have r:upd i9 B (.lst (I.map V.int)) B=some (.lst (I.map V.int)):=ZK;generalize upd i9 B (.lst (I.map V.int))=H5 at g5 r⊢;have g:=c7.trans g5;have q:=ZP.ext i2 (YL.same g);have l4:=hn;rw[eb,Jz] at l4;obtain⟨b0,p9,rfl⟩:=yG.mp l4;refine MY (CB:=CB) (C:=C) (f3:=f3) (f4:=f4) (j0:=10) (j1:=2) (hd:=B) (ns:=I) L X2 X3 X4 F3 F4 DM q rfl rfl rfl rfl r (U3.sh.same g) R.wf ∅ i1 ∅ (λx' i0=>(i7 bs x' eb hb i0).elim) λc3 l2 c9=>?_
   cases o5 bs c3 eb l2;refine⟨λa0=>absurd a0 i5,λa0 b m1 H6 tf l a1 e4=>?_,λa0 hf=>by rw[p9] at hf;cases hf⟩
   cases p9.symm.trans m1;obtain⟨o9,Z,_⟩:=id q;have j:=l _ _ (ZD r Z) r;have a4:=g _ _ J;have c5:=l _ _ (ZD a4 Z) a4;have e0:=g5 _ _ ht;have l6:=l _ _ (ZD e0 Z) e0;refine⟨_,rfl,_,rfl,B,LN,I,rfl,rfl,ZH.of j,ZH.of c5,_,rfl,Zl ?_⟩;refine⟨_,rfl,_,rfl,Z8 ?_⟩;exact⟨_,rfl,_,rfl,.ref tf,.ref t,.tup [.str "held",.int (b0:Nat)],5,rfl,.tup e4 (.cons (.str _) (.cons (.int _) .nil)),.tup l6 (.cons (.str _) (.cons (.int _) .nil)),rfl,by decide,λH7 s7=>c6 H5 H6 g l q a1 H7 s7⟩
  ·have c7:=s4.trans p0;exists _,rfl,LN,_,rfl,.inl (ZH.of (c7 _ _ J));intro B M;have g5:=Za M (.lst (I.map V.int));have r:upd i9 B (.lst (I.map V.int)) B=some (.lst (I.map V.int)):=ZK;generalize upd i9 B (.lst (I.map V.int))=H5 at g5 r⊢;have g:=c7.trans g5;have q:=ZP.ext i2 (YL.same g);have l4:=hn;rw[eb,Jz] at l4;have r0:bs.find? (λb=>decide (m.ho b=0))=none:=Option.map_eq_none_iff.mp l4;refine MY (CB:=CB) (C:=C) (f3:=f3) (f4:=f4) (j0:=10) (j1:=2) (hd:=B) (ns:=I) L X2 X3 X4 F3 F4 DM q rfl rfl rfl rfl r (U3.sh.same g) R.wf ∅ i1 ∅ (λx' i0=>(i7 bs x' eb hb i0).elim) λc3 l2 c9=>?_
   cases o5 bs c3 eb l2;exists λa0=>absurd a0 i5,λa0 b m1=>by(rw[r0] at m1;cases m1)
   intro a0 hf' H6 tf e6 nx m4 i6 l a1 R6 e4;obtain⟨o9,Z,_⟩:=id q;obtain⟨Lb,p7⟩:=Option.ne_none_iff_exists'.mp i5;obtain⟨_,t8,_,_,_,_,_⟩:=KH R.wf (λb h=>R.lt (hb b h)) p7;have h1:∀ b∈bs,1<=m.ho b:=λb c9=>by
    have:=vK.mp r0 b c9;simp at this
    lia
   have S5:=S3.same g;have S4:=S3.same c7;have c2:=Gf S5 (H':=H6) λc o z n1 n2 n3 n4 e=>l c o n1 n2 (ZD e Z (z _)) n4 e;obtain⟨kv4,ls4,R4⟩:=S4.shp;obtain⟨kv5,ls5,R5⟩:=S5.shp;obtain⟨⟨dS5,t0⟩,t6,hl5⟩:=id R5.sh;have o0:∀(c:aj)(xs:je),H5 c=some (.lst xs)->(∀ i:Nat,i∈m.lv->c≠a.ab i)->H6 c=some (.lst xs):=λc xs e n4=>l _ _ (ZD e t0) (ZD e t6) (ZD e Z) (λi Y=>by
    obtain⟨dx,hx⟩:=(R5.tw i Y).tw.self;exact⟨ZD e hx,n4 i Y⟩) e
   have n5:∀ i:Nat,i∈m.lv->a.ab i≠B/\a.th i≠B:=λi Y=>by
    obtain⟨us,e,_⟩:=(R4.tw i Y).things;exact⟨ZY (R4.tw i Y).tw.above M,ZY e M⟩
   have j:=o0 _ _ r λi Y=>(n5 i Y).1.symm;have a4:=g _ _ J;have c5:=o0 _ _ a4 λi Y=>(OL.tw i Y).1.symm;have m6:LN≠B:=ZY (c7 _ _ J) M;have r7:a.tl≠B:=ZY S4.told M;refine⟨_,rfl,_,rfl,B,LN,I,rfl,rfl,ZH.of j,ZH.of c5,_,rfl,Zl ?_⟩;refine⟨_,rfl,_,rfl,Zl ?_⟩;exists _,rfl,.inl ⟨rfl,_,ZH.of j⟩,B,_,rfl,rfl,j;have en:(m.ts++[Xm m.ts bs]).length=m.ts.length+1:=by simp
   have r4:∀ c,a.lk≠c->(∀ i:Nat,i∈m.lv->a.ab i≠c/\a.th i≠c)->e6.ab≠c->e6.th≠c->∀ i:Nat,i∈m.lv++[m.ts.length]->((a.as++[e6]).getD i .d).ab≠c/\((a.as++[e6]).getD i .d).th≠c:=λc _ n2 n3 n4 i Y=>by
    by_cases z:i=m.ts.length
    ·subst z;obtain⟨e1,e2,_,_⟩:=Pz (new:=e6) (D:=LN) R;exact⟨λy=>n3 (by rw[<-e1];exact y),λy=>n4 (by rw[<-e2];exact y)⟩
    ·obtain⟨e1,e2,_,_⟩:=Pd (new:=e6) (D:=LN) R (i:=i) (Va Y z);have:=n2 i (Va Y z);exact⟨λy=>this.1 (by rw[<-e1];exact y),λy=>this.2 (by rw[<-e2];exact y)⟩
   have R7:=LG (o':=.lst []) R6 j (ZY R4.sh.looks M) (r4 B (ZY R4.sh.looks M) n5 (ZY r i6).symm (ZY r m4).symm);have m3:∀ c o,c≠B->H6 c=some o->upd H6 B (.lst []) c=some o:=λc o n e=>by rw[ZM n];exact e
   generalize upd H6 B (.lst [])=H7 at R7 m3⊢;have a5:=m3 _ _ (ZD e4 j) e4;have a6:=m3 _ _ r7 c2.told;refine⟨_,rfl,.inr (.inl ⟨tf,_,0,.str "told",rfl,rfl,Zd.of a5,rfl,rfl,_,rfl,Of rfl ?_⟩)⟩;refine⟨_,rfl,.inr (.inl ⟨tf,_,1,.int (m.ts.length:Nat),rfl,rfl,Zd.of a5,rfl,_,_,_,_,rfl,.int _,Pk,_,rfl,Zl ?_⟩)⟩;refine⟨_,rfl,.inr (.inl ⟨tf,_,1,.int (m.ts.length:Nat),rfl,rfl,Zd.of a5,rfl,_,_,_,_,rfl,.int _,Ow,_,rfl,Zl ?_⟩)⟩;refine⟨_,rfl,.inr (.inl ⟨tf,_,1,.int (m.ts.length:Nat),rfl,rfl,Zd.of a5,rfl,_,rfl,a.tl,(zQ m.ts.length).map (λi:Nat=>(i:Int)),rfl,ZH.of (by rw[eI];exact a6),rM (by rw[zX,tO];exact lt0),λmx t7 hmax=>⟨_,_,rfl,rfl,_,rfl,?_⟩⟩)⟩
   have mxn:¬ ((m.ts.length:Int)<=mx):=by
    obtain⟨i,Y,rfl⟩:=zM.mp t7;have:=xN.mp Y;show ¬ ((m.ts.length:Int)<=((i:Nat):Int))
    lia
   rw[aJ mxn];refine Zl ?_;refine⟨_,rfl,.inl ⟨rfl,_,ZH.of a6⟩,_,rfl,.inr (.inl ⟨tf,_,1,.int (m.ts.length:Nat),rfl,rfl,Zd.of a5,rfl,a.tl,_,.int (m.ts.length:Nat),rfl,rfl,a6,YQ (by simp[iN];lia),?_⟩)⟩
   have R8:=LG (o':=.lst (iN (zQ m.ts.length)++[.int (m.ts.length:Nat)])) R7 a6 R.tt.1.symm (r4 a.tl R.tt.1.symm (λi Y=>⟨(R.t2 i Y).1.symm,(R.t2 i Y).2.1.symm⟩) (ZY S5.told i6).symm (ZY S5.told m4).symm);have o7:∀ c o,c≠a.tl->H7 c=some o->upd H7 a.tl (.lst (iN (zQ m.ts.length)++[.int (m.ts.length:Nat)])) c=some o:=λc o n e=>by rw[ZM n];exact e
   have p1:upd H7 a.tl (.lst (iN (zQ m.ts.length)++[.int (m.ts.length:Nat)])) a.tl=some (.lst (iN (zQ (m.ts.length+1)))):=by rw[ZK,HA]
   generalize upd H7 a.tl (.lst (iN (zQ m.ts.length)++[.int (m.ts.length:Nat)]))=H8 at R8 o7 p1⊢;have o6:∀ c o,c≠B->c≠a.tl->H6 c=some o->H8 c=some o:=λc o n1 n2 e=>o7 _ _ n2 (m3 _ _ n1 e);obtain⟨r3,e8,s9⟩:=c2.hd;obtain⟨c1,a7⟩:=c2.lw;obtain⟨s6,G6⟩:=c2.gr;have a8:=o6 _ _ (ZD e8 j) (ZD e8 c2.told) e8;have m7:LN≠a.tl:=OL.tl.symm;have o2:=o6 _ _ m6 m7 c5;have n7:=o7 _ _ (ZD a5 a6) a5;refine⟨_,rfl,LN,rfl,⟨_,ZH.of o2⟩,Ql (K:=K) (a:=LN) (xs:=I.map V.int) (λi σ H'=>∃(x8 p2:jf)(a3:List (ZR×V)),σ=[some (.ref p),some (.ref st),some (.ref a.S),some (.ref a.dT),some (.ref a.dH),some (.ref a.gl),some (.ref a.tl),some (.ref LN),x8,some .non,some (.ref B),some (.ref tf),p2]/\(∀ c o,c≠a.dH->H8 c=some o->H' c=some o)/\H' a.dH=some (.dK a3)/\VZ a3 m.lv (WG (bs.take i) m.ho))
    ⟨_,_,r3,rfl,λc o _ e=>e,a8,(by
     have e2:WG [] m.ho=m.ho:=funext λi=>aM (by simp)
     rw[show bs.take 0=[] from rfl,e2];exact s9)⟩ (λi σ H' _ hP=>?_) ?_ ?_⟩
   ·obtain⟨_,_,_,_,k',_⟩:=hP;exact ZH.of (k' _ _ (ZD o2 a8) o2)
   ·rintro i u σ H9 r2 ⟨x8,p2,a3,rfl,a2,m0,e7⟩;rw[eb,zL,zJ] at r2;obtain⟨b,o3,rfl⟩:=yG.mp r2;have mb:=zA o3;have bl:=hb b mb;have r1:b∉bs.take i:=λz=>by
     have hs:bs=bs.take i++b::bs.drop (i+1):=by
      obtain⟨Y,e⟩:=yJ.mp o3;rw[<-e,<-wK Y,sV]
     have n6:=t8;rw[hs,List.nodup_append] at n6;exact n6.2.2 b z b (by simp) rfl
    have p6:WG (bs.take i) m.ho b=m.ho b:=aM r1;have hg:Zi H9 a.dH (.int (b:Nat)) (some (.int (m.ho b:Nat))):=by
     have:=e7.2 b bl;rw[p6] at this;exact this ▸ Zi.k (k:=Sum.inl (b:Int)) m0
    have lhv:a3.length=m.lv.length:=by have:=congrArg xY e7.1;simpa using this
    exists _,rfl,_,rfl,a.dH,.int (m.ho b:Nat),rfl,hg,_,_,rfl,rfl,_,rfl,_,rfl,a.dH,_,rfl,XI.k (k:=Sum.inl (b:Int)) m0 (YQ ∅)
    have e1:((m.ho b:Nat):Int)-1=((WG (bs.take i) m.ho b-1:Nat):Int):=by
     rw[p6];have:=h1 b mb
     lia
    exists _,_,_,rfl,λc o n e=>by rw[ZM n];exact a2 _ _ n e,ZK
    have et:bs.take (i+1)=bs.take i++[b]:=by rw[yD,o3];rfl
    rw[et,<-HG r1];show VZ (Z2 a3 (.inl (b:Int)) (.int (((m.ho b:Nat):Int)-1))) _ _;rw[e1];exact IY e7 bl
   ·rintro σ H9 ⟨x8,p2,a3,rfl,a2,m0,e7⟩;rw[show (I.map V.int).length=bs.length by rw[eb];simp,yF (zY _)] at e7
    have R9:=R8.frame (H':=H9) (λc ys e=>a2 _ _ (ZD e a8) e) (λo e=>a2 _ _ (by obtain⟨⟨dS8,t1⟩,_,_⟩:=R8.sh;exact ZD t1 a8) e) (λo e=>a2 _ _ R.dd.2.1.symm e) (λo e=>a2 _ _ (ZD R8.sh.looks a8) e) λi Y=>by
     obtain⟨dx,hx⟩:=(R8.tw i Y).tw.self;obtain⟨us,ht,_⟩:=(R8.tw i Y).things;exact⟨λo e=>a2 _ _ (ZD hx a8) e,λo e=>a2 _ _ (ZD ht a8) e,λo e=>a2 _ _ (ZD (R8.tw i Y).tw.above a8) e⟩
    exists _,rfl,YC;intro t nt;have i4:=Za nt (.tup [.str "stem",.ref LN]);have m5:upd H9 t (.tup [.str "stem",.ref LN]) t=some (.tup [.str "stem",.ref LN]):=ZK;generalize upd H9 t (.tup [.str "stem",.ref LN])=i8 at i4 m5⊢;have s1:=R9.same i4;have n9:∀ c o,c≠B->c≠a.tl->c≠a.dH->H6 c=some o->i8 c=some o:=λc o n1 n2 n3 e=>i4 _ _ (a2 _ _ n3 (o6 _ _ n1 n2 e));have c8:=n9 _ _ (ZD a7.dict j) (ZD a7.dict c2.told) R.dd.2.2 a7.dict;have e9:=i4 _ _ (a2 _ _ (ZD n7 a8) n7);have l1:=i4 _ _ m0;have l8:=i4 _ _ (a2 _ _ (ZD p1 a8) p1);have ltk:c1.length=m.lv.length:=by have:=congrArg xY a7.keys;simpa using this
    have lhv:a3.length=m.lv.length:=by have:=congrArg xY e7.1;simpa using this
    refine⟨_,rfl,_,rfl,.inr (.inl ⟨tf,_,1,.int (m.ts.length:Nat),rfl,rfl,Zd.of e9,rfl,a.dT,_,rfl,XI.k (k:=Sum.inl (m.ts.length:Int)) c8 (YQ ∅),?_⟩)⟩
    have p4:=OS (o':=.dK (Z2 c1 (.inl (m.ts.length:Int)) (.ref t))) s1 c8 R.dd.1.symm;have c0:∀ c o,c≠a.dT->i8 c=some o->upd i8 a.dT (.dK (Z2 c1 (.inl (m.ts.length:Int)) (.ref t))) c=some o:=λc o n e=>by rw[ZM n];exact e
    have n0:upd i8 a.dT (.dK (Z2 c1 (.inl (m.ts.length:Int)) (.ref t))) a.dT=some (.dK (Z2 c1 (.inl (m.ts.length:Int)) (.ref t))):=ZK;generalize upd i8 a.dT (.dK (Z2 c1 (.inl (m.ts.length:Int)) (.ref t)))=l9 at p4 c0 n0⊢;have m8:=c0 _ _ R.dd.2.2.symm l1;have o4:=c0 _ _ (ZD e9 c8) e9;refine⟨_,rfl,_,rfl,.inr (.inl ⟨tf,_,1,.int (m.ts.length:Nat),rfl,rfl,Zd.of o4,rfl,a.dH,_,rfl,XI.k (k:=Sum.inl (m.ts.length:Int)) m8 (YQ ∅),?_⟩)⟩
    have p5:=OS (o':=.dK (Z2 a3 (.inl (m.ts.length:Int)) (.int 1))) p4 m8 R.dd.2.1.symm;have e5:∀ c o,c≠a.dH->l9 c=some o->upd l9 a.dH (.dK (Z2 a3 (.inl (m.ts.length:Int)) (.int 1))) c=some o:=λc o n e=>by rw[ZM n];exact e
    have m9:upd l9 a.dH (.dK (Z2 a3 (.inl (m.ts.length:Int)) (.int 1))) a.dH=some (.dK (Z2 a3 (.inl (m.ts.length:Int)) (.int 1))):=ZK;generalize upd l9 a.dH (.dK (Z2 a3 (.inl (m.ts.length:Int)) (.int 1)))=i3 at p5 e5 m9⊢;have a9:∀ c o,c≠B->c≠a.tl->c≠a.dH->c≠a.dT->H6 c=some o->i3 c=some o:=λc o n1 n2 n3 n4 e=>e5 _ _ n3 (c0 _ _ n4 (n9 _ _ n1 n2 n3 e));have o1:YK H6 i3:=λc ys e=>a9 _ _ (ZD e j) (ZD e c2.told) (ZD e e8) (ZD e a7.dict) e;have l7:∀ c xs,c≠B->c≠a.tl->H6 c=some (.lst xs)->i3 c=some (.lst xs):=λc xs n1 n2 e=>a9 _ _ n1 n2 (ZD e e8) (ZD e a7.dict) e;have c4:∀ c,H5 c=none->H c=none:=λc e=>by
     cases z:H c with
     | none=>rfl
     | some o=>
      by_cases y:c=p
      ·subst y;obtain⟨xs,e'⟩:=W3.some;rw[g _ _ e'] at e;cases e
      ·rw[g _ _ (x3 _ _ z y)] at e;cases e
    have ek:kindOf (Xm m.ts bs) = "stem" :=aM (by show (gd m.ts (bs.getD 0 0)).h+1≠0;lia)
    have r9:LN≠e6.ab:=ZY a4 i6;have s5:I.map V.int=iN bs:=by rw[eb,zL];rfl
    have nn':m.ts.length∉bs:=λz=>by have:=R.lt (hb _ z);lia
    have s3:∀ i:Nat,i∈m.lv->a.b i≠B:=λi Y=>by
     obtain⟨kvA,LA⟩:=S4.lw;obtain⟨tp,us,_,_,e,_⟩:=LA.tw i Y;exact ZY e M
    have p3:LS gt jg jh i3 (a.push e6 LN) ⟨m.ts++[Xm m.ts bs],m.lv++[m.ts.length],Vg bs m.ts.length (Xk m.ts.length m.av),WG bs (Y8 m.ts.length m.ho)⟩:=by
     refine Jy R (c4 _ m4) (c4 _ i6) o8 r9 ⟨_,ls3,Fg U3 ∅ hb p7 h1 p5,l3⟩ ⟨_,Jb (tp:=t) (us:=I.map V.int) a7 hb o1 (λi Y o e=>?_) ?_ ?_ ?_ (λz=>absurd z (by show (gd m.ts (bs.getD 0 0)).h+1≠0;lia)) (λ_=>s5)⟩ ⟨_,m9,by rw[<-ET nn'];exact Ho (λi Y=>R.lt Y) e7⟩ ⟨s6,G6.frame o1 (l7 _ _ ?_ R.tt.2.1.symm G6.at_)⟩ ?_ ∅ ∅
     ·obtain⟨tp,us',_,_,e',_⟩:=a7.tw i Y;have:o=.lst us':=by have:=e.symm.trans e';exact zH.inj this
      subst this;exact l7 _ _ (s3 i Y) (R.t3 i Y).1 e
     ·exact e5 _ _ R.dd.2.2 n0
     ·rw[ek];exact e5 _ _ (ZD m5 l1) (c0 _ _ (ZD m5 c8) m5)
     ·exact l7 _ _ m6 m7 c5
     ·obtain⟨gsA,GA⟩:=S4.gr;exact ZY GA.at_ M
     ·exact e5 _ _ (ZD l8 l1) (c0 _ _ (ZD l8 c8) l8)
    have vp:=O.av R l5;have s2:ZL i3 p:=Nj W3 λo e=>a9 _ _ (ZY (c7 _ _ e) M) vp.2.2.2.2.2.1 vp.2.2.2.2.1 vp.2.2.2.1 (l _ _ vp.1 vp.2.1 (ZD (g _ _ m2) Z) vp.2.2.2.2.2.2 (g _ _ e));refine k i3 _ _ (λc o e v=>?_) p3 s2 (O.push R (ZY (g _ _ m2) m4).symm (ZY (g _ _ m2) i6).symm (ZY l5 o8).symm) rfl (by simp) (by simp) (by simp) (by simp) (ZP.ext a1 ⟨λb φ e=>?_,λb φ e=>?_⟩)
    ·obtain⟨v1,v2,v3,v4,v5,v6,v7⟩:=id v;exists v.push R (ZY e (c4 _ nx)) (ZY e (c4 _ i6));intro cp cT;have e3:=x3 _ _ e cp;exact a9 _ _ (ZY (c7 _ _ e3) M) v6 v5 v4 (l _ _ v1 v2 cT v7 (g _ _ e3))
    ·exact a9 _ _ (ZD e j) (ZD e c2.told) (ZD e e8) (ZD e a7.dict) e
    ·exact a9 _ _ (ZD e j) (ZD e c2.told) (ZD e e8) (ZD e a7.dict) e
def Eh{gt:jp}{CB:aj}{C:Nat->aj}{c T f3 f4:aj}(F:Zj K "_law_put_stem" "_law_put_stem" VM f fd)(hf:zR K ao "_law_put_stem" = some (some (.ref f)))(a7:yK K "_law_put_stem" = some (c,T))(CC:xV jV c T)(c6:jV.BuiltinsAt mg T)(X:YO mg)(L:Yg K mg jg jh)(X2:XC K CB C 2)(X3:XC K CB C 3)(X4:XC K CB C 4)(F3:Yd K (C 3) f3 "number")(F4:Yd K (C 4) f4 "number")(DM:ZE P w K mg jV (Z9 P w) 10 jg "put_stem" zEh (Z6 gt jg jh (C 2) (C 3) (C 4)))(DQ:ZB P w K mg jV 71 "_law_asked" zE1 (YM P w K mg jV CB C))(DR:ZB P w K mg jV 4 "_law_run" zEe (Vy gt))(DP:ZB P w K mg jV 1 "_law_pull" zEf YT)(DK:ZB P w K mg jV 2 "_law_picked" zEg YA)(DW:ZB P w K mg jV 8 "_law_wrong" zEj (Xa gt))(DU:ZB P w K mg jV 1 "_law_unheld" zEp Y4)(c2:ZB P w K mg jV 7 "_law_alike" zEd (YF 6)):
  ZI P w K mg jV ZZ 72 f fd zEb (Y1 gt jg jh T):=by
 refine F.okC hf a7 Yz (λvs H Q E h=>(by obtain⟨_,_,_,_,rfl,_⟩:=h;rfl)) (λA a0 s H vs Q E J h=>?_)
 obtain⟨p,st,a,m,rfl,W,e1,t,O,l0,e3,a8,e6,k⟩:=h;obtain⟨tT,hT,qT⟩:=Ey (Hs:=H) (outer:=a0) (E:=E) CC c6 X L X2 X3 X4 F3 F4 DM DQ DR DP DK DW DU c2 J;have B:=Yz.nd;have hu:=Wj J;have M:=J.mono (show 1<=71 by lia)
 have c9:=J.mono (show 2<=71 by lia)
 have e0:=J.mono (show 4<=71 by lia)
 have i5:=J.mono (show 7<=71 by lia)
 have i6:=J.mono (show 8<=71 by lia)
 obtain⟨fA,i2,FA,bA,kA,mA⟩:=DQ.ex;refine⟨_,ZQ (Qt (pv 1) (Q7 rfl (Y7 (QX (i:=2) B rfl (Or.inr rfl)) (Y7 (Yb 3 B) (Y7 (Yb 4 B) (Y7 (Yb 5 B) (Y7 (Yb 6 B) Q4)))))))
  (ZQ (Zw 7 B (Zp DR e0 (Qc (pv 0) (Qc (pv 3) (Zg (pv 4) (pv 5))))))
  (ZQ (Zv (YJ WW (Zp DP M (Zg (pv 0) ZN)) ZN (Z3 _))
   (ZQ (ND (i:=8) B rfl (Or.inr rfl) (Zu OB (Zm (QL rfl) rfl X.sorted UW (ZX (pv 3))) (XR (ZX (Zu WI (Zu WI (Zm (Jg rfl) rfl X.max Oq (ZX (pv 6))) ZN) (Zp DP M (Zg (pv 0) ZN)))))))
   (ZU (OR (i:=7) [0,8] zEg B rfl rfl rfl (Ob rfl X.range (ZX (Zp DP M (Zg (pv 0) ZN)))) (λ_ _ _ _ _=>UG) (λ_ _ _ _ _=>Zp DK c9 (Zg (pv 1) (pv 2))) ⟨rfl,.inl rfl,rfl,rfl,.inl rfl,rfl,trivial⟩))) Z1) hT)),?_⟩
 obtain⟨l3,a4⟩:=W.some;obtain⟨i7,ls,U,e9⟩:=t.sh;obtain⟨c1,Lw⟩:=t.lw;obtain⟨e2,c7,hH⟩:=t.hd;obtain⟨gs,G⟩:=t.gr;have bp:∀ i:Nat,i∈m.lv->a.bs.getD i 0≠p:=λi I=>(O.tw i I).2.2;have a9:=t.l64;have d:∀ c,H c=none->c≠p:=λc e=>(ZY a4 e).symm;have eI:((zQ m.ts.length).map λi:Nat=>(i:Int)).map V.int=iN (zQ m.ts.length):=by rw[zL];rfl
 have eL:(m.lv.map λi:Nat=>(i:Int)).map V.int=iN m.lv:=by rw[zL];rfl
 have e4:0<m.ts.length:=by
  obtain⟨i,I⟩:=sD l0;have:=t.lt I
  lia
 have g:∀(H6:Hp)(q:aj),ZJ p H H6->ZL H6 p->H6 q=none->H q=none:=λH6 q x6 W6 e=>by
  cases z:H q with
  | none=>rfl
  | some o=>
   by_cases y:q=p
   ·subst y;obtain⟨xs,e'⟩:=W6.some;rw[e'] at e;cases e
   ·rw[x6 _ _ z y] at e;cases e
 exists _,rfl,st,_,rfl,Zd.of e1,rfl,_,_,rfl,_,_,rfl,_,_,rfl,_,_,rfl,_,_,rfl,rfl;exists _,rfl,_,rfl,_,rfl,_,rfl,p,a.dT,a.dH,a.gl,m.ts,m.lv,a.bs,c1,e2,m.ho,gs,rfl,W,Lw,bp,t.wf,c7,hH,G,O.gl,l0,a9;intro H1 LN a2 s1 W1 Y c5 e7 i0;refine⟨_,rfl,p,5,rfl,W1,VW (by decide) (by decide),λr v r0 r1 W3 s2=>⟨rfl,_,rfl,?_⟩⟩
 have x3:ZJ p H v:=s1.trans s2;refine WV (λc=>?gT) (λc=>?gF)
 case' gF=>
  obtain⟨l,a3⟩:∃ l:jz,iN a2=l.map V.int:=⟨a2.map λb:Nat=>(b:Int),by rw[zL];rfl⟩
  have N:l.length<=6:=by
   have:=congrArg xY a3;simp[iN] at this
   lia
  have j:=s2 _ _ c5 (d _ Y);rw[a3] at j
 case' gT=>
  exists _,rfl,a.dT,c1,m.lv.map λi:Nat=>(i:Int),rfl,(Lw.sx W bp x3).dict,(by rw[Lw.keys,zL];rfl),US Lw.vl.up,by simpa using a9
  intro q nq;rw[eL];have g4:=Za nq (.lst (iN m.lv));have hq:upd v q (.lst (iN m.lv)) q=some (.lst (iN m.lv)):=ZK;have e5:=g _ q x3 W3 nq;generalize upd v q (.lst (iN m.lv))=H4 at g4 hq⊢;have x4:=x3.trans (ZJ.of g4);have W4:=W3.same g4;have a1:=(t.sx O a4 x4).told;refine⟨_,rfl,a.tl,(zQ m.ts.length).map (λi:Nat=>(i:Int)),rfl,ZH.of (by rw[eI];exact a1),rM (by rw[zX,tO];exact e4),λS i4 e8=>⟨_,_,rfl,rfl,?_⟩⟩
  refine⟨_,rfl,p,3,rfl,W4,VW (by decide) (by decide),λr3 H5 i8 i9 W5 s5=>⟨_,_,rfl,rfl,YC,λl9 n9=>?_⟩⟩
  have c8:=s5 _ _ hq (d _ e5);have x5:=x4.trans s5;have g6:=Za n9 (.lst [.int (S+1+r3)]);exists q,l9,_,_,rfl,rfl,g6 _ _ c8,ZK,xX (YQ (by simp[iN];lia))
  intro q2 n2;have g7:=Za n2 (.lst (iN m.lv++[.int (S+1+r3)]));have a5:upd (upd H5 l9 (.lst [.int (S+1+r3)])) q2 (.lst (iN m.lv++[.int (S+1+r3)])) q2=some (.lst (iN m.lv++[.int (S+1+r3)])):=ZK;have x7:=x5.trans (ZJ.of (g6.trans g7));have W7:=W5.same (g6.trans g7);have Z:=g _ q2 (x5.trans (ZJ.of g6)) (W5.same g6) n2;generalize upd (upd H5 l9 (.lst [.int (S+1+r3)])) q2 (.lst (iN m.lv++[.int (S+1+r3)]))=H7 at a5 x7 W7⊢;exists _,rfl,p,6,rfl,W7,VW (by decide) (by decide)
  intro r6 H8 l1 l2 W8 s8;have x8:=x7.trans s8;have a6:=s8 _ _ a5 (d _ Z);have u:∀ c,H8 c=none->c≠p:=λc e z=>by
   obtain⟨xs,e'⟩:=W8.some;rw[z,e'] at e;cases e
  refine⟨r6,rfl,∅,∅,UM (n:=r6.toNat) (λi z=>z=.int (0+(i:Int))) (λD i ys H'=>ZJ p H8 H'/\ZL H' p/\H8 D=none/\∃ l:jz,ys=l.map V.int/\l.length<=i) (YQ ∅)
   (λD i ys v I _=>I) (λD i ys v x H4 I _ hy=>hy) (λD ys v _=>zY _) (λD hD=>⟨ZJ.of (Za hD _),W8.same (Za hD _),hD,[],rfl,zY _⟩) (λD i ys H' z eD i3 I hz hP R hR=>?gStep) (λLN ys v eD hP=>?gEnd)⟩
  case' gStep=>
   obtain⟨s',W',nD,l,rfl,N⟩:=hP;exists _,rfl,_,rfl,p,q2,_,rfl,W',d _ Z,s' _ _ a6 (d _ Z),by simp,by simp[iN];lia
   intro x c3 c0 c4 hx;obtain⟨y,rfl⟩:∃ y:Int,x=.int y:=by
    rcases yY.mp hx with h | h
    ·obtain⟨b,_,rfl⟩:=zM.mp h;exact⟨_,rfl⟩
    ·exact⟨_,zC.mp h⟩
   have Dp:=u _ nD;refine hR _ c3 (c0 _ _ eD Dp) ⟨λc o e n=>by rw[ZM (ZY e nD)];exact c0 _ _ (s' _ _ e n) n,Nj c4 (λo e=>by rw[ZM (Ne.symm Dp)];exact e),nD,l++[y],by simp,by simp;lia⟩
  case' gEnd=>
   obtain⟨s',W3,nD,l,rfl,i1⟩:=hP;have x3:=x8.trans s';have Y:=g _ LN x8 W8 nD;have j:=eD;have N:l.length<=6:=∅
 all_goals exact qT H v Q p st LN a m _ l W t O l0 e3 a8 e6 x3 W3 Y j N k
end Tw
namespace L2
open PySem PySem.Spec PyProof.Rows
def Mi:V->Bool
 | .int _=>true
 | .str _=>true
 | .bl _=>true
 | .non=>true
 | _=>false
def Ev{A:aw}{s:ak}{v:V}{a b:ai}(h:Mi v=true)(c:ZS v a)(d:ZS v b):PySem.SeqAt.EqAt A s a b true:=by
 cases v with
 | int i=>
  obtain⟨e,rfl⟩:=c;obtain⟨f,rfl⟩:=d;have:=PySem.SeqAt.EqAt.int_int (A:=A) (s:=s) i e i f
  rwa [show (i==i)=true by simp] at this
 | str x=>
  obtain⟨e,rfl⟩:=c;obtain⟨f,rfl⟩:=d;have:=PySem.SeqAt.EqAt.str_str (A:=A) (s:=s) x e x f
  rwa [show (x==x)=true by simp] at this
 | bl x=>
  obtain rfl:a=.bool x:=c;obtain rfl:b=.bool x:=d;exact PySem.SeqAt.EqAt.same _
 | non=>
  obtain rfl:a=.none:=c;obtain rfl:b=.none:=d;exact PySem.SeqAt.EqAt.same _
 | _=>cases h
def Bi{jU:js}{σ:St}{H:Hp}{s:ak}{c:je}{b a:jd}(p:∀ v∈c,Mi v=true)(g:ZO c b)(t:ZO c a)(j:Nat)(d:j<b.toArray.size)(o:j<a.toArray.size):PySem.SeqAt.EqAt X.A.in1 s b.toArray[j] a.toArray[j] true:=by
 have u:=g.length;have e:j<c.length:=by simp at d;lia
 have f:c[j]? = some c[j]:=zU e;obtain⟨h,m,k⟩:=g.get f;obtain⟨i,n,l⟩:=t.get f;have q:b.toArray[j]=h:=by
  have:b.toArray[j]? = some h:=by simpa using m
  rw[wJ d] at this;exact zH.inj this
 have r:a.toArray[j]=i:=by
  have:a.toArray[j]? = some i:=by simpa using n
  rw[wJ o] at this;exact zH.inj this
 rw[q,r];exact Ev (p _ (xG e)) k l
inductive Oz(K:zZ)(b:Bool)(x y:V)(H:Hp)(Q:VK):Prop
 |mk(p q:aj)(a:je)(_:x=.ref p)(_:y=.ref q)(_:Zd K H p a)(_:Zd K H q a)(_:∀ v∈a,Mi v=true)(_:Q (.bl b) H)
def Ef(n:X.A.units<cLine):Yi X (ay .Eq) (Oz X.K true):=by
 intro a s B H x y v u Q I w z h;obtain⟨p,b,E,rfl,rfl,k,l,m,q⟩:=h;cases w;cases z;obtain⟨o,d,r,F⟩:=I.tuple k;obtain⟨c,f,t,G⟩:=I.tuple l;have C:=d.length;have D:=f.length;exact PySem.SeqAt.eq_tupleAt (e:=λ_=>true) r t n (λj g i=>Bi (X:=X) (jU:=a) (σ:=B) (H:=H) m d f j g i) (Yf I q (by simp;lia))
end L2
namespace Tw
open PySem PySem.Spec L2 PyProof.Rows
variable{jg jh CS CT CH CK CP CB:aj}
def Bs{n:Nat}{y:Str}{c:aj}(h:(Wt n).lookup y=some c):(cellsFrom (n+1) (Zc VQ).names []).lookup y=some c:=by
 have e:=PySem.mem_of_lookup h;simp only[yZ,vZ,or_false,Prod.mk.injEq] at e;rcases e with ⟨a,b⟩ | ⟨a,b⟩
 ·rw[a,b];rfl
 ·rw[a,b];rfl
def ZPh{n:Nat}:∀ c∈(Wt n).map (·.2),∃ y,(Wt n).lookup y=some c:=λc a=>by
 have e:c=n+3\/c=n+2:=by simpa using a
 rcases e with e | e
 ·exact⟨(("_law_shelf" : String):Str),by rw[e];rfl⟩
 ·exact⟨(("_law_number" : String):Str),by rw[e];rfl⟩
def FG:(Zc VQ).names.lookup (("_law_number" : String):Str)=some .cell:=by decide +kernel
def ZMp:(Zc VQ).names.lookup (("_law_shelf" : String):Str)=some .cell:=by decide +kernel
def CM{n:Nat}:∀ y∈[(("_law_shelf" : String):Str),(("_law_number" : String):Str)],(Zc VQ).names.lookup y=some .cell/\∃ c,(Wt n).lookup y=some c:=λy a=>by
 have e:y=(("_law_shelf" : String):Str)\/y=(("_law_number" : String):Str):=by simpa using a
 rcases e with e | e
 ·rw[e];exact⟨ZMp,_,rfl⟩
 ·rw[e];exact⟨FG,_,rfl⟩
def F6{f g:aj}{H j:Hp}{S d u m l:aj}{x:jq}{w:jo}{r:Nat->jo}{t:Nat->Nat}{q:jx}{h I J:List (ZR×V)}{v:je}(R:Z7 f g H S d u x w r t q h v)(A:H m=some (.dK I))(a:H l=some (.dK J))(F:d≠m)(G:d≠l)(s:∀ c o,c≠m->c≠l->H c=some o->j c=some o):Z7 f g j S d u x w r t q h v:=by
 obtain⟨⟨K,B⟩,M,C⟩:=id R.sh;have k:∀ c o,(∀ y,o≠.dK y)->H c=some o->j c=some o:=λc o n e=>s c o (ZD e A (n _)) (ZD e a (n _)) e;refine R.frame (λb N e=>k _ _ (by intro _ z;cases z) e) (λo e=>k _ _ (by have a:=e.symm.trans B;cases a;intro _ z;cases z) e) (λo e=>s _ _ F G e) (λo e=>k _ _ (by have a:=e.symm.trans C;cases a;intro _ z;cases z) e) λi p=>?_
 obtain⟨L,E⟩:=(R.tw i p).tw.self;obtain⟨y,D,_⟩:=(R.tw i p).things;exact⟨λo e=>k _ _ (by have a:=e.symm.trans E;cases a;intro _ z;cases z) e,λo e=>k _ _ (by have a:=e.symm.trans D;cases a;intro _ z;cases z) e,λo e=>k _ _ (by have a:=e.symm.trans (R.tw i p).tw.above;cases a;intro _ z;cases z) e⟩
def VF.held'{c:jq}{A:Nat->Prop}{i:Nat}(r:VF c A i):∃ j,A j:=by
 induction r with
 | held a=>exact⟨_,a⟩
 | step _ _ b=>exact b
def Xh.all{gt:jp}{a c:aj}{H:Hp}{S d r:aj}{k:jq}{g:jo}{o:Nat->jo}{l:Nat->Nat}{n:jx}{f:List (ZR×V)}{s:je}(U:Xh gt a c H S d r k g o l n f s):∀ i∈g,VF k (λj=>j∈g/\0<l j) i:=λi p=>by
 refine VF.all (λj q b e=>?_) U.vl U.live _ i (zY _) p;have m:=U.wf j _ (Xw (U.vl.lt j q));by_cases z:(gd k j).h=0
 ·rw[(m.leaf z).1] at e;cases e
 ·exact((m.stem z).2.2.1 b e).1
def J4(gt:jp)(jg jh T p:aj)(H:Hp)(a:Pl)(m:Md)(Q:VK):Prop:=∀(b:Hp)(d:Md),(∀ c o,c≠T->c≠p->Ze a m c->H c=some o->b c=some o)->ZP b T qG->LS gt jg jh b a d->d.ts=m.ts->d.lv.Sublist m.lv->Q (.bl true) b
inductive Xt(gt:jp)(jg jh T:aj)(c:je)(H:Hp)(Q:VK)(_:XK):Prop
 |mk(p b:aj)(a:Pl)(m:Md)(_:c=[.ref p,.ref b])(_:ZL H p)(_:H b=some (.tup (Xd a)))(_:LS gt jg jh H a m)(_:WT a m p)(_:0<m.lv.length)(_:ZP H T qG)(_:J4 gt jg jh T p H a m Q)
abbrev JZ:jr:=["_law_well_here","_law_state","_law_shelf","_law_twigs","_law_holds","_law_grid_here","_law_told","_law_some","_law_number","_law_found"]
def Xl:ZA JZ zEb (Zc VQ):=Zz
def Cr{A:aw}{outer:jA}{s:ak}{Hs:Hp}{E:XK}{gt:jp}{CB:aj}{C:Nat->aj}{c T f4:aj}(CC:xV jV c T)(e0:jV.BuiltinsAt mg T)(L:Yg K mg jg jh)(X4:XC K CB C 4)(F4:Yd K (C 4) f4 "number")(DM:ZE P w K mg jV (Z9 P w) 68 jg "let_go" zEa (Ya gt jg jh (C 4)))(DQ:ZB P w K mg jV 71 "_law_asked" zE1 (YM P w K mg jV CB C))(DK:ZB P w K mg jV 2 "_law_picked" zEg YA)(DS:ZB P w K mg jV 2 "_law_swept" zEq (Xg gt))(c2:ZB P w K mg jV 7 "_law_alike" zEd (YF 6))(hr:ZW 71 (A.deeper (envOfC "_law_let_go" (Zc VQ) s.heap.objs.size f (.ref c)))):
  ∃ t,WC (Wu ZZ P w K mg jV JZ "_law_let_go" (Zc VQ) f (.ref c) A outer s Hs E) ((XM VQ).drop 3) t /\
   ∀(H H3:Hp)(Q:VK)(p st LN:aj)(a:Pl)(m:Md)(ns:jo),ZL H p->LS gt jg jh H a m->WT a m p->ZP H T qG->ZJ p H H3->ZL H3 p->LN≠p->H3 LN=some (.lst (iN ns))->0<ns.length->ns.length<=900->(∀ b∈ns,b∈m.lv)->J4 gt jg jh T p H a m Q ->
    t { nx:=λ_ H'=>Q .non H',rt:=Q } [some (.ref p),some (.ref st),some (.ref a.S),some (.ref a.dT),some (.ref a.dH),some (.ref a.gl),some (.ref a.tl),some (.ref LN),none,none] H3:=by
 have nd:=Xl.nd;have hu:=Wj hr;have a3:=hr.mono (show 2<=71 by lia)
 have e5:=hr.mono (show 7<=71 by lia)
 obtain⟨fA,i4,FA,bA,kA,mA⟩:=DQ.ex;refine⟨_,ZQ (ND (i:=8) nd rfl (Or.inr rfl) (Zp DK a3 (Zg (pv 0) (pv 7))))
  (ZQ (Zw 9 nd (Gg (cl:=Wt s.heap.objs.size) (N:=zE6) FA hr rfl mA kA bA (ZX (Gx (P:=T) (cl:=Wt s.heap.objs.size) rfl CC e0 rfl rfl)) (λy c h=>Bs h) ZPh CM λ_=>rfl))
  (ZQ (Zv (YJ WW (WP hu (pv 4) (pv 8)) ZN (Z3 _)) (ZU (Zn (Zp c2 e5 (Zg (pv 9) (Yq (Zg Ym (pv 8))))))) Z1)
  (ZQ (QT hu (pv 4) (pv 8) (Zu QI (WP hu (pv 4) (pv 8)) ZN) rfl)
  (ZQ (Xe (Zp DS a3 (Zg (pv 3) (pv 4))))
  (ZU (Zn (VN (Ef hr.units0) (pv 9) (Yq (Zg Ym OO)) (Z3 _)))))))),λH H3 Q p st LN a m ns W r O e9 x3 W3 e7 a1 l0 c0 e4 k=>?_⟩
 obtain⟨i7,U⟩:=W.some;exists _,rfl,_,rfl,p,LN,iN ns,rfl,W3,e7,a1,by rw[zX];exact l0,by rw[zX];exact c0
 intro x H4 x4 W4 hx;obtain⟨b,bn,rfl⟩:=zM.mp hx;have Z:=e4 b bn;have xx:ZJ p H H4:=x3.trans x4;have S4:=r.sx O U xx;have G:ZP H4 T qG:=ZP.ext e9 ⟨λb φ e=>xx _ _ e (ZD e U),λb φ e=>xx _ _ e (ZD e U)⟩;obtain⟨i5,ls,U4,a8⟩:=S4.sh;obtain⟨gs,G4⟩:=S4.gr;obtain⟨i6,R,_⟩:=id G;obtain⟨i3,a2,c9⟩:=S4.hd;clear a1 W3 x3 x4 hx;refine CQ (CB:=CB) (C:=C) (f4:=f4) (j0:=8) (j1:=2) L X4 F4 DM G rfl rfl rfl rfl U4 G4.len G4.up Z (λh0 d t g B ht=>?_) (λh0 d t c1 c5 a6 g B U5 sl kp ht=>?_)
 ·have c6:=g _ _ (ZD a2 R) a2;have hg:Zi d a.dH (.int (b:Nat)) (some (.int (m.ho b:Nat))):=c9.2 b Z ▸ Zi.k (k:=Sum.inl (b:Int)) c6;exists _,rfl,_,rfl,a.dH,.int (m.ho b:Nat),rfl,hg,rfl,_,rfl;rw[show decide (V.int ((m.ho b:Nat):Int)=V.int 0)=true from by rw[h0];rfl]
  refine Z8 ⟨_,rfl,_,rfl,YC,λt2 X=>?_⟩;have g6:=Za X (.tup [.str "held",.int (b:Nat)]);exists .ref t,.ref t2,.tup [.str "held",.int (b:Nat)],5,rfl,.tup (g6 _ _ ht) (.cons (.str _) (.cons (.int _) .nil)),.tup ZK (.cons (.str _) (.cons (.int _) .nil)),rfl,by decide
  intro H7 s7;have Y:=g6.trans s7;exact k H7 m (λc o nT np v e=>Y _ _ (g _ _ nT (xx _ _ e np))) (ZP.ext B (YL.same Y)) (Go S4 λc o z e=>Y _ _ (g _ _ (ZD e R (z _)) e)) rfl (wC.refl _)
 ·have D:=Gf (H':=d) S4 λc o nt n1 n2 n3 n4 e=>g c o (ZD e R (nt _)) n2 (n4 b Z).1 (λj hj=>(n4 j hj).2) e;obtain⟨l,u,hH⟩:=D.hd;obtain⟨YY,F⟩:=D.lw;obtain⟨c8,G5⟩:=D.gr;have i0:=D.told;have lh:l.length=m.lv.length:=by have:=congrArg xY hH.1;simpa using this
  have a9:=r.l64;have hg:Zi d a.dH (.int (b:Nat)) (some (.int (m.ho b:Nat))):=hH.2 b Z ▸ Zi.k (k:=Sum.inl (b:Int)) u;exists _,rfl,_,rfl,a.dH,.int (m.ho b:Nat),rfl,hg,rfl,_,rfl;rw[show decide (V.int ((m.ho b:Nat):Int)=V.int 0)=false from aJ (by intro z;have:=V.int.inj z;lia)]
  refine Zl ⟨_,rfl,_,rfl,a.dH,.int (m.ho b:Nat),rfl,hg,_,_,rfl,rfl,_,rfl,_,rfl,a.dH,_,rfl,XI.k (k:=Sum.inl (b:Int)) u (YQ ∅),?_⟩
  have e1:((m.ho b:Nat):Int)-1=((m.ho b-1:Nat):Int):=∅
  have R6:=OS (o':=.dK (Z2 l (.inl (b:Int)) (.int (((m.ho b:Nat):Int)-1)))) U5.sh u r.dd.2.1.symm;have ke:∀ c o,c≠a.dH->d c=some o->upd d a.dH (.dK (Z2 l (.inl (b:Int)) (.int (((m.ho b:Nat):Int)-1)))) c=some o:=λc o n e=>by rw[ZM n];exact e
  have I:upd d a.dH (.dK (Z2 l (.inl (b:Int)) (.int (((m.ho b:Nat):Int)-1)))) a.dH=some (.dK (Z2 l (.inl (b:Int)) (.int ((m.ho b-1:Nat):Int)))):=by rw[ZK,e1]
  generalize upd d a.dH (.dK (Z2 l (.inl (b:Int)) (.int (((m.ho b:Nat):Int)-1))))=H6 at R6 ke I⊢;have k6:∀ c o,(∀ us,o≠.dK us)->d c=some o->H6 c=some o:=λc o n e=>ke c o (ZD e u (n _)) e;have i1:YK d H6:=λc ys e=>k6 c _ (by intro _ z;cases z) e
  have a0:XW H6 a.dT m.ts m.lv a.bs YY:=F.frame i1 (ke _ _ r.dd.2.2 F.dict) λi hi o e=>by
   obtain⟨tp,us,_,_,e3,_⟩:=F.tw i hi;exact k6 _ _ (by have e2:=e.symm.trans e3;cases e2;intro _ z;cases z) e
  exists _,rfl,_,rfl,a.dT,a.dH,m.ts,m.lv,c1,a.bs,YY,_,Ws m.ho b,rfl,a0,U5.wf,I,IY hH Z,r.dd.2.2,a9,U5.vl,sl,kp,U5.all;intro H7 a7 a4 J c4 c7 c3;have a5:∀ c o,(∀ us,o≠.dK us)->d c=some o->H7 c=some o:=λc o n e=>J c o (ZD e F.dict (n _)) (ZD e u (n _)) (k6 c o n e);have R7:=F6 R6 a0.dict I r.dd.1.symm r.dd.2.1.symm J;have e6:=a5 _ _ (by intro _ z;cases z) ht
  exists _,rfl,YC;intro t2 X;have M:=Za X (.tup [.str "told",.non]);have q:∀ c o,(∀ us,o≠.dK us)->d c=some o->upd H7 t2 (.tup [.str "told",.non]) c=some o:=λc o n e=>M _ _ (a5 c o n e);exists t,t2,[.str "told",.non],rfl,rfl,Zd.of (M _ _ e6),Zd.of ZK,λv hv=>?_
  ·rcases yZ.mp hv with z | z
   ·rw[z];rfl
   ·rw[zC.mp z];rfl
  generalize upd H7 t2 (.tup [.str "told",.non])=H8 at M q⊢;have i2:YK d H8:=λc ys e=>q c _ (by intro _ z;cases z) e
  refine k H8 ⟨m.ts,c1,c5,Ws m.ho b⟩ (λc o nT np v e=>?_) (ZP.ext B ⟨λb φ e=>q _ _ (by intro _ z;cases z) e,λb φ e=>q _ _ (by intro _ z;cases z) e⟩) ⟨⟨a6,ls,U5.frame (R7.same M),a8⟩,⟨a7,c4.same M⟩,⟨a4,M _ _ c7,c3⟩,⟨c8,G5.frame i2 (q _ _ (by intro _ z;cases z) G5.at_)⟩,q _ _ (by intro _ z;cases z) i0,r.dd,r.tt,λi hi=>r.t2 i (sl.subset hi),λi hi=>?_,xP sl.length_le a9,r.l700⟩ rfl sl
  ·obtain⟨_,v2,_,v4,v5,_,v7⟩:=v;exact M _ _ (J c o v4 v5 (ke c o v5 (g c o nT v2 (v7 b Z).1 (λj hj=>(v7 j hj).2) (xx _ _ e np))))
  ·obtain⟨t1,e8,t3⟩:=r.t3 i (sl.subset hi);exact⟨t1,e8,λj hj=>t3 j (sl.subset hj)⟩
def EY{gt:jp}{CB:aj}{C:Nat->aj}{c T f4:aj}(F:Zj K "_law_let_go" "_law_let_go" VQ f fd)(hf:zR K ao "_law_let_go" = some (some (.ref f)))(B:yK K "_law_let_go" = some (c,T))(CC:xV jV c T)(a0:jV.BuiltinsAt mg T)(X:YO mg)(L:Yg K mg jg jh)(X4:XC K CB C 4)(F4:Yd K (C 4) f4 "number")(DM:ZE P w K mg jV (Z9 P w) 68 jg "let_go" zEa (Ya gt jg jh (C 4)))(DQ:ZB P w K mg jV 71 "_law_asked" zE1 (YM P w K mg jV CB C))(DP:ZB P w K mg jV 1 "_law_pull" zEf YT)(DK:ZB P w K mg jV 2 "_law_picked" zEg YA)(DS:ZB P w K mg jV 2 "_law_swept" zEq (Xg gt))(S:ZB P w K mg jV 7 "_law_alike" zEd (YF 6)):
  ZI P w K mg jV ZZ 72 f fd zEb (Xt gt jg jh T):=by
 refine F.okC hf B Xl (λvs H Q E h=>(by obtain⟨_,_,_,_,rfl,_⟩:=h;rfl)) (λA o s H vs Q E hr h=>?_)
 obtain⟨p,st,a,m,rfl,W,a4,u,O,l0,I,k⟩:=h;obtain⟨tT,hT,qT⟩:=Cr (Hs:=H) (outer:=o) (E:=E) CC a0 L X4 F4 DM DQ DK DS S hr;have l:=Xl.nd;have hu:=Wj hr;have a3:=hr.mono (show 1<=71 by lia)
 refine⟨_,ZQ (Qt (pv 1) (Q7 rfl (Y7 (QX (i:=2) l rfl (Or.inr rfl)) (Y7 (Yb 3 l) (Y7 (QX (i:=4) l rfl (Or.inr rfl)) (Y7 (Yb 5 l) (Y7 (Yb 6 l) Q4)))))))
  (ZQ (OR (i:=7) [4] ["_law_holds"] l rfl rfl rfl (WZ (Zm (QL rfl) rfl X.sorted UW (ZX (pv 3)))) (λ_ _ _ _ _=>NN (YJ QH (WP hu (pv 1) (pv 0)) ZN (Z3 _))) (λ_ _ _ _ _=>pv 0) ⟨rfl,.inl rfl,rfl,trivial⟩)
  (ZQ (Zv (YJ WW (Zp DP a3 (Zg (pv 0) ZN)) ZN (Z3 _)) (ZU (Zw 7 l (Zm (QL rfl) rfl X.sorted UW (ZX (pv 3))))) Z1) hT)),?_⟩
 obtain⟨a9,a2⟩:=W.some;obtain⟨a8,ls,U,a6⟩:=u.sh;obtain⟨J,t⟩:=u.lw;obtain⟨a7,a1,hH⟩:=u.hd;have bp:∀ i:Nat,i∈m.lv->a.bs.getD i 0≠p:=λi v=>(O.tw i v).2.2;have D:=u.l64;have d:∀ c,H c=none->c≠p:=λc e=>(ZY a2 e).symm;have eL:(m.lv.map λi:Nat=>(i:Int)).map V.int=iN m.lv:=by rw[zL];rfl
 exists _,rfl,st,_,rfl,Zd.of a4,rfl,_,_,rfl,_,_,rfl,_,_,rfl,_,_,rfl,_,_,rfl,rfl;exists _,rfl,a.dT,J,m.lv.map λi:Nat=>(i:Int),rfl,t.dict,(by rw[t.keys,zL];rfl),US t.vl.up,by simpa using D
 intro q nq;rw[eL];have N:=Za nq (.lst (iN m.lv));have y:upd H q (.lst (iN m.lv)) q=some (.lst (iN m.lv)):=ZK;generalize upd H q (.lst (iN m.lv))=H1 at N y⊢;refine⟨q,rfl,⟨_,ZH.of y⟩,MF m.lv (λj=>decide (0<m.ho j)) ∅ (λi M g v=>⟨_,.int (m.lv[i]:Nat),ZH.of (g _ _ y),by simp[iN,zU v]⟩) (λi M x H4 g v hy=>⟨hy.1,hy.2 _ (ZH.of (g _ _ y))⟩) (λM g=>⟨_,ZH.of (g _ _ y),by simp[iN]⟩) (λH2 j R hj s2 hR=>?_) (λD5 H2 s2 a5 e5=>?_)⟩
 ·have hg:Zi H2 a.dH (.int (j:Nat)) (some (.int (m.ho j:Nat))):=hH.2 j hj ▸ Zi.k (k:=Sum.inl (j:Int)) ((N.trans s2) _ _ a1);have ed:decide (((m.ho j:Nat):Int) > 0)=decide (0<m.ho j):=by rw[decide_eq_decide];lia
  exists _,rfl,_,rfl,a.dH,.int (m.ho j:Nat),rfl,hg,_,_,rfl,rfl,_,rfl;rw[ed];exact hR
 have G:=N.trans s2;have n5:H D5=none:=ZC.free N a5;refine⟨_,rfl,p,6,rfl,W.same G,VW (by decide) (by decide),λr M r0 r1 Y g=>⟨rfl,_,rfl,?_⟩⟩
 have x3:ZJ p H M:=(ZJ.of G).trans g;refine WV (λc=>?_) (λc=>?_)
 ·exists _,rfl,a.dT,J,m.lv.map λi:Nat=>(i:Int),rfl,(t.sx W bp x3).dict,(by rw[t.keys,zL];rfl),US t.vl.up,by simpa using D
  intro q2 n;rw[eL];have g4:=Za n (.lst (iN m.lv));refine qT H _ Q p st q2 a m m.lv W u O I (x3.trans (ZJ.of g4)) (Y.same g4) (λz=>?_) ZK l0 ∅ (λb Z=>Z) k
  obtain⟨xs,e'⟩:=Y.some;rw[z,e'] at n;cases n
 ·refine qT H _ Q p st D5 a m _ W u O I x3 Y (d _ n5) (g _ _ e5 (d _ n5)) ?_ (zI (vD _ _) ∅) (λb Z=>(xU.mp Z).1) k
  obtain⟨i,v⟩:=sD l0;obtain⟨j,hj,hp⟩:=(U.all i v).held';exact vU.mpr (List.ne_nil_of_mem (xU.mpr ⟨hj,aK hp⟩))
end Tw
namespace L2
open PySem PySem.Spec PyProof.Rows
inductive QB(x y:V)(H:Hp)(Q:VK):Prop
 |mk(a b:aj)(c:List (ZR×V))(_:x=.ref a)(_:y=.ref b)(_:H a=some (.dK c))(_:H b=some (.dK []))(_:Q (.bl c.isEmpty) H)
def ZLX{X:Cx}(m:X.A.units+1<cLine):Yi X (ay .Eq) (QB):=by
 intro j s D H x y v u Q I n o h;obtain⟨a,b,t,rfl,rfl,k,l,q⟩:=h;cases n;cases o;obtain⟨B,g,p,c,d⟩:=Ox I.hok k;obtain⟨C,i,z,YY,f⟩:=Ox I.hok l;have w:=KV.length c;cases YY;refine PySem.W.keq_eq (r:=true) g i d f (Nat.lt_of_succ_lt m) (λe=>?_) ?_
 ·cases p with
  | nil=>exact .nil
  | cons _ _=>cases e
 ·refine Yf I q ?_;cases c <;> rfl
end L2
namespace Tw
open PySem PySem.Spec L2 PyProof.Rows
variable{jg jh CS CT CH CK CP CB:aj}
section
variable{gt:jp}{jg jh:aj}{H H':Hp}{a:Pl}{m m':Md}
def LS.kd(h:LS gt jg jh H a m){c:aj}{o:HO}(e:H c=some o)(k:∀ C g l,o≠.ins C g l)(b:∀ f,o≠.dK f)(d:∀ f,o≠.lst f):Ze a m c:=by
 obtain⟨u,w,R⟩:=h.shp;obtain⟨YY,L⟩:=h.lw;obtain⟨s,p,_⟩:=h.hd;obtain⟨⟨v,n⟩,q,r⟩:=R.sh;exists ZD e n (k _ _ _),ZD e q (b _),ZD e r (d _),ZD e L.dict (b _),ZD e p (b _),ZD e h.told (d _);intro i j;obtain⟨g,t⟩:=(R.tw i j).tw.self;exact⟨ZD e t (k _ _ _),ZD e (R.tw i j).tw.above (d _)⟩
def Ze.sub{c:aj}(v:Ze a m c)(s:m'.lv.Sublist m.lv):Ze a m' c:=⟨v.1,v.2.1,v.2.2.1,v.2.2.2.1,v.2.2.2.2.1,v.2.2.2.2.2.1,λi b=>v.2.2.2.2.2.2 i (s.subset b)⟩
def LS.tabs(h:LS gt jg jh H a m){p T:aj}{q:Str}{i:je}(g:H p=some (.lst i))(d:ZP H T q)(f:∀ c o,H c=some o->Ze a m c->c≠p->H' c=some o):ZP H' T q:=
 ZP.ext d ⟨λb j e=>f _ _ e (h.kd e (by intro _ _ _ z;cases z) (by intro _ z;cases z) (by intro _ z;cases z)) (ZD e g),λb j e=>f _ _ e (h.kd e (by intro _ _ _ z;cases z) (by intro _ z;cases z) (by intro _ z;cases z)) (ZD e g)⟩
end
inductive Vo(gt:jp)(jg jh T:aj)(h:je)(H:Hp)(Q:VK)(_:XK):Prop
 |mk(p g:aj)(a:Pl)(m:Md)(_:h=[.ref p,.ref g])(_:ZL H p)(_:H g=some (.tup (Xd a)))(_:LS gt jg jh H a m)(_:WT a m p)(_:m.ts.length<=600)(_:ZP H T qG)(_:∀(b:Hp)(d:Pl)(e:Md),(∀ c o,H c=some o->Ze a m c->Ze d e c/\(c≠p->c≠T->b c=some o))->LS gt jg jh b d e->Xd d=Xd a->e.ts.length<=m.ts.length+1->ZP b T qG->Q (.bl true) b)
def Ui:ZA zEb zEb (Zc Ms):=Zz
def ZMo{gt:jp}{T:aj}(F:Zj K "_law_deed" "_law_deed" Ms f fd)(DP:ZB P w K mg jV 1 "_law_pull" zEf YT)(Y:ZB P w K mg jV 11 "_law_put_leaf" zEi (YI gt jg jh))(DH:ZB P w K mg jV 3 "_law_hold" zEb (Wd gt jg jh))(DG:ZB P w K mg jV 72 "_law_let_go" zEb (Xt gt jg jh T)):ZI P w K mg jV ZZ 73 f fd zEb (Vo gt jg jh T):=by
 refine F.ko Ui λa5 A a2 s H vs Q E L h=>?_;obtain⟨p,S,a,m,rfl,W,B,Z,O,l6,a3,k⟩:=h;have nd:=Ui.nd;have hu:=Wj L;have M:=L.mono (show 1<=72 by lia)
 have a1:=L.mono (show 3<=72 by lia)
 have N:=L.mono (show 11<=72 by lia)
 intro Xc;refine⟨_,ZQ (Zv (YJ (ZLX hu) (Zk K (pv 1) ZN) NJ (Z3 _)) (ZU (Zn (Zp Y N (Qc (pv 0) (Zg (pv 1) (Zp DP M (Zg (pv 0) ZN))))))) Z1)
  (ZQ (Zv (YJ WW (Zp DP M (Zg (pv 0) ZN)) ZN (Z3 _)) (ZU (Zn (Zp DH a1 (Zg (pv 0) (pv 1))))) Z1)
  (ZU (Zn (Zp DG L (Zg (pv 0) (pv 1)))))),?_⟩
 obtain⟨a8,J⟩:=W.some;obtain⟨t,Lw⟩:=Z.lw;have lk:t.length=m.lv.length:=by have:=congrArg xY Lw.keys;simpa using this
 have a7:=Z.l64;refine⟨_,rfl,.inr (.inl ⟨S,_,1,.ref a.dT,rfl,rfl,Zd.of B,rfl,λe0 a0=>?_⟩)⟩;have l:=Za a0 (.dK []);exists a.dT,e0,t,rfl,rfl,l _ _ Lw.dict,ZK,_,rfl;have S1:=Z.same l;have W1:=W.same l;have i:=l _ _ B;have j:=ZP.ext a3 (YL.same l);have d:=l _ _ J;generalize upd H e0 (.dK [])=H1 at l S1 W1 i j d⊢;have U:S≠p:=ZD B J
 cases c:t.isEmpty with
 | true=>
  have el:m.lv.length=0:=by rw[<-lk,List.isEmpty_iff.mp c];rfl
  refine Z8 ⟨_,rfl,_,rfl,_,rfl,p,16,rfl,W1,VW (by decide) (by decide),λr H2 r0 r1 D g=>?_⟩
  have C:=S1.sx O d g;exists p,S,r,a,m,rfl,D,g _ _ i U,C,O,∅,∅,∅,by lia
  intro G a' R kp W3 I O3 eS a6 ev;obtain⟨a4,q⟩:=D.some;refine k G a' R (λc o e v=>?_) I eS ∅ (C.tabs q (ZP.ext j ⟨λb φ e=>g _ _ e (ZD e d),λb φ e=>g _ _ e (ZD e d)⟩) λc o e v n=>(kp c o e v).2 n)
  by_cases y:c=p
  ·subst y;exact⟨(kp _ _ q v).1,λz=>absurd rfl z⟩
  ·obtain⟨v1,v2⟩:=kp c o (g _ _ (l _ _ e) y) v;exact⟨v1,λn _=>v2 n⟩
 | false=>
  have el:0<m.lv.length:=by
   rw[<-lk]
   cases t with
   | nil=>cases c
   | cons _ _=>exact Nat.succ_pos _
  refine Zl ⟨_,rfl,p,3,rfl,W1,VW (by decide) (by decide),λr H2 r0 r1 D g=>⟨rfl,_,rfl,?_⟩⟩
  have C:=S1.sx O d g;have u:=g _ _ i U;have x:ZP H2 T qG:=ZP.ext j ⟨λb φ e=>g _ _ e (ZD e d),λb φ e=>g _ _ e (ZD e d)⟩;obtain⟨a4,q⟩:=D.some;refine WV (λ_=>?_) (λ_=>?_)
  ·exists _,rfl,_,rfl,p,S,a,m,rfl,D,u,C,O,el;intro G R X I et sl;exact k G a R (λc o e v=>⟨v.sub sl,λn _=>X c o n v (g _ _ (l _ _ e) n)⟩) I rfl (by rw[et];lia) (C.tabs q x λc o e v n=>X c o n v e)
  ·exists _,rfl,_,rfl,p,S,a,m,rfl,D,u,C,O,el,x;intro G R X V I et sl;exact k G a R (λc o e v=>⟨v.sub sl,λn nT=>X c o nT n v (g _ _ (l _ _ e) n)⟩) I rfl (by rw[et];lia) V
inductive Wc(b c:aj)(K:zZ)(f:je)(H:Hp)(Q:VK)(_:XK):Prop
 |mk(a:aj)(d:jz)(_:f=[.ref a])(_:ZH K H a (d.map V.int))(_:d.length<=63)(_:H b=some (.tbl #[]))(_:H c=some (.tbl #[]))(_:b≠c)(_:∀ e,Q (.bl true) e)
def Cd{K:zZ}{H c:Hp}{a:aj}{d:je}(m:∀ b o,H b=some o->(∀ e,o≠.tbl e)->c b=some o)(h:ZH K H a d):ZH K c a d:=by
 rcases h with (h | ⟨o,h⟩) | h
 ·exact .inl (.inl (m _ _ h (by intro _ z;cases z)))
 ·exact .inl (.inr ⟨o,m _ _ h (by intro _ z;cases z)⟩)
 ·exact .inr h
def QK(a:jp->Sp):Sp:=λb H Q E=>∃ g,a g b H Q E
def MK{P:al}{w:ar}{K:zZ}{n:jb}{e:aC}{l:WR}{k:Nat}{f:aj}{m:am}{o:jr}{p:jp->Sp}(h:∀ g,ZI P w K n e l k f m o (p g)):ZI P w K n e l k f m o (QK p):=
 ⟨λj H Q E ⟨g,x⟩=>(h g).len j H Q E x,λA i s H args q j Q E a b c d ⟨g,x⟩=>(h g).run A i s H args q j Q E a b c d x⟩
inductive Wm(jg jh T:aj)(e:je)(H:Hp)(Q:VK)(_:XK):Prop
 |mk(p:aj)(_:e=[.ref p,.int 12,.int 8])(_:ZL H p)(_:ZP H T qS)(_:∀(b:Hp)(d:aj)(gt:jp)(a:Pl)(m:Md),(∀ c o,H c=some o->Ze a m c/\(c≠p->c≠T->b c=some o))->b d=some (.tup (Xd a))->LS gt jg jh b a m->m.ts.length<=20->Q (.ref d) b)
abbrev ZNR:jr:=["_law_well_here","_law_leaves","_law_stems","_law_state","_law_j"]
def Vu:ZA ZNR zEl (Zc KJ):=Zz
def Ci{T:aj}(F:Zj K "_law_begun" "_law_begun" KJ f fd)(X:YO mg)(L:Yg K mg jg jh)(DI:UD P w K mg jV 1 jg zEn (Uw jg))(DG:ZB P w K mg jV 2 "_law_grid" zE4 Vp)(e7:ZB P w K mg jV 11 "_law_put_leaf" zEi (QK λgt=>YI gt jg jh))(e8:ZB P w K mg jV 72 "_law_put_stem" zEb (QK λgt=>Y1 gt jg jh T)):
  ZI P w K mg jV ZZ 73 f fd zEl (Wm jg jh T):=by
 refine F.ko Vu λl9 A l5 s H vs Q E hr h=>?_;obtain⟨p,rfl,W,e2,k⟩:=h;have nd:=Vu.nd;have c9:=hr.mono (show 2<=72 by lia)
 have c8:=hr.mono (show 11<=72 by lia)
 intro Xc;refine⟨_,ZQ (Zw 3 nd (Yq (Et (ZNL DI c9 rfl L.shelf) NJ NJ (Zp DG c9 (ZX (pv 0))) (XR Zs))))
  (ZQ (VV PassesOwn.never rfl (Ob rfl X.range (ZX (pv 1))) (Yb 4 nd) (ZU (Zv (XU (Ye (Zp e7 c8 (Qc (pv 0) (Zg (pv 3) (pv 4)))))) WY Z1)))
  (ZQ (VV PassesOwn.never rfl (Ob rfl X.range (ZX (pv 2))) (Yb 4 nd) (ZU (Zv (XU (Ye (Zp e8 hr (Zg (pv 0) (pv 3))))) WY Z1)))
  (ZU (Zn (pv 3))))),?_⟩
 obtain⟨m6,R⟩:=W.some;intro S e nS ne z1;have i1:∀ b o,H b=some o->upd (upd H e (.own S)) S (.ins jg e []) b=some o:=λb o q=>by
  rw[ZM (ZY q nS),ZM (ZY q ne)];exact q
 have f1:∀ b,upd (upd H e (.own S)) S (.ins jg e []) b=none->H b=none:=λb q=>by
  cases z:H b with
  | none=>rfl
  | some o=>rw[i1 b o z] at q;cases q
 refine⟨S,e,rfl,ZK,λH1 d lk i0 i9 a2 m0 R1=>⟨rfl,?_⟩⟩;have e0:ZC H H1:=λb o q=>i0 b o (ZY q nS) (i1 b o q);intro B a7;have g2:=Za a7 (.dK []);intro r a6;have g3:=Za a6 (.dK []);have a4:upd (upd H1 B (.dK [])) r (.dK []) B=some (.dK []):=g3 _ _ ZK;have a3:upd (upd H1 B (.dK [])) r (.dK []) r=some (.dK []):=ZK;have c0:=g2.trans g3;have e9:B≠r:=ZY ZK a6;have a1:H1 r=none:=g2.free a6;generalize upd (upd H1 B (.dK [])) r (.dK [])=H3 at a4 a3 c0⊢;have a9:=e0.trans c0;have R3:=R1.same c0;exists _,rfl,p,rfl,W.same a9;intro Z gs gt H4 s4 W4 a8 c6 c7 i5 i6 i8;exists YC;intro u G;have g5:=Za G (.lst []);exists YC;intro J l0;have g6:=Za l0 (.tup [.ref S,.ref B,.ref r,.ref Z,.ref u]);have c1:upd (upd H4 u (.lst [])) J (.tup [.ref S,.ref B,.ref r,.ref Z,.ref u]) u=some (.lst []):=g6 _ _ ZK;have a0:upd (upd H4 u (.lst [])) J (.tup [.ref S,.ref B,.ref r,.ref Z,.ref u]) J=some (.tup [.ref S,.ref B,.ref r,.ref Z,.ref u]):=ZK;have U:=g5.trans g6;generalize upd (upd H4 u (.lst [])) J (.tup [.ref S,.ref B,.ref r,.ref Z,.ref u])=H6 at c1 a0 U⊢;have O:=a9 _ _ R;have D:∀ c o,c≠p->H3 c=some o->H6 c=some o:=λc o n q=>U _ _ (s4 _ _ q n);obtain⟨⟨dS,c2⟩,c5,N⟩:=R3;have m1:H S=none:=nS;have a5:lk≠p:=(ZY R (f1 _ a2)).symm;have i2:Z≠p:=λz=>by rw[z,O] at a8;cases a8
 have e5:u≠p:=λz=>by
  obtain⟨xs,q⟩:=W4.some;rw[z,q] at G;cases G
 have n4:∀ c o,c≠p->H3 c=some o->H4 c=some o:=λc o n q=>s4 _ _ q n;have A0:LS gt jg jh H6 ⟨S,d,lk,B,r,Z,u,[],[]⟩ ⟨[],[],λ_=>[],λ_=>0⟩:=by
  have e6:Lv [] []:=⟨λi h=>(by cases h),λi h=>(by cases h),.nil⟩
  refine⟨⟨[],[],⟨⟨⟨⟨dS,D _ _ (ZD c2 O) c2⟩,D _ _ (ZD c5 O) c5,D _ _ a5 N⟩,rfl,λi g=>absurd g (by simp),λi g=>absurd g (by simp),rfl,λi g=>absurd g (by simp),λi g=>absurd g (by simp),λi j g=>absurd g (by simp)⟩,λi t q=>by simp at q,e6,λi g=>absurd g (by simp),λi g=>absurd g (by simp),by simp⟩,by simp⟩,
   ⟨[],D _ _ (ZD a4 O) a4,e6,rfl,rfl,λi g=>absurd g (by simp)⟩,⟨[],D _ _ (ZD a3 O) a3,rfl,λi g=>absurd g (by simp)⟩,⟨gs,U _ _ c6,c7.sm U,i5,by rw[c7.length,i6],i8⟩,c1,?_,?_,λi g=>absurd g (by simp),λi g=>absurd g (by simp),by simp,by simp⟩
  ·obtain⟨_,c4,_⟩:=id R1;exact⟨(ZY c4 a7).symm,(ZY c4 a1).symm,e9⟩
  ·exact⟨(ZY (n4 _ _ a5 N) G).symm,(ZY c6 G).symm,ZY N a8⟩
 have O0:WT ⟨S,d,lk,B,r,Z,u,[],[]⟩ ⟨[],[],λ_=>[],λ_=>0⟩ p:=⟨a5,i2,e5,λi g=>absurd g (by simp)⟩
 have V0:∀ c o,H c=some o->Ze ⟨S,d,lk,B,r,Z,u,[],[]⟩ ⟨[],[],λ_=>[],λ_=>0⟩ c/\(c≠p->H6 c=some o):=λc o q=>by
  have q1:=e0 _ _ q;have q3:=a9 _ _ q;have l6:c≠u:=by
   by_cases y:c=p
   ·rw[y];exact e5.symm
   ·exact ZY (n4 _ _ y q3) G
  exact⟨⟨ZY q nS,ZY q (f1 _ i9),ZY q (f1 _ a2),ZY q1 a7,ZY q1 a1,l6,λi g=>absurd g (by simp)⟩,λy=>D _ _ y q3⟩
 have W6:ZL H6 p:=W4.same U;have e1:J≠p:=λz=>by
  obtain⟨xs,q⟩:=W6.some;rw[z,q] at a0;cases a0
 obtain⟨m2,i3,_⟩:=id e2;have Tp:T≠p:=ZD i3 R;have e3:ZP H6 T qS:=ZP.ext e2 ⟨λb φ e=>(V0 _ _ e).2 (ZD e R),λb φ e=>(V0 _ _ e).2 (ZD e R)⟩;refine⟨_,rfl,12,rfl,by decide,by decide,Pa (n:=12) (λi σ M=>∃(x:jf)(a:Pl)(m:Md),σ=[some (.ref p),some (.int 12),some (.int 8),some (.ref J),x]/\M J=some (.tup (Xd a))/\ZL M p/\LS gt jg jh M a m/\WT a m p/\m.ts.length=i/\m.lv.length=i/\ZP M T qS/\∀ c o,H c=some o->Ze a m c/\(c≠p->c≠T->M c=some o))
  ⟨none,⟨S,d,lk,B,r,Z,u,[],[]⟩,⟨[],[],λ_=>[],λ_=>0⟩,rfl,a0,W6,A0,O0,rfl,rfl,e3,λc o e=>⟨(V0 c o e).1,λn _=>(V0 c o e).2 n⟩⟩ ?_ ?_⟩
 ·rintro i σ H7 g ⟨x,a,m,rfl,l,W7,A7,O7,l7,v7,C,V7⟩;refine⟨_,rfl,_,rfl,_,rfl,gt,p,J,_,a,m,rfl,W7,l,A7,O7,∅,∅,∅,∅,λH8 a' m' I W8 A8 O8 eS el ev=>⟨_,rfl,Zl ⟨_,a',m',rfl,?_,W8,A8,O8,∅,by rw[ev,zE,xI];lia,?_,λc o q=>?_⟩⟩⟩
  ·rw[eS];exact(I _ _ l (A7.tup l)).2 e1
  ·obtain⟨m5,i7⟩:=W7.some;exact A7.tabs i7 C λc o e v n=>(I c o e v).2 n
  ·obtain⟨v1,v2⟩:=V7 c o q;by_cases y:c=p
   ·subst y;obtain⟨xs,q'⟩:=W7.some;exact⟨(I _ _ q' v1).1,λz=>absurd rfl z⟩
   ·by_cases y2:c=T
    ·subst y2;obtain⟨m3,i4,_⟩:=id C;exact⟨(I _ _ i4 v1).1,λ_ z=>absurd rfl z⟩
    ·exact⟨(I _ _ (v2 y y2) v1).1,λ_ _=>(I _ _ (v2 y y2) v1).2 y⟩
 ·rintro σ H7 ⟨x,a,m,rfl,l,W7,A7,O7,l7,v7,C,V7⟩;refine⟨_,rfl,8,rfl,by decide,by decide,Pa (n:=8) (λi σ M=>∃(x:jf)(a:Pl)(m:Md),σ=[some (.ref p),some (.int 12),some (.int 8),some (.ref J),x]/\M J=some (.tup (Xd a))/\ZL M p/\LS gt jg jh M a m/\WT a m p/\m.ts.length<=12+i/\12<=m.lv.length/\m.lv.length<=12+i/\ZP M T qS/\∀ c o,H c=some o->Ze a m c/\(c≠p->c≠T->M c=some o))
   ⟨x,a,m,rfl,l,W7,A7,O7,∅,∅,∅,C,V7⟩ ?_ ?_⟩
  ·rintro i σ H8 g ⟨x,a,m,rfl,l,W8,A8,O8,l8,v8,u8,Y,V8⟩;obtain⟨m4,c3,_⟩:=id Y;refine⟨_,rfl,_,rfl,gt,p,J,a,m,rfl,W8,l,A8,O8,∅,∅,∅,Y,λH9 a' m' I A9 W9 O9 eS l1 l2 l3 l4 e4=>⟨_,rfl,Zl ⟨_,a',m',rfl,?_,W9,A9,O9,∅,∅,∅,e4,λc o q=>?_⟩⟩⟩
   ·rw[eS];exact(I _ _ l (A8.tup l)).2 e1 (ZD l c3)
   ·obtain⟨v1,v2⟩:=V8 c o q;by_cases y:c=p
    ·subst y;obtain⟨xs,q'⟩:=W8.some;exact⟨(I _ _ q' v1).1,λz=>absurd rfl z⟩
    ·by_cases y2:c=T
     ·subst y2;exact⟨(I _ _ c3 v1).1,λ_ z=>absurd rfl z⟩
     ·exact⟨(I _ _ (v2 y y2) v1).1,λ_ _=>(I _ _ (v2 y y2) v1).2 y y2⟩
  ·rintro σ H8 ⟨x,a,m,rfl,l,W8,A8,O8,l8,v8,u8,Y,V8⟩;exact⟨_,rfl,k _ J gt a m V8 l A8 ∅⟩
abbrev BC:jr:=["_law_script","_law_state","_law_k"]
def PL:ZA BC zFa (Zc Qs):=Zz
def EI{T1 T2:aj}(F:Zj K "law" "law" Qs f fd)(X:YO mg)(DW:ZB P w K mg jV 1 "_law_well" zEy (Vd K))(DB:ZB P w K mg jV 73 "_law_begun" zEl (Wm jg jh T1))(DD:ZB P w K mg jV 73 "_law_deed" zEb (QK λgt=>Vo gt jg jh T2))(DE:ZB P w K mg jV 8 "_law_exact" zEo (QK λgt=>Xi gt jg jh)):ZI P w K mg jV ZZ 80 f fd zFa (Wc T1 T2 K):=by
 refine F.ko PL λc8 A c5 s H vs Q E hr h=>?_;obtain⟨z,G,rfl,a2,hn,a4,a7,c3,k⟩:=h;have nd:=PL.nd;have a9:=hr.to 1;have L:=hr.to 8;have D:=hr.to 73;intro Xc;refine⟨_,ZQ (Zw 1 nd (Zp DB D (Qc (Zp DW a9 (Zg (pv 0) ZN)) (Zg ZN ZN))))
  (ZQ (Zv (PW.pt (VI (Qm (ML (pv 1))) (UR (XU (Ye (Zp DE L (OY (Zk K (pv 1) ZN) (Zk K (pv 1) ZN) (Zk K (pv 1) ZN)))))))) WY Z1)
  (ZQ (VV PassesOwn.never rfl (Nh rfl X.range (Zg ZN (Zm (IF rfl) rfl X.max Oq (Zg ZN (Zm (ES rfl) rfl X.min D3 (Zg (Zm WA rfl X.len XQ (ZX (pv 0))) ZN)))))) (Yb 2 nd)
   (ZQ (Zv (XU (Ye (Zp DD D (Zg (Zp DW a9 (Zg (pv 0) (pv 2))) (pv 1))))) WY Z1)
   (ZU (Zv (PW.pt (Na (YJ WW (Zu Ue (pv 2) ZN) ZN (Z3 _)) (Mb (XU (Ye (Zp DE L (OY (Zk K (pv 1) ZN) (Zk K (pv 1) ZN) (Zk K (pv 1) ZN)))))))) WY Z1))))
  (ZU (Zn (Zp DE L (OY (Zk K (pv 1) ZN) (Zk K (pv 1) ZN) (Zk K (pv 1) ZN))))))),?_⟩
 have c0:∀{T:aj}{q:Str},H T=some (.tbl #[])->ZP H T q:=λhT=>⟨#[],hT,trivial,λc6 cv h=>by simp[PySem.codeAmong] at h⟩
 obtain⟨M,eM,M3,c7⟩:∃ M:Int,(if (if (51:Int)<((G.map V.int).length:Int) then (51:Int) else ((G.map V.int).length:Int)) > 13 then (if (51:Int)<((G.map V.int).length:Int) then (51:Int) else ((G.map V.int).length:Int)) else 13)=M/\13<=M/\M<=51:=by
  exists _,rfl,?_
  ·(repeat' split) <;> lia
  ·(repeat' split) <;> lia
 exists _,rfl,z,G,0,rfl,a2,hn,∅,by lia
 intro p H1 U s1 W1;exists p,rfl,W1,ZP.ext (c0 a4) (YL.same s1);intro H2 r gt a m V2 l A2 c9;have v:∀ c o,H c=some o->(∀ C,o≠.tbl C)->Ze a m c/\H2 c=some o:=λc o e q=>⟨(V2 _ _ (s1 _ _ e)).1,(V2 _ _ (s1 _ _ e)).2 (ZY e U) (ZD e a4 (q _))⟩;have I:ZP H2 T2 qG:=⟨#[],(V2 _ _ (s1 _ _ a7)).2 (ZY a7 U) c3.symm,trivial,λc6 cv h=>by simp[PySem.codeAmong] at h⟩
 have sq:∀(g:Hp),(∀ c o,H c=some o->(∀ C,o≠.tbl C)->g c=some o)->ZH K g z (G.map V.int):=λg c4=>Cd c4 a2;have J:∀(g:Hp)(a:Pl)(m:Md)(Q':VK),g r=some (.tup (Xd a))->LS gt jg jh g a m->(∀(Z:Hp)(a':Pl),(∀ c o,g c=some o->Ze a m c->Ze a' m c/\Z c=some o)->(∀ T q,ZP g T q->ZP Z T q)->LS gt jg jh Z a' m->Xd a'=Xd a->Q' (.bl true) Z) ->
   (QK λgt=>Xi gt jg jh) [.ref a.S,.ref a.dT,.ref a.dH] g Q' E0:=λg a m Q' h1 h2 h3=>⟨gt,a,m,rfl,h2,h3⟩
 refine⟨_,rfl,_,rfl,Zl ?_⟩;refine⟨_,rfl,.inr (.inl ⟨r,_,0,.ref a.S,rfl,rfl,Zd.of l,rfl,_,rfl,.inr (.inl ⟨r,_,1,.ref a.dT,rfl,rfl,Zd.of l,rfl,_,rfl,.inr (.inl ⟨r,_,2,.ref a.dH,rfl,rfl,Zd.of l,rfl,J H2 a m _ l A2 λg a3 N c1 A3 a0=>⟨_,rfl,Zl ?_⟩⟩)⟩)⟩)⟩;have d:g r=some (.tup (Xd a3)):=by
  rw[a0];exact(N _ _ l (A2.tup l)).2
 have j:∀ c o,H c=some o->(∀ C,o≠.tbl C)->Ze a3 m c/\g c=some o:=λc o e q=>N _ _ (v c o e q).2 (v c o e q).1;have t:=c1 _ _ I;clear N c1 v I A2 l V2 a0;exists _,rfl,z,G.map V.int,rfl,.inl (sq _ λc o e q=>(j c o e q).2),_,_,rfl,_,_,rfl,1,M,congrArg (λz=>[V.int 1,V.int z]) eM,⟨∅,∅,∅,∅⟩
 clear eM;refine Pa (lo:=1) (n:=(M-1).toNat) (λi σ g=>∃(x:jf)(a:Pl)(m:Md),σ=[some (.ref z),some (.ref r),x]/\g r=some (.tup (Xd a))/\LS gt jg jh g a m/\m.ts.length<=20+i/\ZP g T2 qG/\∀ c o,H c=some o->(∀ C,o≠.tbl C)->Ze a m c/\g c=some o)
  ⟨_,a3,m,rfl,d,A3,∅,t,j⟩ ?_ ?_
 ·rintro i σ g hi ⟨x,a,m,rfl,d,A3,u3,t,j⟩;obtain⟨e0,a8,_⟩:=id t;exists _,rfl,_,rfl,z,G,_,rfl,sq _ λc o e q=>(j c o e q).2,hn,∅,by lia
  intro p Z U W W4;have A4:=A3.same W;refine⟨_,rfl,gt,p,r,a,m,rfl,W4,W _ _ d,A4,A3.off U,∅,t.ext (YL.same W),λH5 u R kp Y eS u5 B=>⟨_,rfl,Zl ?_⟩⟩
  have y:∀ c o,H c=some o->(∀ C,o≠.tbl C)->Ze u R c/\H5 c=some o:=λc o e q=>by
   obtain⟨v1,v2⟩:=j c o e q;have v4:=W _ _ v2;exact⟨(kp _ _ v4 v1).1,(kp _ _ v4 v1).2 (ZY v2 U) (ZD v2 a8 (q _))⟩
  have b:H5 r=some (.tup (Xd u)):=by
   rw[eS];exact(kp _ _ (W _ _ d) (A4.tup (W _ _ d))).2 (ZY d U) (ZD d a8)
  refine⟨_,rfl,_,_,rfl,rfl,(by show (0:Int)<4;decide),rfl,_,rfl,WV (λc=>?_) (λc=>?_)⟩
  ·refine⟨_,rfl,.inr (.inl ⟨r,_,0,.ref u.S,rfl,rfl,Zd.of b,rfl,_,rfl,.inr (.inl ⟨r,_,1,.ref u.dT,rfl,rfl,Zd.of b,rfl,_,rfl,.inr (.inl ⟨r,_,2,.ref u.dH,rfl,rfl,Zd.of b,rfl,J H5 u R _ b Y λH6 a6 O c2 A6 a1=>⟨_,rfl,Zl ?_⟩⟩)⟩)⟩)⟩;refine⟨_,a6,R,rfl,?_,A6,∅,c2 _ _ B,λc o e q=>?_⟩
   ·rw[a1];exact(O _ _ b (Y.tup b)).2
   ·obtain⟨v1,v2⟩:=y c o e q;exact O _ _ v2 v1
  ·exact⟨_,u,R,rfl,b,Y,∅,B,y⟩
 ·rintro σ H5 ⟨x,u,R,rfl,b,Y,u5,B,y⟩;exact⟨_,rfl,.inr (.inl ⟨r,_,0,.ref u.S,rfl,rfl,Zd.of b,rfl,_,rfl,.inr (.inl ⟨r,_,1,.ref u.dT,rfl,rfl,Zd.of b,rfl,_,rfl,.inr (.inl ⟨r,_,2,.ref u.dH,rfl,rfl,Zd.of b,rfl,J H5 u R _ b Y λH6 a6 O c2 A6 a1=>k H6⟩)⟩)⟩)⟩
end Tw
namespace L2
open PySem PySem.Spec
def xC(K:zZ)(C:aj):Bool:=
 (zG K (.ref C) "__getattribute__" == some (some (.builtin "BaseException.__getattribute__")))&&((zG K (.ref C) "__getattr__" == some none)&&((yV K C (.type "BaseException")==some true)&&((yV K C (.type "object")==some true) &&
 ((zG K (.ref C) "__class__" == some (some (.builtin "object.__class__")))&&((PySem.W.specialIn K (.builtin "object.__class__") "__get__" == some (some (.builtin "getset_descriptor.__get__")))&&(PySem.W.takesIn K (.builtin "object.__class__")==some true))))))
def GW{K:zZ}{C:aj}(h:xC K C=true):X6 K C:=by
 unfold xC at h;simp only[zT,beq_iff_eq] at h;obtain⟨a,b,c,d,e,f,g⟩:=h;exact⟨a,b,c,d,e,f,g⟩
def xF(K:zZ)(C a:aj)(f:Str):Bool:=
 xC K C&&(Gb K C&&((zG K (.ref C) "__init__" == some (some (.ref a)))&&(wY K (.ref a)&&(yU K (.ref C)&&((zG K (.ref C) "__setattr__" == some (some (.builtin "object.__setattr__"))) &&
 ((zG K (.ref C) f==some none)&&(wM K C&&Gw K C)))))))
def Od{K:zZ}{C k:aj}{f:Str}(h:xF K C k f=true):Yd K C k f:=by
 unfold xF at h;simp only[zT,beq_iff_eq] at h;obtain⟨a,b,c,d,e,f,g,i,j⟩:=h;exact⟨GW a,b,c,d,e,f,g,i,j⟩
def Mm(K:zZ)(a:ju)(b:jd):Bool:=
 (zQ a.length).all λk=>xC K (a.getD k 0)&&((zQ a.length).all (λj=>yT K (.ref (a.getD k 0)) (.ref (a.getD j 0))==some (k==j))&&b.all λv=>yT K (.ref (a.getD k 0)) v==some true)
def Fn{K:zZ}{a:ju}{c:jd}(h:Mm K a c=true){k:Nat}(e:k<a.length):X6 K (a.getD k 0)/\(∀ j,j<a.length->yT K (.ref (a.getD k 0)) (.ref (a.getD j 0))=some (k==j))/\∀ v∈c,yT K (.ref (a.getD k 0)) v=some true:=by
 have b:=zK.mp h k (xN.mpr e);simp only[zT] at b;exact⟨GW b.1,λj d=>beq_iff_eq.mp (zK.mp b.2.1 j (xN.mpr d)),λv f=>beq_iff_eq.mp (zK.mp b.2.2 v f)⟩
end L2
namespace Tw
open PySem PySem.Spec L2 PyProof.Rows
variable{jg jh CS CT CH CK CP CB:aj}
def Kj{K:zZ}{c:aj}{a:ju}(h:Mm K a [.type "ValueError"]=true)(j:a.length=6){k:Nat}(m:k<6)(b:yV K (a.getD k 0) (.ref c)=some true):XC K c (λi=>a.getD i 0) k:=by
 obtain⟨d,e,f⟩:=Fn h (k:=k) ∅
 exists d,b,f _ (by simp)
 intro i l;have:=e i ∅
 rw[this]
 congr 1
 by_cases z:k=i
 ·subst z;simp
 ·have g:¬ i=k:=λy=>z y.symm;simp[z,g]
abbrev PN:Stmt:=Xf (top 6) 0
def ZHd:ZA zEa zEa (Zc PN):=Zz
def E7{C:aj}(F:Zj K "__init__" "NoTwig.__init__" PN f fd):ZI P w K mg jV ZZ 1 f fd zEa (Oc K C f "number"):=by
 refine F.ok ZHd (λg H Q E h=>(by obtain⟨_,_,_,rfl,_⟩:=h;rfl)) (λb A a s H g Q E i h=>?_)
 obtain⟨c,d,y,rfl,e,k⟩:=h;exact⟨_,ZU (L0 (pv 0) (pv 1) rfl),⟨_,rfl,_,rfl,QD,d,_,_,rfl,e,c,k⟩⟩
abbrev P2:Stmt:=Xf (top 7) 0
def B7:ZA zEa zEa (Zc P2):=Zz
def ZFk{C:aj}(F:Zj K "__init__" "NotHeld.__init__" P2 f fd):ZI P w K mg jV ZZ 1 f fd zEa (Oc K C f "number"):=by
 refine F.ok B7 (λg H Q E h=>(by obtain⟨_,_,_,rfl,_⟩:=h;rfl)) (λb A a s H g Q E i h=>?_)
 obtain⟨c,d,y,rfl,e,k⟩:=h;exact⟨_,ZU (L0 (pv 0) (pv 1) rfl),⟨_,rfl,_,rfl,QD,d,_,_,rfl,e,c,k⟩⟩
abbrev Pe:Stmt:=Xf (top 8) 0
def Ag:ZA zEa zEa (Zc Pe):=Zz
def BB{C:aj}(F:Zj K "__init__" "Shared.__init__" Pe f fd):ZI P w K mg jV ZZ 1 f fd zEa (Oc K C f "number"):=by
 refine F.ok Ag (λg H Q E h=>(by obtain⟨_,_,_,rfl,_⟩:=h;rfl)) (λb A a s H g Q E i h=>?_)
 obtain⟨c,d,y,rfl,e,k⟩:=h;exact⟨_,ZU (L0 (pv 0) (pv 1) rfl),⟨_,rfl,_,rfl,QD,d,_,_,rfl,e,c,k⟩⟩
end Tw
namespace L2
open PySem PySem.Spec PyProof.Rows
def BT{P:al}{w:ar}{K:zZ}{L mb:jb}{k:Nat}{fa a:aj}{l:List (aj×aj)}{fd:am}{x:Str}{sp:Sp}{c:ak}{N:jd}{ns:jz}(KX:K.In c.heap)(R:c.heap.Ns ao L)(i:c.heap.Ns builtinsNs mb)(c0:∀ x:Str,x ≠ "__name__"->mb x=ax x)(a4:c.heap.NoLimit)(hg:c.gens=#[])(c1:∃ Y M,L "__builtins__" = some (.ref Y)/\Y≠builtinsNs/\c.heap.get? Y=some M/\M.cls=.type "module" /\ M.dict=some builtinsNs/\M.data=.plain)(hC:∀ x∈l,xV c.heap x.1 x.2)(B:∀ x∈l,c.heap.get? x.2=some (wP #[]))(c5:sK K=true)(U:c.heap.get? a=some { cls:=.type "list",data:=.seq N.toArray })(hi:IntsAre N ns)(hl:ns.length<=ap)(hr:ZW k callerA)(F:∀ t:aC,K.In t->t.Ns ao L->(∀ x∈l,xV t x.1 x.2/\t.BuiltinsAt L x.2)->ZI P w K L t ZZ k fa fd [x] sp)(Q:∀ (s:ak) (u:ai),BindsTo s fd ⟨[u],[]⟩ [(x,u)])(c2:∀ H:Hp,(∀ x∈l,H x.2=some (.tbl #[]))->ZH K H a (ns.map V.int)->sp [.ref a] H (λv _=>v=.bl true) λ_ _ _=>False):
  aF (az P w) callerA (.call (.ref fa) ⟨[.ref a],[]⟩) (λr y=>r=.ok (.ret (.bool true))/\OldK c.heap y.heap/\y.os=c.os/\AllBare y.gens) c:=by
 have rv:=N4 hi;have a6:=hi.length;have hT:∀ b∈l.map (·.2),c.heap.get? b=some (wP #[]):=λb i=>by
  obtain⟨x,j,rfl⟩:=zM.mp i;exact B x j
 have mT:∀ x∈l,x.2∈l.map (·.2):=λx j=>zM.mpr ⟨x,j,rfl⟩;have aT:a∉l.map (·.2):=λz=>by rw[hT a z] at U;cases U
 have E:∀ H:Hp,(∀ x∈l,H x.2=some (.tbl #[]))->ZH K H a (ns.map V.int)->YG P w H c.heap->(∀ b,H b≠none->b=a\/b∈l.map (·.2))->(H a≠none->K.lookup a=none/\∃ o xs,H a=some (.frz o (.lst xs))) ->
   aF (az P w) callerA (.call (.ref fa) ⟨[.ref a],[]⟩) (λr y=>r=.ok (.ret (.bool true))/\OldK c.heap y.heap/\y.os=c.os/\AllBare y.gens) c:=by
  intro H hO hS a5 hA hK;have f:∀{b:aj}{o:aH},c.heap.get? b=some o->H b=none->(VS c.heap H).get? b=some o:=λe n=>Iz e n;have S:∀{b:aj}{o:aH},c.heap.get? b=some o->(∀ c4 n,o.data≠.seq c4 n)->(∀ v,o≠wP v)->H b=none:=fun{b o} e d1 d2=>by
   cases q:H b with
   | none=>rfl
   | some u=>
    rcases hA b (by rw[q];simp) with A | A
    ·subst A;rw[U] at e;cases e;exact absurd rfl (d1 _ _)
    ·rw[hT b A] at e;cases e;exact absurd rfl (d2 _)
  have C:∀{b:aj}{m:jb},c.heap.Ns b m->(VS c.heap H).Ns b m:=fun{b m} ⟨o,es,ep,e,d,r⟩=>⟨o,es,ep,f e (S e (λ_ _ z=>by rw[d] at z;cases z) (λ_ z=>by rw[z] at d;cases d)),d,r⟩
  have a2:K.In (VS c.heap H):=λb o e=>f (KX b o e) (by
   cases q:H b with
   | none=>rfl
   | some u=>
    rcases hA b (by rw[q];simp) with A | A
    ·subst A;rw[(hK (by rw[q];simp)).1] at e;cases e
    ·have G:=KX _ _ e;rw[hT b A] at G;cases G;have h2:=zK.mp c5 _ (PySem.W.mem_of_lookupK e);exact absurd (show false=true from h2) zV)
  have hM:Mod K L (VS c.heap H):=⟨a2,C R,⟨mb,C i,c0⟩,let ⟨mc,h1,h2⟩:=a4;⟨mc,C h1,h2⟩⟩;have a9:∀ x∈l,xV (VS c.heap H) x.1 x.2:=λx j=>by
   obtain⟨o,N,a0,tf,O,tg,c3,a7,tt,Z,G,e3,r⟩:=hC x j;exact⟨o,N,a0,tf,O,tg,c3,a7,tt,f Z (S Z (λ_ _ z=>by rw[e3] at z;cases z) (λ_ z=>by rw[z] at G;cases G)),G,e3,r⟩
  have a8:∀ x∈l,(VS c.heap H).BuiltinsAt L x.2:=λx j=>by
   obtain⟨Y,M,b1,b2,T,b4,b5,b6⟩:=c1;refine⟨Y,M,b1,b2,λz=>?_,λz=>?_,f T (S T (λ_ _ z=>by rw[b6] at z;cases z) (λ_ z=>by rw[z] at b4;cases b4)),b4,b5,b6⟩
   ·obtain⟨o,es,ep,e,d,_⟩:=R;rw[z,e] at T;cases T;rw[d] at b6;cases b6
   ·rw[z,B x j] at T;cases T;cases b4
  have e0:WJ P w K L (VS c.heap H) callerA [] c H:=⟨rfl,hM,λb o e=>Io e,wD (FB _ _),trivial,λb i=>absurd (show b∈([]:ju) from i) (by simp),a5,.of_eq hg⟩
  refine codeAny_mono ((F _ a2 (C R) λx j=>⟨a9 x j,a8 x j⟩).run callerA [] c H ⟨[.ref a],[]⟩ [.ref a] [.ref a] _ _ hr e0 (Q c (.ref a)) (.cons rfl .nil) (c2 H hO hS)) λr y h=>?_
  cases r with
  | error e=>exact h.elim
  | ok fl=>
   cases fl with
   | next=>exact False.elim h
   | brk=>exact False.elim h
   | cont=>exact False.elim h
   | ret u=>
    obtain⟨v,H',os,X,un,I,r',q⟩:=h;have q':v=.bl true:=q;subst q';obtain rfl:u=Value.bool true:=r';have a1:∀ x∈l,∃ p,y.heap.get? x.2=some (wP (#[]++p)):=λx j=>by
     obtain⟨p,z⟩:=un.tbls x.2 #[] (hO x j);exact⟨p,I x.2 _ z⟩
    have J:∀ b o,b∉l.map (·.2)->c.heap.get? b=some o->y.heap.get? b=some o:=λb o n e=>by
     cases q:H b with
     | none=>exact un.keep b o e q (by intro z;exact absurd (show b∈([]:ju) from z) (by simp)) (by simp)
     | some u=>
      have A:b=a:=(hA b (by rw[q];simp)).resolve_right n
      subst A;obtain⟨_,M,xs,z⟩:=hK (by rw[q];simp)
      have z2:=un.frzs b M _ z;obtain⟨Z,_⟩:=a5 b _ z;obtain⟨G,_⟩:=I b _ z2;rw[e] at Z;cases Z;exact G
    refine⟨rfl,⟨λb o e=>?_,λb o e=>?_⟩,os,X⟩
    ·by_cases z:b∈l.map (·.2)
     ·obtain⟨x,j,rfl⟩:=zM.mp z;obtain⟨p,g⟩:=a1 x j;rw[B x j] at e;cases e;exact .inr (.inl ⟨((hC x j).tab (B x j)).isCodeTable,rfl,#[],p,rfl,g⟩)
     ·exact .inl (J b o z e)
    ·by_cases z:b∈l.map (·.2)
     ·obtain⟨x,j,rfl⟩:=zM.mp z;obtain⟨p,g⟩:=a1 x j;exact⟨_,g⟩
     ·exact⟨o,J b o z e⟩
 cases hk:K.lookup a with
 | some o=>
  have e:=KX a o hk;rw[U] at e;cases e;refine E (λb=>if b∈l.map (·.2) then some (.tbl #[]) else none) (λx j=>aO (mT x j)) (.inr ⟨_,N.toArray,_,hk,rfl,rfl,rfl,by rw[zN,a6];exact hl,by simpa using rv⟩) (λb u z=>?_) (λb z=>?_) λz=>absurd (aM aT) z
  ·by_cases i:b∈l.map (·.2)
   ·have D:=(aO i).symm.trans z;cases D;exact hT b i
   ·have D:=(aM i).symm.trans z;cases D
  ·by_cases i:b∈l.map (·.2)
   ·exact .inr i
   ·exact absurd (aM i) z
 | none=>
  refine E (λb=>if b∈l.map (·.2) then some (.tbl #[]) else if b=a then some (.frz { cls:=.type "list",data:=.seq N.toArray } (.lst (ns.map V.int))) else none) (λx j=>aO (mT x j)) (.inl (.inr ⟨{ cls:=.type "list",data:=.seq N.toArray },(aM aT).trans (aO rfl)⟩)) (λb u z=>?_) (λb z=>?_) λ_=>⟨hk,_,_,(aM aT).trans (aO rfl)⟩
  ·by_cases i:b∈l.map (·.2)
   ·have D:=(aO i).symm.trans z;cases D;exact hT b i
   ·have z:=(aM i).symm.trans z;by_cases i:b=a
    ·have D:=(aO i).symm.trans z;cases D;subst i;exact⟨U,by rw[zX];exact hl,N,_,rv,U⟩
    ·have D:=(aM i).symm.trans z;cases D
  ·by_cases i:b∈l.map (·.2)
   ·exact .inr i
   ·by_cases a3:b=a
    ·exact .inl a3
    ·exact absurd ((aM i).trans (aM a3)) z
def M9(K:zZ)(a:jr):List (aj×aj):=a.filterMap λp=>yK K p
def P8{l:uS}{n k:Nat}{q:al}{t:jr}{Z:(jb)->aC->Prop}{R:ar->aC->Prop}{d:DefRec}{K:Params->zZ}{sp:zZ->Sp}{x:Str}{ps:jr}(hn:l.most=some n)(N:n<=ap)(L:d.params.defaults=[])(hr:ZW k callerA)(hY:∀ (w:ar) (h:aC),R w h->(K w.params).In h)(B:∀ p∈ps,((recsOf q).find? (λe=>e.name==p)).isSome=true)(O:∀ w:ar,sK (K w.params)=true)(F:∀ (w:ar) (z:jb) (D:aj) (h:aC),(K w.params).In h->h.Ns ao z->z d.name=some (.ref D) ->
   ∃ J:am,(∀ (s:ak) (u:ai),BindsTo s J ⟨[u],[]⟩ [(x,u)]) /\
    ∀ i:aC,(K w.params).In i->i.Ns ao z->(∀ y∈M9 (K w.params) ps,xV i y.1 y.2/\i.BuiltinsAt z y.2)->ZI l.prog w (K w.params) z i ZZ k D J [x] (sp (K w.params)))(Q:∀ (w:ar) (H:Hp) (a:aj) (E:jz),E.length<=n->(∀ y∈M9 (K w.params) ps,H y.2=some (.tbl #[]))->ZH (K w.params) H a (E.map V.int)->sp (K w.params) [.ref a] H (λv _=>v=.bl true) λ_ _ _=>False):
  tZ q t Z R l.row.toRowW d [] (λf X=>PySem.call f X):=by
 refine Att.attach_call hn L λw S m z mb D o pm cd a0 a X E G Y ho hd a1 M A r j hg=>?_;have I:=hY w _ Y;obtain⟨J,hb,hF⟩:=F w z D _ I G.T.g M;have U:∀ y∈M9 (K w.params) ps,xV m.heap y.1 y.2/\m.heap.get? y.2=some (wP #[]):=λy C=>by
  obtain⟨p,hp,e⟩:=xJ.mp C;exact PySem.W.tab_of (c:=y.1) (P:=y.2) G.T I (Option.some_get (B p hp)).symm e
 exact BT I G.T.g G.T.b G.T.builtins G.T.nolimit hg G.T.bmain (λy C=>(U y C).1) (λy C=>(U y C).2) (O w) A r (zI j N) hr hF hb (λH hO hS=>Q w H a E j hO hS)
end L2
namespace Tw
open PySem PySem.Spec L2 PyProof.Rows
def NO{K:zZ}{C f:aj}{m q:Str}{d:aB}{j:jr}{t e:jv}{u:Array (jc)}{s kV o i n ct:ai}(v:zG K (.ref C) m=some (some (.ref f)))(l:K.lookup f=some ⟨s,t,.func (yI m q (VE d) (XM d) (Zc d) .none kV o i e n ct),u⟩)(p:wY K (.ref f)=true)(c:xR K n q=true)(k:yU K (.ref f)=true)(r:∀ (kV h i:ai) (e:jv) (g ct:ai) (a:jd),a.length=j.length->bindArgs (yI m q (VE d) (XM d) (Zc d) .none kV h i e g ct) ⟨a,[]⟩=pure (j.zip a):=by first | exact(λ_ _ _ _ _ _ a b=>match a,b with | [_],_=>rfl) | exact(λ_ _ _ _ _ _ a b=>match a,b with | [_,_],_=>rfl) | exact(λ_ _ _ _ _ _ a b=>match a,b with | [_,_,_],_=>rfl) | exact(λ_ _ _ _ _ _ a b=>match a,b with | [_,_,_,_],_=>rfl) | exact(λ_ _ _ _ _ _ a b=>match a,b with | [_,_,_,_,_],_=>rfl)):Zr K C m q d j:=
 ⟨f,_,⟨v,p,k⟩,Wy (st:=d) l c k,(Wy (st:=d) l c k).binds r⟩
structure UX(K:zZ)(C:aj)(q:Str)(st:aB)(ps:jr):Prop where
 ex:∃ f fd,zG K (.ref C) "__init__" = some (some (.ref f))/\wY K (.ref f)=true/\Zj K "__init__" q st f fd/\Zx K fd ps []
def NI{K:zZ}{C f:aj}{q:Str}{d:aB}{j:jr}{s e:jv}{t:Array (jc)}{r kV n i m ct:ai}(v:zG K (.ref C) "__init__" = some (some (.ref f)))(l:K.lookup f=some ⟨r,s,.func (yI "__init__" q (VE d) (XM d) (Zc d) .none kV n i e m ct),t⟩)(o:wY K (.ref f)=true)(c:xR K m q=true)(k:yU K (.ref f)=true)(p:∀ (kV h i:ai) (e:jv) (g ct:ai) (a:jd),a.length=j.length->bindArgs (yI "__init__" q (VE d) (XM d) (Zc d) .none kV h i e g ct) ⟨a,[]⟩=pure (j.zip a):=by first | exact(λ_ _ _ _ _ _ a b=>match a,b with | [_],_=>rfl) | exact(λ_ _ _ _ _ _ a b=>match a,b with | [_,_],_=>rfl) | exact(λ_ _ _ _ _ _ a b=>match a,b with | [_,_,_],_=>rfl) | exact(λ_ _ _ _ _ _ a b=>match a,b with | [_,_,_,_],_=>rfl) | exact(λ_ _ _ _ _ _ a b=>match a,b with | [_,_,_,_,_],_=>rfl)):UX K C q d j:=
 ⟨f,_,v,o,Wy (st:=d) l c k,(Wy (st:=d) l c k).binds p⟩
def ZPM{K:zZ}{x:Str}{f c P:aj}{k:ai}{m:jv}{h:am}{n:Array (jc)}{b:ai}{d:jv}{i:jw}{g:Array (jc)}(a:zR K ao x=some (some (.ref f)))(l:K.lookup f=some ⟨k,m,.func h,n⟩)(e:h.code=.ref c)(j:K.lookup c=some ⟨b,d,.fields i,g⟩)(v:i[11]? = some (.ref P)):yK K x=some (c,P):=by
 unfold yK;rw[a];simp only;rw[l];simp only;rw[e];simp only;rw[j];simp only;rw[v]
def Mx{l:uS}{w:ar}{K:zZ}{h:aC}{mg:jb}{fa cb0 tb0 cb1 tb1 f35 f37 f40 CB CK CL CS CT CH CD jg jh jN jH jD:aj}(X:K.In h)(G:h.Ns ao mg)(hfa:mg "law" = some (.ref fa))(hta:yK K "_law_put_stem" = some (cb0,tb0))(htb:yK K "_law_let_go" = some (cb1,tb1)){od35 an35 od37 an37 od40 an40:jv}{sl35 sl37 sl40:Array (jc)}{oc35 kV35 dc35 pm35 cd35 ct35 oc37 kV37 dc37 pm37 cd37 ct37 oc40 kV40 dc40 pm40 cd40 ct40:ai}{t1 t2 t3 t4 t5 t6 t7 t8 t9 t10:Tok}(L1:Zh K mg "is_key" JC zEz)(L2:Zh K mg "checked" KI zEz)(L3:Zh K mg "fits" MR zEt)(L4:Zh K mg "has_few_figures" KP zE9)(L5:Zh K mg "is_sign" LM ["sign"])(L6:Zh K mg "ahead" Ml zE0)(L7:Zh K mg "standing" Nu zE8)(L8:Zh K mg "checked_rows" JI zEv)(L9:Zh K mg "own_rows" Lc zEv)(L10:Zh K mg "rise" Kd ["keys"])(L11:Zh K mg "label_of_rows" JG zEv)(L12:Zh K mg "label_over" Lp ["labels"])(L13:Zh K mg "stand_side_by_side" JA zEx)(L14:Zh K mg "is_stem" Lf ["twig"])(L15:Zh K mg "_law_well" Mz zEy)(L16:Zh K mg "_law_pull" LD zEf)(L17:Zh K mg "_law_rank" MZ zE2)(L18:Zh K mg "_law_less" Ly zEr)(L19:Zh K mg "_law_alike" MC zEd)(L20:Zh K mg "_law_grid" JK zE4)(L21:Zh K mg "_law_leaf_rows" JL zEk)(L22:Zh K mg "_law_rows_of" JQ zEc)(L23:Zh K mg "_law_label" K3 zEc)(L24:Zh K mg "_law_above" Li zEc)(L25:Zh K mg "_law_shared" Kw zEm)(L26:Zh K mg "_law_swept" LF zEq)(L27:Zh K mg "_law_count" KL zEd)(L28:Zh K mg "_law_exact" JH zEo)(L29:Zh K mg "_law_asked" JN zE1)(L30:Zh K mg "_law_wrong" K2 zEj)(L31:Zh K mg "_law_unheld" Mn zEp)(L32:Zh K mg "_law_picked" Le zEg)(L33:Zh K mg "_law_run" Kt zEe)(L34:Zh K mg "_law_put_leaf" Ll zEi)(a35:zR K ao "_law_put_stem" = some (some (.ref f35)))(l35:K.lookup f35=some ⟨oc35,od35,.func (yI "_law_put_stem" "_law_put_stem" (VE VM) (XM VM) (Zc VM) .none kV35 dc35 pm35 an35 cd35 ct35),sl35⟩)(c35:xR K cd35 "_law_put_stem" = true)(k35:yU K (.ref f35)=true)(L36:Zh K mg "_law_hold" Ke zEb)(a37:zR K ao "_law_let_go" = some (some (.ref f37)))(l37:K.lookup f37=some ⟨oc37,od37,.func (yI "_law_let_go" "_law_let_go" (VE VQ) (XM VQ) (Zc VQ) .none kV37 dc37 pm37 an37 cd37 ct37),sl37⟩)(c37:xR K cd37 "_law_let_go" = true)(k37:yU K (.ref f37)=true)(L38:Zh K mg "_law_begun" KJ zEl)(L39:Zh K mg "_law_deed" Ms zEb)(a40:zR K ao "law" = some (some (.ref f40)))(l40:K.lookup f40=some ⟨oc40,od40,.func (yI "law" "law" (VE Qs) (XM Qs) (Zc Qs) .none kV40 dc40 pm40 an40 cd40 ct40),sl40⟩)(c40:xR K cd40 "law" = true)(k40:yU K (.ref f40)=true)(z1:zR K ao "isinstance" = some none)(z2:zR K ao "bool" = some none)(z3:zR K ao "int" = some none)(z4:zR K ao "str" = some none)(z5:zR K ao "tuple" = some none)(z6:zR K ao "list" = some none)(z7:zR K ao "len" = some none)(z8:zR K ao "all" = some none)(z9:zR K ao "abs" = some none)(z10:zR K ao "max" = some none)(z11:zR K ao "min" = some none)(z12:zR K ao "range" = some none)(z13:zR K ao "sorted" = some none)(z14:zR K ao "ValueError" = some none)(z15:zR K ao "sum" = some none)(z16:zR K ao "reversed" = some none)(m1_:zR K ao "MOST_SIGNS" = some (some (.int 40 t1)))(m2_:zR K ao "MOST_THINGS" = some (some (.int 4 t2)))(m3_:zR K ao "MOST_DEEP" = some (some (.int 3 t3)))(m4_:zR K ao "MOST_ROWS" = some (some (.int 4 t4)))(m5_:zR K ao "FEWEST_BRANCHES" = some (some (.int 2 t5)))(m6_:zR K ao "MOST_BRANCHES" = some (some (.int 4 t6)))(m7_:zR K ao "HEIGHT" = some (some (.int 0 t7)))(m8_:zR K ao "LEAST" = some (some (.int 1 t8)))(m9_:zR K ao "GREATEST" = some (some (.int 2 t9)))(m10_:zR K ao "MANY" = some (some (.int 3 t10)))(IjS:UX K jg "Shelf.__init__" Kp zEn)(IjT:UX K jh "Twig.__init__" JJ zEu){ocjN kVjN dcjN pmjN cdjN ctjN:ai}{odjN anjN:jv}{sljN:Array (jc)}(iljN:K.lookup jN=some ⟨ocjN,odjN,.func (yI "__init__" "NoTwig.__init__" (VE PN) (XM PN) (Zc PN) .none kVjN dcjN pmjN anjN cdjN ctjN),sljN⟩)(icjN:xR K cdjN "NoTwig.__init__" = true)(ikjN:yU K (.ref jN)=true){ocjH kVjH dcjH pmjH cdjH ctjH:ai}{odjH anjH:jv}{sljH:Array (jc)}(iljH:K.lookup jH=some ⟨ocjH,odjH,.func (yI "__init__" "NotHeld.__init__" (VE P2) (XM P2) (Zc P2) .none kVjH dcjH pmjH anjH cdjH ctjH),sljH⟩)(icjH:xR K cdjH "NotHeld.__init__" = true)(ikjH:yU K (.ref jH)=true){ocjD kVjD dcjD pmjD cdjD ctjD:ai}{odjD anjD:jv}{sljD:Array (jc)}(iljD:K.lookup jD=some ⟨ocjD,odjD,.func (yI "__init__" "Shared.__init__" (VE Pe) (XM Pe) (Zc Pe) .none kVjD dcjD pmjD anjD cdjD ctjD),sljD⟩)(icjD:xR K cdjD "Shared.__init__" = true)(ikjD:yU K (.ref jD)=true)(Mm1:Zr K jg "put_leaf" "Shelf.put_leaf" LJ zE7)(Mm2:Zr K jg "put_stem" "Shelf.put_stem" LV zEh)(Mm3:Zr K jg "put_twig" "Shelf.put_twig" Lz zEs)(Mm4:Zr K jg "holders" "Shelf.holders" KQ zEa)(Mm5:Zr K jg "outside" "Shelf.outside" LU zEa)(Mm6:Zr K jg "alone" "Shelf.alone" JO zEa)(Mm7:Zr K jg "look" "Shelf.look" LR zEa)(Mm8:Zr K jg "label" "Shelf.label" Ny zEa)(Mm9:Zr K jg "forget" "Shelf.forget" LB zEn)(Mm10:Zr K jg "numbers" "Shelf.numbers" JB zEn)(Mm11:Zr K jg "many" "Shelf.many" Kv zEn)(Mm12:Zr K jg "twig_of" "Shelf.twig_of" N8 zEa)(Mm13:Zr K jg "labels_of" "Shelf.labels_of" LQ zEh)(Mm14:Zr K jg "check_held" "Shelf.check_held" KU zEh)(Mm15:Zr K jg "take_over" "Shelf.take_over" LW zEw)(Mm16:Zr K jg "road_up" "Shelf.road_up" Kf zEa)(Mm17:Zr K jg "hold" "Shelf.hold" Kr zEa)(Mm18:Zr K jg "let_go" "Shelf.let_go" Kq zEa)(Mm19:Zr K jg "drop_unheld" "Shelf.drop_unheld" Nq zEa)(xCB:zR K ao "TwigError" = some (some (.ref CB)))(xCK:zR K ao "NoKey" = some (some (.ref CK)))(xCL:zR K ao "NoLeaf" = some (some (.ref CL)))(xCS:zR K ao "NoStem" = some (some (.ref CS)))(xCT:zR K ao "NoTwig" = some (some (.ref CT)))(xCH:zR K ao "NotHeld" = some (some (.ref CH)))(xCD:zR K ao "Shared" = some (some (.ref CD)))(xCSh:zR K ao "Shelf" = some (some (.ref jg)))(xCTw:zR K ao "Twig" = some (some (.ref jh)))(vjN:zG K (.ref CT) "__init__" = some (some (.ref jN)))(vjH:zG K (.ref CH) "__init__" = some (some (.ref jH)))(vjD:zG K (.ref CD) "__init__" = some (some (.ref jD)))(mkCSh:uR K jg=true)(kpCSh:yU K (.ref jg)=true)(pgCSh:vY K jg Str.empty=true)(hdCSh:wM K jg=true)(poCSh:uM K jg=true)(saCSh:zG K (.ref jg) "__setattr__" = some (some (.builtin "object.__setattr__")))(mkCTw:uR K jh=true)(kpCTw:yU K (.ref jh)=true)(pgCTw:vY K jh Str.empty=true)(hdCTw:wM K jh=true)(poCTw:uM K jh=true)(saCTw:zG K (.ref jh) "__setattr__" = some (some (.builtin "object.__setattr__")))(na_kept:zG K (.ref jg) "kept" = some none)(na_following:zG K (.ref jg) "following" = some none)(na_looks:zG K (.ref jg) "looks" = some none)(na_things:zG K (.ref jh) "things" = some none)(na_tag:zG K (.ref jh) "tag" = some none)(na_above:zG K (.ref jh) "above" = some none)(na_holds:zG K (.ref jh) "holds" = some none)(tyB:yA K (.ref CB)=some (.type "type"))(mB:yV K CB (.type "BaseException")=some true)(kitx:Mm K [CK,CL,CS,CT,CH,CD] [.type "ValueError"]=true)(wCT:xF K CT jN "number" = true)(tyCT:yA K (.ref CT)=some (.type "type"))(wCH:xF K CH jH "number" = true)(tyCH:yA K (.ref CH)=some (.type "type"))(wCD:xF K CD jD "number" = true)(tyCD:yA K (.ref CD)=some (.type "type"))(sbCS:yV K CS (.ref CB)=some true)(sbCT:yV K CT (.ref CB)=some true)(sbCH:yV K CH (.ref CB)=some true)(exCS:uX K CS Q0 "ValueError.__new__" = true)(kpCS:yU K (.ref CS)=true)(mBCS:yV K CS (.type "BaseException")=some true)(tyCS:yA K (.ref CS)=some (.type "type"))(mBCD:yV K CD (.type "BaseException")=some true)(slCD:yV K CD (.ref CD)=some true):
  ∃ n:am,(∀(s:ak)(v:ai),BindsTo s n ⟨[v],[]⟩ [("_law_script",v)])/\∀ a:aC,K.In a->a.Ns ao mg->xV a cb0 tb0->a.BuiltinsAt mg tb0->xV a cb1 tb1->a.BuiltinsAt mg tb1->ZI l.prog w K mg a ZZ 80 fa n zFa (Wc tb0 tb1 K):=by
 have e:=hfa.symm.trans (zB X G a40);cases e;have T:YO mg:=⟨yC X G z1,yC X G z2,yC X G z3,yC X G z4,yC X G z5,yC X G z6,yC X G z7,yC X G z8,yC X G z9,yC X G z10,yC X G z11,yC X G z12,yC X G z13,yC X G z14,yC X G z15,⟨_,zB X G m1_⟩,⟨_,zB X G m2_⟩,⟨_,zB X G m3_⟩,⟨_,zB X G m4_⟩,⟨_,zB X G m5_⟩,⟨_,zB X G m6_⟩,⟨_,zB X G m7_⟩,⟨_,zB X G m8_⟩,⟨_,zB X G m9_⟩,⟨_,zB X G m10_⟩⟩;exists yI "law" "law" (VE Qs) (XM Qs) (Zc Qs) .none kV40 dc40 pm40 an40 cd40 ct40,λs v=>.of_eq rfl;intro a kb _ hC hB i7 i6;have Tr:mg "reversed" = none:=yC X G z16;have i1:Nm K mg CB (λi=>[CK,CL,CS,CT,CH,CD].getD i 0):=⟨zB X G xCB,tyB,mB,zB X G xCK,zB X G xCL,zB X G xCS,zB X G xCT,zB X G xCH,zB X G xCD⟩;have X2:XC K CB (λi=>[CK,CL,CS,CT,CH,CD].getD i 0) 2:=Kj kitx rfl (by decide) sbCS
 have X3:XC K CB (λi=>[CK,CL,CS,CT,CH,CD].getD i 0) 3:=Kj kitx rfl (by decide) sbCT
 have X4:XC K CB (λi=>[CK,CL,CS,CT,CH,CD].getD i 0) 4:=Kj kitx rfl (by decide) sbCH
 have c:Yg K mg jg jh:=⟨zB X G xCSh,zB X G xCTw,⟨pgCSh,hdCSh,poCSh,saCSh⟩,⟨pgCTw,hdCTw,poCTw,saCTw⟩,na_kept,na_following,na_looks,na_things,na_tag,na_above,na_holds⟩;have i3:XN l.prog w K mg a "NoTwig" CT:=⟨⟨jN,_,Od wCT,E7 (Wy (st:=PN) iljN icjN ikjN),(Wy (st:=PN) iljN icjN ikjN).binds λ_ _ _ _ _ _ g k=>match g,k with | [_,_],_=>rfl⟩,zB X G xCT,tyCT⟩
 have i0:XN l.prog w K mg a "NotHeld" CH:=⟨⟨jH,_,Od wCH,ZFk (Wy (st:=P2) iljH icjH ikjH),(Wy (st:=P2) iljH icjH ikjH).binds λ_ _ _ _ _ _ g k=>match g,k with | [_,_],_=>rfl⟩,zB X G xCH,tyCH⟩
 have i2:XN l.prog w K mg a "Shared" CD:=⟨⟨jD,_,Od wCD,BB (Wy (st:=Pe) iljD icjD ikjD),(Wy (st:=Pe) iljD icjD ikjD).binds λ_ _ _ _ _ _ g k=>match g,k with | [_,_],_=>rfl⟩,zB X G xCD,tyCD⟩
 have i5:XS l.prog w K mg a CS:=⟨zB X G xCS,exCS,kpCS,mBCS,tyCS⟩;have i4:XD K mg CD:=⟨zB X G xCD,tyCD,mBCD,slCD⟩;have Z:UD l.prog w K mg a 1 jg zEn (Uw jg):=by obtain⟨f,n,v,fn,F,b⟩:=IjS.ex;exact⟨f,n,⟨mkCSh,v,fn,kpCSh⟩,ZNI F c,b⟩
 have a0:UD l.prog w K mg a 1 jh zEu (Ug jh):=by obtain⟨f,n,v,fn,F,b⟩:=IjT.ex;exact⟨f,n,⟨mkCTw,v,fn,kpCTw⟩,Ce F c,b⟩
 have d:ZE l.prog w K mg a ZZ 1 jg "twig_of" zEa (Zo jg):=Mm12.of λ_ _ F=>AQ F c;have B:ZE l.prog w K mg a ZZ 2 jg "outside" zEa (XA jg jh λ_ ho _=>.int ho):=Mm5.of λ_ _ F=>EA F c d;have c9:ZE l.prog w K mg a ZZ 2 jg "label" zEa (XA jg jh λtg _ _=>tg):=Mm8.of λ_ _ F=>ZKN F c d;have r:ZE l.prog w K mg a ZZ 2 jg "holders" zEa (XA jg jh λ_ ho g=>.int ((g.length:Nat)+(ho:Nat):Int)):=Mm4.of λ_ _ F=>CO F T c d;have e7:∀ gt,ZE l.prog w K mg a (Z9 l.prog w) 3 jg "road_up" zEa (Vl gt jg jh CD):=λgt=>Mm16.of λ_ _ F=>Aj F c i2 d r;have c5:∀ gt,ZE l.prog w K mg a ZZ 4 jg "alone" zEa (Wo gt jg jh):=λgt=>Mm6.of λ_ _ F=>Cu F c i4 (e7 gt);have c7:ZE l.prog w K mg a ZZ 1 jg "forget" zEn (X1 jg jh):=Mm9.of λ_ _ F=>Bg F c;have x:ZB l.prog w K mg a 1 "is_stem" ["twig"] (Xv jh):=L14.of λ_ _ F=>C4 F T c;have e2:ZE l.prog w K mg a ZZ 2 jg "look" zEa (Vj jg jh):=Mm7.of λ_ _ F=>B4 F T c d x;have e4:ZE l.prog w K mg a ZZ 1 jg "many" zEn (Vk jg):=Mm11.of λ_ _ F=>Fu F T c;have e5:ZE l.prog w K mg a ZZ 1 jg "numbers" zEn (XE jg):=Mm10.of λ_ _ F=>ZG3 F T c;have I:ZE l.prog w K mg a ZZ 3 jg "put_twig" zEs (Yp jg jh):=Mm3.of λ_ _ F=>BV F c a0;have e9:ZE l.prog w K mg a ZZ 2 jg "take_over" zEw (Yx jg jh):=Mm15.of λ_ _ F=>ZFr F c d;have e8:ZE l.prog w K mg a (Z9 l.prog w) 3 jg "twig_of" zEa (XB jg CT):=Mm12.of λ_ _ F=>ZHL F c i3;have e0:ZE l.prog w K mg a (Z9 l.prog w) 4 jg "label" zEa (Xu jg jh CT):=Mm8.of λ_ _ F=>Ec F c e8;have e3:ZE l.prog w K mg a (Z9 l.prog w) 5 jg "labels_of" zEh (Yv jg jh CT):=Mm13.of λ_ _ F=>Dk F c e0;have A:ZE l.prog w K mg a (Z9 l.prog w) 3 jg "check_held" zEh (YN jg jh CH):=Mm14.of λ_ _ F=>BJ F c i0 B;have q:ZB l.prog w K mg a 1 "_law_pull" zEf (YT):=L16.of λ_ _ F=>Ez F;have DW:ZB l.prog w K mg a 1 "_law_well" zEy (Vd K):=L15.of λ_ _ F=>ZMq F T;have DN:ZB l.prog w K mg a 1 "has_few_figures" zE9 (Vx):=L4.of λ_ _ F=>C5 F T;have a8:ZB l.prog w K mg a 1 "is_sign" ["sign"] (Wa):=L5.of λ_ _ F=>EF F;have S:ZB l.prog w K mg a 6 "is_key" zEz (Wh):=L1.of λ_ _ F=>FI F T (HU T L3 DN a8 4);have DC:ZB l.prog w K mg a 7 "checked" zEz (Ut):=L2.of λ_ _ F=>Ae F S;have c1:ZB l.prog w K mg a 6 "standing" zE8 (Vm 5):=GO T L7 5;have u:ZB l.prog w K mg a 7 "ahead" zE0 (YZ):=L6.of λ_ _ F=>ZKV F c1;have a5:ZB l.prog w K mg a 8 "rise" ["keys"] (Wn):=L10.of λ_ _ F=>ZMi F T u;have a2:ZB l.prog w K mg a 8 "own_rows" zEv (XG):=L9.of λ_ _ F=>ZHB F DC;have M:ZB l.prog w K mg a 9 "checked_rows" zEv (Xq):=L8.of λ_ _ F=>ZJb F T a2 a5;have V:ZB l.prog w K mg a 1 "label_of_rows" zEv (XJ):=L11.of λ_ _ F=>B0 F T;have D:ZE l.prog w K mg a ZZ 10 jg "put_leaf" zE7 (XF jg jh):=Mm1.of λ_ _ F=>FV F c M V I;have c0:ZB l.prog w K mg a 8 "stand_side_by_side" zEx (Vs):=L13.of λ_ _ F=>EL F T u;have a1:Pq l.prog w K mg a 9 "label_over" ["labels"] (VY CS):=by obtain⟨f,n,F,b,m⟩:=(L12).ex;exact⟨f,n,E3 F kb T i5 c0,b,F.kp,m⟩
 have e6:∀ gt,ZE l.prog w K mg a (Z9 l.prog w) 10 jg "put_stem" zEh (Z6 gt jg jh CS CT CH):=λgt=>Mm2.of λ_ _ F=>C2 F T c e3 a1 A I e9;have Y:ZB l.prog w K mg a 7 "_law_less" zEr (YZ):=L18.of λ_ _ F=>ZMX F (GS T L17 5);have o:ZB l.prog w K mg a 7 "_law_alike" zEd (YF 6):=Ir T L19 6;have P:ZB l.prog w K mg a 2 "_law_grid" zE4 (Vp):=L20.of λ_ _ F=>ZMW F T q;have y:ZB l.prog w K mg a 2 "_law_leaf_rows" zEk (Yy):=L21.of λ_ _ F=>ZF5 F T q;have a7:∀ gt,ZB l.prog w K mg a 1 "_law_rows_of" zEc (Xy gt):=λgt=>L22.of λ_ _ F=>As F T Tr;have p:∀ gt,ZB l.prog w K mg a 2 "_law_label" zEc (Yk gt):=λgt=>L23.of λ_ _ F=>Fo F T (a7 gt);have t:∀ gt,ZB l.prog w K mg a 1 "_law_above" zEc (Xb gt):=λgt=>L24.of λ_ _ F=>ZKE F T;have a9:∀ gt,ZB l.prog w K mg a 2 "_law_shared" zEm (Xx gt):=λgt=>L25.of λ_ _ F=>BX F T (t gt);have L:ZB l.prog w K mg a 1 "_law_count" zEd (Wl):=L27.of λ_ _ F=>Cj F T;have j:ZB l.prog w K mg a 2 "_law_picked" zEg (YA):=L32.of λ_ _ F=>Cb F T q;have c3:ZB l.prog w K mg a 1 "_law_unheld" zEp (Y4):=L31.of λ_ _ F=>ZIY F T;have c4:∀ gt,ZB l.prog w K mg a 8 "_law_wrong" zEj (Xa gt):=λgt=>L30.of λ_ _ F=>Dx F T (p gt) Y;have a6:∀ gt,ZB l.prog w K mg a 4 "_law_run" zEe (Vy gt):=λgt=>L33.of λ_ _ F=>Bw F T q j (p gt);have DQ:ZB l.prog w K mg a 71 "_law_asked" zE1 (YM l.prog w K mg a CB (λi=>[CK,CL,CS,CT,CH,CD].getD i 0)):=L29.of λ_ _ F=>Cw F T i1;have O:ZB l.prog w K mg a 8 "_law_exact" zEo (QK λgt=>Xi gt jg jh):=L28.of λ_ _ F=>MK λgt=>F0 F T c e5 e4 e2 c9 B r (c5 gt) c7 o L (p gt) (t gt) (a9 gt);have a3:ZB l.prog w K mg a 11 "_law_put_leaf" zEi (QK λgt=>YI gt jg jh):=L34.of λ_ _ F=>MK λgt=>FC F T c y D;have a4:ZB l.prog w K mg a 72 "_law_put_stem" zEb (QK λgt=>Y1 gt jg jh tb0):=⟨f35,_,MK (λgt=>Eh (C:=λi=>[CK,CL,CS,CT,CH,CD].getD i 0) (Wy (st:=VM) l35 c35 k35) a35 hta hC hB T c X2 X3 X4 (Od wCT) (Od wCH) (e6 gt) DQ (a6 gt) q j (c4 gt) c3 o),(Wy (st:=VM) l35 c35 k35).binds λ_ _ _ _ _ _ g k=>match g,k with | [_,_],_=>rfl,k35,zB X G a35⟩
 have J:ZB l.prog w K mg a 73 "_law_begun" zEl (Wm jg jh tb0):=L38.of λ_ _ F=>Ci F T c Z P a3 a4;have c8:ZE l.prog w K mg a ZZ 2 jg "hold" zEa (Vb jg jh):=Mm17.of λ_ _ F=>ZMH F c d;have c6:∀ gt,ZE l.prog w K mg a ZZ 67 jg "drop_unheld" zEa (λvs H Q E=>∃ m,m<64/\X0 gt m jg jh vs H Q E):=λgt=>HR Mm19 c r d x 64;have e1:∀ gt,ZE l.prog w K mg a (Z9 l.prog w) 68 jg "let_go" zEa (Ya gt jg jh CH):=λgt=>Mm18.of λ_ _ F=>BS F c A d (c6 gt);have c2:∀ gt,ZB l.prog w K mg a 2 "_law_swept" zEq (Xg gt):=λgt=>L26.of λ_ _ F=>AO F T;have R:∀ gt,ZB l.prog w K mg a 3 "_law_hold" zEb (Wd gt jg jh):=λgt=>L36.of λ_ _ F=>Bv F T c j c8;have z:∀ gt,ZB l.prog w K mg a 11 "_law_put_leaf" zEi (YI gt jg jh):=λgt=>L34.of λ_ _ F=>FC F T c y D;have U:∀ gt,ZB l.prog w K mg a 72 "_law_let_go" zEb (Xt gt jg jh tb1):=λgt=>⟨f37,_,EY (C:=λi=>[CK,CL,CS,CT,CH,CD].getD i 0) (Wy (st:=VQ) l37 c37 k37) a37 htb i7 i6 T c X4 (Od wCH) (e1 gt) DQ q j (c2 gt) o,(Wy (st:=VQ) l37 c37 k37).binds λ_ _ _ _ _ _ g k=>match g,k with | [_,_],_=>rfl,k37,zB X G a37⟩
 have N:ZB l.prog w K mg a 73 "_law_deed" zEb (QK λgt=>Vo gt jg jh tb1):=L39.of λ_ _ F=>MK λgt=>ZMo F q (z gt) (R gt) (U gt);exact EI (Wy (st:=Qs) l40 c40 k40) T DW J N O
def tT(K:zZ)(p:Str):Addr:=((yK K p).getD (0,0)).2
def KN(K:zZ):Bool:=match yK K "_law_put_stem",yK K "_law_let_go" with
 | some a,some b=>a.2 != b.2
 | _,_=>false
def Ii{K:zZ}(h:KN K=true):∃ g e i f,yK K "_law_put_stem" = some (g,e)/\yK K "_law_let_go" = some (i,f)/\e≠f:=by
 unfold KN at h
 cases c:yK K "_law_put_stem" with
 | none=>rw[c] at h;cases h
 | some a=>
  cases d:yK K "_law_let_go" with
  | none=>rw[c,d] at h;cases h
  | some b=>
   rw[c,d] at h;exact⟨a.1,a.2,b.1,b.2,rfl,rfl,by simpa using h⟩
def walk{l:uS}{q:al}{m:jr}{V:(jb)->aC->Prop}{M:ar->aC->Prop}{d:DefRec}{K:Params->zZ}(hn:l.most=some 63)(J:d.params.defaults=[])(hY:∀ (w:ar) (h:aC),M w h->(K w.params).In h)(A:((recsOf q).find? (λe=>e.name==(("_law_put_stem" : String):Str))).isSome=true)(j:((recsOf q).find? (λe=>e.name==(("_law_let_go" : String):Str))).isSome=true)(g:∀ w:ar,KN (K w.params)=true)(L:∀ w:ar,sK (K w.params)=true)(F:∀ (w:ar) (i:jb) (E:aj) (h:aC) (c T N B:aj),(K w.params).In h->h.Ns ao i->i d.name=some (.ref E)->yK (K w.params) "_law_put_stem" = some (c,T)->yK (K w.params) "_law_let_go" = some (N,B) ->
   ∃ I:am,(∀ (s:ak) (u:ai),BindsTo s I ⟨[u],[]⟩ [("_law_script",u)])/\∀ b:aC,(K w.params).In b->b.Ns ao i->xV b c T->b.BuiltinsAt i T->xV b N B->b.BuiltinsAt i B->ZI l.prog w (K w.params) i b ZZ 80 E I zFa (Wc T B (K w.params))):
  tZ q m V M l.row.toRowW d [] (λf vs=>PySem.call f vs):=by
 refine L2.P8 (n:=63) (k:=80) (x:= "_law_script") (ps:=["_law_put_stem","_law_let_go"]) (sp:=λK=>Wc (tT K "_law_put_stem") (tT K "_law_let_go") K) hn (by decide) J ⟨rfl,by decide,by decide⟩ hY (λp hp=>?_) L (λw i E h U G hm=>?_) (λw H a ns hl P hS=>?_)
 ·rcases yZ.mp hp with z | z
  ·rw[z];exact A
  ·rw[zC.mp z];exact j
 ·obtain⟨C,v,D,y,r,t,Q⟩:=Ii (g w);obtain⟨I,hb,Z⟩:=F w i E h C v D y U G hm r t;exists I,hb;intro b X Y O;obtain⟨p1,p2⟩:=O (C,v) (xJ.mpr ⟨_,zF,r⟩);obtain⟨p3,p4⟩:=O (D,y) (xJ.mpr ⟨_,zD _ zF,t⟩);have:=Z b X Y p1 p2 p3 p4
  rwa [show tT (K w.params) "_law_put_stem" = v from congrArg (λo:jO=>(o.getD (0,0)).2) r,show tT (K w.params) "_law_let_go" = y from congrArg (λo:jO=>(o.getD (0,0)).2) t]
 ·obtain⟨C,v,D,y,r,t,Q⟩:=Ii (g w);have q1:=P (C,v) (xJ.mpr ⟨_,zF,r⟩);have q2:=P (D,y) (xJ.mpr ⟨_,zD _ zF,t⟩);have R:tT (K w.params) "_law_put_stem" = v:=congrArg (λo:jO=>(o.getD (0,0)).2) r;have S:tT (K w.params) "_law_let_go" = y:=congrArg (λo:jO=>(o.getD (0,0)).2) t;exact⟨a,ns,rfl,hS,hl,by rw[R];exact q1,by rw[S];exact q2,by rw[R,S];exact Q,λ_=>rfl⟩
end Tw
open PySem PySem.W PyProof.Rows
namespace PySem.W.Fast
def tw10049350126687307091:=0
def tw10099079757895468623:=0
def tw10108934706126959805:=0
def tw10115278575001758037:=0
def tw10134897390448681697:=0
def tw10183752374226323135:=0
def tw10192642940972343716:=0
def tw10206667113097835481:=0
def tw10217572936492059007:=0
def tw10226328043205244327:=0
def tw10235114174505688774:=0
def tw10268392873396204272:=0
def tw10274157578886003199:=0
def tw10305008199134749058:=0
def tw10325179101011427513:=0
def tw10326715334340133919:=0
def tw10329881873799727137:=0
def tw1033800523519793063:=0
def tw10339072869531683087:=0
def tw10342526680453578517:=0
def tw10367877232338146417:=0
def tw10403912257102604678:=0
def tw10409941735581915670:=0
def tw10432002532638891788:=0
def tw104524623928841516:=0
def tw10484353521637584566:=0
def tw10504400364678740641:=0
def tw10538078263681672490:=0
def tw10554731427908046290:=0
def tw10572869755292244245:=0
def tw10590497481674198437:=0
def tw1060000908163858859:=0
def tw10601991725509446829:=0
def tw10608922123634480927:=0
def tw10619909163083673787:=0
def tw10628584883879208639:=0
def tw10647055944868785216:=0
def tw10715915747173351772:=0
def tw10716187725920902458:=0
def tw10749270921529053369:=0
def tw10760535441642822946:=0
def tw10801135025371572871:=0
def tw10818106223652573289:=0
def tw10833534275472673196:=0
def tw10887372854660479283:=0
def tw10900864566748242892:=0
def tw10911221318333510271:=0
def tw10916331440125428432:=0
def tw1091690265290566596:=0
def tw10921582942362600324:=0
def tw10932180629669608559:=0
def tw10955220210681164260:=0
def tw10978225838119648745:=0
def tw10981073483529719853:=0
def tw11008418559345063245:=0
def tw11035164455968307447:=0
def tw11049760538620761004:=0
def tw11112228020705590435:=0
def tw11151457003035219360:=0
def tw11194006594700126646:=0
def tw11212575022671887134:=0
def tw1125146377334808319:=0
def tw11253765615130318966:=0
def tw11261140866906194137:=0
def tw11283855305737317936:=0
def tw11312882459793281646:=0
def tw11354340178341720612:=0
def tw11357334324614002140:=0
def tw11375691862230202296:=0
def tw1138219528699898193:=0
def tw11382929189745621108:=0
def tw11404127673981061477:=0
def tw11409023772638140527:=0
def tw11430730726663546038:=0
def tw11447777751356614161:=0
def tw11456233654606883142:=0
def tw11470587585644824394:=0
def tw11527719201886319049:=0
def tw11578469645118611922:=0
def tw11592070298481305886:=0
def tw11603534564344709119:=0
def tw11653127565889682870:=0
def tw11683215136215117270:=0
def tw11710697856384075533:=0
def tw11734281591755567971:=0
def tw11768051137393371890:=0
def tw11815249040097244287:=0
def tw11817566820700753798:=0
def tw11852259383126788766:=0
def tw11895308225459212135:=0
def tw11902768567359173049:=0
def tw11908324329194317776:=0
def tw11928123156034588501:=0
def tw11937873905375574245:=0
def tw11949779205421992729:=0
def tw11993451273489881551:=0
def tw12001130970469680600:=0
def tw12024563643626450865:=0
def tw12028216457501324886:=0
def tw12029697265858257600:=0
def tw12055716779518019144:=0
def tw12063661217720327127:=0
def tw12132558816198762346:=0
def tw12145573526774923999:=0
def tw12160700540264975564:=0
def tw12214957100500207879:=0
def tw12234516934216172255:=0
def tw12250966032471013707:=0
def tw1230770854875291826:=0
def tw12340400264305848105:=0
def tw12341731989421457403:=0
def tw1237500320375079812:=0
def tw12417498789818939729:=0
def tw12418013075836385406:=0
def tw12428359466666710320:=0
def tw1247256880167342526:=0
def tw12475573486204948670:=0
def tw1249588570809682144:=0
def tw12496422906990332148:=0
def tw1249689889453209394:=0
def tw12507369797950758588:=0
def tw12570794208441205960:=0
def tw12578047619277648870:=0
def tw12600846804567509562:=0
def tw126219132249253672:=0
def tw12652914569087017613:=0
def tw12653260657570612590:=0
def tw12747343577351397595:=0
def tw12760889642609944311:=0
def tw12770753200620421907:=0
def tw12788039618538127970:=0
def tw12824084949855642465:=0
def tw12837477843436603204:=0
def tw12837519308743471495:=0
def tw12858758657651652620:=0
def tw12860122621886371434:=0
def tw12893957094284819017:=0
def tw12901570802702471198:=0
def tw12904900618234962345:=0
def tw12908316267722264919:=0
def tw1293132911145860304:=0
def tw12932999629501819247:=0
def tw1295100003799661155:=0
def tw12954358028439849940:=0
def tw13016123054203624542:=0
def tw13022458537776212771:=0
def tw13031720181639230990:=0
def tw13137324120824325222:=0
def tw13170329706342608036:=0
def tw13177444160445732750:=0
def tw13254154325726539937:=0
def tw13258584893281384645:=0
def tw13263597128299165332:=0
def tw13267115159337531092:=0
def tw13299173804419314519:=0
def tw13339264131870502988:=0
def tw13343519824755360292:=0
def tw13345826206101060391:=0
def tw13381216941995883582:=0
def tw13387494051349322102:=0
def tw13398607210702529703:=0
def tw13408629539047638118:=0
def tw13421389732815158269:=0
def tw13482476261363627923:=0
def tw1352275422611990541:=0
def tw13532116719041738087:=0
def tw13538340182689575291:=0
def tw13552819321694906043:=0
def tw13577474686169064610:=0
def tw13608473688501740848:=0
def tw13611458802287822795:=0
def tw13612213997984348436:=0
def tw13626650115276945005:=0
def tw13627082462750030526:=0
def tw13694262585352419499:=0
def tw13736365901280019861:=0
def tw1373727533705412617:=0
def tw13750679062603424113:=0
def tw13762802324069429597:=0
def tw137909116377422698:=0
def tw13802804913980367794:=0
def tw13802808683545965830:=0
def tw13829182962979298781:=0
def tw13832717385093858831:=0
def tw13849873109286593034:=0
def tw13884880665424635437:=0
def tw13915561368457178809:=0
def tw13927108291033239566:=0
def tw13953249050765025930:=0
def tw13958946113062135750:=0
def tw13980526851413661199:=0
def tw13986081525256060112:=0
def tw13989340648437720534:=0
def tw13999547828820134327:=0
def tw14001860803761159753:=0
def tw14008060717948247779:=0
def tw14031317709527007685:=0
def tw14048718679186884098:=0
def tw14057600545877526022:=0
def tw14112480714177813541:=0
def tw14144043035076684554:=0
def tw14156981416329233407:=0
def tw14181613311974730357:=0
def tw14209912884887289752:=0
def tw14245743759736112139:=0
def tw14267871481030029933:=0
def tw1428781772004230861:=0
def tw14294415450474072219:=0
def tw14295353890467068729:=0
def tw14299083642624857649:=0
def tw14299387284791496623:=0
def tw14327686659772849000:=0
def tw14370170746317936434:=0
def tw1438004464875462801:=0
def tw14380168425986092049:=0
def tw14388443734668311688:=0
def tw14391274794425213495:=0
def tw14412503421611198071:=0
def tw14428113027059004444:=0
def tw14464348072200136172:=0
def tw14484231662939895636:=0
def tw14519370285044901332:=0
def tw14522975645332562251:=0
def tw14552448026916958199:=0
def tw14579908553434895170:=0
def tw14592098056112846861:=0
def tw14592229842073026793:=0
def tw14597071800518333990:=0
def tw1465392653345056115:=0
def tw14674786524350181977:=0
def tw14698151890546514771:=0
def tw14720913291465426798:=0
def tw14724500109579138698:=0
def tw14744981512794130491:=0
def tw14746072122422041546:=0
def tw14777855414047310977:=0
def tw14783275848389980078:=0
def tw14798370635147667864:=0
def tw14819545766491108455:=0
def tw14831018569456238963:=0
def tw14836630850550819071:=0
def tw14850137104191016534:=0
def tw14860515112440482425:=0
def tw14863824433665758862:=0
def tw14875540539702990502:=0
def tw14902889952833764475:=0
def tw14911283731506743538:=0
def tw14916328506318989179:=0
def tw14928918443067611956:=0
def tw14931971699622317431:=0
def tw14933792167271066687:=0
def tw14950682986644598743:=0
def tw15001330621973840074:=0
def tw1501441546454681597:=0
def tw15023788226474364201:=0
def tw15043002923543768458:=0
def tw15065404289241176064:=0
def tw15116248556035481270:=0
def tw15125482977011169109:=0
def tw151564833092287627:=0
def tw15176002003589533460:=0
def tw15224283260143532026:=0
def tw15225660516232235994:=0
def tw15247764962130554397:=0
def tw15288631413027548248:=0
def tw15298216871679210175:=0
def tw15303132519980909626:=0
def tw15343512052457218897:=0
def tw153777792082674832:=0
def tw15384961782853165339:=0
def tw15390879708635800132:=0
def tw15392291660533312262:=0
def tw15466580547295416618:=0
def tw15469106924327168328:=0
def tw15470591565630270367:=0
def tw1547975864001454554:=0
def tw15485182970865315603:=0
def tw15542439376638761567:=0
def tw15548458638643011183:=0
def tw15555120185504643968:=0
def tw15580922821230290853:=0
def tw15616490581440826523:=0
def tw15650151119313567124:=0
def tw15653103172766929533:=0
def tw15694354332379170632:=0
def tw15736106141067620624:=0
def tw15770299612773141590:=0
def tw157851709815676536:=0
def tw15793724018653226367:=0
def tw15805114525524890846:=0
def tw15865645758820560984:=0
def tw15893308339481214751:=0
def tw15919864942274233708:=0
def tw15946712422716402586:=0
def tw15955632550860014348:=0
def tw15976214559278084163:=0
def tw16014548955089497145:=0
def tw16019900634994449889:=0
def tw16024594471235181335:=0
def tw16025111929389091612:=0
def tw16031682219648059777:=0
def tw16045712620288183303:=0
def tw16153055646225587702:=0
def tw16160108776402308829:=0
def tw16160736842161270956:=0
def tw16193781953076965829:=0
def tw16202528803379303774:=0
def tw16210934875407264850:=0
def tw16253448104757828814:=0
def tw16273880272812951263:=0
def tw16315660501639863127:=0
def tw16384299086079841633:=0
def tw16387969088543959936:=0
def tw16420107934262773413:=0
def tw16422744124684388967:=0
def tw16423879117436540090:=0
def tw16427926893571726107:=0
def tw16444565564248793930:=0
def tw16489345580819105870:=0
def tw16501502141494083625:=0
def tw16540804630827255386:=0
def tw16544621587815794331:=0
def tw16582047491088778677:=0
def tw16628905489528530444:=0
def tw16631273726166694749:=0
def tw16641533153253826055:=0
def tw16696256884509344014:=0
def tw1671726617049224212:=0
def tw16749861780324158615:=0
def tw16816433334098150398:=0
def tw16824931584330204138:=0
def tw1684364085957605337:=0
def tw16856832471567838254:=0
def tw16862355249942747046:=0
def tw16865834424973710383:=0
def tw16898801071227426541:=0
def tw16926536488588347314:=0
def tw16952955673070900028:=0
def tw16954643211737699724:=0
def tw16962313417090579579:=0
def tw17011345092849247477:=0
def tw17017708671971426465:=0
def tw1708734449913765923:=0
def tw17103123786546293416:=0
def tw17127504055126179033:=0
def tw17232899903523864877:=0
def tw17295854098839143245:=0
def tw17319652297171071009:=0
def tw17327616607345879475:=0
def tw17343679392110456114:=0
def tw17350325656101591692:=0
def tw17352168578228977887:=0
def tw17358749116177771876:=0
def tw17374002406833313898:=0
def tw17387772823205802586:=0
def tw17433905806083339258:=0
def tw17456613094968739115:=0
def tw17468507396756882978:=0
def tw17470947735928210636:=0
def tw17501069175652194766:=0
def tw17519185560448593510:=0
def tw17520965441159309826:=0
def tw17522184031902019434:=0
def tw1757408650323590919:=0
def tw17574441834123113860:=0
def tw17610100035534837753:=0
def tw17621223265788304116:=0
def tw17629185436392278310:=0
def tw17638296817419842705:=0
def tw17640636674893106035:=0
def tw17643447564172731058:=0
def tw17657319380214730433:=0
def tw17659747290870308969:=0
def tw17668293268342935898:=0
def tw17694805168877854536:=0
def tw17729035116655832577:=0
def tw17752163002048037912:=0
def tw17769125995381019702:=0
def tw17783501357302523422:=0
def tw17796537977389555315:=0
def tw17915132084025625807:=0
def tw17990629580638642845:=0
def tw18009847047442600907:=0
def tw18011660075765728223:=0
def tw18012591251148937512:=0
def tw18012789128418977448:=0
def tw18028354830492810073:=0
def tw18043347503462809813:=0
def tw18057972944016485373:=0
def tw18109373012916516469:=0
def tw1812817523975719506:=0
def tw18149714733049719160:=0
def tw18208891977667051982:=0
def tw18286581796791021761:=0
def tw1828837164830134774:=0
def tw18289741182865992899:=0
def tw18302854563108134192:=0
def tw18307999822396331218:=0
def tw18336887086500716921:=0
def tw18355221626556342585:=0
def tw1836437148144295194:=0
def tw183682970759931862:=0
def tw18398894181596275313:=0
def tw184155581336602937:=0
def tw18444013535212097833:=0
def tw1855302837927675541:=0
def tw1873242771380324159:=0
def tw1886927196242489335:=0
def tw1906649103384720926:=0
def tw1911394568103482664:=0
def tw1943190796625930121:=0
def tw1975325201278049303:=0
def tw1994088737262272362:=0
def tw1995315164278506973:=0
def tw1998384847786774396:=0
def tw2012714696693510060:=0
def tw2017849572864183406:=0
def tw209458672128949865:=0
def tw2110217901885033688:=0
def tw2132609099735635066:=0
def tw2145259819138960366:=0
def tw2163330134634491834:=0
def tw2194611143179591733:=0
def tw2197755452819232935:=0
def tw2219895681334315077:=0
def tw2231322484681495219:=0
def tw2238736411968615160:=0
def tw2260398182728958133:=0
def tw2264372840984959993:=0
def tw2273530455772320723:=0
def tw2298571037139442067:=0
def tw231246313805704626:=0
def tw2315504645028151811:=0
def tw2318779632491085154:=0
def tw2366192098815900497:=0
def tw2449565399088524304:=0
def tw2484306015867132507:=0
def tw2496209029368061749:=0
def tw2512914314587100294:=0
def tw2513125333731574215:=0
def tw2523770763309966060:=0
def tw2564192685557628558:=0
def tw258054100891622795:=0
def tw2636941427624310728:=0
def tw2748217907656561352:=0
def tw2793346597350698479:=0
def tw2812285958098187160:=0
def tw2818703638240070893:=0
def tw2823304719429015770:=0
def tw2857918378886984996:=0
def tw2916855029005226803:=0
def tw2920916051898184260:=0
def tw2935783143634561896:=0
def tw2943353950818586910:=0
def tw3017654046791200505:=0
def tw3024911045496456551:=0
def tw3105239752787024727:=0
def tw3206319130966118007:=0
def tw3241551042876394330:=0
def tw3244136927022377743:=0
def tw3275475205189221371:=0
def tw3353811002757192383:=0
def tw3363685528780857704:=0
def tw3388892681431723044:=0
def tw3391387608212069150:=0
def tw3509951284165703177:=0
def tw3516564371842939241:=0
def tw3557458015116468114:=0
def tw3631959988692290741:=0
def tw3684007212596515393:=0
def tw3694976397971045700:=0
def tw37299801534812805:=0
def tw3804817852036545067:=0
def tw3839307577439411211:=0
def tw3852314002051635156:=0
def tw387289407608332356:=0
def tw3904856027721596117:=0
def tw3923693021942396285:=0
def tw3975737133944439608:=0
def tw4015326753233054672:=0
def tw4025193396488287346:=0
def tw4049488191885731575:=0
def tw4056826085569570503:=0
def tw4082419197699373904:=0
def tw4086605303216801176:=0
def tw4108429209574033979:=0
def tw4119523551340298257:=0
def tw4129709925183800053:=0
def tw4133517134735103785:=0
def tw4159963236472298741:=0
def tw4260729703306314516:=0
def tw4364520131758199698:=0
def tw441658671228632192:=0
def tw4419961842023955071:=0
def tw4425162153150228660:=0
def tw4441215875445353221:=0
def tw4450720255766025261:=0
def tw44748906549755505:=0
def tw4542823895251700520:=0
def tw4593127269163992929:=0
def tw4618349971698065664:=0
def tw463644473500554603:=0
def tw4644283752260911034:=0
def tw4646644970277841560:=0
def tw4647959562798852351:=0
def tw4677619464550477357:=0
def tw4727109269831258602:=0
def tw4748339293223203034:=0
def tw4762823351776245355:=0
def tw4806021780545906476:=0
def tw4866931886276929034:=0
def tw4880147635963594174:=0
def tw4911826280295965279:=0
def tw4917475891526180363:=0
def tw4923859841384970292:=0
def tw4942745316231557974:=0
def tw5027577019170118209:=0
def tw5053206203898901701:=0
def tw5082215897807792080:=0
def tw509440335652393431:=0
def tw5107009198950147487:=0
def tw5171452609927516301:=0
def tw5197684787582621804:=0
def tw5214304707271495930:=0
def tw5254341314832941769:=0
def tw5267551293292839952:=0
def tw5268944867166368996:=0
def tw5272938173312307440:=0
def tw5294056223308792389:=0
def tw532092883871354317:=0
def tw5336885602629630715:=0
def tw5420156221513740970:=0
def tw5423188877146298441:=0
def tw5462875775111498157:=0
def tw547387656288899708:=0
def tw5541296634083424818:=0
def tw556392655920511225:=0
def tw5577231597424029398:=0
def tw5625739920135247897:=0
def tw5713959346220186690:=0
def tw5718623881564381663:=0
def tw5750070109546125679:=0
def tw5764668836890994782:=0
def tw5804387808673490309:=0
def tw5804696251507382784:=0
def tw5848036980413428887:=0
def tw5884413096651674710:=0
def tw5901279234343396299:=0
def tw5902059417064311329:=0
def tw5928349401132262974:=0
def tw5928937008565814604:=0
def tw5973461091018846793:=0
def tw6048932424033476497:=0
def tw6076934056268974850:=0
def tw6197467726846871982:=0
def tw6219809884514759564:=0
def tw6278771946489772047:=0
def tw6282442741584178776:=0
def tw628733967251138375:=0
def tw632757984079605085:=0
def tw6328154197448165706:=0
def tw6338820010297308120:=0
def tw6360169030658521937:=0
def tw6382275715773336819:=0
def tw638815538634810185:=0
def tw6420285265032905182:=0
def tw6510647579026246254:=0
def tw651344978331998367:=0
def tw6572106210600592267:=0
def tw6611530675701545009:=0
def tw667628919726695827:=0
def tw6758872851609404555:=0
def tw6770544117518080600:=0
def tw677285370379160889:=0
def tw6783531955058279332:=0
def tw6794069416297663638:=0
def tw6804213567552772905:=0
def tw6831778830221836091:=0
def tw6832883780376726078:=0
def tw6844230071853472178:=0
def tw6890985439492131209:=0
def tw6926369319174369197:=0
def tw6935976028312308033:=0
def tw6951715627550343236:=0
def tw6955379919110570276:=0
def tw6978818519321707645:=0
def tw698175451718101901:=0
def tw6986971882546834622:=0
def tw6996093679557610864:=0
def tw6997697468445017321:=0
def tw7003206646169707368:=0
def tw7019712195890306023:=0
def tw7037301645451675482:=0
def tw7087925566700946597:=0
def tw7095226750326213349:=0
def tw7099601904227279319:=0
def tw7129331306145463668:=0
def tw7157673287595744975:=0
def tw7255915980571099658:=0
def tw726518750187791687:=0
def tw7303780934005244727:=0
def tw7321770273445123229:=0
def tw7350338360429941084:=0
def tw7392266133097684139:=0
def tw7428962482859077000:=0
def tw7441427310222185218:=0
def tw7452480915302446284:=0
def tw756969091172711648:=0
def tw761397880157979447:=0
def tw7621210700403815111:=0
def tw7631894921943028240:=0
def tw7637623330615556284:=0
def tw7655782606793947044:=0
def tw775641179928971162:=0
def tw7820383282883525887:=0
def tw7842458490235913997:=0
def tw7852666645032550728:=0
def tw789694099405045969:=0
def tw7902914149197286380:=0
def tw7916775773137736014:=0
def tw7920574538075456088:=0
def tw7923912269931592366:=0
def tw7934026804127689626:=0
def tw8007643823966340303:=0
def tw8041246661030530958:=0
def tw8046017218228090598:=0
def tw8069429825944566090:=0
def tw8083116963275760850:=0
def tw8086559207964424687:=0
def tw8157017788794670213:=0
def tw8186619530719423861:=0
def tw8202789895287716601:=0
def tw8293982287806072685:=0
def tw8308797419677647860:=0
def tw8315567377626349124:=0
def tw831684662130622813:=0
def tw8344916865168392019:=0
def tw8350960893524979451:=0
def tw8384735478924717741:=0
def tw8386907013067789094:=0
def tw8418703242496057978:=0
def tw8443724492851789424:=0
def tw8460589443369502643:=0
def tw8467693273443509664:=0
def tw8479282540794003021:=0
def tw8501062892078240066:=0
def tw8506097169245837950:=0
def tw8556441174130135988:=0
def tw8558837710972095010:=0
def tw8602425374468492016:=0
def tw8627354914206260479:=0
def tw8632564551695759631:=0
def tw8770812428777801939:=0
def tw8785389586183549794:=0
def tw8825556917287444360:=0
def tw8839282491013122392:=0
def tw8839535690280042270:=0
def tw8870647271522978992:=0
def tw8904045397001810563:=0
def tw8923775193419119604:=0
def tw8924381251691452276:=0
def tw8955803289648753043:=0
def tw8973775792497283151:=0
def tw898716894992331017:=0
def tw898924667199066537:=0
def tw8996449707658632226:=0
def tw9063873627748247508:=0
def tw9088307415303798739:=0
def tw9130501384418280270:=0
def tw9142158393543214638:=0
def tw9142595561441597936:=0
def tw916271282719530454:=0
def tw9174374177953800060:=0
def tw919632715335102442:=0
def tw9230250211614277784:=0
def tw9259318336293329631:=0
def tw9288374040044822932:=0
def tw9309514198552951725:=0
def tw9351182654958371372:=0
def tw9362745637270130108:=0
def tw9370281377130889785:=0
def tw9386565404089516265:=0
def tw9403682604162680257:=0
def tw9403973722186994522:=0
def tw9436182800771984637:=0
def tw944513779289197859:=0
def tw9445254632690830517:=0
def tw9454827017399174880:=0
def tw9457751159675319059:=0
def tw9468323405858287127:=0
def tw9470116654711147537:=0
def tw9492821966980632703:=0
def tw9524100238887931220:=0
def tw9531114340487936353:=0
def tw9577756859780612688:=0
def tw9613906293142881919:=0
def tw9667421372934080816:=0
def tw9676368829342606735:=0
def tw9684440111172431867:=0
def tw9692511822919153404:=0
def tw9741910925443860938:=0
def tw9751258622228085786:=0
def tw9780452363229970014:=0
def tw9799097606498884936:=0
def tw9799758318172408440:=0
def tw9912204099913540356:=0
def tw9919634322632680479:=0
def tw9920743261737948910:=0
def tw9927109583290572593:=0
def tw9940304538721382263:=0
end PySem.W.Fast
set_option maxRecDepth 100000 in
set_option maxHeartbeats 0 in
theorem PySem.Challenge.cw_twigmap_k24_holds_counted_holds : PySem.Challenge.rw_twigmap_k24_holds_counted.Holds := by
 w_on;o_law;k_head;(case hw=>w_witness2)
 k_fill
 refine Tw.walk (l:=PySem.Challenge.rw_twigmap_k24_holds_counted) rfl rfl (λw h Y=>PySem.W.km_in_of Y) ?qRec ?qRec2 ?qTab ?qNot ?qFun
 case qRec=>first | kernel_rfl | exact rfl
 case qRec2=>first | kernel_rfl | exact rfl
 case qTab=>intro w;kernel_rfl
 case qNot=>intro w;kernel_rfl
 case qFun=>
  intro w mg fa h cb tb cc tc KX G hmg hta htb;refine' Tw.Mx KX G hmg hta htb (Tw.Nn KX G ?a1 ?l1 ?c1 ?k1 λ_ _ _ _ _ _ us hl=>match us,hl with | [_],_=>rfl) (Tw.Nn KX G ?a2 ?l2 ?c2 ?k2 λ_ _ _ _ _ _ us hl=>match us,hl with | [_],_=>rfl) (Tw.Nn KX G ?a3 ?l3 ?c3 ?k3 λ_ _ _ _ _ _ us hl=>match us,hl with | [_,_],_=>rfl) (Tw.Nn KX G ?a4 ?l4 ?c4 ?k4 λ_ _ _ _ _ _ us hl=>match us,hl with | [_],_=>rfl) (Tw.Nn KX G ?a5 ?l5 ?c5 ?k5 λ_ _ _ _ _ _ us hl=>match us,hl with | [_],_=>rfl) (Tw.Nn KX G ?a6 ?l6 ?c6 ?k6 λ_ _ _ _ _ _ us hl=>match us,hl with | [_,_],_=>rfl) (Tw.Nn KX G ?a7 ?l7 ?c7 ?k7 λ_ _ _ _ _ _ us hl=>match us,hl with | [_],_=>rfl) (Tw.Nn KX G ?a8 ?l8 ?c8 ?k8 λ_ _ _ _ _ _ us hl=>match us,hl with | [_],_=>rfl) (Tw.Nn KX G ?a9 ?l9 ?c9 ?k9 λ_ _ _ _ _ _ us hl=>match us,hl with | [_],_=>rfl) (Tw.Nn KX G ?a10 ?l10 ?c10 ?k10 λ_ _ _ _ _ _ us hl=>match us,hl with | [_],_=>rfl) (Tw.Nn KX G ?a11 ?l11 ?c11 ?k11 λ_ _ _ _ _ _ us hl=>match us,hl with | [_],_=>rfl) (Tw.Nn KX G ?a12 ?l12 ?c12 ?k12 λ_ _ _ _ _ _ us hl=>match us,hl with | [_],_=>rfl) (Tw.Nn KX G ?a13 ?l13 ?c13 ?k13 λ_ _ _ _ _ _ us hl=>match us,hl with | [_,_],_=>rfl) (Tw.Nn KX G ?a14 ?l14 ?c14 ?k14 λ_ _ _ _ _ _ us hl=>match us,hl with | [_],_=>rfl) (Tw.Nn KX G ?a15 ?l15 ?c15 ?k15 λ_ _ _ _ _ _ us hl=>match us,hl with | [_,_],_=>rfl) (Tw.Nn KX G ?a16 ?l16 ?c16 ?k16 λ_ _ _ _ _ _ us hl=>match us,hl with | [_,_],_=>rfl) (Tw.Nn KX G ?a17 ?l17 ?c17 ?k17 λ_ _ _ _ _ _ us hl=>match us,hl with | [_],_=>rfl) (Tw.Nn KX G ?a18 ?l18 ?c18 ?k18 λ_ _ _ _ _ _ us hl=>match us,hl with | [_,_],_=>rfl) (Tw.Nn KX G ?a19 ?l19 ?c19 ?k19 λ_ _ _ _ _ _ us hl=>match us,hl with | [_,_],_=>rfl) (Tw.Nn KX G ?a20 ?l20 ?c20 ?k20 λ_ _ _ _ _ _ us hl=>match us,hl with | [_],_=>rfl) (Tw.Nn KX G ?a21 ?l21 ?c21 ?k21 λ_ _ _ _ _ _ us hl=>match us,hl with | [_,_,_],_=>rfl) (Tw.Nn KX G ?a22 ?l22 ?c22 ?k22 λ_ _ _ _ _ _ us hl=>match us,hl with | [_,_],_=>rfl) (Tw.Nn KX G ?a23 ?l23 ?c23 ?k23 λ_ _ _ _ _ _ us hl=>match us,hl with | [_,_],_=>rfl) (Tw.Nn KX G ?a24 ?l24 ?c24 ?k24 λ_ _ _ _ _ _ us hl=>match us,hl with | [_,_],_=>rfl) (Tw.Nn KX G ?a25 ?l25 ?c25 ?k25 λ_ _ _ _ _ _ us hl=>match us,hl with | [_,_,_],_=>rfl) (Tw.Nn KX G ?a26 ?l26 ?c26 ?k26 λ_ _ _ _ _ _ us hl=>match us,hl with | [_,_],_=>rfl) (Tw.Nn KX G ?a27 ?l27 ?c27 ?k27 λ_ _ _ _ _ _ us hl=>match us,hl with | [_,_],_=>rfl) (Tw.Nn KX G ?a28 ?l28 ?c28 ?k28 λ_ _ _ _ _ _ us hl=>match us,hl with | [_,_,_],_=>rfl) (Tw.Nn KX G ?a29 ?l29 ?c29 ?k29 λ_ _ _ _ _ _ us hl=>match us,hl with | [_],_=>rfl) (Tw.Nn KX G ?a30 ?l30 ?c30 ?k30 λ_ _ _ _ _ _ us hl=>match us,hl with | [_,_,_],_=>rfl) (Tw.Nn KX G ?a31 ?l31 ?c31 ?k31 λ_ _ _ _ _ _ us hl=>match us,hl with | [_,_],_=>rfl) (Tw.Nn KX G ?a32 ?l32 ?c32 ?k32 λ_ _ _ _ _ _ us hl=>match us,hl with | [_,_],_=>rfl) (Tw.Nn KX G ?a33 ?l33 ?c33 ?k33 λ_ _ _ _ _ _ us hl=>match us,hl with | [_,_,_,_],_=>rfl) (Tw.Nn KX G ?a34 ?l34 ?c34 ?k34 λ_ _ _ _ _ _ us hl=>match us,hl with | [_,_,_],_=>rfl) ?a35 ?l35 ?c35 ?k35 (Tw.Nn KX G ?a36 ?l36 ?c36 ?k36 λ_ _ _ _ _ _ us hl=>match us,hl with | [_,_],_=>rfl) ?a37 ?l37 ?c37 ?k37 (Tw.Nn KX G ?a38 ?l38 ?c38 ?k38 λ_ _ _ _ _ _ us hl=>match us,hl with | [_,_,_],_=>rfl) (Tw.Nn KX G ?a39 ?l39 ?c39 ?k39 λ_ _ _ _ _ _ us hl=>match us,hl with | [_,_],_=>rfl) ?a40 ?l40 ?c40 ?k40 ?z1 ?z2 ?z3 ?z4 ?z5 ?z6 ?z7 ?z8 ?z9 ?z10 ?z11 ?z12 ?z13 ?z14 ?z15 ?z16 ?m1_ ?m2_ ?m3_ ?m4_ ?m5_ ?m6_ ?m7_ ?m8_ ?m9_ ?m10_ (Tw.NI ?vjS ?iljS ?fnjS ?icjS ?ikjS λ_ _ _ _ _ _ us hl=>match us,hl with | [_],_=>rfl) (Tw.NI ?vjT ?iljT ?fnjT ?icjT ?ikjT λ_ _ _ _ _ _ us hl=>match us,hl with | [_,_,_],_=>rfl) ?iljN ?icjN ?ikjN ?iljH ?icjH ?ikjH ?iljD ?icjD ?ikjD (Tw.NO ?vm1 ?ilm1 ?fnm1 ?icm1 ?ikm1 λ_ _ _ _ _ _ us hl=>match us,hl with | [_,_],_=>rfl) (Tw.NO ?vm2 ?ilm2 ?fnm2 ?icm2 ?ikm2 λ_ _ _ _ _ _ us hl=>match us,hl with | [_,_],_=>rfl) (Tw.NO ?vm3 ?ilm3 ?fnm3 ?icm3 ?ikm3 λ_ _ _ _ _ _ us hl=>match us,hl with | [_,_,_],_=>rfl) (Tw.NO ?vm4 ?ilm4 ?fnm4 ?icm4 ?ikm4 λ_ _ _ _ _ _ us hl=>match us,hl with | [_,_],_=>rfl) (Tw.NO ?vm5 ?ilm5 ?fnm5 ?icm5 ?ikm5 λ_ _ _ _ _ _ us hl=>match us,hl with | [_,_],_=>rfl) (Tw.NO ?vm6 ?ilm6 ?fnm6 ?icm6 ?ikm6 λ_ _ _ _ _ _ us hl=>match us,hl with | [_,_],_=>rfl) (Tw.NO ?vm7 ?ilm7 ?fnm7 ?icm7 ?ikm7 λ_ _ _ _ _ _ us hl=>match us,hl with | [_,_],_=>rfl) (Tw.NO ?vm8 ?ilm8 ?fnm8 ?icm8 ?ikm8 λ_ _ _ _ _ _ us hl=>match us,hl with | [_,_],_=>rfl) (Tw.NO ?vm9 ?ilm9 ?fnm9 ?icm9 ?ikm9 λ_ _ _ _ _ _ us hl=>match us,hl with | [_],_=>rfl) (Tw.NO ?vm10 ?ilm10 ?fnm10 ?icm10 ?ikm10 λ_ _ _ _ _ _ us hl=>match us,hl with | [_],_=>rfl) (Tw.NO ?vm11 ?ilm11 ?fnm11 ?icm11 ?ikm11 λ_ _ _ _ _ _ us hl=>match us,hl with | [_],_=>rfl) (Tw.NO ?vm12 ?ilm12 ?fnm12 ?icm12 ?ikm12 λ_ _ _ _ _ _ us hl=>match us,hl with | [_,_],_=>rfl) (Tw.NO ?vm13 ?ilm13 ?fnm13 ?icm13 ?ikm13 λ_ _ _ _ _ _ us hl=>match us,hl with | [_,_],_=>rfl) (Tw.NO ?vm14 ?ilm14 ?fnm14 ?icm14 ?ikm14 λ_ _ _ _ _ _ us hl=>match us,hl with | [_,_],_=>rfl) (Tw.NO ?vm15 ?ilm15 ?fnm15 ?icm15 ?ikm15 λ_ _ _ _ _ _ us hl=>match us,hl with | [_,_,_],_=>rfl) (Tw.NO ?vm16 ?ilm16 ?fnm16 ?icm16 ?ikm16 λ_ _ _ _ _ _ us hl=>match us,hl with | [_,_],_=>rfl) (Tw.NO ?vm17 ?ilm17 ?fnm17 ?icm17 ?ikm17 λ_ _ _ _ _ _ us hl=>match us,hl with | [_,_],_=>rfl) (Tw.NO ?vm18 ?ilm18 ?fnm18 ?icm18 ?ikm18 λ_ _ _ _ _ _ us hl=>match us,hl with | [_,_],_=>rfl) (Tw.NO ?vm19 ?ilm19 ?fnm19 ?icm19 ?ikm19 λ_ _ _ _ _ _ us hl=>match us,hl with | [_,_],_=>rfl) ?xCB ?xCK ?xCL ?xCS ?xCT ?xCH ?xCD ?xCSh ?xCTw ?vjN ?vjH ?vjD ?mkCSh ?kpCSh ?pgCSh ?hdCSh ?poCSh ?saCSh ?mkCTw ?kpCTw ?pgCTw ?hdCTw ?poCTw ?saCTw ?na_kept ?na_following ?na_looks ?na_things ?na_tag ?na_above ?na_holds ?tyB ?mB ?kitx ?wCT ?tyCT ?wCH ?tyCH ?wCD ?tyCD ?sbCS ?sbCT ?sbCH ?exCS ?kpCS ?mBCS ?tyCS ?mBCD ?slCD
  (case xCB=>k_is)
  (case xCK=>k_is)
  (case xCL=>k_is)
  (case xCS=>k_is)
  (case xCT=>k_is)
  (case xCH=>k_is)
  (case xCD=>k_is)
  (case xCSh=>k_is)
  (case xCTw=>k_is)
  (case vjS=>k_is)
  (case vjT=>k_is)
  (case vjN=>k_is)
  (case vjH=>k_is)
  (case vjD=>k_is)
  (case vm1=>k_is)
  (case vm2=>k_is)
  (case vm3=>k_is)
  (case vm4=>k_is)
  (case vm5=>k_is)
  (case vm6=>k_is)
  (case vm7=>k_is)
  (case vm8=>k_is)
  (case vm9=>k_is)
  (case vm10=>k_is)
  (case vm11=>k_is)
  (case vm12=>k_is)
  (case vm13=>k_is)
  (case vm14=>k_is)
  (case vm15=>k_is)
  (case vm16=>k_is)
  (case vm17=>k_is)
  (case vm18=>k_is)
  (case vm19=>k_is)
  (case a1=>k_is)
  (case l1=>k_is)
  (case c1=>k_is)
  (case k1=>k_is)
  (case a2=>k_is)
  (case l2=>k_is)
  (case c2=>k_is)
  (case k2=>k_is)
  (case a3=>k_is)
  (case l3=>k_is)
  (case c3=>k_is)
  (case k3=>k_is)
  (case a4=>k_is)
  (case l4=>k_is)
  (case c4=>k_is)
  (case k4=>k_is)
  (case a5=>k_is)
  (case l5=>k_is)
  (case c5=>k_is)
  (case k5=>k_is)
  (case a6=>k_is)
  (case l6=>k_is)
  (case c6=>k_is)
  (case k6=>k_is)
  (case a7=>k_is)
  (case l7=>k_is)
  (case c7=>k_is)
  (case k7=>k_is)
  (case a8=>k_is)
  (case l8=>k_is)
  (case c8=>k_is)
  (case k8=>k_is)
  (case a9=>k_is)
  (case l9=>k_is)
  (case c9=>k_is)
  (case k9=>k_is)
  (case a10=>k_is)
  (case l10=>k_is)
  (case c10=>k_is)
  (case k10=>k_is)
  (case a11=>k_is)
  (case l11=>k_is)
  (case c11=>k_is)
  (case k11=>k_is)
  (case a12=>k_is)
  (case l12=>k_is)
  (case c12=>k_is)
  (case k12=>k_is)
  (case a13=>k_is)
  (case l13=>k_is)
  (case c13=>k_is)
  (case k13=>k_is)
  (case a14=>k_is)
  (case l14=>k_is)
  (case c14=>k_is)
  (case k14=>k_is)
  (case a15=>k_is)
  (case l15=>k_is)
  (case c15=>k_is)
  (case k15=>k_is)
  (case a16=>k_is)
  (case l16=>k_is)
  (case c16=>k_is)
  (case k16=>k_is)
  (case a17=>k_is)
  (case l17=>k_is)
  (case c17=>k_is)
  (case k17=>k_is)
  (case a18=>k_is)
  (case l18=>k_is)
  (case c18=>k_is)
  (case k18=>k_is)
  (case a19=>k_is)
  (case l19=>k_is)
  (case c19=>k_is)
  (case k19=>k_is)
  (case a20=>k_is)
  (case l20=>k_is)
  (case c20=>k_is)
  (case k20=>k_is)
  (case a21=>k_is)
  (case l21=>k_is)
  (case c21=>k_is)
  (case k21=>k_is)
  (case a22=>k_is)
  (case l22=>k_is)
  (case c22=>k_is)
  (case k22=>k_is)
  (case a23=>k_is)
  (case l23=>k_is)
  (case c23=>k_is)
  (case k23=>k_is)
  (case a24=>k_is)
  (case l24=>k_is)
  (case c24=>k_is)
  (case k24=>k_is)
  (case a25=>k_is)
  (case l25=>k_is)
  (case c25=>k_is)
  (case k25=>k_is)
  (case a26=>k_is)
  (case l26=>k_is)
  (case c26=>k_is)
  (case k26=>k_is)
  (case a27=>k_is)
  (case l27=>k_is)
  (case c27=>k_is)
  (case k27=>k_is)
  (case a28=>k_is)
  (case l28=>k_is)
  (case c28=>k_is)
  (case k28=>k_is)
  (case a29=>k_is)
  (case l29=>k_is)
  (case c29=>k_is)
  (case k29=>k_is)
  (case a30=>k_is)
  (case l30=>k_is)
  (case c30=>k_is)
  (case k30=>k_is)
  (case a31=>k_is)
  (case l31=>k_is)
  (case c31=>k_is)
  (case k31=>k_is)
  (case a32=>k_is)
  (case l32=>k_is)
  (case c32=>k_is)
  (case k32=>k_is)
  (case a33=>k_is)
  (case l33=>k_is)
  (case c33=>k_is)
  (case k33=>k_is)
  (case a34=>k_is)
  (case l34=>k_is)
  (case c34=>k_is)
  (case k34=>k_is)
  (case a35=>k_is)
  (case l35=>k_is)
  (case c35=>k_is)
  (case k35=>k_is)
  (case a36=>k_is)
  (case l36=>k_is)
  (case c36=>k_is)
  (case k36=>k_is)
  (case a37=>k_is)
  (case l37=>k_is)
  (case c37=>k_is)
  (case k37=>k_is)
  (case a38=>k_is)
  (case l38=>k_is)
  (case c38=>k_is)
  (case k38=>k_is)
  (case a39=>k_is)
  (case l39=>k_is)
  (case c39=>k_is)
  (case k39=>k_is)
  (case a40=>k_is)
  (case l40=>k_is)
  (case c40=>k_is)
  (case k40=>k_is)
  (case z1=>k_is)
  (case z2=>k_is)
  (case z3=>k_is)
  (case z4=>k_is)
  (case z5=>k_is)
  (case z6=>k_is)
  (case z7=>k_is)
  (case z8=>k_is)
  (case z9=>k_is)
  (case z10=>k_is)
  (case z11=>k_is)
  (case z12=>k_is)
  (case z13=>k_is)
  (case z14=>k_is)
  (case z15=>k_is)
  (case z16=>k_is)
  (case m1_=>k_is)
  (case m2_=>k_is)
  (case m3_=>k_is)
  (case m4_=>k_is)
  (case m5_=>k_is)
  (case m6_=>k_is)
  (case m7_=>k_is)
  (case m8_=>k_is)
  (case m9_=>k_is)
  (case m10_=>k_is)
  (case iljS=>k_is)
  (case icjS=>k_is)
  (case ikjS=>k_is)
  (case iljT=>k_is)
  (case icjT=>k_is)
  (case ikjT=>k_is)
  (case iljN=>k_is)
  (case icjN=>k_is)
  (case ikjN=>k_is)
  (case iljH=>k_is)
  (case icjH=>k_is)
  (case ikjH=>k_is)
  (case iljD=>k_is)
  (case icjD=>k_is)
  (case ikjD=>k_is)
  (case ilm1=>k_is)
  (case icm1=>k_is)
  (case ikm1=>k_is)
  (case ilm2=>k_is)
  (case icm2=>k_is)
  (case ikm2=>k_is)
  (case ilm3=>k_is)
  (case icm3=>k_is)
  (case ikm3=>k_is)
  (case ilm4=>k_is)
  (case icm4=>k_is)
  (case ikm4=>k_is)
  (case ilm5=>k_is)
  (case icm5=>k_is)
  (case ikm5=>k_is)
  (case ilm6=>k_is)
  (case icm6=>k_is)
  (case ikm6=>k_is)
  (case ilm7=>k_is)
  (case icm7=>k_is)
  (case ikm7=>k_is)
  (case ilm8=>k_is)
  (case icm8=>k_is)
  (case ikm8=>k_is)
  (case ilm9=>k_is)
  (case icm9=>k_is)
  (case ikm9=>k_is)
  (case ilm10=>k_is)
  (case icm10=>k_is)
  (case ikm10=>k_is)
  (case ilm11=>k_is)
  (case icm11=>k_is)
  (case ikm11=>k_is)
  (case ilm12=>k_is)
  (case icm12=>k_is)
  (case ikm12=>k_is)
  (case ilm13=>k_is)
  (case icm13=>k_is)
  (case ikm13=>k_is)
  (case ilm14=>k_is)
  (case icm14=>k_is)
  (case ikm14=>k_is)
  (case ilm15=>k_is)
  (case icm15=>k_is)
  (case ikm15=>k_is)
  (case ilm16=>k_is)
  (case icm16=>k_is)
  (case ikm16=>k_is)
  (case ilm17=>k_is)
  (case icm17=>k_is)
  (case ikm17=>k_is)
  (case ilm18=>k_is)
  (case icm18=>k_is)
  (case ikm18=>k_is)
  (case ilm19=>k_is)
  (case icm19=>k_is)
  (case ikm19=>k_is)
  (case fnjS=>k_is)
  (case fnjT=>k_is)
  (case fnm1=>k_is)
  (case fnm2=>k_is)
  (case fnm3=>k_is)
  (case fnm4=>k_is)
  (case fnm5=>k_is)
  (case fnm6=>k_is)
  (case fnm7=>k_is)
  (case fnm8=>k_is)
  (case fnm9=>k_is)
  (case fnm10=>k_is)
  (case fnm11=>k_is)
  (case fnm12=>k_is)
  (case fnm13=>k_is)
  (case fnm14=>k_is)
  (case fnm15=>k_is)
  (case fnm16=>k_is)
  (case fnm17=>k_is)
  (case fnm18=>k_is)
  (case fnm19=>k_is)
  (case mkCSh=>k_is)
  (case kpCSh=>k_is)
  (case pgCSh=>k_is)
  (case hdCSh=>k_is)
  (case poCSh=>k_is)
  (case saCSh=>k_is)
  (case mkCTw=>k_is)
  (case kpCTw=>k_is)
  (case pgCTw=>k_is)
  (case hdCTw=>k_is)
  (case poCTw=>k_is)
  (case saCTw=>k_is)
  (case na_kept=>k_is)
  (case na_following=>k_is)
  (case na_looks=>k_is)
  (case na_things=>k_is)
  (case na_tag=>k_is)
  (case na_above=>k_is)
  (case na_holds=>k_is)
  (case tyB=>k_is)
  (case mB=>k_is)
  (case kitx=>kernel_rfl)
  (case wCT=>kernel_rfl)
  (case tyCT=>k_is)
  (case wCH=>kernel_rfl)
  (case tyCH=>k_is)
  (case wCD=>kernel_rfl)
  (case tyCD=>k_is)
  (case sbCS=>k_is)
  (case sbCT=>k_is)
  (case sbCH=>k_is)
  (case exCS=>k_exc)
  (case kpCS=>k_is)
  (case mBCS=>k_is)
  (case tyCS=>k_is)
  (case mBCD=>k_is)
  (case slCD=>k_is)
