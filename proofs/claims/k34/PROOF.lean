import PyProof.Rows.All
import Wide.All
import OpenK.AllK
import Wide.FinOn
import Lean
import PyProof.EqAt
import PyProof.EqKinds
import PyProof.TupleCall
import PyProof.NeKinds
import PyProof.TupleKey
import PyProof.DictFindH
import PyProof.NsDelKeeps
import PyProof.ExcBaseAll.ValueError
import KE.KIsAll
import PyProof.ExcArgsOwn
import PyProof.ExcAttrAll.ValueError
import KE.KSortTup
import KE.KDictList
import PyProof.Rows.SortWalk
import KE.KEqDict
import KE.KLam
import KE.KRevIter
import PyProof.InstStoreFacts
import PyProof.ExcClass3
import PyProof.Rows.StrStep
import PyProof.Rows.SumAny
import PySem.Challenge.RW_twigmap_k34_near_ones
open PySem renaming wpAny_bind→aa,wpAny_pure→ad,wpAny_mono→ae,wpAny_holding→af,wpAny_Call_Name_kw→ag,wpAny_standAt→ah,Value→ai,Addr→aj,Shared→am,Program→ao,FuncData→aq,mainGlobals→ar,sizeLine→aw,starEach→ax,World→ay,Around→az,bootBuiltins→aA,compareOp→aB,model→aC,wpAny→aD,Stmt→aE,Heap→aF,Scope→aG,backTo→aH,eval→aI,Obj→aJ
universe u
theorem aK{p:Prop}[Decidable p](h:¬p):decide p=false:=decide_eq_false h
theorem aM{p:Prop}[Decidable p](h:p):decide p=true:=decide_eq_true h
theorem aO{c:Prop}{h:Decidable c}(n:¬c){α:Sort u}{t e:α}:(ite c t e)=e:=if_neg n
theorem aP{c:Prop}{h:Decidable c}(n:c){α:Sort u}{t e:α}:(ite c t e)=t:=if_pos n
set_option Elab.async false
set_option linter.all false
set_option maxRecDepth 100000
set_option maxHeartbeats 8000000
open List renaming getD_eq_getElem?_getD->zV,length_map->zX,getElem?_eq_getElem->zT,length_append->zU,mem_of_getElem?->zN,getElem?_eq_some_iff->yV,mem_cons_of_mem->zH,size_toArray->zO,all_eq_true->zP,mem_cons_self->zK,getElem?_map->zL,mem_singleton->zA,take_of_length_le->yR,length_cons->zI,map_append->yZ,map_cons->zF,mem_cons->zB,mem_map->zJ,mem_append_right->yI,mem_append->yT,getElem?_append_right->xW,take_add_one->yL,append_nil->yO,getElem?_append_left->wX,range->yU,getElem_mem->xZ,mem_append_left->xG,pairwise_cons->xL,mem_range->yA,lookup_cons->xQ,toArray->yG,filter_append->xA,length_take->xH,take_append_drop->wE,flatMap_cons->wM,range'->yB,length_nil->xD,filterMap_cons->wG,filter_eq_nil_iff->vS,drop_eq_getElem_cons->uX,nodup_cons->wP,flatten_cons->wI,sum_cons->xE,lookup->xU,replicate->wR,length_filter_le->uY,find?_cons->wK,cons_lt_cons_iff->uZ,getElem?_of_mem->vA,not_mem_nil->vY,filter_cons->vZ,flatMap_append->vD,filter_eq_self->vE,map_nil->wV,nodup_append->uS,mem_iff_getElem?->tX,length_singleton->tY,flatMap_def->uT,pairwise_append->uA,not_lt_nil->vF,mem_filter->vG,length->wL,zip_cons_cons->uD,mem_filterMap->uE,map_map->wB,take_zero->vJ,append_assoc->uH,length_eq_zero_iff->sG,filter_cons_of_pos->sH,mem_flatMap->uK,length_drop->uL,any_eq_true->uM,getElem?_set_self->sI,of_mem_zip->uN,getElem?_eq_none->sJ,eq_nil_or_concat->sL,concat_eq_append->sM,all_map->vO,getElem?_set_ne->sQ,map_congr_left->sS,length_pos_iff->sU,getElem?_inj->sY,nil_lt_cons->tF,mem_flatten->tG,getElem_map->tH,ext_getElem->tI,eq_nil_of_length_eq_zero->qK,cons_append->rX,dropLast_concat_getLast->qM,sum_append->tJ,sublist_flatten_of_mem->qS,nil_append->tL,forIn_cons->tM,pairwise_iff_getElem->qY,map_take->tP,map_drop->tQ,getLast_eq_getElem->rH,any_cons->tR,all_cons->tS,Pairwise->tT,range_succ_eq_map->rN,take_eq_take_min->rR,sum_nil->tV,pairwise_flatMap->rS
open PySem.W renaming Frag->zZ,findIn->zE,nsIn->zM,kitOne->yX,mroIn->yW,keepIn->yQ,mg_of->yP,mg_none_of->yF,Looks->yM,typeIn->yE,fnOf->yH,kia_one->xV,emptyDict->xB,tabIn->xR,codeIn->xJ,instObj->wN,hasDictIn->wH,CodeHd->wQ,callWith_K->vU,kla_obj->wJ,plainGet->vX,isFn->wU,looks_findIn->tW,looks_mroIn->tZ,hideAll->uU,tabObj->vH,lookIn->vI,plainOver->uC,any_some->uG,cellsFrom_some->sF,makesIn->uI,OpenLaw->uJ,plainGet_of->sN,looks_clsIn->sO,excIn->uO,methodObj->sV,takerIn->sZ,noTabs->rY,KdlSrc->rZ,InstAt->sC,WalkO->tN,looks_typeIn->rE,hideAll_none->rG,hideAll_get->rJ,callWith_K0->rL,tail_of_in->rP,of_hideAll->rQ
open Bool renaming false_ne_true->zW,and_eq_true->zQ,false_eq_true->xX,false_and->wS,eq_iff_iff->wA,and_false->vL,true_and->vM,not_true->vN
open Nat renaming le_refl->zY,lt_of_lt_of_le->yN,lt_or_ge->zC,zero_le->zG,ne_of_lt->yY,le_of_ble_eq_true->xO,le_trans->yK,not_lt_zero->xI,le_of_lt->xY,lt_irrefl->wT,lt_succ_self->uV,lt_of_le_of_lt->uF,le_succ->wC,ne_of_gt->uP,le_of_eq->uQ,add_zero->uR,le_of_not_lt->sE,add_sub_cancel_left->rM
open PySem.Heap renaming get?_push_of_some->zR,lt_size->zS,get?_push_size->yS,SameBut->yD,get?_update_other->wD,get?_update_self->wF,get?_none_of_le->vB,size_push->tO
open PySem.F renaming plainAttrs_list->yC,type_list_append->wY,slot_list_append->wZ,slot_dict_keyiterator_next->rW,slot_tuple_hash->uB,excBase_ValueError->qP,slot_dict_getitem->qL,type_list_extend->qN,store_ValueError->qO,slot_list_extend->qQ,type_list_clear->qT,slot_list_clear->qU,plain_list_iadd->qV,slot_dict_iter->qW,slot_dict_pop->rD
open Option renaming some->zD,map_eq_some_iff->xN,isSome_iff_exists->vR,map_some->wO,none->vP,bind_eq_some_iff->qX
open Array renaming getElem?_eq_getElem->xM,getElem?_toList->wW,getElem?_eq_some_iff->uW,length_toList->vC,toList_append->sR,forIn_toList->sW,size_append->sX,toList->tU,mem_toList_iff->rV
open PySem.Str renaming ofString->yJ
open Int renaming emod_lt_of_pos->vV,toNat_natCast->vW,emod_nonneg->vQ,fdiv_eq_ediv_of_nonneg->qZ,eq_ofNat_of_zero_le->rO
abbrev jb:=PySem.Value->PySem.Shared->Prop
abbrev jc:=PySem.Str->Option PySem.Value
abbrev jd:=Option PySem.Value
abbrev je:=List PySem.Value
namespace L2
open PySem PySem.Spec PyProof.Rows
abbrev Zd:=Sum Int Str
def Q3:Zd->ai->Bool
 | .inl k,v=>Value.isInt k v
 | .inr x,v=>Value.isStrOf x v
def IX(w:ay):Zd->Int
 | .inl k=>hashInt k
 | .inr x=>hashStr w x
theorem QC:∀{k:Zd}{v:ai},Q3 k v=true->(∃ i t,k=Sum.inl i/\v=Value.int i t)\/(∃ x t,k=Sum.inr x/\v=Value.str x t)
 | .inl i,v,h=>by
  obtain ⟨t,e⟩:=Value.isInt_shape (k:=i) (v:=v) h;exact .inl ⟨i,t,rfl,e⟩
 | .inr x,v,h=>by
  obtain ⟨t,e⟩:=Value.isStrOf_shape (x:=x) (v:=v) h;exact .inr ⟨x,t,rfl,e⟩
theorem EK(i:Int)(t:Tok):Q3 (.inl i) (.int i t)=true:=by simp [Q3,Value.isInt]
theorem BV(x:Str)(t:Tok):Q3 (.inr x) (.str x t)=true:=by simp [Q3,Value.isStrOf]
theorem Bc(a b:Int):decide ((Sum.inl a:Zd)=Sum.inl b)=(a==b):=by
 by_cases e:a=b
 ·subst e;simp
 ·have h:¬ (Sum.inl a:Zd)=Sum.inl b:=fun q=>e (Sum.inl.inj q);rw [aK h];exact (beq_eq_false_iff_ne.mpr e).symm
theorem ZOh(a b:Str):decide ((Sum.inr a:Zd)=Sum.inr b)=decide (a=b):=by
 by_cases e:a=b
 ·subst e;simp
 ·have h:¬ (Sum.inr a:Zd)=Sum.inr b:=fun q=>e (Sum.inr.inj q);rw [aK h,aK e]
theorem FZ(a:Int)(b:Str):decide ((Sum.inl a:Zd)=Sum.inr b)=false:=aK (fun q=>nomatch q)
theorem Cw(a:Str)(b:Int):decide ((Sum.inr a:Zd)=Sum.inl b)=false:=aK (fun q=>nomatch q)
def Vn(prog:ao)(w:ay):PySem.KeyKind prog w Zd where
 is:=Q3
 hash:=IX w
 inj:=fun v a b ha hb=>by
  rcases QC ha with ⟨i,t,rfl,rfl⟩ | ⟨x,t,rfl,rfl⟩
  ·rcases QC hb with ⟨j,u,rfl,e⟩ | ⟨y,u,rfl,e⟩
   ·injection e with e1 _;rw [e1]
   ·exact nomatch e
  ·rcases QC hb with ⟨j,u,rfl,e⟩ | ⟨y,u,rfl,e⟩
   ·exact nomatch e
   ·injection e with e1 _;rw [e1]
 byValue:=fun k v h=>by
  rcases QC h with ⟨i,t,rfl,rfl⟩ | ⟨x,t,rfl,rfl⟩ <;> rfl
 pyHash:=fun hv h=>by
  rcases QC hv with ⟨i,t,rfl,rfl⟩ | ⟨x,t,rfl,rfl⟩
  ·exact wpAny_pyHash_int h
  ·exact wpAny_pyHash_str h
 eqBool:=fun hu hv h=>by
  rcases QC hu with ⟨i,t,rfl,rfl⟩ | ⟨x,t,rfl,rfl⟩
  ·rcases QC hv with ⟨j,u,rfl,rfl⟩ | ⟨y,u,rfl,rfl⟩
   ·rw [Bc] at h;exact wpAny_eqBool_int h
   ·rw [FZ] at h;exact SeqAt.EqAt.int_str i t y u _ _ _ _ h
  ·rcases QC hv with ⟨j,u,rfl,rfl⟩ | ⟨y,u,rfl,rfl⟩
   ·rw [Cw] at h;exact SeqAt.EqAt.str_int x t j u _ _ _ _ h
   ·rw [ZOh] at h;exact wpAny_eqBool_str h
 «strs» :=fun k x t v h=>by
  rcases QC h with ⟨i,u,rfl,e⟩ | ⟨y,u,rfl,e⟩
  ·exact nomatch e
  ·injection e with e1 _;subst e1;cases v <;> rfl
theorem FR(prog:ao)(w:ay)(i:Int)(t:Tok):(Vn prog w).is (.inl i) (.int i t)=true:=EK i t
theorem BB(prog:ao)(w:ay)(x:Str)(t:Tok):(Vn prog w).is (.inr x) (.str x t)=true:=BV x t
inductive V where
 | non | bl (b:Bool) | int (i:Int) | str (x:Str) | byt (b:Array UInt8) | flt (b:UInt64) | ref (a:aj) | ty (n:String)
 deriving DecidableEq
abbrev jf:=List V
abbrev jg:=Option V
def ZT:V->ai->Prop
 | .non,u=>u=Value.none
 | .bl b,u=>u=Value.bool b
 | .int i,u=>∃ t,u=Value.int i t
 | .str x,u=>∃ t,u=Value.str x t
 | .byt b,u=>∃ t,u=Value.bytes b t
 | .flt b,u=>∃ t,u=Value.float b t
 | .ref a,u=>u=Value.ref a
 | .ty n,u=>u=Value.type n
abbrev ZO:jf->je->Prop:=Paired ZT
theorem ZO.length{xs:jf}{us:je}(r:ZO xs us):xs.length=us.length:=Paired.length r
theorem ZO.get:∀{xs:jf}{us:je}{i:Nat}{x:V},ZO xs us->xs[i]? = some x->∃ u,us[i]? = some u/\ZT x u
 | _,_,_,_,.nil,e=>by simp at e
 | _,_,0,_,.cons r _,e=>by simp at e;subst e;exact ⟨_,rfl,r⟩
 | _,_,i+1,x,.cons _ t,e=>by
  obtain ⟨u,h1,h2⟩:=ZO.get (i:=i) (x:=x) t (by simpa using e)
  exact ⟨u,by simpa using h1,h2⟩
theorem ZO.set{x:V}{u:ai}(r:ZT x u):∀{xs:jf}{us:je}(i:Nat),ZO xs us->ZO (xs.set i x) (us.set i u)
 | _,_,_,.nil=>.nil
 | _,_,0,.cons _ t=>.cons r t
 | _,_,i+1,.cons q t=>.cons q (ZO.set r i t)
theorem ZO.append:∀{xs ys:jf}{us ws:je},ZO xs us->ZO ys ws->ZO (xs++ys) (us++ws)
 | _,_,_,_,.nil,s=>s
 | _,_,_,_,.cons r t,s=>.cons r (ZO.append t s)
theorem ZO.take:∀{xs:jf}{us:je}(n:Nat),ZO xs us->ZO (xs.take n) (us.take n)
 | _,_,0,_=>.nil
 | _,_,_+1,.nil=>.nil
 | _,_,n+1,.cons r t=>.cons r (ZO.take n t)
theorem ZO.drop:∀{xs:jf}{us:je}(n:Nat),ZO xs us->ZO (xs.drop n) (us.drop n)
 | _,_,0,r=>r
 | _,_,_+1,.nil=>.nil
 | _,_,n+1,.cons _ t=>ZO.drop n t
def Yj:jg->jd->Prop
 | some v,some u=>ZT v u
 | none,none=>True
 | _,_=>False
def KV{κ:Type}:List (κ×V)->List (κ×ai)->Prop:=Paired fun(p:κ×V)(q:κ×ai)=>p.1=q.1/\ZT p.2 q.2
def kV:Zd->V
 | .inl i=>.int i
 | .inr x=>.str x
inductive HO where
 | lst (xs:jf)
 | tup (xs:jf)
 | dK (kvs:List (Zd×V)) | dT (kvs:List (List Zd×V))
 | set (S:Int->Bool) (n:Nat)
 | ins (C dx:aj) (fs:List (Str×V))
 | own (x:aj)
 | xd (fs:List (Str×V))
 | met (f x:aj)
 | rng (lo hi:Int)
 | frz (o:aJ) (u:HO)
 | tbl (ps:Array ai)
 | ext (φ:aF->Prop)
abbrev Hp:=aj->Option HO
def upd(H:Hp)(a:aj)(o:HO):Hp:=fun b=>if b=a then some o else H b
theorem ZP{H:Hp}{a:aj}{o:HO}:upd H a o a=some o:=by unfold upd;rw [aP rfl]
theorem ZV{H:Hp}{a b:aj}{o:HO}(h:b≠a):upd H a o b=H b:=by unfold upd;rw [aO h]
theorem Nc{H:Hp}{a:aj}{o u:HO}:upd (upd H a o) a u=upd H a u:=by
 funext b;unfold upd;split <;> rfl
theorem ZQ{H:Hp}{a b:aj}{o u:HO}(h:H a=some o)(h':H b=some u)(d:o≠u:=by intro z;cases z):a≠b:=by
 intro e;subst e;rw [h] at h';exact d (zD.inj h')
theorem Za{H:Hp}{a b:aj}{o:HO}(h:H a=some o)(h':H b=none):a≠b:=by
 intro e;subst e;rw [h] at h';cases h'
section
variable(P:ao)(w:ay)
def Zf(H:Hp)(h:aF)(a:aj):HO->Prop
 | .lst xs=>xs.length<=aw/\∃(jj:je)(n:Nat),ZO xs jj/\h.get? a=some { cls:=.type "list",data:=.seq jj.toArray n }
 | .tup xs=>xs.length<=aw/\∃ jj:je,ZO xs jj/\IsTup h a jj.toArray
 | .dK kvs=>kvs.length<=aw/\(a==sysModules)=false/\∃ vs,KV kvs vs/\h.DictOf (Vn P w) a vs
 | .dT kvs=>kvs.length<=aw/\(a==sysModules)=false/\∃ xs:List (List Zd×aj×ai),
   Paired (fun(p:List Zd×V)(q:List Zd×aj×ai)=>p.1=q.1/\H q.2.1=some (.tup (p.1.map kV))/\ZT p.2 q.2.2) kvs xs /\
   ∃ o es ep,h.get? a=some o/\o.ExactDict/\o.data=.dict es ep/\es.toList=xs.map (entryOfKey (tupleKind (Vn P w)))/\(xs.map (·.1)).Nodup
 | .set S n=>h.SetOf (intKind P w) a S n
 | .ins C dx fs=>H dx=some (.own a)/\fs.length<=1000/\dx≠a/\h.get? a=some (wN C dx) /\
   ∃ mA,h.Ns1 dx mA/\(∀ f,Yj (fs.lookup f) (mA f))/\PySem.Within mA (fs.map (·.1))
 | .own _=>∃ o,h.get? a=some o
 | .xd fs=>∃ mA,h.Ns1 a mA/\∀ f,Yj (fs.lookup f) (mA f)
 | .rng lo hi=>∃ t u v,h.get? a=some { cls:=.type "range",data:=.fields #[.int lo t,.int hi u,.int 1 v] }
 | .frz o u=>h.get? a=some o/\Zf H h a u
 | .tbl ps=>h.get? a=some { cls:=.none,data:=.fields ps }
 | .met f x=>h.get? a=some (sV (.ref f) (.ref x))
 | .ext φ=>φ h/\(∃ o,h.get? a=some o)/\∀ h1 h2:aF,φ h1->(∀ o,h1.get? a=some o->h2.get? a=some o)->φ h2
def Ye(H:Hp)(h:aF):Prop:=∀ a o,H a=some o->Zf P w H h a o
end
section
variable{P:ao}{w:ay}{H H':Hp}{h h':aF}{a:aj}{o:HO}
theorem Zf.lt(x:Zf P w H h a o):a<h.objs.size:=by
 cases o with
 | lst xs=>obtain ⟨_,_,_,_,e⟩:=x;exact zS e
 | tup xs=>obtain ⟨_,_,_,p⟩:=x;exact p.lt
 | dK kvs=>obtain ⟨_,_,_,_,o,_,_,e,_⟩:=x;exact zS e
 | dT kvs=>obtain ⟨_,_,_,_,o,_,_,e,_⟩:=x;exact zS e
 | set S n=>obtain ⟨o,_,_,_,e,_⟩:=x;exact zS e
 | ins C dx fs=>obtain ⟨_,_,_,e,_⟩:=x;exact zS e
 | own y=>obtain ⟨_,e⟩:=x;exact zS e
 | xd fs=>obtain ⟨_,⟨_,_,_,e,_⟩,_⟩:=x;exact zS e
 | rng lo hi=>obtain ⟨_,_,_,e⟩:=x;exact zS e
 | frz ob u=>obtain ⟨e,_⟩:=x;exact zS e
 | tbl ps=>exact zS (show h.get? a=some _ from x)
 | met f y=>exact zS (show h.get? a=some _ from x)
 | ext φ=>obtain ⟨_,⟨_,e⟩,_⟩:=x;exact zS e
theorem Paired.mapP{α β:Type}{F G:α->β->Prop}:∀{l₁:List α}{l₂:List β},Paired F l₁ l₂->(∀ a b,F a b->G a b)->Paired G l₁ l₂
 | _,_,.nil,_=>.nil
 | _,_,.cons r t,f=>.cons (f _ _ r) (Paired.mapP t f)
theorem Zf.stay(x:Zf P w H h a o)(k:∀ b u,(b=a\/H b=some (.own a))->h.get? b=some u->h'.get? b=some u)(ho:∀ b,H b=some (.own a)->H' b=some (.own a))(ht:∀ b xs,H b=some (.tup xs)->H' b=some (.tup xs)):Zf P w H' h' a o:=by
 induction o with
 | lst xs=>obtain ⟨z,jj,n,r,e⟩:=x;exact ⟨z,jj,n,r,k _ _ (.inl rfl) e⟩
 | tup xs=>obtain ⟨z,jj,r,ob,e,c⟩:=x;exact ⟨z,jj,r,ob,k _ _ (.inl rfl) e,c⟩
 | dK kvs=>obtain ⟨z,y,vs,r,ob,es,ep,e,c⟩:=x;exact ⟨z,y,vs,r,ob,es,ep,k _ _ (.inl rfl) e,c⟩
 | dT kvs=>
  obtain ⟨z,y,xs,r,ob,es,ep,e,c⟩:=x;exact ⟨z,y,xs,Paired.mapP r fun p q z=>⟨z.1,ht _ _ z.2.1,z.2.2⟩,ob,es,ep,k _ _ (.inl rfl) e,c⟩
 | set S n=>obtain ⟨ob,es,ep,t,e,c⟩:=x;exact ⟨ob,es,ep,t,k _ _ (.inl rfl) e,c⟩
 | ins C dx fs=>
  obtain ⟨d,z,ne,e,mA,⟨od,es,ep,e2,c⟩,r⟩:=x;exact ⟨ho _ d,z,ne,k _ _ (.inl rfl) e,mA,⟨od,es,ep,k _ _ (.inr d) e2,c⟩,r⟩
 | own y=>obtain ⟨ob,e⟩:=x;exact ⟨ob,k _ _ (.inl rfl) e⟩
 | xd fs=>obtain ⟨mA,⟨od,es,ep,e,c⟩,r⟩:=x;exact ⟨mA,⟨od,es,ep,k _ _ (.inl rfl) e,c⟩,r⟩
 | rng lo hi=>obtain ⟨t,u,v,e⟩:=x;exact ⟨t,u,v,k _ _ (.inl rfl) e⟩
 | frz ob u ih=>obtain ⟨e,q⟩:=x;exact ⟨k _ _ (.inl rfl) e,ih q⟩
 | tbl ps=>
  have e:h.get? a=some { cls:=.none,data:=.fields ps }:=x;show h'.get? a=some { cls:=.none,data:=.fields ps };exact k a _ (.inl rfl) e
 | met f y=>
  have e:h.get? a=some (sV (.ref f) (.ref y)):=x;show h'.get? a=some (sV (.ref f) (.ref y));exact k a _ (.inl rfl) e
 | ext φ=>obtain ⟨p,⟨o,e⟩,st⟩:=x;exact ⟨st _ _ p fun o q=>k _ _ (.inl rfl) q,⟨o,k _ _ (.inl rfl) e⟩,st⟩
theorem Ye.lt(x:Ye P w H h)(e:H a=some o):a<h.objs.size:=(x a o e).lt
theorem Ye.fresh(x:Ye P w H h)(e:h.objs.size<=a):H a=none:=by
 cases q:H a with
 | none=>rfl
 | some u=>exact absurd (yN (x.lt q) e) (wT _)
theorem Ye.kept(x:Ye P w H h)(k:∀ b u,h.get? b=some u->h'.get? b=some u):Ye P w H h':=fun a o e=>
 (x a o e).stay (fun b u _ q=>k b u q) (fun _ q=>q) fun _ _ q=>q
theorem Ye.laid(x:Ye P w H h)(k:∀ b u,h.get? b=some u->h'.get? b=some u)(hp:h.objs.size<=a)(new:Zf P w (upd H a o) h' a o):Ye P w (upd H a o) h':=fun b u e=>by
 have hn:=x.fresh hp;by_cases hb:b=a
 ·subst hb;rw [ZP] at e;cases e;exact new
 ·rw [ZV hb] at e;exact (x b u e).stay (fun c v _ q=>k c v q) (fun c q=>by rw [ZV (Za q hn)];exact q) fun c xs q=>by rw [ZV (Za q hn)];exact q
end
def Rd(H:Hp)(a:aj)(u:HO):Prop:=H a=some u\/∃ o,H a=some (.frz o u)
theorem Rd.of{H:Hp}{a:aj}{u:HO}(h:H a=some u):Rd H a u:=.inl h
theorem Rd.ok{P:ao}{w:ay}{H:Hp}{h:aF}{a:aj}{u:HO}(r:Rd H a u)(x:Ye P w H h):Zf P w H h a u:=by
 rcases r with r | ⟨o,r⟩
 ·exact x a u r
 ·obtain ⟨_,q⟩:=x a _ r;exact q
def Pw:Option HO->Prop
 | some (.lst _)=>True
 | some (.dK _)=>True
 | some (.dT _)=>True
 | some (.set _ _)=>True
 | some (.ins _ _ _)=>True
 | some (.ext _)=>True
 | _=>False
section
variable{P:ao}{w:ay}{H:Hp}{h h':aF}{x e:aj}{o':HO}
theorem Ye.write(ok:Ye P w H h)(mu:Pw (H x))(he:e=x\/H e=some (.own x))(k:∀ b u,b≠e->h.get? b=some u->h'.get? b=some u)(heo:∃ u,h'.get? e=some u)(new:Zf P w (upd H x o') h' x o'):Ye P w (upd H x o') h':=fun b u q=>by
 have nown:∀ c y,H c=some (.own y)->c≠x:=fun c y r z=>by subst z;rw [r] at mu;exact mu
 have ntup:∀ c xs,H c=some (.tup xs)->c≠x:=fun c xs r z=>by subst z;rw [r] at mu;exact mu
 by_cases hb:b=x
 ·subst hb;rw [ZP] at q;cases q;exact new
 ·rw [ZV hb] at q;by_cases hbe:b=e
  ·have q':H b=some (.own x):=by
    rcases he with z | z
    ·exact absurd (hbe.trans z) hb
    ·rw [hbe];exact z
   rw [q] at q';cases q';obtain ⟨v,hv⟩:=heo;exact ⟨v,by rw [hbe];exact hv⟩
  ·refine (ok b u q).stay (fun c v hc r=>k c v ?_ r) (fun c r=>by rw [ZV (nown c b r)];exact r) fun c xs r=>by rw [ZV (ntup c xs r)];exact r
   rcases hc with rfl | hc
   ·exact hbe
   ·rintro rfl;rcases he with z | z
    ·exact nown c b hc z
    ·rw [hc] at z;cases z;exact hb rfl
end
structure Un(fs ex:List aj)(H H':Hp)(h h':aF):Prop where
 keep:∀ b o,h.get? b=some o->H b=none->b∉fs->b∉ex->h'.get? b=some o
 slot:∀ b o,h.get? b=some o->H b=none->b∈fs->b∉ex->∃ sl,h'.get? b=some { o with slots:=sl }
 free:∀ b o,h.get? b=some o->H b=none->b∉ex->H' b=none
 there:∀ b o,h.get? b=some o->b∉ex->∃ o',h'.get? b=some o'
 tups:∀ b xs,H b=some (.tup xs)->H' b=some (.tup xs)
 frzs:∀ b o u,H b=some (.frz o u)->H' b=some (.frz o u)
 tbls:∀ b ps,H b=some (.tbl ps)->∃ more,H' b=some (.tbl (ps++more))
section
variable{fs fs' ex ex':List aj}{H H1 H2:Hp}{h h1 h2 h':aF}{a x e:aj}{o:HO}
theorem Un.any(u:Un fs ex H H1 h h1){b:aj}{ob:aJ}(q:h.get? b=some ob)(n:H b=none)(hx:b∉ex):∃ sl,h1.get? b=some { ob with slots:=sl }:=by
 by_cases hb:b∈fs
 ·exact u.slot b ob q n hb hx
 ·exact ⟨ob.slots,u.keep b ob q n hb hx⟩
theorem Un.kept(k:∀ b u,h.get? b=some u->h'.get? b=some u):Un fs ex H H h h':=
 ⟨fun b ob q _ _ _=>k b ob q,fun b ob q _ _ _=>⟨ob.slots,k b ob q⟩,fun _ _ _ n _=>n,fun b ob q _=>⟨ob,k b ob q⟩,fun _ _ q=>q,fun _ _ _ q=>q,fun _ ps q=>⟨#[],by rw [q];simp⟩⟩
theorem Un.refl:Un fs ex H H h h:=Un.kept fun _ _ q=>q
theorem Un.laid(k:∀ b u,h.get? b=some u->h'.get? b=some u)(hp:h.objs.size<=a)(hn:H a=none):Un fs ex H (upd H a o) h h' where
 keep:=fun b u q _ _ _=>k b u q
 slot:=fun b u q _ _ _=>⟨u.slots,k b u q⟩
 free:=fun b u q n _=>by rw [ZV (yY (yN (zS q) hp))];exact n
 there:=fun b u q _=>⟨u,k b u q⟩
 tups:=fun b xs q=>by rw [ZV (Za q hn)];exact q
 frzs:=fun b u xs q=>by rw [ZV (Za q hn)];exact q
 tbls:=fun b ps q=>⟨#[],by rw [ZV (Za q hn),q];simp⟩
theorem Un.write(mu:Pw (H x))(he:e=x\/H e=some (.own x))(k:∀ b u,b≠e->h.get? b=some u->h'.get? b=some u)(heo:∃ u,h'.get? e=some u):Un fs ex H (upd H x o) h h':=by
 have hx:∀ b,H b=none->b≠x:=fun b n z=>by subst z;rw [n] at mu;exact mu
 have hb:∀ b,H b=none->b≠e:=fun b n z=>by
  subst z;rcases he with r | r
  ·exact hx b n r
  ·rw [n] at r;cases r
 have hm:∀ b u,H b=some u->¬ Pw (some u)->b≠x:=fun b u q nm z=>by subst z;rw [q] at mu;exact nm mu
 refine ⟨fun b u q n _ _=>k b u (hb b n) q,fun b u q n _ _=>⟨u.slots,k b u (hb b n) q⟩,fun b u q n _=>by rw [ZV (hx b n)];exact n,fun b u q _=>?_,
  fun b xs q=>by rw [ZV (hm b _ q fun z=>z)];exact q,fun b u xs q=>by rw [ZV (hm b _ q fun z=>z)];exact q,fun b ps q=>⟨#[],by rw [ZV (hm b _ q fun z=>z),q];simp⟩⟩
 by_cases hbe:b=e
 ·subst hbe;exact heo
 ·exact ⟨u,k b u hbe q⟩
end
def N7(h:aF)(H:Hp):List Addr:=(yU h.objs.size).filter fun a=>(H a).isSome
def VX(h:aF)(H:Hp):Heap:=uU h (N7 h H)
theorem IZ(h:aF)(H:Hp):(VX h H).objs.size=h.objs.size:=PySem.W.hideAll_size _ _
theorem Jr{h:aF}{H:Hp}{b:aj}{o:aJ}(e:h.get? b=some o)(n:H b=none):(VX h H).get? b=some o:=
 rJ _ e fun hm=>by
  have q:(H b).isSome=true:=(vG.mp hm).2;rw [n] at q;simp at q
theorem Ic{h:aF}{H:Hp}{b:aj}{o:aJ}(e:(VX h H).get? b=some o):h.get? b=some o/\H b=none:=by
 have e':h.get? b=some o:=rQ (N7 h H) e;refine ⟨e',?_⟩
 cases q:H b with
 | none=>rfl
 | some x=>
  have hm:b∈N7 h H:=vG.mpr ⟨yA.mpr (zS e'),by simp [q]⟩
  have z:(VX h H).get? b=none:=rG (N7 h H) hm;rw [z] at e;cases e
def Ek(g h:aF)(L:aj):List (aj×aJ):=(yU h.objs.size).filterMap fun a=>if a=L\/(g.get? a).isSome=true then none else (h.get? a).map fun o=>(a,o)
def rest(g h:aF)(L d:aj):List (aj×aJ):=(Ek g h L).filter fun p=>decide (p.1≠d)
structure Mod(K:zZ)(mg:jc)(base:aF):Prop where
 kin:K.In base
 glob:base.Ns ar mg
 blt:∃ mb,base.Ns builtinsNs mb/\∀ x:Str,x ≠ "__name__"->mb x=aA x
 nolimit:base.NoLimit
structure Cx where
 prog:ao
 w:ay
 K:zZ
 mg:jc
 base:aF
 A:az
 N:List Str
 s₀:am
 H₀:Hp
 env:Env
 outer:List Env
 stack:List Env
 ex:List aj
 fn:Str->Bool
 calm:Bool
 pn:List (aj×aJ)
 xe:jb
def frs(l:List Env):List Addr:=l.filterMap (·.frame)
abbrev Cx.fs(X:Cx):List Addr:=frs X.outer
def Nj(sc:aG)(x:Str):Prop:=sc.names.lookup x=some .local\/sc.names.lookup x=some .cell\/sc.names.lookup x=some .free
def PQ(sc:aG)(x:Str):Prop:=sc.names.lookup x=some .local\/sc.names.lookup x=some .cell
def EQ(env:Env)(h:aF)(m:jc)(x:Str)(u:ai):Prop:=
 (env.kindOf x=some .local/\m x=some u)\/((env.kindOf x=some .cell\/env.kindOf x=some .free)/\∃ c,env.cells.lookup x=some c/\h.IsCell c (some u))
structure Cx.Ok(X:Cx):Prop where
 mod:Mod X.K X.mg X.base
 kind:X.env.scope.kind=.function
 glob:X.env.globals=ar
 blt:X.env.builtins=builtinsNs
 above:X.s₀.heap.objs.size<=X.env.locals
 inj:∀ x y c,X.env.cells.lookup x=some c->X.env.cells.lookup y=some c->x=y
 has:∀ x,(X.env.kindOf x=some .cell\/X.env.kindOf x=some .free)->∃ c,X.env.cells.lookup x=some c
 cab:∀ x c,X.fn x=true->X.env.cells.lookup x=some c->X.s₀.heap.objs.size<=c
 hd:X.calm=true->X.A.handled=none
 frames:X.A.frames=some X.stack
 stk:X.stack=X.outer\/(X.stack=X.env :: X.outer/\X.env.frame=some X.env.locals)
 exf:∀ b∈X.ex,b≠X.env.locals/\∀ x c,X.env.cells.lookup x=some c->c≠b
 bs:∀ b o,X.base.get? b=some o->X.s₀.heap.get? b=some o/\X.H₀ b=none
 bsz:X.base.objs.size<=X.s₀.heap.objs.size
 noex:∀ b o,X.base.get? b=some o->b∉X.ex
 exfs:∀ b∈X.ex,b∉X.fs
 funs:X.s₀.heap.FunFrames X.base X.outer
 frf:∀ b∈X.fs,X.H₀ b=none
structure ZH(X:Cx)(pins:List (aj×aJ))(σ:List (jg))(H:Hp)(s:am):Prop where
 ok:X.Ok
 os:s.os=X.s₀.os
 bare:AllBare s.gens
 base:Un X.fs X.ex X.H₀ H X.s₀.heap s.heap
 loc:∃ m,s.heap.Ns X.env.locals m/\∀(i:Nat)(x:Str)(v:V),X.N[i]? = some x->σ[i]? = some (some v)->Nj X.env.scope x->∃ u,ZT v u/\EQ X.env s.heap m x u
 cell:∀ x c,X.env.cells.lookup x=some c->∃ v,s.heap.IsCell c v
 free:H X.env.locals=none
 freeC:∀ x c,X.env.cells.lookup x=some c->H c=none
 pin:∀ p∈X.pn++pins,s.heap.get? p.1=some p.2/\H p.1=none/\p.1≠X.env.locals/\p.1∉X.fs/\∀ v,p.2.data≠.cell v
 hok:Ye X.prog X.w H s.heap
 len:σ.length=X.N.length
section
variable{X:Cx}{pins:List (aj×aJ)}{σ:List (jg)}{H H':Hp}{s:am}{h':aF}
theorem Cx.Ok.nofr(ok:X.Ok){b:aj}{o:aJ}(e:X.base.get? b=some o):b∉X.fs:=fun hb=>by
 have:=(ok.funs.mem hb).1;rw [e] at this;cases this
theorem ZH.bs(I:ZH X pins σ H s):∀ b o,X.base.get? b=some o->s.heap.get? b=some o/\H b=none:=fun b o e=>
 ⟨I.base.keep b o (I.ok.bs b o e).1 (I.ok.bs b o e).2 (I.ok.nofr e) (I.ok.noex b o e),I.base.free b o (I.ok.bs b o e).1 (I.ok.bs b o e).2 (I.ok.noex b o e)⟩
theorem ZH.bk(I:ZH X pins σ H s):∀ b o,X.base.get? b=some o->s.heap.get? b=some o:=fun b o e=>(I.bs b o e).1
theorem ZH.mod(I:ZH X pins σ H s):Mod X.K X.mg X.base:=I.ok.mod
theorem ZH.kIn(I:ZH X pins σ H s):X.K.In s.heap:=I.ok.mod.kin.keeps I.bk
theorem ZH.lt(I:ZH X pins σ H s):X.env.locals<s.heap.objs.size:=let ⟨_,hn,_⟩:=I.loc;hn.lt
theorem ZH.sz(I:ZH X pins σ H s):X.s₀.heap.objs.size<=s.heap.objs.size:=yK I.ok.above (xY I.lt)
theorem ZH.nofs(I:ZH X pins σ H s){a:aj}(h:s.heap.objs.size<=a):a∉X.fs:=fun hb=>by
 obtain ⟨_,o,ho,_⟩:=I.ok.funs.mem hb;exact absurd (yN (zS ho) (yK I.sz h)) (wT _)
theorem ZH.cne(I:ZH X pins σ H s):∀ x c,X.env.cells.lookup x=some c->c≠X.env.locals:=fun x c e z=>by
 obtain ⟨v,o,ho,hd⟩:=I.cell x c e;obtain ⟨m,⟨o',es,ep,ho',hd',_⟩,_⟩:=I.loc;rw [z,ho'] at ho;cases ho;rw [hd'] at hd;cases hd
theorem ZH.funs(I:ZH X pins σ H s):s.heap.FunFrames X.base X.outer:=by
 have all:∀(l:List Env),(∀ b∈frs l,b∈X.fs)->X.s₀.heap.FunFrames X.base l->s.heap.FunFrames X.base l:=by
  intro l
  induction l with
  | nil=>intro _ _;trivial
  | cons env r ih=>
   intro hs hl;obtain ⟨hk,⟨L,o,hf,hn,ho,hd⟩,hr⟩:=hl;have hL:L∈X.fs:=hs L (by unfold frs;rw [wG,hf];exact zK)
   obtain ⟨sl,e⟩:=I.base.slot L o ho (I.ok.frf L hL) hL fun z=>I.ok.exfs L z hL;exact ⟨hk,⟨L,_,hf,hn,e,hd⟩,ih (fun b hb=>hs b (by unfold frs;rw [wG,hf];exact zH _ hb)) hr⟩
 exact all X.outer (fun _ hb=>hb) I.ok.funs
theorem ZH.stack(I:ZH X pins σ H s):s.heap.FunFrames X.base X.stack:=by
 rcases I.ok.stk with e | ⟨e,hf⟩
 ·rw [e];exact I.funs
 ·rw [e];obtain ⟨m,hn,_⟩:=I.loc;refine .cons (by rw [I.ok.kind];decide) hf hn ?_ I.funs
  exact vB (yK I.ok.bsz I.ok.above)
theorem ZH.stkSub(I:ZH X pins σ H s):∀ b∈frs X.stack,b∈X.env.locals :: X.fs:=fun b hb=>by
 rcases I.ok.stk with e | ⟨e,hf⟩
 ·rw [e] at hb;exact zH _ hb
 ·rw [e] at hb;unfold frs at hb;rw [wG,hf] at hb;exact hb
theorem ZH.stkFree(I:ZH X pins σ H s):∀ b∈frs X.stack,H b=none:=fun b hb=>by
 rcases zB.mp (I.stkSub b hb) with e | hb
 ·rw [e];exact I.free
 ·obtain ⟨_,o,ho,_⟩:=I.ok.funs.mem hb;exact I.base.free b o ho (I.ok.frf b hb) fun z=>I.ok.exfs b z hb
theorem ZH.step{g':Array GenState}{t':Nat}{d':Drawn}{ch:List aj}(I:ZH X pins σ H s)(hch:∀ b∈ch,(b∈X.ex\/X.s₀.heap.objs.size<=b)/\b≠X.env.locals/\(∀ x c,X.env.cells.lookup x=some c->c≠b)/\∀ p∈X.pn++pins,p.1≠b)(keep:∀ b o,b≠X.env.locals->b∉X.fs->b∉ch->s.heap.get? b=some o->H b=none->h'.get? b=some o)(slot:∀ b o,b≠X.env.locals->b∈X.fs->b∉ch->s.heap.get? b=some o->H b=none->∃ sl,h'.get? b=some { o with slots:=sl })(free:∀ b o,b∉ch->s.heap.get? b=some o->H b=none->H' b=none)(there:∀ b o,b∉ch->s.heap.get? b=some o->∃ o',h'.get? b=some o')(tups:∀ b xs,H b=some (.tup xs)->H' b=some (.tup xs))(frzs:∀ b o u,H b=some (.frz o u)->H' b=some (.frz o u))(tbls:∀ b ps,H b=some (.tbl ps)->∃ more,H' b=some (.tbl (ps++more)))(ns:∀ m,s.heap.Ns X.env.locals m->h'.Ns X.env.locals m)(hok:Ye X.prog X.w H' h')(hg:AllBare g'):
  ZH X pins σ H' { s with heap:=h',gens:=g',drawn:=d',toks:=t' }:=by
 have neL:∀ b o,X.s₀.heap.get? b=some o->b≠X.env.locals:=fun b o e=>yY (yN (zS e) I.ok.above);have neC:∀ b o,X.s₀.heap.get? b=some o->b∉X.ex->b∉ch:=fun b o e hx hb=>by
  rcases (hch b hb).1 with z | z
  ·exact hx z
  ·exact absurd (yN (zS e) z) (wT _)
 have cellK:∀ x c,X.env.cells.lookup x=some c->∀ v,s.heap.IsCell c v->h'.IsCell c v:=fun x c e v ⟨o,ho,hd⟩=>by
  have nch:c∉ch:=fun z=>(hch c z).2.2.1 x c e rfl;by_cases hc:c∈X.fs
  ·obtain ⟨sl,q⟩:=slot c o (I.cne x c e) hc nch ho (I.freeC x c e);exact ⟨_,q,hd⟩
  ·exact ⟨o,keep c o (I.cne x c e) hc nch ho (I.freeC x c e),hd⟩
 refine ⟨I.ok,I.os,hg,⟨fun b o e n hb hx=>?_,fun b o e n hb hx=>?_,fun b o e n hx=>?_,fun b o e hx=>?_,fun b xs e=>tups b xs (I.base.tups b xs e),fun b o xs e=>frzs b o xs (I.base.frzs b o xs e),fun b ps e=>?_⟩,?_,fun x c e=>?_,?_,fun x c e=>?_,fun p hp=>?_,hok,I.len⟩
 ·exact keep b o (neL b o e) hb (neC b o e hx) (I.base.keep b o e n hb hx) (I.base.free b o e n hx)
 ·obtain ⟨sl,e1⟩:=I.base.slot b o e n hb hx;obtain ⟨sl',e2⟩:=slot b _ (neL b o e) hb (neC b o e hx) e1 (I.base.free b o e n hx);exact ⟨sl',e2⟩
 ·obtain ⟨o',e1⟩:=I.base.there b o e hx;exact free b o' (neC b o e hx) e1 (I.base.free b o e n hx)
 ·obtain ⟨o',e1⟩:=I.base.there b o e hx;exact there b o' (neC b o e hx) e1
 ·obtain ⟨m1,e1⟩:=I.base.tbls b ps e;obtain ⟨m2,e2⟩:=tbls b _ e1;exact ⟨m1++m2,by rw [e2,Array.append_assoc]⟩
 ·obtain ⟨m,hn,hl⟩:=I.loc;refine ⟨m,ns m hn,fun i x v e1 e2 e3=>?_⟩;obtain ⟨u,r,l⟩:=hl i x v e1 e2 e3;refine ⟨u,r,?_⟩;rcases l with l | ⟨k,c,e,z⟩
  ·exact .inl l
  ·exact .inr ⟨k,c,e,cellK x c e _ z⟩
 ·obtain ⟨v,z⟩:=I.cell x c e;exact ⟨v,cellK x c e v z⟩
 ·obtain ⟨m,⟨o,_,_,ho,_⟩,_⟩:=I.loc;exact free _ o (fun z=>(hch _ z).2.1 rfl) ho I.free
 ·obtain ⟨v,o,ho,hd⟩:=I.cell x c e;exact free c o (fun z=>(hch c z).2.2.1 x c e rfl) ho (I.freeC x c e)
 ·obtain ⟨e,n,ne,nf,d⟩:=I.pin p hp;have nch:p.1∉ch:=fun z=>(hch p.1 z).2.2.2 p hp rfl;exact ⟨keep p.1 p.2 ne nf nch e n,free p.1 p.2 nch e n,ne,nf,d⟩
theorem ZH.un{t':Nat}(I:ZH X pins σ H s)(u:Un X.fs [] H H' s.heap h')(hok:Ye X.prog X.w H' h'):ZH X pins σ H' { s with heap:=h',toks:=t' }:=by
 obtain ⟨m,⟨o,es,ep,ho,r⟩,_⟩:=id I.loc;obtain ⟨sl,hL⟩:=u.any ho I.free (by simp)
 exact I.step (g':=s.gens) (d':=s.drawn) (ch:=[]) (fun _ z=>nomatch z) (fun b o _ hb _ e n=>u.keep b o e n hb (by simp)) (fun b o _ hb _ e n=>u.slot b o e n hb (by simp)) (fun b o _ e n=>u.free b o e n (by simp)) (fun b o _ e=>u.there b o e (by simp)) u.tups u.frzs u.tbls (fun m' hm=>by
  obtain ⟨o',es',ep',ho',r'⟩:=hm;rw [ho] at ho';cases ho';exact ⟨_,es',ep',hL,r'⟩) hok I.bare
theorem ZH.call{g':Array GenState}{t':Nat}{d':Drawn}{ch:List aj}(I:ZH X pins σ H s)(u:Un (frs X.stack) ch H H' s.heap h')(hok:Ye X.prog X.w H' h')(hg:AllBare g')(hch:∀ b∈ch,(b∈X.ex\/X.s₀.heap.objs.size<=b)/\b≠X.env.locals/\(∀ x c,X.env.cells.lookup x=some c->c≠b)/\∀ p∈X.pn++pins,p.1≠b):
  ZH X pins σ H' { s with heap:=h',gens:=g',drawn:=d',toks:=t' }:=by
 obtain ⟨m,⟨o,es,ep,ho,r⟩,_⟩:=id I.loc;obtain ⟨sl,hL⟩:=u.any ho I.free fun z=>(hch _ z).2.1 rfl;exact I.step (ch:=ch) hch (fun b o hL hb hc e n=>u.keep b o e n (fun z=>(zB.mp (I.stkSub b z)).elim hL hb) hc) (fun b o _ _ hc e n=>u.any e n hc) (fun b o hc e n=>u.free b o e n hc) (fun b o hc e=>u.there b o e hc) u.tups u.frzs u.tbls (fun m' hm=>by
  obtain ⟨o',es',ep',ho',r'⟩:=hm;rw [ho] at ho';cases ho';exact ⟨_,es',ep',hL,r'⟩) hok hg
theorem ZH.turned{t':Nat}{it:aj}(I:ZH X pins σ H s)(k:∀ b o,b≠it->s.heap.get? b=some o->h'.get? b=some o)(hn:H it=none)(hL:it≠X.env.locals)(h1:it∈X.ex\/X.s₀.heap.objs.size<=it)(h2:∀ x c,X.env.cells.lookup x=some c->c≠it)(h3:∀ p∈X.pn++pins,p.1≠it):ZH X pins σ H { s with heap:=h',toks:=t' }:=by
 have nit:∀ b u,H b=some u->b≠it:=fun b u e z=>by rw [z,hn] at e;cases e
 refine I.step (g':=s.gens) (d':=s.drawn) (ch:=[it]) (fun b hb=>?_) (fun b o _ _ hc e _=>k b o (fun z=>hc (by simp [z])) e) (fun b o _ _ hc e _=>⟨o.slots,k b o (fun z=>hc (by simp [z])) e⟩) (fun _ _ _ _ n=>n)
  (fun b o hc e=>⟨o,k b o (fun z=>hc (by simp [z])) e⟩) (fun _ _ e=>e) (fun _ _ _ e=>e) (fun b ps e=>⟨#[],by rw [e];simp⟩) (fun m hm=>?_) (fun b u e=>?_) I.bare
 ·have e:b=it:=by simpa using hb
  subst e;exact ⟨h1,hL,h2,h3⟩
 ·obtain ⟨o,es,ep,ho,r⟩:=hm;exact ⟨o,es,ep,k _ o (Ne.symm hL) ho,r⟩
 ·refine (I.hok b u e).stay (fun c v hc q=>k c v ?_ q) (fun _ q=>q) fun _ _ q=>q;rcases hc with z | z
  ·rw [z];exact nit b u e
  ·exact nit c _ z
theorem ZH.tok(I:ZH X pins σ H s)(t:Nat):ZH X pins σ H { s with toks:=t }:=I.un (h':=s.heap) (t':=t) Un.refl I.hok
theorem ZH.kept{t':Nat}(I:ZH X pins σ H s)(k:∀ b u,s.heap.get? b=some u->h'.get? b=some u):ZH X pins σ H { s with heap:=h',toks:=t' }:=I.un (Un.kept k) (I.hok.kept k)
theorem ZH.laid{a:aj}{o:HO}{t':Nat}(I:ZH X pins σ H s)(k:∀ b u,s.heap.get? b=some u->h'.get? b=some u)(hp:s.heap.objs.size<=a)(new:Zf X.prog X.w (upd H a o) h' a o):
  ZH X pins σ (upd H a o) { s with heap:=h',toks:=t' }:=I.un (Un.laid k hp (I.hok.fresh hp)) (I.hok.laid k hp new)
theorem ZH.write{x e:aj}{o:HO}{t':Nat}(I:ZH X pins σ H s)(mu:Pw (H x))(he:e=x\/H e=some (.own x))(k:∀ b u,b≠e->s.heap.get? b=some u->h'.get? b=some u)(heo:∃ u,h'.get? e=some u)(new:Zf X.prog X.w (upd H x o) h' x o):ZH X pins σ (upd H x o) { s with heap:=h',toks:=t' }:=I.un (Un.write mu he k heo) (I.hok.write mu he k heo new)
theorem ZH.pins_of{pins':List (aj×aJ)}(I:ZH X pins σ H s)(h:∀ p∈pins',s.heap.get? p.1=some p.2/\H p.1=none/\p.1≠X.env.locals/\p.1∉X.fs/\∀ v,p.2.data≠.cell v):ZH X pins' σ H s:=
 ⟨I.ok,I.os,I.bare,I.base,I.loc,I.cell,I.free,I.freeC,fun p hp=>(yT.mp hp).elim (fun z=>I.pin p (xG _ z)) (h p),I.hok,I.len⟩
theorem Mm{N:List Str}(hN:N.Nodup){i j:Nat}{x:Str}(a:N[i]? = some x)(b:N[j]? = some x):i=j:=by
 obtain ⟨h1,e1⟩:=yV.mp a;obtain ⟨h2,e2⟩:=yV.mp b;exact (List.getElem_inj hN).mp (e1.trans e2.symm)
theorem K2{M:Model}{A:az}{E:jb}{i:Nat}{x:Str}{v:V}{u:ai}{Q:Unit->am->Prop}(I:ZH X pins σ H s)(hN:X.N.Nodup)(hi:X.N[i]? = some x)(hx:PQ X.env.scope x)(r:ZT v u)(h:∀ s',ZH X pins (σ.set i (some v)) H s'->(∃ a,yD a s.heap s'.heap/\(a=X.env.locals\/X.env.cells.lookup x=some a))->Q () s')(hf:X.fn x=true\/X.env.scope.names.lookup x=some .local:=by first | exact .inl rfl | exact .inr rfl | assumption):aD M A (storeName X.env x u) Q E s:=by
 obtain ⟨m,hn,hl⟩:=id I.loc;have hcls:(X.env.scope.kind==.class || (X.env.scope.kind==.module&&X.env.locals != X.env.globals))=false:=by rw [I.ok.kind];rfl
 have hiσ:i<σ.length:=by rw [I.len];exact (yV.mp hi).1
 have cne:=I.cne;have tracked:∀{a:aj}{h':aF},(∃ o,s.heap.get? a=some o/\H a=none)->yD a s.heap h'->Ye X.prog X.w H h':=fun{a h'} ha hs b ob e=>by
  obtain ⟨_,_,hfree⟩:=ha;refine (I.hok b ob e).stay (fun c w' hc q=>(hs.2 c ?_).trans q) (fun _ q=>q) fun _ _ q=>q;rintro rfl;rcases hc with rfl | hc
  ·rw [hfree] at e;cases e
  ·rw [hfree] at hc;cases hc
 rcases hx with hk | hk
 ·refine wpAny_storeName_local hk hn (fun h' hn' hs=>?_) hcls;obtain ⟨oL,_,_,hoL,_⟩:=id hn;refine h _ ⟨I.ok,I.os,I.bare,⟨fun b o e n hb hx=>?_,fun b o e n hb hx=>?_,I.base.free,fun b o e hx=>?_,I.base.tups,I.base.frzs,I.base.tbls⟩,⟨_,hn',fun j y v' e1 e2 e3=>?_⟩,fun y c e=>?_,I.free,I.freeC,fun p hp=>?_,tracked ⟨oL,hoL,I.free⟩ hs,by simpa using I.len⟩ ⟨_,hs,.inl rfl⟩
  ·exact (hs.2 b (yY (yN (zS e) I.ok.above))).trans (I.base.keep b o e n hb hx)
  ·obtain ⟨sl,e1⟩:=I.base.slot b o e n hb hx;exact ⟨sl,(hs.2 b (yY (yN (zS e) I.ok.above))).trans e1⟩
  ·obtain ⟨o',e1⟩:=I.base.there b o e hx;exact ⟨o',(hs.2 b (yY (yN (zS e) I.ok.above))).trans e1⟩
  ·by_cases hj:j=i
   ·subst hj;rw [hi] at e1;cases e1;rw [sI hiσ] at e2;cases e2;exact ⟨u,r,.inl ⟨hk,by simp⟩⟩
   ·rw [sQ (Ne.symm hj)] at e2;obtain ⟨u',r',q⟩:=hl j y v' e1 e2 e3;refine ⟨u',r',?_⟩;rcases q with ⟨k,e⟩ | ⟨k,c,e,z⟩
    ·refine .inl ⟨k,?_⟩;have:y≠x:=fun e=>hj (Mm hN e1 (e ▸ hi));simp [this,e]
    ·exact .inr ⟨k,c,e,z.sameBut hs (cne y c e)⟩
  ·obtain ⟨w',z⟩:=I.cell y c e;exact ⟨w',z.sameBut hs (cne y c e)⟩
  ·obtain ⟨e,n,ne,nf,d⟩:=I.pin p hp;exact ⟨(hs.2 p.1 ne).trans e,n,ne,nf,d⟩
 ·have hfn:X.fn x=true:=by
   rcases hf with z | z
   ·exact z
   ·rw [z] at hk;cases hk
  obtain ⟨c,hc⟩:=I.ok.has x (.inl hk);obtain ⟨w',z⟩:=I.cell x c hc;refine wpAny_storeName_cell I.ok.kind hk hc z (fun h' hc' hs=>?_);obtain ⟨oc,hoc,hocd⟩:=id z;refine h { s with heap:=h' } ⟨I.ok,I.os,I.bare,⟨fun b o e n hb hx=>?_,fun b o e n hb hx=>?_,I.base.free,fun b o e hx=>?_,I.base.tups,I.base.frzs,I.base.tbls⟩,⟨m,hn.sameBut hs (Ne.symm (cne x c hc)),fun j y v' e1 e2 e3=>?_⟩,fun y c' e=>?_,I.free,I.freeC,fun p hp=>?_,tracked ⟨oc,hoc,I.freeC x c hc⟩ hs,by simpa using I.len⟩ ⟨c,hs,.inr hc⟩
  ·exact (hs.2 b (yY (yN (zS e) (I.ok.cab x c hfn hc)))).trans (I.base.keep b o e n hb hx)
  ·obtain ⟨sl,e1⟩:=I.base.slot b o e n hb hx;exact ⟨sl,(hs.2 b (yY (yN (zS e) (I.ok.cab x c hfn hc)))).trans e1⟩
  ·obtain ⟨o',e1⟩:=I.base.there b o e hx;exact ⟨o',(hs.2 b (yY (yN (zS e) (I.ok.cab x c hfn hc)))).trans e1⟩
  ·by_cases hj:j=i
   ·subst hj;rw [hi] at e1;cases e1;rw [sI hiσ] at e2;cases e2;exact ⟨u,r,.inr ⟨.inl hk,c,hc,hc'⟩⟩
   ·rw [sQ (Ne.symm hj)] at e2;obtain ⟨u',r',q⟩:=hl j y v' e1 e2 e3;refine ⟨u',r',?_⟩;rcases q with q | ⟨k,c',e,z'⟩
    ·exact .inl q
    ·refine .inr ⟨k,c',e,z'.sameBut hs ?_⟩;rintro rfl;exact hj (Mm hN e1 (I.ok.inj _ _ _ e hc ▸ hi))
  ·by_cases hcc:c'=c
   ·subst hcc;exact ⟨_,hc'⟩
   ·obtain ⟨w2,z2⟩:=I.cell y c' e;exact ⟨w2,z2.sameBut hs hcc⟩
  ·obtain ⟨e,n,ne,nf,d⟩:=I.pin p hp;refine ⟨(hs.2 p.1 ?_).trans e,n,ne,nf,d⟩;intro q;rw [q,hoc] at e;have q':oc=p.2:=zD.inj e;exact d w' (by rw [<-q'];exact hocd)
theorem NA{M:Model}{A:az}{E:jb}{i:Nat}{x:Str}{v:V}{u:ai}{Q:Unit->am->Prop}(I:ZH X pins σ H s)(hN:X.N.Nodup)(hi:X.N[i]? = some x)(hx:PQ X.env.scope x)(r:ZT v u)(h:∀ s',ZH X pins (σ.set i (some v)) H s'->Q () s')(hf:X.fn x=true\/X.env.scope.names.lookup x=some .local:=by first | exact .inl rfl | exact .inr rfl | assumption):aD M A (storeName X.env x u) Q E s:=
 K2 I hN hi hx r (fun s' I' _=>h s' I') hf
theorem ZH.call'{s':am}{ch:List aj}(I:ZH X pins σ H s)(ho:s'.os=s.os)(u:Un (frs X.stack) ch H H' s.heap s'.heap)(hok:Ye X.prog X.w H' s'.heap)(hg:AllBare s'.gens)(hch:∀ b∈ch,(b∈X.ex\/X.s₀.heap.objs.size<=b)/\b≠X.env.locals/\(∀ x c,X.env.cells.lookup x=some c->c≠b)/\∀ p∈X.pn++pins,p.1≠b):ZH X pins σ H' s':=by
 obtain ⟨h',g',d',t',o'⟩:=s';have e:o'=s.os:=ho;subst e;exact I.call (g':=g') (t':=t') (d':=d') u hok hg hch
end
abbrev XK:=ai->Option aj->Hp->Prop
abbrev St:=List (jg)
abbrev VK:=V->Hp->Prop
abbrev TE:=St->Hp->VK->Prop
abbrev TT:=St->Hp->(Bool->Hp->Prop)->Prop
abbrev TA:=St->Hp->(jf->Hp->Prop)->Prop
structure Yu where
 nx:St->Hp->Prop
 rt:VK
 bk:St->Hp->Prop:=fun _ _=>False
 ct:St->Hp->Prop:=fun _ _=>False
abbrev TS:=Yu->St->Hp->Prop
def EP(X:Cx)(pins:List (aj×aJ))(σ:St)(Q:VK)(u:ai)(s':am):Prop:=∃ v H',ZH X pins σ H' s'/\ZT v u/\Q v H'
def TP(X:Cx)(pins:List (aj×aJ))(σ:St)(Q:Bool->Hp->Prop)(b:Bool)(s':am):Prop:=∃ H',ZH X pins σ H' s'/\Q b H'
def AP(X:Cx)(pins:List (aj×aJ))(σ:St)(Q:jf->Hp->Prop)(us:je)(s':am):Prop:=∃ vs H',ZH X pins σ H' s'/\ZO vs us/\Q vs H'
def SP(X:Cx)(pins:List (aj×aJ))(D:Yu)(f:Flow)(s':am):Prop:=
 match f with
 | .next=>∃ σ' H',ZH X pins σ' H' s'/\D.nx σ' H'
 | .brk=>∃ σ' H',ZH X pins σ' H' s'/\D.bk σ' H'
 | .cont=>∃ σ' H',ZH X pins σ' H' s'/\D.ct σ' H'
 | .ret u=>∃ v σ' H',ZH X pins σ' H' s'/\ZT v u/\D.rt v H'
def PE(X:Cx)(e:Expr)(t:TE):Prop:=
 ∀(pins:List (aj×aJ))(s:am)(σ:St)(H:Hp)(Q:VK),ZH X pins σ H s->t σ H Q->aD (aC X.prog X.w) X.A (aI e X.env) (EP X pins σ Q) X.xe s
def PT(X:Cx)(e:Expr)(t:TT):Prop:=
 ∀(pins:List (aj×aJ))(s:am)(σ:St)(H:Hp)(Q:Bool->Hp->Prop),ZH X pins σ H s->t σ H Q->aD (aC X.prog X.w) X.A (isTrue e X.env (aI e X.env)) (TP X pins σ Q) X.xe s
def PW(X:Cx)(e:Expr)(t:TT):Prop:=
 ∀(whole:Sem ai)(pins:List (aj×aJ))(s:am)(σ:St)(H:Hp)(Q:Bool->Hp->Prop),ZH X pins σ H s->t σ H Q->aD (aC X.prog X.w) X.A (isTrue e X.env whole) (TP X pins σ Q) X.xe s
theorem PW.pt{X:Cx}{e:Expr}{t:TT}(h:PW X e t):PT X e t:=h _
def PA(X:Cx)(es:List Expr)(t:TA):Prop:=
 ∀(pos:Pos)(pins:List (aj×aJ))(s:am)(σ:St)(H:Hp)(Q:jf->Hp->Prop),ZH X pins σ H s->t σ H Q->aD (aC X.prog X.w) X.A (spliced (aH pos (ax es X.env))) (AP X pins σ Q) X.xe s
def PS(X:Cx)(st:aE)(t:TS):Prop:=
 ∀(pins:List (aj×aJ))(s:am)(σ:St)(H:Hp)(D:Yu),ZH X pins σ H s->t D σ H->aD (aC X.prog X.w) X.A (exec st X.env) (SP X pins D) X.xe s
def Xn(X:Cx)(st:List aE)(t:TS):Prop:=
 ∀(pins:List (aj×aJ))(s:am)(σ:St)(H:Hp)(D:Yu),ZH X pins σ H s->t D σ H->aD (aC X.prog X.w) X.A (execs st X.env) (SP X pins D) X.xe s
theorem Zc{α:Type}{t:Sem α}{Q Q':α->am->Prop}{M:Model}{A:az}{E:jb}{s:am}(h:aD M A t Q E s)(hQ:∀ a s,Q a s->Q' a s):aD M A t Q' E s:=ae h hQ fun _ _ x=>x
section
variable{X:Cx}
theorem CZ{a b:Expr}{ta tb:TE}(ha:PE X a ta)(hb:PE X b tb){pins:List (aj×aJ)}{s:am}{σ:St}{H:Hp}{R:V->V->Hp->Prop}(I:ZH X pins σ H s)(h:ta σ H fun x H1=>tb σ H1 fun y H2=>R x y H2){α:Type}{Q:α->am->Prop}{f:ai->ai->Sem α}(hf:∀ v u s2 x y H2,ZH X pins σ H2 s2->ZT x v->ZT y u->R x y H2->aD (aC X.prog X.w) X.A (f v u) Q X.xe s2):
  aD (aC X.prog X.w) X.A (aI a X.env) (fun v s₁=>aD (aC X.prog X.w) X.A (aI b X.env) (fun u s₂=>aD (aC X.prog X.w) X.A (f v u) Q X.xe s₂) X.xe s₁) X.xe s:=by
 refine Zc (ha pins s σ H _ I h) fun v s1 ⟨x,H1,I1,r1,q1⟩=>?_;refine Zc (hb pins s1 σ H1 _ I1 q1) fun u s2 ⟨y,H2,I2,r2,q2⟩=>?_;exact hf v u s2 x y H2 I2 r1 r2 q2
def OX(i:Nat):TE:=fun σ H Q=>∃ v,σ[i]? = some (some v)/\Q v H
def tC(v:V):TE:=fun _ H Q=>Q v H
theorem Ak{i:Nat}{x:Str}{pos:Pos}(hN:X.N[i]? = some x)(hv:Nj X.env.scope x)(hd:(x==("__debug__" : Str))=false:=by decide)(jD:(x==("__classdict__" : Str))=false:=by decide):PE X (.Name x pos) (OX i):=by
 intro pins s σ H Q I h;obtain ⟨v,e,h⟩:=h;obtain ⟨m,hn,hl⟩:=I.loc;obtain ⟨u,r,l⟩:=hl i x v hN e hv;have fin:EP X pins σ Q u s:=⟨v,H,I,r,h⟩;rcases l with ⟨hk,hm⟩ | ⟨hk,c,hc,jw⟩
 ·exact wpAny_Name (wpAny_loadName_local I.ok.kind hk hn hm fin) hd
 ·rcases hk with hk | hk
  ·exact wpAny_Name (wpAny_loadName_cell I.ok.kind hk hc jw fin) hd
  ·exact wpAny_Name (wpAny_loadName_free I.ok.kind hk hc jw fin jD) hd
theorem ZM{i j pos}:PE X (.Constant (.int i) j pos) (tC (.int i)):=fun _ _ _ H _ I h=>wpAny_Constant_int ⟨.int i,H,I.tok _,⟨_,rfl⟩,h⟩
theorem XV{b j pos}:PE X (.Constant (.bool b) j pos) (tC (.bl b)):=fun _ _ _ H _ I h=>Constant_bool ⟨.bl b,H,I,rfl,h⟩
theorem O0{j pos}:PE X (.Constant .none j pos) (tC .non):=fun _ _ _ H _ I h=>Constant_none ⟨.non,H,I,rfl,h⟩
theorem Xq{x j pos}:PE X (.Constant (.str x) j pos) (tC (.str x)):=fun _ _ _ H _ I h=>Calls.Constant_str ⟨.str x,H,I.tok _,⟨_,rfl⟩,h⟩
def Gl(X:Cx)(x:Str):Prop:=X.env.kindOf x=some .globalImplicit
theorem QK{E:jb}{pins:List (aj×aJ)}{s:am}{σ:St}{H:Hp}{x:Str}{u:ai}{pos:Pos}{Q:jb}(I:ZH X pins σ H s)(hg:Gl X x)(hm:X.mg x=some u)(h:Q u s)(hd:(x==("__debug__" : Str))=false:=by decide):aD (aC X.prog X.w) X.A (aI (.Name x pos) X.env) Q E s:=
 Calls.Name_function_global I.ok.kind hg (Calls.loadGlobal_global (by rw [I.ok.glob];exact I.mod.glob.keeps I.bk) hm h) hd
theorem PN{E:jb}{pins:List (aj×aJ)}{s:am}{σ:St}{H:Hp}{x:Str}{u:ai}{pos:Pos}{Q:jb}(I:ZH X pins σ H s)(hg:Gl X x)(hm:X.mg x=none)(hv:aA x=some u)(h:Q u s)(hn:x ≠ "__name__" :=by decide)(hd:(x==("__debug__" : Str))=false:=by decide):aD (aC X.prog X.w) X.A (aI (.Name x pos) X.env) Q E s:=by
 obtain ⟨mb,h1,h2⟩:=I.mod.blt;exact Calls.Name_function_global I.ok.kind hg (Calls.loadGlobal_builtin (by rw [I.ok.glob];exact I.mod.glob.keeps I.bk) hm (by rw [I.ok.blt];exact h1.keeps I.bk) ((h2 x hn).trans hv) h) hd
theorem WN{x:Str}{v:V}{u:ai}{pos:Pos}(hg:Gl X x)(hm:X.mg x=some u)(r:ZT v u)(hd:(x==("__debug__" : Str))=false:=by decide):PE X (.Name x pos) (tC v):=
 fun _ _ _ H _ I h=>QK I hg hm ⟨v,H,I,r,h⟩ hd
theorem Vb{x:Str}{v:V}{u:ai}{pos:Pos}(hg:Gl X x)(hm:X.mg x=none)(hv:aA x=some u)(r:ZT v u)(hn:x ≠ "__name__" :=by decide)(hd:(x==("__debug__" : Str))=false:=by decide):PE X (.Name x pos) (tC v):=
 fun _ _ _ H _ I h=>PN I hg hm hv ⟨v,H,I,r,h⟩ hn hd
def AR(ta tb:TE)(k:Int->Int->Hp->Prop):St->Hp->Prop:=fun σ H=>ta σ H fun x H1=>tb σ H1 fun y H2=>∃ i j,x=.int i/\y=.int j/\k i j H2
variable{a b:Expr}{ta tb:TE}{pos:Pos}
def PC(X:Cx)(op:CmpOp)(a b:Expr)(t:TE):Prop:=
 ∀(pins:List (aj×aJ))(s:am)(σ:St)(H:Hp)(Q:VK),ZH X pins σ H s->t σ H Q ->
  aD (aC X.prog X.w) X.A (aI a X.env) (fun v s₁=>aD (aC X.prog X.w) X.A (aI b X.env) (fun u s₂=>aD (aC X.prog X.w) X.A (aB op v u) (EP X pins σ Q) X.xe s₂) X.xe s₁) X.xe s
theorem FK(b:Expr){op:CmpOp}(h:op≠.In)(h2:op≠.NotIn):behindInMarks op b=false:=by
 have e1:(op==CmpOp.In)=false:=by cases op <;> first | rfl | exact absurd rfl h
 have e2:(op==CmpOp.NotIn)=false:=by cases op <;> first | rfl | exact absurd rfl h2
 cases b <;> simp [behindInMarks,e1,e2]
def MA(p:Int->Int->Bool)(ta tb:TE):TE:=fun σ H Q=>AR ta tb (fun i j H2=>Q (.bl (p i j)) H2) σ H
abbrev tLt:TE->TE->TE:=MA fun i j=>decide (i<j)
abbrev Bz:TE->TE->TE:=MA fun i j=>decide (j<=i)
abbrev BT:TE->TE->TE:=MA fun i j=>decide (i=j)
theorem Mr{op:CmpOp}{p:Int->Int->Bool}(ha:PE X a ta)(hb:PE X b tb)(rule:∀ (i j:Int) (t u:Tok) (Q:jb) (s:am),Q (.bool (p i j)) s->aD (aC X.prog X.w) X.A (aB op (.int i t) (.int j u)) Q X.xe s):PC X op a b (MA p ta tb):=by
 intro pins s σ H Q I h;refine CZ ha hb I h fun v u s2 x y H2 I2 rx ry q=>?_;obtain ⟨i,j,rfl,rfl,q⟩:=q;obtain ⟨t,rfl⟩:=rx;obtain ⟨t',rfl⟩:=ry;exact rule i j t t' _ s2 ⟨.bl _,H2,I2,rfl,q⟩
theorem Fg(ha:PE X a ta)(hb:PE X b tb):PC X .Lt a b (tLt ta tb):=Mr ha hb fun _ _ _ _ _ _ h=>lt_int h
theorem EL(ha:PE X a ta)(hb:PE X b tb):PC X .GtE a b (Bz ta tb):=Mr ha hb fun _ _ _ _ _ _ h=>ge_int h
theorem MK(ha:PE X a ta)(hb:PE X b tb):PC X .Eq a b (BT ta tb):=Mr ha hb fun _ _ _ _ _ _ h=>eq_int (by rw [Bool.beq_eq_decide_eq];exact h)
def ZQh(ta:TE):TE:=fun σ H Q=>ta σ H fun x H1=>Q (.bl (decide (x=.non))) H1
def Ff(ta:TE):TE:=fun σ H Q=>ta σ H fun x H1=>Q (.bl (!decide (x=.non))) H1
theorem ZT.none_iff{x:V}{v:ai}(r:ZT x v):(v==Value.none)=decide (x=.non):=by
 cases x with
 | non=>cases r;rfl
 | bl _=>cases r;rfl
 | int _=>obtain ⟨t,rfl⟩:=r;rfl
 | str _=>obtain ⟨t,rfl⟩:=r;rfl
 | byt _=>obtain ⟨t,rfl⟩:=r;rfl
 | flt _=>obtain ⟨t,rfl⟩:=r;rfl
 | ref _=>cases r;rfl
 | ty _=>cases r;rfl
theorem Hw{j pos'}(ha:PE X a ta):PC X .Is a (.Constant .none j pos') (ZQh ta):=by
 intro pins s σ H Q I h;refine Zc (ha pins s σ H _ I h) fun v s1 ⟨x,H1,I1,r1,q1⟩=>?_;exact Constant_none (is_none_gen ⟨.bl _,H1,I1,by rw [r1.none_iff];rfl,q1⟩)
theorem N6{j pos'}(ha:PE X a ta):PC X .IsNot a (.Constant .none j pos') (Ff ta):=by
 intro pins s σ H Q I h;refine Zc (ha pins s σ H _ I h) fun v s1 ⟨x,H1,I1,r1,q1⟩=>?_;exact Constant_none (isnot_none_gen ⟨.bl _,H1,I1,by rw [r1.none_iff];rfl,q1⟩)
def tB(t:TE):TT:=fun σ H Q=>t σ H fun x H1=>∃ c,x=.bl c/\Q c H1
theorem V0{op:CmpOp}{t:TE}(h:PC X op a b t)(h1:behindInMarks op b=false:=by first | exact FK _ (by decide) (by decide) | rfl):PT X (.Compare a [op] [b] pos) (tB t):=by
 intro pins s σ H Q I hw;refine wpAny_isTrue_Compare1 (Zc (h pins s σ H _ I hw) fun v s1 h1=>Zc h1 fun u s2 h2=>Zc h2 fun c s3 ⟨x,H1,I1,r1,q1⟩=>?_) h1;obtain ⟨d,rfl,q⟩:=q1;cases r1;exact wpAny_truthy_bool ⟨H1,I1,q⟩
theorem Y9{e:Expr}{t:TE}(h:PE X e t)(he:∀ whole,isTrue e X.env whole=(do let v<-whole;standAt e.pos;holding [v] (truthy v)):=by intro _;rfl):PT X e (tB t):=by
 intro pins s σ H Q I hw;refine isTrue_plain (Zc (h pins s σ H _ I hw) fun v s1 ⟨x,H1,I1,r1,q1⟩=>?_) (he _);obtain ⟨d,rfl,q⟩:=q1;cases r1;exact wpAny_truthy_bool ⟨H1,I1,q⟩
variable{tA tB':TT}{rest:List Expr}
def ZQk(t u:TT):TT:=fun σ H Q=>t σ H fun c H1=>if c=true then u σ H1 Q else Q false H1
def EZ(t u:TT):TT:=fun σ H Q=>t σ H fun c H1=>if c=true then Q true H1 else u σ H1 Q
def Do(t:TT):TT:=fun σ H Q=>t σ H fun c H1=>Q (!c) H1
theorem Ol(ha:PT X a tA):PW X (.BoolOp .And [a] pos) tA:=by
 intro wh pins s σ H Q I h;refine isTrue_and (Zc (ha pins s σ H Q I h) fun c s1 e=>?_)
 cases c with
 | true=>exact isTrue_and_nil e
 | false=>exact e
theorem Pf(ha:PT X a tA):PW X (.BoolOp .Or [a] pos) tA:=by
 intro wh pins s σ H Q I h;refine isTrue_or (Zc (ha pins s σ H Q I h) fun c s1 e=>?_)
 cases c with
 | false=>exact isTrue_or_nil e
 | true=>exact e
theorem ON(ha:PT X a tA)(hb:PW X (.BoolOp .And (b :: rest) pos) tB'):PW X (.BoolOp .And (a :: b :: rest) pos) (ZQk tA tB'):=by
 intro wh pins s σ H Q I h;refine isTrue_and (Zc (ha pins s σ H _ I h) fun c s1 ⟨H1,I1,q1⟩=>?_)
 cases c with
 | true=>exact hb wh pins s1 σ H1 Q I1 q1
 | false=>exact ⟨H1,I1,q1⟩
theorem PY(ha:PT X a tA)(hb:PW X (.BoolOp .Or (b :: rest) pos) tB'):PW X (.BoolOp .Or (a :: b :: rest) pos) (EZ tA tB'):=by
 intro wh pins s σ H Q I h;refine isTrue_or (Zc (ha pins s σ H _ I h) fun c s1 ⟨H1,I1,q1⟩=>?_)
 cases c with
 | true=>exact ⟨H1,I1,q1⟩
 | false=>exact hb wh pins s1 σ H1 Q I1 q1
theorem VG(ha:PT X a tA):PT X (.UnaryOp .Not a pos) (Do tA):=by
 intro pins s σ H Q I h;exact isTrue_not (ha pins s σ H (fun c H1=>Q (!c) H1) I h)
def D7(ta tb:TE):TE:=fun σ H Q=>ta σ H fun x H1=>∃ c,x=.bl c/\if c=true then tb σ H1 Q else Q (.bl false) H1
def Dw(ta:TE):TE:=fun σ H Q=>ta σ H fun x H1=>∃ c,x=.bl c/\Q (.bl (!c)) H1
theorem Q4{op}{t:TE}(h:PE X a t):PE X (.BoolOp op [a] pos) t:=fun pins s σ H Q I hw=>BoolOp_one (h pins s σ H Q I hw)
theorem QV(ha:PE X a ta)(hb:PE X (.BoolOp .And (b :: rest) pos) tb):PE X (.BoolOp .And (a :: b :: rest) pos) (D7 ta tb):=by
 intro pins s σ H Q I h;refine BoolOp_and (Zc (ha pins s σ H _ I h) fun v s1 ⟨x,H1,I1,r1,q1⟩=>?_);obtain ⟨c,rfl,q1⟩:=q1;cases r1;refine wpAny_truthy_bool ?_
 cases c with
 | true=>exact hb pins s1 σ H1 Q I1 q1
 | false=>exact ⟨.bl false,H1,I1,rfl,q1⟩
theorem IC(ha:PE X a ta):PE X (.UnaryOp .Not a pos) (Dw ta):=by
 intro pins s σ H Q I h;refine UnaryOp_ (Zc (ha pins s σ H _ I h) fun v s1 ⟨x,H1,I1,r1,q1⟩=>?_);obtain ⟨c,rfl,q1⟩:=q1;cases r1;exact not_of (wpAny_truthy_bool ⟨.bl (!c),H1,I1,rfl,q1⟩)
end
def ZL(K:zZ)(H:Hp)(a:aj)(xs:jf):Prop:=
 Rd H a (.lst xs) \/
  ∃(o:aJ)(jj:Array ai)(n:Nat),K.lookup a=some o/\o.cls=.type "list" /\ o.dict=none/\o.data=.seq jj n/\jj.size<=aw/\ZO xs jj.toList
def Zo(K:zZ)(H:Hp)(a:aj)(xs:jf):Prop:=
 Rd H a (.tup xs) \/
  ∃(o:aJ)(jj:Array ai)(n:Nat),K.lookup a=some o/\o.cls=.type "tuple" /\ o.data=.seq jj n/\jj.size<=aw/\ZO xs jj.toList
def AL:ai->jg
 | .none=>some .non
 | .bool b=>some (.bl b)
 | .int i _=>some (.int i)
 | .str x _=>some (.str x)
 | .bytes b _=>some (.byt b)
 | .float b _=>some (.flt b)
 | .ref a=>some (.ref a)
 | .type n=>some (.ty n)
 | _=>none
theorem ZT.abs{x:V}{u:ai}(r:ZT x u):AL u=some x:=by
 cases x with
 | non=>cases r;rfl
 | bl _=>cases r;rfl
 | int _=>obtain ⟨t,rfl⟩:=r;rfl
 | str _=>obtain ⟨t,rfl⟩:=r;rfl
 | byt _=>obtain ⟨t,rfl⟩:=r;rfl
 | flt _=>obtain ⟨t,rfl⟩:=r;rfl
 | ref _=>cases r;rfl
 | ty _=>cases r;rfl
theorem ZT.inj{x y:V}{u:ai}(r:ZT x u)(q:ZT y u):x=y:=zD.inj (r.abs.symm.trans q.abs)
theorem ZO.inj:∀{xs ys:jf}{us:je},ZO xs us->ZO ys us->xs=ys
 | _,_,_,.nil,.nil=>rfl
 | _,_,_,.cons r t,.cons r' t'=>by rw [r.inj r',ZO.inj t t']
section
variable{X:Cx}{pins:List (aj×aJ)}{σ:St}{H:Hp}{s:am}{a:aj}{xs ys:jf}
theorem ZL.of{K:zZ}(h:H a=some (.lst xs)):ZL K H a xs:=.inl (.inl h)
theorem Zo.of{K:zZ}(h:H a=some (.tup xs)):Zo K H a xs:=.inl (.inl h)
theorem ZH.list(I:ZH X pins σ H s)(h:ZL X.K H a xs):∃ jj:je,ZO xs jj/\PlainL s.heap a jj.toArray/\xs.length<=sizeLine:=by
 rcases h with h | ⟨o,jj,n,hk,hc,hd,hs,hz,r⟩
 ·obtain ⟨z,jj,n,r,e⟩:=h.ok I.hok;exact ⟨jj,r,⟨_,n,e,rfl,rfl,rfl⟩,z⟩
 ·refine ⟨jj.toList,r,⟨o,n,I.kIn a o hk,hc,hd,by simpa using hs⟩,?_⟩
  have e:=r.length;simp only [vC] at e
  lia
theorem ZH.tuple(I:ZH X pins σ H s)(h:Zo X.K H a xs):∃ jj:je,ZO xs jj/\IsTup s.heap a jj.toArray/\xs.length<=sizeLine:=by
 rcases h with h | ⟨o,jj,n,hk,hc,hs,hz,r⟩
 ·obtain ⟨z,jj,r,p⟩:=h.ok I.hok;exact ⟨jj,r,p,z⟩
 ·refine ⟨jj.toList,r,⟨o,I.kIn a o hk,hc,n,by simpa using hs⟩,?_⟩
  have e:=r.length;simp only [vC] at e
  lia
theorem ZH.list_inj(I:ZH X pins σ H s)(h:ZL X.K H a xs)(h':ZL X.K H a ys):xs=ys:=by
 obtain ⟨jj,r,⟨o,n,e,_,_,d⟩,_⟩:=I.list h;obtain ⟨its',r',⟨o',n',e',_,_,d'⟩,_⟩:=I.list h';rw [e] at e';cases e';rw [d] at d';injection d' with d1 _;have:jj=its':=by simpa using congrArg tU d1
 subst this;exact r.inj r'
theorem ZH.tuple_inj(I:ZH X pins σ H s)(h:Zo X.K H a xs)(h':Zo X.K H a ys):xs=ys:=by
 obtain ⟨jj,r,⟨o,e,_,n,d⟩,_⟩:=I.tuple h;obtain ⟨its',r',⟨o',e',_,n',d'⟩,_⟩:=I.tuple h';rw [e] at e';cases e';rw [d] at d';injection d' with d1 _;have:jj=its':=by simpa using congrArg tU d1
 subst this;exact r.inj r'
end
abbrev Cx.wish(X:Cx)(E:jb):Cx:={ X with xe:=E }
abbrev Cx.nox(X:Cx):Cx:=X.wish fun _ _=>False
theorem Cx.Ok.wish{X:Cx}(ok:X.Ok)(E:jb):(X.wish E).Ok:=
 ⟨ok.mod,ok.kind,ok.glob,ok.blt,ok.above,ok.inj,ok.has,ok.cab,ok.hd,ok.frames,ok.stk,ok.exf,ok.bs,ok.bsz,ok.noex,ok.exfs,ok.funs,ok.frf⟩
theorem Cx.Ok.unwish{X:Cx}{E:jb}(ok:(X.wish E).Ok):X.Ok:=
 ⟨ok.mod,ok.kind,ok.glob,ok.blt,ok.above,ok.inj,ok.has,ok.cab,ok.hd,ok.frames,ok.stk,ok.exf,ok.bs,ok.bsz,ok.noex,ok.exfs,ok.funs,ok.frf⟩
section
variable{X:Cx}{pins:List (aj×aJ)}{σ:St}{H:Hp}{s:am}{E:jb}
theorem ZH.wish(I:ZH X pins σ H s)(E:jb):ZH (X.wish E) pins σ H s:=⟨I.ok.wish E,I.os,I.bare,I.base,I.loc,I.cell,I.free,I.freeC,I.pin,I.hok,I.len⟩
theorem ZH.unwish(I:ZH (X.wish E) pins σ H s):ZH X pins σ H s:=⟨I.ok.unwish,I.os,I.bare,I.base,I.loc,I.cell,I.free,I.freeC,I.pin,I.hok,I.len⟩
theorem SP.unwish{D:Yu}{f:Flow}{s':am}(h:SP (X.wish E) pins D f s'):SP X pins D f s':=by
 cases f with
 | next=>obtain ⟨σ',H',I,q⟩:=h;exact ⟨σ',H',I.unwish,q⟩
 | brk=>obtain ⟨σ',H',I,q⟩:=h;exact ⟨σ',H',I.unwish,q⟩
 | cont=>obtain ⟨σ',H',I,q⟩:=h;exact ⟨σ',H',I.unwish,q⟩
 | ret u=>obtain ⟨v,σ',H',I,r,q⟩:=h;exact ⟨v,σ',H',I.unwish,r,q⟩
theorem Xn.nox{st:List aE}{t:TS}(h:Xn X.nox st t):Xn X st t:=fun pins s σ H D I hw=>
 ae (h pins s σ H D (I.wish _) hw) (fun _ _ q=>q.unwish) fun _ _ z=>False.elim z
end
section
variable{X:Cx}{st:aE}{rest:List aE}{t u:TS}{e:Expr}{te:TE}{pos:Pos}
def Ef:TS:=fun D σ H=>D.nx σ H
def Dt(t u:TS):TS:=fun D σ H=>t { D with nx:=u D } σ H
theorem Z7:Xn X [] Ef:=fun _ _ σ H _ I h=>wpAny_execs_nil ⟨σ,H,I,h⟩
theorem ZR(h1:PS X st t)(h2:Xn X rest u):Xn X (st :: rest) (Dt t u):=by
 intro pins s σ H D I h;refine wpAny_execs_cons (Zc (h1 pins s σ H { D with nx:=u D } I h) fun f s1 q=>?_)
 cases f with
 | next=>
  obtain ⟨σ',H',I',q⟩:=q;exact h2 pins s1 σ' H' D I' q
 | ret v=>exact q
 | brk=>exact q
 | cont=>exact q
theorem ZU(h1:PS X st t):Xn X [st] t:=by
 intro pins s σ H D I h;refine wpAny_execs_cons (Zc (h1 pins s σ H D I h) fun f s1 q=>?_)
 cases f with
 | next=>exact wpAny_execs_nil q
 | ret v=>exact q
 | brk=>exact q
 | cont=>exact q
theorem ZH.quiet{pins:List (aj×aJ)}{σ:St}{H:Hp}{s:am}(I:ZH X pins σ H s):interactive X.env=false:=by simp [interactive,I.ok.kind]
def D3(te:TE):TS:=fun D σ H=>te σ H fun _ H1=>D.nx σ H1
theorem X8(he:PE X e te)(hs:swapsWith e none pos.line X.env=pure false:=by rfl):PS X (.Expr e pos) (D3 te):=by
 intro pins s σ H D I h;exact wpAny_Expr_any (Zc (he pins s σ H _ I h) fun v s1 ⟨x,H1,I1,r1,q1⟩=>⟨σ,H1,I1,q1⟩) I.quiet hs
def Lm(te:TE):TS:=fun D σ H=>te σ H D.rt
theorem Zg(he:PE X e te):PS X (.Return (some e) pos) (Lm te):=by
 intro pins s σ H D I h;exact wpAny_Return_some (Zc (he pins s σ H _ I h) fun v s1 ⟨x,H1,I1,r1,q1⟩=>⟨x,σ,H1,I1,r1,q1⟩)
def Dc(c:TT)(t u:TS):TS:=fun D σ H=>c σ H fun b H1=>if b=true then t D σ H1 else u D σ H1
theorem Z5{c:Expr}{a b:List aE}{tc:TT}(hc:PT X c tc)(ha:Xn X a t)(hb:Xn X b u):PS X (.If c a b pos) (Dc tc t u):=by
 intro pins s σ H D I h;refine wpAny_If (Zc (hc pins s σ H _ I h) fun d s1 ⟨H1,I1,q1⟩=>?_)
 cases d with
 | true=>exact ha pins s1 σ H1 D I1 q1
 | false=>exact hb pins s1 σ H1 D I1 q1
def Af:TS:=fun _ _ _=>False
theorem Qx{sts:List aE}:Xn X sts Af:=fun _ _ _ _ _ _ h=>h.elim
end
abbrev TG:=V->St->Hp->(St->Hp->Prop)->Prop
abbrev PD:=jf->St->Hp->(St->Hp->Prop)->Prop
def PG(X:Cx)(target:Expr)(t:TG):Prop:=
 ∀(pins:List (aj×aJ))(s:am)(σ:St)(H:Hp)(v:V)(u:ai)(Q:St->Hp->Prop),ZH X pins σ H s->ZT v u->t v σ H Q ->
  aD (aC X.prog X.w) X.A (assign target X.env u) (fun _ s'=>∃ σ' H',ZH X pins σ' H' s'/\Q σ' H') X.xe s
def Ng(X:Cx)(ts:List Expr)(t:PD):Prop:=
 ∀(pins:List (aj×aJ))(s:am)(σ:St)(H:Hp)(vs:jf)(us:je)(Q:St->Hp->Prop),ZH X pins σ H s->ZO vs us->t vs σ H Q ->
  aD (aC X.prog X.w) X.A (assignInOrder ((assignEach ts X.env).map (·.2)) us) (fun _ s'=>∃ σ' H',ZH X pins σ' H' s'/\Q σ' H') X.xe s
abbrev KI:=V->V->V->Hp->(Hp->Prop)->Prop
def Hf(X:Cx)(t:KI):Prop:=
 ∀(pins:List (aj×aJ))(s:am)(σ:St)(H:Hp)(o i v:V)(ov iv u:ai)(Q:Hp->Prop),ZH X pins σ H s->ZT o ov->ZT i iv->ZT v u->t o i v H Q ->
  aD (aC X.prog X.w) X.A (setItem ov iv u) (fun _ s'=>∃ H',ZH X pins σ H' s'/\Q H') X.xe s
abbrev Nu:=V->V->Hp->VK->Prop
def M8(X:Cx)(op:Operator)(t:Nu):Prop:=
 ∀(pins:List (aj×aJ))(s:am)(σ:St)(H:Hp)(x y:V)(v u:ai)(Q:VK),ZH X pins σ H s->ZT x v->ZT y u->t x y H Q ->
  aD (aC X.prog X.w) X.A (inplaceOp op v u) (EP X pins σ Q) X.xe s
section
variable{X:Cx}{pos:Pos}
def Qt(i:Nat):TG:=fun v σ H Q=>Q (σ.set i (some v)) H
theorem KC{i:Nat}{x:Str}(hN:X.N.Nodup)(hi:X.N[i]? = some x)(hx:PQ X.env.scope x)(hf:X.fn x=true\/X.env.scope.names.lookup x=some .local:=by first | exact .inl rfl | exact .inr rfl | assumption):PG X (.Name x pos) (Qt i):=by
 intro pins s σ H v u Q I r h;exact wpAny_assign_Name (NA I hN hi hx r (fun s' I'=>⟨_,H,I',h⟩) hf)
theorem Xo(i:Nat){x:Str}(hN:X.N.Nodup)(hi:X.N[i]? = some x:=by rfl)(hx:PQ X.env.scope x:=by exact Or.inl rfl)(hf:X.fn x=true\/X.env.scope.names.lookup x=some .local:=by first | exact .inl rfl | exact .inr rfl | assumption):PG X (.Name x pos) (Qt i):=KC hN hi hx hf
def EO:PD:=fun vs σ H Q=>vs=[]/\Q σ H
def FU(t:TG)(u:PD):PD:=fun vs σ H Q=>∃ v r,vs=v :: r/\t v σ H fun σ' H'=>u r σ' H' Q
theorem Ob:Ng X [] EO:=by
 intro pins s σ H vs us Q I r h;obtain ⟨e,h⟩:=h;subst e;cases r;exact assignInOrder_nil ⟨σ,H,I,h⟩
theorem QA{e:Expr}{es:List Expr}{t:TG}{u:PD}(h1:PG X e t)(h2:Ng X es u)(hs:(assignEach (e :: es) X.env).map (·.2)=assign e X.env :: (assignEach es X.env).map (·.2):=by rfl):Ng X (e :: es) (FU t u):=by
 intro pins s σ H vs us Q I r h;obtain ⟨v,vr,e1,h⟩:=h;subst e1
 cases r with
 | cons r rr=>
  rw [hs];refine assignInOrder_cons (Zc (h1 pins s σ H _ _ _ I r h) fun _ s1 ⟨σ1,H1,I1,q1⟩=>?_);exact h2 pins s1 σ1 H1 _ _ Q I1 rr q1
def Bn(K:zZ)(n:Nat)(t:PD):TG:=fun v σ H Q=>∃ a xs,v=.ref a/\Zo K H a xs/\xs.length=n/\t xs σ H Q
theorem Oh{es:List Expr}{k:Nat}{t:PD}{n:Nat}(hc:X.calm=true)(h:Ng X es t)(hn:(assignEach es X.env).length=n:=by rfl)(hst:(assignEach es X.env).findIdx? (·.1)=none:=by rfl):PG X (.Tuple es k pos) (Bn X.K n t):=by
 intro pins s σ H v u Q I r hw;obtain ⟨a,xs,e1,hq,hl,hw⟩:=hw;subst e1;cases r;obtain ⟨jj,rv,ht,hz⟩:=I.tuple hq;refine assign_Tuple_tuple (I.ok.hd hc) ht (by simp [hn,<-hl,rv.length]) hst fun h' hx=>?_
 have I1:ZH X pins σ H { s with heap:=h' }:=I.kept (t':=s.toks) fun b o e=>hx b o (yY (zS e)) e;exact h pins _ σ H xs _ Q I1 (by simpa using rv) hw
def EG(to ti:TE)(t:KI):TG:=fun v σ H Q=>to σ H fun o H1=>ti σ H1 fun i H2=>t o i v H2 fun H3=>Q σ H3
theorem Lw{o i:Expr}{to ti:TE}{t:KI}(ho:PE X o to)(hi:PE X i ti)(hs:Hf X t)(ha:∀ v,assign (.Subscript o i pos) X.env v=(do
   let ov<-holding [v] (aI o X.env)
   let iv<-holding [v,ov] (aI i X.env)
   standAt pos
   holding [v,ov,iv] (setItem ov iv v)
   release [v,ov,iv] []):=by intro _;rfl):PG X (.Subscript o i pos) (EG to ti t):=by
 intro pins s σ H v u Q I r h;rw [ha];refine aa (af (Zc (ho pins s σ H _ I h) fun ov s1 ⟨x,H1,I1,r1,q1⟩=>?_));refine aa (af (Zc (hi pins s1 σ H1 _ I1 q1) fun iv s2 ⟨y,H2,I2,r2,q2⟩=>?_));refine aa (ah (aa (af (Zc (hs pins s2 σ H2 x y v ov iv u _ I2 r1 r2 r q2) fun _ s3 ⟨H3,I3,q3⟩=>?_))));exact wpAny_release ⟨σ,H3,I3,q3⟩
def Ku(te:TE)(g:TG):TS:=fun D σ H=>te σ H fun x H1=>g x σ H1 D.nx
theorem Pe{tg e:Expr}{te:TE}{g:TG}(he:PE X e te)(hg:PG X tg g)(hs:swapsWithSole [tg] e pos.line X.env=pure false:=by rfl)(hw:swappedStores [tg] e X.env=pure none:=by rfl)(h1:(assignEach [tg] X.env).map (·.2)=[assign tg X.env]:=by rfl):PS X (.Assign [tg] e pos) (Ku te g):=by
 intro pins s σ H D I h;refine wpAny_Assign_stores (Zc (he pins s σ H _ I h) fun v s1 ⟨x,H1,I1,r1,q1⟩=>?_) hs hw;rw [h1];exact Zc (hg pins s1 σ H1 x v _ I1 r1 q1) fun _ s2 q=>q
theorem Ac{i:Nat}{x:Str}{e:Expr}{te:TE}{pos':Pos}(hN:X.N.Nodup)(hi:X.N[i]? = some x)(hx:PQ X.env.scope x)(he:PE X e te)(hs:swapsWith e (some (.Name x pos')) pos.line X.env=pure false:=by rfl)(hf:X.fn x=true\/X.env.scope.names.lookup x=some .local:=by first | exact .inl rfl | exact .inr rfl | assumption):
  PS X (.Assign [.Name x pos'] e pos) (Ku te (Qt i)):=by
 intro pins s σ H D I h;refine wpAny_Assign_Name (Zc (he pins s σ H _ I h) fun v s1 ⟨y,H1,I1,r1,q1⟩=>?_) hs;exact NA I1 hN hi hx r1 (fun s2 I2=>⟨_,H1,I2,q1⟩) hf
theorem Zk(i:Nat){x:Str}{e:Expr}{te:TE}{pos':Pos}(hN:X.N.Nodup)(he:PE X e te)(hi:X.N[i]? = some x:=by rfl)(hx:PQ X.env.scope x:=by exact Or.inl rfl)(hs:swapsWith e (some (.Name x pos')) pos.line X.env=pure false:=by rfl)(hf:X.fn x=true\/X.env.scope.names.lookup x=some .local:=by first | exact .inl rfl | exact .inr rfl | assumption):
  PS X (.Assign [.Name x pos'] e pos) (Ku te (Qt i)):=Ac hN hi hx he hs hf
def B2(i:Nat)(te:TE)(ti:Nu):TS:=fun D σ H=>∃ x,σ[i]? = some (some x)/\te σ H fun y H1=>ti x y H1 fun z H2=>D.nx (σ.set i (some z)) H2
theorem Ik{i:Nat}{x:Str}{e:Expr}{te:TE}{op:Operator}{ti:Nu}{pos':Pos}(hN:X.N.Nodup)(hi:X.N[i]? = some x)(hx:PQ X.env.scope x)(he:PE X e te)(ho:M8 X op ti)(hf:X.fn x=true\/X.env.scope.names.lookup x=some .local:=by first | exact .inl rfl | exact .inr rfl | assumption):
  PS X (.AugAssign (.Name x pos') op e pos) (B2 i te ti):=by
 intro pins s σ H D I h;obtain ⟨v,e1,h⟩:=h;obtain ⟨m,hn,hl⟩:=I.loc;have vis:Nj X.env.scope x:=by rcases hx with k | k;exact .inl k;exact .inr (.inl k)
 obtain ⟨u,r,l⟩:=hl i x v hi e1 vis;refine wpAny_AugAssign_Name ?_;have go:aD (aC X.prog X.w) X.A (aI e X.env) (fun w s₂=>aD (aC X.prog X.w) X.A (inplaceOp op u w) (fun r s₃=>aD (aC X.prog X.w) X.A (storeName X.env x r) (fun _=>SP X pins D .next) X.xe s₃) X.xe s₂) X.xe s:=by
  refine Zc (he pins s σ H _ I h) fun w s1 ⟨y,H1,I1,r1,q1⟩=>?_;refine Zc (ho pins s1 σ H1 v y u w _ I1 r r1 q1) fun z s2 ⟨zv,H2,I2,r2,q2⟩=>?_;exact NA I2 hN hi hx r2 (fun s3 I3=>⟨_,H2,I3,q2⟩) hf
 rcases l with ⟨hk,hm⟩ | ⟨hk,c,hc,jw⟩
 ·exact wpAny_loadName_local I.ok.kind hk hn hm go
 ·rcases hk with hk | hk
  ·exact wpAny_loadName_cell I.ok.kind hk hc jw go
  ·rcases hx with k | k
   ·have:X.env.scope.names.lookup x=some .free:=hk;rw [k] at this;cases this
   ·have:X.env.scope.names.lookup x=some .free:=hk;rw [k] at this;cases this
def Jy(f:Int->Int->Int):Nu:=fun x y H Q=>∃ i j,x=.int i/\y=.int j/\Q (.int (f i j)) H
theorem ZOl:M8 X .Add (Jy fun i j=>i+j):=by
 intro pins s σ H x y v u Q I r1 r2 h;obtain ⟨i,j,e1,e2,q⟩:=h;subst e1;subst e2;obtain ⟨t,rfl⟩:=r1;obtain ⟨t',rfl⟩:=r2;exact iadd_int ⟨.int _,H,I.tok _,⟨_,rfl⟩,q⟩
theorem AK:M8 X .Sub (Jy fun i j=>i - j):=by
 intro pins s σ H x y v u Q I r1 r2 h;obtain ⟨i,j,e1,e2,q⟩:=h;subst e1;subst e2;obtain ⟨t,rfl⟩:=r1;obtain ⟨t',rfl⟩:=r2;exact isub_int ⟨.int _,H,I.tok _,⟨_,rfl⟩,q⟩
def ZOX(c:TT)(tb:TS):TS:=fun D σ H=>∃ W:Nat->St->Hp->Prop,(∃ m,W m σ H)/\∀ m σ H,W m σ H ->
 c σ H fun b H1=>if b=true then ∃ N:St->Hp->Prop,(∀ σ' H',N σ' H'->∃ m',m'<m/\W m' σ' H')/\tb { D with nx:=N,ct:=N,bk:=D.nx } σ H1 else D.nx σ H1
theorem Qr{c:Expr}{body:List aE}{tc:TT}{tb:TS}(hp:PassesOwn (aC X.prog X.w) X.A X.env X.xe)(hc:PT X c tc)(hb:Xn X body tb):PS X (.While c body [] pos) (ZOX tc tb):=by
 intro pins s σ H D I h;obtain ⟨W,⟨m0,w0⟩,turn⟩:=h;refine wpAny_While (codeAny_whileLoop (fun n s'=>∃ σ' H',ZH X pins σ' H' s'/\W n σ' H') ?_ m0 ⟨σ,H,I,w0⟩);rintro n s1 ⟨σ1,H1,I1,w1⟩;refine wpAny_passesOwn hp (Zc (hc pins s1 σ1 H1 _ I1 (turn n σ1 H1 w1)) fun b s2 ⟨H2,I2,q2⟩=>?_)
 cases b with
 | true=>
  obtain ⟨N,hN,q2⟩:=q2;rw [aP rfl];refine wpAny_passesOwn hp (Zc (hb pins s2 σ1 H2 _ I2 q2) fun f s3 q3=>?_)
  cases f with
  | next=>
   obtain ⟨σ3,H3,I3,n3⟩:=q3;obtain ⟨m',hm,w3⟩:=hN σ3 H3 n3;exact ⟨m',hm,σ3,H3,I3,w3⟩
  | cont=>
   obtain ⟨σ3,H3,I3,n3⟩:=q3;obtain ⟨m',hm,w3⟩:=hN σ3 H3 n3;exact ⟨m',hm,σ3,H3,I3,w3⟩
  | brk=>exact q3
  | ret v=>exact q3
 | false=>
  rw [aO zW];exact wpAny_execs_nil ⟨σ1,H2,I2,q2⟩
end
structure It where
 go:Nat->Hp->Prop
 yld:Nat->Hp->V->Hp->Prop
 stop:Nat->Hp->Prop
def Ws(X:Cx)(pins:List (aj×aJ))(H:Hp)(b:aj):Prop:=
 H b=none/\b≠X.env.locals/\b∉X.fs/\(b∈X.ex\/X.s₀.heap.objs.size<=b)/\(∀ x c,X.env.cells.lookup x=some c->c≠b)/\∀ p∈X.pn++pins,p.1≠b
theorem ZH.fpOk{X:Cx}{pins:List (aj×aJ)}{σ:St}{H H':Hp}{s:am}{b:aj}(I:ZH X pins σ H s)(hb:s.heap.objs.size<=b)(hn:H' b=none):Ws X pins H' b:=by
 refine ⟨hn,uP (yN I.lt hb),I.nofs hb,.inr (yK I.sz hb),fun x c e z=>?_,fun p hp z=>?_⟩
 ·obtain ⟨v,q⟩:=I.cell x c e;exact absurd (yN q.lt (by rw [z];exact hb)) (wT _)
 ·exact absurd (yN (zS (I.pin p hp).1) (by rw [z];exact hb)) (wT _)
structure UK(P:ao)(w:ay)(K:zZ)(tg:Expr)(J:It)(fp:List aj)(it:aj)(tn:Nat->aF->Prop):Prop where
 mem:it∈fp
 obj:∀ i h,tn i h->∀ b∈fp,∃ o,h.get? b=some o/\∀ v,o.data≠.cell v
 keep:∀ i h h',tn i h->(∀ b∈fp,∀ o,h.get? b=some o->h'.get? b=some o)->tn i h'
 item:∀(X:Cx),X.prog=P->X.w=w->X.K=K->X.calm=true->∀(i:Nat)(pins:List (aj×aJ))(s:am)(σ:St)(H:Hp)(E:jb),ZH X pins σ H s->(∀ b∈fp,Ws X pins H b)->tn i s.heap->J.go i H ->
  aD (aC P w) X.A (pyNext (.ref it)) (fun r s1=>∃ u,r=some u /\
   aD (aC P w) X.A (letOwnedTupleGo tg (.ref it) u) (fun _ s2=>∃ x H',ZH X pins σ H' s2/\ZT x u/\J.yld i H x H'/\tn (i+1) s2.heap/\∀ b∈fp,H' b=none) E s1) E s
 done:∀(X:Cx),X.prog=P->X.w=w->X.K=K->X.calm=true->∀(i:Nat)(pins:List (aj×aJ))(s:am)(σ:St)(H:Hp)(E:jb),ZH X pins σ H s->(∀ b∈fp,Ws X pins H b)->tn i s.heap->J.stop i H ->
  aD (aC P w) X.A (pyNext (.ref it)) (fun r s1=>r=none/\ZH X pins σ H s1) E s
 self:∀(A:az)(i:Nat)(s:am)(Q:jb)(E:jb),tn i s.heap->Q (.ref it) s->aD (aC P w) A (pyIter (.ref it)) Q E s
abbrev TI:=St->Hp->(It->Hp->Prop)->Prop
def Gy(X:Cx)(pins:List (aj×aJ))(σ:St)(tg:Expr)(R:It->Hp->Prop)(itv:ai)(s2:am):Prop:=
 ∃(it:aj)(fp:List aj)(tn:Nat->aF->Prop)(J:It)(H':Hp),itv=.ref it/\ZH X pins σ H' s2/\UK X.prog X.w X.K tg J fp it tn/\tn 0 s2.heap/\(∀ b∈fp,Ws X pins H' b)/\R J H'
def PI(X:Cx)(tg iter:Expr)(wi:TI):Prop:=
 ∀(pins:List (aj×aJ))(s:am)(σ:St)(H:Hp)(R:It->Hp->Prop),ZH X pins σ H s->wi σ H R ->
  aD (aC X.prog X.w) X.A (aI iter X.env) (fun v s1=>aD (aC X.prog X.w) X.A (pyIter v) (Gy X pins σ tg R) X.xe s1) X.xe s
theorem Op{M:Model}{A:az}{E:jb}{s:am}{tg:Expr}{it:aj}{u:ai}{o:aJ}{n:String}{vs:Array ai}{Q:Unit->am->Prop}(ho:s.heap.get? it=some o)(hc:o.cls=.type n)(hd:o.data=.fields vs)(hn:["enumerate","zip","dict_itemiterator","dict_reverseitemiterator","odict_iterator","itertools.zip_longest","itertools.pairwise"].contains n=false)(hQ:Q () s):aD M A (letOwnedTupleGo tg (.ref it) u) Q E s:=by
 unfold letOwnedTupleGo;cases tg <;> first
  | exact ad hQ
  | (cases u <;> first
    | exact ad hQ
    | (refine aa (wpAny_load ho ?_);rw [hc,hd];show aD M A (if (["enumerate","zip","dict_itemiterator","dict_reverseitemiterator","odict_iterator","itertools.zip_longest","itertools.pairwise"].contains n&&vs[0]? == some (rawInt _))=true then _ else _) Q E s;rw [aO (by intro h;rw [hn,wS] at h;cases h)];exact ad hQ))
def OY(K:zZ)(a:aj):It:=
 ⟨fun i H=>∃ xs x,ZL K H a xs/\xs[i]? = some x,fun i H x H'=>H'=H/\∀ xs,ZL K H a xs->xs[i]? = some x,fun i H=>∃ xs,ZL K H a xs/\xs.length<=i⟩
def HY(K:zZ)(a:aj):It:=
 ⟨fun i H=>∃ xs x,Zo K H a xs/\xs[i]? = some x,fun i H x H'=>H'=H/\∀ xs,Zo K H a xs->xs[i]? = some x,fun i H=>∃ xs,Zo K H a xs/\xs.length<=i⟩
def PR(lo:Int)(n:Nat):It:=⟨fun i _=>i<n,fun i H x H'=>H'=H/\x=.int (lo+i),fun i _=>n<=i⟩
theorem Ei{P:ao}{w:ay}{K:zZ}{tg:Expr}(a it:aj):UK P w K tg (OY K a) [it] it (fun i h=>h.IsListIter it a i) where
 mem:=by simp
 obj:=fun i h st b hb=>by
  have e:b=it:=by simpa using hb
  subst e;obtain ⟨o,e,c,d⟩:=st;exact ⟨o,e,fun v z=>by rw [d] at z;cases z⟩
 keep:=fun i h h' st k=>st.at fun o e=>k it (by simp) o e
 item:=by
  intro X hP hw hK hc i pins s σ H E I hf st hg;subst hP hw hK;obtain ⟨xs,x,hq,hx⟩:=hg;obtain ⟨jj,rv,p,hz⟩:=I.list hq;obtain ⟨u,hu,ru⟩:=rv.get hx;obtain ⟨f0,f1,f2,f3,f4,f5⟩:=hf it (by simp)
  refine wpAny_pyNext_list_item st p.isList (x:=u) (by simpa using hu) fun h' st' sb=>?_
  have I1:ZH X pins σ H { s with heap:=h' }:=I.turned (t':=s.toks) (fun b o hb e=>(sb.2 b hb).trans e) f0 f1 f3 f4 f5;obtain ⟨o,e,c,d⟩:=id st';exact ⟨u,rfl,Op (s:={ s with heap:=h' }) e c d (by decide) ⟨x,H,I1,ru,⟨rfl,fun ys hy=>by rw [I.list_inj hy hq];exact hx⟩,st',fun b hb=>(hf b hb).1⟩⟩
 done:=by
  intro X hP hw hK hc i pins s σ H E I hf st hg;subst hP hw hK;obtain ⟨xs,hq,hx⟩:=hg;obtain ⟨jj,rv,p,hz⟩:=I.list hq;obtain ⟨f0,f1,f2,f3,f4,f5⟩:=hf it (by simp)
  have hl:=rv.length;exact wpAny_pyNext_list_end (I.ok.hd hc) st p.isList (by simp;lia) fun h' eb=>⟨rfl,I.turned (t':=s.toks) (fun b o hb e=>eb b o hb e) f0 f1 f3 f4 f5⟩
 self:=fun _ _ _ _ _ st h=>wpAny_pyIter_listiter st h
theorem Cu{P:ao}{w:ay}{K:zZ}{tg:Expr}(a it:aj):UK P w K tg (HY K a) [it] it (fun i h=>h.IsTupleIter it a i) where
 mem:=by simp
 obj:=fun i h st b hb=>by
  have e:b=it:=by simpa using hb
  subst e;obtain ⟨o,e,c,d⟩:=st;exact ⟨o,e,fun v z=>by rw [d] at z;cases z⟩
 keep:=fun i h h' st k=>st.at fun o e=>k it (by simp) o e
 item:=by
  intro X hP hw hK hc i pins s σ H E I hf st hg;subst hP hw hK;obtain ⟨xs,x,hq,hx⟩:=hg;obtain ⟨jj,rv,p,hz⟩:=I.tuple hq;obtain ⟨u,hu,ru⟩:=rv.get hx;obtain ⟨f0,f1,f2,f3,f4,f5⟩:=hf it (by simp)
  refine wpAny_pyNext_tuple_item st (show s.heap.IsTuple a jj.toArray from p) (x:=u) (by simpa using hu) fun h' st' sb=>?_
  have I1:ZH X pins σ H { s with heap:=h' }:=I.turned (t':=s.toks) (fun b o hb e=>(sb.2 b hb).trans e) f0 f1 f3 f4 f5;obtain ⟨o,e,c,d⟩:=id st';exact ⟨u,rfl,Op (s:={ s with heap:=h' }) e c d (by decide) ⟨x,H,I1,ru,⟨rfl,fun ys hy=>by rw [I.tuple_inj hy hq];exact hx⟩,st',fun b hb=>(hf b hb).1⟩⟩
 done:=by
  intro X hP hw hK hc i pins s σ H E I hf st hg;subst hP hw hK;obtain ⟨xs,hq,hx⟩:=hg;obtain ⟨jj,rv,p,hz⟩:=I.tuple hq;obtain ⟨f0,f1,f2,f3,f4,f5⟩:=hf it (by simp)
  have hl:=rv.length;exact wpAny_pyNext_tuple_end (I.ok.hd hc) st (show s.heap.IsTuple a jj.toArray from p) (by simp;lia) fun h' eb=>⟨rfl,I.turned (t':=s.toks) (fun b o hb e=>eb b o hb e) f0 f1 f3 f4 f5⟩
 self:=fun _ _ _ _ _ st h=>wpAny_pyIter_tupleiter st h
theorem A7{P:ao}{w:ay}{K:zZ}{tg:Expr}(it:aj)(lo:Int)(n:Nat):UK P w K tg (PR lo n) [it] it (fun i h=>IsRangeIter h it (lo+(i:Nat) * 1) ((n:Int) - (i:Nat)) 1) where
 mem:=by simp
 obj:=fun i h st b hb=>by
  have e:b=it:=by simpa using hb
  subst e;exact ⟨_,st,fun v z=>by
   have z':Data.fields _=Data.cell v:=z;cases z'⟩
 keep:=fun i h h' st k=>k it (by simp) _ st
 item:=by
  intro X hP hw hK hc i pins s σ H E I hf st hg;subst hP hw hK;obtain ⟨f0,f1,f2,f3,f4,f5⟩:=hf it (by simp)
  have W:=Walks.range (prog:=X.prog) (w:=X.w) (I.ok.hd hc) it lo 1 n;refine W.item i s _ _ hg st fun v h' tk hv st' kk=>?_;obtain ⟨t,rfl⟩:=hv;have I1:ZH X pins σ H { s with heap:=h',toks:=tk }:=I.turned (fun b o hb e=>kk b o (by simpa using hb) e) f0 f1 f3 f4 f5
  refine ⟨_,rfl,Op (s:={ s with heap:=h',toks:=tk }) (n:= "range_iterator") st' rfl rfl (by decide) ⟨.int (lo+i),H,I1,⟨t,?_⟩,⟨rfl,rfl⟩,st',fun b hb=>(hf b hb).1⟩⟩
  rw [Int.mul_one]
 done:=by
  intro X hP hw hK hc i pins s σ H E I hf st hg;subst hP hw hK;obtain ⟨f0,f1,f2,f3,f4,f5⟩:=hf it (by simp)
  exact wpAny_pyNext_range_end (I.ok.hd hc) st (by have:n<=i:=hg;lia) fun h' eb=>⟨rfl,I.turned (t':=s.toks) (fun b o hb e=>eb b o hb e) f0 f1 f3 f4 f5⟩
 self:=fun _ _ _ _ _ st h=>wpAny_pyIter_rangeiter st h
section
variable{X:Cx}{tg:Expr}
def ZPQ(K:zZ)(tl:TE):TI:=fun σ H R=>tl σ H fun x H1=>∃ a,x=.ref a/\(∃ xs,ZL K H1 a xs)/\R (OY K a) H1
def Cy(K:zZ)(tl:TE):TI:=fun σ H R=>tl σ H fun x H1=>∃ a,x=.ref a/\(∃ xs,Zo K H1 a xs)/\R (HY K a) H1
theorem VE{l:Expr}{tl:TE}(hl:PE X l tl):PI X tg l (ZPQ X.K tl):=by
 intro pins s σ H R I h;refine Zc (hl pins s σ H _ I h) fun v s1 ⟨x,H1,I1,r1,q1⟩=>?_;obtain ⟨a,e,⟨xs,hq⟩,q⟩:=q1;subst e;cases r1;obtain ⟨jj,rv,p,hz⟩:=I1.list hq;refine wpAny_pyIter_list p.isList ?_;refine ⟨s1.heap.objs.size,[s1.heap.objs.size],_,_,H1,rfl,I1.kept (t':=s1.toks) fun b o e=>zR _ e,Ei a _,⟨_,yS _ rfl,rfl,rfl⟩,fun b hb=>?_,q⟩;have e:b=s1.heap.objs.size:=by simpa using hb
 subst e;exact I1.fpOk (zY _) (I1.hok.fresh (zY _))
theorem Mj{l:Expr}{tl:TE}(hl:PE X l tl):PI X tg l (Cy X.K tl):=by
 intro pins s σ H R I h;refine Zc (hl pins s σ H _ I h) fun v s1 ⟨x,H1,I1,r1,q1⟩=>?_;obtain ⟨a,e,⟨xs,hq⟩,q⟩:=q1;subst e;cases r1;obtain ⟨jj,rv,p,hz⟩:=I1.tuple hq;refine wpAny_pyIter_tuple (show s1.heap.IsTuple a jj.toArray from p) ?_;refine ⟨s1.heap.objs.size,[s1.heap.objs.size],_,_,H1,rfl,I1.kept (t':=s1.toks) fun b o e=>zR _ e,Cu a _,⟨_,yS _ rfl,rfl,rfl⟩,fun b hb=>?_,q⟩;have e:b=s1.heap.objs.size:=by simpa using hb
 subst e;exact I1.fpOk (zY _) (I1.hok.fresh (zY _))
theorem K1{pins:List (aj×aJ)}{σ:St}{H:Hp}{s:am}{R:It->Hp->Prop}{E:jb}{lo hi:Int}{t u v:Tok}{tk:Nat}(I:ZH X pins σ H s)(h1 : -(2 ^ 62)<=lo)(h2:lo<2 ^ 62)(h3 : -(2 ^ 62)<=hi)(h4:hi<2 ^ 62)(q:R (PR lo (hi - lo).toNat) H):aD (aC X.prog X.w) X.A (pyIter (.ref s.heap.objs.size)) (Gy X pins σ tg R) E { s with heap:=s.heap.push { cls:=.type "range",data:=.fields #[.int lo t,.int hi u,.int 1 v] },toks:=tk }:=by
 refine wpAny_pyIter_range (IsRange.new ..) (small_one h1 h2 h3 h4) ?_;have I1:ZH X pins σ H { s with heap:=s.heap.push { cls:=.type "range",data:=.fields #[.int lo t,.int hi u,.int 1 v] },toks:=tk }:=I.kept fun b o e=>zR _ e;refine ⟨(s.heap.push { cls:=.type "range",data:=.fields #[.int lo t,.int hi u,.int 1 v] }).objs.size,[(s.heap.push { cls:=.type "range",data:=.fields #[.int lo t,.int hi u,.int 1 v] }).objs.size],_,_,H,rfl,
  I1.kept (t':=tk) fun b o e=>zR _ e,A7 _ lo (hi - lo).toNat,?_,fun b hb=>?_,q⟩
 ·have e1:lo+((0:Nat):Int) * 1=lo:=by simp
  have e2:(((hi - lo).toNat:Nat):Int) - ((0:Nat):Int)=Builtin.Range.rangeSize lo hi 1:=by rw [rangeSize_one];split <;> lia
  show IsRangeIter _ _ (lo+((0:Nat):Int) * 1) ((((hi - lo).toNat:Nat):Int) - ((0:Nat):Int)) 1;rw [e1,e2];exact yS _ rfl
 ·have e:b=(s.heap.push { cls:=.type "range",data:=.fields #[.int lo t,.int hi u,.int 1 v] }).objs.size:=by simpa using hb
  subst e;exact I1.fpOk (zY _) (I1.hok.fresh (zY _))
def Ed(ta:TA):TI:=fun σ H R=>ta σ H fun vs H1=>∃ j:Int,vs=[.int j] /\ -(2 ^ 62)<=j/\j<2 ^ 62/\R (PR 0 j.toNat) H1
def Fz(ta:TA):TI:=fun σ H R=>ta σ H fun vs H1=>∃ i j:Int,vs=[.int i,.int j]/\(-(2 ^ 62)<=i/\i<2 ^ 62 /\ -(2 ^ 62)<=j/\j<2 ^ 62)/\R (PR i (j - i).toNat) H1
theorem Qw{a:Expr}{ta:TA}{p pos:Pos}(hg:Gl X "range")(hm:X.mg "range" = none)(ha:PA X [a] ta)(hs:ax [a] X.env=[(false,aI a X.env)]:=by rfl):PI X tg (.Call (.Name "range" p) [a] [] pos) (Ed ta):=by
 intro pins s σ H R I h;refine Call_ (PN I hg hm boot_range (PyProof.Rows.callWith_type1 (Zc (ha pos pins s σ H _ I h) fun us s1 ⟨vs,H1,I1,r1,q1⟩=>?_) hs rfl));obtain ⟨j,e,q1,q2,q⟩:=q1;subst e
 cases r1 with
 | cons r rr=>
  cases rr;obtain ⟨t,rfl⟩:=r;exact call_range_1 (K1 I1 (by lia) (by lia) q1 q2 (by simpa using q))
theorem MR{a b:Expr}{ta:TA}{p pos:Pos}(hg:Gl X "range")(hm:X.mg "range" = none)(ha:PA X [a,b] ta)(hs:ax [a,b] X.env=[(false,aI a X.env),(false,aI b X.env)]:=by rfl)(hs2:ax [b] X.env=[(false,aI b X.env)]:=by rfl):
  PI X tg (.Call (.Name "range" p) [a,b] [] pos) (Fz ta):=by
 intro pins s σ H R I h;refine Call_ (PN I hg hm boot_range (PyProof.Rows.callWith_type1 (Zc (ha pos pins s σ H _ I h) fun us s1 ⟨vs,H1,I1,r1,q1⟩=>?_) (by rw [hs,hs2]) (by rw [hs2];rfl)))
 obtain ⟨i,j,e,⟨q1,q2,q3,q4⟩,q⟩:=q1;subst e
 cases r1 with
 | cons r rr=>
  cases rr with
  | cons r' rr=>
   cases rr;obtain ⟨t,rfl⟩:=r;obtain ⟨t',rfl⟩:=r';exact call_range_2 (K1 I1 q1 q2 q3 q4 q)
def AY(wi:TI)(g:TG)(tb:TS):TS:=fun D σ H=>wi σ H fun J H1=>∃ W:Nat->Nat->St->Hp->Prop,(∃ m,W 0 m σ H1)/\∀ i m σ H,W i m σ H ->
 (J.stop i H/\D.nx σ H)\/(J.go i H/\∃ N:St->Hp->Prop,(∀ σ' H',N σ' H'->∃ m',m'<m/\W (i+1) m' σ' H')/\∀ x H',J.yld i H x H'->g x σ H' fun σ2 H2=>tb { D with nx:=N,ct:=N,bk:=D.nx } σ2 H2)
def OO(fp:List aj)(h:aF):List (aj×aJ):=fp.filterMap fun b=>(h.get? b).map fun o=>(b,o)
theorem Oz{fp:List aj}{h:aF}{b:aj}{o:aJ}(hb:b∈fp)(e:h.get? b=some o):(b,o)∈OO fp h:=uE.mpr ⟨b,hb,by rw [e];rfl⟩
theorem ZJi{fp:List aj}{h:aF}{p:aj×aJ}(hp:p∈OO fp h):p.1∈fp/\h.get? p.1=some p.2:=by
 obtain ⟨b,hb,e⟩:=uE.mp hp
 cases q:h.get? b with
 | none=>rw [q] at e;cases e
 | some o=>
  rw [q] at e;have e':(b,o)=p:=zD.inj e;subst e';exact ⟨hb,q⟩
theorem ZH.pinned{pins:List (aj×aJ)}{σ:St}{H:Hp}{s:am}{fp:List aj}(I:ZH X pins σ H s)(hf:∀ b∈fp,Ws X pins H b)(ho:∀ b∈fp,∃ o,s.heap.get? b=some o/\∀ v,o.data≠.cell v):ZH X (pins++OO fp s.heap) σ H s:=
 I.pins_of fun p hp=>(yT.mp hp).elim (fun z=>I.pin p (yI _ z)) fun z=>by
  obtain ⟨hb,e⟩:=ZJi z;obtain ⟨f0,f1,f2,_⟩:=hf p.1 hb;obtain ⟨o,e',d⟩:=ho p.1 hb;rw [e] at e';cases e';exact ⟨e,f0,f1,f2,d⟩
theorem ZH.unpinned{pins pl:List (aj×aJ)}{σ:St}{H:Hp}{s:am}(I:ZH X (pins++pl) σ H s):ZH X pins σ H s:=I.pins_of fun p hp=>I.pin p (yI _ (xG _ hp))
theorem Vf{iter:Expr}{body:List aE}{wi:TI}{g:TG}{tb:TS}{pos:Pos}(hp:PassesOwn (aC X.prog X.w) X.A X.env X.xe)(hc:X.calm=true)(hi:PI X tg iter wi)(hg:PG X tg g)(hb:Xn X body tb)(hs:∀ x,foldedSetIterable iter X.env x=pure x:=by intro _;rfl):PS X (.For tg iter body [] pos) (AY wi g tb):=by
 intro pins s σ H D I h;refine wpAny_For (Zc (hi pins s σ H _ I h) fun v s1 h1=>Zc h1 fun itv s2 h2=>?_) hs;obtain ⟨it,fp,tn,J,H2,e,I2,T,st2,f2,W,⟨m0,w0⟩,turn⟩:=h2;subst e;have stat:∀{H':Hp},(∀ b∈fp,H' b=none)->∀ b∈fp,Ws X pins H' b:=fun hn b hb=>⟨hn b hb,(f2 b hb).2⟩;refine codeAny_forLoop_any (fun n s'=>∃ i σ' H',ZH X pins σ' H' s'/\tn i s'.heap/\(∀ b∈fp,H' b=none)/\W i n σ' H') ?_ m0 ⟨0,σ,H2,I2,st2,fun b hb=>(f2 b hb).1,w0⟩;rintro n s3 ⟨i,σ3,H3,I3,st3,fr3,w3⟩;rcases turn i n σ3 H3 w3 with ⟨stop,qn⟩ | ⟨go,N,hN,step⟩
 ·refine wpAny_passesOwn hp (Zc (T.done X rfl rfl rfl hc i pins s3 σ3 H3 X.xe I3 (stat fr3) st3 stop) fun r s4 ⟨hr,I4⟩=>?_);subst hr;exact wpAny_execs_nil ⟨σ3,H3,I4,qn⟩
 ·refine wpAny_passesOwn hp (Zc (T.item X rfl rfl rfl hc i pins s3 σ3 H3 X.xe I3 (stat fr3) st3 go) fun r s4 ⟨u,hr,h4⟩=>?_);subst hr;refine wpAny_passesOwn hp (Zc h4 fun _ s5 ⟨x,H5,I5,r5,y5,st5,fr5⟩=>?_);have I5':=I5.pinned (stat fr5) (T.obj _ _ st5);refine wpAny_passesOwn hp (Zc (hg _ s5 σ3 H5 x u _ I5' r5 (step x H5 y5)) fun _ s6 ⟨σ6,H6,I6,q6⟩=>?_);refine wpAny_passesOwn hp (Zc (hb _ s6 σ6 H6 _ I6 q6) fun f s7 q7=>?_);have again:∀{σ7:St}{H7:Hp},ZH X (pins++OO fp s5.heap) σ7 H7 s7->N σ7 H7->∃ m,m<n/\∃ i σ' H',ZH X pins σ' H' s7/\tn i s7.heap/\(∀ b∈fp,H' b=none)/\W i m σ' H':=fun{σ7 H7} I7 n7=>by
   obtain ⟨m',hm,w7⟩:=hN σ7 H7 n7;refine ⟨m',hm,i+1,σ7,H7,I7.unpinned,T.keep _ _ _ st5 fun b hb o e=>(I7.pin (b,o) (yI _ (yI _ (Oz hb e)))).1,fun b hb=>?_,w7⟩;obtain ⟨o,e,d⟩:=T.obj _ _ st5 b hb;exact (I7.pin (b,o) (yI _ (yI _ (Oz hb e)))).2.1
  cases f with
  | next=>obtain ⟨σ7,H7,I7,n7⟩:=q7;exact again I7 n7
  | cont=>obtain ⟨σ7,H7,I7,n7⟩:=q7;exact again I7 n7
  | brk=>obtain ⟨σ7,H7,I7,q7⟩:=q7;exact ⟨σ7,H7,I7.unpinned,q7⟩
  | ret v=>obtain ⟨x7,σ7,H7,I7,r7,q7⟩:=q7;exact ⟨x7,σ7,H7,I7.unpinned,r7,q7⟩
end
theorem Pb{K:zZ}{a:aj}{xs:jf}{g:TG}{tb:TS}{D:Yu}{σ:St}{H:Hp}(Pv:Nat->St->Hp->Prop)(h0:Pv 0 σ H)(hl:∀ i σ H,i<=xs.length->Pv i σ H->ZL K H a xs)(hs:∀ i x σ H,xs[i]? = some x->Pv i σ H->g x σ H fun σ2 H2=>tb { D with nx:=Pv (i+1),ct:=Pv (i+1),bk:=D.nx } σ2 H2)(hd:∀ σ H,Pv xs.length σ H->D.nx σ H):
  ∃ W:Nat->Nat->St->Hp->Prop,(∃ m,W 0 m σ H)/\∀ i m σ H,W i m σ H ->
   ((OY K a).stop i H/\D.nx σ H)\/((OY K a).go i H/\∃ N:St->Hp->Prop,(∀ σ' H',N σ' H'->∃ m',m'<m/\W (i+1) m' σ' H')/\∀ x H',(OY K a).yld i H x H'->g x σ H' fun σ2 H2=>tb { D with nx:=N,ct:=N,bk:=D.nx } σ2 H2):=by
 refine ⟨fun i m σ H=>m=xs.length - i/\i<=xs.length/\Pv i σ H,⟨xs.length,by simp,zG _,h0⟩,?_⟩
 rintro i m σ H ⟨rfl,hi,p⟩;have q:=hl i σ H hi p;by_cases hlt:i<xs.length
 ·refine .inr ⟨⟨xs,xs[i],q,by simp [hlt]⟩,Pv (i+1),fun σ' H' p'=>⟨xs.length - (i+1),by lia,rfl,hlt,p'⟩,fun x H' y=>?_⟩
  obtain ⟨e,y⟩:=y;subst e;exact hs i x σ _ (y xs q) p
 ·have e:i=xs.length:=by lia
  subst e;exact .inl ⟨⟨xs,q,zY _⟩,hd σ H p⟩
theorem Qu{lo:Int}{n:Nat}{g:TG}{tb:TS}{D:Yu}{σ:St}{H:Hp}(Pv:Nat->St->Hp->Prop)(h0:Pv 0 σ H)(hs:∀ i σ H,i<n->Pv i σ H->g (.int (lo+i)) σ H fun σ2 H2=>tb { D with nx:=Pv (i+1),ct:=Pv (i+1),bk:=D.nx } σ2 H2)(hd:∀ σ H,Pv n σ H->D.nx σ H):
  ∃ W:Nat->Nat->St->Hp->Prop,(∃ m,W 0 m σ H)/\∀ i m σ H,W i m σ H ->
   ((PR lo n).stop i H/\D.nx σ H)\/((PR lo n).go i H/\∃ N:St->Hp->Prop,(∀ σ' H',N σ' H'->∃ m',m'<m/\W (i+1) m' σ' H')/\∀ x H',(PR lo n).yld i H x H'->g x σ H' fun σ2 H2=>tb { D with nx:=N,ct:=N,bk:=D.nx } σ2 H2):=by
 refine ⟨fun i m σ H=>m=n - i/\i<=n/\Pv i σ H,⟨n,by simp,zG _,h0⟩,?_⟩
 rintro i m σ H ⟨rfl,hi,p⟩;by_cases hlt:i<n
 ·refine .inr ⟨hlt,Pv (i+1),fun σ' H' p'=>⟨n - (i+1),by lia,rfl,hlt,p'⟩,fun x H' y=>?_⟩
  obtain ⟨e,y⟩:=y;subst e y;exact hs i σ _ hlt p
 ·have e:i=n:=by lia
  subst e;exact .inl ⟨zY _,hd σ H p⟩
abbrev R2:=V->V->Hp->VK->Prop
def Yx(X:Cx)(f:ai->ai->Sem ai)(r:R2):Prop:=
 ∀(pins:List (aj×aJ))(s:am)(σ:St)(H:Hp)(x y:V)(v u:ai)(Q:VK),ZH X pins σ H s->ZT x v->ZT y u->r x y H Q ->
  aD (aC X.prog X.w) X.A (f v u) (EP X pins σ Q) X.xe s
def Kq(X:Cx)(f:ai->Sem ai)(r:V->Hp->VK->Prop):Prop:=
 ∀(pins:List (aj×aJ))(s:am)(σ:St)(H:Hp)(x:V)(v:ai)(Q:VK),ZH X pins σ H s->ZT x v->r x H Q ->
  aD (aC X.prog X.w) X.A (f v) (EP X pins σ Q) X.xe s
def VW(X:Cx)(f:ai)(r:jf->Hp->VK->Prop):Prop:=
 ∀(pins:List (aj×aJ))(s:am)(σ:St)(H:Hp)(xs:jf)(us:je)(Q:VK),ZH X pins σ H s->ZO xs us->r xs H Q ->
  aD (aC X.prog X.w) X.A (call f us) (EP X pins σ Q) X.xe s
def Pr(r:R2)(ta tb:TE):TE:=fun σ H Q=>ta σ H fun x H1=>tb σ H1 fun y H2=>r x y H2 Q
def Fm(r:V->Hp->VK->Prop)(ta:TE):TE:=fun σ H Q=>ta σ H fun x H1=>r x H1 Q
def rI(C:Int->Int->Prop)(g:Int->Int->V):R2:=fun x y H Q=>∃ i j,x=.int i/\y=.int j/\C i j/\Q (g i j) H
def Qo(g:Int->Int->V):R2:=fun x y H Q=>∃ i j,x=.int i/\y=.int j/\Q (g i j) H
def rU(g:Int->V):V->Hp->VK->Prop:=fun x H Q=>∃ i,x=.int i/\Q (g i) H
section
variable{X:Cx}{a b c:Expr}{ta tb tc:TE}{pos:Pos}
theorem MH(ha:PE X a ta)(hb:PE X b tb){pins:List (aj×aJ)}{s:am}{σ:St}{H:Hp}{R:V->V->Hp->Prop}(I:ZH X pins σ H s)(h:ta σ H fun x H1=>tb σ H1 fun y H2=>R x y H2){Q:jb}{f:ai->ai->Sem ai}(hf:∀ v u s2 x y H2,ZH X pins σ H2 s2->ZT x v->ZT y u->R x y H2->aD (aC X.prog X.w) X.A (f v u) Q X.xe s2):
  aD (aC X.prog X.w) X.A (aI a X.env) (fun v s₁=>aD (aC X.prog X.w) X.A (aI b X.env) (fun u s₂=>aD (aC X.prog X.w) X.A (f v u) Q X.xe s₂) X.xe s₁) X.xe s:=by
 refine Zc (ha pins s σ H _ I h) fun v s1 ⟨x,H1,I1,r1,q1⟩=>?_;refine Zc (hb pins s1 σ H1 _ I1 q1) fun u s2 ⟨y,H2,I2,r2,q2⟩=>?_;exact hf v u s2 x y H2 I2 r1 r2 q2
theorem Zw{op:Operator}{r:R2}(ho:Yx X (binaryOp op) r)(ha:PE X a ta)(hb:PE X b tb):PE X (.BinOp a op b pos) (Pr r ta tb):=by
 intro pins s σ H Q I h;exact wpAny_BinOp (MH ha hb I h fun v u s2 x y H2 I2 rx ry q=>ho pins s2 σ H2 x y v u Q I2 rx ry q)
theorem Py{op:UnaryOp}{r:V->Hp->VK->Prop}(ho:Kq X (unaryOp op) r)(ha:PE X a ta):PE X (.UnaryOp op a pos) (Fm r ta):=by
 intro pins s σ H Q I h;exact UnaryOp_ (Zc (ha pins s σ H _ I h) fun v s1 ⟨x,H1,I1,r1,q1⟩=>ho pins s1 σ H1 x v Q I1 r1 q1)
theorem OQ{f:ai->ai->Sem ai}{C:Int->Int->Prop}{g:Int->Int->Int}(rule:∀ (i j:Int) (t u:Tok) (s:am) (Q:jb) (E:jb),C i j->Q (.int (g i j) s.toks) { s with toks:=s.toks+1 }->aD (aC X.prog X.w) X.A (f (.int i t) (.int j u)) Q E s):
  Yx X f (rI C fun i j=>.int (g i j)):=by
 intro pins s σ H x y v u Q I rx ry h;obtain ⟨i,j,rfl,rfl,hc,q⟩:=h;obtain ⟨t,rfl⟩:=rx;obtain ⟨t',rfl⟩:=ry;exact rule i j t t' s _ _ hc ⟨.int (g i j),H,I.tok _,⟨_,rfl⟩,q⟩
theorem Js{f:ai->ai->Sem ai}{g:Int->Int->Int}(rule:∀ (i j:Int) (t u:Tok) (s:am) (Q:jb) (E:jb),Q (.int (g i j) s.toks) { s with toks:=s.toks+1 }->aD (aC X.prog X.w) X.A (f (.int i t) (.int j u)) Q E s):
  Yx X f (Qo fun i j=>.int (g i j)):=by
 intro pins s σ H x y v u Q I rx ry h;obtain ⟨i,j,rfl,rfl,q⟩:=h;obtain ⟨t,rfl⟩:=rx;obtain ⟨t',rfl⟩:=ry;exact rule i j t t' s _ _ ⟨.int (g i j),H,I.tok _,⟨_,rfl⟩,q⟩
theorem Nw{f:ai->ai->Sem ai}{g:Int->Int->Bool}(rule:∀ (i j:Int) (t u:Tok) (s:am) (Q:jb) (E:jb),Q (.bool (g i j)) s->aD (aC X.prog X.w) X.A (f (.int i t) (.int j u)) Q E s):
  Yx X f (Qo fun i j=>.bl (g i j)):=by
 intro pins s σ H x y v u Q I rx ry h;obtain ⟨i,j,rfl,rfl,q⟩:=h;obtain ⟨t,rfl⟩:=rx;obtain ⟨t',rfl⟩:=ry;exact rule i j t t' s _ _ ⟨.bl (g i j),H,I,rfl,q⟩
def Bg(i j:Int):Prop:=0<j/\j<1073741824
def Ag(i j:Int):Prop:=0<=j/\j<=1000000/\i.natAbs<2 ^ 64
def Qb(i j:Int):Prop:=(-(2 ^ 64)<i/\i<2 ^ 64)\/(-(2 ^ 64)<j/\j<2 ^ 64)
theorem Qb.ok{i j:Int}(h:Qb i j):IntMulOk i j:=by
 rcases h with ⟨h1,h2⟩ | ⟨h1,h2⟩
 ·exact .of_left (intBits_le_64 h1 h2)
 ·exact .of_right (intBits_le_64 h1 h2)
theorem WP:Yx X (binaryOp .Add) (Qo fun i j=>.int (i+j)):=Js fun _ _ _ _ _ _ _ q=>add_int q
theorem Vp:Yx X (binaryOp .Sub) (Qo fun i j=>.int (i - j)):=Js fun _ _ _ _ _ _ _ q=>sub_int q
theorem Ph:Yx X (binaryOp .Mult) (rI Qb fun i j=>.int (i * j)):=OQ fun _ _ _ _ _ _ _ hc q=>mul_int q hc.ok
theorem NV:Yx X (binaryOp .FloorDiv) (rI Bg fun i j=>.int (i / j)):=OQ fun i j _ _ _ _ _ hc q=>by
 have h1:(0:Int)<j:=hc.1;have h2:j<1073741824:=hc.2;exact floordiv_int (by lia) (by rw [qZ i (by lia)];exact q) (.inl (PyProof.noPylong_small (by lia)))
theorem Qk:Yx X (binaryOp .Mod) (rI (fun _ j=>0<j) fun i j=>.int (i % j)):=OQ fun i j _ _ _ _ _ hc q=>by
 have h1:(0:Int)<j:=hc;exact mod_int' (by lia) (by rw [Int.fmod_eq_emod_of_nonneg i (by lia)];exact q)
theorem OI:Yx X (binaryOp .Pow) (rI Ag fun i j=>.int (i ^ j.toNat)):=OQ fun _ _ _ _ _ _ _ hc q=>pow_int_small hc.1 hc.2.1 hc.2.2 q
theorem As{f:ai->Sem ai}{g:Int->Int}(rule:∀ (i:Int) (t:Tok) (s:am) (Q:jb) (E:jb),Q (.int (g i) s.toks) { s with toks:=s.toks+1 }->aD (aC X.prog X.w) X.A (f (.int i t)) Q E s):
  Kq X f (rU fun i=>.int (g i)):=by
 intro pins s σ H x v Q I rx h;obtain ⟨i,rfl,q⟩:=h;obtain ⟨t,rfl⟩:=rx;exact rule i t s _ _ ⟨.int (g i),H,I.tok _,⟨_,rfl⟩,q⟩
theorem P8:Kq X (unaryOp .USub) (rU fun i=>.int (-i)):=As fun _ _ _ _ _ q=>neg_int q
end
def J4:V->V->Bool
 | .non,.non=>true | .non,.int _=>true | .int _,.non=>true | .non,.bl _=>true | .bl _,.non=>true | .non,.str _=>true | .str _,.non=>true
 | .int _,.int _=>true | .bl _,.bl _=>true | .str _,.str _=>true | .byt _,.byt _=>true
 | .int _,.str _=>true | .str _,.int _=>true | .bl _,.str _=>true | .str _,.bl _=>true
 | _,_=>false
def rEq:R2:=fun x y H Q=>J4 x y=true/\Q (.bl (decide (x=y))) H
def Be:R2:=fun x y H Q=>J4 x y=true/\Q (.bl (!decide (x=y))) H
theorem JZ{i j:Int}:decide (V.int i=V.int j)=(i==j):=by
 rw [wA];simp
theorem Hk{i j:Bool}:decide (V.bl i=V.bl j)=(i==j):=by
 rw [wA];simp
theorem FD{i j:Str}:decide (V.str i=V.str j)=(i==j):=by
 rw [wA];simp
theorem HQ{i j:Array UInt8}:decide (V.byt i=V.byt j)=(i.toList==j.toList):=by
 rw [wA];cases i;cases j;simp
section
variable{X:Cx}{a b c:Expr}{ta tb tc:TE}{pos:Pos}
theorem Yw{pins:List (aj×aJ)}{σ:St}{H:Hp}{s:am}{Q:VK}{k k':Bool}(I:ZH X pins σ H s)(q:Q (.bl k) H)(e:k=k'):EP X pins σ Q (.bool k') s:=by
 subst e;exact ⟨.bl k,H,I,rfl,q⟩
theorem VM:Yx X (aB .Eq) rEq:=by
 intro pins s σ H x y v u Q I rx ry h;obtain ⟨hs,q⟩:=h
 cases x with
 | non=>
  cases rx
  cases y with
  | non=>cases ry;exact PySem.EqNone.eq_none_none (Yw I q (by simp))
  | bl j=>cases ry;exact PySem.EqNone.eq_none_bool (Yw I q (by simp))
  | int j=>obtain ⟨t',rfl⟩:=ry;exact PySem.EqNone.eq_none_int (Yw I q (by simp))
  | str j=>obtain ⟨t',rfl⟩:=ry;exact PySem.EqNone.eq_none_str (Yw I q (by simp))
  | _=>exact absurd (show false=true from hs) zW
 | bl i=>
  cases rx
  cases y with
  | non=>cases ry;exact PySem.EqNone.eq_bool_none (Yw I q (by simp))
  | bl j=>cases ry;exact eq_bool (Yw I q Hk)
  | str j=>obtain ⟨t',rfl⟩:=ry;exact PySem.EqMixed.eq_bool_str (Yw I q (by simp))
  | _=>exact absurd (show false=true from hs) zW
 | int i=>
  obtain ⟨t,rfl⟩:=rx
  cases y with
  | non=>cases ry;exact PySem.EqNone.eq_int_none (Yw I q (by simp))
  | int j=>obtain ⟨t',rfl⟩:=ry;exact eq_int (Yw I q JZ)
  | str j=>obtain ⟨t',rfl⟩:=ry;exact PySem.EqMixed.eq_int_str (Yw I q (by simp))
  | _=>exact absurd (show false=true from hs) zW
 | str i=>
  obtain ⟨t,rfl⟩:=rx
  cases y with
  | non=>cases ry;exact PySem.EqNone.eq_str_none (Yw I q (by simp))
  | bl j=>cases ry;exact PySem.EqMixed.eq_str_bool (Yw I q (by simp))
  | int j=>obtain ⟨t',rfl⟩:=ry;exact PySem.EqMixed.eq_str_int (Yw I q (by simp))
  | str j=>obtain ⟨t',rfl⟩:=ry;exact eq_str (Yw I q FD)
  | _=>exact absurd (show false=true from hs) zW
 | byt i=>
  obtain ⟨t,rfl⟩:=rx
  cases y with
  | byt j=>obtain ⟨t',rfl⟩:=ry;exact PySem.W.eq_bytes (Yw I q HQ)
  | _=>exact absurd (show false=true from hs) zW
 | _=>cases y <;> exact absurd (show false=true from hs) zW
theorem EF:Yx X (aB .NotEq) Be:=by
 intro pins s σ H x y v u Q I rx ry h;obtain ⟨hs,q⟩:=h
 cases x with
 | non=>
  cases rx
  cases y with
  | non=>cases ry;exact PySem.EqNone.ne_none_none (Yw I q (by simp))
  | bl j=>cases ry;exact PySem.EqNone.ne_none_bool (Yw I q (by simp))
  | int j=>obtain ⟨t',rfl⟩:=ry;exact PySem.EqNone.ne_none_int (Yw I q (by simp))
  | str j=>obtain ⟨t',rfl⟩:=ry;exact PySem.EqNone.ne_none_str (Yw I q (by simp))
  | _=>exact absurd (show false=true from hs) zW
 | bl i=>
  cases rx
  cases y with
  | non=>cases ry;exact PySem.EqNone.ne_bool_none (Yw I q (by simp))
  | bl j=>cases ry;exact ne_bool (Yw I q (congrArg not Hk))
  | str j=>obtain ⟨t',rfl⟩:=ry;exact PySem.EqMixed.ne_bool_str (Yw I q (by simp))
  | _=>exact absurd (show false=true from hs) zW
 | int i=>
  obtain ⟨t,rfl⟩:=rx
  cases y with
  | non=>cases ry;exact PySem.EqNone.ne_int_none (Yw I q (by simp))
  | int j=>obtain ⟨t',rfl⟩:=ry;exact ne_int (Yw I q (congrArg not JZ))
  | str j=>obtain ⟨t',rfl⟩:=ry;exact PySem.EqMixed.ne_int_str (Yw I q (by simp))
  | _=>exact absurd (show false=true from hs) zW
 | str i=>
  obtain ⟨t,rfl⟩:=rx
  cases y with
  | non=>cases ry;exact PySem.EqNone.ne_str_none (Yw I q (by simp))
  | bl j=>cases ry;exact PySem.EqMixed.ne_str_bool (Yw I q (by simp))
  | int j=>obtain ⟨t',rfl⟩:=ry;exact PySem.EqMixed.ne_str_int (Yw I q (by simp))
  | str j=>obtain ⟨t',rfl⟩:=ry;exact ne_str (Yw I q (congrArg not FD))
  | _=>exact absurd (show false=true from hs) zW
 | byt i=>
  obtain ⟨t,rfl⟩:=rx
  cases y with
  | byt j=>obtain ⟨t',rfl⟩:=ry;exact PySem.W.ne_bytes (Yw I q (congrArg not HQ))
  | _=>exact absurd (show false=true from hs) zW
 | _=>cases y <;> exact absurd (show false=true from hs) zW
theorem PJ:Yx X (aB .Lt) (Qo fun i j=>.bl (decide (i<j))):=Nw fun _ _ _ _ _ _ _ q=>lt_int q
theorem Pg:Yx X (aB .LtE) (Qo fun i j=>.bl (decide (i<=j))):=Nw fun _ _ _ _ _ _ _ q=>le_int q
theorem Q2:Yx X (aB .Gt) (Qo fun i j=>.bl (decide (j<i))):=Nw fun _ _ _ _ _ _ _ q=>gt_int q
theorem ZPU:Yx X (aB .GtE) (Qo fun i j=>.bl (decide (j<=i))):=Nw fun _ _ _ _ _ _ _ q=>ge_int q
theorem YK(b:Expr){op:CmpOp}(h:op≠.In:=by decide)(h2:op≠.NotIn:=by decide):behindInMarks op b=false:=by
 have e1:(op==CmpOp.In)=false:=by cases op <;> first | rfl | exact absurd rfl h
 have e2:(op==CmpOp.NotIn)=false:=by cases op <;> first | rfl | exact absurd rfl h2
 cases b <;> simp [behindInMarks,e1,e2]
theorem VQ{op:CmpOp}{r:R2}(ho:Yx X (aB op) r)(ha:PE X a ta)(hb:PE X b tb)(hm:behindInMarks op b=false):PE X (.Compare a [op] [b] pos) (Pr r ta tb):=by
 intro pins s σ H Q I h;exact wpAny_Compare1 (MH ha hb I h fun v u s2 x y H2 I2 rx ry q=>ho pins s2 σ H2 x y v u Q I2 rx ry q) hm
def Hm(t:TE):TT:=fun σ H Q=>t σ H fun x H'=>∃ k,x=.bl k/\Q k H'
theorem Y8{op:CmpOp}{r:R2}(ho:Yx X (aB op) r)(ha:PE X a ta)(hb:PE X b tb)(hm:behindInMarks op b=false):PT X (.Compare a [op] [b] pos) (Hm (Pr r ta tb)):=by
 intro pins s σ H Q I h;refine wpAny_isTrue_Compare1 (Zc (ha pins s σ H _ I h) fun v s1 ⟨x,H1,I1,r1,q1⟩=>Zc (hb pins s1 σ H1 _ I1 q1) fun u s2 ⟨y,H2,I2,r2,q2⟩=>
  Zc (ho pins s2 σ H2 x y v u _ I2 r1 r2 q2) fun c s3 ⟨z,H3,I3,r3,k,e,q3⟩=>?_) hm
 subst e;cases r3;exact wpAny_truthy_bool ⟨H3,I3,q3⟩
def JL(r r':R2)(ta tb tc:TE):TE:=fun σ H Q=>ta σ H fun x H1=>tb σ H1 fun y H2=>r x y H2 fun z H3=>∃ k,z=.bl k /\
 (if k=true then tc σ H3 fun w' H4=>r' y w' H4 Q else Q (.bl false) H3)
theorem Cp{op op':CmpOp}{r r':R2}(ho:Yx X (aB op) r)(ho':Yx X (aB op') r')(ha:PE X a ta)(hb:PE X b tb)(hc:PE X c tc)(hm:lastMarks [op,op'] [b,c]=false:=by with_unfolding_all rfl):PE X (.Compare a [op,op'] [b,c] pos) (JL r r' ta tb tc):=by
 intro pins s σ H Q I h;refine Compare_chain (Zc (ha pins s σ H _ I h) fun v s1 ⟨x,H1,I1,r1,q1⟩=>chain_link (Zc (hb pins s1 σ H1 _ I1 q1) fun u s2 ⟨y,H2,I2,r2,q2⟩=>
  Zc (ho pins s2 σ H2 x y v u _ I2 r1 r2 q2) fun d s3 ⟨z,H3,I3,r3,k,e,q3⟩=>?_)) hm
 subst e;cases r3;refine wpAny_truthy_bool ?_
 cases k with
 | false=>exact ite_ff ⟨.bl false,H3,I3,rfl,q3⟩
 | true=>exact ite_tt (chain_last (Zc (hc pins s3 σ H3 _ I3 q3) fun w' s4 ⟨z',H4,I4,r4,q4⟩=>ho' pins s4 σ H4 y z' u w' Q I4 r2 r4 q4))
theorem MI{op op':CmpOp}{r r':R2}(ho:Yx X (aB op) r)(ho':Yx X (aB op') r')(ha:PE X a ta)(hb:PE X b tb)(hc:PE X c tc)(hm:lastMarks [op,op'] [b,c]=false:=by with_unfolding_all rfl):PT X (.Compare a [op,op'] [b,c] pos) (Hm (JL r r' ta tb tc)):=by
 intro pins s σ H Q I h;refine isTrue_chain (Zc (ha pins s σ H _ I h) fun v s1 ⟨x,H1,I1,r1,q1⟩=>test_link (Zc (hb pins s1 σ H1 _ I1 q1) fun u s2 ⟨y,H2,I2,r2,q2⟩=>
  Zc (ho pins s2 σ H2 x y v u _ I2 r1 r2 q2) fun d s3 ⟨z,H3,I3,r3,k,e,q3⟩=>?_)) hm
 subst e;cases r3;refine wpAny_truthy_bool ?_
 cases k with
 | false=>
  obtain ⟨k',e',q'⟩:=q3;cases e';exact ite_ff ⟨H3,I3,q'⟩
 | true=>
  refine ite_tt (test_last (Zc (hc pins s3 σ H3 _ I3 q3) fun w' s4 ⟨z',H4,I4,r4,q4⟩=>Zc (ho' pins s4 σ H4 y z' u w' _ I4 r2 r4 q4) fun d' s5 ⟨z2,H5,I5,r5,k2,e2,q5⟩=>?_));subst e2;cases r5;exact wpAny_truthy_bool ⟨H5,I5,q5⟩
theorem Pl:(aw:Nat)<2 ^ 63:=by rw [sizeLine_eq];decide
theorem ZH0:Yx X (binaryOp .Add) (fun x y H Q=>∃ i j,x=.str i/\y=.str j/\i.length+j.length<=aw/\Q (.str (i++j)) H):=by
 intro pins s σ H x y v u Q I rx ry h;obtain ⟨i,j,rfl,rfl,hz,q⟩:=h;obtain ⟨t,rfl⟩:=rx;obtain ⟨t',rfl⟩:=ry;exact add_str (fun t' tk=>⟨.str (i++j),H,I.tok _,⟨_,rfl⟩,q⟩) hz
theorem Vk{x:V}{us:je}(r:ZO [x] us):∃ u,us=[u]/\ZT x u:=by
 cases r with
 | cons r1 r2=>cases r2;exact ⟨_,rfl,r1⟩
theorem O7{x y:V}{us:je}(r:ZO [x,y] us):∃ u w',us=[u,w']/\ZT x u/\ZT y w':=by
 cases r with
 | cons r1 r2=>
  cases r2 with
  | cons r3 r4=>cases r4;exact ⟨_,_,rfl,r1,r3⟩
theorem LK:VW X (.builtin "abs") (fun xs H Q=>∃ i,xs=[.int i]/\Q (.int (if i<0 then -i else i)) H):=by
 intro pins s σ H xs us Q I r h;obtain ⟨i,rfl,q⟩:=h;obtain ⟨u,rfl,t,rfl⟩:=Vk r;exact call_abs_int fun u tk=>⟨.int (if i<0 then -i else i),H,I.tok _,⟨_,rfl⟩,q⟩
theorem LE(hc:X.calm=true):VW X (.builtin "max") (fun xs H Q=>∃ i j,xs=[.int i,.int j]/\Q (.int (if j > i then j else i)) H):=by
 intro pins s σ H xs us Q I r h;obtain ⟨i,j,rfl,q⟩:=h;obtain ⟨u,w',rfl,⟨t,rfl⟩,⟨t',rfl⟩⟩:=O7 r;refine max_two_ints (I.ok.hd hc) fun h' tk k=>⟨_,H,I.kept k,?_,q⟩;by_cases hj:j > i
 ·rw [aP hj,aP hj];exact ⟨_,rfl⟩
 ·rw [aO hj,aO hj];exact ⟨_,rfl⟩
theorem JS(hc:X.calm=true):VW X (.builtin "min") (fun xs H Q=>∃ i j,xs=[.int i,.int j]/\Q (.int (if j<i then j else i)) H):=by
 intro pins s σ H xs us Q I r h;obtain ⟨i,j,rfl,q⟩:=h;obtain ⟨u,w',rfl,⟨t,rfl⟩,⟨t',rfl⟩⟩:=O7 r;refine min_two_ints (I.ok.hd hc) fun h' tk k=>⟨_,H,I.kept k,?_,q⟩;by_cases hj:j<i
 ·rw [aP hj,aP hj];exact ⟨_,rfl⟩
 ·rw [aO hj,aO hj];exact ⟨_,rfl⟩
theorem OA:VW X (.type "int") (fun xs H Q=>(∃ i,xs=[.int i]/\Q (.int i) H)\/∃ k,xs=[.bl k]/\Q (.int (if k then 1 else 0)) H):=by
 intro pins s σ H xs us Q I r h;rcases h with ⟨i,rfl,q⟩ | ⟨k,rfl,q⟩
 ·obtain ⟨u,rfl,t,rfl⟩:=Vk r;exact call_int_int ⟨.int i,H,I,⟨_,rfl⟩,q⟩
 ·obtain ⟨u,rfl,r1⟩:=Vk r;cases r1;exact call_int_bool ⟨.int (if k then 1 else 0),H,I.tok _,⟨_,rfl⟩,q⟩
end
structure Vj(h:aF)(x dx C:aj)(mA:jc):Prop where
 obj:h.get? x=some (wN C dx)
 ns:h.Ns1 dx mA
 ne:dx≠x
theorem J9{h:aF}{dx:aj}{mA:jc}(n:h.Ns1 dx mA):∃ od,h.get? dx=some od/\∀ name,vI name od=some (mA name):=by
 obtain ⟨o,es,ep,ho,hd,hk,_,hm⟩:=n;refine ⟨o,ho,fun name=>?_⟩;have e:=hm name;unfold nsFind findBy at e;rw [<-Array.find?_toList] at e;unfold vI;rw [hd];dsimp only;split
 ·rename_i y q
  rw [q] at e;exact congrArg some e
 ·rename_i q
  rw [q] at e;have a:es.toList.any (·.refKey)=false:=by
   rw [List.any_eq_false];intro y hy;obtain ⟨z,t,hkey⟩:=hk y (rV.mp hy);simp [DictEntry.refKey,hkey]
  have a':¬ es.toList.any (·.refKey)=true:=by rw [a];exact zW
  rw [aO a'];exact congrArg some e
theorem Vj.look{h:aF}{x dx C:aj}{mA:jc}(I:Vj h x dx C mA):∃ od,sC h x (wN C dx) C (some od)/\∀ name,vI name od=some (mA name):=
 let ⟨od,ho,hl⟩:=J9 I.ns
 ⟨od,⟨I.obj,rfl,rfl,ho⟩,hl⟩
section
variable{prog:ao}{w:ay}{A:az}{E:jb}{s:am}{K:zZ}{x dx C f:aj}{mA:jc}{name:Str}{v:ai}
theorem ZM6{expr:Bool}{Q:jb}(X:K.In s.heap)(I:Vj s.heap x dx C mA)(hg:vX K C name=true)(hh:wH K C=true)(ha:zE K (.ref C) name=some none)(hv:mA name=some v)(hv':PySem.W.handedIn v=true)(h:Q v { s with toks:=s.toks+1 }):
  aD (aC prog w) A (getAttr (.ref x) name expr) Q E s:=by
 obtain ⟨od,J,hl⟩:=I.look;exact PySem.W.get_value X J (sN hg).1 (PySem.W.findObj_own hh ha rfl (by rw [hl,hv])) hv' h
theorem AH{pl:Sem Bool}{Q:ai×je->am->Prop}(X:K.In s.heap)(I:Vj s.heap x dx C mA)(hg:vX K C name=true)(hf:zE K (.ref C) name=some (some (.ref f)))(ht:wU K (.ref f)=true)(hv:mA name=none)(h:Q (.ref f,[.ref x]) s):
  aD (aC prog w) A (getMethod (.ref x) name pl) Q E s:=by
 obtain ⟨od,J,hl⟩:=I.look;exact PySem.W.method_fn X J (sN hg).1 (sN hg).2 hf (beq_iff_eq.mp ht) (by show (vI name od).map (·.isSome)=some false;rw [hl,hv];rfl) h
theorem ZNC{ns:List Str}{Q:Unit->am->Prop}(X:K.In s.heap)(I:Vj s.heap x dx C mA)(hs:zE K (.ref C) "__setattr__" = some (some (.builtin "object.__setattr__")))(hp:uC K C=true)(ht:sZ K C name=some none)(hh:wH K C=true)(hw:PySem.Within mA ns)(hsz:ns.length<=aw)(h:∀ h',Vj h' x dx C (fun y=>if y=name then some v else mA y)->yD dx s.heap h'->Q () { s with heap:=h',toks:=s.toks+2 }):
  aD (aC prog w) A (setAttr (.ref x) name v) Q E s:=by
 obtain ⟨od,J,hl⟩:=I.look;refine PySem.W.set_plain X J hs (PySem.W.osa_open (s:={ s with toks:=s.toks+1 }) (r:=none) X J hp ht fun b=>?_);obtain ⟨cd,hc,hd'⟩:=uG hh;have hx:s.heap.get? x=some ⟨.ref C,some dx,.plain,#[]⟩:=I.obj;refine aa (ad (aa (aa (wpAny_loadPart hx (aa (yM.here (s:={ s with toks:=s.toks+1 }) (sO X hc) ?_))))));rw [hd'];refine ad (a:=some dx) (aa (ad (aa ?_)));refine wpAny_nsSet1 (s:={ s with toks:=s.toks+1 }) I.ns fun h' hn2 hs2=>?_;obtain ⟨oD,esD,epD,hoD,hdD,hcD⟩:=hn2.count (PySem.Within.cons name v hw);refine aa (wpAny_lookBehind hoD (by rw [hdD];exact pastItsLine_dict (yK hcD (by rw [zI];lia))) ?_)
 exact ad (h _ ⟨(hs2.2 _ (Ne.symm I.ne)).trans I.obj,hn2,I.ne⟩ hs2)
theorem Ah{R:Result->am->Prop}{vs:je}{kw:List (Str×ai)}(X:K.In s.heap)(hm:uI K C=true)(hi:zE K (.ref C) "__init__" = some (some (.ref f)))(hf:yE K (.ref f)=some (.type "function"))(h:codeAny (aC prog w) (A.under (.builtin "type.__call__" ⟨.ref C :: vs,kw⟩)) (.call (.ref f) ⟨.ref (s.heap.objs.size+1) :: vs,kw⟩) (PySem.W.InitBack (s.heap.objs.size+1) R)
   { s with heap:=(s.heap.push xB).push (wN C s.heap.objs.size) }):
  codeAny (aC prog w) A (.call (.ref C) ⟨vs,kw⟩) R s:=by
 obtain ⟨hh,g,d,t,os⟩:=s;exact PySem.W.make_core (PySem.W.makes_of X hm) (tW X hi) (fun self=>PySem.W.bind_fn X self hf) (.inl rfl) h
end
def XH(f:Str)(v:V):List (Str×V)->List (Str×V)
 | []=>[(f,v)]
 | (g,x) :: r=>if g=f then (g,v) :: r else (g,x) :: XH f v r
theorem Iv(f g:Str)(v:V):∀ fs:List (Str×V),(XH f v fs).lookup g=if g=f then some v else fs.lookup g
 | []=>by
  show xU g [(f,v)]=_;by_cases h:g=f
  ·have hb:(g==f)=true:=beq_iff_eq.mpr h;simp only [xU,hb,aP h]
  ·have hb:(g==f)=false:=beq_eq_false_iff_ne.mpr h;simp only [xU,hb,aO h]
 | (k,x) :: r=>by
  have ih:=Iv f g v r;rw [show XH f v ((k,x) :: r)=(if k=f then (k,v) :: r else (k,x) :: XH f v r) from rfl]
  by_cases hk:k=f
  ·rw [aP hk];by_cases h:g=k
   ·have hb:(g==k)=true:=beq_iff_eq.mpr h;simp only [xU,hb,aP (h.trans hk)]
   ·have hb:(g==k)=false:=beq_eq_false_iff_ne.mpr h;simp only [xU,hb,aO (fun e:g=f=>h (e.trans hk.symm))]
  ·rw [aO hk];by_cases h:g=k
   ·have hb:(g==k)=true:=beq_iff_eq.mpr h;simp only [xU,hb,aO (fun e:g=f=>hk (h.symm.trans e))]
   ·have hb:(g==k)=false:=beq_eq_false_iff_ne.mpr h;simp only [xU,hb];exact ih
theorem KA(f:Str)(v:V):∀ fs:List (Str×V),f∈(XH f v fs).map (·.1)/\∀ g,g∈fs.map (·.1)->g∈(XH f v fs).map (·.1)
 | []=>⟨by simp [XH],fun g h=>by simp at h⟩
 | (k,x) :: r=>by
  obtain ⟨i1,i2⟩:=KA f v r;rw [show XH f v ((k,x) :: r)=(if k=f then (k,v) :: r else (k,x) :: XH f v r) from rfl]
  by_cases hk:k=f
  ·rw [aP hk];subst hk;exact ⟨by simp,fun g h=>by simpa using h⟩
  ·rw [aO hk];refine ⟨?_,fun g h=>?_⟩
   ·rw [zF];exact zH _ i1
   ·rw [zF] at h ⊢;rcases zB.mp h with e | e
    ·exact zB.mpr (.inl e)
    ·exact zH _ (i2 g e)
theorem JH(f:Str)(v:V):∀ fs:List (Str×V),(XH f v fs).length<=fs.length+1
 | []=>by simp [XH]
 | (k,x) :: r=>by
  have ih:=JH f v r;rw [show XH f v ((k,x) :: r)=(if k=f then (k,v) :: r else (k,x) :: XH f v r) from rfl]
  by_cases hk:k=f
  ·rw [aP hk,zI,zI];lia
  ·rw [aO hk,zI,zI];lia
theorem Yj.some_of{v:V}{o:jd}(r:Yj (some v) o):∃ u,o=some u/\ZT v u:=by
 cases o with
 | none=>exact (show False from r).elim
 | some u=>exact ⟨u,rfl,r⟩
theorem Yj.none_of{o:jd}(r:Yj none o):o=none:=by
 cases o with
 | none=>rfl
 | some u=>exact (show False from r).elim
theorem Hr{v:V}{u:ai}(r:ZT v u):PySem.W.handedIn u=true:=by
 cases v with
 | non=>cases (show u=Value.none from r);rfl
 | bl b=>cases (show u=Value.bool b from r);rfl
 | int i=>obtain ⟨t,e⟩:=(show ∃ t,u=Value.int i t from r);cases e;rfl
 | str x=>obtain ⟨t,e⟩:=(show ∃ t,u=Value.str x t from r);cases e;rfl
 | byt b=>obtain ⟨t,e⟩:=(show ∃ t,u=Value.bytes b t from r);cases e;rfl
 | flt b=>obtain ⟨t,e⟩:=(show ∃ t,u=Value.float b t from r);cases e;rfl
 | ref a=>cases (show u=Value.ref a from r);rfl
 | ty n=>cases (show u=Value.type n from r);rfl
section
variable{P:ao}{w:ay}{H H':Hp}{h h':aF}{a C dx:aj}{fs fs':List (Str×V)}
theorem Ou(hok:Ye P w H h)(e:H a=some (.ins C dx fs)):∃ mA,Vj h a dx C mA/\(∀ f,Yj (fs.lookup f) (mA f))/\PySem.Within mA (fs.map (·.1))/\fs.length<=1000/\H dx=some (.own a):=by
 obtain ⟨d,z,ne,ob,mA,n,r,q⟩:=(show Zf P w H h a (.ins C dx fs) from hok a _ e);exact ⟨mA,⟨ob,n,ne⟩,r,q,z,d⟩
end
structure UI(K:zZ)(C:aj):Prop where
 pg:vX K C Str.empty=true
 hd:wH K C=true
 po:uC K C=true
 sa:zE K (.ref C) "__setattr__" = some (some (.builtin "object.__setattr__"))
theorem UI.get{K:zZ}{C:aj}(c:UI K C)(f:Str):vX K C f=true:=c.pg
def Z6(K:zZ)(C:aj)(f:Str):Prop:=zE K (.ref C) f=some none
theorem Z6.taker{K:zZ}{C:aj}{f:Str}(n:Z6 K C f):sZ K C f=some none:=by
 unfold sZ;rw [show zE K (.ref C) f=some none from n];rfl
structure QW(K:zZ)(C:aj)(m:Str)(f:aj):Prop where
 at_:zE K (.ref C) m=some (some (.ref f))
 fn:wU K (.ref f)=true
 kp:yQ K (.ref f)=true
section
variable{X:Cx}{pins:List (aj×aJ)}{σ:St}{H:Hp}{s:am}{a C dx:aj}{fs:List (Str×V)}{f:Str}{v:V}{A:az}{E:jb}
theorem JB{b:Bool}{Q:jb}(I:ZH X pins σ H s)(e:H a=some (.ins C dx fs))(c:UI X.K C)(n:Z6 X.K C f)(l:fs.lookup f=some v)(h:∀ u s',ZH X pins σ H s'->ZT v u->Q u s'):aD (aC X.prog X.w) A (getAttr (.ref a) f b) Q E s:=by
 obtain ⟨mA,O,r,_,_,_⟩:=Ou I.hok e;obtain ⟨u,hu,ru⟩:=Yj.some_of (v:=v) (o:=mA f) (by rw [<-l];exact r f)
 exact ZM6 I.kIn O (c.get f) c.hd n hu (Hr ru) (h u _ (I.tok _) ru)
theorem Fp{m:Str}{g:aj}{pl:Sem Bool}{Q:ai×je->am->Prop}(I:ZH X pins σ H s)(e:H a=some (.ins C dx fs))(c:UI X.K C)(k:QW X.K C m g)(l:fs.lookup m=none)(h:Q (.ref g,[.ref a]) s):aD (aC X.prog X.w) A (getMethod (.ref a) m pl) Q E s:=by
 obtain ⟨mA,O,r,_,_,_⟩:=Ou I.hok e;have hn:mA m=none:=Yj.none_of (by rw [<-l];exact r m)
 exact AH I.kIn O (c.get m) k.at_ k.fn hn h
theorem ID{y:V}{u:ai}{Q:Unit->am->Prop}(I:ZH X pins σ H s)(e:H a=some (.ins C dx fs))(c:UI X.K C)(n:Z6 X.K C f)(hl:fs.length<1000)(ry:ZT y u)(h:∀ s',ZH X pins σ (upd H a (.ins C dx (XH f y fs))) s'->Q () s'):aD (aC X.prog X.w) A (setAttr (.ref a) f u) Q E s:=by
 obtain ⟨mA,O,r,wi,_,ho⟩:=Ou I.hok e;have hz:(fs.map (·.1)).length<=sizeLine:=by rw [zX,sizeLine_eq];lia
 refine ZNC I.kIn O c.sa c.po n.taker c.hd wi hz fun h' O' sb=>h _ ?_;have hd:∃ o,h'.get? dx=some o:=let ⟨o,_,_,e',_⟩:=O'.ns;⟨o,e'⟩;refine I.write (x:=a) (e:=dx) (by rw [e];exact True.intro) (.inr ho) (fun b q hb z=>(sb.2 b hb).trans z) hd ?_
 refine ⟨by rw [ZV O.ne];exact ho,?_,O.ne,O'.obj,_,O'.ns,fun g=>?_,fun g hg=>?_⟩
 ·have:=JH f y fs;lia
 ·show Yj ((XH f y fs).lookup g) (if g=f then some u else mA g)
  rw [Iv];by_cases q:g=f
  ·rw [aP q,aP q];exact ry
  ·rw [aO q,aO q];exact r g
 ·by_cases q:g=f
  ·rw [q];exact (KA f y fs).1
  ·refine (KA f y fs).2 g (wi g fun z=>hg ?_);show (if g=f then some u else mA g)=none
   rw [aO q];exact z
theorem ZH.made(I:ZH X pins σ H s):ZH X pins σ (upd (upd H s.heap.objs.size (.own (s.heap.objs.size+1))) (s.heap.objs.size+1) (.ins C s.heap.objs.size []))
  { s with heap:=(s.heap.push xB).push (wN C s.heap.objs.size) }:=by
 have e1:(s.heap.push xB).get? s.heap.objs.size=some xB:=yS s.heap rfl;have e2:((s.heap.push xB).push (wN C s.heap.objs.size)).get? (s.heap.objs.size+1)=some (wN C s.heap.objs.size):=by
  have:=yS (s.heap.push xB) (o:=wN C s.heap.objs.size) rfl
  rwa [tO] at this
 have e3:(s.heap.push xB).Ns s.heap.objs.size (fun _=>none):=⟨xB,#[],_,e1,rfl,(fun e he=>absurd he (by simp)),fun _=>rfl⟩
 have I1:=I.laid (a:=s.heap.objs.size) (o:=.own (s.heap.objs.size+1)) (h':=s.heap.push xB) (t':=s.toks) (fun b u q=>zR _ q) (zY _) ⟨_,e1⟩;refine I1.laid (a:=s.heap.objs.size+1) (o:=.ins C s.heap.objs.size []) (t':=s.toks) (fun b u q=>zR _ q) (uQ (tO _ _)) ?_;have ne:s.heap.objs.size≠s.heap.objs.size+1:=yY (uV _);refine ⟨by rw [ZV ne,ZP],zG _,ne,e2,fun _=>none,(Heap.Ns1.of_empty e3).at fun o q=>zR _ q,fun _=>True.intro,fun y hy=>absurd rfl hy⟩
theorem Ht{prog:ao}{w:ay}{env:Env}{e:Expr}{f:Str}{pos:Pos}{s:am}{Q:jb}(hb:attributeBase e f env (aI e env)=aI e env)(h:aD (aC prog w) A (aI e env) (fun o s₁=>aD (aC prog w) A (getAttr o f true) Q E s₁) E s):aD (aC prog w) A (aI (.Attribute e f pos) env) Q E s:=
 Attribute_any_ h (by rw [arm_eval_Attribute,hb])
end
def Cd(K:zZ)(ta:TE)(f:Str):TE:=fun σ H Q=>ta σ H fun x H1=>∃ a C dx fs v,x=.ref a/\H1 a=some (.ins C dx fs)/\UI K C/\Z6 K C f/\fs.lookup f=some v/\Q v H1
def ZQ3(K:zZ)(ta tv:TE)(f:Str):TS:=fun D σ H=>tv σ H fun y H1=>ta σ H1 fun x H2=>∃ a C dx fs,x=.ref a/\H2 a=some (.ins C dx fs)/\UI K C/\Z6 K C f/\fs.length<1000 /\
 D.nx σ (upd H2 a (.ins C dx (XH f y fs)))
def Jt(X:Cx)(op:Operator)(rd:V->V->Hp->VK->Prop):Prop:=
 ∀(pins:List (aj×aJ))(s:am)(σ:St)(H:Hp)(x y:V)(u v:ai)(Q:VK),ZH X pins σ H s->ZT x u->ZT y v->rd x y H Q->aD (aC X.prog X.w) X.A (inplaceOp op u v) (EP X pins σ Q) X.xe s
def Dj(K:zZ)(ta tv:TE)(rd:V->V->Hp->VK->Prop)(f:Str):TS:=fun D σ H=>ta σ H fun x H1=>∃ a C dx fs v,x=.ref a/\H1 a=some (.ins C dx fs)/\UI K C/\Z6 K C f/\fs.lookup f=some v /\
 tv σ H1 fun y H2=>rd v y H2 fun z H3=>∃ dx' fs',H3 a=some (.ins C dx' fs')/\fs'.length<1000/\D.nx σ (upd H3 a (.ins C dx' (XH f z fs')))
section
variable{X:Cx}{o e value:Expr}{f:Str}{pos pos' tpos:Pos}{ta tv:TE}
theorem VU(he:PE X e ta)(hb:attributeBase e f X.env (aI e X.env)=aI e X.env):PE X (.Attribute e f pos) (Cd X.K ta f):=by
 intro pins s σ H Q I h;refine Ht hb (Zc (he pins s σ H _ I h) fun u s1 ⟨x,H1,I1,rx,a,C,dx,fs,v,ex,ea,c,n,l,q⟩=>?_);subst ex;obtain rfl:u=Value.ref a:=rx;exact JB I1 ea c n l fun u' s2 I2 ru=>⟨v,H1,I2,ru,q⟩
theorem Qy(ha:PE X o ta)(hv:PE X value tv)(hs:swapsWith value (some (.Attribute o f pos')) pos.line X.env=pure false):PS X (.Assign [.Attribute o f pos'] value pos) (ZQ3 X.K ta tv f):=by
 intro pins s σ H D I h;refine plainObj_wpAny_Assign_Attribute (Zc (hv pins s σ H _ I h) fun u s1 ⟨y,H1,I1,ry,q⟩=>Zc (ha pins s1 σ H1 _ I1 q) fun ov s2 ⟨x,H2,I2,rx,a,C,dx,fs,ex,ea,c,n,l,q2⟩=>?_) hs;subst ex;obtain rfl:ov=Value.ref a:=rx;exact ID I2 ea c n l ry fun s3 I3=>⟨σ,_,I3,q2⟩
theorem GW{op:Operator}{rd:V->V->Hp->VK->Prop}(ha:PE X o ta)(hv:PE X value tv)(hop:Jt X op rd):PS X (.AugAssign (.Attribute o f tpos) op value pos) (Dj X.K ta tv rd f):=by
 intro pins s σ H D I h;refine wpAny_AugAssign_AttributeAny (Zc (ha pins s σ H _ I h) fun ov s1 ⟨x,H1,I1,rx,a,C,dx,fs,v,ex,ea,c,n,l,q⟩=>?_);subst ex;obtain rfl:ov=Value.ref a:=rx;refine JB I1 ea c n l fun u s2 I2 ru=>Zc (hv pins s2 σ H1 _ I2 q) fun w3 s3 ⟨y,H2,I3,ry,q3⟩=>Zc (hop pins s3 σ H2 v y u w3 _ I3 ru ry q3) fun w4 s4 ⟨z,H3,I4,rz,dx',fs',ea',l',q4⟩=>?_;exact ID I4 ea' c n l' rz fun s5 I5=>⟨σ,_,I5,q4⟩
def Di:V->V->Hp->VK->Prop:=fun x y H Q=>∃ i j,x=.int i/\y=.int j/\Q (.int (i - j)) H
theorem Ga:Jt X .Sub Di:=by
 rintro pins s σ H x y u v Q I rx ry ⟨i,j,rfl,rfl,q⟩;obtain ⟨t,rfl⟩:=(show ∃ t,u=Value.int i t from rx);obtain ⟨t',rfl⟩:=(show ∃ t',v=Value.int j t' from ry);exact PyProof.Rows.isub_int ⟨.int (i - j),H,I.tok _,⟨_,rfl⟩,q⟩
end
section
variable{X:Cx}{pins:List (aj×aJ)}{σ:St}{H:Hp}{s:am}{A:az}{E:jb}{Q:jb}{c:ai}{b:Bool}
inductive Y2(K:zZ)(H:Hp):V->ai->Prop where
 | non:Y2 K H .non (.type "NoneType")
 | bl (x:Bool):Y2 K H (.bl x) (.type "bool")
 | int (i:Int):Y2 K H (.int i) (.type "int")
 | str (x:Str):Y2 K H (.str x) (.type "str")
 | flt (x:UInt64):Y2 K H (.flt x) (.type "float")
 | lst {a:aj} {xs:jf} (e:H a=some (.lst xs)):Y2 K H (.ref a) (.type "list")
 | frz {a:aj} {o:aJ} {xs:jf} (e:H a=some (.frz o (.lst xs))):Y2 K H (.ref a) (.type "list")
 | tup {a:aj} {xs:jf} (e:H a=some (.tup xs)):Y2 K H (.ref a) (.type "tuple")
 | dK {a:aj} {kvs:List (Zd×V)} (e:H a=some (.dK kvs)):Y2 K H (.ref a) (.type "dict")
 | dT {a:aj} {kvs:List (List Zd×V)} (e:H a=some (.dT kvs)):Y2 K H (.ref a) (.type "dict")
 | ins {a C dx:aj} {fs:List (Str×V)} (e:H a=some (.ins C dx fs)) (cl:UI K C) (ha:zE K (.ref C) "__class__" = some (some (.builtin "object.__class__")))
   (hn:PySem.W.specialIn K (.builtin "object.__class__") "__get__" = some (some (.builtin "getset_descriptor.__get__"))) (htk:PySem.W.takesIn K (.builtin "object.__class__")=some true)
   (hm:yW K C (.type "object")=some true):Y2 K H (.ref a) (.ref C)
theorem AA{x:V}{u t:ai}(I:ZH X pins σ H s)(rx:ZT x u)(ty:Y2 X.K H x t)(e:yX X.K t c=some b)(h:∀ tk,Q (.bool b) { s with toks:=tk }):
  aD (aC X.prog X.w) A (call (.builtin "isinstance") [u,c]) Q E s:=by
 cases ty with
 | non=>cases (show u=Value.none from rx);exact xV PySem.W.kitx_none I.kIn True.intro e (fun z=>nomatch z) h
 | bl y=>cases (show u=Value.bool y from rx);exact xV PySem.W.kitx_bool I.kIn True.intro e (fun z=>nomatch z) h
 | int i=>obtain ⟨t,q⟩:=(show ∃ t,u=Value.int i t from rx);cases q;exact xV PySem.W.kitx_int I.kIn True.intro e (fun z=>nomatch z) h
 | str y=>obtain ⟨t,q⟩:=(show ∃ t,u=Value.str y t from rx);cases q;exact xV PySem.W.kitx_str I.kIn True.intro e (fun z=>nomatch z) h
 | flt y=>obtain ⟨t,q⟩:=(show ∃ t,u=Value.float y t from rx);cases q;exact xV PySem.W.kitx_float I.kIn True.intro e (fun z=>nomatch z) h
 | @lst a xs ea=>
  cases (show u=Value.ref a from rx);obtain ⟨_,_,n,_,h1⟩:=(show Zf X.prog X.w H s.heap a (.lst xs) from I.hok a _ ea);exact xV PySem.W.kitx_list I.kIn ⟨_,h1,rfl⟩ e (fun z=>nomatch z) h
 | @frz a ob xs ea=>
  cases (show u=Value.ref a from rx);obtain ⟨_,_,_,n,_,h1⟩:=(show Zf X.prog X.w H s.heap a (.frz ob (.lst xs)) from I.hok a _ ea);exact xV PySem.W.kitx_list I.kIn ⟨_,h1,rfl⟩ e (fun z=>nomatch z) h
 | @tup a xs ea=>
  cases (show u=Value.ref a from rx);obtain ⟨_,_,_,p⟩:=(show Zf X.prog X.w H s.heap a (.tup xs) from I.hok a _ ea);obtain ⟨o,h1,h2,_⟩:=p;exact xV PySem.W.kitx_tuple I.kIn ⟨o,h1,h2⟩ e (fun z=>nomatch z) h
 | @dK a kvs ea=>
  cases (show u=Value.ref a from rx);obtain ⟨_,_,vs,_,p⟩:=(show Zf X.prog X.w H s.heap a (.dK kvs) from I.hok a _ ea);obtain ⟨o,es,ep,h1,h2,_⟩:=p;exact xV PySem.W.kitx_dict I.kIn ⟨o,h1,h2.1⟩ e (fun z=>nomatch z) h
 | @dT a kvs ea=>
  cases (show u=Value.ref a from rx);obtain ⟨_,_,xs,_,o,es,ep,h1,h2,_⟩:=(show Zf X.prog X.w H s.heap a (.dT kvs) from I.hok a _ ea);exact xV PySem.W.kitx_dict I.kIn ⟨o,h1,h2.1⟩ e (fun z=>nomatch z) h
 | @ins a C dx fs ea cl ha hn htk hm=>
  cases (show u=Value.ref a from rx);obtain ⟨mA,O,_⟩:=Ou I.hok ea;obtain ⟨od,J,_⟩:=O.look;exact xV (PySem.W.kitx_own (cl.get _) cl.hd ha hn htk hm) I.kIn J e (fun z=>nomatch z) h
end
structure ZX(k:Nat)(A:az):Prop where
 hd:A.handled=none
 dp:A.depth+3 * k+5<recursionLimit
 un:A.units+16 * k+200<cLine
theorem ZX.mono{j k:Nat}{A:az}(r:ZX k A)(h:j<=k):ZX j A:=⟨r.hd,by have:=r.dp;lia,by have:=r.un;lia⟩
theorem ZX.deeper{k:Nat}{A:az}(r:ZX (k+1) A)(env:Env):ZX k (A.deeper env):=
 ⟨r.hd,by have:=r.dp;show A.depth+1+3 * k+5<_;lia,by have:=r.un;show A.units+3+16 * k+200<_;lia⟩
theorem ZX.in1{k:Nat}{A:az}(r:ZX (k+1) A):ZX k A.in1:=
 ⟨r.hd,by have:=r.dp;show A.depth+3 * k+5<_;lia,by have:=r.un;show A.units+1+16 * k+200<_;lia⟩
theorem ZH2{A:az}{C:aj}{us:je}{kw:List (Str×ai)}:(A.under (.builtin "type.__call__" ⟨.ref C :: us,kw⟩)).depth=A.depth+1:=by
 first | rfl | simp [Around.under,Code.weight,Code.isCreation,Code.isGuard,Code.isCaller,Code.frames,Code.isFrame,guardIds]
theorem A5{A:az}{C:aj}{us:je}{kw:List (Str×ai)}:(A.under (.builtin "type.__call__" ⟨.ref C :: us,kw⟩)).units=A.units+1:=by
 first | rfl | simp [Around.under,Code.cUnits,Code.frames,Code.isFrame]
theorem ZX.make{k:Nat}{A:az}(r:ZX (k+1) A)(C:aj)(us:je)(kw:List (Str×ai)):ZX k (A.under (.builtin "type.__call__" ⟨.ref C :: us,kw⟩)):=
 ⟨r.hd,by have:=r.dp;rw [ZH2];lia,by have:=r.un;rw [A5];lia⟩
theorem ZX.depth{k:Nat}{A:az}(r:ZX k A):A.depth<recursionLimit:=by have:=r.dp;lia
theorem ZX.units{k:Nat}{A:az}(r:ZX k A):A.units+64<cLine:=by have:=r.un;lia
theorem ZX.units0{k:Nat}{A:az}(r:ZX k A):A.units<cLine:=by have:=r.un;lia
def V4:TA:=fun _ H Q=>Q [] H
def Y0(ta:TE)(tr:TA):TA:=fun σ H Q=>ta σ H fun x H1=>tr σ H1 fun xs H2=>Q (x :: xs) H2
section
variable{X:Cx}{e:Expr}{es:List Expr}{te:TE}{t:TA}{pos:Pos}
theorem ZF:PA X [] V4:=fun _ _ _ _ H Q I h=>Calls.spliced_nil ⟨[],H,I,.nil,h⟩
theorem Zb(ha:PE X e te)(hr:PA X es t)(hs:ax (e :: es) X.env=(false,aI e X.env) :: ax es X.env:=by rfl):PA X (e :: es) (Y0 te t):=by
 intro pos pins s σ H Q I h;rw [hs];show aD _ _ (spliced ((false,aI e X.env) :: aH pos (ax es X.env))) _ _ s;refine Calls.spliced_cons (Zc (ha pins s σ H _ I h) fun u s1 ⟨x,H1,I1,r1,q1⟩=>?_);exact Zc (hr pos pins s1 σ H1 _ I1 q1) fun us s2 ⟨xs,H2,I2,r2,q2⟩=>⟨x :: xs,H2,I2,.cons r1 r2,q2⟩
def K7(t:TA):TE:=fun σ H Q=>t σ H fun xs H1=>xs.length<=aw/\∀ p,H1 p=none->Q (.ref p) (upd H1 p (.tup xs))
def Kx(t:TA):TE:=fun σ H Q=>t σ H fun xs H1=>xs.length<=aw/\∀ p,H1 p=none->Q (.ref p) (upd H1 p (.lst xs))
theorem Yq{x1}(h:PA X es t):PE X (.Tuple es x1 pos) (K7 t):=by
 intro pins s σ H Q I hq;refine wpAny_Tuple_spliced (Zc (h pos pins s σ H _ I hq) fun us s1 ⟨xs,H1,I1,r,z,q⟩=>⟨by rw [<-r.length];exact z,?_⟩)
 have hf:H1 s1.heap.objs.size=none:=I1.hok.fresh (zY _);refine ⟨.ref s1.heap.objs.size,upd H1 s1.heap.objs.size (.tup xs),I1.laid (t':=s1.toks) (fun b u e=>zR _ e) (zY _) ?_,rfl,q _ hf⟩;exact ⟨z,us,r,⟨_,yS _ rfl,rfl,_,rfl⟩⟩
theorem Yr(h:PA X es t):PE X (.List es pos) (Kx t):=by
 intro pins s σ H Q I hq;refine wpAny_List_spliced (Zc (h pos pins s σ H _ I hq) fun us s1 ⟨xs,H1,I1,r,z,q⟩=>⟨by rw [<-r.length];exact z,?_⟩)
 have hf:H1 s1.heap.objs.size=none:=I1.hok.fresh (zY _);refine ⟨.ref s1.heap.objs.size,upd H1 s1.heap.objs.size (.lst xs),I1.laid (t':=s1.toks) (fun b u e=>zR _ e) (zY _) ?_,rfl,q _ hf⟩;exact ⟨z,us,0,r,yS _ rfl⟩
end
abbrev Sp:=jf->Hp->VK->XK->Prop
abbrev VS:=List Env->Hp->am->XK->jb
structure Wg(P:ao)(w:ay)(K:zZ)(mg:jc)(base:aF)(A:az)(outer:List Env)(s:am)(H:Hp):Prop where
 frames:A.frames=some outer
 mod:Mod K mg base
 bs:∀ b o,base.get? b=some o->s.heap.get? b=some o/\H b=none
 bsz:base.objs.size<=s.heap.objs.size
 funs:s.heap.FunFrames base outer
 frf:∀ b∈frs outer,H b=none
 hok:Ye P w H s.heap
 bare:AllBare s.gens
def CE(outer:List Env)(P:ao)(w:ay)(H:Hp)(s:am)(Q:VK)(u:ai)(s':am):Prop:=
 ∃ v H',s'.os=s.os/\AllBare s'.gens/\Un (frs outer) [] H H' s.heap s'.heap/\Ye P w H' s'.heap/\ZT v u/\Q v H'
def CR(CX:VS)(outer:List Env)(P:ao)(w:ay)(H:Hp)(s:am)(Q:VK)(E:XK)(r:Result)(s':am):Prop:=
 match r with
 | .ok (.ret u)=>CE outer P w H s Q u s'
 | .ok _=>False
 | .error e=>CX outer H s E e s'
structure ZJ(P:ao)(w:ay)(K:zZ)(mg:jc)(base:aF)(CX:VS)(k:Nat)(f:aj)(fd:aq)(ps:List Str)(sp:Sp):Prop where
 len:∀ vs H Q E,sp vs H Q E->vs.length=ps.length
 run:∀(A:az)(outer:List Env)(s:am)(H:Hp)(args:Args)(us:je)(vs:jf)(Q:VK)(E:XK),ZX k A->Wg P w K mg base A outer s H->BindsTo s fd args (ps.zip us)->ZO vs us->sp vs H Q E ->
  codeAny (aC P w) A (.call (.ref f) args) (CR CX outer P w H s Q E) s
theorem ZJ.imp{P:ao}{w:ay}{K:zZ}{mg:jc}{base:aF}{CX:VS}{k:Nat}{f:aj}{fd:aq}{ps:List Str}{sp sp':Sp}(F:ZJ P w K mg base CX k f fd ps sp)(h:∀ vs H Q E,sp' vs H Q E->sp vs H Q E):ZJ P w K mg base CX k f fd ps sp':=
 ⟨fun vs H Q E q=>F.len vs H Q E (h _ _ _ _ q),fun A outer s H args us vs Q E hr he hb hv hs=>F.run A outer s H args us vs Q E hr he hb hv (h _ _ _ _ hs)⟩
theorem Wg.make{P:ao}{w:ay}{K:zZ}{mg:jc}{base:aF}{A:az}{outer:List Env}{s:am}{H:Hp}(e:Wg P w K mg base A outer s H)(C:aj)(us:je)(kw:List (Str×ai)):
  Wg P w K mg base (A.under (.builtin "type.__call__" ⟨.ref C :: us,kw⟩)) outer s H:=⟨by first | exact e.frames | (simpa [Around.under,Code.envs,Code.isFrame,pushEnvs] using e.frames),e.mod,e.bs,e.bsz,e.funs,e.frf,e.hok,e.bare⟩
section
variable{X:Cx}{pins:List (aj×aJ)}{σ:St}{H:Hp}{s s':am}
theorem ZH.env0(I:ZH X pins σ H s):Wg X.prog X.w X.K X.mg X.base X.A X.stack s H:=
 ⟨I.ok.frames,I.ok.mod,I.bs,yK I.ok.bsz I.sz,I.stack,I.stkFree,I.hok,I.bare⟩
theorem ZH.after{Q:VK}{u:ai}(I:ZH X pins σ H s)(h:CE X.stack X.prog X.w H s Q u s'):EP X pins σ Q u s':=by
 obtain ⟨v,H',os,bare,un,hok,r,q⟩:=h;obtain ⟨hh,g,d,t,os'⟩:=s';obtain rfl:os'=s.os:=os;exact ⟨v,H',I.call (h':=hh) (g':=g) (d':=d) (t':=t) (ch:=[]) un hok bare (fun b z=>absurd z (by simp)),r,q⟩
end
def NH(sp:Sp)(jJ:jf)(E:XK)(t:TA):TE:=fun σ H Q=>t σ H fun vs H1=>sp (vs++jJ) H1 Q E
def Iw(C:aj)(m:Str)(sp:Sp)(jJ:jf)(E:XK)(ta:TE)(t:TA):TE:=fun σ H Q=>ta σ H fun x H1=>∃ a dx fs,x=.ref a/\H1 a=some (.ins C dx fs)/\fs.lookup m=none /\
 t σ H1 fun vs H2=>sp (x :: (vs++jJ)) H2 Q E
def Oy(C:aj)(sp:Sp)(jJ:jf)(E:XK)(t:TA):TE:=fun σ H Q=>t σ H fun vs H1=>∀ x dx,H1 x=none->H1 dx=none->dx≠x ->
 sp (.ref x :: (vs++jJ)) (upd (upd H1 dx (.own x)) x (.ins C dx [])) (fun v H2=>v=.non/\Q (.ref x) H2) E
def Zt(K:zZ)(fd:aq)(ps:List Str)(ds:je):Prop:=
 ∀(s:am)(us:je),K.In s.heap->(us++ds).length=ps.length->BindsTo s fd ⟨us,[]⟩ (ps.zip (us++ds))
theorem Zt.all{K:zZ}{fd:aq}{ps:List Str}(h:∀ us:je,us.length=ps.length->bindArgs fd ⟨us,[]⟩=pure (ps.zip us)):Zt K fd ps []:=fun s us _ hl=>by
 rw [yO] at hl ⊢;exact .of_eq (h us hl)
def QJ(CX:VS)(X:Cx)(E:XK):Prop:=∀(pins:List (aj×aJ))(σ:St)(H:Hp)(s:am)(e:ai)(s':am),ZH X pins σ H s->CX X.stack H s E e s'->X.xe e s'
section
variable{X:Cx}{CX:VS}{k:Nat}{f C:aj}{fd:aq}{ps:List Str}{sp:Sp}{jJ:jf}{ds:je}{E:XK}{x m:Str}{p pos ju:Pos}{e o:Expr}{es:List Expr}{ta:TE}{t:TA}
theorem Gz{pins:List (aj×aJ)}{σ:St}{H:Hp}{s:am}{Q:VK}{us:je}{vs:jf}(F:ZJ X.prog X.w X.K X.mg X.base CX k f fd ps sp)(hr:ZX k X.A)(hb:Zt X.K fd ps ds)(hd:ZO jJ ds)(hx:QJ CX X E)(I:ZH X pins σ H s)(r:ZO vs us)(h:sp (vs++jJ) H Q E):aD (aC X.prog X.w) X.A (call (.ref f) us) (EP X pins σ Q) X.xe s:=by
 have r2:ZO (vs++jJ) (us++ds):=r.append hd;have hl:(us++ds).length=ps.length:=by rw [<-r2.length];exact F.len _ _ _ _ h
 refine wpAny_call (codeAny_mono (F.run X.A X.stack s H ⟨us,[]⟩ (us++ds) (vs++jJ) Q E hr I.env0 (hb s us I.kIn hl) r2 h) fun r s' hq=>?_)
 cases r with
 | error e=>exact hx pins σ H s e s' I hq
 | ok fl=>
  cases fl with
  | ret u=>exact I.after hq
  | next=>exact False.elim hq
  | brk=>exact False.elim hq
  | cont=>exact False.elim hq
theorem KY(F:ZJ X.prog X.w X.K X.mg X.base CX k f fd ps sp)(hr:ZX k X.A)(hg:Gl X x)(hm:X.mg x=some (.ref f))(hk:yQ X.K (.ref f)=true)(hb:Zt X.K fd ps ds)(hd:ZO jJ ds)(hx:QJ CX X E)(ha:PA X (e :: es) t)(jy:(x==("__debug__" : Str))=false:=by decide)(he:ax (e :: es) X.env=(false,aI e X.env) :: ax es X.env:=by rfl)(jv:(aH pos (ax es X.env)).any (·.1)=false:=by rfl):
  PE X (.Call (.Name x p) (e :: es) [] pos) (NH sp jJ E t):=by
 intro pins s σ H Q I h;refine ag (QK I hg hm ?_ jy);refine vU (h₀:=X.base) I.ok.mod.kin hk (Zc (ha pos pins s σ H _ I h) fun us s1 ⟨vs,H1,I1,r,q⟩=>⟨I1.kIn,?_⟩) he jv;exact Gz F hr hb hd hx I1 r q
theorem Bd{pl:Sem Bool}(he:PE X o ta)(c:UI X.K C)(hm:QW X.K C m f)(F:ZJ X.prog X.w X.K X.mg X.base CX k f fd ps sp)(hr:ZX k X.A)(hb:Zt X.K fd ps ds)(hd:ZO jJ ds)(hx:QJ CX X E)(ha:PA X (e :: es) t)(hst:ax (e :: es) X.env=(false,aI e X.env) :: ax es X.env:=by rfl)(jv:(aH pos (ax es X.env)).any (·.1)=false:=by rfl)(ht:aI (.Call (.Attribute o m ju) (e :: es) [] pos) X.env=(do
   let ov<-aI o X.env
   standAt ju.atName
   let (f,first)<-holding [ov] (getMethod ov m pl)
   callWith pos f first (aH pos (ax (e :: es) X.env)) (backToKw pos (keywordEach [] X.env))):=by rfl):
  PE X (.Call (.Attribute o m ju) (e :: es) [] pos) (Iw C m sp jJ E ta t):=by
 intro pins s σ H Q I h;refine PySem.W.methodCall_KW (pl:=pl) (Zc (he pins s σ H _ I h) fun u s1 ⟨x,H1,I1,rx,a,dx,fs,ex,ea,l,q⟩=>?_) ht;subst ex;obtain rfl:u=Value.ref a:=rx;refine Fp I1 ea c hm l ?_;refine vU (first:=[.ref a]) (h₀:=X.base) I.ok.mod.kin hm.kp (Zc (ha pos pins s1 σ H1 _ I1 q) fun us s2 ⟨vs,H2,I2,r,q2⟩=>⟨I2.kIn,?_⟩) hst jv
 exact Gz (us:=.ref a :: us) (vs:=.ref a :: vs) F hr hb hd hx I2 (.cons rfl r) q2
structure Mk(K:zZ)(C f:aj):Prop where
 makes:uI K C=true
 init:zE K (.ref C) "__init__" = some (some (.ref f))
 fn:wU K (.ref f)=true
 kp:yQ K (.ref C)=true
theorem IV{pins:List (aj×aJ)}{σ:St}{H:Hp}{s:am}{Q:VK}{us:je}{vs:jf}(M:Mk X.K C f)(F:ZJ X.prog X.w X.K X.mg X.base CX k f fd ps sp)(hr:ZX (k+1) X.A)(hb:Zt X.K fd ps ds)(hd:ZO jJ ds)(hx:QJ CX X E)(I:ZH X pins σ H s)(r:ZO vs us)(h:∀ x dx,H x=none->H dx=none->dx≠x->sp (.ref x :: (vs++jJ)) (upd (upd H dx (.own x)) x (.ins C dx [])) (fun v H2=>v=.non/\Q (.ref x) H2) E):
  aD (aC X.prog X.w) X.A (call (.ref C) us) (EP X pins σ Q) X.xe s:=by
 have hq:=h (s.heap.objs.size+1) s.heap.objs.size (I.hok.fresh (wC _)) (I.hok.fresh (zY _)) (yY (uV _));have I2:=ZH.made (C:=C) I;have r2:ZO (V.ref (s.heap.objs.size+1) :: (vs++jJ)) (Value.ref (s.heap.objs.size+1) :: (us++ds)):=.cons rfl (r.append hd);have hl:(Value.ref (s.heap.objs.size+1) :: us++ds).length=ps.length:=by
  have e:=r2.length;rw [F.len _ _ _ _ hq] at e;exact e.symm
 refine wpAny_call (Ah (f:=f) I.kIn M.makes M.init (beq_iff_eq.mp M.fn) (codeAny_mono (F.run _ X.stack _ _ ⟨Value.ref (s.heap.objs.size+1) :: us,[]⟩ (Value.ref (s.heap.objs.size+1) :: (us++ds)) _ _ E (hr.make C us [])
  (I2.env0.make C us []) (hb _ (Value.ref (s.heap.objs.size+1) :: us) I2.kIn hl) r2 hq) fun r s' hq'=>?_))
 cases r with
 | error e=>exact hx pins σ _ _ e s' I2 hq'
 | ok fl=>
  cases fl with
  | ret u=>
   obtain ⟨v,H',I3,rv,ev,q3⟩:=I2.after hq';subst ev;exact ⟨rv,⟨V.ref (s.heap.objs.size+1),H',I3,rfl,q3⟩⟩
  | next=>exact False.elim hq'
  | brk=>exact False.elim hq'
  | cont=>exact False.elim hq'
theorem Ej(M:Mk X.K C f)(F:ZJ X.prog X.w X.K X.mg X.base CX k f fd ps sp)(hr:ZX (k+1) X.A)(hg:Gl X x)(hm:X.mg x=some (.ref C))(hb:Zt X.K fd ps ds)(hd:ZO jJ ds)(hx:QJ CX X E)(ha:PA X (e :: es) t)(jy:(x==("__debug__" : Str))=false:=by decide)(he:ax (e :: es) X.env=(false,aI e X.env) :: ax es X.env:=by rfl)(jv:(aH pos (ax es X.env)).any (·.1)=false:=by rfl):
  PE X (.Call (.Name x p) (e :: es) [] pos) (Oy C sp jJ E t):=by
 intro pins s σ H Q I h;refine ag (QK I hg hm ?_ jy);refine vU (h₀:=X.base) I.ok.mod.kin M.kp (Zc (ha pos pins s σ H _ I h) fun us s1 ⟨vs,H1,I1,r,q⟩=>⟨I1.kIn,?_⟩) he jv;exact IV M F hr hb hd hx I1 r q
theorem Bl(M:Mk X.K C f)(F:ZJ X.prog X.w X.K X.mg X.base CX k f fd ps sp)(hr:ZX (k+1) X.A)(hg:Gl X x)(hm:X.mg x=some (.ref C))(hb:Zt X.K fd ps ds)(hd:ZO jJ ds)(hx:QJ CX X E)(jy:(x==("__debug__" : Str))=false:=by decide):PE X (.Call (.Name x p) [] [] pos) (Oy C sp jJ E V4):=by
 intro pins s σ H Q I h;refine ag (QK I hg hm ?_ jy);exact rL I.kIn M.kp (IV (us:=[]) M F hr hb hd hx I .nil h)
end
def PK(X:Cx)(kws:List Keyword)(t:TA):Prop:=
 ∀(pos:Pos)(pins:List (aj×aJ))(s:am)(σ:St)(H:Hp)(Q:jf->Hp->Prop),ZH X pins σ H s->t σ H Q->aD (aC X.prog X.w) X.A (evalAll ((backToKw pos (keywordEach kws X.env)).map (·.2))) (AP X pins σ Q) X.xe s
section
variable{X:Cx}{CX:VS}{k:Nat}{f C:aj}{fd:aq}{ps ks:List Str}{sp:Sp}{E:XK}{x m:Str}{p pos ju kpos:Pos}{e o:Expr}{es:List Expr}{kws:List Keyword}{te ta:TE}{t tk:TA}{nm:Option Str}
theorem Gp:PK X [] V4:=fun _ _ _ _ H Q I h=>wpAny_evalAll_nil ⟨[],H,I,.nil,h⟩
theorem Ja(ha:PE X e te)(hr:PK X kws t):PK X (⟨nm,e,kpos⟩ :: kws) (Y0 te t):=by
 intro pos pins s σ H Q I h;show aD _ _ (evalAll ((do let v<-aI e X.env;standAt pos;pure v) :: (backToKw pos (keywordEach kws X.env)).map (·.2))) _ _ s
 refine wpAny_evalAll_cons (aa (Zc (ha pins s σ H _ I h) fun u s1 ⟨x,H1,I1,r1,q1⟩=>aa (ah (ad ?_))));exact Zc (hr pos pins s1 σ H1 _ I1 q1) fun us s2 ⟨xs,H2,I2,r2,q2⟩=>⟨x :: xs,H2,I2,.cons r1 r2,q2⟩
variable{g:je->je->je}{gV:jf->jf->jf}
end
structure ZC(N P:List Str)(sc:aG):Prop where
 kind:sc.kind=.function
 co:sc.isCoroutine=false
 gen:sc.isGenerator=false
 nd:N.Nodup
 pre:N.take P.length=P
 par:∀ x∈P,sc.names.lookup x=some .local\/sc.names.lookup x=some .cell
 nofree:∀ y∈sc.names,y.2≠.free
theorem Zp{N P:List Str}{sc:aG}(h1:sc.kind=.function:=by rfl)(h2:sc.isCoroutine=false:=by rfl)(h3:sc.isGenerator=false:=by rfl)(h4:N.Nodup:=by decide +kernel)(h5:N.take P.length=P:=by rfl)(h6:∀ x∈P,sc.names.lookup x=some .local\/sc.names.lookup x=some .cell:=by decide +kernel)(h7:∀ y∈sc.names,y.2≠.free:=by decide +kernel):ZC N P sc:=⟨h1,h2,h3,h4,h5,h6,h7⟩
theorem Id{kindOf:Str->Option NameKind}{x:Str}:∀{binds:List (Str×ai)}{m:jc},(∀ v,(x,v)∉binds)->bindL kindOf binds m x=m x
 | [],_,_=>rfl
 | (n,v) :: r,m,h=>by
  unfold bindL;rw [Id fun w hw=>h w (zH _ hw)];split
  ·have:x≠n:=by rintro rfl;exact h v zK
   simp [this]
  ·rfl
theorem HK{kindOf:Str->Option NameKind}{x:Str}:∀{binds:List (Str×ai)}{m:jc},(∀ v,(x,v)∉binds)->bindC kindOf binds m x=m x
 | [],_,_=>rfl
 | (n,v) :: r,m,h=>by
  unfold bindC;rw [HK fun w hw=>h w (zH _ hw)];split
  ·rfl
  ·have:x≠n:=by rintro rfl;exact h v zK
   simp [this]
theorem HP{kindOf:Str->Option NameKind}{x:Str}{v:ai}:∀{P:List Str}{vs:je}{i:Nat}{m:jc},P.Nodup->P[i]? = some x->vs[i]? = some v->kindOf x=some .local ->
  bindL kindOf (P.zip vs) m x=some v
 | [],_,_,_,_,h,_,_=>by simp at h
 | _ :: _,[],_,_,_,_,h,_=>by simp at h
 | p :: P,w :: vs,0,m,nd,h1,h2,hk=>by
  simp at h1 h2;subst h1;subst h2;show bindL kindOf ((p,w) :: P.zip vs) m p=_;unfold bindL;rw [Id fun v hv=>(wP.mp nd).1 (uN hv).1,aP hk];simp
 | p :: P,w :: vs,i+1,m,nd,h1,h2,hk=>by
  show bindL kindOf ((p,w) :: P.zip vs) m x=_;unfold bindL;exact HP (i:=i) (wP.mp nd).2 (by simpa using h1) (by simpa using h2) hk
theorem HJ{kindOf:Str->Option NameKind}{x:Str}{v:ai}:∀{P:List Str}{vs:je}{i:Nat}{m:jc},P.Nodup->P[i]? = some x->vs[i]? = some v->kindOf x≠some .local ->
  bindC kindOf (P.zip vs) m x=some v
 | [],_,_,_,_,h,_,_=>by simp at h
 | _ :: _,[],_,_,_,_,h,_=>by simp at h
 | p :: P,w :: vs,0,m,nd,h1,h2,hk=>by
  simp at h1 h2;subst h1;subst h2;show bindC kindOf ((p,w) :: P.zip vs) m p=_;unfold bindC;rw [HK fun v hv=>(wP.mp nd).1 (uN hv).1,aO hk];simp
 | p :: P,w :: vs,i+1,m,nd,h1,h2,hk=>by
  show bindC kindOf ((p,w) :: P.zip vs) m x=_;unfold bindC;exact HJ (i:=i) (wP.mp nd).2 (by simpa using h1) (by simpa using h2) hk
def Vr(N:List Str)(vs:jf):St:=vs.map some++wR (N.length - vs.length) none
def X9(CX:VS)(P:ao)(w:ay)(K:zZ)(mg:jc)(base:aF)(N:List Str)(qual:Str)(scope:aG)(f:aj)(cd:ai)(A:az)(outer:List Env)(s:am)(H:Hp)(E:XK):Cx where
 prog:=P
 w:=w
 K:=K
 mg:=mg
 base:=base
 A:=A.deeper (envOfC qual scope s.heap.objs.size f cd)
 N:=N
 s₀:=s
 H₀:=H
 env:=envOfC qual scope s.heap.objs.size f cd
 outer:=outer
 stack:=envOfC qual scope s.heap.objs.size f cd :: outer
 ex:=[]
 calm:=true
 fn:=fun _=>true
 pn:=[]
 xe:=fun e s'=>aD (aC P w) (A.deeper (envOfC qual scope s.heap.objs.size f cd)) (leaving (envOfC qual scope s.heap.objs.size f cd) e) (fun _ s''=>CX outer H s E e s'') (fun e' s''=>CX outer H s E e' s'') s'
theorem IJ{sc:aG}{n:Nat}{x:Str}(h:sc.names.lookup x=some .cell):∃ c,(cellsFrom n sc.names []).lookup x=some c:=by
 have q:=sF sc.names n [] (.inl h);exact vR.mp q
theorem IW{CX:VS}{P:ao}{w:ay}{K:zZ}{mg:jc}{base:aF}{N ps:List Str}{qual:Str}{scope:aG}{f:aj}{cd:ai}{A:az}{outer:List Env}{s s1:am}{H:Hp}{E:XK}{us:je}{vs:jf}(S:ZC N ps scope)(hd:A.handled=none)(e0:Wg P w K mg base A outer s H)(hl:vs.length=ps.length)(r:ZO vs us)(x:InCallC s s.heap.objs.size (bindL (envOfC qual scope s.heap.objs.size f cd).kindOf (ps.zip us) fun _=>none) (cellsFrom (s.heap.objs.size+1) scope.names []) (bindC (envOfC qual scope s.heap.objs.size f cd).kindOf (ps.zip us) fun _=>none) s1):
  ZH (X9 CX P w K mg base N qual scope f cd A outer s H E) [] (Vr N vs) H s1:=by
 have jv:ps.length<=N.length:=by have:=congrArg wL S.pre;rw [xH] at this;lia
 obtain ⟨h1,tk,rfl,hk⟩:=x.done;have noA:∀ b:aj,b∉(X9 CX P w K mg base N qual scope f cd A outer s H E).ex:=fun b z=>absurd (show b∈([]:List aj) from z) (by simp)
 refine ⟨⟨e0.mod,S.kind,rfl,rfl,zY _,fun y z c h1 h2=>?_,fun y hy=>?_,fun y c _ h=>?_,fun _=>hd,Around.frames_deeper e0.frames,.inr ⟨rfl,rfl⟩,fun b z=>absurd z (noA b),e0.bs,e0.bsz,fun b _ _=>noA b,fun b z=>absurd z (noA b),e0.funs,e0.frf⟩,
  rfl,e0.bare,Un.kept hk,⟨_,x.toInCall.ns,fun i y v h1 h2 h3=>?_⟩,fun y c h=>⟨_,x.cell y c h⟩,e0.hok.fresh (zY _),fun y c h=>?_,fun p hp=>absurd (show p∈([]:List (aj×aJ)) from hp) (by simp),e0.hok.kept hk,?_⟩
 ·exact name_of_addr x.apart (PySem.mem_of_lookup h1) (PySem.mem_of_lookup h2)
 ·have hy:scope.names.lookup y=some .cell\/scope.names.lookup y=some .free:=hy;rcases hy with hy | hy
  ·exact IJ hy
  ·exact absurd rfl (S.nofree _ (PySem.mem_of_lookup hy))
 ·exact xY (x.above y c (PySem.mem_of_lookup h))
 ·have hi:i<vs.length:=by
   unfold Vr at h2;by_cases hi:i<vs.length
   ·exact hi
   ·rw [xW (by simpa using hi)] at h2
    rw [List.getElem?_replicate] at h2;split at h2 <;> cases h2
  have ha:vs[i]? = some v:=by
   unfold Vr at h2;rw [wX (by simpa using hi),zL] at h2
   cases e:vs[i]? with
   | none=>rw [e] at h2;cases h2
   | some a=>rw [e] at h2;cases h2;rfl
  obtain ⟨u,hu,rv⟩:=r.get ha;have hp:ps[i]? = some y:=by
   rw [<-S.pre,List.getElem?_take_of_lt (by lia)];exact h1
  have ndP:ps.Nodup:=by rw [<-S.pre];exact S.nd.sublist (List.take_sublist _ _)
  refine ⟨u,rv,?_⟩;rcases S.par y (zN hp) with k | k
  ·exact .inl ⟨k,HP ndP hp hu k⟩
  ·obtain ⟨c,e⟩:=IJ (n:=s.heap.objs.size+1) k;refine .inr ⟨.inl k,c,e,?_⟩;have q:=x.cell y c e;rw [HJ ndP hp hu (by show scope.names.lookup y≠_;rw [k];decide)] at q
   exact q
 ·exact e0.hok.fresh (xY (x.above y c (PySem.mem_of_lookup h)))
 ·unfold Vr;show _=N.length;rw [zU,zX,List.length_replicate]
  lia
theorem Lc{CX:VS}{P:ao}{w:ay}{K:zZ}{mg:jc}{base:aF}{k:Nat}{f:aj}{name qual:Str}{params:Arguments}{body:List aE}{scope:aG}{dV kV doc pm cdv ct oc:ai}{an od:Option aj}{jK:Array (jd)}{N ps:List Str}{sp:Sp}(lk:K.lookup f=some ⟨oc,od,.func (yH name qual params body scope dV kV doc pm an cdv ct),jK⟩)(jD:xJ K cdv qual=true)(S:ZC N ps scope)(len:∀ vs H Q E,sp vs H Q E->vs.length=ps.length)(jp:∀ (A:az) (outer:List Env) (s:am) (H:Hp) (vs:jf) (Q:VK) (E:XK),ZX k (A.deeper (envOfC qual scope s.heap.objs.size f cdv))->sp vs H Q E ->
   ∃ t,Xn (X9 CX P w K mg base N qual scope f cdv A outer s H E) body t/\t { nx:=fun _ H'=>Q .non H',rt:=Q } (Vr N vs) H):
  ZJ P w K mg base CX (k+1) f (yH name qual params body scope dV kV doc pm an cdv ct) ps sp:=by
 refine ⟨len,fun A outer s H args us vs Q E hr e0 hb r jE=>?_⟩;have hl:=len _ _ _ _ jE;have KX:K.In s.heap:=e0.mod.kin.keeps fun b o e=>(e0.bs b o e).1;have lim:s.heap.NoLimit:=e0.mod.nolimit.keeps fun b o e=>(e0.bs b o e).1;have jB:∀ y∈ps.zip us,scope.names.lookup y.1=some .local\/(scope.names.lookup y.1=some .cell/\((cellsFrom (s.heap.objs.size+1) scope.names []).lookup y.1).isSome=true):=fun ⟨n,v⟩ hy=>by
  rcases S.par n (uN hy).1 with q | q
  ·exact .inl q
  ·exact .inr ⟨q,sF _ _ _ (.inl q)⟩
 refine codeAny_call_function hr.depth (KX _ _ lk) rfl S.co S.gen rfl (PySem.W.codeRec_of KX jD) (hb _ _ _ _ ?_);refine wpAny_newFunctionEnv_cells S.kind jB fun env he s1 x=>?_;subst he;refine ⟨lim.keeps x.toInCall.keep,codeAny_func ?_⟩;obtain ⟨t,ht,hq⟩:=jp A outer s H vs Q E (hr.deeper _) jE;have I:ZH (X9 CX P w K mg base N qual scope f cdv A outer s H E) [] (Vr N vs) H s1:=IW S hr.hd e0 hl r x;refine ae (ht [] s1 (Vr N vs) H _ I hq) (fun fl s' hs=>?_) fun e s' hs=>hs;have fin:∀{σ':St}{H':Hp}{v:V}{u:ai},ZH (X9 CX P w K mg base N qual scope f cdv A outer s H E) [] σ' H' s'->ZT v u->Q v H'->CE outer P w H s Q u s':=
  fun{σ' H' v u} J rv q=>⟨v,H',J.os,J.bare,J.base,J.hok,rv,q⟩
 cases fl with
 | ret u=>
  obtain ⟨v,σ',H',J,rv,q⟩:=hs;exact fin J rv q
 | next=>
  obtain ⟨σ',H',J,q⟩:=hs;exact fin (v:=V.non) (u:=Value.none) J rfl q
 | brk=>
  obtain ⟨_,_,_,q⟩:=hs;exact False.elim q
 | cont=>
  obtain ⟨_,_,_,q⟩:=hs;exact False.elim q
section
variable{X:Cx}{x:Str}{p pos:Pos}{e:Expr}{es:List Expr}{t:TA}{id T:String}{r:jf->Hp->VK->Prop}
def GV(r:jf->Hp->VK->Prop)(t:TA):TE:=fun σ H Q=>t σ H fun vs H1=>r vs H1 Q
theorem Z4(hc:VW X (.builtin id) r)(hg:Gl X x)(hm:X.mg x=none)(hv:aA x=some (.builtin id))(ha:PA X (e :: es) t)(hn:x ≠ "__name__" :=by decide)(jy:(x==("__debug__" : Str))=false:=by decide)(he:ax (e :: es) X.env=(false,aI e X.env) :: ax es X.env:=by rfl)(jv:(aH pos (ax es X.env)).any (·.1)=false:=by rfl):PE X (.Call (.Name x p) (e :: es) [] pos) (GV r t):=by
 intro pins s σ H Q I h;refine ag (PN I hg hm hv ?_ hn jy);exact PyProof.Rows.callWith_builtin1 (Zc (ha pos pins s σ H _ I h) fun us s1 ⟨vs,H1,I1,r1,q1⟩=>hc pins s1 σ H1 vs us Q I1 r1 q1) he jv
theorem Wy(hc:VW X (.type T) r)(hg:Gl X x)(hm:X.mg x=none)(hv:aA x=some (.type T))(ha:PA X (e :: es) t)(hn:x ≠ "__name__" :=by decide)(jy:(x==("__debug__" : Str))=false:=by decide)(he:ax (e :: es) X.env=(false,aI e X.env) :: ax es X.env:=by rfl)(jv:(aH pos (ax es X.env)).any (·.1)=false:=by rfl):PE X (.Call (.Name x p) (e :: es) [] pos) (GV r t):=by
 intro pins s σ H Q I h;refine ag (PN I hg hm hv ?_ hn jy);exact PyProof.Rows.callWith_type1 (Zc (ha pos pins s σ H _ I h) fun us s1 ⟨vs,H1,I1,r1,q1⟩=>hc pins s1 σ H1 vs us Q I1 r1 q1) he jv
end
end L2
namespace HT
open PySem PyProof.Rows
theorem rcLt_int(A:az)(s:am)(a:Int)(t:Tok)(c:Int)(u:Tok)(prog:ao)(w:ay)(E:jb)(Q:jb)(h:Q (.bool (decide (a<c))) s):
  aD (aC prog w) A (richCompare .Lt (.int a t) (.int c u)) Q E s:=
 (PyProof.Rows.lt_int h:aD (aC prog w) A (aB .Lt (.int a t) (.int c u)) Q E s)
section
open PySem.SeqAt
open PySem.AutoSeq1 (wpAny_loadPart')
open PySem.MeetsSeq PySem.MeetsSeq2 PySem.MeetsSeq3
end
section
variable{prog:ao}{w:ay}{A:az}{E:jb}{s:am}
def sIx(n d:Nat):Option Int->Nat
 | none=>d
 | some v=>if v<0 then (v+(n:Int)).toNat else min v.toNat n
theorem sIx_none(n d:Nat):sIx n d none=d:=rfl
theorem sIx_nat(n d k:Nat):sIx n d (some (k:Int))=min k n:=by
 show (if (k:Int)<0 then ((k:Int)+(n:Int)).toNat else min (k:Int).toNat n)=min k n
 rw [aO (by lia),vW]
end
end HT
namespace L2
open PySem PySem.Spec PyProof.Rows
abbrev TO:=St->Hp->(Option Int->Hp->Prop)->Prop
def PO(X:Cx)(e:Option Expr)(t:TO):Prop:=
 ∀(pins:List (aj×aJ))(s:am)(σ:St)(H:Hp)(Q:Option Int->Hp->Prop),ZH X pins σ H s->t σ H Q ->
  aD (aC X.prog X.w) X.A (evalPart e X.env) (fun u s'=>∃ o H',ZH X pins σ H' s'/\IsPart u o/\Q o H') X.xe s
def BK:TO:=fun _ H Q=>Q none H
def Et(t:TE):TO:=fun σ H Q=>t σ H fun x H1=>∃ i,x=.int i/\Q (some i) H1
theorem Es{ns:List Int}:∀{us:je},ZO (ns.map V.int) us->IntsAre us ns:=by
 induction ns with
 | nil=>intro us r;rw [wV] at r;cases r;exact .nil
 | cons n ns ih=>
  intro us r;rw [zF] at r
  cases r with
  | cons r1 r2=>
   obtain ⟨t,e⟩:=r1;subst e;exact .cons n t (ih r2)
section
variable{X:Cx}{e:Expr}{te:TE}{lo hi:Option Expr}{tl th:TO}{pos p2:Pos}
theorem Jl:PO X none BK:=by
 intro pins s σ H Q I h;rw [evalPart_none];exact ad ⟨none,H,I,.none,h⟩
theorem P1(h:PE X e te):PO X (some e) (Et te):=by
 intro pins s σ H Q I hw;rw [evalPart_some];refine Zc (h pins s σ H _ I hw) fun u s1 ⟨x,H1,I1,r1,q1⟩=>?_;obtain ⟨i,rfl,q⟩:=q1;obtain ⟨t,rfl⟩:=r1;exact ⟨some i,H1,I1,.int i t,q⟩
def IB(X:Cx)(r:V->Option Int->Option Int->Hp->VK->Prop):Prop:=
 ∀(pins:List (aj×aJ))(s:am)(σ:St)(H:Hp)(x:V)(v vl vu:ai)(lo hi:Option Int)(sl:aj)(Q:VK),ZH X pins σ H s->ZT x v->s.heap.IsSliceOf sl vl vu .none->IsPart vl lo->IsPart vu hi->r x lo hi H Q ->
  ∃ T id,typeLookup (.type T) "__getitem__" = pure (some (.builtin id))/\s.TypeIs v T/\aD (aC X.prog X.w) X.A (getItem v (.ref sl)) (EP X pins σ Q) X.xe s
def B5(r:V->Option Int->Option Int->Hp->VK->Prop)(te:TE)(tl th:TO):TE:=fun σ H Q=>te σ H fun x H1=>tl σ H1 fun l H2=>th σ H2 fun u H3=>r x l u H3 Q
theorem N0{r:V->Option Int->Option Int->Hp->VK->Prop}(hr:IB X r)(he:PE X e te)(hl:PO X lo tl)(hu:PO X hi th):PE X (.Subscript e (.Slice lo hi none p2) pos) (B5 r te tl th):=by
 intro pins s σ H Q I h;refine Subscript_ (Zc (he pins s σ H _ I h) fun v s1 ⟨x,H1,I1,r1,q1⟩=>?_);refine wpAny_Slice (Zc (hl pins s1 σ H1 _ I1 q1) fun vl s2 ⟨l,H2,I2,pl,q2⟩=>Zc (hu pins s2 σ H2 _ I2 q2) fun vu s3 ⟨u,H3,I3,pu,q3⟩=>?_);rw [evalPart_none];refine ad ?_;have I4:ZH X pins σ H3 { s3 with heap:=s3.heap.push { cls:=.type "slice",data:=.fields #[vl,vu,.none] } }:=I3.kept (t':=s3.toks) fun b ob q=>zR _ q;obtain ⟨T,id,hT,ht,hg⟩:=hr pins { s3 with heap:=s3.heap.push { cls:=.type "slice",data:=.fields #[vl,vu,.none] } } σ H3 x v vl vu l u s3.heap.objs.size Q I4 r1 (Heap.IsSliceOf.new ..) pl pu q3;show aD (aC X.prog X.w) X.A (subscriptTail e (.Slice lo hi none p2) v (.ref s3.heap.objs.size)) (EP X pins σ Q) X.xe { s3 with heap:=s3.heap.push { cls:=.type "slice",data:=.fields #[vl,vu,.none] } };exact tail_any (ops:=[.ref s3.heap.objs.size,v]) ht hT hg (by with_unfolding_all rfl)
def U9(xs:jf)(lo hi:Option Int):jf:=(xs.drop (HT.sIx xs.length 0 lo)).take (HT.sIx xs.length xs.length hi - HT.sIx xs.length 0 lo)
theorem ZGE(xs:jf)(lo hi:Option Int):(U9 xs lo hi).length<=xs.length:=by
 unfold U9;rw [xH,uL]
 lia
end
def Qe(n:Nat)(i:Int):Option Nat:=if 0<=i then (if i<n then some i.toNat else none) else if -(n:Int)<=i then some (i+n).toNat else none
def WM{α:Type}(xs:List α)(i:Int):Option α:=(Qe xs.length i).bind fun j=>xs[j]?
theorem He{n:Nat}{i:Int}{j:Nat}(h:Qe n i=some j):seqIndex? i n=some j/\j<n /\ -(n:Int)<=i/\i<n:=by
 unfold Qe at h;by_cases h0:0<=i
 ·rw [aP h0] at h;by_cases h1:i<n
  ·rw [aP h1] at h;have e:i.toNat=j:=zD.inj h;exact ⟨by rw [seqIndex_of h0 h1,e],by lia,by lia,h1⟩
  ·rw [aO h1] at h;cases h
 ·rw [aO h0] at h;by_cases h1 : -(n:Int)<=i
  ·rw [aP h1] at h;have e:(i+n).toNat=j:=zD.inj h;exact ⟨by rw [seqIndex_neg (by lia) h1,e],by lia,h1,by lia⟩
  ·rw [aO h1] at h;cases h
theorem MJ{α:Type}{xs:List α}{i:Int}{v:α}(h:WM xs i=some v):∃ j,seqIndex? i xs.length=some j/\xs[j]? = some v/\j<xs.length /\ -(xs.length:Int)<=i/\i<xs.length:=by
 unfold WM at h
 cases e:Qe xs.length i with
 | none=>rw [e] at h;cases h
 | some j=>
  rw [e] at h;obtain ⟨h1,h2,h3,h4⟩:=He e;exact ⟨j,h1,h,h2,h3,h4⟩
theorem Xb{α:Type}{xs:List α}{j:Nat}{v:α}(h:xs[j]? = some v):WM xs (j:Int)=some v:=by
 have hj:j<xs.length:=(yV.mp h).1;have e:Qe xs.length (j:Int)=some j:=by
  unfold Qe;rw [aP (by lia),aP (by lia)];simp
 unfold WM;rw [e];exact h
theorem G6{α:Type}(xs:List α)(v:α):WM (xs++[v]) (-1)=some v:=by
 have hl:(xs++[v]).length=xs.length+1:=by simp
 have e:Qe (xs++[v]).length (-1)=some xs.length:=by
  unfold Qe;rw [hl,aO (by decide),aP (by lia)]
  congr 1
  lia
 unfold WM;rw [e];show (xs++[v])[xs.length]? = some v;simp
def ZNG(b:Expr):Prop:=∀ o i,subscripted b false o i=operate [o,i] (getItem o i)
def QS(X:Cx)(r:R2):Prop:=
 ∀(value slice:Expr)(pins:List (aj×aJ))(s:am)(σ:St)(H:Hp)(x y:V)(v u:ai)(Q:VK),ZH X pins σ H s->ZT x v->ZT y u->r x y H Q ->
  subscripted slice false v u=operate [v,u] (getItem v u)->aD (aC X.prog X.w) X.A (subscriptTail value slice v u) (EP X pins σ Q) X.xe s
def IK(X:Cx)(id:String)(r:V->jf->Hp->VK->Prop):Prop:=
 ∀(pins:List (aj×aJ))(s:am)(σ:St)(H:Hp)(x:V)(xs:jf)(v:ai)(us:je)(Q:VK),ZH X pins σ H s->ZT x v->ZO xs us->r x xs H Q ->
  aD (aC X.prog X.w) X.A (call (.builtin id) (v :: us)) (EP X pins σ Q) X.xe s
section
variable{X:Cx}{a b:Expr}{ta tb:TE}{pos:Pos}
theorem QS.or{r r':R2}(h:QS X r)(h':QS X r'):QS X (fun x y H Q=>r x y H Q\/r' x y H Q):=by
 intro value slice pins s σ H x y v u Q I rx ry q hs;rcases q with q | q
 ·exact h value slice pins s σ H x y v u Q I rx ry q hs
 ·exact h' value slice pins s σ H x y v u Q I rx ry q hs
theorem Zn{r:R2}(hr:QS X r)(ha:PE X a ta)(hb:PE X b tb)(hs:ZNG b):PE X (.Subscript a b pos) (Pr r ta tb):=by
 intro pins s σ H Q I h;exact Subscript_ (MH ha hb I h fun v u s2 x y H2 I2 rx ry q=>hr a b pins s2 σ H2 x y v u Q I2 rx ry q (hs _ _))
def Kv(K:zZ):R2:=fun x y H Q=>∃ p xs i v,x=.ref p/\y=.int i/\ZL K H p xs/\WM xs i=some v/\Q v H
def Xk(K:zZ):R2:=fun x y H Q=>∃ p xs i v,x=.ref p/\y=.int i/\Zo K H p xs/\WM xs i=some v/\Q v H
def Hz:R2:=fun x y H Q=>∃ z i c,x=.str z/\y=.int i/\z.length<=aw/\WM z.cps.toList i=some c/\Q (.str ⟨#[c]⟩) H
theorem Zs:QS X (Kv X.K):=by
 intro value slice pins s σ H x y v u Q I rx ry h hs;obtain ⟨p,xs,i,z,rfl,rfl,hq,he,q⟩:=h;cases rx;obtain ⟨t,rfl⟩:=ry;obtain ⟨jj,r,pl,hz⟩:=I.list hq;obtain ⟨j,h1,h2,h3,h4,h5⟩:=MJ he;obtain ⟨w,ew,rw'⟩:=r.get h2;have hl:=r.length;have hn:=Pl;have fin:EP X pins σ Q w s:=⟨z,H,I,rw',q⟩;by_cases h0:0<=i
 ·have hj:i.toNat=j:=by
   rw [seqIndex_of h0 h5] at h1;exact zD.inj h1
  exact item_listR pl.isList h0 (by lia) (by rw [hj];simpa using ew) fin hs
 ·have hj:(i+(jj.toArray.size:Int)).toNat=j:=by
   rw [seqIndex_neg (by lia) h4] at h1
   rw [zO,<-hl];exact zD.inj h1
  exact subscriptTail_builtinR (x:=w) pl.isList.typeIs slot_list_getitem.lookup
   (wpAny_getItem_list_neg (Q:=fun r s'=>r=w/\EP X pins σ Q r s') pl.isList (by lia) (by rw [zO] <;> lia) (by lia) (by rw [hj];simpa using ew) ⟨rfl,fin⟩) hs
theorem Zi:QS X (Xk X.K):=by
 intro value slice pins s σ H x y v u Q I rx ry h hs;obtain ⟨p,xs,i,z,rfl,rfl,hq,he,q⟩:=h;cases rx;obtain ⟨t,rfl⟩:=ry;obtain ⟨jj,r,pl,hz⟩:=I.tuple hq;obtain ⟨j,h1,h2,h3,h4,h5⟩:=MJ he;obtain ⟨w,ew,rw'⟩:=r.get h2;have hl:=r.length;have hn:=Pl;have fin:EP X pins σ Q w s:=⟨z,H,I,rw',q⟩;exact subscriptTail_builtinR (x:=w) pl.typeIs slot_tuple_getitem.lookup
  (getItem_tuple (j:=j) (Q:=fun r s'=>r=w/\EP X pins σ Q r s') pl (by lia) (by lia) (by rw [zO,<-hl];exact h1) (by simpa using ew) ⟨rfl,fin⟩) hs
theorem G2:QS X Hz:=by
 intro value slice pins s σ H x y v u Q I rx ry h hs;obtain ⟨z,i,c,rfl,rfl,hz,he,q⟩:=h;obtain ⟨t,rfl⟩:=rx;obtain ⟨t',rfl⟩:=ry;obtain ⟨j,h1,h2,h3,h4,h5⟩:=MJ he;have hl:z.cps.toList.length=z.length:=by simp [Str.length]
 rw [hl] at h1 h4 h5;have hn:=Pl;exact tail_any (typeIs_str s z t) slot_str_getitem.lookup (getItem_str (c:=c) (by
  have e1:decide (i < -(2 ^ 63:Int))=false:=aK (by lia)
  have e2:decide (i ≥ 2 ^ 63)=false:=aK (by lia)
  rw [e1,e2,Bool.or_false]) (by rw [h1];simpa using h2) ⟨.str ⟨#[c]⟩,H,I.tok _,⟨_,rfl⟩,q⟩) hs
def YI(K:zZ):R2:=fun x y H Q=>Kv K x y H Q\/Xk K x y H Q\/Hz x y H Q
theorem YO:QS X (YI X.K):=Zs.or (Zi.or G2)
theorem CO(jj:je)(n j:Nat)(u:ai):Obj.mapSeq (·.setIfInBounds j u) { cls:=.type "list",data:=.seq jj.toArray n }={ cls:=.type "list",data:=.seq (jj.set j u).toArray n }:=by
 simp [Obj.mapSeq]
theorem ZH.lst{pins:List (aj×aJ)}{σ:St}{H:Hp}{s:am}{p:aj}{xs:jf}(I:ZH X pins σ H s)(h:H p=some (.lst xs)):
  ∃(jj:je)(n:Nat),ZO xs jj/\s.heap.get? p=some { cls:=.type "list",data:=.seq jj.toArray n }/\xs.length<=sizeLine:=by
 obtain ⟨z,jj,n,r,e⟩:=I.hok p _ h;exact ⟨jj,n,r,e,z⟩
theorem ZH.lstUpd{pins:List (aj×aJ)}{σ:St}{H:Hp}{s:am}{p:aj}{xs ys:jf}{jj its':je}{n n':Nat}{f:aJ->aJ}(I:ZH X pins σ H s)(h:H p=some (.lst xs))(ho:s.heap.get? p=some { cls:=.type "list",data:=.seq jj.toArray n })(hf:f { cls:=.type "list",data:=.seq jj.toArray n }={ cls:=.type "list",data:=.seq its'.toArray n' })(r:ZO ys its')(hz:ys.length<=aw)(t:Nat):
  ZH X pins σ (upd H p (.lst ys)) { s with heap:=s.heap.update p f,toks:=t }:=by
 have e:(s.heap.update p f).get? p=some { cls:=.type "list",data:=.seq its'.toArray n' }:=by
  rw [wF f ho (by rw [hf] <;> rfl),hf]
 refine I.write (x:=p) (e:=p) (by rw [h];trivial) (.inl rfl) (fun b u hb q=>(wD _ _ (Ne.symm hb)).trans q) ⟨_,e⟩ ?_
 exact ⟨hz,its',n',r,e⟩
def ZQJ:V->V->V->Hp->(Hp->Prop)->Prop:=fun o i v H Q=>∃ p xs k j,o=.ref p/\i=.int k/\H p=some (.lst xs)/\Qe xs.length k=some j/\Q (upd H p (.lst (xs.set j v)))
theorem LB:Hf X ZQJ:=by
 intro pins s σ H o i v ov iv u Q I ro ri rv h;obtain ⟨p,xs,k,j,rfl,rfl,hp,hj,q⟩:=h;cases ro;obtain ⟨t,rfl⟩:=ri;obtain ⟨jj,n,r,ho,hz⟩:=I.lst hp;obtain ⟨h1,h2,h3,h4⟩:=He hj;have hl:=r.length;have hn:=Pl;have I':ZH X pins σ (upd H p (.lst (xs.set j v))) { s with heap:=s.heap.update p (Obj.mapSeq (·.setIfInBounds j u)) }:=
  I.lstUpd hp ho (CO jj n j u) (r.set rv j) (by rw [List.length_set];exact hz) s.toks
 by_cases h0:0<=k
 ·have hk:k.toNat=j:=by
   rw [seqIndex_of h0 h4] at h1;exact zD.inj h1
  exact PySem.W.ki_setAt ho h0 (by lia) (by rw [zO,<-hl];exact h4) (by rw [hk];exact ⟨_,I',q⟩)
 ·have hk:(k+(jj.toArray.size:Int)).toNat=j:=by
   rw [seqIndex_neg (by lia) h3] at h1
   rw [zO,<-hl];exact zD.inj h1
  exact PySem.W.ki_setBack ho (by lia) (by rw [zO,<-hl];exact h3) (by lia) (by rw [hk];exact ⟨_,I',q⟩)
theorem D5(lo hi:Option Int)(n:Nat):(sliceBounds lo hi none n).1=((HT.sIx n 0 lo:Nat):Int)/\(sliceBounds lo hi none n).2.1=((HT.sIx n n hi:Nat):Int)/\(sliceBounds lo hi none n).2.2=1:=by
 refine ⟨?_,?_,rfl⟩
 ·cases lo with
  | none=>simp [sliceBounds,HT.sIx]
  | some i=>
   simp only [sliceBounds,HT.sIx,Option.getD_none,show (1:Int) > 0 by decide,if_true]
   by_cases h:i<0
   ·simp only [h,if_true] <;> lia
   ·simp only [h,if_false] <;> lia
 ·cases hi with
  | none=>simp [sliceBounds,HT.sIx]
  | some i=>
   simp only [sliceBounds,HT.sIx,Option.getD_none,show (1:Int) > 0 by decide,if_true]
   by_cases h:i<0
   ·simp only [h,if_true] <;> lia
   ·simp only [h,if_false] <;> lia
theorem EH(jj:je)(lo hi:Option Int):slicePick jj.toArray lo hi none=((jj.drop (HT.sIx jj.length 0 lo)).take (HT.sIx jj.length jj.length hi - HT.sIx jj.length 0 lo)).toArray:=by
 obtain ⟨h1,h2,h3⟩:=D5 lo hi jj.toArray.size;unfold slicePick;rw [h1,h2,h3];simp only [sliceRange_one,pick_run,zO] <;> rfl
def ZQj(K:zZ):V->Option Int->Option Int->Hp->VK->Prop:=fun x lo hi H Q=>∃ a xs,x=.ref a/\ZL K H a xs/\∀ p,H p=none->Q (.ref p) (upd H p (.lst (U9 xs lo hi)))
theorem Nk:IB X (ZQj X.K):=by
 intro pins s σ H x v vl vu lo hi sl Q I rx hs pl pu h;obtain ⟨a,xs,rfl,hx,q⟩:=h;cases rx;obtain ⟨jj,r,ht,hz⟩:=I.list hx;have hlen:=r.length;refine ⟨"list",_,slot_list_getitem.lookup,ht.isList.typeIs,?_⟩;refine wpAny_getItem_list_slice ht.isList hs pl pu .none (by simp) ?_ (by rw [zO] <;> lia)
 rw [EH,<-hlen];refine ⟨.ref s.heap.objs.size,_,I.laid (t':=s.toks) (o:=.lst (U9 xs lo hi)) (fun b ob q=>zR _ q) (zY _) ?_,rfl,q _ (I.hok.fresh (zY _))⟩;exact ⟨yK (ZGE xs lo hi) hz,_,0,(r.drop (HT.sIx xs.length 0 lo)).take (HT.sIx xs.length xs.length hi - HT.sIx xs.length 0 lo),yS _ rfl⟩
theorem Xu:VW X (.builtin "len") (fun xs H Q=>∃ p ys,xs=[.ref p]/\(ZL X.K H p ys\/Zo X.K H p ys)/\Q (.int ys.length) H):=by
 intro pins s σ H xs us Q I r h;obtain ⟨p,ys,rfl,hq,q⟩:=h;obtain ⟨u,rfl,rx⟩:=Vk r;cases rx;have hn:=Pl;rcases hq with hq | hq
 ·obtain ⟨jj,r',pl,hz⟩:=I.list hq;have hlen:=r'.length;exact Calls.call_len_list pl.isList (by simp only [zO] <;> lia) ⟨.int ys.length,H,I.tok _,⟨s.toks+1,by rw [zO,hlen]⟩,q⟩
 ·obtain ⟨jj,r',pl,hz⟩:=I.tuple hq;have hlen:=r'.length;exact len_tuple pl (by simp only [zO] <;> lia) ⟨.int ys.length,H,I.tok _,⟨s.toks+1,by rw [zO,hlen]⟩,q⟩
theorem Ca:VW X (.builtin "len") (fun xs H Q=>∃ z,xs=[.str z]/\z.length<=aw/\Q (.int z.length) H):=by
 intro pins s σ H xs us Q I r h;obtain ⟨z,rfl,hz,q⟩:=h;obtain ⟨u,rfl,t,rfl⟩:=Vk r;have hn:=Pl;exact len_str (by lia) ⟨.int z.length,H,I.tok _,⟨_,rfl⟩,q⟩
theorem Q5:VW X (.type "list") (fun xs H Q=>∃ p ys,xs=[.ref p]/\(ZL X.K H p ys\/Zo X.K H p ys)/\∀ l,H l=none->Q (.ref l) (upd H l (.lst ys))):=by
 intro pins s σ H xs us Q I r h;obtain ⟨p,ys,rfl,hq,q⟩:=h;obtain ⟨u,rfl,rx⟩:=Vk r;cases rx;have fin:∀(jj:je),ZO ys jj->ys.length<=aw->∀(h':aF)(c':Nat),(∀ b o',s.heap.get? b=some o'->h'.get? b=some o') ->
   h'.get? s.heap.objs.size=some { cls:=.type "list",dict:=none,data:=.seq jj.toArray c',slots:=#[] }->EP X pins σ Q (.ref s.heap.objs.size) { s with heap:=h' }:=fun jj r' hz h' c' kp e=>
  ⟨.ref s.heap.objs.size,_,I.laid (t':=s.toks) kp (zY _) (show Zf X.prog X.w _ h' _ (.lst ys) from ⟨hz,jj,c',r',e⟩),rfl,q _ (I.hok.fresh (zY _))⟩
 rcases hq with hq | hq
 ·obtain ⟨jj,r',pl,hz⟩:=I.list hq;have hlen:=r'.length;obtain ⟨o,ho,hc,n,hd⟩:=pl.isList;exact call_list_seq p (.inl rfl) ho hc hd (fun h' c' kp e=>fin jj r' hz h' c' kp e) (by simp only [zO] <;> lia)
 ·obtain ⟨jj,r',pl,hz⟩:=I.tuple hq;have hlen:=r'.length;obtain ⟨o,ho,hc,n,hd⟩:=pl;exact call_list_seq p (.inr rfl) ho hc hd (fun h' c' kp e=>fin jj r' hz h' c' kp e) (by simp only [zO] <;> lia)
theorem Po:VW X (.type "tuple") (fun xs H Q=>∃ p ys,xs=[.ref p]/\((ZL X.K H p ys/\∀ l,H l=none->Q (.ref l) (upd H l (.tup ys)))\/(Zo X.K H p ys/\Q (.ref p) H))):=by
 intro pins s σ H xs us Q I r h;obtain ⟨p,ys,rfl,h⟩:=h;obtain ⟨u,rfl,rx⟩:=Vk r;cases rx;rcases h with ⟨hq,q⟩ | ⟨hq,q⟩
 ·obtain ⟨jj,r',pl,hz⟩:=I.list hq;have hlen:=r'.length;refine call_tuple_list pl.isList (fun h' kp=>?_) (by simp only [zO] <;> lia)
  have I1:ZH X pins σ H { s with heap:=h' }:=I.kept (t':=s.toks) kp;have I2:ZH X pins σ (upd H h'.objs.size (.tup ys)) { s with heap:=h'.push { cls:=.type "tuple",data:=.seq jj.toArray } }:=
   I1.laid (t':=s.toks) (fun b o e=>zR _ e) (zY _) (show Zf X.prog X.w _ _ _ (.tup ys) from ⟨hz,jj,r',IsTup.new _ _⟩)
  exact ⟨.ref h'.objs.size,_,I2,rfl,q _ (I1.hok.fresh (zY _))⟩
 ·obtain ⟨jj,r',pl,hz⟩:=I.tuple hq;exact call_tuple_same pl ⟨.ref p,H,I,rfl,q⟩
def LS(K:zZ)(T:String)(x:V)(H:Hp):Prop:=match x with
 | .str _=>T = "str"
 | .int _=>T = "int"
 | .ref p=>(T = "list" /\ ∃ xs,ZL K H p xs)\/(T = "tuple" /\ ∃ o,K.lookup p=some o/\o.cls=.type "tuple" /\ o.dict=none) \/
   (T = "dict" /\ ((∃ kvs,H p=some (.dK kvs))\/∃ kvs,H p=some (.dT kvs)))\/(T = "set" /\ ∃ S n,H p=some (.set S n))
 | _=>False
theorem HA{pins:List (aj×aJ)}{σ:St}{H:Hp}{s:am}{T:String}{x:V}{v:ai}(I:ZH X pins σ H s)(r:ZT x v)(ty:LS X.K T x H):
  s.TypeIs v T/\∀ a,v=.ref a->∃ ob,s.heap.get? a=some ob/\ob.dict=none:=by
 cases x with
 | str z=>
  obtain ⟨t,rfl⟩:=r;cases (show T = "str" from ty);exact ⟨typeIs_str s z t,fun _ e=>nomatch e⟩
 | int i=>
  obtain ⟨t,rfl⟩:=r;cases (show T = "int" from ty);exact ⟨typeIs_int s i t,fun _ e=>nomatch e⟩
 | ref p=>
  cases r;rcases ty with ⟨rfl,xs,hq⟩ | ⟨rfl,o,hk,hc,hd⟩ | ⟨rfl,hk⟩ | ⟨rfl,S,n,hk⟩
  ·obtain ⟨jj,_,pl,_⟩:=I.list hq;refine ⟨pl.isList.typeIs,fun a e=>?_⟩;cases e;obtain ⟨o,n,e,c,hd,_⟩:=pl;exact ⟨o,e,hd⟩
  ·refine ⟨⟨o,I.kIn p o hk,hc⟩,fun a e=>?_⟩;cases e;exact ⟨o,I.kIn _ o hk,hd⟩
  ·have z:∃ o,s.heap.get? p=some o/\o.ExactDict:=by
    rcases hk with ⟨kvs,hk⟩ | ⟨kvs,hk⟩
    ·obtain ⟨_,_,_,_,o,_,_,e,ex,_⟩:=I.hok p _ hk;exact ⟨o,e,ex⟩
    ·obtain ⟨_,_,_,_,o,_,_,e,ex,_⟩:=I.hok p _ hk;exact ⟨o,e,ex⟩
   obtain ⟨o,e,ex⟩:=z;refine ⟨⟨o,e,ex.1⟩,fun a e2=>?_⟩;cases e2;exact ⟨o,e,ex.2.1⟩
  ·obtain ⟨o,_,_,_,e,ex,_⟩:=I.hok p _ hk;refine ⟨⟨o,e,ex.1⟩,fun a e2=>?_⟩;cases e2;exact ⟨o,e,ex.2.1⟩
 | _=>exact False.elim ty
def ZQx(K:zZ)(T:String)(r:V->jf->Hp->VK->Prop)(to:TE):TE:=fun σ H Q=>to σ H fun x H1=>LS K T x H1/\r x [] H1 Q
def tBM(K:zZ)(T:String)(r:V->jf->Hp->VK->Prop)(to:TE)(t:TA):TE:=fun σ H Q=>to σ H fun x H1=>LS K T x H1/\t σ H1 fun xs H2=>r x xs H2 Q
variable{o e:Expr}{es:List Expr}{to:TE}{t:TA}{name:Str}{ju jk:Pos}{T id:String}{r:V->jf->Hp->VK->Prop}
theorem M6(pa:PlainAttrs T)(slot:Slot T name id)(hty:typeOf (.builtin id)=pure (.type "method_descriptor"))(hm:IK X id r)(ho:PE X o to)(jU:attributeBase o name X.env (aI o X.env)=aI o X.env:=by rfl)(jV:(ju.endLine==jk.line)=true:=by rfl):PE X (.Call (.Attribute o name ju) [] [] jk) (ZQx X.K T r to):=by
 intro pins s σ H Q I h;refine wpAny_Call_method0_late jU jV (Zc (ho pins s σ H _ I h) fun v s1 ⟨x,H1,I1,r1,ty,q1⟩=>?_);obtain ⟨h1,h2⟩:=HA I1 r1 ty;exact ⟨T,id,pa,slot,hty,h1,h2,Calls.callWith_builtin rfl (PySem.evalArgs_none (hm pins s1 σ H1 x [] v [] Q I1 r1 .nil q1))⟩
theorem U0(pa:PlainAttrs T)(slot:Slot T name id)(hty:typeOf (.builtin id)=pure (.type "method_descriptor"))(hm:IK X id r)(ho:PE X o to)(ha:PA X (e :: es) t)(jU:attributeBase o name X.env (aI o X.env)=aI o X.env:=by rfl)(hfew:((aH jk (ax (e :: es) X.env)).all (fun x=>!x.1)&&(backToKw jk (keywordEach [] X.env)).all (fun x=>x.1.isSome)
   && decide ((e :: es).length+([]:List Keyword).length+(if ([]:List Keyword).isEmpty then 0 else 1)<30))=true:=by rfl)(jV:(ju.endLine==jk.line)=true:=by rfl)(hs:ax (e :: es) X.env=(false,aI e X.env) :: ax es X.env:=by rfl)(jF:(aH jk (ax es X.env)).any (·.1)=false:=by rfl):
  PE X (.Call (.Attribute o name ju) (e :: es) [] jk) (tBM X.K T r to t):=by
 intro pins s σ H Q I h;refine wpAny_Call_method_late jU hfew jV rfl (Zc (ho pins s σ H _ I h) fun v s1 ⟨x,H1,I1,r1,ty,q1⟩=>?_);obtain ⟨h1,h2⟩:=HA I1 r1 ty;refine ⟨T,id,pa,slot,hty,h1,h2,?_⟩;have hA:=ha jk pins s1 σ H1 _ I1 q1;rw [hs] at hA ⊢;refine Calls.callWith_builtin (by show (false || (aH jk (ax es X.env)).any (·.1))=false;rw [jF] <;> rfl) (Calls.evalArgs_plain ?_)
 exact Zc hA fun us s2 ⟨vs,H2,I2,r2,q2⟩=>hm pins s2 σ H2 x vs v us Q I2 r1 r2 q2
end
def N9(X:Cx)(id:String)(r:V->jf->Hp->VK->Prop):Prop:=
 ∀(pins:List (aj×aJ))(s:am)(σ:St)(H:Hp)(x:V)(xs:jf)(v:ai)(us:je)(Q:VK),ZH X pins σ H s->ZT x v->ZO xs us->r x xs H Q ->
  aD (aC X.prog X.w) X.A (call (.builtin id) (v :: us)) (EP X pins σ Q) X.xe s
theorem ZO.one:∀{x:V}{us:je},ZO [x] us->∃ u,us=[u]/\ZT x u
 | _,_,.cons r .nil=>⟨_,rfl,r⟩
theorem ZO.zero:∀{us:je},ZO [] us->us=[]
 | _,.nil=>rfl
theorem ZO.dropLast{xs:jf}{us:je}(h:ZO xs us):ZO xs.dropLast us.dropLast:=by
 induction h with
 | nil=>exact .nil
 | cons r t ih=>
  cases t with
  | nil=>exact .nil
  | cons q t'=>exact .cons r ih
theorem F6{α:Type}(l:List α):l.eraseIdx (l.length - 1)=l.dropLast:=by
 induction l with
 | nil=>rfl
 | cons a r ih=>
  cases r with
  | nil=>rfl
  | cons b r=>
   have e:(a :: b :: r).length - 1=((b :: r).length - 1)+1:=by
    have h1:(a :: b :: r).length=r.length+2:=rfl;have h2:(b :: r).length=r.length+1:=rfl
    lia
   rw [e,List.eraseIdx_cons_succ,ih]
   all_goals rfl
section
variable{X:Cx}{pins:List (aj×aJ)}{σ:St}{H:Hp}{s:am}{l b:aj}{xs ys zs:jf}
theorem ZH.lset{jj its':je}{n:Nat}{f:Array ai->Array ai}{t':Nat}(I:ZH X pins σ H s)(hH:H l=some (.lst xs))(e:s.heap.get? l=some { cls:=.type "list",data:=.seq jj.toArray n })(hf:f jj.toArray=its'.toArray)(hv:ZO ys its')(hz:ys.length<=aw):
  ZH X pins σ (upd H l (.lst ys)) { s with heap:=s.heap.update l (Obj.mapSeq f),toks:=t' }:=by
 have q:=PySem.IsL.update e f;rw [hf] at q;refine I.write (x:=l) (e:=l) (by rw [hH];exact trivial) (.inl rfl) (fun b' u hb hu=>(wD s.heap (Obj.mapSeq f) (Ne.symm hb)).trans hu) ⟨_,q⟩ ?_
 exact ⟨hz,its',_,hv,q⟩
theorem ZH.lnew{jj:je}{t':Nat}(I:ZH X pins σ H s)(hv:ZO ys jj)(hz:ys.length<=aw):
  ZH X pins σ (upd H s.heap.objs.size (.lst ys)) { s with heap:=s.heap.push { cls:=.type "list",data:=.seq jj.toArray },toks:=t' }:=
 I.laid (fun _ _ q=>zR _ q) (zY _) ⟨hz,jj,0,hv,yS _ rfl⟩
theorem ZH.fresh(I:ZH X pins σ H s):H s.heap.objs.size=none:=I.hok.fresh (zY _)
theorem ZH.lstM(I:ZH X pins σ H s)(hH:H l=some (.lst xs)):xs.length<=aw/\∃(jj:je)(n:Nat),ZO xs jj/\xs.length=jj.length/\s.heap.get? l=some { cls:=.type "list",data:=.seq jj.toArray n }:=by
 obtain ⟨z,jj,n,r,e⟩:=I.hok l _ hH;exact ⟨z,jj,n,r,r.length,e⟩
theorem ZKo{n:Nat}(h:n<=aw):Builtin.List.listTooLong n=false:=by
 unfold Builtin.List.listTooLong;exact aK (by lia)
end
section
variable{X:Cx}
def Cn:V->jf->Hp->VK->Prop:=fun x vs H Q=>∃ l xs y,x=.ref l/\vs=[y]/\H l=some (.lst xs)/\xs.length<aw/\Q .non (upd H l (.lst (xs++[y])))
theorem QD:N9 X "list.append" Cn:=by
 intro pins s σ H x vs v us Q I rx rv h;obtain ⟨l,xs,y,rfl,rfl,hH,hz,q⟩:=h;cases rx;obtain ⟨u,rfl,ru⟩:=rv.one;obtain ⟨z,jj,n,r,hl,e⟩:=I.lstM hH;refine call_meets F.slot_list_append ⟨_,e,rfl⟩ F.entry_list_append (F.args_list_append_2 _ _) (PySem.list_append l jj.toArray n u (by rw [zO];lia)) ⟨e,?_⟩
 refine ⟨.non,_,I.lset (its':=jj++[u]) hH e (by simp) (r.append (.cons ru .nil)) ?_,rfl,q⟩
 rw [zU,tY]
 lia
def ZQ5:V->jf->Hp->VK->Prop:=fun x vs H Q=>∃ l xs y,x=.ref l/\vs=[]/\H l=some (.lst xs)/\xs[xs.length - 1]? = some y/\Q y (upd H l (.lst xs.dropLast))
theorem Eh:N9 X "list.pop" ZQ5:=by
 intro pins s σ H x vs v us Q I rx rv h;obtain ⟨l,xs,y,rfl,rfl,hH,hy,q⟩:=h;cases rx;have hus:=rv.zero;subst hus;obtain ⟨z,jj,n,r,hl,e⟩:=I.lstM hH;obtain ⟨u,hu,ru⟩:=r.get hy;have hy':jj.toArray[jj.toArray.size - 1]? = some u:=by
  show jj.toArray[jj.length - 1]? = some u;rw [<-wW,<-hl];exact hu
 refine call_meets F.slot_list_pop ⟨_,e,rfl⟩ F.entry_list_pop (F.args_list_pop_1 _) (MeetsSeq.list_pop_last l jj.toArray n u hy' (by rw [zO];lia)) ⟨e,?_⟩
 refine ⟨y,_,I.lset (its':=jj.dropLast) hH e ?_ r.dropLast ?_,ru,q⟩
 ·show jj.toArray.eraseIdxIfInBounds (jj.toArray.size - 1)=jj.dropLast.toArray;rw [zO,List.eraseIdxIfInBounds_toArray,F6]
 ·rw [List.length_dropLast]
  lia
def Eg:V->jf->Hp->VK->Prop:=fun x vs H Q=>∃ l xs,x=.ref l/\vs=[]/\H l=some (.lst xs)/\Q .non (upd H l (.lst []))
theorem IS:N9 X "list.clear" Eg:=by
 intro pins s σ H x vs v us Q I rx rv h;obtain ⟨l,xs,rfl,rfl,hH,q⟩:=h;cases rx;have hus:=rv.zero;subst hus;obtain ⟨z,jj,n,r,hl,e⟩:=I.lstM hH;refine call_meets F.slot_list_clear ⟨_,e,rfl⟩ F.entry_list_clear (F.args_list_clear_1 _) (AutoSeq1.list_clear_list_0 l jj.toArray n (by rw [zO];lia)) ⟨e,?_⟩
 exact ⟨.non,_,I.lset (its':=[]) (ys:=[]) hH e rfl .nil (zG _),rfl,q⟩
def Hy:R2:=fun x y H Q=>∃ l b xs zs,x=.ref l/\y=.ref b/\H l=some (.lst xs)/\H b=some (.lst zs)/\xs.length+zs.length<=aw/\∀ p,H p=none->Q (.ref p) (upd H p (.lst (xs++zs)))
theorem Nv:Yx X (binaryOp .Add) Hy:=by
 intro pins s σ H x y v u Q I rx ry h;obtain ⟨l,b,xs,zs,rfl,rfl,hH,hB,hz,q⟩:=h;cases rx;cases ry;obtain ⟨z,jj,n,r,hl,e⟩:=I.lstM hH;obtain ⟨z2,jr,n2,r2,hl2,e2⟩:=I.lstM hB;refine PySem.P.add_list e e2 ?_ (by rw [zO,zO];lia)
 have ea:jj.toArray++jr.toArray=(jj++jr).toArray:=by simp
 rw [ea];exact ⟨.ref _,_,I.lnew (t':=s.toks) (r.append r2) (by rw [zU];lia),rfl,q _ I.fresh⟩
end
section
variable{prog:ao}{w:ay}{A:az}{E:jb}{s:am}
set_option maxRecDepth 100000 in
end
section
variable{X:Cx}
end
end L2
namespace Att
open PySem PySem.W PySem.Calls PyProof.Rows
theorem Ae{P:Params}{h:aF}:∀(ns:List Int)(vs:je),WellAll P h vs (ns.map WData.int)->IntsAre vs ns:=by
 intro ns
 induction ns with
 | nil=>
  intro vs w;rw [wV] at w;cases w;exact .nil
 | cons n ns ih=>
  intro vs w;rw [zF] at w
  cases w with
  | cons a b=>
   cases a;exact .cons _ _ (ih _ b)
theorem C0{l:OpenLaw}{n:Nat}(hn:l.most=some n){P:Params}{h:aF}{args:List WData}{vals:je}(hpre:l.row.toRowW.claim.pre args=true)(hwl:WellAll P h vals args):
  ∃ a vs ns,vals=[Value.ref a]/\args=[WData.list (ns.map WData.int)]/\h.get? a=some { cls:=.type "list",data:=.seq vs.toArray }/\IntsAre vs ns/\ns.length<=n:=by
 have hsh:WShape.hasAll [] args [.list .int]=true:=(pre_splitW hpre).1;have hc:l.pre.holds [] { args:=args }=true:=(pre_splitW hpre).2;obtain ⟨d,r,rfl,h1,h2⟩:=hasAllW_cons hsh;obtain rfl:=hasAllW_nil h2;obtain ⟨xs,rfl,h3⟩:=hasW_list h1;obtain ⟨ns,rfl⟩:=items_int h3;have hlen:ns.length<=n:=by
  unfold OpenLaw.pre at hc;have h4:(WTm.not (.lt (.lit (.int (n:Int))) (.len (.arg 0)))).holds [] { args:=[.list (ns.map .int)] }=true:=by
   have h4:=(holds_andW hc).1;rw [hn] at h4;exact h4
  have h5:=condW_of h4 (w_not (w_lt w_lit (w_len_list (w_arg rfl))));rw [zX] at h5;refine sE fun q=>?_;have q':(n:Int)<((ns.length:Nat):Int):=by lia
  first
   | (rw [aM q'] at h5;exact absurd h5 (by decide))
   | (simp at h5;lia)
 cases hwl with
 | cons w1 w2=>
  cases w2
  cases w1 with
  | list ho hall=>exact ⟨_,_,ns,rfl,rfl,ho,Ae ns _ hall,hlen⟩
theorem ZKD(l:OpenLaw)(args:List WData):l.row.toRowW.claim.post args (.bool true) args=true:=
 postW_of (r:=l.row.toRowW) (X:=(true==true))
  (show WShape.has [] (.bool true) .bool=true by first | rfl | decide | simp [WShape.has,WShape.arms,WShape.armsAll])
  (show (WTm.eq .res (.lit (.bool true))).value [] { args:=args,res:=some (.bool true),after:=args }=some (.bool (true==true)) from w_eq_bool (w_res rfl) w_lit) rfl
theorem attach_call{l:OpenLaw}{n:Nat}{q:ao}{loose:List Str}{XP:(jc)->aF->Prop}{YP:ay->aF->Prop}{d:DefRec}(hn:l.most=some n)(hdf:d.params.defaults=[])(call:∀ (w:ay) (s₀ s₁:am) (mg mb:jc) (fa:aj) (o:aJ) (pm cd doc:ai) (a:aj) (vs:je) (ns:List Int),
   Ground q loose [] XP w s₀ mg mb s₁.heap->YP w s₁.heap ->
   s₁.heap.get? fa=some o->o.data=.func (docDef d.name d.params d.body d.scope pm cd doc)->s₁.heap.CodeRec cd d.name->mg d.name=some (.ref fa) ->
   s₁.heap.get? a=some { cls:=.type "list",data:=.seq vs.toArray }->IntsAre vs ns->ns.length<=n->s₁.gens=#[] ->
   codeAny (aC l.prog w) callerA (.call (.ref fa) ⟨[.ref a],[]⟩) (fun r s'=>r=.ok (.ret (.bool true))/\OldK s₁.heap s'.heap/\s'.os=s₁.os/\AllBare s'.gens) s₁):
  WalkO q loose XP YP l.row.toRowW d [] (fun f vs=>PySem.call f vs):=by
 intro w s₀ s₁ mg mb G Y fa o pm cd doc dV kV ho hd jD hD hmg hg args vals as hpre hlay hrd hwl hlo;obtain rfl:dV=.none:=Dflts.none hD hdf;obtain rfl:kV=.none:=Dflts.noKw hD;obtain ⟨a,vs,ns,rfl,rfl,hobj,hints,hlen⟩:=C0 hn hpre hwl;refine enter_call (codeAny_mono (call w s₀ s₁ mg mb fa o pm cd doc a vs ns G Y ho (fd_plain hd) jD hmg hobj hints hlen hg) fun r s' hq=>?_);obtain ⟨rfl,h2,h3,h4⟩:=hq;exact ⟨.inl ⟨.bool true,.bool true,[],rfl,fun _=>rfl,.bool true,ZKD l _,fun _=>⟨tT.nil,fun _ hm=>(nomatch hm)⟩⟩,h2,h3,h4⟩
section
variable{prog:ao}{w:ay}{A:az}{E:jb}{s:am}{K:Frag}
def ZQV(h:aF)(L d:aj):List (aj×aJ):=(yU h.objs.size).filterMap fun a=>if a=L\/a=d then none else (h.get? a).map fun o=>(a,o)
end
end Att
namespace L2
open PySem PySem.Spec PyProof.Rows
theorem NN:∀{vs:je}{ns:List Int},IntsAre vs ns->ZO (ns.map V.int) vs
 | _,_,.nil=>.nil
 | _,_,.cons n t h=>.cons ⟨t,rfl⟩ (NN h)
def KK(H:Hp):Prop:=∀ b,H b=none\/∃ o xs,H b=some (.frz o (.lst xs))
theorem FW{P:ao}{w:ay}{K:zZ}{mg mb:jc}{CX:VS}{k:Nat}{fa a:aj}{fd:aq}{x:Str}{sp:Sp}{s₁:am}{vs:je}{ns:List Int}(KX:K.In s₁.heap)(hns:s₁.heap.Ns ar mg)(hb:s₁.heap.Ns builtinsNs mb)(hbb:∀ x:Str,x ≠ "__name__"->mb x=aA x)(hlim:s₁.heap.NoLimit)(hg:s₁.gens=#[])(ha:s₁.heap.get? a=some { cls:=.type "list",data:=.seq vs.toArray })(hi:IntsAre vs ns)(hl:ns.length<=aw)(hr:ZX k callerA)(F:∀ base:aF,K.In base->base.Ns ar mg->ZJ P w K mg base CX k fa fd [x] sp)(hbind:∀ (s:am) (u:ai),BindsTo s fd ⟨[u],[]⟩ [(x,u)])(jE:∀ H:Hp,KK H->ZL K H a (ns.map V.int)->sp [.ref a] H (fun v _=>v=.bl true) fun _ _ _=>False)(hCX:∀ H e s',CX [] H s₁ (fun _ _ _=>False) e s'->False):
  codeAny (aC P w) callerA (.call (.ref fa) ⟨[.ref a],[]⟩) (fun r s'=>r=.ok (.ret (.bool true))/\OldK s₁.heap s'.heap/\s'.os=s₁.os/\AllBare s'.gens) s₁:=by
 have rv:=NN hi;have lenV:=hi.length;have core:∀ H:Hp,KK H->ZL K H a (ns.map V.int)->Ye P w H s₁.heap->(∀ b,H b≠none->b=a)->(H a≠none->K.lookup a=none) ->
   codeAny (aC P w) callerA (.call (.ref fa) ⟨[.ref a],[]⟩) (fun r s'=>r=.ok (.ret (.bool true))/\OldK s₁.heap s'.heap/\s'.os=s₁.os/\AllBare s'.gens) s₁:=by
  intro H hO hS hok hA hK;have base_of:∀{b:aj}{o:aJ},s₁.heap.get? b=some o->H b=none->(VX s₁.heap H).get? b=some o:=fun e n=>Jr e n;have noA:∀{b:aj}{o:aJ}{es:Array DictEntry}{ep:Nat},s₁.heap.get? b=some o->o.data=.dict es ep->H b=none:=fun{b o es ep} e d=>by
   cases q:H b with
   | none=>rfl
   | some u=>
    have e':b=a:=hA b (by rw [q];simp)
    subst e';rw [ha] at e;cases e;have d':Data.seq vs.toArray _=Data.dict es ep:=d;cases d'
  have nsK:∀{b:aj}{m:jc},s₁.heap.Ns b m->(VX s₁.heap H).Ns b m:=fun{b m} ⟨o,es,ep,e,d,r⟩=>⟨o,es,ep,base_of e (noA e d),d,r⟩;have hKb:K.In (VX s₁.heap H):=fun b o e=>base_of (KX b o e) (by
   cases q:H b with
   | none=>rfl
   | some u=>
    have e':b=a:=hA b (by rw [q];simp)
    subst e';rw [hK (by rw [q];simp)] at e;cases e)
  have hM:Mod K mg (VX s₁.heap H):=⟨hKb,nsK hns,⟨mb,nsK hb,hbb⟩,let ⟨mc,h1,h2⟩:=hlim;⟨mc,nsK h1,h2⟩⟩;have e0:Wg P w K mg (VX s₁.heap H) callerA [] s₁ H:=⟨rfl,hM,fun b o e=>Ic e,uQ (IZ _ _),trivial,fun b hb=>absurd (show b∈([]:List aj) from hb) (by simp),hok,.of_eq hg⟩
  refine codeAny_mono ((F _ hKb (nsK hns)).run callerA [] s₁ H ⟨[.ref a],[]⟩ [.ref a] [.ref a] _ _ hr e0 (hbind s₁ (.ref a)) (.cons rfl .nil) (jE H hO hS)) fun r s' h=>?_
  cases r with
  | error e=>exact (hCX H e s' h).elim
  | ok fl=>
   cases fl with
   | next=>exact False.elim h
   | brk=>exact False.elim h
   | cont=>exact False.elim h
   | ret u=>
    obtain ⟨v,H',os,bare,un,hok',r',q⟩:=h;have q':v=.bl true:=q;subst q';obtain rfl:u=Value.bool true:=r';refine ⟨rfl,OldK.of_keep fun b o e=>?_,os,bare⟩
    cases q:H b with
    | none=>exact un.keep b o e q (by intro z;exact absurd (show b∈([]:List aj) from z) (by simp)) (by simp)
    | some u=>
     rcases hO b with z | ⟨ob,xs,z⟩
     ·rw [q] at z;cases z
     ·have z2:=un.frzs b ob _ z;obtain ⟨e1,_⟩:=hok b _ z;obtain ⟨e2,_⟩:=hok' b _ z2;rw [e] at e1;cases e1;exact e2
 cases hk:K.lookup a with
 | some o=>
  have e:=KX a o hk;rw [ha] at e;cases e;refine core (fun _=>none) (fun _=>.inl rfl) (.inr ⟨_,vs.toArray,_,hk,rfl,rfl,rfl,by rw [zO,lenV];exact hl,by simpa using rv⟩) (fun b u z=>by have z':(none:Option HO)=some u:=z;cases z') (fun b z=>absurd rfl z) fun z=>absurd rfl z
 | none=>
  refine core (fun b=>if b=a then some (.frz { cls:=.type "list",data:=.seq vs.toArray } (.lst (ns.map V.int))) else none) (fun b=>?_) (.inl (.inr ⟨{ cls:=.type "list",data:=.seq vs.toArray },aP rfl⟩)) (fun b u z=>?_) (fun b z=>?_) fun _=>hk
  ·by_cases hb:b=a
   ·exact .inr ⟨_,_,aP hb⟩
   ·exact .inl (aO hb)
  ·by_cases hb:b=a
   ·have z':=(aP hb).symm.trans z;cases z';subst hb;exact ⟨ha,by rw [zX];exact hl,vs,_,rv,ha⟩
   ·have z':=(aO hb).symm.trans z;cases z'
  ·by_cases hb:b=a
   ·exact hb
   ·exact absurd (aO hb) z
abbrev KOf{K:zZ}{h:aF}(_:K.In h):zZ:=K
theorem ZPq{l:uJ}{n k:Nat}{q:ao}{loose:List Str}{XP:(jc)->aF->Prop}{YP:ay->aF->Prop}{d:DefRec}{K:Params->zZ}{CX:ay->VS}{sp:ay->Sp}{x:Str}(hn:l.most=some n)(hn2:n<=aw)(hdf:d.params.defaults=[])(hr:ZX k callerA)(hY:∀ (w:ay) (h:aF),YP w h->(K w.params).In h)(F:∀ (w:ay) (mg:jc) (fa:aj) (h:aF),(K w.params).In h->h.Ns ar mg->mg d.name=some (.ref fa) ->
   ∃ fd:aq,(∀ (s:am) (u:ai),BindsTo s fd ⟨[u],[]⟩ [(x,u)]) /\
    ∀ base:aF,(K w.params).In base->base.Ns ar mg->ZJ l.prog w (K w.params) mg base (CX w) k fa fd [x] (sp w))(jE:∀ (w:ay) (H:Hp) (a:aj) (ns:List Int),ns.length<=n->KK H->ZL (K w.params) H a (ns.map V.int)->sp w [.ref a] H (fun v _=>v=.bl true) fun _ _ _=>False)(hCX:∀ (w:ay) (H:Hp) (s:am) (e:ai) (s':am),CX w [] H s (fun _ _ _=>False) e s'->False):
  tN q loose XP YP l.row.toRowW d [] (fun f vs=>PySem.call f vs):=by
 refine Att.attach_call hn hdf fun w s₀ s₁ mg mb fa o pm cd doc a vs ns G Y ho hd jD hmg hobj hints hlen hg=>?_;have KX:=hY w _ Y;obtain ⟨fd,hb,hF⟩:=F w mg fa _ KX G.T.g hmg;exact FW KX G.T.g G.T.b G.T.builtins G.T.nolimit hg hobj hints (yK hlen hn2) hr hF hb (fun H hO hS=>jE w H a ns hlen hO hS) fun H e s'=>hCX w H s₁ e s'
def VH(s:aE)(j:Nat):Stmt:=match s with
 | .ClassDef _ _ _ body _ _ _ _ _ _ _=>body.getD j (.Pass ⟨0,0,0,0⟩)
 | _=>.Pass ⟨0,0,0,0⟩
def Vs(s:aE):Arguments:=match s with
 | .FunctionDef _ a _ _ _ _ _ _ _ _=>a
 | _=>{ posonlyargs:=[],args:=[],vararg:=none,kwonlyargs:=[],kw_defaults:=[],kwarg:=none,defaults:=[] }
def Xv(s:aE):List Stmt:=match s with
 | .FunctionDef _ _ b _ _ _ _ _ _ _=>b
 | _=>[]
def Ze(s:aE):Scope:=match s with
 | .FunctionDef _ _ _ _ _ _ sc _ _ _=>sc
 | _=>{ kind:=.function,names:=[],isGenerator:=false,isCoroutine:=false }
abbrev ZW:VS:=fun _ _ _ _ _ _=>False
abbrev E0:XK:=fun _ _ _=>False
theorem XJ{X:Cx}:QJ ZW X E0:=fun _ _ _ _ _ _ _ h=>h.elim
structure Zj(K:zZ)(x qual:Str)(st:aE)(f:aj)(fd:aq):Prop where
 ex:∃(oc:ai)(od:Option aj)(kV doc pm:ai)(an:Option aj)(cdv ct:ai)(jK:Array (jd)),
  fd=yH x qual (Vs st) (Xv st) (Ze st) .none kV doc pm an cdv ct/\K.lookup f=some ⟨oc,od,.func fd,jK⟩/\xJ K cdv qual=true
 kp:yQ K (.ref f)=true
section
variable{P:ao}{w:ay}{K:zZ}{mg:jc}{base:aF}
theorem Zj.ok{x qual:Str}{st:aE}{f:aj}{fd:aq}{N ps:List Str}{k:Nat}{sp:Sp}(F:Zj K x qual st f fd)(S:ZC N ps (Ze st))(len:∀ vs H Q E,sp vs H Q E->vs.length=ps.length)(jp:∀ (cdv:ai) (A:az) (outer:List Env) (s:am) (H:Hp) (vs:jf) (Q:VK) (E:XK),ZX k (A.deeper (envOfC qual (Ze st) s.heap.objs.size f cdv))->sp vs H Q E ->
   ∃ t,Xn (X9 ZW P w K mg base N qual (Ze st) f cdv A outer s H E).nox (Xv st) t/\t { nx:=fun _ H'=>Q .non H',rt:=Q } (Vr N vs) H):ZJ P w K mg base ZW (k+1) f fd ps sp:=by
 obtain ⟨oc,od,kV,doc,pm,an,cdv,ct,jK,rfl,lk,jD⟩:=F.ex;refine Lc lk jD S len fun A outer s H vs Q E hr jE=>?_;obtain ⟨t,h,q⟩:=jp cdv A outer s H vs Q E hr jE;exact ⟨t,h.nox,q⟩
theorem Zj.ko{x qual:Str}{st:aE}{f:aj}{fd:aq}{N ps:List Str}{k:Nat}{sp:Sp}(F:Zj K x qual st f fd)(S:ZC N ps (Ze st))(jp:∀ (cdv:ai) (A:az) (outer:List Env) (s:am) (H:Hp) (vs:jf) (Q:VK) (E:XK),ZX k (A.deeper (envOfC qual (Ze st) s.heap.objs.size f cdv))->sp vs H Q E ->
   ∃ t,Xn (X9 ZW P w K mg base N qual (Ze st) f cdv A outer s H E).nox (Xv st) t/\t { nx:=fun _ H'=>Q .non H',rt:=Q } (Vr N vs) H)(len:∀ vs H Q E,sp vs H Q E->vs.length=ps.length:=by intro vs _ _ _ h;cases h;subst vs;rfl):ZJ P w K mg base ZW (k+1) f fd ps sp:=F.ok S len jp
theorem Zj.binds{x qual:Str}{st:aE}{f:aj}{fd:aq}{ps:List Str}(F:Zj K x qual st f fd)(h:∀ (kV doc pm:ai) (an:Option aj) (cdv ct:ai) (us:je),us.length=ps.length->bindArgs (yH x qual (Vs st) (Xv st) (Ze st) .none kV doc pm an cdv ct) ⟨us,[]⟩=pure (ps.zip us)):Zt K fd ps []:=by
 obtain ⟨oc,od,kV,doc,pm,an,cdv,ct,jK,rfl,lk,jD⟩:=F.ex;exact .all (h kV doc pm an cdv ct)
theorem UM{x qual:Str}{st:aE}{f:aj}{oc:ai}{od an:Option aj}{jK:Array (jd)}{kV doc pm cdv ct:ai}(l:K.lookup f=some ⟨oc,od,.func (yH x qual (Vs st) (Xv st) (Ze st) .none kV doc pm an cdv ct),jK⟩)(c:xJ K cdv qual=true)(k:yQ K (.ref f)=true):Zj K x qual st f (yH x qual (Vs st) (Xv st) (Ze st) .none kV doc pm an cdv ct):=⟨⟨oc,od,kV,doc,pm,an,cdv,ct,jK,rfl,l,c⟩,k⟩
end
theorem P5{A:az}{k:Nat}(hr:ZX k A):A.units+1<cLine:=uF (Nat.add_le_add_left (by decide:1<=64) _) hr.units
theorem XM{n:Nat}(h:n<=1000):n<sizeLine:=uF h (by decide)
section
variable{X:Cx}
theorem pv(i:Nat){x:Str}{pos:Pos}(hN:X.N[i]? = some x:=by rfl)(hv:Nj X.env.scope x:=by first | exact Or.inl rfl | exact Or.inr (Or.inl rfl) | exact Or.inr (Or.inr rfl))(hd:(x==("__debug__" : Str))=false:=by decide)(jD:(x==("__classdict__" : Str))=false:=by decide):PE X (.Name x pos) (OX i):=Ak hN hv hd jD
end
theorem Zm{A B:Prop}(h:B):if false=true then A else B:=by
 rw [aO zW];exact h
theorem Z2{A B:Prop}(h:A):if true=true then A else B:=by
 rw [aP rfl];exact h
theorem We{c A B:Prop}[Decidable c](h1:c->A)(h2:¬ c->B):if c then A else B:=by
 by_cases h:c
 ·rw [aP h];exact h1 h
 ·rw [aO h];exact h2 h
theorem Fq{c A B:Prop}[Decidable c](hc:c)(h:B):if (!decide c)=true then A else B:=by
 rw [aM hc];exact Zm h
def ZA(H H':Hp):Prop:=∀ b o,H b=some o->H' b=some o
theorem ZA.refl(H:Hp):ZA H H:=fun _ _ h=>h
theorem ZA.trans{H H1 H2:Hp}(a:ZA H H1)(b:ZA H1 H2):ZA H H2:=fun c o h=>b c o (a c o h)
theorem ZA.free{H H':Hp}(e:ZA H H'){l:aj}(h:H' l=vP):H l=vP:=by
 cases q:H l with
 | none=>rfl
 | some o=>
  rw [e l o q] at h;cases h
theorem ZA.seq{K:zZ}{H H':Hp}{a:aj}{xs:jf}(e:ZA H H')(h:ZL K H a xs):ZL K H' a xs:=by
 rcases h with (h | ⟨o,h⟩) | h
 ·exact .inl (.inl (e _ _ h))
 ·exact .inl (.inr ⟨o,e _ _ h⟩)
 ·exact .inr h
section
variable{prog:ao}{w:ay}{A:az}{R:Result->am->Prop}{s:am}
theorem Cg{elt target iter:Expr}{ifs:List Expr}{scope:aG}{pos:Pos}{it acc:ai}{env:Env}(I:Nat->am->Prop)(turn:∀ n s,I n s->aD (aC prog w) A (pyNext it) (fun r s₁=>match r with
   | none=>R (.ok .next) s₁
   | some v=>aD (aC prog w) A (letOwnedTupleGo target it v) (fun _ s₀=>aD (aC prog w) A (assign target env v) (fun _ s₂=>
     aD (aC prog w) A (forIn ifs true fun c r=>if r=true then do let ok<-isTrue c env (aI c env);pure (ForInStep.yield ok) else pure (ForInStep.yield r)) (fun ok s₃=>
      if ok=true then aD (aC prog w) A (aI elt env) (fun x s₄=>
       aD (aC prog w) A (call (.builtin "list.append") [acc,x]) (fun _ s₅=>∃ m,m<n/\I m s₅) (notedBy (aC prog w) A env fun e s'=>R (.error e) s') s₄) (notedBy (aC prog w) A env fun e s'=>R (.error e) s') s₃
      else ∃ m,m<n/\I m s₃) (notedBy (aC prog w) A env fun e s'=>R (.error e) s') s₂) (notedBy (aC prog w) A env fun e s'=>R (.error e) s') s₀) (notedBy (aC prog w) A env fun e s'=>R (.error e) s') s₁) (notedBy (aC prog w) A env fun e s'=>R (.error e) s') s)(n:Nat)(h:I n s):
  codeAny (aC prog w) A (.compLoop (.ListComp elt [⟨target,iter,ifs,0⟩] scope pos) 0 it acc env) R s:=by
 refine codeAny_loop rfl I (fun n s hI=>?_) n h;show aD _ A ((compTurn (.ListComp elt [⟨target,iter,ifs,0⟩] scope pos) 0 it acc env).onRaise (fun x=>do noteFrame x env;theTreesLotGoes x)) _ _ s
 refine wpAny_noted ?_;rw [compTurn_list];refine aa (ah (aa (ae (turn n s hI) (fun r s₁ h₁=>?_) fun _ _ h'=>h')))
 cases r with
 | none=>exact ad h₁
 | some v=>
  refine aa (ae h₁ (fun _ s₀ h₀=>?_) fun _ _ h'=>h');refine aa (ae h₀ (fun _ s₂ h₂=>aa (ae h₂ (fun ok s₃ h₃=>?_) fun _ _ h'=>h')) fun _ _ h'=>h')
  cases ok with
  | false=>exact ad ⟨rfl,h₃⟩
  | true=>
   exact aa (aa (ae h₃ (fun x s₄ h₄=>aa (ae h₄ (fun _ s₅ h₅=>ad (ad ⟨rfl,h₅⟩)) fun _ _ h'=>h')) fun _ _ h'=>h'))
end
def WL(env:Env)(l:List (Str×NameKind)):List (Str×aj)->List (Str×aj):=fun cs=>l.foldl (fun cs p=>if p.2==.free then (p.1,(env.cells.lookup p.1).getD 0) :: cs else cs) cs
def OL(env:Env)(l:List (Str×NameKind)):Prop:=∀ p∈l,p.2=.free->∃ c,env.cells.lookup p.1=some c
theorem HX{env:Env}{scope:aG}(h:OL env scope.names):closureFor scope env=pure (WL env scope.names []):=by
 have all:∀(l:List (Str×NameKind))(cs:List (Str×aj)),OL env l->(forIn l cs fun x r=>if (x.2==.free)=true then do let a<-cellOf env x.1;pure (ForInStep.yield ((x.1,a) :: r)) else pure (ForInStep.yield r):Sem (List (Str×aj)))=pure (WL env l cs):=by
  intro l
  induction l with
  | nil=>intro cs _;rfl
  | cons p r ih=>
   intro cs hf;have e:WL env (p :: r) cs=WL env r (if p.2==.free then (p.1,(env.cells.lookup p.1).getD 0) :: cs else cs):=rfl
   rw [tM,e]
   cases hk:(p.2==NameKind.free) with
   | true=>
    obtain ⟨c,hc⟩:=hf p zK (eq_of_beq hk);have jw:cellOf env p.1=pure c:=by unfold cellOf;rw [hc]
    simp only [if_true,jw,pure_bind];rw [ih _ fun q hq=>hf q (zH _ hq),hc];rfl
   | false=>
    simp only [xX,if_false,pure_bind];exact ih _ fun q hq=>hf q (zH _ hq)
 have:=all scope.names [] h;simpa [closureFor] using this
theorem GC{env:Env}:∀{l:List (Str×NameKind)}{cs:List (Str×aj)}{x:Str}{c:aj},OL env l->(WL env l cs).lookup x=some c->cs.lookup x=some c\/env.cells.lookup x=some c
 | [],_,_,_,_,h=>.inl h
 | p :: r,cs,x,c,hf,h=>by
  have h':(WL env r (if p.2==.free then (p.1,(env.cells.lookup p.1).getD 0) :: cs else cs)).lookup x=some c:=h
  rcases GC (fun q hq=>hf q (zH _ hq)) h' with q | q
  ·cases hk:(p.2==NameKind.free) with
   | true=>
    rw [hk,aP rfl,xQ] at q
    cases e:x==p.1 with
    | true=>
     rw [e] at q;obtain ⟨d,hd⟩:=hf p zK (eq_of_beq hk);refine .inr ?_;rw [eq_of_beq e,hd];rw [hd] at q;exact q
    | false=>
     rw [e] at q;exact .inl q
   | false=>
    rw [hk,aO zW] at q;exact .inl q
  ·exact .inr q
theorem Hi{env:Env}{x:Str}:∀{l:List (Str×NameKind)}{cs:List (Str×aj)},(cs.lookup x).isSome=true->((WL env l cs).lookup x).isSome=true
 | [],_,h=>h
 | p :: r,cs,h=>by
  show ((WL env r (if p.2==.free then (p.1,(env.cells.lookup p.1).getD 0) :: cs else cs)).lookup x).isSome=true
  refine Hi ?_
  cases hk:(p.2==NameKind.free) with
  | true=>
   rw [aP rfl,xQ]
   cases e:x==p.1 with
   | true=>rfl
   | false=>exact h
  | false=>rw [aO zW];exact h
theorem HE{env:Env}{x:Str}:∀{l:List (Str×NameKind)}{cs:List (Str×aj)},(x,NameKind.free)∈l->((WL env l cs).lookup x).isSome=true
 | [],_,h=>by cases h
 | p :: r,cs,h=>by
  show ((WL env r (if p.2==.free then (p.1,(env.cells.lookup p.1).getD 0) :: cs else cs)).lookup x).isSome=true
  rcases zB.mp h with e | h
  ·subst e;refine Hi ?_;show (xU x ((x,(env.cells.lookup x).getD 0) :: cs)).isSome=true;rw [xQ,beq_self_eq_true];rfl
  ·exact HE h
def Yz(env:Env)(cl:List (Str×aj)):Prop:=∀ x c,cl.lookup x=some c->env.cells.lookup x=some c
theorem Yz.get{env:Env}{cl:List (Str×aj)}{x:Str}{c:aj}(h:Yz env cl)(e:cl.lookup x=some c):env.cells.lookup x=some c:=h x c e
theorem JX{env:Env}{l:List (Str×NameKind)}(h:OL env l):Yz env (WL env l []):=fun x c e=>by
 rcases GC h e with q | q
 ·cases q
 ·exact q
theorem Jq{env:Env}:∀{names:List (Str×NameKind)}{x:Str},names.lookup x=some .free ->
  (names.map fun(n,k)=>if (k==NameKind.free&&env.scope.kind==.function&&env.kindOf n==some .cell) then (n,NameKind.cell) else (n,k)).lookup x=some .cell \/
  (names.map fun(n,k)=>if (k==NameKind.free&&env.scope.kind==.function&&env.kindOf n==some .cell) then (n,NameKind.cell) else (n,k)).lookup x=some .free
 | [],_,h=>by simp at h
 | (n,k) :: r,x,h=>by
  rw [xQ] at h;simp only [zF]
  cases hx:x==n with
  | true=>
   rw [hx] at h;cases h;split
   ·exact .inl (by rw [xQ,hx])
   ·exact .inr (by rw [xQ,hx])
  | false=>
   rw [hx] at h;have ih:=Jq (env:=env) h;split
   ·rw [xQ,hx];exact ih
   ·rw [xQ,hx];exact ih
theorem Jo{env:Env}:∀{names:List (Str×NameKind)}{x:Str},(∀ y∈names,y.2≠.cell) ->
  ((names.map fun(n,k)=>if (k==NameKind.free&&env.scope.kind==.function&&env.kindOf n==some .cell) then (n,NameKind.cell) else (n,k)).lookup x=some .cell \/
  (names.map fun(n,k)=>if (k==NameKind.free&&env.scope.kind==.function&&env.kindOf n==some .cell) then (n,NameKind.cell) else (n,k)).lookup x=some .free)->(x,NameKind.free)∈names
 | [],_,_,h=>by simp at h
 | (n,k) :: r,x,hc,h=>by
  have hr:∀ y∈r,y.2≠.cell:=fun y hy=>hc y (zH _ hy);simp only [zF] at h
  cases hx:x==n with
  | true=>
   have en:=eq_of_beq hx;subst en;by_cases hk:k=.free
   ·subst hk;exact zK
   ·have hb:(k==NameKind.free)=false:=by simpa using hk
    simp only [hb,wS,xX,if_false,xQ,beq_self_eq_true] at h;rcases h with h | h
    ·exact absurd (zD.inj h) (hc _ zK)
    ·exact absurd (zD.inj h) hk
  | false=>
   refine zH _ (Jo (env:=env) hr ?_);split at h
   ·simpa only [xQ,hx] using h
   ·simpa only [xQ,hx] using h
def YD(X:Cx)(scope:aG):List Nat->List Str->Prop
 | [],[]=>True
 | i :: is,y :: ys=>X.N[i]? = some y/\(X.env.kindOf y=some .cell\/X.env.kindOf y=some .free)/\scope.names.lookup y=some .free/\YD X scope is ys
 | _,_=>False
theorem YD.len{X:Cx}{scope:aG}:∀{is:List Nat}{ys:List Str},YD X scope is ys->is.length=ys.length
 | [],[],_=>rfl
 | _ :: _,_ :: _,h=>congrArg (· + 1) h.2.2.2.len
theorem YD.get{X:Cx}{scope:aG}:∀{is:List Nat}{ys:List Str}{j:Nat}{y:Str},YD X scope is ys->ys[j]? = some y ->
  ∃ i,is[j]? = some i/\X.N[i]? = some y/\(X.env.kindOf y=some .cell\/X.env.kindOf y=some .free)/\scope.names.lookup y=some .free
 | [],[],_,_,_,h=>by simp at h
 | i :: _,z :: _,0,y,f,h=>by
  simp at h;subst h;exact ⟨i,rfl,f.1,f.2.1,f.2.2.1⟩
 | _ :: is,_ :: ys,j+1,y,f,h=>by
  obtain ⟨i,e,r⟩:=YD.get (j:=j) f.2.2.2 (by simpa using h)
  exact ⟨i,by simpa using e,r⟩
def WO(X:Cx)(N:List Str)(scope:aG)(cl:List (Str×aj))(C:aj)(s:am)(H:Hp)(fp:List aj)(E:jb):Cx where
 prog:=X.prog
 w:=X.w
 K:=X.K
 mg:=X.mg
 base:=X.base
 A:=X.A
 N:=N
 s₀:=s
 H₀:=H
 env:=compEnvC scope cl C X.env
 outer:=X.stack
 stack:=X.stack
 ex:=fp
 fn:=fun _=>false
 calm:=X.calm
 pn:=[]
 xe:=E
def OP(σ:St)(ix:List Nat)(x:V):St:=some x :: ix.map fun i=>(σ[i]?).join
def PH(X:Cx)(ifs:List Expr)(tt:TT):Prop:=
 ∀(pins:List (aj×aJ))(s:am)(σ:St)(H:Hp)(Q:Bool->Hp->Prop),ZH X pins σ H s->tt σ H Q ->
  aD (aC X.prog X.w) X.A (forIn ifs true fun c r=>if r=true then do let ok<-isTrue c X.env (aI c X.env);pure (ForInStep.yield ok) else pure (ForInStep.yield r)) (TP X pins σ Q) X.xe s
def Mq:TT:=fun _ H Q=>Q true H
theorem Vc{X:Cx}:PH X [] Mq:=fun _ _ _ H _ I h=>wpAny_tests_nil ⟨H,I,h⟩
theorem Ki{X:Cx}{c:Expr}{t:TT}(h:PT X c t):PH X [c] t:=fun pins s σ H Q I hw=>wpAny_tests_one (h pins s σ H Q I hw)
def Vi(J:It)(σ:St)(ix:List Nat)(tt:TT)(te:TE)(H1:Hp)(Q:VK):Prop:=
 ∀ D,H1 D=none->∃ W:Nat->Nat->Hp->Prop,(∃ m,W 0 m (upd H1 D (.lst [])))/\∀ i m H,W i m H ->
  (J.stop i H/\Q (.ref D) H)\/(J.go i H/\∀ x H',J.yld i H x H'->tt (OP σ ix x) H' fun c H2=>
   if c=true then te (OP σ ix x) H2 fun y H3=>∃ ys m',H3 D=some (.lst ys)/\ys.length<aw/\m'<m/\W (i+1) m' (upd H3 D (.lst (ys++[y])))
   else ∃ m',m'<m/\W (i+1) m' H2)
def G7(wi:TI)(ix:List Nat)(tt:TT)(te:TE):TE:=fun σ H Q=>wi σ H fun J H1=>Vi J σ ix tt te H1 Q
section
variable{X:Cx}{pins:List (aj×aJ)}{σ:St}{H:Hp}{s:am}
theorem Bq{ix:List Nat}{j:Nat}{v:V}(h:(ix.map fun i=>(σ[i]?).join)[j]? = some (some v)):∃ i,ix[j]? = some i/\σ[i]? = some (some v):=by
 rw [zL] at h
 cases e:ix[j]? with
 | none=>rw [e] at h;cases h
 | some i=>
  rw [e] at h;have h':(σ[i]?).join=some v:=zD.inj h;refine ⟨i,rfl,?_⟩
  cases q:σ[i]? with
  | none=>rw [q] at h';cases h'
  | some o=>
   rw [q] at h'
   cases o with
   | none=>cases h'
   | some z=>cases h';rfl
def OV(env:Env)(l:List (Str×NameKind)):Bool:=l.all fun p=>!(p.2==.free) || env.kindOf p.1==some .cell || env.kindOf p.1==some .free
theorem Gq{X:Cx}{l:List (Str×NameKind)}(ok:X.Ok)(h:OV X.env l=true):OL X.env l:=fun p hp hk=>by
 have q:=zP.mp h p hp;rw [hk] at q;have q':(X.env.kindOf p.1==some .cell || X.env.kindOf p.1==some .free)=true:=by simpa using q
 rcases Bool.or_eq_true_iff.mp q' with q | q
 ·exact ok.has p.1 (.inl (eq_of_beq q))
 ·exact ok.has p.1 (.inr (eq_of_beq q))
def P4(scope:aG)(x:Str):Bool:=scope.kind==.function&&scope.names.lookup x==some .local&&scope.names.all (fun p=>!(p.2==.cell))&&scope.names.all (fun p=>!(p.2==.local) || scope.names.lookup p.1==some .local)
structure Qc(scope:aG)(x:Str):Prop where
 kind:scope.kind=.function
 own:scope.names.lookup x=some .local
 cell:∀ y∈scope.names,y.2≠.cell
 names:∀ y∈scope.names,y.2=.local->scope.names.lookup y.1=some .local
theorem Nq{scope:aG}{x:Str}(h:P4 scope x=true):Qc scope x:=by
 unfold P4 at h;rw [zQ,zQ,zQ] at h;obtain ⟨⟨⟨h1,h2⟩,h3⟩,h4⟩:=h;refine ⟨eq_of_beq h1,eq_of_beq h2,fun y hy z=>?_,fun y hy z=>?_⟩
 ·have:=zP.mp h3 y hy;rw [z] at this;cases this
 ·have:=zP.mp h4 y hy;rw [z] at this;have q:(scope.names.lookup y.1==some NameKind.local)=true:=by simpa using this
  exact eq_of_beq q
theorem G5{scope:aG}{env:Env}(jw:∀ y∈scope.names,y.2≠.cell)(y:Str)(h:(relabel scope env).names.lookup y=some .cell\/(relabel scope env).names.lookup y=some .free):∃ c,(WL env scope.names []).lookup y=some c:=
 vR.mp (HE (Jo jw h))
def Hv(i:Nat)(t:TE):TS:=fun D σ H=>t σ H fun v H1=>D.nx (σ.set i (some v)) H1
end
def O3(xs:List Str)(σ:St)(ix:List Nat):St:=xs.map (fun _=>(none:jg))++ix.map fun i=>(σ[i]?).join
def Kn(J:It)(k:Nat)(g:TG)(σ:St)(ix:List Nat)(tt:TT)(te:TE)(H1:Hp)(Q:VK):Prop:=
 ∀ D,H1 D=none->∃ W:Nat->Nat->Hp->Prop,(∃ m,W 0 m (upd H1 D (.lst [])))/\∀ i m H,W i m H ->
  (J.stop i H/\Q (.ref D) H)\/(J.go i H/\∀ x H',J.yld i H x H'->∀ os:St,os.length=k->g x (os++ix.map fun i=>(σ[i]?).join) H' fun σ6 H6=>(∃ os':St,os'.length=k/\σ6=os'++ix.map fun i=>(σ[i]?).join)/\tt σ6 H6 fun c H2=>
   if c=true then te σ6 H2 fun y H3=>∃ ys m',H3 D=some (.lst ys)/\ys.length<aw/\m'<m/\W (i+1) m' (upd H3 D (.lst (ys++[y])))
   else ∃ m',m'<m/\W (i+1) m' H2)
def Jh(k:Nat)(g:TG)(wi:TI)(ix:List Nat)(tt:TT)(te:TE):TE:=fun σ H Q=>wi σ H fun J H1=>Kn J k g σ ix tt te H1 Q
section
variable{X:Cx}{pins:List (aj×aJ)}{σ:St}{H:Hp}{s:am}
theorem ZIv{xs:List Str}{ys:List Str}{ix:List Nat}{scope:aG}{cl:List (Str×aj)}{fp:List aj}{E:jb}{h₁:aF}{D C n:Nat}{tk:Nat}{m:jc}(I:ZH X pins σ H s)(hf:∀ b∈fp,Ws X pins H b/\b<s.heap.objs.size)(sub:Yz X.env cl)(jB:scope.kind=.function)(hhas:∀ y,((relabel scope X.env).names.lookup y=some .cell\/(relabel scope X.env).names.lookup y=some .free)->∃ c,cl.lookup y=some c)(fo:YD X scope ix ys)(hD:s.heap.objs.size<=D)(hC:s.heap.objs.size<=C)(hDC:D≠C)(hns:h₁.Ns C m)(k:∀ b o,s.heap.get? b=some o->h₁.get? b=some o)(hd:h₁.get? D=some { cls:=.type "list",data:=.seq ([]:je).toArray n }):
  ZH (WO X (xs++ys) scope cl C s H fp E) [] (O3 xs σ ix) (upd H D (.lst [])) { s with heap:=h₁,toks:=tk }:=by
 have lt_of_cell:∀ y c,cl.lookup y=some c->c<s.heap.objs.size:=fun y c e=>by
  obtain ⟨v,q⟩:=I.cell y c (sub.get e);exact q.lt
 refine ⟨⟨I.ok.mod,jB,I.ok.glob,I.ok.blt,hC,fun y z c h1 h2=>I.ok.inj y z c (sub.get h1) (sub.get h2),hhas,fun y c h _=>absurd h (by simp [WO]),I.ok.hd,I.ok.frames,.inl rfl,fun b hb=>⟨?_,fun y c e=>?_⟩,I.bs,yK I.ok.bsz I.sz,fun b o e hb=>?_,fun b hb z=>?_,I.stack,I.stkFree⟩,
  rfl,I.bare,Un.laid k hD (I.hok.fresh hD),⟨m,hns,fun j y v e1 e2 e3=>?_⟩,fun y c e=>?_,?_,fun y c e=>?_,fun p hp=>absurd (show p∈([]:List (aj×aJ)) from hp) (by simp),I.hok.laid k hD ?_,?_⟩
 ·exact yY (yN (hf b hb).2 hC)
 ·exact (hf b hb).1.2.2.2.2.1 y c (sub.get e)
 ·obtain ⟨_,_,_,z,_⟩:=(hf b hb).1;rcases z with z | z
  ·exact I.ok.noex b o e z
  ·exact absurd (yN (zS (I.ok.bs b o e).1) z) (wT _)
 ·obtain ⟨_,z1,z2,_⟩:=(hf b hb).1;rcases zB.mp (I.stkSub b z) with q | q
  ·exact z1 q
  ·exact z2 q
 ·by_cases hj:j<xs.length
  ·exfalso
   have e3:(xs.map (fun _=>(none:jg))++ix.map fun i=>(σ[i]?).join)[j]? = some (some v):=e2;rw [wX (by rw [zX];exact hj),zL,zT hj] at e3
   cases e3
  ·have e0:(xs++ys)[j]? = some y:=e1;have e1':ys[j - xs.length]? = some y:=by rw [xW (sE hj)] at e0;exact e0
   have e3:(xs.map (fun _=>(none:jg))++ix.map fun i=>(σ[i]?).join)[j]? = some (some v):=e2;have e2':(ix.map fun i=>(σ[i]?).join)[j - xs.length]? = some (some v):=by
    rw [xW (by rw [zX];exact sE hj),zX] at e3
    exact e3
   obtain ⟨i,q1,q2⟩:=Bq e2';obtain ⟨i',p1,p2,p3,p4'⟩:=fo.get e1';rw [q1] at p1;cases p1;have p4:(relabel scope X.env).names.lookup y=some .cell\/(relabel scope X.env).names.lookup y=some .free:=Jq p4';obtain ⟨c,p5⟩:=hhas y p4;obtain ⟨m0,hn0,hl⟩:=I.loc;obtain ⟨u,r,l⟩:=hl i y v p2 q2 (.inr p3);refine ⟨u,r,.inr ⟨p4,c,p5,?_⟩⟩;rcases l with ⟨l1,_⟩ | ⟨_,c',l2,l3⟩
   ·rcases p3 with p3 | p3
    ·rw [l1] at p3;cases p3
    ·rw [l1] at p3;cases p3
   ·rw [sub.get p5] at l2;cases l2;obtain ⟨o,ho,hd'⟩:=l3;exact ⟨o,k _ _ ho,hd'⟩
 ·obtain ⟨v,o,ho,hd'⟩:=I.cell y c (sub.get e);exact ⟨v,o,k _ _ ho,hd'⟩
 ·show upd H D (.lst []) C=none;rw [ZV (Ne.symm hDC)];exact I.hok.fresh hC
 ·show upd H D (.lst []) c=none;rw [ZV (yY (yN (lt_of_cell y c e) hD))];exact I.freeC y c (sub.get e)
 ·exact ⟨zG _,[],n,.nil,hd⟩
 ·show (O3 xs σ ix).length=(xs++ys).length;unfold O3;rw [zU,zX,zX,fo.len,zU]
theorem GS{elt iter tg:Expr}{xs:List Str}{g:TG}{ifs:List Expr}{scope:aG}{cl:List (Str×aj)}{pos:Pos}{ix:List Nat}{ys:List Str}{tt:TT}{te:TE}{it:aj}{fp:List aj}{tn:Nat->aF->Prop}{J:It}{Q:VK}{E:jb}{RR:ai->aj->Result->am->Prop}(hc:X.calm=true)(hg:∀ C s H fp E,PG (WO X (xs++ys) scope cl C s H fp E) tg g)(ht:∀ C s H fp E,PH (WO X (xs++ys) scope cl C s H fp E) ifs tt)(he:∀ C s H fp E,PE (WO X (xs++ys) scope cl C s H fp E) elt te)(sub:Yz X.env cl)(jB:scope.kind=.function)(jw:∀ y∈scope.names,y.2≠.cell)(hhas:∀ y,((relabel scope X.env).names.lookup y=some .cell\/(relabel scope X.env).names.lookup y=some .free)->∃ c,cl.lookup y=some c)(fo:YD X scope ix ys)(I:ZH X pins σ H s)(T:UK X.prog X.w X.K tg J fp it tn)(st:tn 0 s.heap)(hf:∀ b∈fp,Ws X pins H b)(q:Kn J xs.length g σ ix tt te H Q)(jQ:∀ D C s' H' m,s.heap.objs.size<=C->ZH X pins σ H' s'->Ws X pins H' C->s'.heap.Ns C m->Q (.ref D) H'->RR (.ref D) C (.ok .next) s'):
  aD (aC X.prog X.w) X.A (newList []) (fun acc s₃=>aD (aC X.prog X.w) X.A (newFunctionEnv scope X.env.globals cl [] X.env.qual none .none (some X.env)) (fun cenv s₄=>
   codeAny (aC X.prog X.w) X.A (.compStart (.ListComp elt [⟨tg,iter,ifs,0⟩] scope pos) 0 (.ref it) acc { cenv with scope:=relabel scope X.env }) (RR acc cenv.locals) s₄) E s₃) E s:=by
 refine wpAny_newObj_type (wpAny_newFunctionEnv jw (by intro y hy;simp at hy) (fun h₁ hns₁ hsb₁=>?_) jB)
 dsimp only at hns₁ hsb₁ ⊢;generalize hH2:s.heap.push { cls:=.type "list",dict:=none,data:=.seq ([]:je).toArray }=H2 at hns₁ hsb₁ ⊢;have hC:H2.objs.size=s.heap.objs.size+1:=by rw [<-hH2,tO]
 have hDC:s.heap.objs.size≠H2.objs.size:=by rw [hC];exact yY (uV _)
 have hCle:s.heap.objs.size<=H2.objs.size:=by rw [hC];exact wC _
 have below:∀ b,b<s.heap.objs.size->b≠H2.objs.size/\b≠s.heap.objs.size:=fun b hb=>⟨by rw [hC];exact yY (Nat.lt_succ_of_lt hb),yY hb⟩
 have old:∀ b o,s.heap.get? b=some o->h₁.get? b=some o:=fun b o e=>hsb₁.extBut b o (below b (zS e)).1 (zR _ (hH2 ▸ zR _ e));have hacc:∃ n,h₁.get? s.heap.objs.size=some { cls:=.type "list",data:=.seq ([]:je).toArray n }:=⟨_,hsb₁.extBut _ _ hDC (zR _ (hH2 ▸ yS _ rfl))⟩;obtain ⟨nD,hacc⟩:=hacc;have hf':∀ b∈fp,Ws X pins H b/\b<s.heap.objs.size:=fun b hb=>⟨hf b hb,by obtain ⟨o,e,_⟩:=T.obj 0 _ st b hb;exact zS e⟩
 have hDn:H s.heap.objs.size=none:=I.hok.fresh (zY _);obtain ⟨W,⟨m0,w0⟩,turn⟩:=q _ hDn;generalize hE:notedBy (aC X.prog X.w) X.A (compEnvC scope cl H2.objs.size X.env) (fun e s'=>RR (.ref s.heap.objs.size) H2.objs.size (.error e) s')=EE;have I0:ZH (WO X (xs++ys) scope cl H2.objs.size s H fp EE) [] (O3 xs σ ix) (upd H s.heap.objs.size (.lst [])) { s with heap:=h₁,toks:=s.toks+([]:List (Str×ai)).length }:=
  ZIv I hf' sub jB hhas fo (zY _) hCle hDC hns₁ old hacc
 have st1:tn 0 h₁:=T.keep _ _ _ st fun b _ o e=>old b o e;have fr1:∀ b∈fp,upd H s.heap.objs.size (.lst []) b=none:=fun b hb=>by rw [ZV (below b (hf' b hb).2).2];exact (hf b hb).1
 have stat:∀{H':Hp},(∀ b∈fp,H' b=none)->∀ b∈fp,Ws (WO X (xs++ys) scope cl H2.objs.size s H fp EE) [] H' b:=fun hn b hb=>
  ⟨hn b hb,(I0.ok.exf b hb).1,I0.ok.exfs b hb,.inl hb,(I0.ok.exf b hb).2,fun p hp=>absurd (show p∈([]:List (aj×aJ)) from hp) (by simp)⟩
 have loop:∀ s₃:am,s₃={ s with heap:=h₁,toks:=s.toks+([]:List (Str×ai)).length } ->
   codeAny (aC X.prog X.w) X.A (.compLoop (.ListComp elt [⟨tg,iter,ifs,0⟩] scope pos) 0 (.ref it) (.ref s.heap.objs.size) (compEnvC scope cl H2.objs.size X.env)) (RR (.ref s.heap.objs.size) H2.objs.size) s₃:=by
  rintro s₃ rfl;refine Cg (fun n s'=>∃ i σ' H',ZH (WO X (xs++ys) scope cl H2.objs.size s H fp EE) [] σ' H' s'/\(∃ os:St,os.length=xs.length/\σ'=os++ix.map fun i=>(σ[i]?).join)/\tn i s'.heap/\(∀ b∈fp,H' b=none)/\W i n H') ?_ m0 ⟨0,_,_,I0,⟨_,zX _,rfl⟩,st1,fr1,w0⟩;rintro n s3 ⟨i,σ3,H3,I3,⟨o3,ho3,hσ3⟩,st3,fr3,w3⟩;rw [hE];rcases turn i n H3 w3 with ⟨stop,qn⟩ | ⟨go,step⟩
  ·refine Zc (T.done (WO X (xs++ys) scope cl H2.objs.size s H fp EE) rfl rfl rfl hc i [] s3 σ3 H3 EE I3 (stat fr3) st3 stop) fun r s4 ⟨hr,I4⟩=>?_;subst hr;obtain ⟨m4,hn4,_⟩:=I4.loc;have Ix:ZH X pins σ H3 s4:=I.call' (s':=s4) (ch:=fp) I4.os I4.base I4.hok I4.bare fun b hb=>by
    obtain ⟨_,z1,_,z3,z4,z5⟩:=hf b hb;exact ⟨z3,z1,z4,z5⟩
   exact jQ _ _ s4 H3 m4 hCle Ix (I.fpOk hCle I4.free) hn4 qn
  ·refine Zc (T.item (WO X (xs++ys) scope cl H2.objs.size s H fp EE) rfl rfl rfl hc i [] s3 σ3 H3 EE I3 (stat fr3) st3 go) fun r s4 ⟨u,hr,h4⟩=>?_;subst hr;refine Zc h4 fun _ s5 ⟨xv,H5,I5,r5,y5,st5,fr5⟩=>?_;have I5':=I5.pinned (stat fr5) (T.obj _ _ st5);have again:∀{σ7:St}{H7:Hp}{s7:am}{m':Nat},ZH (WO X (xs++ys) scope cl H2.objs.size s H fp EE) ([]++OO fp s5.heap) σ7 H7 s7->(∃ os:St,os.length=xs.length/\σ7=os++ix.map fun i=>(σ[i]?).join)->m'<n->W (i+1) m' H7 ->
     ∃ m,m<n/\∃ i σ' H',ZH (WO X (xs++ys) scope cl H2.objs.size s H fp EE) [] σ' H' s7/\(∃ os:St,os.length=xs.length/\σ'=os++ix.map fun i=>(σ[i]?).join)/\tn i s7.heap/\(∀ b∈fp,H' b=none)/\W i m H':=fun{σ7 H7 s7 m'} I7 e7 hm w7=>by
    refine ⟨m',hm,i+1,σ7,H7,I7.unpinned,e7,T.keep _ _ _ st5 fun b hb o e=>(I7.pin (b,o) (yI _ (yI _ (Oz hb e)))).1,fun b hb=>?_,w7⟩;obtain ⟨o,e,d⟩:=T.obj _ _ st5 b hb;exact (I7.pin (b,o) (yI _ (yI _ (Oz hb e)))).2.1
   have stp:=step xv _ y5 o3 ho3;rw [<-hσ3] at stp;refine Zc (hg _ _ _ _ _ _ s5 σ3 H5 xv u _ I5' r5 stp) fun _ s6 ⟨σ6,H6,I6,e6,q6⟩=>?_;refine Zc (ht _ _ _ _ _ _ s6 _ _ _ I6 q6) fun ok s7 ⟨H7,I7,q7⟩=>?_
   cases ok with
   | false=>
    rw [aO zW] at q7 ⊢;obtain ⟨m',hm,w7⟩:=q7;exact again I7 e6 hm w7
   | true=>
    rw [aP rfl] at q7 ⊢;refine Zc (he _ _ _ _ _ _ s7 _ _ _ I7 q7) fun y s8 ⟨yv,H8,I8,r8,ys8,m',e8,z8,hm,w8⟩=>?_;refine Zc (QD _ s8 _ H8 (.ref s.heap.objs.size) [yv] (.ref s.heap.objs.size) [y] (fun _ H9=>W (i+1) m' H9) I8 rfl (.cons r8 .nil) ⟨_,ys8,yv,rfl,rfl,e8,z8,w8⟩) fun _ s9 ⟨_,H9,I9,_,w9⟩=>?_;exact again I9 e6 hm w9
 exact codeAny_compStart_list (loop _ rfl) (T.self _ 0 _ _ _ st1 (loop _ rfl))
theorem BP{elt iter tg:Expr}(xs:List Str)(x:Str){g:TG}{ifs:List Expr}{scope:aG}{pos:Pos}{wi:TI}{tt:TT}{te:TE}(ix:List Nat)(ys:List Str)(hc:X.calm=true)(hg:∀ C s H fp E,PG (WO X (xs++ys) scope (WL X.env scope.names []) C s H fp E) tg g)(hi:PI X tg iter wi)(ht:∀ C s H fp E,PH (WO X (xs++ys) scope (WL X.env scope.names []) C s H fp E) ifs tt)(he:∀ C s H fp E,PE (WO X (xs++ys) scope (WL X.env scope.names []) C s H fp E) elt te)(fo:YD X scope ix ys)(hk:OV X.env scope.names=true:=by rfl)(hb:P4 scope x=true:=by rfl)(hs:∀ x,foldedSetIterable iter X.env x=pure x:=by intro _;rfl):
  PE X (.ListComp elt [⟨tg,iter,ifs,0⟩] scope pos) (Jh xs.length g wi ix tt te):=by
 intro pins s σ H Q I h;have B:=Nq hb;have F:=Gq I.ok hk;rw [eval_ListComp];refine wpAny_comprehension_free (use:=none) rfl hs (HX F) B.kind B.names (Zc (hi pins s σ H _ I h) fun v s1 h1=>Zc h1 fun itv s2 h2=>?_);obtain ⟨it,fp,tn,J,H2,e,I2,T,st2,f2,q2⟩:=h2;subst e;refine GS (RR:=fun acc C=>compPost (aC X.prog X.w) X.A X.xe none (EP X pins σ Q) acc C) hc hg ht he (JX F) B.kind B.cell (G5 B.cell) fo I2 T st2 f2 q2 ?_;intro D C s' H' m hC Ix fC hn q;refine ⟨m,hn,fun h' sb=>⟨.ref D,H',?_,rfl,q⟩⟩;obtain ⟨f0,f1,_,f3,f4,f5⟩:=fC;exact Ix.turned (t':=s'.toks) (fun b o hb e=>(sb.2 b hb).trans e) f0 f1 f3 f4 f5
theorem E9{elt iter tg:Expr}(xs:List Str)(x:Str){g:TG}{y:Str}{py:Pos}{ifs:List Expr}{scope:aG}{pos jT:Pos}{wi:TI}{tt:TT}{te:TE}{i:Nat}(ix:List Nat)(ys:List Str)(hN:X.N.Nodup)(hiN:X.N[i]? = some y)(hy:X.env.scope.names.lookup y=some .local)(hc:X.calm=true)(hg:∀ C s H fp E,PG (WO X (xs++ys) scope (WL X.env scope.names []) C s H fp E) tg g)(hi:PI X tg iter wi)(ht:∀ C s H fp E,PH (WO X (xs++ys) scope (WL X.env scope.names []) C s H fp E) ifs tt)(he:∀ C s H fp E,PE (WO X (xs++ys) scope (WL X.env scope.names []) C s H fp E) elt te)(fo:YD X scope ix ys)(hsw:swapsWith (.ListComp elt [⟨tg,iter,ifs,0⟩] scope pos) (some (.Name y py)) jT.line X.env=pure true:=by rfl)(hk:OV X.env scope.names=true:=by rfl)(hb:P4 scope x=true:=by rfl)(hs:∀ x,foldedSetIterable iter X.env x=pure x:=by intro _;rfl):
  PS X (.Assign [.Name y py] (.ListComp elt [⟨tg,iter,ifs,0⟩] scope pos) jT) (Hv i (Jh xs.length g wi ix tt te)):=by
 intro pins s σ H D I h;have B:=Nq hb;have F:=Gq I.ok hk;rw [exec_Assign_Name_used _ _ _ _ hsw];refine aa (ah (aa ?_));show aD _ X.A (do let _<-comprehension (.ListComp elt [⟨tg,iter,ifs,0⟩] scope pos) scope X.env _ (newList []) false (aI iter X.env) (some (assign (.Name y py) X.env))) _ _ s
 refine aa (ae (wpAny_comprehension_free (use:=some (assign (.Name y py) X.env)) (Q:=fun _ s'=>SP X pins D .next s') rfl hs (HX F) B.kind B.names
  (Zc (hi pins s σ H _ I h) fun v s1 h1=>Zc h1 fun itv s2 h2=>?_)) (fun _ s' hq=>ad (ad hq)) fun _ _ e=>e)
 obtain ⟨it,fp,tn,J,H2,e,I2,T,st2,f2,q2⟩:=h2;subst e;refine GS (RR:=fun acc C=>compPost (aC X.prog X.w) X.A X.xe (some (assign (.Name y py) X.env)) (fun _ s'=>SP X pins D .next s') acc C) hc hg ht he (JX F) B.kind B.cell (G5 B.cell) fo I2 T st2 f2 q2 ?_;intro Dd C s' H' m hC Ix fC hn q;obtain ⟨f0,f1,_,f3,f4,f5⟩:=fC;show aD _ X.A (assign (.Name y py) X.env (.ref Dd)) _ _ _;refine wpAny_assign_Name (K2 Ix hN hiN (.inl hy) (v:=.ref Dd) rfl (fun s3 I3 ⟨a,sb,ha⟩=>?_) (.inr hy));have ne:C≠a:=by
  rcases ha with ha | ha
  ·rw [ha];exact f1
  ·exact fun z=>f4 y a ha z.symm
 refine ⟨m,hn.sameBut sb ne,fun h' sb'=>⟨_,H',?_,q⟩⟩;exact I3.turned (t':=s3.toks) (fun b o hb e=>(sb'.2 b hb).trans e) f0 f1 f3 f4 f5
theorem Vi.toT{J:It}{ix:List Nat}{tt:TT}{te:TE}{Q:VK}(h:Vi J σ ix tt te H Q):Kn J 1 (Qt 0) σ ix tt te H Q:=fun D hD=>by
 obtain ⟨W,h0,hs⟩:=h D hD;refine ⟨W,h0,fun i m H hw=>(hs i m H hw).imp id fun q=>⟨q.1,fun x H' y os ho=>?_⟩⟩
 match os,ho with
 | [_],_=>exact ⟨⟨[some x],rfl,rfl⟩,q.2 x H' y⟩
def Ee(wi:TI):TI:=fun σ H K=>∃ K0:It->Hp->Prop,wi σ H K0/\∀ J H1,K0 J H1->K J H1
theorem PI.more{tg iter:Expr}{wi:TI}(h:PI X tg iter wi):PI X tg iter (Ee wi):=fun pins s σ H R I ⟨K0,hw,f⟩=>
 ae (h pins s σ H K0 I hw) (fun _ _ z=>ae z (fun _ _ ⟨it,fp,tn,J,H',a,b,c,d,e,r⟩=>⟨it,fp,tn,J,H',a,b,c,d,e,f _ _ r⟩) fun _ _ z=>z) fun _ _ z=>z
theorem VZ{elt iter:Expr}{x:Str}{px:Pos}{ifs:List Expr}{scope:aG}{pos:Pos}{wi:TI}{tt:TT}{te:TE}(ix:List Nat)(ys:List Str)(hc:X.calm=true)(hi:PI X (.Name x px) iter wi)(ht:∀ C s H fp E,PH (WO X (x :: ys) scope (WL X.env scope.names []) C s H fp E) ifs tt)(he:∀ C s H fp E,PE (WO X (x :: ys) scope (WL X.env scope.names []) C s H fp E) elt te)(fo:YD X scope ix ys)(hk:OV X.env scope.names=true:=by rfl)(hb:P4 scope x=true:=by rfl)(jS:(x :: ys).Nodup:=by decide +kernel)(hs:∀ x,foldedSetIterable iter X.env x=pure x:=by intro _;rfl):
  PE X (.ListComp elt [⟨.Name x px,iter,ifs,0⟩] scope pos) (G7 wi ix tt te):=by
 intro pins s σ H Q I h;have hl:(relabel scope X.env).names.lookup x=some .local:=lookup_relabel_local (Nq hb).own;exact BP [x] x (g:=Qt 0) ix ys hc (fun _ _ _ _ _=>KC (i:=0) jS rfl (Or.inl hl) (Or.inr hl)) (PI.more hi) ht he fo hk hb hs pins s σ H Q I ⟨_,h,fun _ _ z=>Vi.toT z⟩
theorem M4{elt iter:Expr}{x y:Str}{px py:Pos}{ifs:List Expr}{scope:aG}{pos jT:Pos}{wi:TI}{tt:TT}{te:TE}{i:Nat}(ix:List Nat)(ys:List Str)(hN:X.N.Nodup)(hiN:X.N[i]? = some y)(hy:X.env.scope.names.lookup y=some .local)(hc:X.calm=true)(hi:PI X (.Name x px) iter wi)(ht:∀ C s H fp E,PH (WO X (x :: ys) scope (WL X.env scope.names []) C s H fp E) ifs tt)(he:∀ C s H fp E,PE (WO X (x :: ys) scope (WL X.env scope.names []) C s H fp E) elt te)(fo:YD X scope ix ys)(hsw:swapsWith (.ListComp elt [⟨.Name x px,iter,ifs,0⟩] scope pos) (some (.Name y py)) jT.line X.env=pure true:=by rfl)(hk:OV X.env scope.names=true:=by rfl)(hb:P4 scope x=true:=by rfl)(jS:(x :: ys).Nodup:=by decide +kernel)(hs:∀ x,foldedSetIterable iter X.env x=pure x:=by intro _;rfl):
  PS X (.Assign [.Name y py] (.ListComp elt [⟨.Name x px,iter,ifs,0⟩] scope pos) jT) (Hv i (G7 wi ix tt te)):=by
 intro pins s σ H D I h;have hl:(relabel scope X.env).names.lookup x=some .local:=lookup_relabel_local (Nq hb).own;exact E9 [x] x (g:=Qt 0) ix ys hN hiN hy hc (fun _ _ _ _ _=>KC (i:=0) jS rfl (Or.inl hl) (Or.inr hl)) (PI.more hi) ht he fo hsw hk hb hs pins s σ H D I ⟨_,h,fun _ _ z=>Vi.toT z⟩
end
section
variable{X:Cx}
def AN(K:zZ):jf->Hp->VK->Prop:=fun xs H Q=>∃ x n t b,xs=[x,.ty n]/\Y2 K H x t/\yX K t (.type n)=some b/\Q (.bl b) H
theorem Vo:VW X (.builtin "isinstance") (AN X.K):=by
 intro pins s σ H xs us Q I r h;obtain ⟨x,n,t,b,rfl,ty,e,q⟩:=h;obtain ⟨u,w',rfl,rx,rn⟩:=O7 r;cases (show w'=Value.type n from rn);exact AA I rx ty e fun tk=>⟨.bl b,H,I.tok tk,rfl,q⟩
theorem Bi{K:zZ}:yX K (.type "bool") (.type "bool")=some true:=by kernel_rfl
theorem JF{K:zZ}:yX K (.type "int") (.type "bool")=some false:=by kernel_rfl
theorem ZOg{K:zZ}:yX K (.type "str") (.type "bool")=some false:=by kernel_rfl
theorem ZOJ{K:zZ}:yX K (.type "tuple") (.type "bool")=some false:=by kernel_rfl
theorem O2{K:zZ}:yX K (.type "int") (.type "int")=some true:=by kernel_rfl
theorem NJ{K:zZ}:yX K (.type "str") (.type "int")=some false:=by kernel_rfl
theorem NI{K:zZ}:yX K (.type "tuple") (.type "int")=some false:=by kernel_rfl
theorem kit_is'{K:zZ}:yX K (.type "int") (.type "str")=some false:=by kernel_rfl
theorem OE{K:zZ}:yX K (.type "str") (.type "str")=some true:=by kernel_rfl
theorem Nl{K:zZ}:yX K (.type "tuple") (.type "str")=some false:=by kernel_rfl
theorem Go{K:zZ}:yX K (.type "int") (.type "tuple")=some false:=by kernel_rfl
theorem Kz{K:zZ}:yX K (.type "str") (.type "tuple")=some false:=by kernel_rfl
theorem Lf{K:zZ}:yX K (.type "tuple") (.type "tuple")=some true:=by kernel_rfl
theorem Wm:aA "isinstance" = some (.builtin "isinstance"):=by decide +kernel
theorem Nr:aA "all" = some (.builtin "all"):=by decide +kernel
theorem Lj:aA "max" = some (.builtin "max"):=by decide +kernel
theorem HN:aA "min" = some (.builtin "min"):=by decide +kernel
theorem Kk:aA "abs" = some (.builtin "abs"):=by decide +kernel
theorem Xl:aA "len" = some (.builtin "len"):=by decide +kernel
theorem GF:aA "bool" = some (.type "bool"):=by decide +kernel
theorem QY:aA "int" = some (.type "int"):=by decide +kernel
theorem OC:aA "str" = some (.type "str"):=by decide +kernel
theorem QZ:aA "tuple" = some (.type "tuple"):=by decide +kernel
theorem Qf:aA "list" = some (.type "list"):=by decide +kernel
theorem Ju:Yx X (aB .LtE) (fun x y H Q=>∃ i j,x=.str i/\y=.str j/\Q (.bl (!decide (j.cps.toList<i.cps.toList))) H):=by
 intro pins s σ H x y v u Q I rx ry h;obtain ⟨i,j,rfl,rfl,q⟩:=h;obtain ⟨t,rfl⟩:=rx;obtain ⟨t',rfl⟩:=ry;exact PySem.P.le_str (Yw I q (by simp))
def D4(i j:Int):Prop:=0<j/\j.natAbs.log2<9000
theorem Dh:Yx X (binaryOp .FloorDiv) (rI D4 fun i j=>.int (i / j)):=OQ fun i j _ _ _ _ _ hc q=>by
 have h1:(0:Int)<j:=hc.1;exact floordiv_int (by lia) (by rw [qZ i (by lia)];exact q) (.inl (PyProof.noPylong_of_log2 hc.2))
theorem O4(hc:X.calm=true):VW X (.builtin "all") (fun xs H Q=>∃(p:aj)(bs:List Bool),xs=[.ref p]/\ZL X.K H p (bs.map V.bl)/\Q (.bl (bs.all id)) H):=by
 intro pins s σ H xs us Q I r h;obtain ⟨p,bs,rfl,hq,q⟩:=h;obtain ⟨u,rfl,rx⟩:=Vk r;cases rx;obtain ⟨jj,rv,pl,hz⟩:=I.list hq;have hl:=rv.length;have hlt:p<s.heap.objs.size:=by obtain ⟨_,e,_⟩:=pl.isList;exact zS e
 have jt:p≠s.heap.objs.size:=yY hlt;have hh:=I.ok.hd hc;have tr:∀(i:Nat)(v:ai),jj.toArray[i]? = some v->v=.bool (bs.getD i true):=fun i v hv=>by
  have hv':jj[i]? = some v:=by simpa using hv
  have hi:i<jj.length:=(yV.mp hv').1;have hb:i<bs.length:=by rw [zX] at hl;lia
  obtain ⟨u,e1,e2⟩:=rv.get (i:=i) (x:=.bl bs[i]) (by rw [zL,zT hb];rfl)
  rw [hv'] at e1;cases e1;rw [show v=Value.bool bs[i] from e2,zV,zT hb];rfl
 refine call_all_walk (wpAny_pyIter_list pl.isList ?_);refine ⟨_,_,_,_,_,_,(fun i=>bs.getD i true),rfl,Walks.list (A:=X.A.in1) hh s.heap.objs.size p jt jj.toArray,⟨⟨_,yS _ rfl,rfl,rfl⟩,pl.isList.push _⟩,fun i v s' Q' E' hP hQ=>?_,fun h' tk hk=>?_⟩
 ·rw [tr i v hP];exact wpAny_truthy_bool hQ
 ·have e:(yU jj.toArray.size).all (fun i=>bs.getD i true)=bs.all id:=by
   rw [zO,<-hl,zX];have e2:bs.all id=((yU bs.length).map fun i=>bs.getD i true).all id:=by rw [range_getD]
   rw [e2,vO];rfl
  rw [e];refine ⟨.bl (bs.all id),H,I.kept (t':=tk) fun b o eb=>hk b o ?_ (zR _ eb),rfl,q⟩;intro hm;exact absurd (zS eb) (by rw [zA.mp hm];exact wT _)
end
section
variable{prog:ao}{w:ay}{A:az}{R:Result->am->Prop}
end
section
variable{X:Cx}
end
def Gc(x:Str):It:=⟨fun i _=>i<x.cps.size,fun i H v H'=>H'=H/\∃ c,x.cps[i]? = some c/\v=.str ⟨#[c]⟩,fun i _=>i=x.cps.size⟩
theorem HM{P:ao}{w:ay}{K:zZ}{tg:Expr}(ty:String)(hty:["enumerate","zip","dict_itemiterator","dict_reverseitemiterator","odict_iterator","itertools.zip_longest","itertools.pairwise"].contains ty=false)(x:Str)(t:Tok)(it:aj)(W:∀ A:az,A.handled=none->Walks P w A it [it] [it] x.cps.size (SignAt x) (fun i h=>h.IsStrIter it ty x t i))(self:∀ (A:az) (i:Nat) (s:am) (Q:jb) (E:jb),s.heap.IsStrIter it ty x t i->Q (.ref it) s->aD (aC P w) A (pyIter (.ref it)) Q E s):
  UK P w K tg (Gc x) [it] it (fun i h=>h.IsStrIter it ty x t i) where
 mem:=by simp
 obj:=fun i h st b hb=>by
  have e:b=it:=by simpa using hb
  subst e;obtain ⟨o,e,c,d⟩:=st;exact ⟨o,e,fun v z=>by rw [d] at z;cases z⟩
 keep:=fun i h h' ⟨o,e,r⟩ k=>⟨o,k it (by simp) o e,r⟩
 item:=by
  intro X hP hw hK hc i pins s σ H E I hf st hg;subst hP hw hK;obtain ⟨f0,f1,f2,f3,f4,f5⟩:=hf it (by simp)
  refine (W X.A (I.ok.hd hc)).item i s _ _ hg st fun v h' tk hv st' kk=>?_;obtain ⟨c,u,hx,rfl⟩:=hv;have I1:ZH X pins σ H { s with heap:=h',toks:=tk }:=I.turned (fun b o hb e=>kk b o (by simpa using hb) e) f0 f1 f3 f4 f5
  obtain ⟨o,e,cl,d⟩:=id st';exact ⟨_,rfl,Op (s:={ s with heap:=h',toks:=tk }) e cl d hty ⟨.str ⟨#[c]⟩,H,I1,⟨u,rfl⟩,⟨rfl,c,hx,rfl⟩,st',fun b hb=>(hf b hb).1⟩⟩
 done:=by
  intro X hP hw hK hc i pins s σ H E I hf st hg;subst hP hw hK;obtain ⟨f0,f1,f2,f3,f4,f5⟩:=hf it (by simp)
  have hi:i=x.cps.size:=hg;subst hi;exact (W X.A (I.ok.hd hc)).done s _ _ st fun h' tk kk=>⟨rfl,I.turned (fun b o hb e=>kk b o (by simpa using hb) e) f0 f1 f3 f4 f5⟩
 self:=self
section
variable{X:Cx}{tg:Expr}
def Ep(tl:TE):TI:=fun σ H R=>tl σ H fun v H1=>∃ x,v=.str x/\R (Gc x) H1
theorem ZOw{l:Expr}{tl:TE}(hl:PE X l tl):PI X tg l (Ep tl):=by
 intro pins s σ H R I h;refine Zc (hl pins s σ H _ I h) fun v s1 ⟨z,H1,I1,r1,x,e,q⟩=>?_;subst e;obtain ⟨t,rfl⟩:=r1;have fp:∀ b∈[s1.heap.objs.size],Ws X pins H1 b:=fun b hb=>by
  rw [zA.mp hb];exact I1.fpOk (zY _) (I1.hok.fresh (zY _))
 cases ha:x.cps.all (· < 128)
 ·exact wpAny_pyIter_wide ha ⟨s1.heap.objs.size,[s1.heap.objs.size],_,_,H1,rfl,I1.kept (t':=s1.toks) fun b o e=>zR _ e,
   HM "str_iterator" (by decide) x t _ (fun A hA=>Walks.strWide hA _ x t) (fun A i s Q E st h=>wpAny_pyIter_striter_wide st h),⟨_,yS _ rfl,rfl,rfl⟩,fp,q⟩
 ·exact wpAny_pyIter_ascii ha ⟨s1.heap.objs.size,[s1.heap.objs.size],_,_,H1,rfl,I1.kept (t':=s1.toks) fun b o e=>zR _ e,
   HM "str_ascii_iterator" (by decide) x t _ (fun A hA=>Walks.strAscii hA _ x t) (fun A i s Q E st h=>wpAny_pyIter_striter_ascii st h),⟨_,yS _ rfl,rfl,rfl⟩,fp,q⟩
end
section
variable{σ:St}{H:Hp}{ix:List Nat}{te:TE}{Q:VK}{K:zZ}
theorem VY{J:It}{n:Nat}(item:Nat->V->Prop)(Pv:aj->Nat->jf->Hp->Prop)(hn:n<aw)(hgo:∀ D i ys H,i<n->Pv D i ys H->J.go i H)(hy:∀ D i ys H x H',i<n->Pv D i ys H->J.yld i H x H'->H'=H/\item i x)(jW:∀ D ys H,Pv D n ys H->J.stop n H)(h0:∀ D,H D=none->Pv D 0 [] (upd H D (.lst [])))(step:∀ D i ys H x,H D=some (.lst ys)->ys.length<=i->i<n->item i x->Pv D i ys H->∀ R:VK,(∀ y H3,H3 D=some (.lst ys)->Pv D (i+1) (ys++[y]) (upd H3 D (.lst (ys++[y])))->R y H3)->te (OP σ ix x) H R)(fin:∀ D ys H,H D=some (.lst ys)->Pv D n ys H->Q (.ref D) H):Vi J σ ix Mq te H Q:=by
 intro D hD;refine ⟨fun i m H=>m=n - i/\i<=n/\∃ ys,H D=some (.lst ys)/\ys.length<=i/\Pv D i ys H,⟨n,rfl,zG _,[],ZP,zY _,h0 D hD⟩,?_⟩;rintro i m H ⟨rfl,hi,ys,e,hl,p⟩;by_cases hlt:i<n
 ·refine .inr ⟨hgo D i ys H hlt p,fun x H' y=>?_⟩;obtain ⟨rfl,it⟩:=hy D i ys H x H' hlt p y;unfold Mq;dsimp only;rw [aP rfl];refine step D i ys _ x e hl hlt it p _ fun y H3 e3 p3=>?_;exact ⟨ys,n - (i+1),e3,by lia,by lia,rfl,hlt,ys++[y],ZP,by rw [zU,tY];lia,p3⟩
 ·have e':i=n:=by lia
  subst e';exact .inl ⟨jW D ys H p,fin D ys H e p⟩
end
end L2
namespace Tw
open PySem
inductive KT where
 | int (i:Int)
 | str (x:Str)
 | tup (l:List KT)
mutual
def KT.depth:KT->Nat
 | .int _=>0
 | .str _=>0
 | .tup l=>1+depthL l
def depthL:List KT->Nat
 | []=>0
 | t :: r=>max t.depth (depthL r)
end
mutual
def KT.size:KT->Nat
 | .int _=>1
 | .str _=>1
 | .tup l=>1+sizeL l
def sizeL:List KT->Nat
 | []=>0
 | t :: r=>t.size+sizeL r
end
def UT(c:Nat):Bool:=decide (32<=c)&&decide (c<=126)
def Us(x:Str):Bool:=decide (x.length<=40)&&x.cps.toList.all UT
mutual
def KT.fits:KT->Nat->Bool
 | .int i,_=>decide (i.natAbs<10 ^ 60)
 | .str x,_=>Us x
 | .tup l,r=>decide (0<r)&&(decide (l.length<=4)&&fitsL l (r - 1))
def fitsL:List KT->Nat->Bool
 | [],_=>true
 | t :: l,r=>t.fits r&&fitsL l r
end
theorem NZ(r:Nat):∀ l:List KT,fitsL l r=l.all fun t=>t.fits r
 | []=>by simp [fitsL]
 | t :: l=>by rw [fitsL,tS,NZ r l]
mutual
theorem Va:∀(t:KT)(r:Nat),t.fits r=true->t.depth<=r
 | .int _,r,_=>by rw [KT.depth];exact zG _
 | .str _,r,_=>by rw [KT.depth];exact zG _
 | .tup l,r,h=>by
  rw [KT.fits,zQ,zQ] at h;obtain ⟨h1,_,h3⟩:=h;have h1':0<r:=of_decide_eq_true h1;have:=fitsL_depth l (r - 1) h3;rw [KT.depth]
  lia
theorem fitsL_depth:∀(l:List KT)(r:Nat),fitsL l r=true->depthL l<=r
 | [],r,_=>by rw [depthL];exact zG _
 | t :: l,r,h=>by
  rw [fitsL,zQ] at h;have a:=Va t r h.1;have b:=fitsL_depth l r h.2;rw [depthL]
  lia
end
def KT.things:KT->List KT
 | .tup l=>l
 | _=>[]
def below(l:List KT):List KT:=l.flatMap KT.things
end Tw
namespace Tw
open PySem PySem.Spec L2
structure ZB(P:ao)(w:ay)(K:zZ)(mg:jc)(base:aF)(k:Nat)(x:Str)(ps:List Str)(sp:Sp):Prop where
 ex:∃ f fd,ZJ P w K mg base ZW k f fd ps sp/\Zt K fd ps []/\yQ K (.ref f)=true/\mg x=some (.ref f)
theorem Zh{X:Cx}{k:Nat}{x:Str}{ps:List Str}{sp:Sp}{e:Expr}{es:List Expr}{t:TA}{p pos:Pos}(D:ZB X.prog X.w X.K X.mg X.base k x ps sp)(hr:ZX k X.A)(ha:PA X (e :: es) t)(hg:Gl X x:=by rfl)(jy:(x==("__debug__" : Str))=false:=by decide)(he:ax (e :: es) X.env=(false,aI e X.env) :: ax es X.env:=by rfl)(jv:(aH pos (ax es X.env)).any (·.1)=false:=by rfl):
  PE X (.Call (.Name x p) (e :: es) [] pos) (NH sp [] E0 t):=by
 obtain ⟨f,fd,F,b,kp,m⟩:=D.ex;exact KY F hr hg m kp b .nil XJ ha jy he jv
mutual
def ZD(H:Hp):KT->V->Prop
 | .int i,v=>v=.int i
 | .str x,v=>v=.str x
 | .tup l,v=>∃ a vs,v=.ref a/\H a=some (.tup vs)/\KeysAt H l vs
def KeysAt(H:Hp):List KT->jf->Prop
 | [],vs=>vs=[]
 | t :: l,vs=>∃ v r,vs=v :: r/\ZD H t v/\KeysAt H l r
end
def Z1(H H':Hp):Prop:=∀ b xs,H b=some (.tup xs)->H' b=some (.tup xs)
mutual
theorem ZD.mono{H H':Hp}(m:Z1 H H'):∀(t:KT)(v:V),ZD H t v->ZD H' t v
 | .int _,_,h=>by rw [ZD] at h ⊢;exact h
 | .str _,_,h=>by rw [ZD] at h ⊢;exact h
 | .tup l,_,h=>by
  rw [ZD] at h ⊢;obtain ⟨a,vs,e,h1,h2⟩:=h;exact ⟨a,vs,e,m a vs h1,KeysAt.mono m l vs h2⟩
theorem KeysAt.mono{H H':Hp}(m:Z1 H H'):∀(l:List KT)(vs:jf),KeysAt H l vs->KeysAt H' l vs
 | [],_,h=>by rw [KeysAt] at h ⊢;exact h
 | t :: l,_,h=>by
  rw [KeysAt] at h ⊢;obtain ⟨v,r,e,h1,h2⟩:=h;exact ⟨v,r,e,ZD.mono m t v h1,KeysAt.mono m l r h2⟩
end
theorem KeysAt.nil{H:Hp}:KeysAt H [] []:=by rw [KeysAt]
theorem KeysAt.cons{H:Hp}{t:KT}{l:List KT}{v:V}{r:jf}(h:ZD H t v)(hr:KeysAt H l r):KeysAt H (t :: l) (v :: r):=by
 rw [KeysAt];exact ⟨v,r,rfl,h,hr⟩
theorem ZD.tup{H:Hp}{a:aj}{vs:jf}{l:List KT}(e:H a=some (.tup vs))(h:KeysAt H l vs):ZD H (.tup l) (.ref a):=by
 rw [ZD];exact ⟨a,vs,rfl,e,h⟩
theorem ZD.int{H:Hp}(i:Int):ZD H (.int i) (.int i):=by rw [ZD]
theorem ZD.str{H:Hp}(x:Str):ZD H (.str x) (.str x):=by rw [ZD]
theorem KeysAt.append{H:Hp}:∀{l m:List KT}{vs ws:jf},KeysAt H l vs->KeysAt H m ws->KeysAt H (l++m) (vs++ws)
 | [],m,vs,ws,h,g=>by rw [KeysAt] at h;subst h;exact g
 | t :: l,m,vs,ws,h,g=>by
  rw [KeysAt] at h;obtain ⟨v,r,rfl,h1,h2⟩:=h;exact .cons h1 (h2.append g)
theorem KeysAt.length{H:Hp}:∀{l:List KT}{vs:jf},KeysAt H l vs->l.length=vs.length
 | [],vs,h=>by rw [KeysAt] at h;subst h;rfl
 | t :: l,vs,h=>by
  rw [KeysAt] at h;obtain ⟨v,r,rfl,_,h2⟩:=h;rw [zI,zI,h2.length]
theorem KeysAt.get{H:Hp}:∀{l:List KT}{vs:jf}{i:Nat}{v:V},KeysAt H l vs->vs[i]? = some v->∃ t,l[i]? = some t/\ZD H t v
 | [],vs,i,v,h,e=>by rw [KeysAt] at h;subst h;simp at e
 | t :: l,vs,0,v,h,e=>by
  rw [KeysAt] at h;obtain ⟨v',r,rfl,h1,_⟩:=h;simp at e;subst e;exact ⟨t,rfl,h1⟩
 | t :: l,vs,i+1,v,h,e=>by
  rw [KeysAt] at h;obtain ⟨v',r,rfl,_,h2⟩:=h;obtain ⟨t',e1,e2⟩:=h2.get (i:=i) (by simpa using e)
  exact ⟨t',by simpa using e1,e2⟩
theorem KeysAt.take{H:Hp}:∀{l:List KT}{vs:jf}(n:Nat),KeysAt H l vs->KeysAt H (l.take n) (vs.take n)
 | l,vs,0,_=>by simp only [vJ];exact .nil
 | [],vs,n+1,h=>by rw [KeysAt] at h;subst h;exact .nil
 | t :: l,vs,n+1,h=>by
  rw [KeysAt] at h;obtain ⟨v',r,rfl,h1,h2⟩:=h;exact .cons h1 (h2.take n)
theorem KeysAt.drop{H:Hp}:∀{l:List KT}{vs:jf}(n:Nat),KeysAt H l vs->KeysAt H (l.drop n) (vs.drop n)
 | l,vs,0,h=>h
 | [],vs,n+1,h=>by rw [KeysAt] at h;subst h;exact .nil
 | t :: l,vs,n+1,h=>by
  rw [KeysAt] at h;obtain ⟨v',r,rfl,h1,h2⟩:=h;exact h2.drop n
def KT.ty:KT->ai
 | .int _=>.type "int"
 | .str _=>.type "str"
 | .tup _=>.type "tuple"
theorem ZD.ty{H:Hp}{K:zZ}{t:KT}{v:V}(h:ZD H t v):Y2 K H v t.ty:=by
 cases t with
 | int i=>rw [ZD] at h;subst h;exact .int i
 | str x=>rw [ZD] at h;subst h;exact .str x
 | tup l=>rw [ZD] at h;obtain ⟨a,vs,rfl,e,_⟩:=h;exact .tup e
def ZE(p:aj)(H H':Hp):Prop:=∀ b o,H b=some o->b≠p->H' b=some o
theorem ZE.refl(p:aj)(H:Hp):ZE p H H:=fun _ _ h _=>h
theorem ZE.trans{p:aj}{H H1 H2:Hp}(a:ZE p H H1)(b:ZE p H1 H2):ZE p H H2:=fun c o h n=>b c o (a c o h n) n
theorem ZE.upd{p:aj}{H H':Hp}{o:HO}(a:ZE p H H'):ZE p H (L2.upd H' p o):=fun c u h n=>by rw [ZV n];exact a c u h n
theorem ZE.of{p:aj}{H H':Hp}(a:ZA H H'):ZE p H H':=fun c o h _=>a c o h
theorem ZE.tups{p:aj}{H H':Hp}{xs:jf}(a:ZE p H H')(h:H p=some (.lst xs)):Z1 H H':=fun b ys e=>a b _ e (ZQ e h)
theorem ZA.tups{H H':Hp}(a:ZA H H'):Z1 H H':=fun b ys e=>a b _ e
theorem ZY{H:Hp}{p:aj}(h:H p=none)(o:HO):ZA H (L2.upd H p o):=fun b u q=>by rw [ZV (Za q h)];exact q
structure ZI(H:Hp)(p:aj):Prop where
 ex:∃ a b c d:Int,H p=some (.lst [.int a,.int b,.int c,.int d])/\0<=a/\a<2147483647/\0<=c/\0<=d
theorem ZI.stay{H H':Hp}{p q:aj}(w:ZI H p)(s:ZE q H H')(n:p≠q):ZI H' p:=by
 obtain ⟨a,b,c,d,e,r⟩:=w.ex;exact ⟨a,b,c,d,s p _ e n,r⟩
theorem ZI.same{H H':Hp}{p:aj}(w:ZI H p)(s:ZA H H'):ZI H' p:=by
 obtain ⟨a,b,c,d,e,r⟩:=w.ex;exact ⟨a,b,c,d,s p _ e,r⟩
theorem ZI.some{H:Hp}{p:aj}(w:ZI H p):∃ xs,H p=zD (.lst xs):=by
 obtain ⟨a,b,c,d,e,r⟩:=w.ex;exact ⟨_,e⟩
theorem ZE.tupsW{p:aj}{H H':Hp}(a:ZE p H H')(w:ZI H p):Z1 H H':=by
 obtain ⟨xs,e⟩:=w.some;exact a.tups e
def IA(m:Int):Prop:=0<m/\m.natAbs.log2<9000
inductive WG(K:zZ)(vs:jf)(H:Hp)(Q:VK)(_:XK):Prop
 | mk (a:aj) (ns:List Int) (k:Int) (_:vs=[.ref a,.int k]) (_:ZL K H a (ns.map V.int)) (_:ns.length<=63) (_:0<=k) (_:k<=1000) (_:∀(p:aj)(H':Hp),H p=none->ZA H H'->ZI H' p->Q (.ref p) H')
inductive Zr(vs:jf)(H:Hp)(Q:VK)(_:XK):Prop
 | mk (p:aj) (m:Int) (_:vs=[.ref p,.int m]) (_:ZI H p) (_:IA m) (_:∀(r:Int)(H':Hp),0<=r->r<m->ZI H' p->ZE p H H'->Q (.int r) H')
inductive Xz(vs:jf)(H:Hp)(Q:VK)(_:XK):Prop
 | mk (p:aj) (_:vs=[.ref p]) (_:ZI H p) (_:∀(x:Str)(H':Hp),Us x=true->ZI H' p->ZE p H H'->Q (.str x) H')
inductive XC(n:Nat)(vs:jf)(H:Hp)(Q:VK)(_:XK):Prop
 | mk (p:aj) (r:Nat) (_:vs=[.ref p,.int (r:Int)]) (_:ZI H p) (_:r<n) (_:∀(v:V)(t:KT)(H':Hp),ZD H' t v->t.fits r=true->ZI H' p->ZE p H H'->Q v H')
inductive V9(vs:jf)(H:Hp)(Q:VK)(_:XK):Prop
 | mk (i:Int) (_:vs=[.int i]) (_:Q (.bl (decide (i.natAbs<10 ^ 60))) H)
inductive VA(vs:jf)(H:Hp)(Q:VK)(_:XK):Prop
 | mk (c:Nat) (_:vs=[.str ⟨#[c]⟩]) (_:Q (.bl (UT c)) H)
inductive V2(vs:jf)(H:Hp)(Q:VK)(_:XK):Prop
 | mk (v:V) (t:KT) (q:Nat) (_:vs=[v]) (_:ZD H t v) (_:t.fits q=true) (_:∀ H',ZA H H'->Q (.bl (t.fits 3)) H')
theorem nn{n:Nat}(h:n<=1000):n<=sizeLine:=xY (XM h)
theorem Z0{n:Nat}(h:Nat.ble n 1000=true:=by rfl):n<=sizeLine:=nn (xO h)
theorem Kr{x y:V}{i:Int}(h0:0<=i)(h1:i<2):∃ v,WM [x,y] i=some v/\(v=x\/v=y):=by
 rcases (show i=0\/i=1 by lia) with e | e
 ·subst e;exact ⟨x,rfl,.inl rfl⟩
 ·subst e;exact ⟨y,rfl,.inr rfl⟩
theorem Q7{α:Type}{xs:List α}{i:Int}(h0:0<=i)(h1:i<(xs.length:Int)):∃ v,WM xs i=some v/\v∈xs:=by
 have hk:i.toNat<xs.length:=by lia
 have e:i=((i.toNat:Nat):Int):=by lia
 rw [e];exact ⟨xs[i.toNat],Xb (zT hk),xZ hk⟩
theorem Xi{m:Int}(h0:0<m)(h1:m.natAbs<2 ^ 250):IA m:=by
 refine ⟨h0,?_⟩;have:m.natAbs.log2<250:=(Nat.log2_lt (by lia)).mpr h1
 lia
theorem Og{i j:Int}(h:V.int i=V.int j):i=j:=by injection h
theorem B1(c:Nat):((!decide ([c]<[32])) && !decide ([126]<[c]))=UT c:=by
 unfold UT;have a:([c]<[32]) ↔ c<32:=by simp [uZ]
 have b:([126]<[c]) ↔ 126<c:=by simp [uZ]
 rw [wA];simp only [zQ,Bool.not_eq_true',decide_eq_false_iff_not,decide_eq_true_eq,a,b]
 lia
theorem BI(i:Int):decide ((if i<0 then -i else i)<10 ^ (60:Int).toNat)=decide (i.natAbs<10 ^ 60):=by
 have e:((10:Int) ^ (60:Int).toNat)=((10 ^ 60:Nat):Int):=by decide +kernel
 rw [e];generalize (10 ^ 60:Nat)=N;apply decide_eq_decide.mpr;split <;> lia
end Tw
namespace Tw
open PySem
mutual
def KT.eqb:KT->KT->Bool
 | .int i,.int j=>i==j
 | .str x,.str y=>x==y
 | .tup l,.tup m=>eqbL l m
 | _,_=>false
def eqbL:List KT->List KT->Bool
 | [],[]=>true
 | a :: l,b :: m=>a.eqb b&&eqbL l m
 | _,_=>false
end
mutual
def KT.plt:KT->KT->Bool
 | .int i,.int j=>decide (i<j)
 | .str x,.str y=>decide (x.cps.toList<y.cps.toList)
 | .tup l,.tup m=>pltL l m
 | _,_=>false
def pltL:List KT->List KT->Bool
 | [],[]=>false
 | [],_ :: _=>true
 | _ :: _,[]=>false
 | a :: l,b :: m=>if a.eqb b=true then pltL l m else a.plt b
end
mutual
def KT.cmp:KT->KT->Bool
 | .int _,.int _=>true
 | .str _,.str _=>true
 | .tup l,.tup m=>cmpL l m
 | _,_=>false
def cmpL:List KT->List KT->Bool
 | [],_=>true
 | _ :: _,[]=>true
 | a :: l,b :: m=>if a.eqb b=true then cmpL l m else a.cmp b
end
def KT.kind:KT->Nat
 | .int _=>0
 | .str _=>1
 | .tup _=>2
mutual
def KT.lt:KT->KT->Bool
 | .int i,.int j=>decide (i<j)
 | .int _,.str _=>true
 | .int _,.tup _=>true
 | .str _,.int _=>false
 | .str x,.str y=>decide (x.cps.toList<y.cps.toList)
 | .str _,.tup _=>true
 | .tup _,.int _=>false
 | .tup _,.str _=>false
 | .tup l,.tup m=>ltL l m
def ltL:List KT->List KT->Bool
 | [],[]=>false
 | [],_ :: _=>true
 | _ :: _,[]=>false
 | a :: l,b :: m=>if a.eqb b=true then ltL l m else a.lt b
end
mutual
def KT.st:KT->KT
 | .int i=>.tup [.int 0,.int i]
 | .str x=>.tup [.int 1,.str x]
 | .tup l=>.tup [.int 2,.tup (stL l)]
def stL:List KT->List KT
 | []=>[]
 | t :: l=>t.st :: stL l
end
theorem Jm:∀ l:List KT,stL l=l.map KT.st
 | []=>by rw [stL];rfl
 | t :: l=>by rw [stL,Jm l];rfl
mutual
theorem QF:∀(a b:KT),a.eqb b=true->a=b
 | .int i,.int j,h=>by rw [KT.eqb] at h;rw [eq_of_beq h]
 | .str x,.str y,h=>by rw [KT.eqb] at h;rw [eq_of_beq h]
 | .tup l,.tup m,h=>by rw [KT.eqb] at h;rw [eqbL_eq l m h]
 | .int _,.str _,h=>by simp [KT.eqb] at h
 | .int _,.tup _,h=>by simp [KT.eqb] at h
 | .str _,.int _,h=>by simp [KT.eqb] at h
 | .str _,.tup _,h=>by simp [KT.eqb] at h
 | .tup _,.int _,h=>by simp [KT.eqb] at h
 | .tup _,.str _,h=>by simp [KT.eqb] at h
theorem eqbL_eq:∀(l m:List KT),eqbL l m=true->l=m
 | [],[],_=>rfl
 | a :: l,b :: m,h=>by
  rw [eqbL,zQ] at h;rw [QF a b h.1,eqbL_eq l m h.2]
 | [],_ :: _,h=>by simp [eqbL] at h
 | _ :: _,[],h=>by simp [eqbL] at h
end
mutual
theorem Uu:∀ a:KT,a.eqb a=true
 | .int i=>by rw [KT.eqb];exact beq_self_eq_true i
 | .str x=>by rw [KT.eqb];exact beq_self_eq_true x
 | .tup l=>by rw [KT.eqb];exact eqbL_self l
theorem eqbL_self:∀ l:List KT,eqbL l l=true
 | []=>by rw [eqbL]
 | a :: l=>by rw [eqbL,Uu a,eqbL_self l];rfl
end
theorem Y4{a b:KT}:a.eqb b=true ↔ a=b:=⟨QF a b,fun e=>by rw [e];exact Uu b⟩
mutual
theorem Ge:∀ a b:KT,a.st.eqb b.st=a.eqb b
 | .int i,.int j=>by simp [KT.st,KT.eqb,eqbL]
 | .str x,.str y=>by simp [KT.st,KT.eqb,eqbL]
 | .tup l,.tup m=>by simp [KT.st,KT.eqb,eqbL,eqbL_st l m]
 | .int _,.str _=>by simp [KT.st,KT.eqb,eqbL]
 | .int _,.tup _=>by simp [KT.st,KT.eqb,eqbL]
 | .str _,.int _=>by simp [KT.st,KT.eqb,eqbL]
 | .str _,.tup _=>by simp [KT.st,KT.eqb,eqbL]
 | .tup _,.int _=>by simp [KT.st,KT.eqb,eqbL]
 | .tup _,.str _=>by simp [KT.st,KT.eqb,eqbL]
theorem eqbL_st:∀ l m:List KT,eqbL (stL l) (stL m)=eqbL l m
 | [],[]=>by simp [stL,eqbL]
 | a :: l,b :: m=>by simp [stL,eqbL,Ge a b,eqbL_st l m]
 | [],_ :: _=>by simp [stL,eqbL]
 | _ :: _,[]=>by simp [stL,eqbL]
end
theorem Gv:∀ l:List KT,ltL l l=false
 | []=>by rw [ltL]
 | a :: l=>by rw [ltL,Uu a,aP rfl,Gv l]
theorem HC{l m:List KT}(h:eqbL l m=true):ltL l m=false:=by
 rw [eqbL_eq l m h];exact Gv m
mutual
theorem J7:∀ a b:KT,a.st.cmp b.st=true
 | .int i,.int j=>by simp [KT.st,KT.eqb,KT.cmp,cmpL]
 | .str x,.str y=>by simp [KT.st,KT.eqb,KT.cmp,cmpL]
 | .tup l,.tup m=>by simp [KT.st,KT.eqb,KT.cmp,cmpL,cmpL_st l m]
 | .int _,.str _=>by simp [KT.st,KT.eqb,KT.cmp,cmpL]
 | .int _,.tup _=>by simp [KT.st,KT.eqb,KT.cmp,cmpL]
 | .str _,.int _=>by simp [KT.st,KT.eqb,KT.cmp,cmpL]
 | .str _,.tup _=>by simp [KT.st,KT.eqb,KT.cmp,cmpL]
 | .tup _,.int _=>by simp [KT.st,KT.eqb,KT.cmp,cmpL]
 | .tup _,.str _=>by simp [KT.st,KT.eqb,KT.cmp,cmpL]
theorem cmpL_st:∀ l m:List KT,cmpL (stL l) (stL m)=true
 | [],_=>by simp [stL,cmpL]
 | _ :: _,[]=>by simp [stL,cmpL]
 | a :: l,b :: m=>by
  rw [stL,stL,cmpL,cmpL_st l m,J7 a b];split <;> rfl
end
mutual
theorem IR:∀ a b:KT,a.st.plt b.st=a.lt b
 | .int i,.int j=>by
  simp only [KT.st,KT.eqb,KT.plt,pltL,KT.lt,beq_self_eq_true,if_true];by_cases h:i=j
  ·subst h;simp
  ·simp [h]
 | .str x,.str y=>by
  simp only [KT.st,KT.eqb,KT.plt,pltL,KT.lt,beq_self_eq_true,if_true];by_cases h:x=y
  ·subst h;simp
  ·simp [h]
 | .tup l,.tup m=>by
  simp only [KT.st,KT.eqb,KT.plt,pltL,KT.lt,beq_self_eq_true,if_true,eqbL_st,pltL_st l m]
  cases h:eqbL l m with
  | true=>rw [aP rfl,HC h]
  | false=>rw [aO zW]
 | .int _,.str _=>by simp [KT.st,KT.eqb,KT.plt,pltL,KT.lt]
 | .int _,.tup _=>by simp [KT.st,KT.eqb,KT.plt,pltL,KT.lt]
 | .str _,.int _=>by simp [KT.st,KT.eqb,KT.plt,pltL,KT.lt]
 | .str _,.tup _=>by simp [KT.st,KT.eqb,KT.plt,pltL,KT.lt]
 | .tup _,.int _=>by simp [KT.st,KT.eqb,KT.plt,pltL,KT.lt]
 | .tup _,.str _=>by simp [KT.st,KT.eqb,KT.plt,pltL,KT.lt]
theorem pltL_st:∀ l m:List KT,pltL (stL l) (stL m)=ltL l m
 | [],[]=>by simp [stL,pltL,ltL]
 | [],_ :: _=>by simp [stL,pltL,ltL]
 | _ :: _,[]=>by simp [stL,pltL,ltL]
 | a :: l,b :: m=>by rw [stL,stL,pltL,ltL,Ge a b,pltL_st l m,IR a b]
end
mutual
theorem HH:∀ t:KT,t.st.depth<=2 * t.depth+1
 | .int i=>by simp [KT.st,KT.depth,depthL]
 | .str x=>by simp [KT.st,KT.depth,depthL]
 | .tup l=>by
  have:=depthL_st l;simp only [KT.st,KT.depth,depthL]
  lia
theorem depthL_st:∀ l:List KT,depthL (stL l)<=2 * depthL l+1
 | []=>by simp [stL,depthL]
 | t :: l=>by
  have a:=HH t;have b:=depthL_st l;rw [stL,depthL,depthL]
  lia
end
theorem ZMT{x:Str}(h:Us x=true):x.cps.size<=40/\x.cps.toList.all UT=true:=by
 unfold Us at h;rw [zQ] at h;exact ⟨of_decide_eq_true h.1,h.2⟩
end Tw
namespace Tw
open PySem PySem.Spec L2 PyProof.Rows
mutual
def ZN(h:aF):KT->ai->Prop
 | .int i,v=>∃ t,v=.int i t
 | .str x,v=>∃ t,v=.str x t
 | .tup l,v=>∃(a:aj)(jj:je),v=.ref a/\IsTup h a jj.toArray/\KVals h l jj
def KVals(h:aF):List KT->je->Prop
 | [],vs=>vs=[]
 | t :: l,vs=>∃ v r,vs=v :: r/\ZN h t v/\KVals h l r
end
section
variable{X:Cx}{pins:List (aj×aJ)}{σ:L2.St}{H:Hp}{s:am}
mutual
theorem UU(I:ZH X pins σ H s):∀(t:KT)(x:V)(v:ai),ZD H t x->ZT x v->ZN s.heap t v
 | .int i,x,v,h,r=>by
  rw [ZD] at h;subst h;rw [ZN];exact r
 | .str y,x,v,h,r=>by
  rw [ZD] at h;subst h;rw [ZN];exact r
 | .tup l,x,v,h,r=>by
  rw [ZD] at h;obtain ⟨a,vs,rfl,e,hk⟩:=h;obtain ⟨jj,rv,pl,_⟩:=I.tuple (Zo.of e);rw [ZN];exact ⟨a,jj,r,pl,kvals_of I l vs jj hk rv⟩
theorem kvals_of(I:ZH X pins σ H s):∀(l:List KT)(vs:jf)(us:je),KeysAt H l vs->ZO vs us->KVals s.heap l us
 | [],vs,us,h,r=>by
  rw [KeysAt] at h;subst h;rw [KVals];cases r;rfl
 | t :: l,vs,us,h,r=>by
  rw [KeysAt] at h;obtain ⟨v,q,rfl,h1,h2⟩:=h
  cases r with
  | cons r1 r2=>
   rw [KVals];exact ⟨_,_,rfl,UU I t v _ h1 r1,kvals_of I l q _ h2 r2⟩
end
end
theorem FQ{h:aF}{a:aj}{jj its':je}(x:IsTup h a jj.toArray)(y:IsTup h a its'.toArray):jj=its':=by
 obtain ⟨o,e,_,n,d⟩:=x;obtain ⟨o',e',_,n',d'⟩:=y;rw [e] at e';cases e';rw [d] at d';injection d' with d1 _;simpa using congrArg tU d1
mutual
theorem ZN.inj{h:aF}:∀(a b:KT)(v:ai),ZN h a v->ZN h b v->a.eqb b=true
 | .int i,b,v,x,y=>by
  rw [ZN] at x;obtain ⟨t,rfl⟩:=x
  cases b with
  | int j=>rw [ZN] at y;obtain ⟨u,e⟩:=y;injection e with e _;rw [KT.eqb,e];exact beq_self_eq_true j
  | str z=>rw [ZN] at y;obtain ⟨u,e⟩:=y;cases e
  | tup m=>rw [ZN] at y;obtain ⟨_,_,e,_⟩:=y;cases e
 | .str w,b,v,x,y=>by
  rw [ZN] at x;obtain ⟨t,rfl⟩:=x
  cases b with
  | int j=>rw [ZN] at y;obtain ⟨u,e⟩:=y;cases e
  | str z=>rw [ZN] at y;obtain ⟨u,e⟩:=y;injection e with e _;rw [KT.eqb,e];exact beq_self_eq_true z
  | tup m=>rw [ZN] at y;obtain ⟨_,_,e,_⟩:=y;cases e
 | .tup l,b,v,x,y=>by
  rw [ZN] at x;obtain ⟨p,jj,rfl,px,kx⟩:=x
  cases b with
  | int j=>rw [ZN] at y;obtain ⟨u,e⟩:=y;cases e
  | str z=>rw [ZN] at y;obtain ⟨u,e⟩:=y;cases e
  | tup m=>
   rw [ZN] at y;obtain ⟨q,its',e,py,ky⟩:=y;cases e;cases FQ px py;rw [KT.eqb];exact KVals.inj l m jj kx ky
theorem KVals.inj{h:aF}:∀(l m:List KT)(us:je),KVals h l us->KVals h m us->eqbL l m=true
 | [],m,us,x,y=>by
  rw [KVals] at x;subst x
  cases m with
  | nil=>rw [eqbL]
  | cons b m=>rw [KVals] at y;obtain ⟨_,_,e,_⟩:=y;cases e
 | a :: l,m,us,x,y=>by
  rw [KVals] at x;obtain ⟨v,r,rfl,x1,x2⟩:=x
  cases m with
  | nil=>rw [KVals] at y;cases y
  | cons b m=>
   rw [KVals] at y;obtain ⟨v',r',e,y1,y2⟩:=y;injection e with e1 e2;subst e1 e2;rw [eqbL,ZN.inj a b v x1 y1,KVals.inj l m r x2 y2];rfl
end
theorem KVals.length{h:aF}:∀{l:List KT}{us:je},KVals h l us->l.length=us.length
 | [],us,x=>by rw [KVals] at x;subst x;rfl
 | a :: l,us,x=>by
  rw [KVals] at x;obtain ⟨v,r,rfl,_,x2⟩:=x;rw [zI,zI,x2.length]
theorem KVals.get{h:aF}:∀{l:List KT}{us:je}{j:Nat}{u:ai},KVals h l us->us[j]? = some u->∃ t,l[j]? = some t/\ZN h t u
 | [],us,j,u,x,e=>by rw [KVals] at x;subst x;simp at e
 | a :: l,us,0,u,x,e=>by
  rw [KVals] at x;obtain ⟨v,r,rfl,x1,_⟩:=x;simp at e;subst e;exact ⟨a,rfl,x1⟩
 | a :: l,us,j+1,u,x,e=>by
  rw [KVals] at x;obtain ⟨v,r,rfl,_,x2⟩:=x;obtain ⟨t,e1,e2⟩:=x2.get (j:=j) (by simpa using e)
  exact ⟨t,by simpa using e1,e2⟩
theorem QR:∀{l:List KT}{t:KT},t∈l->t.depth<=depthL l
 | [],_,h=>by cases h
 | u :: l,t,h=>by
  rw [depthL];rcases zB.mp h with e | h
  ·subst e;lia
  ·have:=QR h;lia
theorem Ox:∀(l m:List KT),((yU (min l.length m.length)).all (fun j=>(l.getD j (.int 0)).eqb (m.getD j (.int 0)))&&l.length==m.length)=eqbL l m
 | [],[]=>by simp [eqbL]
 | [],_ :: _=>by simp [eqbL]
 | _ :: _,[]=>by simp [eqbL]
 | a :: l,b :: m=>by
  have ih:=Ox l m;have e:min (a :: l).length (b :: m).length=min l.length m.length+1:=by simp only [zI];lia
  rw [e,rN,tS,vO,eqbL,<-ih,Bool.and_assoc];simp [Function.comp_def]
theorem Pm{s:am}:∀(n:Nat)(a b:KT)(A:az)(v u:ai),a.depth<=n->ZN s.heap a v->ZN s.heap b u->A.units+a.depth<cLine->SeqAt.EqAt A s v u (a.eqb b)
 | n,.int i,b,A,v,u,_,x,y,hu=>by
  rw [ZN] at x;obtain ⟨t,rfl⟩:=x;have hu':A.units<cLine:=by lia
  cases b with
  | int j=>rw [ZN] at y;obtain ⟨t',rfl⟩:=y;rw [KT.eqb];exact SeqAt.EqAt.int_int i t j t'
  | str z=>rw [ZN] at y;obtain ⟨t',rfl⟩:=y;rw [show (KT.int i).eqb (.str z)=false by simp [KT.eqb]];exact SeqAt.EqAt.int_str i t z t'
  | tup m=>rw [ZN] at y;obtain ⟨p,jj,rfl,py,_⟩:=y;rw [show (KT.int i).eqb (.tup m)=false by simp [KT.eqb]];exact SeqAt.EqAt.int_tuple i t py hu'
 | n,.str w,b,A,v,u,_,x,y,hu=>by
  rw [ZN] at x;obtain ⟨t,rfl⟩:=x;have hu':A.units<cLine:=by lia
  cases b with
  | int j=>rw [ZN] at y;obtain ⟨t',rfl⟩:=y;rw [show (KT.str w).eqb (.int j)=false by simp [KT.eqb]];exact SeqAt.EqAt.str_int w t j t'
  | str z=>rw [ZN] at y;obtain ⟨t',rfl⟩:=y;rw [KT.eqb];exact SeqAt.EqAt.str_str w t z t'
  | tup m=>rw [ZN] at y;obtain ⟨p,jj,rfl,py,_⟩:=y;rw [show (KT.str w).eqb (.tup m)=false by simp [KT.eqb]];exact SeqAt.EqAt.str_tuple w t py hu'
 | 0,.tup l,b,A,v,u,hn,x,y,hu=>by
  rw [KT.depth] at hn
  lia
 | n+1,.tup l,b,A,v,u,hn,x,y,hu=>by
  have x':=x;rw [ZN] at x;obtain ⟨p,jj,rfl,px,kx⟩:=x;rw [KT.depth] at hn hu;have hu':A.units<cLine:=by lia
  cases b with
  | int j=>rw [ZN] at y;obtain ⟨t',rfl⟩:=y;rw [show (KT.tup l).eqb (.int j)=false by simp [KT.eqb]];exact SeqAt.EqAt.tuple_int j t' px hu'
  | str z=>rw [ZN] at y;obtain ⟨t',rfl⟩:=y;rw [show (KT.tup l).eqb (.str z)=false by simp [KT.eqb]];exact SeqAt.EqAt.tuple_str z t' px hu'
  | tup m=>
   have y':=y;rw [ZN] at y;obtain ⟨q,its',rfl,py,ky⟩:=y;by_cases hpq:p=q
   ·subst hpq;rw [ZN.inj _ _ _ x' y'];exact SeqAt.EqAt.same _
   ·have lx:=kx.length;have ly:=ky.length;have rc:=SeqAt.RcAt.tuples (A:=A) (s:=s) (e:=fun j=>(l.getD j (.int 0)).eqb (m.getD j (.int 0))) px py hu' (fun j h1 h2=>by
     have h1':j<jj.length:=by simpa using h1
     have h2':j<its'.length:=by simpa using h2
     obtain ⟨t1,e1,k1⟩:=kx.get (j:=j) (u:=jj[j]) (by simp [h1'])
     obtain ⟨t2,e2,k2⟩:=ky.get (j:=j) (u:=its'[j]) (by simp [h2'])
     have d1:=QR (zN e1);have g1:l.getD j (.int 0)=t1:=by rw [zV,e1];rfl
     have g2:m.getD j (.int 0)=t2:=by rw [zV,e2];rfl
     have:=Pm n t1 t2 A.in1 jj[j] its'[j] (by lia) k1 k2 (by show A.units+1+t1.depth<cLine;lia)
     show SeqAt.EqAt A.in1 s _ _ ((l.getD j (.int 0)).eqb (m.getD j (.int 0)));rw [g1,g2];simpa using this)
    have er:((yU (min jj.toArray.size its'.toArray.size)).all (fun j=>(l.getD j (.int 0)).eqb (m.getD j (.int 0)))&&jj.toArray.size==its'.toArray.size)=(KT.tup l).eqb (.tup m):=by
     rw [zO,zO,<-lx,<-ly,KT.eqb];exact Ox l m
    rw [er] at rc;exact .of_refs hpq rc
def GI(A:az)(s:am)(v u:ai)(b:Bool):Prop:=
 ∀(prog:ao)(w:ay)(E:jb)(Q:jb),Q (.bool b) s->aD (aC prog w) A (richCompare .Lt v u) Q E s
section
open PySem.SeqAt
open PySem.AutoSeq1 (wpAny_loadPart')
open PySem.MeetsSeq PySem.MeetsSeq2 PySem.MeetsSeq3
theorem E2(l b:aj)(items jl:Array ai)(n n2:Nat)(dd dd2:Option aj)(sl jG:Array (jd))(ts us:List KT):
  Meets (Builtin.«tuple.__lt__» ⟨[.ref l,.ref b],[]⟩)
   (fun A R s=>s.heap.get? l=some { cls:=.type "tuple",dict:=dd,data:=.seq items n,slots:=sl }/\s.heap.get? b=some { cls:=.type "tuple",dict:=dd2,data:=.seq jl n2,slots:=jG } /\
    KVals s.heap ts items.toList/\KVals s.heap us jl.toList/\cmpL ts us=true /\
    (∀ x y v u,x∈ts->ZN s.heap x v->ZN s.heap y u->EqAt A.in1 s v u (x.eqb y))/\(∀ x y v u,x∈ts->ZN s.heap x v->ZN s.heap y u->x.cmp y=true->GI A.in1 s v u (x.plt y)) /\
    R (.ok (.ret (.bool (pltL ts us)))) s):=
 .of_wp fun prog w A R s h=>by
  obtain ⟨hp,g,d,tk,os⟩:=s;obtain ⟨hl,hb,hi,hj,hc,hE,hL,h⟩:=h;have f2:=AutoSeq1.sub_tuple_tuple;have z1:items.size=ts.length:=by rw [hi.length];simp
  have z2:jl.size=us.length:=by rw [hj.length];simp
  wp_walk using wpAny_loadPart' hl,wpAny_loadPart' hb,wpAny_forIn_list _ (fun rest b s'=>b.1=none/\s'=⟨hp,g,d,tk,os⟩/\∃(vs ws:je)(ts' us':List KT),rest=vs.zip ws /\
   KVals hp ts' vs/\KVals hp us' ws/\(∀ x∈ts',x∈ts)/\cmpL ts' us'=true/\ts'.length+jl.size=us'.length+items.size/\R (.ok (.ret (.bool (pltL ts' us')))) ⟨hp,g,d,tk,os⟩) _
  case turn=>
   rintro ⟨y,x⟩ rest b s' ⟨hb',rfl,vs,ws,ts',us',hz,hvi,hwi,hin,hcm,hlen,hR⟩
   cases ts' with
   | nil=>rw [KVals] at hvi;subst hvi;rw [List.zip_nil_left] at hz;cases hz
   | cons a ts'=>
    cases us' with
    | nil=>rw [KVals] at hwi;subst hwi;rw [List.zip_nil_right] at hz;cases hz
    | cons c us'=>
     rw [KVals] at hvi hwi;obtain ⟨v,vr,rfl,ka,hvi'⟩:=hvi;obtain ⟨u,ur,rfl,kc,hwi'⟩:=hwi;rw [uD] at hz;injection hz with hyx hrest;injection hyx with hy hx;subst hy hx;rw [pltL] at hR;rw [cmpL] at hcm;simp only [zI] at hlen;have he:=hE a c y x (hin a zK) ka kc;refine aa (he prog w _ _ ?_)
     cases hq:a.eqb c with
     | true=>
      rw [hq,aP rfl] at hR hcm
      wp_walk
      exact ⟨rfl,rfl,_,_,_,_,hrest,hvi',hwi',fun z hz=>hin z (zH _ hz),hcm,by lia,hR⟩
     | false=>
      rw [hq,aO zW] at hR hcm;have hri:=hL a c y x (hin a zK) ka kc hcm prog w
      wp_walk using hri
      exact ⟨_,rfl,by simpa using hR⟩
  case fin=>
   rintro ⟨b1,b2⟩ s' ⟨hb',rfl,vs,ws,ts',us',hz,hvi,hwi,hin,hcm,hlen,hR⟩;simp only at hb';subst hb';have hv:pltL ts' us'=decide (items.size<jl.size):=by
    cases ts' with
    | nil=>
     cases us' with
     | nil=>
      simp only [xD] at hlen;rw [pltL];exact (aK (by lia)).symm
     | cons c us'=>
      simp only [xD,zI] at hlen;rw [pltL];exact (aM (by lia)).symm
    | cons a ts'=>
     cases us' with
     | nil=>
      simp only [xD,zI] at hlen;rw [pltL];exact (aK (by lia)).symm
     | cons c us'=>
      rw [KVals] at hvi hwi;obtain ⟨v,vr,rfl,_,_⟩:=hvi;obtain ⟨u,ur,rfl,_,_⟩:=hwi;rw [uD] at hz;cases hz
   rw [hv] at hR
   wp_walk
   exact ⟨_,rfl,by simpa [Builtin.Tuple.tupleCompareSizes] using hR⟩
  case h=>
   exact ⟨rfl,rfl,items.toList,jl.toList,ts,us,rfl,hi,hj,fun _ hx=>hx,hc,by lia,h⟩
end
theorem KP{s:am}:∀(n:Nat)(a b:KT)(A:az)(v u:ai),a.depth<=n->ZN s.heap a v->ZN s.heap b u->a.cmp b=true->A.units+a.depth<cLine->GI A s v u (a.plt b)
 | n,.int i,b,A,v,u,_,x,y,hc,hu=>by
  rw [ZN] at x;obtain ⟨t,rfl⟩:=x
  cases b with
  | int j=>rw [ZN] at y;obtain ⟨t',rfl⟩:=y;rw [KT.plt];exact fun prog w E Q h=>HT.rcLt_int A s i t j t' prog w E Q h
  | str z=>simp [KT.cmp] at hc
  | tup m=>simp [KT.cmp] at hc
 | n,.str w,b,A,v,u,_,x,y,hc,hu=>by
  rw [ZN] at x;obtain ⟨t,rfl⟩:=x
  cases b with
  | int j=>simp [KT.cmp] at hc
  | str z=>rw [ZN] at y;obtain ⟨t',rfl⟩:=y;rw [KT.plt];exact fun prog w' E Q h=>(lt_str h:aD (aC prog w') A (aB .Lt (.str w t) (.str z t')) Q E s)
  | tup m=>simp [KT.cmp] at hc
 | 0,.tup l,b,A,v,u,hn,x,y,hc,hu=>by
  rw [KT.depth] at hn
  lia
 | n+1,.tup l,b,A,v,u,hn,x,y,hc,hu=>by
  rw [ZN] at x;obtain ⟨p,jj,rfl,px,kx⟩:=x;rw [KT.depth] at hn hu;have hu':A.units<cLine:=by lia
  cases b with
  | int j=>simp [KT.cmp] at hc
  | str z=>simp [KT.cmp] at hc
  | tup m=>
   rw [ZN] at y;obtain ⟨q,its',rfl,py,ky⟩:=y;rw [KT.cmp] at hc;rw [KT.plt];intro prog w E Q h;obtain ⟨⟨cls,dd,data,sl⟩,ho,hcl,nn1,hd⟩:=id px;obtain ⟨⟨cls2,dd2,data2,jG⟩,ho2,hcl2,nn2,hd2⟩:=id py;simp only at hcl hd hcl2 hd2;subst hcl hd hcl2 hd2;refine richCompare_meets_room (op:=.Lt) ⟨_,ho,rfl⟩ ⟨_,ho2,rfl⟩ PySem.F.slot_tuple_lt PySem.F.entry_tuple_lt (PySem.F.args_tuple_lt_2 _ _) (E2 p q jj.toArray its'.toArray nn1 nn2 dd dd2 sl jG l m)
    ⟨ho,ho2,kx,ky,hc,fun x y v u hx k1 k2=>?_,fun x y v u hx k1 k2 k3=>?_,show Value.bool (pltL l m)≠Value.notImplemented/\Q (.bool (pltL l m)) s from ⟨(fun x=>nomatch x),h⟩⟩ hu'
   ·have d1:=QR hx;exact Pm x.depth x y A.in1 v u (zY _) k1 k2 (by show A.units+1+x.depth<cLine;lia)
   ·have d1:=QR hx;exact KP n x y A.in1 v u (by lia) k1 k2 k3 (by show A.units+1+x.depth<cLine;lia)
section
variable{X:Cx}
theorem ZX.key{k:Nat}{A:az}(r:ZX k A){n:Nat}(h:n<=200):A.units+n<cLine:=by have:=r.un;lia
def ZQ2:R2:=fun x y H Q=>∃ a b,ZD H a x/\ZD H b y/\a.cmp b=true/\a.depth<=200/\Q (.bl (a.plt b)) H
theorem KM{k:Nat}(hr:ZX k X.A):Yx X (aB .Lt) ZQ2:=by
 intro pins s σ H x y v u Q I rx ry h;obtain ⟨a,b,ha,hb,hc,hd,q⟩:=h;exact KP a.depth a b X.A v u (zY _) (UU I a x v ha rx) (UU I b y u hb ry) hc (ZX.key hr hd) X.prog X.w X.xe _ ⟨.bl _,H,I,rfl,q⟩
end
mutual
def X2(w:ay):KT->Int
 | .int i=>hashInt i
 | .str x=>IX w (.inr x)
 | .tup l=>reduceHash (Builtin.Tuple.tupleHashOf (hashL w l))
def hashL(w:ay):List KT->List Int
 | []=>[]
 | t :: l=>X2 w t :: hashL w l
end
theorem Gs(w:ay):∀(l m:List KT),hashL w (l++m)=hashL w l++hashL w m
 | [],m=>by rw [hashL];rfl
 | t :: l,m=>by rw [rX,hashL,hashL,Gs w l m];rfl
section
variable{prog:ao}{w:ay}
theorem KZ:∀(n:Nat)(t:KT){A:az}{E:jb}{s:am}{v:ai}{Q:Int->am->Prop},t.depth<=n->ZN s.heap t v->A.units+t.depth<cLine->(∀ tk,s.toks<=tk->Q (X2 w t) { s with toks:=tk })->aD (aC prog w) A (pyHash v) Q E s
 | n,.int i,A,E,s,v,Q,_,x,hu,q=>by
  rw [ZN] at x;obtain ⟨t,rfl⟩:=x;rw [X2] at q;exact wpAny_pyHash_int (q _ (wC _))
 | n,.str i,A,E,s,v,Q,_,x,hu,q=>by
  rw [ZN] at x;obtain ⟨t,rfl⟩:=x;rw [X2] at q;exact wpAny_pyHash_str (q _ (wC _))
 | 0,.tup l,A,E,s,v,Q,hn,x,hu,q=>by rw [KT.depth] at hn;lia
 | n+1,.tup l,A,E,s,v,Q,hn,x,hu,q=>by
  rw [KT.depth] at hn hu;rw [ZN] at x;obtain ⟨a,jj,rfl,pt,ks⟩:=x;have hT:=pt.typeIs;obtain ⟨o,ho,hc,nn,hd⟩:=pt;unfold pyHash
  first | unfold pyHashByItsType | skip
  first | refine aa (wpAny_cRoomFor_or (.inr (by lia)) ?_) | skip
  refine aa (wpAny_specialOf hT uB.lookup ?_);show aD _ _ (if (some (Value.builtin "tuple.__hash__")==some Value.none)=true then _ else _) Q E s
  rw [aO (by rw [beq_builtin_none];exact zW)]
  refine aa (wpAny_specialOf hT uB.lookup ?_);show aD _ _ (callSpecialIfBoundUnlessNone? (.ref a) "__hash__" _ >>= _) Q E s;refine aa (wpAny_callSpecialIfBoundUnlessNone?_slot hT uB (wpAny_call_entry uB hT PySem.F.entry_tuple_hash ?_ (PySem.F.args_tuple_hash_1 _)));show aD _ _ (Builtin.Tuple.tupleItemsOf (.ref a) >>= _) _ _ s;refine aa (wpAny_tupleItemsOf ho hd (aa ?_));rw [<-sW];refine wpAny_forIn_list _ (fun rest (b:Array Int) s'=>∃ dn lf tk,l=dn++lf/\KVals s.heap lf rest/\b.toList=hashL w dn/\s'={ s with toks:=tk }/\s.toks<=tk) _ ?_ ?_ _ _ ⟨[],l,s.toks,rfl,ks,by rw [hashL],rfl,zY _⟩
  ·rintro x rest b s' ⟨dn,lf,tk,e0,hl,hb,rfl,htk⟩
   cases lf with
   | nil=>rw [KVals] at hl;cases hl
   | cons t lf=>
    rw [KVals] at hl;obtain ⟨v',r',e,k1,k2⟩:=hl;injection e with e1 e2;subst e1 e2;have hd':t.depth<=depthL l:=by rw [e0];exact QR (by simp)
    refine aa (KZ n t (s:={ s with toks:=tk }) (by lia) k1 (by show A.units+1+_<_;lia) fun tk2 h2=>?_)
    have fin:∃ dn' lf' tk',l=dn'++lf'/\KVals s.heap lf' rest/\(b.push (X2 w t)).toList=hashL w dn'/\({ s with toks:=tk2 }:am)={ s with toks:=tk' }/\s.toks<=tk':=
     ⟨dn++[t],lf,tk2,by rw [e0];simp,k2,by rw [Array.toList_push,hb,Gs,hashL,hashL],rfl,yK htk h2⟩
    first | exact ad fin | exact aa (ad (ad fin))
  ·rintro b s' ⟨dn,lf,tk,e0,hl,hb,rfl,htk⟩
   cases lf with
   | cons t lf=>rw [KVals] at hl;obtain ⟨_,_,e,_⟩:=hl;cases e
   | nil=>
    rw [yO] at e0;subst e0;show aD _ _ (retInt (Builtin.Tuple.tupleHashOf b.toList)) _ _ _;rw [hb];refine wpAny_ret_mkInt ?_;show aD _ _ (if (decide (-(2:Int) ^ 63<=Builtin.Tuple.tupleHashOf (hashL w l))&&decide (Builtin.Tuple.tupleHashOf (hashL w l)<2 ^ 63))=true then _ else _) Q E _
    have q':=q (tk+1) (by lia)
    rw [X2] at q';unfold reduceHash at q';split
    ·rename_i hr
     rw [aP hr] at q';exact ad q'
    ·rename_i hr
     rw [aO hr] at q';exact aa (wpAny_rule (ad q'))
theorem Kt:∀(n:Nat)(t:KT){A:az}{E:jb}{s:am}{v:ai}{Q:Bool->am->Prop},t.depth<=n->ZN s.heap t v->Q true s->aD (aC prog w) A (eqIsQuiet n v) Q E s
 | n,.int i,A,E,s,v,Q,_,x,q=>by
  rw [ZN] at x;obtain ⟨t,rfl⟩:=x;rw [eqIsQuiet_byValue n rfl];exact ad q
 | n,.str i,A,E,s,v,Q,_,x,q=>by
  rw [ZN] at x;obtain ⟨t,rfl⟩:=x;rw [eqIsQuiet_byValue n rfl];exact ad q
 | 0,.tup l,A,E,s,v,Q,hn,x,q=>by rw [KT.depth] at hn;lia
 | n+1,.tup l,A,E,s,v,Q,hn,x,q=>by
  rw [KT.depth] at hn;rw [ZN] at x;obtain ⟨a,jj,rfl,pt,ks⟩:=x;have hT:=pt.typeIs;obtain ⟨o,ho,hc,nn,hd⟩:=pt;unfold eqIsQuiet;refine aa (wpAny_specialOf hT PySem.F.slot_tuple_eq.lookup ?_);show aD _ _ (isInstance (.ref a) (.type "tuple") >>= _) _ _ s;refine aa (wpAny_isInstance hT isSubtype_tuple_tuple ?_);simp only [vN,xX,if_false];refine aa (wpAny_seqItems ho hd (aa ?_));show aD _ _ (forIn jj.toArray _ _) _ _ s;rw [<-sW];refine wpAny_forIn_list _ (fun rest r s'=>r.1=none/\s'=s/\∃ lf,KVals s.heap lf rest/\depthL lf<=n) _ ?_ ?_ _ _ ⟨rfl,rfl,l,ks,by lia⟩
  ·rintro x rest r s' ⟨hr,rfl,lf,hl,hdp⟩
   cases lf with
   | nil=>rw [KVals] at hl;cases hl
   | cons t lf=>
    rw [KVals] at hl;obtain ⟨v',r',e,k1,k2⟩:=hl;injection e with e1 e2;subst e1 e2;rw [depthL] at hdp;refine aa (Kt n t (by lia) k1 ?_)
    simp only [vN,xX,if_false];exact ad ⟨rfl,rfl,lf,k2,by lia⟩
  ·rintro ⟨r1,r2⟩ s' ⟨hr,rfl,_⟩;dsimp only at hr;subst hr;exact ad q
end
structure Pp(w:ay)(h:aF)(ks:List KT)(es:Array DictEntry):Prop where
 len:es.size=ks.length
 ent:∀(i:Nat)(e:DictEntry),es[i]? = some e->∃ t,ks[i]? = some t/\e.hash=X2 w t/\ZN h t e.key/\t.depth<=3
 nd:ks.Nodup
section
variable{prog:ao}{w:ay}{A:az}{E:jb}{s:am}
theorem Pp.uniq{h:aF}{ks:List KT}{es:Array DictEntry}(x:Pp w h ks es){i j:Nat}{t:KT}(hi:ks[i]? = some t)(hj:ks[j]? = some t):i=j:=by
 obtain ⟨a,ea⟩:=yV.mp hi;exact (sY a x.nd).mp (hi.trans hj.symm)
theorem Pp.get{h:aF}{ks:List KT}{es:Array DictEntry}(x:Pp w h ks es){j:Nat}{t:KT}(hj:ks[j]? = some t):∃ e,es[j]? = some e/\e.hash=X2 w t/\ZN h t e.key/\t.depth<=3:=by
 obtain ⟨a,_⟩:=yV.mp hj;have lt:j<es.size:=by have:=x.len;lia
 have e:es[j]? = some es[j]:=xM lt;obtain ⟨t',e1,e2,e3,e4⟩:=x.ent j _ e;rw [hj] at e1;cases e1;exact ⟨_,e,e2,e3,e4⟩
theorem Ks{v:ai}{stored:je}{Q:Bool->am->Prop}(hv:∃ t,ZN s.heap t v/\t.depth<=8)(hs:∀ u∈stored,∃ t,ZN s.heap t u/\t.depth<=8)(h:Q false s):aD (aC prog w) A (tableMayTell v stored) Q E s:=by
 unfold tableMayTell;refine wpAny_ite_split (fun _=>ad h) (fun _=>?_);obtain ⟨t,kv,dt⟩:=hv;refine aa (Kt 8 t dt kv ?_);simp only [vN,xX,if_false];refine aa ?_;refine wpAny_forIn_list _ (fun rest r s'=>s'=s/\r=(none,())/\∀ u∈rest,u∈stored) _ ?_ ?_ _ _ ⟨rfl,rfl,fun _ z=>z⟩
 ·rintro u rest r s' ⟨rfl,rfl,hr⟩;obtain ⟨t2,kv2,dt2⟩:=hs u (hr u (zK ..));refine aa (Kt 8 t2 dt2 kv2 ?_);simp only [vN,xX,if_false];exact ad ⟨rfl,rfl,fun u hu=>hr u (zH _ hu)⟩
 ·rintro r s' ⟨rfl,rfl,_⟩;exact ad h
theorem BW{d:aj}{o:aJ}{es:Array DictEntry}{ep:Nat}{ks:List KT}{t:KT}{v:ai}{Q:Option Nat->am->Prop}(hv:ZN s.heap t v)(dt:t.depth<=3)(hu:A.units+3<cLine)(ho:s.heap.get? d=some o)(hd:o.data=.dict es ep)(x:Pp w s.heap ks es)(hno:t∉ks->Q none s)(jR:∀ j,ks[j]? = some t->Q (some j) s):aD (aC prog w) A (dictFind d v (X2 w t)) Q E s:=by
 have inPl:∀ j,ks[j]? = some t->j∈placesWithHash es.size (fun i=>es[i]?.map (·.hash)) (X2 w t):=fun j hj=>by
  obtain ⟨e,e1,e2,_⟩:=x.get hj;obtain ⟨lt,_⟩:=uW.mp e1;unfold placesWithHash;rw [vG,yA];exact ⟨lt,by show (Option.map _ es[j]? == _)=true;rw [e1,wO,e2];simp⟩
 have ofPl:∀ i,i∈placesWithHash es.size (fun i=>es[i]?.map (·.hash)) (X2 w t)->∃ e u,es[i]? = some e/\e.hash=X2 w t/\ks[i]? = some u/\ZN s.heap u e.key/\u.depth<=3:=fun i hi=>by
  unfold placesWithHash at hi;rw [vG,yA] at hi;have e1:es[i]? = some es[i]:=xM hi.1;obtain ⟨u,e2,_,e4,e5⟩:=x.ent i _ e1;have:(Option.map (·.hash) es[i]? == some (X2 w t))=true:=hi.2;rw [e1,wO] at this;exact ⟨_,u,e1,by simpa using this,e2,e4,e5⟩
 have pnd:(placesWithHash es.size (fun i=>es[i]?.map (·.hash)) (X2 w t)).Nodup:=by
  unfold placesWithHash;exact List.nodup_range.filter _
 have eq_at:∀(u:KT)(e:DictEntry),ZN s.heap u e.key->u.depth<=3->SeqAt.EqAt A s e.key v (u.eqb t):=fun u e k1 d1=>Pm u.depth u t A e.key v (zY _) k1 hv (by lia)
 have stored:∀ u∈(placesWithHash es.size (fun i=>es[i]?.map (·.hash)) (X2 w t)).filterMap (fun i=>es[i]?.map (·.key)),∃ t,ZN s.heap t u/\t.depth<=8:=fun u hu=>by
  obtain ⟨i,hi,e⟩:=uE.mp hu;obtain ⟨en,z,e1,_,_,e4,e5⟩:=ofPl i hi;rw [e1,wO] at e;cases e;exact ⟨z,e4,by lia⟩
 unfold dictFind
 try with_reducible refine af ?_
 refine aa (wpAny_dictEntries ho hd ?_);generalize hP:placesWithHash es.size (fun i=>es[i]?.map (·.hash)) (X2 w t)=pl at inPl ofPl pnd stored;have plain:aD (aC prog w) A (dictWalkPlain d v (X2 w t) es pl) Q E s:=by
  unfold dictWalkPlain;refine aa ?_;refine wpAny_forIn_list _ (fun rest b s'=>s'=s/\b=(none,())/\(∀ i∈rest,i∈pl)/\∀ i∈pl,i∈rest\/ks[i]? ≠ some t) _ ?_ ?_ _ _ ⟨rfl,rfl,fun _ z=>z,fun _ z=>.inl z⟩
  ·rintro i rest b s' ⟨rfl,rfl,h1,h2⟩;obtain ⟨e,u,e1,e2,e3,e4,e5⟩:=ofPl i (h1 i (zK ..));rw [e1];dsimp only;rw [e2,aP (by simp)]
   refine aa (wpAny_dictEpoch ho hd (aa (eq_at u e e4 e5 prog w _ _ (aa (wpAny_dictEpoch ho hd ?_)))));rw [aO (by simp)]
   cases hq:u.eqb t with
   | true=>
    have:u=t:=QF u t hq;subst this;rw [aP rfl];exact aa (wpAny_rule (ad (ad (jR i e3))))
   | false=>
    rw [aO zW];refine aa (wpAny_rule (ad ⟨rfl,rfl,fun j hj=>h1 j (zH _ hj),fun j hj=>?_⟩));rcases h2 j hj with z | z
    ·rcases zB.mp z with z | z
     ·subst z;refine .inr fun z=>?_;rw [e3] at z;cases z;rw [Uu] at hq;cases hq
     ·exact .inl z
    ·exact .inr z
  ·rintro b s' ⟨rfl,rfl,_,h2⟩;refine ad (hno fun z=>?_);obtain ⟨j,hj⟩:=tX.mp z;rcases h2 j (inPl j hj) with q | q
   ·cases q
   ·exact q hj
 have hitLoop:∀(f:Nat->Option (Option Nat)×Option Nat->Sem (ForInStep (Option (Option Nat)×Option Nat)))(g:Option (Option Nat)×Option Nat->Sem (Option Nat)),(∀ r,g (some r,none)=pure r)->(∀ h,g (none,h)=pure h) ->
   (∀ i u e (R:ForInStep (Option (Option Nat)×Option Nat)->am->Prop),es[i]? = some e->e.hash=X2 w t->ZN s.heap u e.key->u.depth<=3->u=t->R (.done (some (some i),none)) s->R (.yield (none,some i)) s->aD (aC prog w) A (f i (none,none)) R E s) ->
   (∀ i u e hit (R:ForInStep (Option (Option Nat)×Option Nat)->am->Prop),es[i]? = some e->e.hash=X2 w t->ZN s.heap u e.key->u.depth<=3->u≠t->R (.yield (none,hit)) s->aD (aC prog w) A (f i (none,hit)) R E s) ->
   aD (aC prog w) A (forIn pl (none,none) f >>= g) Q E s:=fun f g g1 g2 f1 f2=>by
  refine aa ?_;refine wpAny_forIn_list _ (fun rest b s'=>s'=s/\rest.Nodup/\(∀ i∈rest,i∈pl)/\((b=(none,none)/\∀ i∈pl,i∈rest\/ks[i]? ≠ some t)\/∃ j,b=(none,some j)/\ks[j]? = some t/\j∉rest)) _ ?_ ?_ _ _ ⟨rfl,pnd,fun _ z=>z,.inl ⟨rfl,fun _ z=>.inl z⟩⟩
  ·rintro i rest b s' ⟨rfl,nd,h1,h2⟩;obtain ⟨e,u,e1,e2,e3,e4,e5⟩:=ofPl i (h1 i (zK ..));have nd':=wP.mp nd;have h1':∀ j∈rest,j∈pl:=fun j hj=>h1 j (zH _ hj);by_cases hq:u=t
   ·have e3':=e3;rw [hq] at e3';rcases h2 with ⟨rfl,h2⟩ | ⟨j,rfl,hj,hn⟩
    ·refine f1 i u e _ e1 e2 e4 e5 hq ?_ ?_
     ·show aD _ _ (g (some (some i),none)) _ _ _;rw [g1];exact ad (jR i e3')
     ·exact ⟨rfl,nd'.2,h1',.inr ⟨i,rfl,e3',nd'.1⟩⟩
    ·have:i=j:=x.uniq e3' hj;exact absurd (this ▸ zK ..) hn
   ·rcases h2 with ⟨rfl,h2⟩ | ⟨j,rfl,hj,hn⟩
    ·refine f2 i u e none _ e1 e2 e4 e5 hq ⟨rfl,nd'.2,h1',.inl ⟨rfl,fun j hj=>?_⟩⟩;rcases h2 j hj with z | z
     ·rcases zB.mp z with z | z
      ·subst z;exact .inr fun z=>hq (by rw [e3] at z;exact zD.inj z)
      ·exact .inl z
     ·exact .inr z
    ·exact f2 i u e (some j) _ e1 e2 e4 e5 hq ⟨rfl,nd'.2,h1',.inr ⟨j,rfl,hj,fun z=>hn (zH _ z)⟩⟩
  ·rintro b s' ⟨rfl,_,_,h2⟩;rcases h2 with ⟨rfl,h2⟩ | ⟨j,rfl,hj,hn⟩
   ·rw [g2];refine ad (hno fun z=>?_);obtain ⟨j,hj⟩:=tX.mp z;rcases h2 j (inPl j hj) with q | q
    ·cases q
    ·exact q hj
   ·rw [g2];exact ad (jR j hj)
 have vs:(∃ a,v=.ref a)\/(∃ i tk,v=.int i tk)\/∃ y tk,v=.str y tk/\t=.str y:=by
  cases t with
  | int i=>rw [ZN] at hv;obtain ⟨tk,e⟩:=hv;exact .inr (.inl ⟨i,tk,e⟩)
  | str y=>rw [ZN] at hv;obtain ⟨tk,e⟩:=hv;exact .inr (.inr ⟨y,tk,e,rfl⟩)
  | tup l=>rw [ZN] at hv;obtain ⟨a,_,e,_⟩:=hv;exact .inl ⟨a,e⟩
 rcases vs with ⟨a,rfl⟩ | ⟨i,tk,rfl⟩ | ⟨y,tk,rfl,ht⟩
 case' inl=>
  dsimp only;rw [aO (by simp [carriedByValue])]
  have hany:¬ (es.any fun e=>e.key==Value.ref a&&e.hash != X2 w t)=true:=by
   rw [<-Array.any_toList,uM];rintro ⟨e,hin,hc⟩;obtain ⟨j,hj⟩:=tX.mp hin;rw [wW] at hj;obtain ⟨u,_,e2,e3,_⟩:=x.ent j e hj;rw [zQ] at hc;rw [eq_of_beq hc.1] at e3;have:u=t:=QF _ _ (ZN.inj _ _ _ e3 hv);rw [e2,this] at hc;simp at hc
  rw [aO hany];refine wpAny_ite_split (fun _=>aa (ad ?_)) (fun _=>aa (Ks ⟨t,hv,by lia⟩ stored ?_))
 case' inr.inl=>
  dsimp only;refine wpAny_ite_split (fun _=>plain) (fun _=>?_);refine wpAny_ite_split (fun _=>aa (ad ?_)) (fun _=>aa (Ks ⟨t,hv,by lia⟩ stored ?_))
 case' inr.inr=>
  have byStr:aD (aC prog w) A (foundByValue d (.str y tk) es y) Q E s:=by
   unfold foundByValue
   cases hf:es.findIdx? (fun e=>e.key.isStr y) with
   | none=>
    refine ad (hno fun z=>?_);obtain ⟨j,hj⟩:=tX.mp z;obtain ⟨e,e1,e2,e3,_⟩:=x.get hj;have:=Array.findIdx?_eq_none_iff.mp hf e (Array.mem_of_getElem? e1);rw [ht,ZN] at e3;obtain ⟨tk',ek⟩:=e3;rw [ek] at this;simp [Value.isStr] at this
   | some i=>
    obtain ⟨hlt,hi,_⟩:=Array.findIdx?_eq_some_iff_getElem.mp hf;have e1:es[i]? = some es[i]:=xM hlt;obtain ⟨u,e2,e3,e4,e5⟩:=x.ent i _ e1;have hut:u=t:=by
     have hs:∃ tk',es[i].key=.str y tk':=by
      cases q:es[i].key with
      | str z tz=>rw [q] at hi;simp [Value.isStr] at hi;exact ⟨tz,by rw [hi]⟩
      | _=>rw [q] at hi;simp [Value.isStr] at hi
     obtain ⟨tk',ek⟩:=hs;have hk:ZN s.heap (.str y) es[i].key:=by rw [ZN];exact ⟨tk',ek⟩
     rw [ht];exact QF _ _ (ZN.inj _ _ _ e4 hk)
    dsimp only;rw [e1];dsimp only;refine aa (wpAny_dictEpoch ho hd (aa (eq_at u _ e4 e5 prog w _ _ (aa (wpAny_dictEpoch ho hd ?_)))));rw [aO (by simp),hut,Uu,aP rfl]
    exact aa (wpAny_rule (ad (jR i (by rw [e2,hut]))))
  dsimp only;refine wpAny_ite_split (fun _=>byStr) (fun _=>?_);refine wpAny_ite_split (fun _=>plain) (fun _=>?_);refine wpAny_ite_split (fun _=>aa (ad ?_)) (fun _=>aa (Ks ⟨t,hv,by lia⟩ stored ?_))
 all_goals
  rw [aO (by simp)]
  refine hitLoop _ _ (fun r=>rfl) (fun h=>rfl) (fun i u e R e1 e2 e4 e5 hq r1 r2=>?_) (fun i u e hit R e1 e2 e4 e5 hq r1=>?_)
  ·rw [e1];dsimp only;rw [e2,aP (by simp)]
   refine aa (wpAny_dictEpoch ho hd (aa (eq_at u e e4 e5 prog w _ _ (aa (wpAny_dictEpoch ho hd ?_)))));rw [aO (by simp),hq,Uu,aP rfl]
   simp only [Option.isSome_none,xX,if_false];refine aa (wpAny_rule (wpAny_ite_split (fun _=>ad r1) (fun _=>ad r2)))
  ·rw [e1];dsimp only;rw [e2,aP (by simp)]
   refine aa (wpAny_dictEpoch ho hd (aa (eq_at u e e4 e5 prog w _ _ (aa (wpAny_dictEpoch ho hd ?_)))));have hf:u.eqb t=false:=by
    cases q:u.eqb t with
    | false=>rfl
    | true=>exact absurd (QF _ _ q) hq
   rw [aO (by simp),hf,aO zW]
   refine aa (wpAny_rule ?_);rw [aO (by simp)]
   exact ad r1
end
end Tw
namespace L2
open PySem PySem.Spec PyProof.Rows
theorem Zf.there{P:ao}{w:ay}{H:Hp}{h:aF}{a:aj}:∀{o:HO},Zf P w H h a o->∃ ob,h.get? a=some ob:=by
 intro o x
 induction o with
 | lst xs=>obtain ⟨z,jj,n,r,e⟩:=x;exact ⟨_,e⟩
 | tup xs=>obtain ⟨z,jj,r,ob,e,c⟩:=x;exact ⟨_,e⟩
 | dK kvs=>obtain ⟨z,y,vs,r,ob,es,ep,e,c⟩:=x;exact ⟨_,e⟩
 | dT kvs=>obtain ⟨z,y,xs,r,ob,es,ep,e,c⟩:=x;exact ⟨_,e⟩
 | set S n=>obtain ⟨ob,es,ep,t,e,c⟩:=x;exact ⟨_,e⟩
 | ins C dx fs=>obtain ⟨d,z,ne,e,_⟩:=x;exact ⟨_,e⟩
 | own y=>exact x
 | xd fs=>obtain ⟨mA,⟨od,es,ep,e,c⟩,r⟩:=x;exact ⟨_,e⟩
 | rng lo hi=>obtain ⟨t,u,v,e⟩:=x;exact ⟨_,e⟩
 | frz ob u ih=>exact ⟨_,x.1⟩
 | tbl ps=>exact ⟨_,x⟩
 | met f y=>exact ⟨_,x⟩
 | ext φ=>exact x.2.1
theorem Ye.there{P:ao}{w:ay}{H:Hp}{h:aF}{a:aj}(x:Ye P w H h)(n:H a≠none):∃ ob,h.get? a=some ob:=by
 cases e:H a with
 | none=>exact absurd e n
 | some o=>exact Zf.there (x a o e)
theorem Ye.keptT{P:ao}{w:ay}{H:Hp}{h h':aF}(x:Ye P w H h)(k:∀ b u,h.get? b=some u->H b≠none->h'.get? b=some u):Ye P w H h':=fun a o e=>
 (x a o e).stay (fun b u hb q=>k b u q (by
  rcases hb with rfl | hb
  ·rw [e];exact fun z=>nomatch z
  ·rw [hb];exact fun z=>nomatch z)) (fun _ q=>q) fun _ _ q=>q
section
variable{X:Cx}{pins:List (aj×aJ)}{σ:St}{H H':Hp}{s s':am}{E:XK}
theorem ZH.noloc(I:ZH X pins σ H s):X.s₀.heap.get? X.env.locals=none:=vB I.ok.above
theorem KN(I:ZH X pins σ H s):∀ b∈frs X.stack,∀ o,s.heap.get? b=some o->∀ vs,o.data≠.fields vs:=fun b hb o q vs z=>by
 obtain ⟨_,o',e,d⟩:=I.stack.mem hb;rw [q] at e;cases e;exact d vs z
end
end L2
namespace L2
open PySem PySem.Spec PySem.W PyProof.Rows
def WD(x C:aj)(h:aF):Prop:=∃ o,h.get? x=some o/\o.cls=.ref C
theorem WD.ty{x C:aj}{h:aF}(I:WD x C h)(M:Model):Looks M h (typeOf (.ref x)) (.ref C):=by
 obtain ⟨o,e,c⟩:=I;rw [<-c];exact Looks.andThen (Looks.ld e) Looks.now
structure X0(K:Frag)(C:aj):Prop where
 ga:findIn K (.ref C) "__getattribute__" = some (some (.builtin "BaseException.__getattribute__"))
 hk:findIn K (.ref C) "__getattr__" = some none
 mB:mroIn K C (.type "BaseException")=some true
 mO:mroIn K C (.type "object")=some true
 ca:findIn K (.ref C) "__class__" = some (some (.builtin "object.__class__"))
 hn:specialIn K (.builtin "object.__class__") "__get__" = some (some (.builtin "getset_descriptor.__get__"))
 tk:takesIn K (.builtin "object.__class__")=some true
section
variable{prog:ao}{w:ay}{A:az}{E:jb}{s:am}{K:Frag}{x C:aj}
theorem ZJa{nv:ai}{Q:Unit->am->Prop}(X:K.In s.heap)(I:WD x C s.heap)(hm:mroIn K C (.type "BaseException")=some true)(hq:Q () s):
  aD (aC prog w) A (checkBuiltinCall "BaseException.__getattribute__" ⟨[.ref x,nv],[]⟩) Q E s:=by
 obtain ⟨hh,g,d,t,os⟩:=s;have k1:builtinKind "BaseException.__getattribute__" = some .slot:=by decide +kernel
 have k2:splitId "BaseException.__getattribute__" = some ("BaseException","__getattribute__"):=by decide +kernel
 have la:=I.ty (aC prog w);have lb:=looks_mroIn (M:=aC prog w) X hm;have lc:=F.args_bexc_ga (.ref x) nv;simp only [checkBuiltinCall,k1,k2];refine aa ?_;unfold isInstance
 repeat lk
 exact hq
theorem ED{name:Str}{tk:Tok}{r:Builtin.ObjectAttr.Found}{Q:Fin->am->Prop}(X:K.In s.heap)(I:WD x C s.heap)(fd:Looks (aC prog w) s.heap (Builtin.ObjectAttr.find (.ref x) (.ref C) name) r)(h:match r with
   | .value v=>Q (.done (.ret v)) s
   | .bind g a=>aD (aC prog w) A (call g [a,.ref x,.ref C]) (fun v s'=>Q (.done (.ret v)) s') E s
   | .missing=>False):aD (aC prog w) A (Builtin.«object.__getattribute__» ⟨[.ref x,.str name tk],[]⟩) Q E s:=by
 obtain ⟨hh,g,d,t,os⟩:=s;have la:=I.ty (aC prog w);unfold Builtin.«object.__getattribute__»;refine aa (ad ?_);refine aa (ad ?_);refine aa (la.at ?_);refine aa (fd.at ?_)
 cases r with
 | value v=>exact ad h
 | bind g a=>
  show aD _ _ (holding [a] (call g [a,.ref x,.ref C]) >>= ret) _ _ _;exact aa (af (ae h (fun v s' z=>ad z) fun _ _ z=>z))
 | missing=>exact h.elim
theorem JD{name:Str}{r:Builtin.ObjectAttr.Found}{expr fill:Bool}{tk:Tok}{Q:jb}(X:K.In s.heap)(I:WD x C s.heap)(e:X0 K C)(fd:Looks (aC prog w) s.heap (Builtin.ObjectAttr.find (.ref x) (.ref C) name) r)(h:match r with
   | .value v=>handedIn v=true/\Q v s
   | .bind g a=>aD (aC prog w) A.in1 (call g [a,.ref x,.ref C]) (fun v s'=>handedIn v=true/\Q v s') (fun _ _=>False) s
   | .missing=>False):aD (aC prog w) A (getAttrBy (.ref x) (.str name tk) fill expr) Q E s:=by
 have FA:=F.excAttr_ValueError;have la:=I.ty (aC prog w);have lb:=looks_findIn (M:=aC prog w) X e.ga;have lc:=looks_findIn (M:=aC prog w) X e.hk;have ne:(Value.builtin "BaseException.__getattribute__" == Value.builtin "object.__getattribute__")=false:=by decide +kernel
 obtain ⟨hh,g,d,t,os⟩:=s;unfold getAttrBy;refine af (aa (la.at (aa (lb.at ?_))));show aD _ _ (if (true&&(Value.builtin "BaseException.__getattribute__" == Value.builtin "object.__getattribute__"))=true then _ else getAttrByItsOwn (.ref x) (.str name tk) (.ref C) (.builtin "BaseException.__getattribute__") fill expr) _ _ _
 rw [ne,aO (by decide)]
 unfold getAttrByItsOwn hookBefore;refine aa (lc.at ?_);refine aa (wpAny_attempt (af ?_));unfold callGetattribute;rw [aO (by cases expr <;> decide)]
 unfold boundAndCalled;rw [FA.ga.bind (.ref x)];refine aa (ad ?_);refine wpAny_call (codeAny_call_builtin FA.ga.plain F.entry_bexc_ga (ZJa X I e.mB (ED X I fd ?_)))
 cases r with
 | value v=>exact handed_on h.1 h.2
 | bind g a=>exact ae h (fun v s' z=>handed_on z.1 z.2) fun _ _ z=>z.elim
 | missing=>exact h.elim
theorem E6{R:Result->am->Prop}{tp:ai}(X:K.In s.heap)(I:WD x C s.heap)(e:X0 K C)(h:R (.ok (.ret (.ref C))) s):
  codeAny (aC prog w) A (.call (.builtin "getset_descriptor.__get__") ⟨[.builtin "object.__class__",.ref x,tp],[]⟩) R s:=by
 obtain ⟨hh,gs,dr,tt,oss⟩:=s;have la:=I.ty (aC prog w);have lb:=looks_mroIn (M:=aC prog w) X e.mO;refine codeAny_call_builtin KF.slot_gs.plain KF.entry_gs ?_;refine KF.slot_gs.check _ _ _ _ _ _ _ _ KF.type_class (KF.args_gs _ _ _) ?_;unfold Builtin.«getset_descriptor.__get__»;unfold Builtin.Getset_descriptor.descrGet;rw [dga_obj];refine aa (ad ?_);unfold Builtin.Getset_descriptor.descrGetter;unfold Builtin.Getset_descriptor.descrCheckInstance;unfold Builtin.Getset_descriptor.descrNameAndClass;unfold isInstance;simp only [KF.owner_class]
 repeat lk
 refine ⟨Code.quiet_builtin _ (by decide +kernel),?_⟩
 refine codeAny_builtin KF.entry_class ?_;unfold Builtin.«object.__class__»;unfold shownTypeOf
 repeat lk
 exact h
theorem Ap(X:K.In s.heap)(e:X0 K C)(M:Model):Looks M s.heap (Builtin.ObjectAttr.find (.ref x) (.ref C) "__class__") (.bind (.builtin "getset_descriptor.__get__") (.builtin "object.__class__")):=by
 have la:=looks_findIn (M:=M) X e.ca;have lb:=looks_specialIn (M:=M) X e.hn;have lc:=looks_takesIn (M:=M) X e.tk;refine Looks.andThen la (Looks.andThen lb ?_);exact Looks.andThen (show Looks M s.heap (Builtin.ObjectAttr.dataDescriptor? (some (.builtin "object.__class__")) (some (.builtin "getset_descriptor.__get__"))) (some (_,_)) from Looks.andThen lc Looks.now) (Looks.tag Looks.now)
end
theorem X0.cls{K:Frag}{C:aj}(e:X0 K C):∃ cl d cd sl,K.lookup C=some ⟨cl,d,.cls cd,sl⟩:=by
 obtain ⟨cd,h,_⟩:=qX.mp e.mB;unfold clsIn at h;split at h
 ·rename_i c' d' cd' sl' ho
  exact ⟨c',d',cd',sl',ho⟩
 ·cases h
theorem B8{K:Frag}{x C:aj}(e:X0 K C):KitX K (.ref x) (.ref C) (WD x C) where
 ty:=fun M _ _ I=>I.ty M
 it:=fun _ _ X _=>by
  obtain ⟨cl,d,cd,sl,ho⟩:=e.cls;intro A' Q' E' s' k q;unfold isType loadHead;have z:=k _ _ (X _ _ ho);exact aa (wpAny_loadPart z (ad q))
 ne:=fun h tp dd jj n sl X htp=>by
  obtain ⟨cl,d,cd,sl',ho⟩:=e.cls
  cases q:(Value.ref C==Value.ref tp) with
  | false=>rfl
  | true=>
   have e2:C=tp:=Value.ref.inj (eq_of_beq q);rw [<-e2,X _ _ ho] at htp;cases htp
 ca:=fun{prog w A E Q s} X I k=>by
  unfold getAttr? getAttrBy?;refine aa (wpAny_mkText (aa (wpAny_attempt ?_)));refine JD (s:={ s with toks:=s.toks+1 }) X I e (Ap (s:={ s with toks:=s.toks+1 }) X e _) ?_;exact wpAny_call (E6 (s:={ s with toks:=s.toks+1 }) X I e ⟨rfl,ad k⟩)
end L2
namespace L2
open PySem PySem.Spec PyProof.Rows
def Cx.held(X:Cx)(ea:aj)(E:jb):Cx:={ X with A:=X.A.mark (some (.ref ea)),calm:=false,xe:=E }
section
variable{X:Cx}{pins:List (aj×aJ)}{σ:St}{H H':Hp}{s s':am}{ea:aj}{E:jb}
theorem ZH.held(I:ZH X pins σ H s)(ea:aj)(E:jb):ZH (X.held ea E) pins σ H s:=
 ⟨⟨I.ok.mod,I.ok.kind,I.ok.glob,I.ok.blt,I.ok.above,I.ok.inj,I.ok.has,I.ok.cab,fun z=>absurd z zW,I.ok.frames,I.ok.stk,I.ok.exf,I.ok.bs,I.ok.bsz,I.ok.noex,I.ok.exfs,I.ok.funs,I.ok.frf⟩,
  I.os,I.bare,I.base,I.loc,I.cell,I.free,I.freeC,I.pin,I.hok,I.len⟩
theorem ZH.unheld(ok:X.Ok)(I:ZH (X.held ea E) pins σ H s):ZH X pins σ H s:=⟨ok,I.os,I.bare,I.base,I.loc,I.cell,I.free,I.freeC,I.pin,I.hok,I.len⟩
theorem ZH.track{a:aj}{o:HO}(I:ZH X pins σ H s)(h0:X.s₀.heap.get? a=none)(hl:a≠X.env.locals)(hc:∀ x c,X.env.cells.lookup x=some c->c≠a)(hp:∀ p∈X.pn++pins,p.1≠a)(hn:H a=none)(new:Zf X.prog X.w (upd H a o) s.heap a o):ZH X pins σ (upd H a o) s:=by
 have nt:∀{b:aj}{u:HO},H b=some u->b≠a:=fun{b u} e z=>by rw [z,hn] at e;cases e
 refine ⟨I.ok,I.os,I.bare,⟨I.base.keep,I.base.slot,fun b ob q n hx=>?_,I.base.there,fun b xs q=>?_,fun b ob u q=>?_,fun b ps q=>?_⟩,I.loc,I.cell,?_,fun x c e=>?_,fun p hp'=>?_,fun b u e=>?_,I.len⟩
 ·rw [ZV (fun z=>by rw [z,h0] at q;cases q)]
  exact I.base.free b ob q n hx
 ·have e:=I.base.tups b xs q;rw [ZV (nt e)];exact e
 ·have e:=I.base.frzs b ob u q;rw [ZV (nt e)];exact e
 ·obtain ⟨more,e⟩:=I.base.tbls b ps q;exact ⟨more,by rw [ZV (nt e)];exact e⟩
 ·rw [ZV (Ne.symm hl)];exact I.free
 ·rw [ZV (hc x c e)];exact I.freeC x c e
 ·obtain ⟨e,n,r⟩:=I.pin p hp';exact ⟨e,by rw [ZV (hp p hp')];exact n,r⟩
 ·by_cases hb:b=a
  ·subst hb;rw [ZP] at e;cases e;exact new
  ·rw [ZV hb] at e;exact (I.hok b u e).stay (fun _ _ _ q=>q) (fun c q=>by rw [ZV (nt q)];exact q) fun c xs q=>by rw [ZV (nt q)];exact q
theorem ZH.goes{i:Nat}{n:Str}{M:Model}{A:az}{Q:Unit->am->Prop}{pos:Pos}(I:ZH X pins σ H s)(hN:X.N.Nodup)(hi:X.N[i]? = some n)(hx:X.env.scope.names.lookup n=some .local)(h:∀ s',ZH X pins (σ.set i none) H s'->Q () s'):aD M A (do bindName X.env n .none;unbindBehindTheSuite X.env n pos) Q E s:=by
 obtain ⟨m,hn,hl⟩:=id I.loc;have hcls:(X.env.scope.kind==.class || (X.env.scope.kind==.module&&X.env.locals != X.env.globals))=false:=by rw [I.ok.kind];rfl
 have hiσ:i<σ.length:=by rw [I.len];exact (yV.mp hi).1
 refine wpAny_nameGoes_keeps hx hn hcls fun h' v hn' hs=>h _ ?_;obtain ⟨oL,_,_,hoL,_⟩:=id hn;have neL:∀ b o,X.s₀.heap.get? b=some o->b≠X.env.locals:=fun b o e=>yY (yN (zS e) I.ok.above);refine ⟨I.ok,I.os,I.bare,⟨fun b o e n hb hx=>?_,fun b o e n hb hx=>?_,I.base.free,fun b o e hx=>?_,I.base.tups,I.base.frzs,I.base.tbls⟩,⟨_,hn',fun j y v' e1 e2 e3=>?_⟩,fun y c e=>?_,I.free,I.freeC,fun p hp=>?_,fun b ob e=>?_,by simpa using I.len⟩
 ·exact (hs.2 b (neL b o e)).trans (I.base.keep b o e n hb hx)
 ·obtain ⟨sl,e1⟩:=I.base.slot b o e n hb hx;exact ⟨sl,(hs.2 b (neL b o e)).trans e1⟩
 ·obtain ⟨o',e1⟩:=I.base.there b o e hx;exact ⟨o',(hs.2 b (neL b o e)).trans e1⟩
 ·by_cases hj:j=i
  ·subst hj;rw [sI hiσ] at e2;cases e2
  ·rw [sQ (Ne.symm hj)] at e2;obtain ⟨u',r',q⟩:=hl j y v' e1 e2 e3;refine ⟨u',r',?_⟩;rcases q with ⟨k,e⟩ | ⟨k,c,e,z⟩
   ·refine .inl ⟨k,?_⟩;have:y≠n:=fun e=>hj (Mm hN e1 (e ▸ hi));simp [this,e]
   ·exact .inr ⟨k,c,e,z.sameBut hs (I.cne y c e)⟩
 ·obtain ⟨w',z⟩:=I.cell y c e;exact ⟨w',z.sameBut hs (I.cne y c e)⟩
 ·obtain ⟨e,n,ne,nf,d⟩:=I.pin p hp;exact ⟨(hs.2 p.1 ne).trans e,n,ne,nf,d⟩
 ·refine (I.hok b ob e).stay (fun c w' hc q=>(hs.2 c ?_).trans q) (fun _ q=>q) fun _ _ q=>q;rintro rfl;rcases hc with rfl | hc
  ·rw [I.free] at e;cases e
  ·rw [I.free] at hc;cases hc
end
section
variable{prog:ao}{w:ay}{A:az}{E:jb}{s:am}{K:zZ}{x C CB:aj}
theorem IF{b:Bool}{Q:Bool->am->Prop}(X:K.In s.heap)(I:WD x C s.heap)(ht:yE K (.ref CB)=some (.type "type"))(hB:yW K CB (.type "BaseException")=some true)(hC:yW K C (.ref CB)=some b)(h:Q b s):aD (aC prog w) A (excMatches (.ref x) (.ref CB)) Q E s:=by
 obtain ⟨hh,g,d,t,os⟩:=s;have L0:=I.ty (aC prog w);have L1:=tZ (M:=aC prog w) X hB;have L2:=tZ (M:=aC prog w) X hC;have L3:=rE (M:=aC prog w) X ht;have f:=tc_notTuple;have L4:yM (aC prog w) hh (isType (.ref CB)) true:=by
  obtain ⟨cdD,hcD,_⟩:=qX.mp hB;unfold PySem.W.clsIn at hcD;split at hcD
  ·rename_i c' d' cd' sl' ho
   intro A' Q' E' s' k q;unfold isType loadHead;exact aa (wpAny_loadPart (k _ _ (X _ _ ho)) (ad q))
  ·cases hcD
 unfold excMatches isInstance isExcClass;refine aa (aa (L3.at ?_));rw [f];refine ad ?_;rw [aO zW];refine aa (ad ?_);simp only [tM,List.forIn_nil]
 cases b with
 | true=>
  repeat (first | lk | wp_step)
  all_goals first | exact h | trace_state
 | false=>
  repeat (first | lk | wp_step)
  all_goals first | exact h | trace_state
end
end L2
namespace Tw
open PySem
inductive TG where
 | int (i:Int)
 | str (x:Str)
 | tup (l:List TG)
 | odd (n:String)
mutual
def TG.fits:TG->Nat->Bool
 | .int i,_=>decide (i.natAbs<10 ^ 60)
 | .str x,_=>Us x
 | .tup l,r=>decide (0<r)&&(decide (l.length<=4)&&gfitsL l (r - 1))
 | .odd _,_=>false
def gfitsL:List TG->Nat->Bool
 | [],_=>true
 | t :: l,r=>t.fits r&&gfitsL l r
end
theorem K9(r:Nat):∀ l:List TG,gfitsL l r=l.all fun t=>t.fits r
 | []=>by simp [gfitsL]
 | t :: l=>by rw [gfitsL,tS,K9 r l]
mutual
def KT.emb:KT->TG
 | .int i=>.int i
 | .str x=>.str x
 | .tup l=>.tup (embL l)
def embL:List KT->List TG
 | []=>[]
 | t :: l=>t.emb :: embL l
end
theorem Ow:∀ l:List KT,embL l=l.map KT.emb
 | []=>by rw [embL];rfl
 | t :: l=>by rw [embL,Ow l];rfl
mutual
theorem Mn:∀(t:KT)(r:Nat),t.emb.fits r=t.fits r
 | .int i,r=>by rw [KT.emb,TG.fits,KT.fits]
 | .str x,r=>by rw [KT.emb,TG.fits,KT.fits]
 | .tup l,r=>by rw [KT.emb,TG.fits,KT.fits,embL_fits l (r - 1),Ow,zX]
theorem embL_fits:∀(l:List KT)(r:Nat),gfitsL (embL l) r=fitsL l r
 | [],r=>by rw [embL,gfitsL,fitsL]
 | t :: l,r=>by rw [embL,gfitsL,fitsL,Mn t r,embL_fits l r]
end
mutual
def TG.neat:TG->Prop
 | .int _=>True
 | .str x=>x.length<=1000
 | .tup l=>l.length<=5/\neatL l
 | .odd _=>True
def neatL:List TG->Prop
 | []=>True
 | t :: l=>t.neat/\neatL l
end
theorem IM:∀{l:List TG}{t:TG},neatL l->t∈l->t.neat
 | [],_,_,h=>by cases h
 | u :: l,t,h,hm=>by
  rw [neatL] at h;rcases zB.mp hm with e | e
  ·subst e;exact h.1
  ·exact IM h.2 e
mutual
theorem MM:∀(t:KT)(r:Nat),t.fits r=true->t.emb.neat
 | .int i,r,h=>by rw [KT.emb,TG.neat];trivial
 | .str x,r,h=>by
  rw [KT.fits] at h;rw [KT.emb,TG.neat];have:=(ZMT h).1;exact yK this (by decide)
 | .tup l,r,h=>by
  rw [KT.fits,zQ,zQ] at h;rw [KT.emb,TG.neat,Ow,zX,<-Ow];have:=of_decide_eq_true h.2.1;exact ⟨by lia,embL_neat l (r - 1) h.2.2⟩
theorem embL_neat:∀(l:List KT)(r:Nat),fitsL l r=true->neatL (embL l)
 | [],r,h=>by rw [embL,neatL];trivial
 | t :: l,r,h=>by
  rw [fitsL,zQ] at h;rw [embL,neatL];exact ⟨MM t r h.1,embL_neat l r h.2⟩
end
end Tw
namespace L2
open PySem PySem.Spec PyProof.Rows
section
variable{X:Cx}
theorem ZH.big{pins:List (aj×aJ)}{σ:St}{H:Hp}{s:am}(I:ZH X pins σ H s):sysModules<s.heap.objs.size:=by
 have h:ar<s.heap.objs.size:=(I.mod.glob.keeps I.bk).lt;exact Nat.lt_trans (by decide) h
theorem Cb{P:ao}{w:ay}{H:Hp}(h:aF)(hb:sysModules<h.objs.size):Zf P w H (h.push { cls:=.type "dict",data:=.dict #[] }) h.objs.size (.dK []):=
 ⟨zG _,beq_eq_false_iff_ne.mpr (Ne.symm (yY hb)),[],.nil,Heap.DictOf.new h⟩
def Fc:TE:=fun _ H Q=>∀ p,H p=none->Q (.ref p) (upd H p (.dK []))
theorem Lv{pos:Pos}:PE X (.Dict [] [] pos) Fc:=fun pins s σ H Q I h=>
 wpAny_Dict_empty ⟨.ref s.heap.objs.size,_,I.laid (a:=s.heap.objs.size) (o:=.dK []) (t':=s.toks) (fun _ _ q=>zR _ q) (zY _) (Cb s.heap I.big),rfl,h _ (I.hok.fresh (zY _))⟩
def QT(x:Str)(n:Int):Str:=⟨(wR n.toNat x.cps).foldl (· ++ ·) #[]⟩
theorem Jb(a:Array Nat):∀(k:Nat)(b:Array Nat),((wR k a).foldl (· ++ ·) b).size=b.size+k * a.size
 | 0,b=>by simp
 | k+1,b=>by
  rw [List.replicate_succ,List.foldl_cons,Jb a k,sX,Nat.succ_mul]
  lia
theorem ZHa:Yx X (binaryOp .Mult) (fun x y H Q=>∃ i n,x=.str i/\y=.int n/\i.length=1/\2<=n/\n<=1000/\Q (.str (QT i n)) H):=by
 intro pins s σ H x y v u Q I rx ry h;obtain ⟨i,n,rfl,rfl,hi,h2,h3,q⟩:=h;obtain ⟨t,rfl⟩:=rx;obtain ⟨t',rfl⟩:=ry;have n1:¬ n<1:=by lia
 have n2:¬ ((n==1 || i.length==0)=true):=by rw [hi];simp;lia
 have sz:(QT i n).length<=sizeLine:=by
  show ((wR n.toNat i.cps).foldl (· ++ ·) #[]).size<=aw;have e:i.cps.size=1:=hi;rw [Jb,e];exact xY (XM (by simp;lia))
 refine PySem.P.mul_str ?_ (fun _ _=>?_) (fun _ _=>?_) ?_
 ·rw [aK (by lia),aK (by lia)];rfl
 ·rw [hi];have:(1:Int)<=(2 ^ 63 - 1) / n:=(Int.le_ediv_iff_mul_le (by lia)).mpr (by lia)
  lia
 ·rw [hi];unfold Builtin.Str.tooLong aw;exact aK (by lia)
 ·rw [aO n1,aO n2];exact ⟨sz,⟨.str (QT i n),H,I.tok _,⟨_,rfl⟩,q⟩⟩
def cV:V->ai
 | .ty n=>.type n
 | .ref a=>.ref a
 | _=>.none
def GZ:V->Bool
 | .ty _=>true
 | .ref _=>true
 | _=>false
theorem ZON{c:V}{u:ai}(r:ZT c u)(h:GZ c=true):u=cV c:=by
 cases c with
 | ty n=>exact r
 | ref a=>exact r
 | _=>cases h
theorem AW{K:zZ}{base:aF}{mg:jc}{x:Str}{C:aj}{bmB:je}{newId:String}(kin:K.In base)(hb:mg x=some (.ref C))(q:uO K C bmB newId=true):OwnCls x C bmB newId mg base:=by
 refine ⟨hb,?_⟩;unfold uO at q;split at q
 ·rename_i dd cd sl ho
  split at q
  ·rename_i C' bm k0 k1 k2 k3 n k5 hm hs
   rw [zQ,zQ,zQ,zQ,zQ] at q;obtain ⟨⟨⟨⟨⟨q1,q2⟩,q3⟩,q4⟩,q5⟩,q6⟩:=q;cases eq_of_beq q1;cases eq_of_beq q2;have q3':cd.hasDel=false:=by simpa using q3
   have q6':=eq_of_beq q6;obtain ⟨nm,bs,mro,ns,qn,hd,sn,sub,ab,col,del⟩:=cd;dsimp only at hm q3' q5 q6';subst hm q3';have hsl:sl=#[k0,k1,k2,k3,some (.builtin newId),k5]:=by
    obtain ⟨l⟩:=sl;simp only at hs;rw [hs]
   subst hsl;refine ⟨bm,ns,nm,qn,bs,hd,sn,sub,ab,col,dd,k0,k1,k2,k3,k5,base.nsMap ns,kin _ _ ho,?_⟩;exact ⟨.of_isNs (PySem.W.isNs_of_in kin q5),PySem.W.nsMap_none_of_in kin q5 q6',rP kin q4⟩
  ·cases q
 ·cases q
end
section
variable{κ:Type}[DecidableEq κ]
def YR(kvs:List (κ×V))(k:κ):jg:=(kvs.find? fun kv=>decide (kv.1=k)).map (·.2)
def XL(kvs:List (κ×V))(k:κ)(v:V):List (κ×V):=
 if (kvs.any fun kv=>decide (kv.1=k))=true then kvs.map (fun kv=>if kv.1=k then (kv.1,v) else kv) else kvs++[(k,v)]
def QN(kvs:List (κ×V))(k:κ):List (κ×V):=kvs.filter fun kv=>decide (kv.1≠k)
theorem Uy{p:κ×V}{r:List (κ×V)}{k:κ}(e:p.1=k):YR (p :: r) k=some p.2:=by simp [YR,wK,e]
theorem Uh{p:κ×V}{r:List (κ×V)}{k:κ}(e:¬ p.1=k):YR (p :: r) k=YR r k:=by simp [YR,wK,e]
theorem Pc(k:κ):∀ kvs:List (κ×V),(kvs.any fun kv=>decide (kv.1=k))=(YR kvs k).isSome
 | []=>rfl
 | p :: r=>by
  rw [tR];by_cases e:p.1=k
  ·simp only [Uy e,aM e,Bool.true_or,Option.isSome_some]
  ·rw [Uh e,aK e,Bool.false_or];exact Pc k r
theorem K8(k j:κ)(y:V):∀ kvs:List (κ×V),YR (kvs.map fun kv=>if kv.1=k then (kv.1,y) else kv) j=(YR kvs j).map fun x=>if j=k then y else x
 | []=>rfl
 | p :: r=>by
  have ih:=K8 k j y r;rw [zF];by_cases h:p.1=k
  ·rw [aP h];by_cases e:p.1=j
   ·rw [Uy (p:=(p.1,y)) e,Uy e,wO,aP (e.symm.trans h)]
   ·rw [Uh (p:=(p.1,y)) e,Uh e,ih]
  ·rw [aO h];by_cases e:p.1=j
   ·rw [Uy (p:=p) e,Uy e,wO,aO (fun z=>h (e.trans z))]
   ·rw [Uh (p:=p) e,Uh e,ih]
theorem FE(k j:κ)(y:V):∀ kvs:List (κ×V),YR kvs k=none->YR (kvs++[(k,y)]) j=if j=k then some y else YR kvs j
 | [],_=>by
  by_cases e:k=j
  ·rw [aP e.symm];exact Uy (p:=(k,y)) e
  ·rw [aO (fun z=>e z.symm)];exact Uh (p:=(k,y)) e
 | p :: r,hn=>by
  rw [rX];have hk:¬ p.1=k:=fun z=>by rw [Uy z] at hn;cases hn
  rw [Uh hk] at hn;have ih:=FE k j y r hn;by_cases e:p.1=j
  ·rw [Uy e,Uy e,aO (fun z=>hk (e.trans z))]
  ·rw [Uh e,Uh e,ih]
theorem Nh(kvs:List (κ×V))(k j:κ)(y:V):YR (XL kvs k y) j=if j=k then some y else YR kvs j:=by
 unfold XL;by_cases a:(kvs.any fun kv=>decide (kv.1=k))=true
 ·rw [aP a,K8];rw [Pc] at a;by_cases e:j=k
  ·obtain ⟨x,hx⟩:=vR.mp a;rw [aP e,e,hx,wO,aP rfl]
  ·rw [aO e]
   cases YR kvs j with
   | none=>rfl
   | some x=>rw [wO,aO e]
 ·rw [aO a];refine FE k j y kvs ?_;rw [Pc] at a
  cases q:YR kvs k with
  | none=>rfl
  | some x=>rw [q] at a;exact (a rfl).elim
theorem Gk(kvs:List (κ×V))(k:κ)(v:V):(XL kvs k v).length<=kvs.length+1:=by
 unfold XL;split
 ·rw [zX];lia
 ·rw [zU,zI,xD];lia
theorem Ov{kvs:List (κ×V)}{k:κ}(v:V)(h:YR kvs k=none):XL kvs k v=kvs++[(k,v)]:=by
 unfold XL;rw [Pc,h];exact aO (by decide)
theorem Yj.isSome_eq{o:jg}{u:jd}(r:Yj o u):o.isSome=u.isSome:=by
 cases o with
 | none=>cases u with
  | none=>rfl
  | some _=>exact (show False from r).elim
 | some _=>cases u with
  | none=>exact (show False from r).elim
  | some _=>rfl
theorem KV.val{kvs:List (κ×V)}{vs:List (κ×ai)}(r:KV kvs vs)(k:κ):Yj (YR kvs k) (valueAt vs k):=by
 unfold KV at r
 induction r with
 | nil=>exact True.intro
 | @cons p q ps qs h t ih=>
  obtain ⟨h1,h2⟩:=h;by_cases e:p.1=k
  ·have e':q.1=k:=h1.symm.trans e;have b:valueAt (q :: qs) k=some q.2:=by simp [valueAt,wK,e']
   rw [Uy e,b];exact h2
  ·have e':¬ q.1=k:=fun z=>e (h1.trans z);have b:valueAt (q :: qs) k=valueAt qs k:=by simp [valueAt,wK,e']
   rw [Uh e,b];exact ih
theorem KV.any{kvs:List (κ×V)}{vs:List (κ×ai)}(r:KV kvs vs)(k:κ):(kvs.any fun kv=>decide (kv.1=k))=vs.any fun kv=>decide (kv.1=k):=by
 unfold KV at r
 induction r with
 | nil=>rfl
 | cons h t ih=>rw [tR,tR,ih,h.1]
theorem KV.repl{kvs:List (κ×V)}{vs:List (κ×ai)}(r:KV kvs vs)(k:κ){y:V}{u:ai}(ry:ZT y u):
  KV (kvs.map fun kv=>if kv.1=k then (kv.1,y) else kv) (vs.map fun kv=>if kv.1=k then (kv.1,u) else kv):=by
 unfold KV at r ⊢
 induction r with
 | nil=>exact .nil
 | @cons p q ps qs h t ih=>
  rw [zF,zF];refine .cons ?_ ih;obtain ⟨h1,h2⟩:=h;by_cases e:p.1=k
  ·rw [aP e,aP (h1.symm.trans e)];exact ⟨h1,ry⟩
  ·rw [aO e,aO (fun z=>e (h1.trans z))];exact ⟨h1,h2⟩
theorem KV.put{kvs:List (κ×V)}{vs:List (κ×ai)}(r:KV kvs vs)(k:κ){y:V}{u:ai}(ry:ZT y u):KV (XL kvs k y) (stored vs k u):=by
 unfold XL stored;rw [r.any k];by_cases e:(vs.any fun kv=>decide (kv.1=k))=true
 ·rw [aP e,aP e];exact r.repl k ry
 ·rw [aO e,aO e];exact Paired.snoc r ⟨rfl,ry⟩
theorem KV.drop{kvs:List (κ×V)}{vs:List (κ×ai)}(r:KV kvs vs)(k:κ):KV (QN kvs k) (without vs k):=by
 unfold KV at r ⊢;unfold QN without
 induction r with
 | nil=>exact .nil
 | @cons p q ps qs h t ih=>
  obtain ⟨h1,h2⟩:=h;rw [vZ,vZ];by_cases e:p.1=k
  ·have a:¬ decide (p.1≠k)=true:=by simp [e]
   have b:¬ decide (q.1≠k)=true:=by simp [h1.symm.trans e]
   rw [aO a,aO b];exact ih
  ·have e':¬ q.1=k:=fun z=>e (h1.trans z);have a:decide (p.1≠k)=true:=by simp [e]
   have b:decide (q.1≠k)=true:=by simp [e']
   rw [aP a,aP b];exact .cons ⟨h1,h2⟩ ih
theorem KV.keys{kvs:List (κ×V)}{vs:List (κ×ai)}(r:KV kvs vs):kvs.map (·.1)=vs.map (·.1):=by
 unfold KV at r
 induction r with
 | nil=>rfl
 | cons h t ih=>rw [zF,zF,ih,h.1]
theorem KV.length{kvs:List (κ×V)}{vs:List (κ×ai)}(r:KV kvs vs):kvs.length=vs.length:=Paired.length r
theorem AQ(kvs:List (κ×V))(k:κ):(QN kvs k).length<=kvs.length:=uY _ _
end
theorem OZ{P:ao}{w:ay}{k:Zd}{u:ai}(r:ZT (kV k) u):(Vn P w).is k u=true:=by
 cases k with
 | inl i=>obtain ⟨t,e⟩:=(show ∃ t,u=Value.int i t from r);subst e;exact FR P w i t
 | inr x=>obtain ⟨t,e⟩:=(show ∃ t,u=Value.str x t from r);subst e;exact BB P w x t
theorem IP{P:ao}{w:ay}:∀{ks:List Zd}{us:je},ZO (ks.map kV) us->ItemsAre (Vn P w) ks us
 | [],_,r=>by rw [wV] at r;cases r;exact .nil
 | k :: ks,_,r=>by
  rw [zF] at r
  cases r with
  | cons h t=>exact .cons (OZ h) (IP t)
abbrev KT(H:Hp):List (List Zd×V)->List (List Zd×aj×ai)->Prop:=Paired fun p q=>p.1=q.1/\H q.2.1=some (.tup (p.1.map kV))/\ZT p.2 q.2.2
theorem KT.val{H:Hp}{kvs:List (List Zd×V)}{xs:List (List Zd×aj×ai)}(r:KT H kvs xs)(k:List Zd):Yj (YR kvs k) ((atKey xs k).map (·.2)):=by
 induction r with
 | nil=>exact True.intro
 | @cons p q ps qs h t ih=>
  obtain ⟨h1,_,h2⟩:=h;by_cases e:p.1=k
  ·have e':q.1=k:=h1.symm.trans e;have b:atKey (q :: qs) k=some q.2:=by simp [atKey,wK,e']
   rw [Uy e,b];exact h2
  ·have e':¬ q.1=k:=fun z=>e (h1.trans z);have b:atKey (q :: qs) k=atKey qs k:=by simp [atKey,wK,e']
   rw [Uh e,b];exact ih
theorem KT.repl{H:Hp}{kvs:List (List Zd×V)}{xs:List (List Zd×aj×ai)}(r:KT H kvs xs)(k:List Zd){y:V}{u:ai}(ry:ZT y u):
  KT H (kvs.map fun kv=>if kv.1=k then (kv.1,y) else kv) (xs.map (putAt k u)):=by
 induction r with
 | nil=>exact .nil
 | @cons p q ps qs h t ih=>
  rw [zF,zF];refine .cons ?_ ih;obtain ⟨h1,h2,h3⟩:=h;unfold putAt;by_cases e:p.1=k
  ·rw [aP e,aP (h1.symm.trans e)];exact ⟨h1,h2,ry⟩
  ·rw [aO e,aO (fun z=>e (h1.trans z))];exact ⟨h1,h2,h3⟩
theorem KT.put{H:Hp}{kvs:List (List Zd×V)}{xs:List (List Zd×aj×ai)}(r:KT H kvs xs)(k:List Zd){b:aj}{y:V}{u:ai}(hb:H b=some (.tup (k.map kV)))(ry:ZT y u):
  KT H (XL kvs k y) (storedH xs k b u):=by
 have e:(kvs.any fun kv=>decide (kv.1=k))=(atKey xs k).isSome:=by
  rw [Pc,(r.val k).isSome_eq,Option.isSome_map]
 unfold XL storedH;rw [e];by_cases q:(atKey xs k).isSome=true
 ·rw [aP q,aP q];exact r.repl k ry
 ·rw [aO q,aO q];exact Paired.snoc r ⟨rfl,hb,ry⟩
theorem KT.keeps{H H':Hp}{kvs:List (List Zd×V)}{xs:List (List Zd×aj×ai)}(r:KT H kvs xs)(ht:∀ b ys,H b=some (.tup ys)->H' b=some (.tup ys)):KT H' kvs xs:=
 Paired.mapP r fun _ _ z=>⟨z.1,ht _ _ z.2.1,z.2.2⟩
section
variable{P:ao}{w:ay}{H:Hp}{h:aF}{a:aj}
theorem IU{u:HO}(ok:Ye P w H h)(e:Rd H a u):Zf P w H h a u:=e.ok ok
theorem P3{kvs:List (Zd×V)}(ok:Ye P w H h)(e:Rd H a (.dK kvs)):kvs.length<=aw/\(a==sysModules)=false/\∃ vs,KV kvs vs/\h.DictOf (Vn P w) a vs:=
 show Zf P w H h a (.dK kvs) from IU ok e
theorem Oa{kvs:List (Zd×V)}(ok:Ye P w H h)(e:H a=some (.dK kvs)):kvs.length<=aw/\(a==sysModules)=false/\∃ vs,KV kvs vs/\h.DictOf (Vn P w) a vs:=P3 ok (.inl e)
theorem Nx{ks:List Zd}(ok:Ye P w H h)(e:H a=some (.tup (ks.map kV))):(tupleKind (Vn P w)).is h ks a:=by
 obtain ⟨_,jj,r,o,h1,h2,n,h3⟩:=(show Zf P w H h a (.tup (ks.map kV)) from ok a _ e);exact ⟨o,jj.toArray,n,h1,h2,h3,by simpa using IP r⟩
theorem OB{kvs:List (List Zd×V)}(ok:Ye P w H h)(e:Rd H a (.dT kvs)):kvs.length<=aw/\(a==sysModules)=false /\
  ∃ xs,KT H kvs xs/\h.DictOfH (tupleKind (Vn P w)) a xs:=by
 obtain ⟨z,y,xs,r,o,es,ep,h1,h2,h3,h4,h5⟩:=(show Zf P w H h a (.dT kvs) from IU ok e);refine ⟨z,y,xs,r,o,es,ep,h1,h2,h3,h4,fun x hx=>?_,h5⟩;have all:∀{l:List (List Zd×V)}{m:List (List Zd×aj×ai)},KT H l m->∀ x∈m,(tupleKind (Vn P w)).is h x.1 x.2.1:=by
  intro l m q
  induction q with
  | nil=>intro x hx;exact nomatch hx
  | @cons p q ps qs hq t ih=>
   intro x hx;rcases zB.mp hx with e | hx
   ·subst e;exact Nx ok (by rw [<-hq.1];exact hq.2.1)
   ·exact ih x hx
 exact all r x hx
theorem Bv{kvs:List (List Zd×V)}(ok:Ye P w H h)(e:H a=some (.dT kvs)):kvs.length<=aw/\(a==sysModules)=false /\
  ∃ xs,KT H kvs xs/\h.DictOfH (tupleKind (Vn P w)) a xs:=OB ok (.inl e)
end
def Yg(H:Hp)(a:aj)(y:V)(r:jg):Prop:=
 (∃ kvs k,Rd H a (.dK kvs)/\y=kV k/\r=YR kvs k)\/∃ kvs k b,Rd H a (.dT kvs)/\y=.ref b/\H b=some (.tup (k.map kV))/\r=YR kvs k
def UN(H:Hp)(a:aj)(y v:V)(H':Hp):Prop:=
 (∃ kvs k,H a=some (.dK kvs)/\y=kV k/\kvs.length<aw/\H'=upd H a (.dK (XL kvs k v))) \/
 ∃ kvs k b,H a=some (.dT kvs)/\y=.ref b/\H b=some (.tup (k.map kV))/\kvs.length<aw/\H'=upd H a (.dT (XL kvs k v))
theorem Yg.k{H:Hp}{a:aj}{kvs:List (Zd×V)}{k:Zd}(e:H a=some (.dK kvs)):Yg H a (kV k) (YR kvs k):=.inl ⟨kvs,k,.inl e,rfl,rfl⟩
theorem UN.k{H:Hp}{a:aj}{kvs:List (Zd×V)}{k:Zd}{v:V}(e:H a=some (.dK kvs))(hl:kvs.length<aw):UN H a (kV k) v (upd H a (.dK (XL kvs k v))):=.inl ⟨kvs,k,e,rfl,hl,rfl⟩
section
variable{X:Cx}{pins:List (aj×aJ)}{σ:St}{H:Hp}{s:am}{a:aj}{y v:V}{u r:ai}{o:jg}{A:az}{E:jb}
theorem FY{Q:jb}(hu:A.units+1<cLine)(I:ZH X pins σ H s)(g:Yg H a y (some v))(ry:ZT y u)(h:∀ w' s',ZH X pins σ H s'->ZT v w'->Q w' s'):
  aD (aC X.prog X.w) A (getItem (.ref a) u) Q E s:=by
 rcases g with ⟨kvs,k,e,ey,l⟩ | ⟨kvs,k,b,e,ey,eb,l⟩
 ·subst ey;obtain ⟨z,hd,vs,rel,dd⟩:=P3 I.hok e;obtain ⟨w',hw,rw'⟩:=Yj.some_of (v:=v) (o:=valueAt vs k) (by rw [l];exact rel.val k)
  exact wpAny_getItem_of (OZ ry) dd.mapOf hw (h w' _ (I.tok _) rw')
 ·subst ey;cases (show u=Value.ref b from ry);obtain ⟨z,hd,xs,rel,dd⟩:=OB I.hok e;obtain ⟨w',hw,rw'⟩:=Yj.some_of (v:=v) (o:=(atKey xs k).map (·.2)) (by rw [l];exact rel.val k)
  obtain ⟨p,hp,hp2⟩:=xN.mp hw;refine wpAny_getItem_heap (tupleKind_room_in1 hu) (Nx I.hok eb) dd hp ?_;rw [hp2];exact h w' _ (I.tok _) rw'
theorem ER{Q:jb}(hu:A.units+1<cLine)(I:ZH X pins σ H s)(g:Yg H a y o)(ry:ZT y u)(h:∀ s',ZH X pins σ H s'->Q (.bool (!o.isSome)) s'):
  aD (aC X.prog X.w) A (aB .NotIn u (.ref a)) Q E s:=by
 rcases g with ⟨kvs,k,e,ey,l⟩ | ⟨kvs,k,b,e,ey,eb,l⟩
 ·subst ey;obtain ⟨z,hd,vs,rel,dd⟩:=P3 I.hok e;refine wpAny_notIn_of (OZ ry) hd dd.mapOf ?_;rw [<-(rel.val k).isSome_eq,<-l];exact h _ (I.tok _)
 ·subst ey;cases (show u=Value.ref b from ry);obtain ⟨z,hd,xs,rel,dd⟩:=OB I.hok e;refine wpAny_notIn_heap (tupleKind_room_in1 hu) (Nx I.hok eb) hd dd ?_;have q:=(rel.val k).isSome_eq;rw [Option.isSome_map] at q;rw [<-q,<-l];exact h _ (I.tok _)
theorem NF{h':aF}{t':Nat}{ob:HO}(I:ZH X pins σ H s)(mu:Pw (H a))(hs:yD a s.heap h')(he:∃ q,h'.get? a=some q)(new:Zf X.prog X.w (upd H a ob) h' a ob):
  ZH X pins σ (upd H a ob) { s with heap:=h',toks:=t' }:=
 I.write (x:=a) (e:=a) mu (.inl rfl) (fun b q hb z=>(hs.2 b hb).trans z) he new
theorem Ij{P:ao}{w:ay}{H':Hp}{h':aF}{kvs:List (Zd×V)}{vs:List (Zd×ai)}(z:kvs.length<=aw)(hd:(a==sysModules)=false)(rel:KV kvs vs)(dd:h'.DictOf (Vn P w) a vs):
  Zf P w H' h' a (.dK kvs):=⟨z,hd,vs,rel,dd⟩
theorem Bh{H':Hp}{Q:Unit->am->Prop}(hu:A.units+1<cLine)(I:ZH X pins σ H s)(g:UN H a y v H')(ry:ZT y u)(rv:ZT v r)(h:∀ s',ZH X pins σ H' s'->Q () s'):
  aD (aC X.prog X.w) A (setItem (.ref a) u r) Q E s:=by
 rcases g with ⟨kvs,k,e,ey,l,eH⟩ | ⟨kvs,k,b,e,ey,eb,l,eH⟩
 ·subst ey eH;obtain ⟨z,hd,vs,rel,dd⟩:=Oa I.hok e;have hz:vs.length<=sizeLine:=by rw [<-rel.length];exact z
  have hl:(XL kvs k v).length<=sizeLine:=by have:=Gk kvs k v;lia
  refine wpAny_setItem_pairs (hsz:=hz) (OZ ry) dd fun h' dd' hs=>h _ ?_;have he:∃ q,h'.get? a=some q:=let ⟨q,_,_,hq,_⟩:=dd';⟨q,hq⟩;exact NF I (by rw [e];exact True.intro) hs he (Ij hl hd (rel.put k rv) dd')
 ·subst ey eH;cases (show u=Value.ref b from ry);obtain ⟨z,hd,xs,rel,dd⟩:=Bv I.hok e;have hz:xs.length<=sizeLine:=by rw [<-Paired.length rel];exact z
  have hl:(XL kvs k v).length<=sizeLine:=by have:=Gk kvs k v;lia
  refine wpAny_setItem_heap (hsz:=hz) (tupleKind_room_in1 hu) (Nx I.hok eb) dd fun h' dd' hs=>h _ ?_;obtain ⟨q,es,ep,hq,h2,h3,h4,_,h5⟩:=dd';refine NF I (by rw [e];exact True.intro) hs ⟨q,hq⟩ ⟨hl,hd,_,(rel.put k eb rv).keeps fun c ys ec=>?_,q,es,ep,hq,h2,h3,h4,h5⟩
  rw [ZV (ZQ ec e (fun z=>nomatch z))];exact ec
end
section
variable{X:Cx}{pins:List (aj×aJ)}{σ:St}{H:Hp}{s:am}{a:aj}{kvs:List (Zd×V)}{k:Zd}{u:ai}{A:az}{E:jb}
theorem ZPu{v:V}{more:je}{Q:jb}(I:ZH X pins σ H s)(e:H a=some (.dK kvs))(ry:ZT (kV k) u)(l:YR kvs k=some v)(hm:more=[]\/∃ x,more=[x])(h:∀ w' s',ZH X pins σ (upd H a (.dK (QN kvs k))) s'->ZT v w'->Q w' s'):aD (aC X.prog X.w) A (call (.builtin "dict.pop") (.ref a :: u :: more)) Q E s:=by
 obtain ⟨z,hd,vs,rel,dd⟩:=Oa I.hok e;obtain ⟨w',hw,rw'⟩:=Yj.some_of (v:=v) (o:=valueAt vs k) (by rw [<-l];exact rel.val k)
 have hp:(keyPart u).isSome=true:=by
  cases k with
  | inl i=>obtain ⟨t,q⟩:=(show ∃ t,u=Value.int i t from ry);subst q;rfl
  | inr x=>obtain ⟨t,q⟩:=(show ∃ t,u=Value.str x t from ry);subst q;rfl
 have ha:argsOk "dict.pop" ⟨.ref a :: u :: more,[]⟩:=by
  rcases hm with q | ⟨x,q⟩
  ·subst q;exact PySem.F.args_dict_pop_2 _ _
  ·subst q;exact PySem.F.args_dict_pop_3 _ _ _
 refine call_meetsIn rD dd.typeIs PySem.F.entry_dict_pop ha (meets_dict_pop_there (Vn X.prog X.w) a (OZ ry) more hm hp)
  ⟨vs,w',dd,by rw [<-rel.length];exact z,hw,fun h' dd' hs=>h w' _ ?_ rw'⟩
 have he:∃ q,h'.get? a=some q:=let ⟨q,_,_,hq,_⟩:=dd';⟨q,hq⟩;exact NF I (by rw [e];exact True.intro) hs he (Ij (yK (AQ kvs k) z) hd (rel.drop k) dd')
theorem Fk{Q:jb}(I:ZH X pins σ H s)(e:Rd H a (.dK kvs))(h:∀ t s',ZH X pins σ H s'->Q (.int kvs.length t) s'):aD (aC X.prog X.w) A (call (.builtin "len") [.ref a]) Q E s:=by
 obtain ⟨z,hd,vs,rel,dd⟩:=P3 I.hok e;refine call_len_dict hd dd (by rw [<-rel.length];rw [sizeLine_eq] at z;lia) ?_
 rw [<-rel.length];exact h _ _ (I.tok _)
end
def O9(i:Expr):Prop:=∀ ov iv,subscripted i false ov iv=operate [ov,iv] (getItem ov iv)
theorem Hq{prog:ao}{w:ay}{A:az}{E:jb}{s:am}{env:Env}{value slice:Expr}{pos:Pos}{T id:String}{Q:jb}(hl:typeLookup (.type T) "__getitem__" = pure (some (.builtin id)))(hs:O9 slice)(h:aD (aC prog w) A (aI value env) (fun o s₁=>aD (aC prog w) A (aI slice env) (fun i s₂=>s₂.TypeIs o T/\aD (aC prog w) A (getItem o i) Q E s₂) E s₁) E s):
  aD (aC prog w) A (aI (.Subscript value slice pos) env) Q E s:=by
 refine Subscript_ (ae h (fun o s₁ h₁=>ae h₁ (fun i s₂ h₂=>?_) fun _ _ x=>x) fun _ _ x=>x);obtain ⟨hT,h₂⟩:=h₂;unfold subscriptTail;refine aa ?_;rw [getitemInPython_of_ne hT.not_modules];refine aa (wpAny_specialOf hT hl ?_);have fin:aD (aC prog w) A (subscripted slice false o i) (fun r s₃=>aD (aC prog w) A (letTemporaryGo value o r >>= fun _=>pure r) Q E s₃) E s₂:=by
  rw [hs o i];exact wpAny_operating (ae h₂ (fun r s₃ h₃=>aa (wpAny_letTemporaryGo (ad h₃))) fun _ _ x=>x)
 first
  | exact ad (aa fin)
  | exact aa (ad (aa fin))
  | exact aa fin
theorem F1{X:Cx}{pins:List (aj×aJ)}{σ:St}{H:Hp}{s:am}{a:aj}{y:V}{o:jg}(I:ZH X pins σ H s)(g:Yg H a y o):s.TypeIs (.ref a) "dict" :=by
 rcases g with ⟨kvs,k,e,_,_⟩ | ⟨kvs,k,b,e,_,_,_⟩
 ·obtain ⟨_,_,vs,_,dd⟩:=P3 I.hok e;exact dd.typeIs
 ·obtain ⟨_,_,xs,_,dd⟩:=OB I.hok e;exact dd.typeIs
def F3(td ty:TE):TE:=fun σ H Q=>td σ H fun x H1=>ty σ H1 fun y H2=>∃ a v,x=.ref a/\Yg H2 a y (some v)/\Q v H2
def ZMm(ty td:TE):TE:=fun σ H Q=>ty σ H fun y H1=>td σ H1 fun x H2=>∃ a o,x=.ref a/\Yg H2 a y o/\Q (.bl (!o.isSome)) H2
def ZPR(td ty tv:TE):TS:=fun D σ H=>tv σ H fun v H1=>td σ H1 fun x H2=>ty σ H2 fun y H3=>∃ a H4,x=.ref a/\UN H3 a y v H4/\D.nx σ H4
section
variable{X:Cx}{o i e value:Expr}{pos pos' tpos:Pos}{td ty tv:TE}
theorem OW(hu:X.A.units+1<cLine)(ho:PE X o td)(hi:PE X i ty)(hs:O9 i):PE X (.Subscript o i pos) (F3 td ty):=by
 intro pins s σ H Q I h;refine Hq qL.lookup hs (Zc (ho pins s σ H _ I h) fun u s1 ⟨x,H1,I1,rx,q1⟩=>Zc (hi pins s1 σ H1 _ I1 q1) fun iv s2 ⟨y,H2,I2,ry,a,v,ex,g,q2⟩=>?_);subst ex;obtain rfl:u=Value.ref a:=rx;exact ⟨F1 I2 g,FY hu I2 g ry fun w' s3 I3 rw'=>⟨v,H2,I3,rw',q2⟩⟩
theorem LP(hu:X.A.units+1<cLine)(hi:PE X i ty)(ho:PE X o td):PC X .NotIn i o (ZMm ty td):=by
 intro pins s σ H Q I h;refine Zc (hi pins s σ H _ I h) fun iv s1 ⟨y,H1,I1,ry,q1⟩=>Zc (ho pins s1 σ H1 _ I1 q1) fun u s2 ⟨x,H2,I2,rx,a,ov,ex,g,q2⟩=>?_;subst ex;obtain rfl:u=Value.ref a:=rx;exact ER hu I2 g ry fun s3 I3=>⟨.bl (!ov.isSome),H2,I3,rfl,q2⟩
theorem Ib(hu:X.A.units+1<cLine)(ho:PE X o td)(hi:PE X i ty)(hv:PE X value tv)(hs:swapsWith value (some (.Subscript o i pos')) pos.line X.env=pure false):
  PS X (.Assign [.Subscript o i pos'] value pos) (ZPR td ty tv):=by
 intro pins s σ H D I h;refine wpAny_Assign_Subscript (Zc (hv pins s σ H _ I h) fun r s1 ⟨v,H1,I1,rv,q1⟩=>Zc (ho pins s1 σ H1 _ I1 q1) fun u s2 ⟨x,H2,I2,rx,q2⟩=>Zc (hi pins s2 σ H2 _ I2 q2) fun iv s3 ⟨y,H3,I3,ry,a,H4,ex,g,q3⟩=>?_) hs;subst ex;obtain rfl:u=Value.ref a:=rx;exact Bh hu I3 g ry rv fun s4 I4=>⟨σ,H4,I4,q3⟩
end
section
variable{X:Cx}{pos:Pos}
end
structure M1(X:Cx)(o:Expr)(m:Str)(ju:Pos)(e:Expr)(jk:Pos):Prop where
 base:attributeBase o m X.env (aI o X.env)=aI o X.env
 few:((aH jk (ax [e] X.env)).all (fun x=>!x.1)&&(backToKw jk (keywordEach [] X.env)).all (fun x=>x.1.isSome)
  && decide (([e]:List Expr).length+([]:List Keyword).length+(if ([]:List Keyword).isEmpty then 0 else 1)<30))=true
 line:(ju.endLine==jk.line)=true
 trees:aH jk (ax [e] X.env)=[(false,aI e X.env)]
def Jj(H:Hp)(a:aj):Prop:=(∃ kvs,Rd H a (.dK kvs))\/∃ kvs,Rd H a (.dT kvs)
theorem ZPE{X:Cx}{pins:List (aj×aJ)}{σ:St}{H:Hp}{s:am}{a:aj}(I:ZH X pins σ H s)(d:Jj H a):
  s.TypeIs (.ref a) "dict" /\ (∀ b,Value.ref a=.ref b->∃ ob,s.heap.get? b=some ob/\ob.dict=none)/\(a==sysModules)=false:=by
 rcases d with ⟨kvs,e⟩ | ⟨kvs,e⟩
 ·obtain ⟨_,hd,vs,_,dd⟩:=P3 I.hok e;refine ⟨dd.typeIs,fun b q=>?_,hd⟩;cases q;obtain ⟨ob,_,_,h1,h2,_⟩:=dd;exact ⟨ob,h1,h2.2.1⟩
 ·obtain ⟨_,hd,xs,_,dd⟩:=OB I.hok e;refine ⟨dd.typeIs,fun b q=>?_,hd⟩;cases q;obtain ⟨ob,_,_,h1,h2,_⟩:=dd;exact ⟨ob,h1,h2.2.1⟩
section
variable{X:Cx}{pins:List (aj×aJ)}{σ:St}{H:Hp}{s:am}{a:aj}{y d:V}{u r:ai}{o:jg}{A:az}{E:jb}
end
def Dy(td ty:TE):TE:=fun σ H Q=>td σ H fun x H1=>∃ a,x=.ref a/\Jj H1 a/\ty σ H1 fun y H2=>∃ kvs k v,H2 a=some (.dK kvs)/\y=kV k/\YR kvs k=some v/\Q v (upd H2 a (.dK (QN kvs k)))
section
variable{X:Cx}{o e f:Expr}{ju jk:Pos}{td ty tx:TE}
theorem C7(ho:PE X o td)(he:PE X e ty)(m:M1 X o "pop" ju e jk):PE X (.Call (.Attribute o "pop" ju) [e] [] jk) (Dy td ty):=by
 intro pins s σ H Q I h;refine wpAny_Call_method m.base m.few m.line PySem.F.plainAttrs_dict rD PySem.F.type_dict_pop (Zc (ho pins s σ H _ I h) fun u s1 ⟨x,H1,I1,rx,a,ex,d,q1⟩=>?_);subst ex;obtain rfl:u=Value.ref a:=rx;obtain ⟨t1,t2,_⟩:=ZPE I1 d;refine ⟨t1,t2,?_⟩;rw [m.trees];refine Calls.callWith_builtin rfl (Calls.evalArgs_plain (Calls.spliced_cons (Zc (he pins s1 σ H1 _ I1 q1) fun iv s2 ⟨y,H2,I2,ry,kvs,k,v,ea,ey,l,q2⟩=>Calls.spliced_nil ?_)));subst ey;exact ZPu I2 ea ry l (.inl rfl) fun w' s3 I3 rw'=>⟨v,_,I3,rw',q2⟩
end
section
variable{X:Cx}{pins:List (aj×aJ)}{σ:St}{H:Hp}{s:am}{a:aj}{kvs:List (Zd×V)}{A:az}{E:jb}
end
section
variable{X:Cx}{pins:List (aj×aJ)}{σ:St}{H:Hp}{s:am}{a:aj}{y:V}{u:ai}{A:az}{E:jb}
end
section
variable{X:Cx}
theorem A6:VW X (.builtin "len") (fun xs H Q=>∃ a kvs,xs=[V.ref a]/\H a=some (.dK kvs)/\Q (.int kvs.length) H):=by
 intro pins s σ H xs us Q I r h;obtain ⟨a,kvs,rfl,ha,q⟩:=h;obtain ⟨u,rfl,ru⟩:=Vk r;cases ru;exact Fk I (.inl ha) fun t s' I'=>⟨.int kvs.length,H,I',⟨t,rfl⟩,q⟩
end
section
variable{κ:Type}[DecidableEq κ]
theorem Cf{kvs:List (κ×V)}{k:κ}(h:YR kvs k=none):¬ k∈kvs.map (·.1):=by
 intro m;obtain ⟨p,hp,e⟩:=zJ.mp m;have q:(kvs.any fun kv=>decide (kv.1=k))=true:=uM.mpr ⟨p,hp,aM e⟩;rw [Pc,h] at q;exact absurd q (by simp)
theorem Jv{kvs:List (κ×V)}{k:κ}{v:V}(h:YR kvs k=some v):k∈kvs.map (·.1):=by
 have q:(kvs.any fun kv=>decide (kv.1=k))=true:=by
  rw [Pc,h]
  all_goals rfl
 obtain ⟨p,hp,e⟩:=uM.mp q;exact zJ.mpr ⟨p,hp,of_decide_eq_true e⟩
end
end L2
namespace Tw
open PySem PySem.Spec L2 PyProof.Rows
def Ps(d:aj)(es:Array DictEntry):HO:=.ext fun h=>(d==sysModules)=false/\es.size<=aw/\∃ o ep,h.get? d=some o/\o.ExactDict/\o.data=.dict es ep
abbrev P0(w:ay)(x:KT×V×V)(e:DictEntry):Prop:=e.hash=X2 w x.1/\ZT x.2.1 e.key/\ZT x.2.2 e.val
structure YM(w:ay)(H:Hp)(d:aj)(xs:List (KT×V×V)):Prop where
 ex:∃ es,H d=some (Ps d es)/\Paired (P0 w) xs es.toList
 key:∀ x∈xs,ZD H x.1 x.2.1/\x.1.depth<=3
 nd:(xs.map (·.1)).Nodup
theorem GL{P:ao}{w:ay}{H:Hp}{h:aF}{d:aj}{es:Array DictEntry}(h1:(d==sysModules)=false)(h2:es.size<=aw)(h3:∃ o ep,h.get? d=some o/\o.ExactDict/\o.data=.dict es ep):Zf P w H h d (Ps d es):=by
 refine ⟨⟨h1,h2,h3⟩,?_,?_⟩
 ·obtain ⟨o,ep,g,_⟩:=h3;exact ⟨o,g⟩
 ·rintro a b ⟨q1,q2,o,ep,g,r⟩ k;exact ⟨q1,q2,o,ep,k o g,r⟩
theorem Pj{α β:Type}{F:α->β->Prop}:∀{l:List α}{m:List β}{i:Nat}{b:β},Paired F l m->m[i]? = some b->∃ a,l[i]? = some a/\F a b
 | _,_,_,_,.nil,e=>by simp at e
 | _,_,0,_,.cons r _,e=>by simp at e;subst e;exact ⟨_,rfl,r⟩
 | _,_,i+1,b,.cons _ t,e=>by
  obtain ⟨a,h1,h2⟩:=Pj (i:=i) (b:=b) t (by simpa using e)
  exact ⟨a,by simpa using h1,h2⟩
theorem MT{α β:Type}{F:α->β->Prop}:∀{l:List α}{m:List β},l.length=m.length->(∀(i:Nat) a b,l[i]? = some a->m[i]? = some b->F a b)->Paired F l m
 | [],[],_,_=>.nil
 | [],_ :: _,h,_=>by simp at h
 | _ :: _,[],h,_=>by simp at h
 | a :: l,b :: m,h,f=>.cons (f 0 a b rfl rfl) (MT (by simpa using h) fun i x y hx hy=>f (i+1) x y (by simpa using hx) (by simpa using hy))
theorem P7{α β:Type}{F:α->β->Prop}{a:α}{b:β}(h:F a b):∀{l:List α}{m:List β},Paired F l m->Paired F (l++[a]) (m++[b])
 | _,_,.nil=>.cons h .nil
 | _,_,.cons r t=>.cons r (P7 h t)
def Qp(xs:List (KT×V×V))(t:KT):jg:=(xs.find? fun x=>x.1.eqb t).map (·.2.2)
def Pq(t:KT)(v:V)(x:KT×V×V):KT×V×V:=if x.1.eqb t=true then (x.1,x.2.1,v) else x
def UZ(xs:List (KT×V×V))(t:KT)(y v:V):List (KT×V×V):=if (xs.any fun x=>x.1.eqb t)=true then xs.map (Pq t v) else xs++[(t,y,v)]
theorem Xy{xs:List (KT×V×V)}{t:KT}:(xs.any fun x=>x.1.eqb t)=true ↔ t∈xs.map (·.1):=by
 rw [uM,zJ];constructor
 ·rintro ⟨x,hx,e⟩;exact ⟨x,hx,QF _ _ e⟩
 ·rintro ⟨x,hx,e⟩;exact ⟨x,hx,by rw [e];exact Uu _⟩
theorem LI(t:KT)(v:V)(x:KT×V×V):(Pq t v x).1=x.1/\(Pq t v x).2.1=x.2.1:=by
 unfold Pq;split <;> exact ⟨rfl,rfl⟩
theorem KS(xs:List (KT×V×V))(t:KT)(y v:V):(UZ xs t y v).map (·.1)=if (xs.any fun x=>x.1.eqb t)=true then xs.map (·.1) else xs.map (·.1)++[t]:=by
 unfold UZ;split
 ·rw [wB];exact sS fun x _=>(LI t v x).1
 ·rw [yZ];rfl
theorem ZLJ(xs:List (KT×V×V))(t:KT)(y v:V):(UZ xs t y v).length<=xs.length+1:=by
 have:=congrArg wL (KS xs t y v);rw [zX] at this;rw [this];split
 ·rw [zX];lia
 ·rw [zU,zX];simp
theorem Im{xs:List (KT×V×V)}(nd:(xs.map (·.1)).Nodup){j:Nat}{x:KT×V×V}(e:xs[j]? = some x):Qp xs x.1=some x.2.2:=by
 induction xs generalizing j with
 | nil=>simp at e
 | cons z xs ih=>
  rw [zF,wP] at nd
  cases j with
  | zero=>
   simp at e;subst e;simp [Qp,Uu]
  | succ j=>
   have e':xs[j]? = some x:=by simpa using e
   have jt:z.1.eqb x.1=false:=by
    cases q:z.1.eqb x.1 with
    | false=>rfl
    | true=>exact absurd (zJ.mpr ⟨x,zN e',(QF _ _ q).symm⟩) nd.1
   have:=ih nd.2 e';simpa [Qp,wK,jt] using this
theorem Dk{xs:List (KT×V×V)}{t:KT}(h:t∉xs.map (·.1)):Qp xs t=none:=by
 unfold Qp;rw [Option.map_eq_none_iff,List.find?_eq_none];intro x hx z;exact h (zJ.mpr ⟨x,hx,QF _ _ z⟩)
theorem YM.same{w:ay}{H H':Hp}{d:aj}{xs:List (KT×V×V)}(x:YM w H d xs)(s:ZA H H'):YM w H' d xs:=by
 obtain ⟨es,h1,h2⟩:=x.ex;exact ⟨⟨es,s _ _ h1,h2⟩,fun z hz=>⟨(x.key z hz).1.mono (ZA.tups s),(x.key z hz).2⟩,x.nd⟩
theorem YM.but{w:ay}{H H':Hp}{d p:aj}{xs:List (KT×V×V)}(x:YM w H d xs)(s:ZE p H H')(t:Z1 H H')(n:d≠p):YM w H' d xs:=by
 obtain ⟨es,h1,h2⟩:=x.ex;exact ⟨⟨es,s _ _ h1 n,h2⟩,fun z hz=>⟨(x.key z hz).1.mono t,(x.key z hz).2⟩,x.nd⟩
section
variable{X:Cx}{pins:List (aj×aJ)}{σ:L2.St}{H:Hp}{s:am}{A:az}{E:jb}
theorem YM.es{d:aj}{xs:List (KT×V×V)}{es:Array DictEntry}(I:ZH X pins σ H s)(x:YM X.w H d xs)(r:Paired (P0 X.w) xs es.toList):Pp X.w s.heap (xs.map (·.1)) es:=by
 refine ⟨by have:=Paired.length r;simpa using this.symm,fun i e he=>?_,x.nd⟩
 rw [<-wW] at he;obtain ⟨z,e1,e2,e3,e4⟩:=Pj r he;have hz:=x.key z (zN e1);exact ⟨z.1,by rw [zL,e1];rfl,e2,UU I _ _ _ hz.1 e3,hz.2⟩
theorem GN{d:aj}{xs:List (KT×V×V)}{es:Array DictEntry}{o:aJ}{ep:Nat}{t:KT}{y:V}{u:ai}{Q:Option Nat->am->Prop}(I:ZH X pins σ H s)(x:YM X.w H d xs)(r:Paired (P0 X.w) xs es.toList)(ho:s.heap.get? d=some o)(hd:o.data=.dict es ep)(hy:ZD H t y)(dt:t.depth<=3)(ry:ZT y u)(hu:A.units+3<cLine)(hno:t∉xs.map (·.1)->Q none s)(jR:∀ j z e,xs[j]? = some z->z.1=t->es[j]? = some e->P0 X.w z e->Q (some j) s):aD (aC X.prog X.w) A (dictFind d u (X2 X.w t)) Q E s:=by
 refine BW (UU I t y u hy ry) dt hu ho hd (x.es I r) hno fun j hj=>?_;rw [zL] at hj;obtain ⟨z,e1,e2⟩:=xN.mp hj;have lt:j<es.size:=by
  have:=Paired.length r;obtain ⟨a,_⟩:=yV.mp e1;simp at this
  lia
 have e3:es[j]? = some es[j]:=xM lt;obtain ⟨z',e4,e5⟩:=Pj r (by rw [wW];exact e3)
 rw [e1] at e4;cases e4;exact jR j z _ e1 e2 e3 e5
theorem ZQF{d:aj}{xs:List (KT×V×V)}{t:KT}{y v:V}{u r:ai}{Q:Unit->am->Prop}(hu:A.units+4<cLine)(I:ZH X pins σ H s)(x:YM X.w H d xs)(hl:xs.length<1000)(hy:ZD H t y)(dt:t.depth<=3)(ry:ZT y u)(rv:ZT v r)(h:∀ s' H',ZH X pins σ H' s'->ZE d H H'->YM X.w H' d (UZ xs t y v)->Q () s'):aD (aC X.prog X.w) A (setItem (.ref d) u r) Q E s:=by
 obtain ⟨es,hH,rel⟩:=x.ex;obtain ⟨⟨hsys,hsz,o,ep,ho,hx,hd⟩,_⟩:=I.hok d _ hH;have len:es.size=xs.length:=by have:=Paired.length rel;simpa using this.symm
 have hT:s.TypeIs (.ref d) "dict" :=⟨o,ho,hx.1⟩;unfold setItem
 try with_reducible refine af ?_
 refine aa (wpAny_sequenceKey hT (by decide) ?_)
 refine aa (wpAny_callSpecial?_slot (name:=yJ "__setitem__") hT slot_dict_setitem (wpAny_call_entry slot_dict_setitem hT entry_dict_setitem ?_ (args_dict_setitem _ _ _)));show aD _ _ (Builtin.Dict.notOrdered "__setitem__" ⟨[.ref d,u,r],[]⟩ >>= _) _ _ s;refine aa (wpAny_notOrdered_dict hT ?_);show aD _ _ (dictSet d u r >>= _) _ _ s;refine aa ?_;unfold dictSet
 try with_reducible refine af ?_
 refine aa (KZ t.depth t (zY _) (UU I t y u hy ry) (by show A.units+1+_<_;lia) fun tk htk=>?_)
 unfold dictSetHashed
 try with_reducible refine af ?_
 have I1:ZH X pins σ H { s with toks:=tk }:=I.tok tk;have mu:Pw (H d):=by rw [hH];exact True.intro
 have tups:∀ es',Z1 H (upd H d (Ps d es')):=fun es' b ws e=>by rw [ZV (ZQ e hH)];exact e
 have fin:∀(es':Array DictEntry)(h':aF),es'.size<=aw->yD d s.heap h'->(∃ o ep,h'.get? d=some o/\o.ExactDict/\o.data=.dict es' ep)->Paired (P0 X.w) (UZ xs t y v) es'.toList->Q () { s with heap:=h',toks:=tk }:=fun es' h' hz hs hob hp=>by
  refine h _ (upd H d (Ps d es')) (NF I mu hs (by obtain ⟨o,_,g,_⟩:=hob;exact ⟨o,g⟩) (GL hsys hz hob)) (fun b o e n=>by rw [ZV n];exact e) ⟨⟨es',ZP,hp⟩,fun z hz=>?_,?_⟩
  ·unfold UZ at hz;split at hz
   ·obtain ⟨z',hz',rfl⟩:=zJ.mp hz;rw [(LI t v z').1,(LI t v z').2];exact ⟨(x.key z' hz').1.mono (tups es'),(x.key z' hz').2⟩
   ·rcases yT.mp hz with q | q
    ·exact ⟨(x.key z q).1.mono (tups es'),(x.key z q).2⟩
    ·rw [zA.mp q];exact ⟨hy.mono (tups es'),dt⟩
  ·rw [KS];split
   ·exact x.nd
   ·rename_i hn
    rw [uS];exact ⟨x.nd,by simp,fun a ha b hb=>by rw [zA.mp hb];exact fun z=>hn (Xy.mpr (z ▸ ha))⟩
 refine aa (GN (A:=A.in1) I1 x rel ho hd hy dt ry (by show A.units+1+3<_;lia) (fun hn=>?_) fun j z e e1 e2 e3 e4=>?_)
 ·have hn':¬ (xs.any fun x=>x.1.eqb t)=true:=fun q=>hn (Xy.mp q);refine aa (wpAny_rule (wpAny_updateDictKeys (s:={ s with toks:=tk }) (hz:=hsz) ho hd ?_));refine ad ⟨.none,rfl,ad (fin (es.push ⟨X2 X.w t,u,r⟩) _ (by rw [Array.size_push,len];exact xY (XM (by lia))) (yD.update ..) ⟨_,ep+1,wF _ ho (Obj.isFreed_of_dict (Obj.data_mapDictKeys hd _)),hx.mapDictKeys _,Obj.data_mapDictKeys hd _⟩ ?_)⟩
  unfold UZ;rw [aO hn',Array.toList_push];exact P7 ⟨rfl,ry,rv⟩ rel
 ·have hn':(xs.any fun x=>x.1.eqb t)=true:=Xy.mpr (zJ.mpr ⟨z,zN e1,e2⟩);refine aa (wpAny_rule (aa (wpAny_updateDict (s:={ s with toks:=tk }) ho hd (wpAny_point ?_))));refine ad ⟨.none,rfl,ad (fin (es.modify j fun e=>{ e with val:=r }) _ (by rw [Array.size_modify];exact hsz) (yD.update ..) ⟨_,ep,wF _ ho (Obj.isFreed_of_dict (Obj.data_mapDict hd _)),hx.mapDict _,Obj.data_mapDict hd _⟩ ?_)⟩
  unfold UZ;rw [aP hn'];have lm:(es.modify j fun e=>{ e with val:=r }).toList.length=es.size:=by rw [vC];exact Array.size_modify
  refine MT (by rw [lm,zX,len]) fun i a b ha hb=>?_
  rw [zL] at ha;obtain ⟨a',ea,rfl⟩:=xN.mp ha;rw [wW,Array.getElem?_modify] at hb;have hes:es[i]? = some (es[i]'(by obtain ⟨l1,_⟩:=yV.mp ea;lia)):=xM _
  obtain ⟨a2,ea2,r1,r2,r3⟩:=Pj rel (by rw [wW];exact hes)
  rw [ea] at ea2;cases ea2;rw [hes] at hb;by_cases jz:j=i
  ·subst jz;rw [aP rfl,wO] at hb;cases hb;rw [e1] at ea;cases ea;unfold Pq;rw [e2,Uu,aP rfl];rw [e2] at r1;exact ⟨r1,r2,rv⟩
  ·rw [aO jz] at hb;cases hb;have jt:a'.1.eqb t=false:=by
    cases q:a'.1.eqb t with
    | false=>rfl
    | true=>
     have q1:(xs.map (·.1))[i]? = some t:=by rw [zL,ea];exact congrArg some (QF _ _ q)
     have q2:(xs.map (·.1))[j]? = some t:=by rw [zL,e1];exact congrArg some e2
     obtain ⟨l1,_⟩:=yV.mp q2;exact absurd ((sY l1 x.nd).mp (q2.trans q1.symm)) jz
   unfold Pq;rw [jt,aO zW];exact ⟨r1,r2,r3⟩
end
end Tw
namespace Srt
open PySem PySem.W PyProof.Rows
structure U4(lt:Nat->Nat->Bool):Prop where
 asym:∀ i j,lt i j=true->lt j i=false
 trans:∀ i j k,lt j i=false->lt k j=false->lt k i=false
def gt(p:Array Nat)(i:Nat):Nat:=p.getD i 0
theorem Qm(p:Array Nat)(i:Nat):gt p i=(p[i]?).getD 0:=by unfold gt;rw [Array.getD_eq_getD_getElem?]
theorem Nz{p:Array Nat}{i j:Nat}(hj:j<=p.size)(k:Nat):gt (kas_rev p i j) k=if i<=k/\k<j then gt p (i+j - 1 - k) else gt p k:=by
 rw [Qm,Qm,Qm];unfold kas_rev;rw [getElem?_mirror_all hj];split <;> rfl
theorem ZN2{p:Array Nat}{k l:Nat}(hk:k<p.size)(hl:l<=k)(x:Nat):gt (bubble p k (k - l)) x=if x=l then gt p k else if l<x/\x<=k then gt p (x - 1) else gt p x:=by
 rw [Qm,Qm,Qm,Qm,getElem?_bubble hk (k - l) (by lia)]
 have e:k - (k - l)=l:=by lia
 rw [e];split
 ·rfl
 ·split <;> rfl
def PB(n:Nat)(p:Array Nat):Prop:=p.Perm (yG (yU n))
theorem PB.size{n:Nat}{p:Array Nat}(h:PB n p):p.size=n:=by rw [h.size_eq];simp
theorem PB.lt{n:Nat}{p:Array Nat}(h:PB n p){i:Nat}(hi:i<n):gt p i<n:=by
 have hs:=h.size;rw [Qm,xM (by lia)]
 have:p[i]'(by lia)∈(yG (yU n)):=h.mem_iff.mp (Array.getElem_mem _)
 simpa using this
theorem PB.rev{n:Nat}{p:Array Nat}(h:PB n p)(i j:Nat):PB n (kas_rev p i j):=(mirror_perm _ _ _ _).trans h
theorem PB.bub{n:Nat}{p:Array Nat}(h:PB n p)(i j:Nat):PB n (bubble p i j):=(bubble_perm _ _ _).trans h
section
variable{lt:Nat->Nat->Bool}{n:Nat}{cmp:Nat->Nat->(Bool->am->Prop)->am->Prop}{s:am}
def QL(lt:Nat->Nat->Bool)(p:Array Nat)(k:Nat):Prop:=∀ i j,i<=j->j<k->lt (gt p j) (gt p i)=false
def QQ(lt:Nat->Nat->Bool)(p:Array Nat)(k:Nat):Prop:=∀ i j,i<=j->j<k->lt (gt p i) (gt p j)=false
theorem U4.irr(O:U4 lt)(i:Nat):lt i i=false:=by
 cases h:lt i i with
 | false=>rfl
 | true=>exact absurd (O.asym i i h) (by rw [h];decide)
def Qv(lt:Nat->Nat->Bool)(n:Nat)(cmp:Nat->Nat->(Bool->am->Prop)->am->Prop)(s:am):Prop:=∀ i j,i<n->j<n->∀ C:Bool->am->Prop,C (lt i j) s->cmp i j C s
theorem Mp(O:U4 lt)(hc:Qv lt n cmp s){p:Array Nat}(hp:PB n p):∀(f m N:Nat)(Q:Nat->am->Prop),f+m=N->N<=n->1<=m->QL lt p m ->
  (∀ m',m<=m'->m'<=N->QL lt p m'->(m'=N\/lt (gt p m') (gt p (m' - 1))=true)->Q m' s)->(kas_asc p f m).kasWp cmp Q s
 | 0,m,N,Q,h1,h2,h3,hs,hq=>hq m (zY _) (by lia) hs (.inl (by lia))
 | f+1,m,N,Q,h1,h2,h3,hs,hq=>by
  refine hc _ _ (hp.lt (i:=m) (by lia)) (hp.lt (i:=m - 1) (by lia)) _ ?_
  show (if lt (gt p m) (gt p (m - 1))=true then KasT.ret m else kas_asc p f (m+1)).kasWp cmp Q s
  cases hl:lt (gt p m) (gt p (m - 1)) with
  | true=>rw [aP rfl];exact hq m (zY _) (by lia) hs (.inr hl)
  | false=>
   rw [aO zW];refine Mp O hc hp f (m+1) N Q (by lia) h2 (by lia) (fun i j jz hj=>?_) fun m' g1 g2 g3 g4=>hq m' (by lia) g2 g3 g4
   rcases zC j m with h | h
   ·exact hs i j jz h
   ·have ej:j=m:=by lia
    subst ej;rcases zC i j with h' | h'
    ·exact O.trans _ _ _ (hs i (j - 1) (by lia) (by lia)) hl
    ·have:i=j:=by lia
     rw [this];exact O.irr _
def Mc(lt:Nat->Nat->Bool)(p:Array Nat)(m q:Nat):Prop:=q+1<=m/\∀ i j,m - (q+1)<=i->i<m->m - (q+1)<=j->j<m->lt (gt p i) (gt p j)=false
theorem GM(O:U4 lt){p:Array Nat}{m q:Nat}(hm:m<=p.size)(hf:Mc lt p m q)(hn:QQ lt p m):QQ lt (kas_rev p (m - (q+1)) m) m:=by
 obtain ⟨h1,h2⟩:=hf;have g (k:Nat):=Nz (p:=p) (i:=m - (q+1)) hm k;intro i j jz hj;rw [g i,g j];split
 ·rename_i c1
  rw [aP ⟨by lia,by lia⟩]
  exact h2 _ _ (by lia) (by lia) (by lia) (by lia)
 ·rename_i c1
  split
  ·exact hn _ _ (by lia) (by lia)
  ·exact hn _ _ jz hj
theorem N5(O:U4 lt)(hc:Qv lt n cmp s):∀(f:Nat)(p:Array Nat)(m q N:Nat)(Q:Array Nat×Nat×Nat->am->Prop),PB n p->f+m=N->N<=n->QQ lt p m->Mc lt p m q ->
  (∀ p' m' q',PB n p'->m<=m'->m'<=N->QQ lt p' m'->Mc lt p' m' q'->Q (p',m',q') s)->(kas_desc f p m q).kasWp cmp Q s
 | 0,p,m,q,N,Q,hp,h1,h2,hn,hf,hq=>hq p m q hp (zY _) (by lia) hn hf
 | f+1,p,m,q,N,Q,hp,h1,h2,hn,hf,hq=>by
  have hf1:=hf.1;have hs:=hp.size;refine hc _ _ (hp.lt (i:=m) (by lia)) (hp.lt (i:=m - 1) (by lia)) _ ?_
  show (if lt (gt p m) (gt p (m - 1))=true then (if q > 0 then kas_desc f (kas_rev p (m - (q+1)) m) (m+1) 0 else kas_desc f p (m+1) 0) else .ask (p.getD (m - 1) 0) (p.getD m 0) fun d=>if d=true then .ret (p,m,q) else kas_desc f p (m+1) (q+1):KasT _).kasWp cmp Q s
  have more:∀ p':Array Nat,PB n p'->QQ lt p' m->gt p' m=gt p m->lt (gt p m) (gt p (m - 1))=true->(∀ i,i<m->lt (gt p' i) (gt p (m - 1))=false)->QQ lt p' (m+1):=fun p' _ hn' e hl hb i j jz hj=>by
   rcases zC j m with h | h
   ·exact hn' i j jz h
   ·have ej:j=m:=by lia
    subst ej;rcases zC i j with h' | h'
    ·rw [e];exact O.trans _ _ _ (O.asym _ _ hl) (hb i h')
    ·have:i=j:=by lia
     rw [this];exact O.irr _
  cases hl:lt (gt p m) (gt p (m - 1)) with
  | true=>
   rw [aP rfl];split
   ·have hn':=GM O (by lia) hf hn
    have g (k:Nat):=Nz (p:=p) (i:=m - (q+1)) (j:=m) (by lia) k
    refine N5 O hc f _ (m+1) 0 N Q (hp.rev _ _) (by lia) h2 (more _ (hp.rev _ _) hn' (by rw [g m,aO (by lia)]) hl fun i hi=>?_) ⟨by lia,fun i j a1 a2 a3 a4=>?_⟩ fun p' m' q' b1 b2 b3 b4 b5=>hq p' m' q' b1 (by lia) b3 b4 b5
    ·rw [g i];split
     ·exact hf.2 _ _ (by lia) (by lia) (by lia) (by lia)
     ·exact hn _ _ (by lia) (by lia)
    ·have:i=j:=by lia
     rw [this];exact O.irr _
   ·refine N5 O hc f _ (m+1) 0 N Q hp (by lia) h2 (more _ hp hn rfl hl fun i hi=>hn _ _ (by lia) (by lia)) ⟨by lia,fun i j a1 a2 a3 a4=>?_⟩ fun p' m' q' b1 b2 b3 b4 b5=>hq p' m' q' b1 (by lia) b3 b4 b5
    have:i=j:=by lia
    rw [this];exact O.irr _
  | false=>
   rw [aO zW];refine hc _ _ (hp.lt (i:=m - 1) (by lia)) (hp.lt (i:=m) (by lia)) _ ?_
   show (if lt (gt p (m - 1)) (gt p m)=true then KasT.ret (p,m,q) else kas_desc f p (m+1) (q+1)).kasWp cmp Q s
   cases hd:lt (gt p (m - 1)) (gt p m) with
   | true=>rw [aP rfl];exact hq p m q hp (zY _) (by lia) hn hf
   | false=>
    rw [aO zW];refine N5 O hc f _ (m+1) (q+1) N Q hp (by lia) h2 (fun i j jz hj=>?_) ⟨by lia,fun i j a1 a2 a3 a4=>?_⟩ fun p' m' q' b1 b2 b3 b4 b5=>hq p' m' q' b1 (by lia) b3 b4 b5
    ·rcases zC j m with h | h
     ·exact hn i j jz h
     ·have ej:j=m:=by lia
      subst ej;rcases zC i j with h' | h'
      ·exact O.trans _ _ _ hd (hn i (j - 1) (by lia) (by lia))
      ·have:i=j:=by lia
       rw [this];exact O.irr _
    ·rcases zC i m with h | h
     ·rcases zC j m with h' | h'
      ·exact hf.2 i j (by lia) h (by lia) h'
      ·have ej:j=m:=by lia
       subst ej;exact O.trans _ _ _ hd (hf.2 i (j - 1) (by lia) h (by lia) (by lia))
     ·have ei:i=m:=by lia
      subst ei;rcases zC j i with h' | h'
      ·exact O.trans _ _ _ (hf.2 (i - 1) j (by lia) (by lia) (by lia) h') hl
      ·have:i=j:=by lia
       rw [this];exact O.irr _
theorem Ec{p:Array Nat}{m:Nat}(hm:m<=p.size)(hn:QQ lt p m):QL lt (kas_rev p 0 m) m:=fun i j jz hj=>by
 have g (k:Nat):=Nz (p:=p) (i:=0) hm k;rw [g i,g j,aP ⟨by lia,by lia⟩,aP ⟨by lia,by lia⟩]
 exact hn _ _ (by lia) (by lia)
theorem GO(O:U4 lt)(hc:Qv lt n cmp s){p:Array Nat}(hp:PB n p){m N:Nat}{Q:Nat×Array Nat->am->Prop}(h1:1<=m)(h2:m<=N)(h3:N<=n)(hn:QQ lt p m)(hq:∀ m' p',PB n p'->1<=m'->m'<=N->QL lt p' m'->Q (m',p') s):(kas_tail3 m N p).kasWp cmp Q s:=by
 unfold kas_tail3;rw [KasT.kasWp_bind];exact Mp O hc (hp.rev 0 m) (N - m) m N _ (by lia) h3 h1 (Ec (by have:=hp.size;lia) hn) fun m' g1 g2 g3 _=>hq m' _ (hp.rev 0 m) (by lia) g2 g3
theorem JW(O:U4 lt)(hc:Qv lt n cmp s){p:Array Nat}(hp:PB n p){m N:Nat}{Q:Nat×Array Nat->am->Prop}(h2:m+1<=N)(h3:N<=n)(hn:QQ lt p (m+1))(hq:∀ m' p',PB n p'->1<=m'->m'<=N->QL lt p' m'->Q (m',p') s):(kas_descPart m N p).kasWp cmp Q s:=by
 unfold kas_descPart;rw [KasT.kasWp_bind];refine N5 O hc (N - (m+1)) p (m+1) 0 N _ hp (by lia) h3 hn ⟨by lia,fun i j a1 a2 a3 a4=>?_⟩ fun p' m' q' b1 b2 b3 b4 b5=>?_
 ·have:i=j:=by lia
  rw [this];exact O.irr _
 ·have hs:=b1.size;show (if q' > 0 then kas_tail3 m' N (kas_rev p' (m' - (q'+1)) m') else kas_tail3 m' N p').kasWp cmp Q s
  split
  ·exact GO O hc (b1.rev _ _) (by lia) b3 h3 (GM O (by lia) b5 b4) hq
  ·exact GO O hc b1 (by lia) b3 h3 b4 hq
theorem Bm(O:U4 lt)(hc:Qv lt n cmp s){p:Array Nat}(hp:PB n p){Q:Nat×Array Nat->am->Prop}(h1:1<=n)(hq:∀ m' p',PB n p'->1<=m'->m'<=n->QL lt p' m'->Q (m',p') s):(kas_count n p).kasWp cmp Q s:=by
 unfold kas_count;rw [KasT.kasWp_bind];have hs:=hp.size;refine Mp O hc hp (n - 1) 1 n _ (by lia) (zY _) (zY _) (fun i j jz hj=>?_) fun m g1 g2 g3 g4=>?_
 ·have:i=j:=by lia
  rw [this];exact O.irr _
 ·split
  ·exact hq m p hp g1 g2 g3
  ·rename_i jt
   have hm:m<n:=by have:m≠n:=fun e=>jt (by rw [e];simp);lia
   have hl:lt (gt p m) (gt p (m - 1))=true:=by
    rcases g4 with g4 | g4
    ·lia
    ·exact g4
   split
   ·rename_i hgt
    refine hc _ _ (hp.lt (i:=0) (by lia)) (hp.lt (i:=m - 1) (by lia)) _ ?_
    show (if lt (gt p 0) (gt p (m - 1))=true then KasT.ret (m,p) else kas_descPart m n (kas_rev p 0 m)).kasWp cmp Q s
    cases h0:lt (gt p 0) (gt p (m - 1)) with
    | true=>rw [aP rfl];exact hq m p hp g1 g2 g3
    | false=>
     rw [aO zW];have al:∀ i j,i<m->j<m->lt (gt p i) (gt p j)=false:=fun i j hi hj=>
      O.trans _ _ _ (g3 j (m - 1) (by lia) (by lia)) (O.trans _ _ _ h0 (g3 0 i (by lia) hi))
     have g (k:Nat):=Nz (p:=p) (i:=0) (j:=m) (by lia) k
     refine JW O hc (hp.rev 0 m) (by lia) (zY _) (fun i j jz hj=>?_) hq
     rw [g i,g j];rcases zC j m with h | h
     ·rw [aP ⟨by lia,by lia⟩,aP ⟨by lia,by lia⟩]
      exact al _ _ (by lia) (by lia)
     ·have ej:j=m:=by lia
      subst ej;rcases zC i j with h' | h'
      ·rw [aP ⟨by lia,h'⟩,aO (by lia)]
       exact O.trans _ _ _ (O.asym _ _ hl) (al _ _ (by lia) (by lia))
      ·have:i=j:=by lia
       rw [this,aO (by lia)];exact O.irr _
   ·have em:m=1:=by lia
    subst em;refine JW O hc hp (by lia) (zY _) (fun i j jz hj=>?_) hq
    rcases zC i j with h' | h'
    ·have ei:i=0:=by lia
     have ej:j=1:=by lia
     subst ei ej;exact O.asym _ _ hl
    ·have:i=j:=by lia
     rw [this];exact O.irr _
theorem LJ(O:U4 lt)(hc:Qv lt n cmp s){p:Array Nat}(hp:PB n p){k:Nat}(hk:k<n)(hs:QL lt p k):∀(f l r:Nat)(Q:Nat->am->Prop),l<=r->r<=k->r - l<=f->(∀ i,i<l->lt (gt p k) (gt p i)=false)->(∀ i,r<=i->i<k->lt (gt p k) (gt p i)=true) ->
  (∀ l',l'<=k->(∀ i,i<l'->lt (gt p k) (gt p i)=false)->(∀ i,l'<=i->i<k->lt (gt p k) (gt p i)=true)->Q l' s)->(kas_place p k f l r).kasWp cmp Q s
 | 0,l,r,Q,h1,h2,h3,a,b,hq=>hq l (by lia) a fun i hi=>b i (by lia)
 | f+1,l,r,Q,h1,h2,h3,a,b,hq=>by
  unfold kas_place;split
  ·exact hq l (by lia) a fun i hi=>b i (by lia)
  ·rename_i hlr
   refine hc _ _ (hp.lt (i:=k) hk) (hp.lt (i:=(l+r) / 2) (by lia)) _ ?_
   show (if lt (gt p k) (gt p ((l+r) / 2))=true then kas_place p k f l ((l+r) / 2) else kas_place p k f ((l+r) / 2+1) r).kasWp cmp Q s
   cases hl:lt (gt p k) (gt p ((l+r) / 2)) with
   | true=>
    rw [aP rfl];refine LJ O hc hp hk hs f l ((l+r) / 2) Q (by lia) (by lia) (by lia) a (fun i hi hik=>?_) hq
    cases h:lt (gt p k) (gt p i) with
    | true=>rfl
    | false=>
     have:=O.trans _ _ _ (hs ((l+r) / 2) i hi hik) h;rw [hl] at this;cases this
   | false=>
    rw [aO zW];refine LJ O hc hp hk hs f ((l+r) / 2+1) r Q (by lia) h2 (by lia) (fun i hi=>?_) b hq
    exact O.trans _ _ _ (hs i ((l+r) / 2) (by lia) (by lia)) hl
theorem Iy(O:U4 lt)(hc:Qv lt n cmp s):∀(f:Nat)(p:Array Nat)(k:Nat)(Q:Array Nat->am->Prop),PB n p->f+k=n->1<=k->QL lt p k->(∀ p',PB n p'->QL lt p' n->Q p' s)->(kas_bin f p k).kasWp cmp Q s
 | 0,p,k,Q,hp,h1,h2,hs,hq=>hq p hp (by rw [<-h1,Nat.zero_add];exact hs)
 | f+1,p,k,Q,hp,h1,h2,hs,hq=>by
  unfold kas_bin;rw [KasT.kasWp_bind];have hz:=hp.size;refine LJ O hc hp (by lia) hs k 0 k _ (zG _) (zY _) (by lia) (fun i hi=>absurd hi (by lia)) (fun i hi hk=>absurd hk (by lia)) fun l hl a b=>?_
  have g (x:Nat):=ZN2 (p:=p) (k:=k) (l:=l) (by lia) hl x
  refine Iy O hc f _ (k+1) Q (hp.bub _ _) (by lia) (by lia) (fun i j jz hj=>?_) hq
  rw [g i,g j];by_cases e1:i=l
  ·rw [aP e1];by_cases e2:j=l
   ·rw [aP e2];exact O.irr _
   ·rw [aO e2,aP ⟨by lia,by lia⟩]
    exact O.asym _ _ (b (j - 1) (by lia) (by lia))
  ·rw [aO e1];by_cases e2:j=l
   ·rw [aP e2,aO (by lia)]
    exact a i (by lia)
   ·rw [aO e2];by_cases c1:l<i/\i<=k
    ·rw [aP c1,aP ⟨by lia,by lia⟩]
     exact hs _ _ (by lia) (by lia)
    ·rw [aO c1];by_cases c2:l<j/\j<=k
     ·rw [aP c2];exact hs _ _ (by lia) (by lia)
     ·rw [aO c2];exact hs _ _ jz (by lia)
theorem sort_ok(O:U4 lt)(hc:Qv lt n cmp s)(h1:1<=n){Q:Array Nat->am->Prop}(hq:∀ p,PB n p->QL lt p n->Q p s):(kas_sort n).kasWp cmp Q s:=by
 unfold kas_sort;rw [KasT.kasWp_bind];refine Bm O hc (p:=yG (yU n)) (Array.Perm.refl _) h1 fun m p hp g1 g2 g3=>?_;show (if m<n then kas_bin (n - max m 1) p (max m 1) else .ret p:KasT _).kasWp cmp Q s
 split
 ·have e:max m 1=m:=by lia
  rw [e];exact Iy O hc (n - m) p m Q hp (by lia) g1 g3 hq
 ·have e:m=n:=by lia
  subst e;exact hq p hp g3
end
end Srt
namespace Tw
open PySem
theorem Gm:∀(l m:List Nat),l<m->¬ m<l
 | [],[],h,_=>absurd h (vF _)
 | [],_ :: _,_,h=>absurd h (vF _)
 | _ :: _,[],h,_=>absurd h (vF _)
 | a :: l,b :: m,h,h'=>by
  rw [uZ] at h h';rcases h with h | ⟨rfl,h⟩
  ·rcases h' with h' | ⟨rfl,h'⟩
   ·lia
   ·lia
  ·rcases h' with h' | ⟨_,h'⟩
   ·lia
   ·exact Gm l m h h'
theorem JI:∀(l m:List Nat),¬ l<m->¬ m<l->l=m
 | [],[],_,_=>rfl
 | [],_ :: _,h,_=>absurd (tF _ _) h
 | _ :: _,[],_,h=>absurd (tF _ _) h
 | a :: l,b :: m,h,h'=>by
  rw [uZ] at h h';have e:a=b:=by
   rcases Nat.lt_trichotomy a b with c | c | c
   ·exact absurd (.inl c) h
   ·exact c
   ·exact absurd (.inl c) h'
  subst e;rw [JI l m (fun z=>h (.inr ⟨rfl,z⟩)) fun z=>h' (.inr ⟨rfl,z⟩)]
theorem GK:∀(l m k:List Nat),l<m->m<k->l<k
 | _,_,[],_,h=>absurd h (vF _)
 | [],_,_ :: _,_,_=>tF _ _
 | _ :: _,[],_,h,_=>absurd h (vF _)
 | a :: l,b :: m,c :: k,h,h'=>by
  rw [uZ] at h h' ⊢;rcases h with h | ⟨rfl,h⟩
  ·rcases h' with h' | ⟨rfl,h'⟩
   ·exact .inl (Nat.lt_trans h h')
   ·exact .inl h
  ·rcases h' with h' | ⟨rfl,h'⟩
   ·exact .inl h'
   ·exact .inr ⟨rfl,GK l m k h h'⟩
theorem eqb_comm'(a b:KT):a.eqb b=b.eqb a:=by
 rw [wA,Y4,Y4];exact eq_comm
mutual
theorem PX:∀(a b:KT),a.lt b=true->b.lt a=false
 | .int i,.int j,h=>by rw [KT.lt] at h ⊢;have:=of_decide_eq_true h;exact aK (by lia)
 | .int _,.str _,_=>by rw [KT.lt]
 | .int _,.tup _,_=>by rw [KT.lt]
 | .str _,.int _,h=>by rw [KT.lt] at h;cases h
 | .str x,.str y,h=>by rw [KT.lt] at h ⊢;exact aK (Gm _ _ (of_decide_eq_true h))
 | .str _,.tup _,_=>by rw [KT.lt]
 | .tup _,.int _,h=>by rw [KT.lt] at h;cases h
 | .tup _,.str _,h=>by rw [KT.lt] at h;cases h
 | .tup l,.tup m,h=>by rw [KT.lt] at h ⊢;exact ltL_asym l m h
theorem ltL_asym:∀(l m:List KT),ltL l m=true->ltL m l=false
 | [],[],h=>by rw [ltL] at h;cases h
 | [],_ :: _,_=>by rw [ltL]
 | _ :: _,[],h=>by rw [ltL] at h;cases h
 | a :: l,b :: m,h=>by
  rw [ltL] at h ⊢;rw [eqb_comm' b a]
  cases e:a.eqb b with
  | true=>rw [e,aP rfl] at h;rw [aP rfl];exact ltL_asym l m h
  | false=>rw [e,aO zW] at h;rw [aO zW];exact PX a b h
end
mutual
theorem Oo:∀(a b:KT),a.lt b=false->b.lt a=false->a=b
 | .int i,.int j,h,h'=>by rw [KT.lt] at h h';have:=of_decide_eq_false h;have:=of_decide_eq_false h';rw [show i=j by lia]
 | .int _,.str _,h,_=>by rw [KT.lt] at h;cases h
 | .int _,.tup _,h,_=>by rw [KT.lt] at h;cases h
 | .str _,.int _,_,h=>by rw [KT.lt] at h;cases h
 | .str x,.str y,h,h'=>by
  rw [KT.lt] at h h';have e:=JI _ _ (of_decide_eq_false h) (of_decide_eq_false h');obtain ⟨⟨x⟩⟩:=x;obtain ⟨⟨y⟩⟩:=y;dsimp only at e;rw [e]
 | .str _,.tup _,h,_=>by rw [KT.lt] at h;cases h
 | .tup _,.int _,_,h=>by rw [KT.lt] at h;cases h
 | .tup _,.str _,_,h=>by rw [KT.lt] at h;cases h
 | .tup l,.tup m,h,h'=>by rw [KT.lt] at h h';rw [ltL_total l m h h']
theorem ltL_total:∀(l m:List KT),ltL l m=false->ltL m l=false->l=m
 | [],[],_,_=>rfl
 | [],_ :: _,h,_=>by rw [ltL] at h;cases h
 | _ :: _,[],_,h=>by rw [ltL] at h;cases h
 | a :: l,b :: m,h,h'=>by
  rw [ltL] at h h';rw [eqb_comm' b a] at h'
  cases e:a.eqb b with
  | true=>rw [e,aP rfl] at h h';rw [Y4.mp e,ltL_total l m h h']
  | false=>
   rw [e,aO zW] at h h';have:=Oo a b h h';rw [this,Uu] at e;cases e
end
theorem QH(a:KT):a.lt a=false:=by
 cases h:a.lt a with
 | false=>rfl
 | true=>have:=PX a a h;rw [h] at this;cases this
mutual
theorem lt_trans':∀(a b c:KT),a.lt b=true->b.lt c=true->a.lt c=true
 | .int i,.int j,.int k,h,h'=>by rw [KT.lt] at h h' ⊢;have:=of_decide_eq_true h;have:=of_decide_eq_true h';exact aM (by lia)
 | .int _,_,.str _,_,_=>by rw [KT.lt]
 | .int _,_,.tup _,_,_=>by rw [KT.lt]
 | .str _,_,.tup _,_,_=>by rw [KT.lt]
 | .int _,.str _,.int _,_,h=>by rw [KT.lt] at h;cases h
 | .int _,.tup _,.int _,_,h=>by rw [KT.lt] at h;cases h
 | .str _,.int _,_,h,_=>by rw [KT.lt] at h;cases h
 | .str x,.str y,.str z,h,h'=>by rw [KT.lt] at h h' ⊢;exact aM (GK _ _ _ (of_decide_eq_true h) (of_decide_eq_true h'))
 | .str _,.str _,.int _,_,h=>by rw [KT.lt] at h;cases h
 | .str _,.tup _,.str _,_,h=>by rw [KT.lt] at h;cases h
 | .str _,.tup _,.int _,_,h=>by rw [KT.lt] at h;cases h
 | .tup _,.int _,_,h,_=>by rw [KT.lt] at h;cases h
 | .tup _,.str _,_,h,_=>by rw [KT.lt] at h;cases h
 | .tup l,.tup m,.tup k,h,h'=>by rw [KT.lt] at h h' ⊢;exact ltL_trans l m k h h'
 | .tup _,.tup _,.int _,_,h=>by rw [KT.lt] at h;cases h
 | .tup _,.tup _,.str _,_,h=>by rw [KT.lt] at h;cases h
theorem ltL_trans:∀(l m k:List KT),ltL l m=true->ltL m k=true->ltL l k=true
 | _,[],[],_,h=>by rw [ltL] at h;cases h
 | _,_ :: _,[],_,h=>by rw [ltL] at h;cases h
 | [],_,_ :: _,_,_=>by rw [ltL]
 | _ :: _,[],_ :: _,h,_=>by rw [ltL] at h;cases h
 | a :: l,b :: m,c :: k,h,h'=>by
  rw [ltL] at h h' ⊢
  cases e:a.eqb b with
  | true=>
   rw [e,aP rfl] at h;have ab:=Y4.mp e;subst ab
   cases e2:a.eqb c with
   | true=>rw [e2,aP rfl] at h';rw [aP rfl];exact ltL_trans l m k h h'
   | false=>rw [e2,aO zW] at h';rw [aO zW];exact h'
  | false=>
   rw [e,aO zW] at h
   cases e2:b.eqb c with
   | true=>
    have bc:=Y4.mp e2;subst bc;rw [e,aO zW];exact h
   | false=>
    rw [e2,aO zW] at h';have ac:=lt_trans' a b c h h'
    cases e3:a.eqb c with
    | true=>
     have:=Y4.mp e3;subst this;rw [QH] at ac;cases ac
    | false=>rw [aO zW];exact ac
end
theorem le_trans'{a b c:KT}(h1:b.lt a=false)(h2:c.lt b=false):c.lt a=false:=by
 cases h:c.lt a with
 | false=>rfl
 | true=>
  cases h3:a.lt b with
  | true=>rw [lt_trans' c a b h h3] at h2;cases h2
  | false=>rw [Oo a b h3 h1,h2] at h;cases h
theorem Kf{a b c:KT}(h1:b.lt a=false)(h2:b.lt c=true):a.lt c=true:=by
 cases h:a.lt c with
 | true=>rfl
 | false=>rw [le_trans' h h1] at h2;cases h2
end Tw
namespace Tw
open PySem PySem.Spec L2 PyProof.Rows
structure Kg(g:KT->KT):Prop where
 plt:∀ t u,(g t).plt (g u)=t.lt u
 cmp:∀ t u,(g t).cmp (g u)=true
 shape:∃ n:Nat,∀ t,∃(k:Int)(r:List KT),g t=.tup (.int k :: r)/\r.length=n
def Pt(g:KT->KT)(h:aF)(t:KT)(v:ai):Prop:=ZN h (g t) v
section
variable{prog:ao}{w:ay}{A:az}{E:jb}{s:am}{g:KT->KT}
theorem Gg:∀{l m:List KT}{vs us:je}{i:Nat}{Q:Bool->am->Prop},l.length=m.length->KVals s.heap l vs->KVals s.heap m us->cmpL l m=true->A.units+depthL l<cLine->Q (pltL l m) s->PySem.W.KatLex prog w A true false Q (vs.zip us) (i+1) s
 | [],m,vs,us,i,Q,hl,x,y,_,_,h=>by
  rw [KVals] at x;subst x
  cases m with
  | nil=>rw [pltL] at h;exact PySem.W.kat_nil h
  | cons _ _=>simp at hl
 | a :: l,m,vs,us,i,Q,hl,x,y,hc,hu,h=>by
  cases m with
  | nil=>simp at hl
  | cons b m=>
   rw [KVals] at x y;obtain ⟨v,r,rfl,x1,x2⟩:=x;obtain ⟨v',r',rfl,y1,y2⟩:=y;rw [depthL] at hu;rw [pltL] at h;rw [cmpL] at hc;refine PySem.W.kat_cons (Pm a.depth a b A v v' (zY _) x1 y1 (by lia) prog w _ _ ?_)
   refine PySem.W.kat_go (fun e=>PySem.W.kat_yes ?_) (fun e=>PySem.W.kat_no ?_)
   ·rw [e,aP rfl] at h hc;exact Gg (by simpa using hl) x2 y2 hc (by lia) h
   ·rw [e,aO zW] at h hc;exact PySem.W.kat_one v v' (KP a.depth a b A v v' (zY _) x1 y1 hc (by lia) prog w _ _ h)
theorem ZQg(hg:Kg g){t u:KT}{x y:ai}{Q:Bool->am->Prop}(hx:Pt g s.heap t x)(hy:Pt g s.heap u y)(hu:A.units+(g t).depth<cLine)(h:Q (t.lt u) s):aD (aC prog w) A (keyLt' (tuples' true) x y) Q E s:=by
 obtain ⟨n,sh⟩:=hg.shape;obtain ⟨k,r,ea,la⟩:=sh t;obtain ⟨m,q,ec,lc⟩:=sh u;have hp:=hg.plt t u;have hc:=hg.cmp t u;unfold Pt at hx hy;rw [ea] at hp hc hx hu;rw [ec] at hp hc hy;rw [ZN] at hx hy;obtain ⟨a,jj,rfl,⟨⟨cl,dd,da',sl⟩,ho,hcl,n1,hd⟩,kx⟩:=hx;obtain ⟨c,jr,rfl,⟨⟨cl2,dd2,da2,jG⟩,ho2,hcl2,n2,hd2⟩,ky⟩:=hy;have l1:=kx.length;have l2:=ky.length;rw [KVals] at kx ky;obtain ⟨v1,r1,rfl,k1,kx⟩:=kx;obtain ⟨v2,r2,rfl,k2,ky⟩:=ky;rw [ZN] at k1 k2;obtain ⟨tk,rfl⟩:=k1;obtain ⟨tm,rfl⟩:=k2;rw [KT.plt,pltL] at hp;rw [KT.cmp,cmpL] at hc;rw [KT.depth,depthL] at hu;refine PySem.W.kat_lt ho hd ho2 hd2 ?_;have hfin:decide ((Value.int k tk :: r1).toArray.size<(Value.int m tm :: r2).toArray.size)=false:=by
  simp only [zI] at l1 l2;simp only [zO,zI,decide_eq_false_iff_not]
  lia
 rw [hfin];show PySem.W.KatLex prog w A true false Q ((.int k tk,.int m tm) :: r1.zip r2) 0 s;refine PySem.W.kat_cons (SeqAt.EqAt.int_int k tk m tm prog w _ _ ?_);refine PySem.W.kat_go (fun e=>PySem.W.kat_yes ?_) (fun e=>PySem.W.kat_no ?_)
 ·have e1:(KT.int k).eqb (KT.int m)=true:=by rw [KT.eqb];exact e
  rw [e1,aP rfl] at hp hc;refine Gg (by rw [la,lc]) kx ky hc (by lia) ?_
  rw [hp];exact h
 ·have e1:(KT.int k).eqb (KT.int m)=false:=by rw [KT.eqb];exact e
  rw [e1,aO zW,KT.plt] at hp;refine oneLt_int ?_;rw [hp];exact h
end
def Yt(g:KT->KT)(h:aF):List KT->je->Prop
 | [],[]=>True
 | t :: ts,v :: vs=>Pt g h t v/\Yt g h ts vs
 | _,_=>False
theorem Yt.len{g:KT->KT}{h:aF}:∀{ts:List KT}{vs:je},Yt g h ts vs->ts.length=vs.length
 | [],[],_=>rfl
 | _ :: _,_ :: _,x=>congrArg (· + 1) x.2.len
 | [],_ :: _,x=>x.elim
 | _ :: _,[],x=>x.elim
theorem Yt.get{g:KT->KT}{h:aF}:∀{ts:List KT}{vs:je},Yt g h ts vs->∀ i,i<vs.length->Pt g h (ts.getD i (.int 0)) (vs.getD i Value.none)
 | _ :: _,_ :: _,x,0,_=>x.1
 | _ :: _,_ :: _,x,i+1,hi=>x.2.get i (by simpa using hi)
 | [],[],_,_,hi=>absurd hi (by simp)
 | [],_ :: _,x,_,_=>x.elim
 | _ :: _,[],x,_,_=>x.elim
theorem Yt.firsts{g:KT->KT}(hg:Kg g){h:aF}:∀{ts:List KT}{vs:je},Yt g h ts vs->∃ fs,PySem.W.KatTups h vs fs/\fs.length=vs.length/\∀ v∈fs,∃ k t,v=Value.int k t
 | [],[],_=>⟨[],.nil,rfl,fun v hv=>absurd hv (by simp)⟩
 | t :: ts,v :: vs,x=>by
  obtain ⟨fs,h1,h2,h3⟩:=Yt.firsts hg x.2;obtain ⟨_,sh⟩:=hg.shape;obtain ⟨k,r,ea,_⟩:=sh t;have x1:=x.1;unfold Pt at x1;rw [ea,ZN] at x1;obtain ⟨a,jj,rfl,⟨o,ho,hc,n,hd⟩,kx⟩:=x1;rw [KVals] at kx;obtain ⟨v1,r1,rfl,k1,kx⟩:=kx;rw [ZN] at k1;obtain ⟨tk,rfl⟩:=k1;refine ⟨.int k tk :: fs,.cons ho hc hd rfl h1,by simp [h2],fun v hv=>?_⟩
  rcases zB.mp hv with rfl | hv
  ·exact ⟨k,tk,rfl⟩
  ·exact h3 v hv
 | [],_ :: _,x=>x.elim
 | _ :: _,[],x=>x.elim
section
variable{prog:ao}{w:ay}{A:az}{E:jb}{s:am}{g:KT->KT}
theorem Fa(hg:Kg g){ts:List KT}{ks:je}{Q:PyProof.Rows.SortKind->am->Prop}(hl:0<ks.length)(h:Yt g s.heap ts ks)(hq:Q (tuples' true) s):aD (aC prog w) A (keyKind' ks.toArray) Q E s:=by
 obtain ⟨fs,h1,h2,h3⟩:=h.firsts hg;refine PySem.W.kat_kind (T:=.type "int") h1 (by lia) (fun v hv=>?_) (by decide) hq
 obtain ⟨k,t,rfl⟩:=h3 v hv;exact yM.of_pure rfl
theorem ZP8(hg:Kg g){ts:List KT}{ks vs:je}{Q:SortSt->am->Prop}(hl:ks.length=vs.length)(h2:2<=vs.length)(h64:vs.length<64)(h:Yt g s.heap ts ks)(hu:∀ t∈ts,A.units+(g t).depth<cLine)(hq:∀ (p:Array Nat) (st':SortSt),Srt.PB vs.length p->(∀ i j,i<=j->j<vs.length->(ts.getD (p.getD j 0) (.int 0)).lt (ts.getD (p.getD i 0) (.int 0))=false)->arrOf st'=p.map (PySem.W.kas_item (ks.toArray.zip vs.toArray))->failedOf st'=none->Q st' s):
  aD (aC prog w) A ((sortRuns').run (SortSt.mk' (tuples' true) (ks.toArray.zip vs.toArray) #[] 7 none)) (fun r s'=>Q r.2 s') E s:=by
 have hln:=h.len;refine PySem.W.kat_run (G:=fun p s'=>s'=s/\Srt.PB vs.length p/\∀ i j,i<=j->j<vs.length->(ts.getD (p.getD j 0) (.int 0)).lt (ts.getD (p.getD i 0) (.int 0))=false) hl h2 h64 (fun p st' s' a1 a2 a3 a4=>?_) ?_
 ·obtain ⟨rfl,b1,b2⟩:=a4;exact hq p st' b1 b2 a2 a3
 ·refine Srt.sort_ok (lt:=fun i j=>(ts.getD i (.int 0)).lt (ts.getD j (.int 0))) ⟨fun i j=>PX _ _,fun i j k=>le_trans'⟩ (fun i j hi hj C hC=>?_) (by lia) fun p b1 b2=>⟨rfl,b1,fun i j jz hj=>b2 i j jz hj⟩
  unfold PySem.W.kas_ask;refine ZQg hg (h.get i (by lia)) (h.get j (by lia)) (hu _ ?_) hC
  have hi':i<ts.length:=by lia
  rw [zV,zT hi'];exact xZ _
end
inductive UQ(g:KT->KT)(vs:jf)(H:Hp)(Q:VK)(_:XK):Prop
 | mk (v:V) (t:KT) (_:vs=[v]) (_:ZD H t v) (_:t.fits 3=true) (_:∀(v':V)(H':Hp),ZD H' (g t) v'->ZA H H'->Q v' H')
theorem G0{g:KT->KT}{X:Cx}{pins:List (aj×aJ)}{σ:L2.St}{H:Hp}{s:am}(I:ZH X pins σ H s):∀{ts:List KT}{kvs:jf}{ks:je},KeysAt H (ts.map g) kvs->ZO kvs ks->Yt g s.heap ts ks
 | [],kvs,ks,h,r=>by
  rw [wV,KeysAt] at h;subst h;cases r;trivial
 | t :: ts,kvs,ks,h,r=>by
  rw [zF,KeysAt] at h;obtain ⟨v,kr,rfl,h1,h2⟩:=h
  cases r with
  | cons ra rb=>exact ⟨UU I _ _ _ h1 ra,G0 I h2 rb⟩
section
variable{X:Cx}{pins:List (aj×aJ)}{σ:L2.St}
theorem Io{H:Hp}{s:am}{b:aj}(I:ZH X pins σ H s)(h:s.heap.objs.size<=b):b∉frs X.stack:=fun z=>by
 obtain ⟨_,o,e,_⟩:=I.stack.mem z;exact absurd (zS e) (Nat.not_lt.mpr h)
theorem Gi{g:KT->KT}{IT:Hp->KT->V->Prop}{sp:Sp}{x0:Str}{k:Nat}{f D kS:aj}{fd:aq}{oD:aJ}{H0:Hp}{A:az}{E:jb}{body:ai->PUnit->Sem (ForInStep PUnit)}{all:List KT}(hI:∀ (H H':Hp) (t:KT) (u:V),ZA H H'->IT H t u->IT H' t u)(hS:∀ (H:Hp) (u:V) (t:KT) (Q:VK),ZA H0 H->IT H t u->(∀ (v':V) (H':Hp),ZD H' (g t) v'->ZA H H'->Q v' H')->sp [u] H Q E0)(F:ZJ X.prog X.w X.K X.mg X.base ZW k f fd [x0] sp)(hb:Zt X.K fd [x0] [])(hr:ZX k A)(hA:A.frames=X.A.frames)(nD:D∉frs X.stack)(nS:kS∉frs X.stack)(hDS:D≠kS)(hD0:H0 D=none)(jp:∀ x (s:am) (R:am->Prop),aD (aC X.prog X.w) A (call (.ref f) [x]) (fun kv s'=>∃ (ks:je) (e:Nat),ks.length<64/\s'.heap.get? kS=some (seqObj "list" ks.toArray e)/\R { s' with heap:=s'.heap.update kS (Obj.mapSeq (·.push kv)) }) (fun _ _=>False) s ->
   aD (aC X.prog X.w) A (body x ⟨⟩) (fun r s'=>r=.yield ⟨⟩/\R s') E s):
  ∀(r:je)(rU:jf)(rT dT:List KT)(H:Hp)(s:am)(ks:je)(kvs:jf)(e:Nat),all=dT++rT->all.length<64->ZH X pins σ H s->ZA H0 H->Ws X pins H kS->H D=none->ZO rU r->Paired (IT H) rT rU ->
   s.heap.get? D=some oD->s.heap.get? kS=some (seqObj "list" ks.toArray e)->KeysAt H (dT.map g) kvs->ZO kvs ks ->
   aD (aC X.prog X.w) A (forIn r PUnit.unit body) (fun _ s'=>∃(H':Hp)(ks':je)(kvs':jf)(e':Nat),ZH X pins σ H' s'/\ZA H0 H'/\Ws X pins H' kS/\H' D=none/\s'.heap.get? D=some oD/\s'.heap.get? kS=some (seqObj "list" ks'.toArray e')/\KeysAt H' (all.map g) kvs'/\ZO kvs' ks') E s
 | [],rU,rT,dT,H,s,ks,kvs,e,ha,hl,I,s0,fp,hD,r,hk,oo,os,hks,rk=>by
  cases r;cases hk;rw [yO] at ha;subst ha;rw [List.forIn_nil];exact ad ⟨H,ks,kvs,e,I,s0,fp,hD,oo,os,hks,rk⟩
 | x :: r,rU,rT,dT,H,s,ks,kvs,e,ha,hl,I,s0,fp,hD,rr,hk,oo,os,hks,rk=>by
  cases rr with
  | cons ra rb=>
  rename_i u ur
  cases hk with
  | cons hk1 hk2=>
  rename_i t rT
  rw [tM];have hlen:ks.length=dT.length:=by
   have a:=hks.length;have b:=rk.length;rw [zX] at a
   lia
  have hlall:dT.length+(rT.length+1)<64:=by rw [ha,zU,zI] at hl;lia
  refine aa (Zc (jp x s (fun s'=>∃(H':Hp)(ks':je)(kvs':jf)(e':Nat),ZH X pins σ H' s'/\ZA H0 H'/\ZA H H'/\Ws X pins H' kS/\H' D=none/\s'.heap.get? D=some oD/\s'.heap.get? kS=some (seqObj "list" ks'.toArray e')/\KeysAt H' ((dT++[t]).map g) kvs'/\ZO kvs' ks') ?_) fun q s' hq=>?_)
  ·have env:Wg X.prog X.w X.K X.mg X.base A X.stack s H:=⟨by rw [hA];exact I.ok.frames,I.env0.mod,I.env0.bs,I.env0.bsz,I.env0.funs,I.env0.frf,I.env0.hok,I.env0.bare⟩
   have jE:sp [u] H (fun v' H'=>ZD H' (g t) v'/\ZA H H') E0:=hS H u t _ s0 hk1 fun v' H' a b=>⟨a,b⟩;have r2:ZO [u] [x]:=.cons ra .nil;refine wpAny_call (codeAny_mono (F.run A X.stack s H ⟨[x],[]⟩ [x] [u] _ E0 hr env (hb s [x] I.kIn rfl) r2 jE) fun rr s' hq=>?_)
   cases rr with
   | error ev=>exact hq.elim
   | ok fl=>
    cases fl with
    | next=>exact False.elim hq
    | brk=>exact False.elim hq
    | cont=>exact False.elim hq
    | ret kv=>
     obtain ⟨v',H',os',bare,un,hok,rv,kt,sm⟩:=hq;have J:ZH X pins σ H' s':=I.call' os' un hok bare (fun b hb=>absurd hb (by simp))
     have oo':=un.keep D oD oo hD nD (by simp)
     have oS':=un.keep kS _ os fp.1 nS (by simp)
     have hS':H' kS=none:=un.free kS _ os fp.1 (by simp)
     have hD':H' D=none:=un.free D _ oo hD (by simp)
     refine ⟨ks,e,by lia,oS',?_⟩
     have fp':Ws X pins H' kS:=⟨hS',fp.2⟩;have ea:(yG ks).push kv=yG (ks++[kv]):=by simp
     obtain ⟨c2,hc2⟩:∃ c2,(s'.heap.update kS (Obj.mapSeq (·.push kv))).get? kS=some (seqObj "list" (yG (ks++[kv])) c2):=⟨_,by rw [<-ea];exact get?_update_seq oS' (·.push kv)⟩
     have sb:=yD.update s'.heap kS (Obj.mapSeq (·.push kv));have J2:ZH X pins σ H' { s' with heap:=s'.heap.update kS (Obj.mapSeq (·.push kv)) }:=J.turned (t':=s'.toks) (it:=kS) (fun b o n q=>(sb.2 b n).trans q) fp'.1 fp'.2.1 fp'.2.2.2.1 fp'.2.2.2.2.1 fp'.2.2.2.2.2;refine ⟨H',ks++[kv],kvs++[v'],c2,J2,s0.trans sm,sm,fp',hD',(sb.2 D hDS).trans oo',hc2,?_,rk.append (.cons rv .nil)⟩;rw [yZ];exact (hks.mono (ZA.tups sm) _ _).append (.cons kt .nil)
  ·obtain ⟨rfl,H',ks',kvs',e',J,s0',sm,fp',hD',oo',os',hks',rk'⟩:=hq;show aD (aC X.prog X.w) A (forIn r PUnit.unit body) _ E s';exact Gi hI hS F hb hr hA nD nS hDS hD0 jp r _ rT (dT++[t]) H' s' ks' kvs' e' (by rw [ha];simp) hl J s0' fp' hD' rb (Paired.mapP (G:=IT H') hk2 fun _ _ z=>hI _ _ _ _ sm z) oo' os' hks' rk'
end
section
variable{X:Cx}{pins:List (aj×aJ)}{σ:L2.St}{H:Hp}{s:am}
theorem Er{a:aj}{o:HO}(I:ZH X pins σ H s)(h0:X.s₀.heap.get? a=none)(hl:a≠X.env.locals)(hc:∀ x c,X.env.cells.lookup x=some c->c≠a)(hp:∀ p∈X.pn++pins,p.1≠a)(hn:H a=none)(new:Zf X.prog X.w (upd H a o) s.heap a o):ZH X pins σ (upd H a o) s:=by
 have nt:∀{b:aj}{u:HO},H b=some u->b≠a:=fun{b u} e z=>by rw [z,hn] at e;cases e
 refine ⟨I.ok,I.os,I.bare,⟨I.base.keep,I.base.slot,fun b ob q n hx=>?_,I.base.there,fun b xs q=>?_,fun b ob u q=>?_,fun b ps q=>?_⟩,I.loc,I.cell,?_,fun x c e=>?_,fun p hp'=>?_,fun b u e=>?_,I.len⟩
 ·rw [ZV (fun z=>by rw [z,h0] at q;cases q)];exact I.base.free b ob q n hx
 ·have e:=I.base.tups b xs q;rw [ZV (nt e)];exact e
 ·have e:=I.base.frzs b ob u q;rw [ZV (nt e)];exact e
 ·obtain ⟨more,e⟩:=I.base.tbls b ps q;exact ⟨more,by rw [ZV (nt e)];exact e⟩
 ·rw [ZV (Ne.symm hl)];exact I.free
 ·rw [ZV (hc x c e)];exact I.freeC x c e
 ·obtain ⟨e,n,r⟩:=I.pin p hp';exact ⟨e,by rw [ZV (hp p hp')];exact n,r⟩
 ·by_cases hb:b=a
  ·subst hb;rw [ZP] at e;cases e;exact new
  ·rw [ZV hb] at e;exact (I.hok b u e).stay (fun _ _ _ q=>q) (fun c q=>by rw [ZV (nt q)];exact q) fun c xs q=>by rw [ZV (nt q)];exact q
theorem ZO.getD{us:jf}{jj:je}(r:ZO us jj){i:Nat}(h:i<us.length):ZT (us.getD i .non) (jj.getD i Value.none):=by
 have hl:=r.length;obtain ⟨u,e1,e2⟩:=r.get (i:=i) (x:=us[i]) (by simp [h])
 rw [zV,zV,e1,zT h];exact e2
theorem JJ{us:jf}{jj:je}(r:ZO us jj):∀(l:List Nat),(∀ i∈l,i<us.length)->ZO (l.map fun i=>us.getD i .non) (l.map fun i=>jj.getD i Value.none)
 | [],_=>.nil
 | i :: l,h=>.cons (ZO.getD r (h i zK)) (JJ r l fun j hj=>h j (zH _ hj))
theorem GD{F:KT->V->Prop}{ts:List KT}{us:jf}(hk:Paired F ts us):∀(l:List Nat),(∀ i∈l,i<us.length)->Paired F (l.map fun i=>ts.getD i (.int 0)) (l.map fun i=>us.getD i .non)
 | [],_=>.nil
 | i :: l,h=>by
  have hi:=h i zK;obtain ⟨t,et,kt⟩:=Pj hk (i:=i) (b:=us[i]) (by simp [hi])
  refine .cons (show F (ts.getD i (.int 0)) (us.getD i .non) from ?_) (GD hk l fun j hj=>h j (zH _ hj));rw [zV,zV,et,zT hi];exact kt
theorem range_getD{α:Type}(l:List α)(d:α):(yU l.length).map (fun i=>l.getD i d)=l:=by
 apply tI
 ·simp
 ·intro i h1 h2;simp [h2]
theorem Hl{g:KT->KT}{IT:Hp->KT->V->Prop}{sp:Sp}(hg:Kg g)(dg:∀ t,(g t).depth<=2 * t.depth+2){x0:Str}{k:Nat}{f:aj}{lv:ai}{fd:aq}{us:jf}{ts:List KT}{Q:VK}(hr:ZX (k+2) X.A)(F:ZJ X.prog X.w X.K X.mg X.base ZW k f fd [x0] sp)(hb:Zt X.K fd [x0] [])(I0:ZH X pins σ H s)(hI:∀ (H H':Hp) (t:KT) (u:V),ZA H H'->IT H t u->IT H' t u)(hS:∀ (H':Hp) (u:V) (t:KT) (Q:VK),ZA H H'->IT H' t u->(∀ (v':V) (H2:Hp),ZD H2 (g t) v'->ZA H' H2->Q v' H2)->sp [u] H' Q E0)(hk:Paired (IT H) ts us)(hf:∀ t∈ts,t.fits 3=true)(h64:us.length<64)(hcol:∀ (Q':je->am->Prop),(∀ (s1:am) (jj:je),ZH X pins σ H s1->ZO us jj->Q' jj s1)->aD (aC X.prog X.w) X.A.in1 (collect lv) Q' X.xe s)(q:∀ (D:aj) (ws:jf) (rs:List KT) (H':Hp),ZA H H'->H D=none->H' D=some (.lst ws)->Paired (IT H') rs ws->rs.Perm ts->rs.Pairwise (fun a b=>b.lt a=false)->Q (.ref D) H'):
  aD (aC X.prog X.w) X.A (call (.builtin "sorted") [lv] [(yJ "key",.ref f)]) (EP X pins σ Q) X.xe s:=by
 have hkl:=Paired.length hk;have hr6:ZX k X.A.in1.in1:=(ZX.in1 (k:=k+1) hr).in1;refine call_function_entry_kw kind_sorted plain_sorted entry_sorted (ksk_s1 _ _) ?_;unfold Builtin.«sorted»;refine aa (m:=checkCount "sorted" 1 1 _) (ad ?_);refine aa (hcol _ fun s jj I rv=>?_);have hlen:=rv.length;refine aa (wpAny_newList ?_ (by rw [sizeLine_eq];lia))
 obtain ⟨h1,eh1⟩:∃ h1,s.heap.push (seqObj "list" jj.toArray 0)=h1:=⟨_,rfl⟩;have hoL:h1.get? s.heap.objs.size=some (seqObj "list" jj.toArray 0):=by rw [<-eh1];exact yS _ rfl
 have keep:∀ b o,s.heap.get? b=some o->h1.get? b=some o:=fun b o z=>by rw [<-eh1];exact zR _ z
 have hs1:h1.objs.size=s.heap.objs.size+1:=by rw [<-eh1,size_push']
 obtain ⟨D,eD⟩:∃ D,s.heap.objs.size=D:=⟨_,rfl⟩;rw [eD] at hoL;have hDs:s.heap.objs.size<=D:=by lia
 have hHD:H D=none:=I.hok.fresh hDs;have fD:Ws X pins H D:=I.fpOk hDs hHD;have nD:D∉frs X.stack:=Io I hDs;have h0D:X.s₀.heap.get? D=none:=vB (yK I.sz hDs);have I1:ZH X pins σ H { s with heap:=h1 }:=I.kept (t':=s.toks) keep;show aD _ _ _ _ _ { s with heap:=s.heap.push (seqObj "list" jj.toArray 0) };rw [eh1,eD];refine aa (af (wpAny_call_entry_kw slot_list_sort ⟨_,hoL,rfl⟩ entry_list_sort ?body (ksk_l1 _ _)));rw [ksk_t1];unfold ksk_tree;refine aa (listItems_at hoL rfl ?_);refine aa (listUpdate_at hoL rfl ?_ (by rw [zO,sizeLine_eq];lia) (zG _))
 have sb1:=yD.update h1 D (Obj.mapSeq fun _=>(#[]:Array ai));obtain ⟨e1,ho1⟩:∃ e1,(h1.update D (Obj.mapSeq fun _=>(#[]:Array ai))).get? D=some (seqObj "list" #[] e1):=⟨_,get?_update_seq hoL fun _=>#[]⟩;obtain ⟨h2,eh2⟩:∃ h2,h1.update D (Obj.mapSeq fun _=>(#[]:Array ai))=h2:=⟨_,rfl⟩;rw [eh2] at ho1 sb1;show aD _ _ _ _ _ { s with heap:=h1.update D (Obj.mapSeq fun _=>(#[]:Array ai)) };rw [eh2];have I2:ZH X pins σ H { s with heap:=h2 }:=ZH.turned (s:={ s with heap:=h1 }) (t':=s.toks) (it:=D) I1 (fun b o n z=>(sb1.2 b n).trans z) fD.1 fD.2.1 fD.2.2.2.1 fD.2.2.2.2.1 fD.2.2.2.2.2;refine aa (seqEpoch_at ho1 rfl ?_);refine aa (wpAny_newTuple ?_ (by show jj.length<=_;rw [sizeLine_eq];lia))
 refine aa (wpAny_newList ?_ (zG _));refine af ?_;have hs2:h2.objs.size=s.heap.objs.size+1:=by rw [<-eh2,Heap.size_update,hs1]
 obtain ⟨h3,eh3⟩:∃ h3,(h2.push (seqObj "tuple" jj.toArray 0)).push (seqObj "list" #[] 0)=h3:=⟨_,rfl⟩;have ekS:(h2.push (seqObj "tuple" jj.toArray 0)).objs.size=s.heap.objs.size+2:=by rw [size_push',hs2]
 have keep3:∀ b o,h2.get? b=some o->h3.get? b=some o:=fun b o z=>by rw [<-eh3];exact zR _ (zR _ z)
 have hoS:h3.get? (s.heap.objs.size+2)=some (seqObj "list" (yG []) 0):=by rw [<-eh3,<-ekS];exact yS _ rfl
 obtain ⟨kS,ekS2⟩:∃ kS,s.heap.objs.size+2=kS:=⟨_,rfl⟩;rw [ekS2] at hoS ekS;have hSs:s.heap.objs.size<=kS:=by lia
 have hDk0:D≠kS:=by lia
 have hHS:H kS=none:=I.hok.fresh hSs;have fS:Ws X pins H kS:=I.fpOk hSs hHS;have nS:kS∉frs X.stack:=Io I hSs;have I3:ZH X pins σ H { s with heap:=h3 }:=I2.kept (t':=s.toks) keep3;show aD _ _ (ksk_rest D (.ref f) false jj.toArray e1 (.ref (h2.push (seqObj "tuple" jj.toArray 0)).objs.size)) _ _ { s with heap:=(h2.push (seqObj "tuple" jj.toArray 0)).push (seqObj "list" #[] 0) };rw [eh3,ekS];have fin:∀(H':Hp)(s':am)(ks:je)(kvs:jf)(e:Nat),ZH X pins σ H' s'->ZA H H'->Ws X pins H' kS->H' D=none->s'.heap.get? D=some (seqObj "list" #[] e1)->s'.heap.get? kS=some (seqObj "list" ks.toArray e)->KeysAt H' (ts.map g) kvs->ZO kvs ks ->
   aD (aC X.prog X.w) X.A.in1.in1 (ksk_end D false jj.toArray e1 (.ref kS) ks.toArray) (fun fin s'=>∃ v,fin=.done (.ret v)/\aD (aC X.prog X.w) X.A.in1 (ret (.ref D)) (fun fin s'=>∃ v,fin=.done (.ret v)/\EP X pins σ Q v s') X.xe s') X.xe s':=by
  intro H' s' ks kvs e J sm fp hD' oo os hks rk;have hkl2:ks.length=jj.length:=by
   have a:=hks.length;have b:=rk.length;rw [zX] at a
   lia
  have sv:Yt g s'.heap ts ks:=G0 J hks rk;have tail:∀(st:SortSt)(p:Array Nat),Srt.PB jj.length p->(∀ i j,i<=j->j<jj.length->(ts.getD (p.getD j 0) (.int 0)).lt (ts.getD (p.getD i 0) (.int 0))=false)->(arrOf st).map (·.2)=yG (p.toList.map fun i=>jj.getD i Value.none)->failedOf st=none ->
    aD (aC X.prog X.w) X.A.in1.in1 (ksk_tail D false e1 (.ref kS) st) (fun fin s'=>∃ v,fin=.done (.ret v)/\aD (aC X.prog X.w) X.A.in1 (ret (.ref D)) (fun fin s'=>∃ v,fin=.done (.ret v)/\EP X pins σ Q v s') X.xe s') X.xe s':=by
   intro st p hp hs hout hfail;have hps:=hp.size;have hmem:∀ i∈p.toList,i<us.length:=fun i hi=>by
    have:i∈(yG (yU jj.length)):=hp.mem_iff.mp (rV.mp hi);have:=(yA.mp (by simpa using this):i<jj.length)
    lia
   have jv:p.toList.length=jj.length:=by rw [vC,hps]
   have s1:=yD.update s'.heap kS (Obj.mapSeq fun _=>(#[]:Array ai));have hDk:D≠kS:=by lia
   have oD1:=(s1.2 D hDk).trans oo;have s2:=yD.update (s'.heap.update kS (Obj.mapSeq fun _=>(#[]:Array ai))) D (Obj.mapSeq fun _=>yG (p.toList.map fun i=>jj.getD i Value.none));obtain ⟨c2,hc2⟩:∃ c2,((s'.heap.update kS (Obj.mapSeq fun _=>(#[]:Array ai))).update D (Obj.mapSeq fun _=>yG (p.toList.map fun i=>jj.getD i Value.none))).get? D=some (seqObj "list" (yG (p.toList.map fun i=>jj.getD i Value.none)) c2):=⟨_,get?_update_seq oD1 fun _=>yG (p.toList.map fun i=>jj.getD i Value.none)⟩;unfold ksk_tail;dsimp only;rw [hout,aO zW];refine aa (listUpdate_at os rfl ?_ (by rw [zO,sizeLine_eq];lia) (zG _))
   refine aa (wpAny_letGo ?_);refine aa (seqEpoch_at oD1 rfl ?_);refine aa (listUpdate_at oD1 rfl ?_ (zG _) (by rw [zO,zX,jv,sizeLine_eq];lia))
   rw [hfail];simp only [bne_self_eq_false,xX,if_false];have J1:ZH X pins σ H' { s' with heap:=s'.heap.update kS (Obj.mapSeq fun _=>(#[]:Array ai)) }:=J.turned (t':=s'.toks) (it:=kS) (fun b o n z=>(s1.2 b n).trans z) fp.1 fp.2.1 fp.2.2.2.1 fp.2.2.2.2.1 fp.2.2.2.2.2;have J2:ZH X pins σ H' { s' with heap:=(s'.heap.update kS (Obj.mapSeq fun _=>(#[]:Array ai))).update D (Obj.mapSeq fun _=>yG (p.toList.map fun i=>jj.getD i Value.none)) }:=ZH.turned (s:={ s' with heap:=s'.heap.update kS (Obj.mapSeq fun _=>(#[]:Array ai)) }) (t':=s'.toks) (it:=D) J1 (fun b o n z=>(s2.2 b n).trans z) hD' fD.2.1 fD.2.2.2.1 fD.2.2.2.2.1 fD.2.2.2.2.2;have J3:=Er (a:=D) (o:=.lst (p.toList.map fun i=>us.getD i .non)) J2 h0D fD.2.1 fD.2.2.2.2.1 fD.2.2.2.2.2 hD' ⟨by rw [zX,jv,sizeLine_eq];lia,_,c2,JJ rv _ hmem,hc2⟩
   have g:=ZY hD' (.lst (p.toList.map fun i=>us.getD i .non));refine ad ⟨.none,rfl,ad ⟨_,rfl,.ref D,_,J3,rfl,q D _ (p.toList.map fun i=>ts.getD i (.int 0)) _ (sm.trans g) hHD ZP (GD (Paired.mapP (G:=IT _) hk fun _ _ z=>hI _ _ _ _ (sm.trans g) z) _ hmem) ?_ ?_⟩⟩
   ·have hpp:p.toList.Perm (yU jj.length):=by simpa using Array.perm_iff_toList_perm.mp hp
    have:=hpp.map (fun i=>ts.getD i (KT.int 0));rw [show jj.length=ts.length by lia,range_getD] at this
    exact this
   ·rw [qY];intro i j hi hj jz;rw [zX,jv] at hi hj;simp only [tH];have:=hs i j (xY jz) hj;have e (x:Nat) (hx:x<jj.length):p.getD x 0=p.toList[x]'(by lia):=by simp [Array.getD,hps,hx]
    rw [e i hi,e j hj] at this;exact this
  unfold ksk_end;dsimp only;rw [aO zW,aO zW];by_cases h2:jj.length<2
  ·rw [aP (by rw [zO];exact h2),aP (by rw [zO];exact h2)]
   refine aa (ad (aa (ad ?_)));refine tail _ (yG (yU jj.length)) (Array.Perm.refl _) (fun i j jz hj=>?_) ?_ rfl
   ·have:i=j:=by lia
    rw [this];exact QH _
   ·show ((ks.toArray.zip jj.toArray).map (·.2))=_;apply Array.toList_inj.mp;rw [Array.toList_map,ksk_zip];simp only [List.toList_toArray];rw [range_getD,List.map_snd_zip (by lia)]
  ·rw [aO (by rw [zO];exact h2),aO (by rw [zO];exact h2)]
   refine aa (Fa hg (by lia) sv ?_)
   refine aa (Zc (ZP8 hg (Q:=fun st' s''=>s''=s'/\∃ p:Array Nat,Srt.PB jj.length p/\(∀ i j,i<=j->j<jj.length->(ts.getD (p.getD j 0) (.int 0)).lt (ts.getD (p.getD i 0) (.int 0))=false)/\arrOf st'=p.map (PySem.W.kas_item (ks.toArray.zip jj.toArray))/\failedOf st'=none)
    hkl2 (by lia) (by lia) sv (fun t ht=>?_) fun p st' b1 b2 b3 b4=>⟨rfl,p,b1,b2,b3,b4⟩) fun r s'' hr'=>?_)
   ·have a:=hr6.un;have d1:=dg t;have d2:=Va t 3 (hf t ht)
    lia
   ·obtain ⟨⟨⟩,st'⟩:=r;obtain ⟨rfl,p,b1,b2,b3,b4⟩:=hr';exact tail st' p b1 b2 (PySem.W.kat_snds hkl2 b3) b4
 unfold ksk_rest;refine aa (wpAny_rule ?_)
 first
  | rw [List.forIn_toArray]
  | (rw [<-sW];simp only [List.toList_toArray])
 refine aa (Zc (Gi (all:=ts) (H0:=H) (D:=D) (kS:=kS) hI hS F hb hr6 rfl nD nS hDk0 hHD (fun x s4 R hx=>?_) jj us ts [] H { s with heap:=h3 } [] [] 0 rfl (by lia) I3 (ZA.refl H) fS hHD rv hk (keep3 _ _ ho1) hoS .nil .nil) fun _ s4 h4=>?_)
 ·refine aa (wpAny_attempt (ae hx (fun kv s5 h5=>?_) fun _ _ z=>z.elim));obtain ⟨ks,e,l64,o5,R5⟩:=h5
  try dsimp only
  refine aa (listUpdate_at o5 rfl ?_ (by rw [zO,sizeLine_eq];lia) (yK (uQ (Array.size_push ..)) (by rw [zO,sizeLine_eq];lia)))
  exact ad ⟨rfl,R5⟩
 ·obtain ⟨H',ks,kvs,e,J,sm,fp,hD',oo,os,hks,rk⟩:=h4
  try dsimp only
  exact aa (listItems_at os rfl (fin H' s4 ks kvs e J sm fp hD' oo os hks rk))
theorem G9{H:Hp}:∀{ts:List KT}{us:jf},KeysAt H ts us->(∀ t∈ts,t.fits 3=true)->Paired (fun t u=>ZD H t u/\t.fits 3=true) ts us
 | [],us,h,_=>by rw [KeysAt] at h;subst h;exact .nil
 | t :: ts,us,h,hf=>by
  rw [KeysAt] at h;obtain ⟨v,r,rfl,h1,h2⟩:=h;exact .cons ⟨h1,hf t zK⟩ (G9 h2 fun t ht=>hf t (zH _ ht))
theorem GU{H:Hp}{G:KT->Prop}:∀{ts:List KT}{us:jf},Paired (fun t u=>ZD H t u/\G t) ts us->KeysAt H ts us
 | _,_,.nil=>.nil
 | _,_,.cons h r=>.cons h.1 (GU r)
theorem EV{g:KT->KT}(hg:Kg g)(dg:∀ t,(g t).depth<=2 * t.depth+2){x0:Str}{k:Nat}{f:aj}{lv:ai}{fd:aq}{us:jf}{ts:List KT}{Q:VK}(hr:ZX (k+2) X.A)(F:ZJ X.prog X.w X.K X.mg X.base ZW k f fd [x0] (UQ g))(hb:Zt X.K fd [x0] [])(I0:ZH X pins σ H s)(hk:KeysAt H ts us)(hf:∀ t∈ts,t.fits 3=true)(h64:us.length<64)(hcol:∀ (Q':je->am->Prop),(∀ (s1:am) (jj:je),ZH X pins σ H s1->ZO us jj->Q' jj s1)->aD (aC X.prog X.w) X.A.in1 (collect lv) Q' X.xe s)(q:∀ (D:aj) (ws:jf) (rs:List KT) (H':Hp),ZA H H'->H D=none->H' D=some (.lst ws)->KeysAt H' rs ws->rs.Perm ts->rs.Pairwise (fun a b=>b.lt a=false)->Q (.ref D) H'):
  aD (aC X.prog X.w) X.A (call (.builtin "sorted") [lv] [(yJ "key",.ref f)]) (EP X pins σ Q) X.xe s:=
 Hl (IT:=fun H t u=>ZD H t u/\t.fits 3=true) hg dg hr F hb I0 (fun _ _ _ _ sm h=>⟨h.1.mono (ZA.tups sm) _ _,h.2⟩) (fun H' u t Q _ h k=>⟨u,t,rfl,h.1,h.2,k⟩) (G9 hk hf) hf h64 hcol fun D ws rs H' s' nD hD hp pm up=>q D ws rs H' s' nD hD (GU hp) pm up
end
end Tw
namespace L2
open PySem PySem.Spec PyProof.Rows
section
variable{prog:ao}{w:ay}{A:az}{E:jb}{s:am}{T:String}{r d:aj}{n:Nat}{P:Nat->ai->Prop}{OK:aF->Prop}
theorem AI{R:Result->am->Prop}(K:rZ prog w T r d n P OK)(hh:A.handled=none)(hok:OK s.heap)(S:aj)(hSr:S≠r)(hSd:S≠d)(c₀:Nat)(hS:s.heap.get? S=some { cls:=.type "list",data:=.seq #[] c₀ })(hR:∀ h' tk acc' c',(∀ b o,b≠S->s.heap.get? b=some o->h'.get? b=some o)->h'.get? S=some { cls:=.type "list",dict:=none,data:=.seq acc' c',slots:=#[] }->ItemsOf P acc' n->R (.ok (.ret (.ref S))) { s with heap:=h',toks:=tk })(hn:n<=aw):
  codeAny (aC prog w) A (.builtin "list.__iadd__" ⟨[.ref S,.ref r],[]⟩) R s:=by
 refine codeAny_builtin PySem.F.entry_list_iadd ?_;rw [Around.under_plainId qV _];exact PySem.W.kdl_extend (R:=R) K hh hok S hSr hSd (.ref S) c₀ hS hR hn
theorem ZGJ{Q:je->am->Prop}(K:rZ prog w T r d n P OK)(hh:A.handled=none)(hok:OK s.heap)(hn:n<=aw)(hQ:∀ h' tk acc,(∀ b o,s.heap.get? b=some o->h'.get? b=some o)->s.heap.objs.size<h'.objs.size->ItemsOf P acc n->Q acc.toList { s with heap:=h',toks:=tk }):aD (aC prog w) A (collect (.ref r)) Q E s:=by
 have hlt:=K.there _ hok;unfold collect;refine aa (wpAny_runValue (codeAny_builtin PySem.F.entry_proto_collect ?_));rw [Around.under_plainId PySem.F.plain_proto_collect _];show aD _ A.in1 (newList [] >>= fun l=>again (.builtin "list.__iadd__" ⟨[l,.ref r],[]⟩)) _ _ s;refine aa (wpAny_newObj_type ?_);have hS:(s.heap.push { cls:=.type "list",data:=.seq ([]:je).toArray }).get? s.heap.objs.size=some { cls:=.type "list",data:=.seq #[] 0 }:=yS _ rfl;refine ad ⟨plainId_quiet qV _,AI (s:={ s with heap:=s.heap.push { cls:=.type "list",data:=.seq ([]:je).toArray } }) K hh (K.keep _ _ hok fun b _ o e=>zR _ e) s.heap.objs.size (uP hlt.1) (uP hlt.2) _ hS (fun h' tk acc' c' hk hS' hacc=>?_) hn⟩;show aD _ A (load s.heap.objs.size >>= _) _ _ _;refine aa (wpAny_load hS' ?_);exact ad (hQ h' tk acc' (fun b o e=>hk b o (yY (zS e)) (zR _ e)) (zS hS') hacc)
end
section
variable{X:Cx}
theorem ZI0:∀{kvs:List (Zd×V)}{vs:List (Zd×ai)}{ns:List Int},KV kvs vs->kvs.map (·.1)=ns.map Sum.inl->∀ acc:je,acc.length=vs.length->(∀(i:Nat)(v:ai),acc[i]? = some v->∃(k:Zd)(x:ai),vs[i]? = some (k,x)/\Q3 k v=true)->IntsAre acc ns:=by
 intro kvs vs ns h e acc hl hv;have ek:=KV.keys h;rw [e] at ek;clear e h
 induction vs generalizing ns acc with
 | nil=>
  cases acc with
  | nil=>
   cases ns with
   | nil=>exact .nil
   | cons _ _=>simp at ek
  | cons _ _=>simp at hl
 | cons q r ih=>
  cases acc with
  | nil=>simp at hl
  | cons a acc=>
   cases ns with
   | nil=>simp at ek
   | cons n ns=>
    simp only [zF,List.cons.injEq] at ek;obtain ⟨k,x,e1,e2⟩:=hv 0 a rfl;simp only [List.getElem?_cons_zero,zD.injEq] at e1;subst e1;have ek1:Sum.inl n=k:=ek.1;subst ek1;obtain ⟨i,t,z1,z2⟩ | ⟨i,t,z1,z2⟩:=QC e2
    ·cases z1;subst z2;exact .cons _ _ (ih acc (by simpa using hl) (fun i v hi=>by simpa using hv (i+1) v (by simpa using hi)) ek.2)
    ·cases z1
theorem F8:∀{vs:je}{ns:List Int},IntsAre vs ns->ZO (ns.map V.int) vs:=fun h=>NN h
end
end L2
namespace Tw
open PySem PySem.Spec L2 PyProof.Rows
def Wq(d:aj)(es:Array DictEntry)(ep:Nat)(h:aF):Prop:=∃ o,h.get? d=some o/\o.ExactDict/\o.data=.dict es ep
section
variable{prog:ao}{w:ay}{A:az}{E:jb}{s:am}{d:aj}{es:Array DictEntry}{ep:Nat}
theorem Wq.type(x:Wq d es ep s.heap):s.TypeIs (.ref d) "dict" :=let ⟨o,g,hx,_⟩:=x;⟨o,g,hx.1⟩
theorem Wq.at{h h':aF}(x:Wq d es ep h)(k:∀ o,h.get? d=some o->h'.get? d=some o):Wq d es ep h':=let ⟨o,g,r⟩:=x;⟨o,k o g,r⟩
theorem Ev{Q:jb}(hd:(d==sysModules)=false)(x:Wq d es ep s.heap)(hQ:Q (.ref s.heap.objs.size) { s with heap:=s.heap.push { cls:=.type "dict_keyiterator",data:=.fields #[.ref d,.int 0 0,.int es.size 0,.int ep 0] } }):
  aD (aC prog w) A (pyIter (.ref d)) Q E s:=by
 have hT:=x.type;obtain ⟨o,ho,hx,hdat⟩:=x;refine wpAny_pyIter_slot hT qW (wpAny_call_entry qW hT PySem.F.entry_dict_iter ?_ (PySem.F.args_dict_iter_1 _));unfold Builtin.«dict.__iter__»;refine aa ?_;unfold Builtin.Dict.dictSlotNone;refine aa (wpAny_notOrdered_dict hT (ad ?_));show aD _ _ (Builtin.Dict.showsAll d >>= _) _ _ s;unfold Builtin.Dict.showsAll;rw [aO (by rw [hd];exact zW)]
 refine aa (ad (aa (wpAny_dictEntries ho hdat (aa (wpAny_dictEpoch ho hdat ?_)))));exact aa (wpAny_newObj_type (ad ⟨_,rfl,"dict_keyiterator",_,⟨_,yS _ rfl,rfl⟩,rW.lookup,hQ⟩))
theorem HW{it:aj}{i:Nat}{Q:jd->am->Prop}(hh:A.handled=none)(hit:s.heap.IsKeyIter it d i es.size ep)(x:Wq d es ep s.heap)(hQ:∀ e h',es[i]? = some e->h'.IsKeyIter it d (i+1) es.size ep->yD it s.heap h'->Q (some e.key) { s with heap:=h' })(hN:∀ h',es[i]? = none->Heap.ExtBut it s.heap h'->Q none { s with heap:=h' }):aD (aC prog w) A (pyNext (.ref it)) Q E s:=by
 obtain ⟨o,ho,hc,hd⟩:=id hit;obtain ⟨od,hod,hxd,hdd⟩:=x;unfold pyNext;refine aa (wpAny_attempt (wpAny_callSpecial?_slot (name:=yJ "__next__") hit.typeIs rW (wpAny_call_entry rW hit.typeIs PySem.F.entry_dict_keyiterator_next ?_ (PySem.F.args_dict_keyiterator_next_1 _))));refine aa (ad (aa (aa ?_)))
 first | refine aa (wpAny_typeNameOfWhole_keyiter hit.typeIs (ad ?_)) | refine aa (wpAny_typeNameOf_keyiter hit.typeIs (ad ?_))
 refine aa (wpAny_fieldsOf ho hd ?_);have hown:Builtin.Dict_items.ownsTuple "dict_keyiterator" = false:=by decide
 simp only [hown,xX,if_false];show aD _ _ (if (Value.ref d==Value.none)=true then _ else _) _ _ s
 rw [aO (show ¬ ((Value.ref d==Value.none)=true) from zW)];refine aa (ad (aa (wpAny_dictEntries hod hdd ?_)));rw [aO (by simp)]
 refine aa (ad (aa (wpAny_dictEpoch hod hdd ?_)));rw [aO (by simp)]
 refine ad ?_;simp only [show ¬ ((i:Int)<0) from by lia,if_false,vW]
 cases he:es[i]? with
 | some e=>
  refine aa ?_
  first | refine aa (wpAny_typeNameOfWhole_keyiter hit.typeIs (ad ?_)) | refine aa (wpAny_typeNameOf_keyiter hit.typeIs (ad ?_))
  refine aa (wpAny_isOneOf_keyiter hit.typeIs ?_);show aD _ _ (setField (.ref it) 1 (rawInt ((i:Int)+1)) >>= _) _ _ s;refine aa (wpAny_setField ho hd (by simp) ?_)
  have hit':(s.heap.update it (Obj.mapFields (·.setIfInBounds 1 (rawInt ((i:Int)+1))))).IsKeyIter it d (i+1) es.size ep:=
   ⟨_,wF _ ho (Obj.isFreed_of_fields (Obj.data_mapFields hd _)),(Obj.cls_mapFields ..).trans hc,by rw [Obj.data_mapFields hd];simp [rawInt]⟩
  refine aa (af (aa (wpAny_isOneOf_keyiter (s:={ s with heap:=s.heap.update it (Obj.mapFields (·.setIfInBounds 1 (rawInt ((i:Int)+1)))) }) hit'.typeIs ?_)));show aD _ _ (pure e.key) _ _ _;exact ad (ad ⟨_,rfl,ad (hQ e _ he hit' (yD.update ..))⟩)
 | none=>
  refine aa ?_
  first | refine aa (wpAny_typeNameOfWhole_keyiter hit.typeIs (ad ?_)) | refine aa (wpAny_typeNameOf_keyiter hit.typeIs (ad ?_))
  show aD _ _ (setField (.ref it) 0 .none >>= _) _ _ s;refine aa (wpAny_setField ho hd (by simp) ?_)
  show aD _ _ (newExc (.type "StopIteration") [] >>= _) _ _ _;refine aa ?_;simp only [newExc,newTuple];refine aa (wpAny_newObj_type ?_ (by size_fits))
  refine aa (m:=firstArgMember _ _) (wpAny_of_eq (a:=Value.none) (by first | rfl | (simp only [firstArgMember];rfl)) (wpAny_newObj_type ?_ (by size_fits)))
  simp only [raiseNew];refine aa (wpAny_handled ?_);rw [show A.in1.handled=none from hh];refine aa (ad (wpAny_throw ?_));refine aa (wpAny_isInstance (T:= "StopIteration") (b:=true) ⟨_,yS _ rfl,rfl⟩ isSubtype_stop ?_);exact ad (hN _ he (((yD.update ..).extBut.push _).push _))
theorem AG(hh:A.handled=none)(I:aj)(jt:d≠I):Walks prog w A I [I,d] [I] es.size (fun i v=>(es[i]?).map (·.key)=some v) (fun i h=>h.IsKeyIter I d i es.size ep/\Wq d es ep h) where
 sub:=fun b hb=>by simp at hb;simp [hb]
 frame:=fun _ _ _ st hk=>⟨st.1.at fun o e=>hk I (by simp) o e,st.2.at fun o e=>hk d (by simp) o e⟩
 item:=fun i s Q E hi st hQ=>by
  refine HW hh st.1 st.2 (fun e h' he hit' sb=>?_) (fun h' he=>by rw [xM hi] at he;cases he)
  exact hQ e.key h' s.toks (by rw [he];rfl) ⟨hit',st.2.at fun o z=>(sb.2 d jt).trans z⟩ fun b o hb e=>(sb.2 b (fun h=>hb (by simp [h]))).trans e
 done:=fun s Q E st hQ=>by
  refine HW hh st.1 st.2 (fun e h' he=>by rw [Array.getElem?_eq_none (zY _)] at he;cases he) (fun h' _ ex=>?_)
  exact hQ h' s.toks fun b o hb e=>ex b o (fun h=>hb (by simp [h])) e
 self:=fun _ _ _ _ st hQ=>wpAny_pyIter_keyiter st.1 hQ
theorem Ao(lo:(d==sysModules)=false):rZ prog w "dict" d d es.size (fun i v=>(es[i]?).map (·.key)=some v) (Wq d es ep) where
 type:=fun _ x=>x.type
 there:=fun _ x=>by obtain ⟨o,g,_⟩:=x;exact ⟨zS g,zS g⟩
 keep:=fun _ _ x hk=>x.at fun o e=>hk d (.inl rfl) o e
 notList:=by decide
 notTuple:=by decide
 hint:=fun _ _ _ _ x hq=>PySem.W.kdl_hint_dict x.type hq
 iter:=fun _ s hh x=>⟨_,_,(fun _ _ hq=>Ev lo x hq),AG hh _ (by obtain ⟨o,g,_⟩:=x;exact yY (zS g)),⟨⟨_,yS _ rfl,rfl,rfl⟩,x.at fun o e=>zR _ e⟩⟩
end
section
variable{X:Cx}{pins:List (aj×aJ)}{σ:L2.St}{H:Hp}{s:am}{A:az}{E:jb}
theorem EY{w:ay}{xs:List (KT×V×V)}{es:Array DictEntry}{acc:Array ai}(r:Paired (P0 w) xs es.toList)(h:ItemsOf (fun i v=>(es[i]?).map (·.key)=some v) acc es.size):ZO (xs.map (·.2.1)) acc.toList:=by
 have ln:=Paired.length r;have l2:acc.toList.length=es.size:=by have:=h.1;simpa using this
 refine MT (by rw [zX,l2,ln];simp) fun i a b ha hb=>?_
 rw [zL] at ha;obtain ⟨z,ez,rfl⟩:=xN.mp ha;rw [wW] at hb;have:=h.2 i b hb;obtain ⟨e,ee,rfl⟩:=xN.mp this;obtain ⟨z',e1,e2⟩:=Pj r (by rw [wW];exact ee)
 rw [ez] at e1;cases e1;exact e2.2.1
theorem An{d:aj}{xs:List (KT×V×V)}{Q:je->am->Prop}(hh:A.handled=none)(I:ZH X pins σ H s)(x:YM X.w H d xs)(hQ:∀ (s1:am) (jj:je),ZH X pins σ H s1->ZO (xs.map (·.2.1)) jj->Q jj s1):aD (aC X.prog X.w) A (collect (.ref d)) Q E s:=by
 obtain ⟨es,hH,rel⟩:=x.ex;obtain ⟨⟨hsys,hsz,o,ep,ho,hx,hd⟩,_⟩:=I.hok d _ hH;refine ZGJ (Ao (ep:=ep) hsys) hh ⟨o,ho,hx,hd⟩ hsz fun h' tk acc k1 _ hacc=>?_;exact hQ _ acc.toList (I.kept (t':=tk) k1) (EY rel hacc)
end
section
variable{X:Cx}
theorem JV:aA "sorted" = some (.builtin "sorted"):=by decide +kernel
def Db:TE:=fun _ H Q=>∀(p:aj)(H':Hp),H p=none->ZE p H H'->ZA H H'->YM X.w H' p []->Q (.ref p) H'
theorem HV{pos:Pos}:PE X (.Dict [] [] pos) (Db (X:=X)):=fun pins s σ H Q I h=>by
 have hn:=I.hok.fresh (zY s.heap.objs.size);refine wpAny_Dict_empty ⟨.ref s.heap.objs.size,_,I.laid (a:=s.heap.objs.size) (o:=Ps s.heap.objs.size #[]) (t':=s.toks) (fun _ _ q=>zR _ q) (zY _) (GL (beq_eq_false_iff_ne.mpr (Ne.symm (yY I.big))) (zG _) ⟨_,0,yS _ rfl,⟨rfl,rfl,rfl⟩,rfl⟩),rfl,?_⟩;exact h _ _ hn (fun b o e n=>by rw [ZV n];exact e) (ZY hn _) ⟨⟨#[],ZP,.nil⟩,fun z hz=>by simp at hz,.nil⟩
def ET(w:ay)(td ty tv:TE):TS:=fun D σ H=>tv σ H fun v H1=>td σ H1 fun x H2=>ty σ H2 fun y H3=>∃(a:aj)(xs:List (KT×V×V))(t:KT),x=.ref a/\YM w H3 a xs/\xs.length<1000/\ZD H3 t y/\t.depth<=3/\∀ H4,ZE a H3 H4->YM w H4 a (UZ xs t y v)->D.nx σ H4
theorem Ky{o i value:Expr}{pos pos':Pos}{td ty tv:TE}(hu:X.A.units+4<cLine)(ho:PE X o td)(hi:PE X i ty)(hv:PE X value tv)(hs:swapsWith value (some (.Subscript o i pos')) pos.line X.env=pure false):
  PS X (.Assign [.Subscript o i pos'] value pos) (ET X.w td ty tv):=by
 intro pins s σ H D I h;refine wpAny_Assign_Subscript (Zc (hv pins s σ H _ I h) fun r s1 ⟨v,H1,I1,rv,q1⟩=>Zc (ho pins s1 σ H1 _ I1 q1) fun u s2 ⟨x,H2,I2,rx,q2⟩=>Zc (hi pins s2 σ H2 _ I2 q2) fun iv s3 ⟨y,H3,I3,ry,a,xs,t,ex,dk,lx,ky,dt,q3⟩=>?_) hs;subst ex;obtain rfl:u=Value.ref a:=rx;exact ZQF hu I3 dk lx ky dt ry rv fun s4 H4 I4 sx dk4=>⟨σ,H4,I4,q3 H4 sx dk4⟩
def A9(ts:List KT)(H1:Hp)(Q:VK):Prop:=∀(D:aj)(ws:jf)(rs:List KT)(H':Hp),ZA H1 H'->H1 D=none->H' D=some (.lst ws)->KeysAt H' rs ws->rs.Perm ts->rs.Pairwise (fun a b=>b.lt a=false)->Q (.ref D) H'
def ZOx(w:ay)(t:TA):TE:=fun σ H Q=>t σ H fun vs H1=>∃(d:aj)(xs:List (KT×V×V)),vs=[.ref d]/\YM w H1 d xs/\(∀ x∈xs,x.1.fits 3=true)/\xs.length<64/\A9 (xs.map (·.1)) H1 Q
theorem JT{g:KT->KT}(hg:Kg g)(dg:∀ t,(g t).depth<=2 * t.depth+2){k:Nat}{p pos kp p2:Pos}{e:Expr}{x x0:Str}{t:TA}(DS:ZB X.prog X.w X.K X.mg X.base k x [x0] (UQ g))(hr:ZX (k+2) X.A)(hgl:Gl X "sorted")(hm:X.mg "sorted" = none)(hgx:Gl X x)(ha:PA X [e] t)(hdx:(x==("__debug__" : Str))=false:=by decide)(he:aH pos (ax [e] X.env)=(false,aI e X.env) :: aH pos (ax [] X.env):=by rfl)(jF:(aH pos (ax [e] X.env)).any (·.1)=false:=by rfl):
  PE X (.Call (.Name "sorted" p) [e] [⟨some (yJ "key"),.Name x p2,kp⟩] pos) (ZOx X.w t):=by
 intro pins s σ H Q I h;obtain ⟨f,fd,F,b,kp',m⟩:=DS.ex;refine ag (PN I hgl hm JV (callWith_kw (Zc (ha pos pins s σ H _ I h) fun us s1 ⟨vs,H1,I1,r,d,xs,e1,dk,hf,h64,q⟩=>?_) he jF));have pk:PK X [⟨some (yJ "key"),.Name x p2,kp⟩] (Y0 (tC (.ref f)) V4):=Ja (WN (v:=.ref f) (pos:=p2) hgx m rfl hdx) Gp;refine Zc (pk pos pins s1 σ H1 (fun zs H2=>zs=[.ref f]/\H2=H1) I1 ⟨rfl,rfl⟩) fun zs s2 ⟨zv,H2,I2,rz,ez,eH⟩=>?_;subst e1 ez eH;obtain ⟨u,rfl,ru⟩:=Vk r;obtain ⟨u2,rfl,ru2⟩:=Vk rz;cases ru;cases ru2;have ka:KeysAt H2 (xs.map (·.1)) (xs.map (·.2.1)):=by
  have:=dk.key;clear q h64 hf dk
  induction xs with
  | nil=>exact .nil
  | cons z xs ih=>exact .cons (this z (zK ..)).1 (ih fun z hz=>this z (zH _ hz))
 exact EV hg dg hr F b I2 ka (fun t ht=>by obtain ⟨z,hz,rfl⟩:=zJ.mp ht;exact hf z hz) (by rw [zX];exact h64) (fun Q' hq=>An hr.hd I2 dk hq) q
end
end Tw
namespace L2
open PySem PySem.Spec PyProof.Rows
section
variable{X:Cx}
end
section
variable{prog:ao}{w:ay}{A:az}{E:jb}{s:am}
end
section
variable{X:Cx}{pins:List (aj×aJ)}{σ:St}{H:Hp}{s:am}
def ZOI:jf->Hp->VK->Prop:=fun xs H Q=>∃(a:aj)(kvs:List (Zd×V))(ns:List Int),xs=[.ref a]/\H a=some (.dK kvs)/\kvs.map (·.1)=ns.map Sum.inl/\ns.length<1000/\∀ p,H p=none->Q (.ref p) (upd H p (.lst (ns.map V.int)))
theorem Fl(hc:X.calm=true):VW X (.type "list") ZOI:=by
 intro pins s σ H xs us Q I r h;obtain ⟨a,kvs,ns,rfl,ha,hk,hs,q⟩:=h;obtain ⟨u,rfl,ru⟩:=Vk r;cases ru;obtain ⟨z,lo,vs,kv,hD⟩:=Oa I.hok ha;have ln:ns.length=kvs.length:=by have:=congrArg wL hk;simpa using this.symm
 have lv:=KV.length kv;obtain ⟨ep,hA⟩:=hD.dictAt;refine PySem.W.kdl_call (PySem.W.kdl_dict (knd:=Vn X.prog X.w) (kvs:=vs) (ep:=ep) lo) (I.ok.hd hc) hA (by lia) fun h' tk acc c k1 hg hacc=>?_
 have hI:IntsAre acc.toList ns:=ZI0 kv hk acc.toList (by rw [vC];exact hacc.1) fun i v e=>hacc.2 i v (by rw [<-wW];exact e)
 exact ⟨.ref s.heap.objs.size,_,I.laid (a:=s.heap.objs.size) (o:=.lst (ns.map V.int)) (t':=tk) k1 (zY _) ⟨by rw [zX];exact xY (XM (xY hs)),acc.toList,c,F8 hI,by rw [Array.toArray_toList];exact hg⟩,rfl,q _ (I.hok.fresh (zY _))⟩
end
end L2
namespace Tw
open PySem PySem.Spec L2 PyProof.Rows
def QO:jg->jd->Prop
 | some v,some r=>ZT v r
 | none,none=>True
 | _,_=>False
mutual
theorem ZN.keep{h h':aF}(k:∀ b o,h.get? b=some o->h'.get? b=some o):∀(t:KT)(v:ai),ZN h t v->ZN h' t v
 | .int i,v,x=>by rw [ZN] at x ⊢;exact x
 | .str i,v,x=>by rw [ZN] at x ⊢;exact x
 | .tup l,v,x=>by
  rw [ZN] at x ⊢;obtain ⟨a,jj,e,⟨o,g,r⟩,e2⟩:=x;exact ⟨a,jj,e,⟨o,k _ _ g,r⟩,KVals.keep k l jj e2⟩
theorem KVals.keep{h h':aF}(k:∀ b o,h.get? b=some o->h'.get? b=some o):∀(l:List KT)(vs:je),KVals h l vs->KVals h' l vs
 | [],vs,x=>by rw [KVals] at x ⊢;exact x
 | t :: l,vs,x=>by
  rw [KVals] at x ⊢;obtain ⟨v,r,e,e1,e2⟩:=x;exact ⟨v,r,e,ZN.keep k t v e1,KVals.keep k l r e2⟩
end
section
variable{X:Cx}{pins:List (aj×aJ)}{σ:L2.St}{H:Hp}{s:am}{A:az}{E:jb}
theorem JK{d:aj}{xs:List (KT×V×V)}(I:ZH X pins σ H s)(x:YM X.w H d xs):(d==sysModules)=false/\s.TypeIs (.ref d) "dict" /\ ∀ b,Value.ref d=.ref b->∃ ob,s.heap.get? b=some ob/\ob.dict=none:=by
 obtain ⟨es,hH,rel⟩:=x.ex;obtain ⟨⟨hsys,hsz,o,ep,ho,hx,hd⟩,_⟩:=I.hok d _ hH;refine ⟨hsys,⟨o,ho,hx.1⟩,fun b q=>?_⟩;cases q;exact ⟨o,ho,hx.2.1⟩
theorem Aj{d:aj}{xs:List (KT×V×V)}{t:KT}{y:V}{u:ai}{Q:jd->am->Prop}(hu:A.units+4<cLine)(I:ZH X pins σ H s)(x:YM X.w H d xs)(hy:ZD H t y)(dt:t.depth<=3)(ry:ZT y u)(h:∀ s' r,ZH X pins σ H s'->(∀ b ob,s.heap.get? b=some ob->s'.heap.get? b=some ob)->QO (Qp xs t) r->Q r s'):aD (aC X.prog X.w) A (dictGet d u) Q E s:=by
 obtain ⟨es,hH,rel⟩:=x.ex;obtain ⟨⟨hsys,hsz,o,ep,ho,hx,hd⟩,_⟩:=I.hok d _ hH;unfold dictGet
 try with_reducible refine af ?_
 refine aa (KZ t.depth t (zY _) (UU I t y u hy ry) (by lia) fun tk htk=>?_)
 have I1:ZH X pins σ H { s with toks:=tk }:=I.tok tk;refine aa (GN (A:=A) I1 x rel ho hd hy dt ry (by lia) (fun hn=>?_) fun j z e e1 e2 e3 e4=>?_)
 ·refine ad (h _ none I1 (fun _ _ e=>e) ?_);rw [Dk hn];trivial
 ·refine aa (wpAny_dictEntries (s:={ s with toks:=tk }) ho hd ?_);rw [e3];refine ad (h _ (some e.val) I1 (fun _ _ e=>e) ?_);rw [<-e2,Im x.nd e1];exact e4.2.2
theorem FM{d:aj}{xs:List (KT×V×V)}{t:KT}{y v:V}{u:ai}{Q:jb}(hu:A.units+5<cLine)(I:ZH X pins σ H s)(x:YM X.w H d xs)(hy:ZD H t y)(dt:t.depth<=3)(ry:ZT y u)(hv:Qp xs t=some v)(h:∀ w' s',ZH X pins σ H s'->ZT v w'->Q w' s'):aD (aC X.prog X.w) A (getItem (.ref d) u) Q E s:=by
 obtain ⟨hsys,hT,_⟩:=JK I x;unfold getItem
 try with_reducible refine af ?_
 refine aa (wpAny_sequenceKey hT (by decide) ?_)
 refine aa (wpAny_callSpecial?_slot (name:=yJ "__getitem__") hT slot_dict_getitem (wpAny_call_entry slot_dict_getitem hT entry_dict_getitem ?_ (args_dict_getitem _ _)));show aD _ _ (dictGet d u >>= _) _ _ s;refine aa (Aj (by show A.units+1+4<_;lia) I x hy dt ry fun s' r I' _ ro=>?_)
 rw [hv] at ro
 cases r with
 | none=>exact ro.elim
 | some r=>exact ad ⟨r,rfl,ad (h r s' I' ro)⟩
end
section
variable{X:Cx}{o i e f:Expr}{pos ju jk:Pos}{td ty tx:TE}
def Gb(w:ay)(td ty:TE):TE:=fun σ H Q=>td σ H fun x H1=>ty σ H1 fun y H2=>∃(a:aj)(xs:List (KT×V×V))(t:KT)(v:V),x=.ref a/\YM w H2 a xs/\ZD H2 t y/\t.depth<=3/\Qp xs t=some v/\Q v H2
theorem ZMZ(hu:X.A.units+5<cLine)(ho:PE X o td)(hi:PE X i ty)(hs:O9 i):PE X (.Subscript o i pos) (Gb X.w td ty):=by
 intro pins s σ H Q I h;refine Hq qL.lookup hs (Zc (ho pins s σ H _ I h) fun u s1 ⟨x,H1,I1,rx,q1⟩=>Zc (hi pins s1 σ H1 _ I1 q1) fun iv s2 ⟨y,H2,I2,ry,a,xs,t,v,ex,dk,ky,dt,hv,q2⟩=>?_);subst ex;obtain rfl:u=Value.ref a:=rx;exact ⟨(JK I2 dk).2.1,FM hu I2 dk ky dt ry hv fun w' s3 I3 rw'=>⟨v,H2,I3,rw',q2⟩⟩
end
section
variable{prog:ao}{w:ay}{A:az}{E:jb}{s:am}
end
theorem Paired.ixR{α β:Type}{F:α->β->Prop}:∀{l:List α}{m:List β}{i:Nat}{u:β},Paired F l m->m[i]? = some u->∃ r,l[i]? = some r/\F r u
 | _,_,_,_,.nil,e=>by simp at e
 | _,_,0,_,.cons r _,e=>by simp at e;subst e;exact ⟨_,rfl,r⟩
 | _,_,i+1,u,.cons _ t,e=>by
  obtain ⟨r,h1,h2⟩:=Paired.ixR (i:=i) (u:=u) t (by simpa using e)
  exact ⟨r,by simpa using h1,h2⟩
section
variable{X:Cx}{pins:List (aj×aJ)}{σ:L2.St}{H:Hp}{s0 s:am}{A:az}
end
section
variable{X:Cx}
end
end Tw
namespace Tw
open PySem PySem.Spec L2
def Vz(N:aj->Prop)(H:Hp)(n:String)(v:V):Prop:=
 (n = "bool" /\ ∃ b,v=.bl b)\/(n = "NoneType" /\ v=.non)\/(n = "list" /\ ∃ a xs,v=.ref a/\H a=some (.lst xs)/\¬ N a)\/(n = "dict" /\ ∃ a kvs,v=.ref a/\H a=some (.dK kvs)/\¬ N a)
mutual
def Zl(N:aj->Prop)(H:Hp):TG->V->Prop
 | .int i,v=>v=.int i
 | .str x,v=>v=.str x
 | .tup l,v=>∃ a vs,v=.ref a/\H a=some (.tup vs)/\ThsAt N H l vs
 | .odd n,v=>Vz N H n v
def ThsAt(N:aj->Prop)(H:Hp):List TG->jf->Prop
 | [],vs=>vs=[]
 | t :: l,vs=>∃ v r,vs=v :: r/\Zl N H t v/\ThsAt N H l r
end
structure Yp(N:aj->Prop)(H H':Hp):Prop where
 tup:Z1 H H'
 rest:∀ b o,H b=some o->¬ N b->H' b=some o
theorem Yp.same{N:aj->Prop}{H H':Hp}(s:ZA H H'):Yp N H H':=⟨ZA.tups s,fun b o e _=>s b o e⟩
mutual
theorem Zl.mono{N:aj->Prop}{H H':Hp}(m:Yp N H H'):∀(t:TG)(v:V),Zl N H t v->Zl N H' t v
 | .int _,_,h=>by rw [Zl] at h ⊢;exact h
 | .str _,_,h=>by rw [Zl] at h ⊢;exact h
 | .tup l,_,h=>by
  rw [Zl] at h ⊢;obtain ⟨a,vs,e,h1,h2⟩:=h;exact ⟨a,vs,e,m.tup a vs h1,ThsAt.mono m l vs h2⟩
 | .odd n,_,h=>by
  rw [Zl] at h ⊢;rcases h with h | h | ⟨e,a,xs,e1,e2,e3⟩ | ⟨e,a,xs,e1,e2,e3⟩
  ·exact .inl h
  ·exact .inr (.inl h)
  ·exact .inr (.inr (.inl ⟨e,a,xs,e1,m.rest _ _ e2 e3,e3⟩))
  ·exact .inr (.inr (.inr ⟨e,a,xs,e1,m.rest _ _ e2 e3,e3⟩))
theorem ThsAt.mono{N:aj->Prop}{H H':Hp}(m:Yp N H H'):∀(l:List TG)(vs:jf),ThsAt N H l vs->ThsAt N H' l vs
 | [],_,h=>by rw [ThsAt] at h ⊢;exact h
 | t :: l,_,h=>by
  rw [ThsAt] at h ⊢;obtain ⟨v,r,e,h1,h2⟩:=h;exact ⟨v,r,e,Zl.mono m t v h1,ThsAt.mono m l r h2⟩
end
mutual
theorem Zl.less{N N':aj->Prop}{H:Hp}(m:∀ b,N' b->N b):∀(t:TG)(v:V),Zl N H t v->Zl N' H t v
 | .int _,_,h=>by rw [Zl] at h ⊢;exact h
 | .str _,_,h=>by rw [Zl] at h ⊢;exact h
 | .tup l,_,h=>by
  rw [Zl] at h ⊢;obtain ⟨a,vs,e,h1,h2⟩:=h;exact ⟨a,vs,e,h1,ThsAt.less m l vs h2⟩
 | .odd n,_,h=>by
  rw [Zl] at h ⊢;rcases h with h | h | ⟨e,a,xs,e1,e2,e3⟩ | ⟨e,a,xs,e1,e2,e3⟩
  ·exact .inl h
  ·exact .inr (.inl h)
  ·exact .inr (.inr (.inl ⟨e,a,xs,e1,e2,fun z=>e3 (m a z)⟩))
  ·exact .inr (.inr (.inr ⟨e,a,xs,e1,e2,fun z=>e3 (m a z)⟩))
theorem ThsAt.less{N N':aj->Prop}{H:Hp}(m:∀ b,N' b->N b):∀(l:List TG)(vs:jf),ThsAt N H l vs->ThsAt N' H l vs
 | [],_,h=>by rw [ThsAt] at h ⊢;exact h
 | t :: l,_,h=>by
  rw [ThsAt] at h ⊢;obtain ⟨v,r,e,h1,h2⟩:=h;exact ⟨v,r,e,Zl.less m t v h1,ThsAt.less m l r h2⟩
end
theorem ThsAt.length{N:aj->Prop}{H:Hp}:∀{l:List TG}{vs:jf},ThsAt N H l vs->l.length=vs.length
 | [],vs,h=>by rw [ThsAt] at h;subst h;rfl
 | t :: l,vs,h=>by
  rw [ThsAt] at h;obtain ⟨v,r,rfl,_,h2⟩:=h;rw [zI,zI,h2.length]
theorem ThsAt.get{N:aj->Prop}{H:Hp}:∀{l:List TG}{vs:jf}{i:Nat}{v:V},ThsAt N H l vs->vs[i]? = some v->∃ t,l[i]? = some t/\Zl N H t v
 | [],vs,i,v,h,e=>by rw [ThsAt] at h;subst h;simp at e
 | t :: l,vs,0,v,h,e=>by
  rw [ThsAt] at h;obtain ⟨v',r,rfl,h1,_⟩:=h;simp at e;subst e;exact ⟨t,rfl,h1⟩
 | t :: l,vs,i+1,v,h,e=>by
  rw [ThsAt] at h;obtain ⟨v',r,rfl,_,h2⟩:=h;obtain ⟨t',e1,e2⟩:=h2.get (i:=i) (by simpa using e)
  exact ⟨t',by simpa using e1,e2⟩
mutual
theorem Md{N:aj->Prop}{H:Hp}:∀(t:KT)(v:V),ZD H t v->Zl N H t.emb v
 | .int i,v,h=>by rw [ZD] at h;rw [KT.emb,Zl];exact h
 | .str x,v,h=>by rw [ZD] at h;rw [KT.emb,Zl];exact h
 | .tup l,v,h=>by
  rw [ZD] at h;obtain ⟨a,vs,e,h1,h2⟩:=h;rw [KT.emb,Zl];exact ⟨a,vs,e,h1,ths_keys l vs h2⟩
theorem ths_keys{N:aj->Prop}{H:Hp}:∀(l:List KT)(vs:jf),KeysAt H l vs->ThsAt N H (embL l) vs
 | [],vs,h=>by rw [KeysAt] at h;rw [embL,ThsAt];exact h
 | t :: l,vs,h=>by
  rw [KeysAt] at h;obtain ⟨v,r,e,h1,h2⟩:=h;rw [embL,ThsAt];exact ⟨v,r,e,Md t v h1,ths_keys l r h2⟩
end
theorem Vz.ty{K:zZ}{N:aj->Prop}{H:Hp}{n:String}{v:V}(h:Vz N H n v):Y2 K H v (.type n):=by
 rcases h with ⟨rfl,b,rfl⟩ | ⟨rfl,rfl⟩ | ⟨rfl,a,xs,rfl,e,_⟩ | ⟨rfl,a,xs,rfl,e,_⟩
 ·exact .bl b
 ·exact .non
 ·exact .lst e
 ·exact .dK e
theorem ZMx{K:zZ}{N:aj->Prop}{H:Hp}{n:String}{v:V}(h:Vz N H n v):
  ∃ b,yX K (.type n) (.type "bool")=some b/\(b=false->yX K (.type n) (.type "int")=some false/\yX K (.type n) (.type "str")=some false/\yX K (.type n) (.type "tuple")=some false):=by
 rcases h with ⟨rfl,_⟩ | ⟨rfl,_⟩ | ⟨rfl,_⟩ | ⟨rfl,_⟩
 ·exact ⟨true,Bi,fun z=>absurd z (by decide)⟩
 ·exact ⟨false,by kernel_rfl,fun _=>⟨by kernel_rfl,by kernel_rfl,by kernel_rfl⟩⟩
 ·exact ⟨false,by kernel_rfl,fun _=>⟨by kernel_rfl,by kernel_rfl,by kernel_rfl⟩⟩
 ·exact ⟨false,by kernel_rfl,fun _=>⟨by kernel_rfl,by kernel_rfl,by kernel_rfl⟩⟩
end Tw
namespace L2
open PySem PySem.Spec PyProof.Rows
abbrev UG(a:aj)(o:aJ):HO:=.ext fun h=>h.get? a=some o
theorem Ll{P:ao}{w:ay}{H:Hp}{h:aF}{a:aj}{o:aJ}(e:h.get? a=some o):Zf P w H h a (UG a o):=⟨e,⟨o,e⟩,fun _ _ e1 k=>k o e1⟩
theorem Ye.obj{P:ao}{w:ay}{H:Hp}{h:aF}{a:aj}{o:aJ}(x:Ye P w H h)(e:H a=some (UG a o)):h.get? a=some o:=(x a _ e).1
section
variable{P:ao}{w:ay}{H H2:Hp}{h h':aF}{cs fs ex:List aj}
end
def Os(o:aJ)(q:Str):Prop:=∃ vs t,o.data=.fields vs/\vs[1]? = some (.str q t)
section
variable{P:ao}{w:ay}{K:zZ}{mg:jc}{base:aF}
end
def ZPN(H:Hp)(q:Str)(ps:Array ai):Prop:=TriplesOk ps.toList/\∀ pos cv,PySem.codeAmong pos ps.toList=some cv->∃ c' co,cv=.ref c'/\H c'=some (UG c' co)/\Os co q
def Y3(H:Hp)(P:aj)(q:Str):Prop:=∃ ps,H P=some (.tbl ps)/\ZPN H q ps
theorem Ig{a b:Int}{t u:Tok}{c:ai}:∀(l:je),TriplesOk l->TriplesOk (l++[.int a t,.int b u,c])
 | [],_=>trivial
 | .int _ _ :: .int _ _ :: _ :: r,h=>Ig r h
theorem JM{pos:Pos}{a b:Int}{t u:Tok}{c cv:ai}:∀(l:je),TriplesOk l->PySem.codeAmong pos (l++[.int a t,.int b u,c])=some cv->PySem.codeAmong pos l=some cv\/cv=c
 | [],_,h=>by
  unfold PySem.codeAmong at h;simp only [tL] at h;split at h
  ·cases h;exact .inr rfl
  ·simp [PySem.codeAmong] at h
 | .int i _ :: .int j _ :: d :: r,hT,h=>by
  simp only [rX] at h;unfold PySem.codeAmong at h ⊢;split at h
  ·rename_i q
   rw [aP q];exact .inl h
  ·rename_i q
   rw [aO q];exact JM r hT h
def Fe(P:aj)(params:Arguments)(body:Expr)(scope:aG)(qual:Str)(cl:List (Str×aj)):TE:=fun _ H Q=>
 Y3 H P qual/\∀(H1:Hp)(f c':aj)(co:aJ)(pm ctv:ai),Os co qual->H1 f=some (UG f (wJ "<lambda>" qual params body scope cl pm c' ctv))->H1 c'=some (UG c' co) ->
  (∀ b o,b≠P->H b=some o->H1 b=some o)->Y3 H1 P qual->(∀ b,b=f\/b=c'\/b=P\/H1 b=H b)->Q (.ref f) H1
theorem ZOE{X:Cx}{P c:aj}{params:Arguments}{body:Expr}{scope:aG}{cl:List (Str×aj)}{pos:Pos}(hcode:X.env.code=.ref c)(C:wQ X.base c P)(hb:X.base.BuiltinsAt X.mg P)(hdef:defaultsOf params X.env=([],[]))(hcl:closureFor scope X.env=pure cl):PE X (.Lambda params body scope pos) (Fe P params body scope (X.env.qual ++ "<lambda>") cl):=by
 intro pins s σ H Q I h;obtain ⟨⟨ps,hP,hT,hA⟩,h⟩:=h;have gP:s.heap.get? P=some (vH ps):=I.hok P _ hP;have nb:∀{b o},X.base.get? b=some o->b≠P:=fun{b o} e z=>by
  have:=(I.bs b o e).2;rw [z,hP] at this;cases this
 have hgP:ar≠P:=by
  obtain ⟨o,es,ep,e,_⟩:=I.mod.glob;exact nb e
 have hg:s.heap.Ns ar X.mg:=I.mod.glob.keeps I.bk;have hb':s.heap.BuiltinsAt X.mg P:=by
  obtain ⟨bm,o,b1,b2,b3,b4,b5,r⟩:=hb;exact ⟨bm,o,b1,b2,b3,b4,I.bk _ _ b5,r⟩
 refine PySem.W.kla_eval hdef ?_
 cases hf:PySem.codeAmong pos ps.toList with
 | none=>
  refine PySem.W.kla_makeFunction hcl I.ok.glob hg hcode (C.keeps I.bk) gP hT hf hgP hb' fun c' ctv h' tk hx hge hlt hrec htb=>?_;obtain ⟨c₂,co,vs,t,e2,hoc,hd,hv⟩:=hrec;cases e2;have kp:∀ b o,b≠P->s.heap.get? b=some o->(h'.push (wJ "<lambda>" (X.env.qual ++ "<lambda>") params body scope cl ((X.mg "__name__").getD .none) c' ctv)).get? b=some o:=fun b o n e=>zR _ (hx b o n e);have sz:s.heap.objs.size<=h'.objs.size:=xY (uF hge hlt);have nc:H c'=none:=I.hok.fresh hge;have nf:H h'.objs.size=none:=I.hok.fresh sz;have cP:c'≠P:=fun z=>by rw [z,hP] at nc;cases nc
  have fP:h'.objs.size≠P:=fun z=>by rw [z,hP] at nf;cases nf
  have fc:h'.objs.size≠c':=uP hlt
  let ps':Array Value:=ps++#[rawInt pos.line,rawInt pos.col,.ref c']
  let fo:Obj:=wJ "<lambda>" (X.env.qual ++ "<lambda>") params body scope cl ((X.mg "__name__").getD .none) c' ctv
  let H1:Hp:=upd (upd (upd H P (.tbl ps')) c' (UG c' co)) h'.objs.size (UG h'.objs.size fo)
  have e1:H1 h'.objs.size=some (UG h'.objs.size fo):=ZP;have e2:H1 c'=some (UG c' co):=by show upd _ _ _ _=_;rw [ZV fc.symm];exact ZP
  have e3:H1 P=some (.tbl ps'):=by show upd _ _ _ _=_;rw [ZV fP.symm,ZV cP.symm];exact ZP
  have e4:∀ b,b≠P->b≠c'->b≠h'.objs.size->H1 b=H b:=fun b n1 n2 n3=>by show upd _ _ _ _=_;rw [ZV n3,ZV n2,ZV n1]
  have e5:∀ b o,b≠P->H b=some o->H1 b=some o:=fun b o n e=>by
   rw [e4 b n (Za e nc) (Za e nf)];exact e
  have gc:(h'.push fo).get? c'=some co:=zR _ hoc;have gf:(h'.push fo).get? h'.objs.size=some fo:=yS _ rfl;have gP':(h'.push fo).get? P=some (vH ps'):=zR _ htb;have hok:Ye X.prog X.w H1 (h'.push fo):=fun b u e=>by
   by_cases z1:b=h'.objs.size
   ·subst z1;rw [e1] at e;cases e;exact Ll gf
   by_cases z2:b=c'
   ·subst z2;rw [e2] at e;cases e;exact Ll gc
   by_cases z3:b=P
   ·subst z3;rw [e3] at e;cases e;exact gP'
   rw [e4 b z3 z2 z1] at e;refine (I.hok b u e).stay (fun a ob ha q=>kp a ob ?_ q) (fun a q=>e5 a _ ?_ q) fun a xs q=>e5 a _ ?_ q
   ·rcases ha with rfl | ha
    ·exact z3
    ·intro z;rw [z,hP] at ha;cases ha
   ·intro z;rw [z,hP] at q;cases q
   ·intro z;rw [z,hP] at q;cases q
  have un:Un X.fs [] H H1 s.heap (h'.push fo):=by
   have neP:∀ b,H b=none->b≠P:=fun b n z=>by rw [z,hP] at n;cases n
   refine ⟨fun b o q n _ _=>kp b o (neP b n) q,fun b o q n _ _=>⟨o.slots,kp b o (neP b n) q⟩,fun b o q n _=>?_,fun b o q _=>?_,fun b xs q=>e5 b _ ?_ q,fun b o u q=>e5 b _ ?_ q,fun b qs q=>?_⟩
   ·rw [e4 b (neP b n) (yY (yN (zS q) hge)) (yY (yN (zS q) sz))];exact n
   ·by_cases z:b=P
    ·exact ⟨_,by rw [z];exact gP'⟩
    ·exact ⟨o,kp b o z q⟩
   ·intro z;rw [z,hP] at q;cases q
   ·intro z;rw [z,hP] at q;cases q
   ·by_cases z:b=P
    ·subst z;rw [hP] at q;cases q;exact ⟨_,e3⟩
    ·exact ⟨#[],by rw [e5 b _ z q];simp⟩
  refine ⟨.ref h'.objs.size,H1,I.un (t':=tk) un hok,rfl,h H1 h'.objs.size c' co _ ctv ⟨vs,t,hd,hv⟩ e1 e2 e5 ⟨ps',e3,?_,fun pos2 cv ha=>?_⟩ fun b=>?_⟩
  ·show TriplesOk (ps++#[rawInt pos.line,rawInt pos.col,.ref c']).toList;rw [sR];exact Ig _ hT
  ·have ha':PySem.codeAmong pos2 (ps.toList++[rawInt pos.line,rawInt pos.col,.ref c'])=some cv:=by
    have:ps'.toList=ps.toList++[rawInt pos.line,rawInt pos.col,.ref c']:=by show (ps++#[rawInt pos.line,rawInt pos.col,.ref c']).toList=_;rw [sR]
    rw [<-this];exact ha
   rcases JM _ hT ha' with z | z
   ·obtain ⟨d,do',y1,y2,y3⟩:=hA pos2 cv z
    exact ⟨d,do',y1,e5 _ _ (fun z=>by rw [z,hP] at y2;cases y2) y2,y3⟩
   ·exact ⟨c',co,z,e2,vs,t,hd,hv⟩
  ·by_cases z1:b=h'.objs.size
   ·exact .inl z1
   by_cases z2:b=c'
   ·exact .inr (.inl z2)
   by_cases z3:b=P
   ·exact .inr (.inr (.inl z3))
   exact .inr (.inr (.inr (e4 b z3 z2 z1)))
 | some cv=>
  obtain ⟨c',co,rfl,hc',hco⟩:=hA pos cv hf;refine PySem.W.kla_makeFunctionHit hcl I.ok.glob hg hcode (C.keeps I.bk) gP hT hf hb' fun ctv h' tk hk hsz=>?_;have nf:H h'.objs.size=none:=I.hok.fresh hsz;have e5:∀ b o,H b=some o->upd H h'.objs.size (UG h'.objs.size (wJ "<lambda>" (X.env.qual ++ "<lambda>") params body scope cl ((X.mg "__name__").getD .none) c' ctv)) b=some o:=fun b o e=>by rw [ZV (Za e nf)];exact e
  refine ⟨.ref h'.objs.size,_,I.laid (t':=tk) (a:=h'.objs.size) (o:=UG h'.objs.size (wJ "<lambda>" (X.env.qual ++ "<lambda>") params body scope cl ((X.mg "__name__").getD .none) c' ctv)) (fun b o e=>zR _ (hk b o e)) hsz (Ll (yS _ rfl)),rfl,
   h _ h'.objs.size c' co _ ctv hco ZP (e5 _ _ hc') (fun b o _ e=>e5 b o e) ⟨ps,e5 _ _ hP,hT,fun pos2 cv ha=>?_⟩ fun b=>?_⟩
  ·obtain ⟨d,do',y1,y2,y3⟩:=hA pos2 cv ha
   exact ⟨d,do',y1,e5 _ _ y2,y3⟩
  ·by_cases z:b=h'.objs.size
   ·exact .inl z
   ·exact .inr (.inr (.inr (ZV z)))
theorem A4{K:zZ}{x qual:Str}{st:aE}{f c P:aj}{fd:aq}(F:Zj K x qual st f fd)(hf:zM K ar x=some (some (.ref f)))(ht:xR K x=some (c,P)):fd.code=.ref c:=by
 obtain ⟨oc,od,kV,doc,pm,an,cdv,ct,jK,rfl,lk,jD⟩:=F.ex;unfold xR at ht;rw [hf] at ht;simp only at ht;rw [lk] at ht;simp only at ht;show cdv=.ref c
 cases cdv with
 | ref c2=>
  simp only at ht;split at ht
  ·split at ht
   ·cases ht;rfl
   ·cases ht
  ·cases ht
 | _=>cases ht
theorem Zj.okC{P:ao}{w:ay}{K:zZ}{mg:jc}{base:aF}{x qual:Str}{st:aE}{f c T:aj}{fd:aq}{N ps:List Str}{k:Nat}{sp:Sp}(F:Zj K x qual st f fd)(hf:zM K ar x=some (some (.ref f)))(ht:xR K x=some (c,T))(S:ZC N ps (Ze st))(len:∀ vs H Q E,sp vs H Q E->vs.length=ps.length)(jp:∀ (A:az) (outer:List Env) (s:am) (H:Hp) (vs:jf) (Q:VK) (E:XK),ZX k (A.deeper (envOfC qual (Ze st) s.heap.objs.size f (.ref c)))->sp vs H Q E ->
   ∃ t,Xn (X9 ZW P w K mg base N qual (Ze st) f (.ref c) A outer s H E) (Xv st) t/\t { nx:=fun _ H'=>Q .non H',rt:=Q } (Vr N vs) H):ZJ P w K mg base ZW (k+1) f fd ps sp:=by
 have e:=A4 F hf ht;obtain ⟨oc,od,kV,doc,pm,an,cdv,ct,jK,rfl,lk,jD⟩:=F.ex;have e':cdv=.ref c:=e;subst e';exact Lc lk jD S len fun A outer s H vs Q E hr jE=>jp A outer s H vs Q E hr jE
theorem BA{P:ao}{w:ay}{K:zZ}{mg mb:jc}{k:Nat}{fa a c T:aj}{fd:aq}{x:Str}{sp:Sp}{s₁:am}{vs:je}{ns:List Int}(KX:K.In s₁.heap)(hns:s₁.heap.Ns ar mg)(hb:s₁.heap.Ns builtinsNs mb)(hbb:∀ x:Str,x ≠ "__name__"->mb x=aA x)(hlim:s₁.heap.NoLimit)(hg:s₁.gens=#[])(hbm:∃ bm ob,mg "__builtins__" = some (.ref bm)/\bm≠builtinsNs/\s₁.heap.get? bm=some ob/\ob.cls=.type "module" /\ ob.dict=some builtinsNs/\ob.data=.plain)(hC:wQ s₁.heap c T)(hT:s₁.heap.get? T=some (vH #[]))(noT:rY K=true)(ha:s₁.heap.get? a=some { cls:=.type "list",data:=.seq vs.toArray })(hi:IntsAre vs ns)(hl:ns.length<=aw)(hr:ZX k callerA)(F:∀ base:aF,K.In base->base.Ns ar mg->wQ base c T->base.BuiltinsAt mg T->ZJ P w K mg base ZW k fa fd [x] sp)(hbind:∀ (s:am) (u:ai),BindsTo s fd ⟨[u],[]⟩ [(x,u)])(jE:∀ H:Hp,H T=some (.tbl #[])->ZL K H a (ns.map V.int)->sp [.ref a] H (fun v _=>v=.bl true) fun _ _ _=>False):
  codeAny (aC P w) callerA (.call (.ref fa) ⟨[.ref a],[]⟩) (fun r s'=>r=.ok (.ret (.bool true))/\OldK s₁.heap s'.heap/\s'.os=s₁.os/\AllBare s'.gens) s₁:=by
 have rv:=NN hi;have lenV:=hi.length;have aT:a≠T:=fun z=>by rw [z,hT] at ha;cases ha
 have core:∀ H:Hp,H T=some (.tbl #[])->ZL K H a (ns.map V.int)->Ye P w H s₁.heap->(∀ b,H b≠none->b=a\/b=T)->(H a≠none->K.lookup a=none/\∃ o xs,H a=some (.frz o (.lst xs))) ->
   codeAny (aC P w) callerA (.call (.ref fa) ⟨[.ref a],[]⟩) (fun r s'=>r=.ok (.ret (.bool true))/\OldK s₁.heap s'.heap/\s'.os=s₁.os/\AllBare s'.gens) s₁:=by
  intro H hO hS hok hA hK;have base_of:∀{b:aj}{o:aJ},s₁.heap.get? b=some o->H b=none->(VX s₁.heap H).get? b=some o:=fun e n=>Jr e n;have noA:∀{b:aj}{o:aJ},s₁.heap.get? b=some o->(∀ jj n,o.data≠.seq jj n)->(∀ v,o≠vH v)->H b=none:=fun{b o} e d1 d2=>by
   cases q:H b with
   | none=>rfl
   | some u=>
    rcases hA b (by rw [q];simp) with e' | e'
    ·subst e';rw [ha] at e;cases e;exact absurd rfl (d1 _ _)
    ·subst e';rw [hT] at e;cases e;exact absurd rfl (d2 _)
  have nsK:∀{b:aj}{m:jc},s₁.heap.Ns b m->(VX s₁.heap H).Ns b m:=fun{b m} ⟨o,es,ep,e,d,r⟩=>⟨o,es,ep,base_of e (noA e (fun _ _ z=>by rw [d] at z;cases z) (fun _ z=>by rw [z] at d;cases d)),d,r⟩
  have hKb:K.In (VX s₁.heap H):=fun b o e=>base_of (KX b o e) (by
   cases q:H b with
   | none=>rfl
   | some u=>
    rcases hA b (by rw [q];simp) with e' | e'
    ·subst e';rw [(hK (by rw [q];simp)).1] at e;cases e
    ·subst e';have e2:=KX _ _ e;rw [hT] at e2;cases e2;have h2:=zP.mp noT _ (PySem.W.mem_of_lookupK e);exact absurd (show false=true from h2) zW)
  have hM:Mod K mg (VX s₁.heap H):=⟨hKb,nsK hns,⟨mb,nsK hb,hbb⟩,let ⟨mc,h1,h2⟩:=hlim;⟨mc,nsK h1,h2⟩⟩;have hCb:wQ (VX s₁.heap H) c T:=by
   obtain ⟨o,vs,file,tf,flags,tg,inF,text,tt,e1,e2,e3,r⟩:=hC;exact ⟨o,vs,file,tf,flags,tg,inF,text,tt,base_of e1 (noA e1 (fun _ _ z=>by rw [e3] at z;cases z) (fun _ z=>by rw [z] at e2;cases e2)),e2,e3,r⟩
  have hBb:(VX s₁.heap H).BuiltinsAt mg T:=by
   obtain ⟨bm,ob,b1,b2,b3,b4,b5,b6⟩:=hbm;refine ⟨bm,ob,b1,b2,fun z=>?_,fun z=>?_,base_of b3 (noA b3 (fun _ _ z=>by rw [b6] at z;cases z) (fun _ z=>by rw [z] at b4;cases b4)),b4,b5,b6⟩
   ·obtain ⟨o,es,ep,e,d,_⟩:=hns;rw [z,e] at b3;cases b3;rw [d] at b6;cases b6
   ·rw [z,hT] at b3;cases b3;cases b4
  have e0:Wg P w K mg (VX s₁.heap H) callerA [] s₁ H:=⟨rfl,hM,fun b o e=>Ic e,uQ (IZ _ _),trivial,fun b hb=>absurd (show b∈([]:List aj) from hb) (by simp),hok,.of_eq hg⟩
  refine codeAny_mono ((F _ hKb (nsK hns) hCb hBb).run callerA [] s₁ H ⟨[.ref a],[]⟩ [.ref a] [.ref a] _ _ hr e0 (hbind s₁ (.ref a)) (.cons rfl .nil) (jE H hO hS)) fun r s' h=>?_
  cases r with
  | error e=>exact h.elim
  | ok fl=>
   cases fl with
   | next=>exact False.elim h
   | brk=>exact False.elim h
   | cont=>exact False.elim h
   | ret u=>
    obtain ⟨v,H',os,bare,un,hok',r',q⟩:=h;have q':v=.bl true:=q;subst q';obtain rfl:u=Value.bool true:=r';obtain ⟨more,hT'⟩:=un.tbls T #[] hO;have gT':s'.heap.get? T=some (vH (#[]++more)):=hok' T _ hT';have keep:∀ b o,b≠T->s₁.heap.get? b=some o->s'.heap.get? b=some o:=fun b o n e=>by
     cases q:H b with
     | none=>exact un.keep b o e q (by intro z;exact absurd (show b∈([]:List aj) from z) (by simp)) (by simp)
     | some u=>
      have e':b=a:=(hA b (by rw [q];simp)).resolve_right n
      subst e';obtain ⟨_,ob,xs,z⟩:=hK (by rw [q];simp)
      have z2:=un.frzs b ob _ z;obtain ⟨e1,_⟩:=hok b _ z;obtain ⟨e2,_⟩:=hok' b _ z2;rw [e] at e1;cases e1;exact e2
    refine ⟨rfl,⟨fun b o e=>?_,fun b o e=>?_⟩,os,bare⟩
    ·by_cases z:b=T
     ·subst z;rw [hT] at e;cases e;exact .inr (.inl ⟨(hC.tab hT).isCodeTable,rfl,#[],more,rfl,gT'⟩)
     ·exact .inl (keep b o z e)
    ·by_cases z:b=T
     ·subst z;exact ⟨_,gT'⟩
     ·exact ⟨o,keep b o z e⟩
 cases hk:K.lookup a with
 | some o=>
  have e:=KX a o hk;rw [ha] at e;cases e;refine core (fun b=>if b=T then some (.tbl #[]) else none) (aP rfl) (.inr ⟨_,vs.toArray,_,hk,rfl,rfl,rfl,by rw [zO,lenV];exact hl,by simpa using rv⟩) (fun b u z=>?_) (fun b z=>?_) fun z=>absurd (aO aT) z
  ·by_cases hb:b=T
   ·have z':=(aP hb).symm.trans z;cases z';subst hb;exact hT
   ·have z':=(aO hb).symm.trans z;cases z'
  ·by_cases hb:b=T
   ·exact .inr hb
   ·exact absurd (aO hb) z
 | none=>
  refine core (fun b=>if b=T then some (.tbl #[]) else if b=a then some (.frz { cls:=.type "list",data:=.seq vs.toArray } (.lst (ns.map V.int))) else none) (aP rfl) (.inl (.inr ⟨{ cls:=.type "list",data:=.seq vs.toArray },(aO aT).trans (aP rfl)⟩)) (fun b u z=>?_) (fun b z=>?_) fun _=>⟨hk,_,_,(aO aT).trans (aP rfl)⟩
  ·by_cases hb:b=T
   ·have z':=(aP hb).symm.trans z;cases z';subst hb;exact hT
   ·have z:=(aO hb).symm.trans z;by_cases hb:b=a
    ·have z':=(aP hb).symm.trans z;cases z';subst hb;exact ⟨ha,by rw [zX];exact hl,vs,_,rv,ha⟩
    ·have z':=(aO hb).symm.trans z;cases z'
  ·by_cases hb:b=T
   ·exact .inr hb
   ·by_cases hb2:b=a
    ·exact .inl hb2
    ·exact absurd ((aO hb).trans (aO hb2)) z
theorem Of{l:uJ}{n k:Nat}{q:ao}{loose:List Str}{XP:(jc)->aF->Prop}{YP:ay->aF->Prop}{d d':DefRec}{K:Params->zZ}{sp:aj->zZ->Sp}{x px:Str}(hn:l.most=some n)(hn2:n<=aw)(hdf:d.params.defaults=[])(hr:ZX k callerA)(hY:∀ (w:ay) (h:aF),YP w h->(K w.params).In h)(hrec:(recsOf q).find? (fun e=>e.name==px)=some d')(htab:∀ w:ay,∃ c T,xR (K w.params) px=some (c,T))(hnt:∀ w:ay,rY (K w.params)=true)(F:∀ (w:ay) (mg:jc) (fa:aj) (h:aF) (c T:aj),(K w.params).In h->h.Ns ar mg->mg d.name=some (.ref fa)->xR (K w.params) px=some (c,T) ->
   ∃ fd:aq,(∀ (s:am) (u:ai),BindsTo s fd ⟨[u],[]⟩ [(x,u)]) /\
    ∀ base:aF,(K w.params).In base->base.Ns ar mg->wQ base c T->base.BuiltinsAt mg T->ZJ l.prog w (K w.params) mg base ZW k fa fd [x] (sp T (K w.params)))(jE:∀ (w:ay) (T:aj) (H:Hp) (a:aj) (ns:List Int),ns.length<=n->H T=some (.tbl #[])->ZL (K w.params) H a (ns.map V.int)->sp T (K w.params) [.ref a] H (fun v _=>v=.bl true) fun _ _ _=>False):
  tN q loose XP YP l.row.toRowW d [] (fun f vs=>PySem.call f vs):=by
 refine Att.attach_call hn hdf fun w s₀ s₁ mg mb fa o pm cd doc a vs ns G Y ho hd jD hmg hobj hints hlen hg=>?_;have KX:=hY w _ Y;obtain ⟨c,T,ht⟩:=htab w;obtain ⟨hC,hT⟩:=PySem.W.tab_of G.T KX hrec ht;obtain ⟨fd,hb,hF⟩:=F w mg fa _ c T KX G.T.g hmg ht;exact BA KX G.T.g G.T.b G.T.builtins G.T.nolimit hg G.T.bmain hC hT (hnt w) hobj hints (yK hlen hn2) hr hF hb (fun H hO hS=>jE w T H a ns hlen hO hS)
section
variable{P:ao}{w:ay}{K:zZ}{mg:jc}{base:aF}
end
section
variable{X:Cx}
end
def VP(H H':Hp):Prop:=(∀ b φ,H b=some (.ext φ)->H' b=some (.ext φ))/\∀ b ps,H b=some (.tbl ps)->H' b=some (.tbl ps)
theorem VP.same{H H':Hp}(s:ZA H H'):VP H H':=⟨fun b _ e=>s b _ e,fun b _ e=>s b _ e⟩
theorem Y3.ext{H H':Hp}{T:aj}{q:Str}(h:Y3 H T q)(e:VP H H'):Y3 H' T q:=by
 obtain ⟨ps,h1,h2,h3⟩:=h;refine ⟨ps,e.2 _ _ h1,h2,fun pos cv hc=>?_⟩;obtain ⟨c',co,y1,y2,y3⟩:=h3 pos cv hc;exact ⟨c',co,y1,e.1 _ _ y2,y3⟩
section
variable{cs:List aj}{HL Hc H' H3:Hp}
end
section
variable{prog:ao}{w:ay}{A:az}{E:jb}{s:am}
end
section
variable{X:Cx}
end
section
variable{P:ao}{w:ay}{K:zZ}{mg:jc}{base:aF}
end
theorem Lz{P:ao}{w:ay}{K:zZ}{mg:jc}{base:aF}{CX:VS}{N:List Str}{qual:Str}{scope:aG}{f:aj}{cdv:ai}{A:az}{outer:List Env}{s:am}{H:Hp}{E:XK}:
  PassesOwn (aC (X9 CX P w K mg base N qual scope f cdv A outer s H E).prog (X9 CX P w K mg base N qual scope f cdv A outer s H E).w) (X9 CX P w K mg base N qual scope f cdv A outer s H E).A (X9 CX P w K mg base N qual scope f cdv A outer s H E).env (X9 CX P w K mg base N qual scope f cdv A outer s H E).xe:=by
 show PassesOwn (aC P w) (A.deeper (envOfC qual scope s.heap.objs.size f cdv)) (envOfC qual scope s.heap.objs.size f cdv) _
 passes_own
def PL:Expr->Bool
 | .Starred _ _=>false
 | _=>true
theorem XZ{e:Expr}{es:List Expr}{env:Env}(h:PL e=true):ax (e :: es) env=(false,aI e env) :: ax es env:=by
 cases e <;> first | rfl | cases h
theorem ZG{X:Cx}{e:Expr}{es:List Expr}{te:TE}{t:TA}(ha:PE X e te)(hr:PA X es t)(h:PL e=true:=by rfl):PA X (e :: es) (Y0 te t):=Zb ha hr (XZ h)
theorem WA{X:Cx}{e0 e1 e2:Expr}{t0 t1 t2:TE}(g0:PE X e0 t0)(g1:PE X e1 t1)(g2:PE X e2 t2)(h:[e0,e1,e2].all PL=true:=by rfl):PA X [e0,e1,e2] (Y0 t0 (Y0 t1 (Y0 t2 V4))):=
 (Zb g0 (Zb g1 (Zb g2 ZF (XZ (zP.mp h e2 (by simp)))) (XZ (zP.mp h e1 (by simp)))) (XZ (zP.mp h e0 (by simp))))
theorem Vd{X:Cx}{e0 e1 e2 e3:Expr}{t0 t1 t2 t3:TE}(g0:PE X e0 t0)(g1:PE X e1 t1)(g2:PE X e2 t2)(g3:PE X e3 t3)(h:[e0,e1,e2,e3].all PL=true:=by rfl):PA X [e0,e1,e2,e3] (Y0 t0 (Y0 t1 (Y0 t2 (Y0 t3 V4)))):=
 (Zb g0 (Zb g1 (Zb g2 (Zb g3 ZF (XZ (zP.mp h e3 (by simp)))) (XZ (zP.mp h e2 (by simp)))) (XZ (zP.mp h e1 (by simp)))) (XZ (zP.mp h e0 (by simp))))
theorem Pa{X:Cx}{e0 e1 e2 e3 e4:Expr}{t0 t1 t2 t3 t4:TE}(g0:PE X e0 t0)(g1:PE X e1 t1)(g2:PE X e2 t2)(g3:PE X e3 t3)(g4:PE X e4 t4)(h:[e0,e1,e2,e3,e4].all PL=true:=by rfl):PA X [e0,e1,e2,e3,e4] (Y0 t0 (Y0 t1 (Y0 t2 (Y0 t3 (Y0 t4 V4))))):=
 (Zb g0 (Zb g1 (Zb g2 (Zb g3 (Zb g4 ZF (XZ (zP.mp h e4 (by simp)))) (XZ (zP.mp h e3 (by simp)))) (XZ (zP.mp h e2 (by simp)))) (XZ (zP.mp h e1 (by simp)))) (XZ (zP.mp h e0 (by simp))))
theorem Bu{X:Cx}{e0 e1 e2 e3 e4 e5:Expr}{t0 t1 t2 t3 t4 t5:TE}(g0:PE X e0 t0)(g1:PE X e1 t1)(g2:PE X e2 t2)(g3:PE X e3 t3)(g4:PE X e4 t4)(g5:PE X e5 t5)(h:[e0,e1,e2,e3,e4,e5].all PL=true:=by rfl):PA X [e0,e1,e2,e3,e4,e5] (Y0 t0 (Y0 t1 (Y0 t2 (Y0 t3 (Y0 t4 (Y0 t5 V4)))))):=
 (Zb g0 (Zb g1 (Zb g2 (Zb g3 (Zb g4 (Zb g5 ZF (XZ (zP.mp h e5 (by simp)))) (XZ (zP.mp h e4 (by simp)))) (XZ (zP.mp h e3 (by simp)))) (XZ (zP.mp h e2 (by simp)))) (XZ (zP.mp h e1 (by simp)))) (XZ (zP.mp h e0 (by simp))))
def VO(g:Array ai->Prop)(x C:aj)(od:Option aj)(h:aF):Prop:=∃ o vs,h.get? x=some o/\o.cls=.ref C/\o.data=.fields vs/\o.dict=od/\g vs
def QM:Array ai->Prop:=fun vs=>vs[1]? = some .none
def UF:Array ai->Prop:=fun _=>True
def XO(g:Array ai->Prop)(x C:aj)(od:Option aj):HO:=.ext (VO g x C od)
theorem VO.is{g:Array ai->Prop}{x C:aj}{od:Option aj}{h:aF}(e:VO g x C od h):WD x C h:=let ⟨o,_,a,b,_⟩:=e;⟨o,a,b⟩
theorem Mv{P:ao}{w:ay}{H:Hp}{h:aF}{g:Array ai->Prop}{x C:aj}{od:Option aj}(e:VO g x C od h):Zf P w H h x (XO g x C od):=by
 obtain ⟨o,vs,a,b,c,d⟩:=id e;exact ⟨e,⟨o,a⟩,fun h1 h2 ⟨o1,vs1,a1,b1,c1,d1⟩ k=>⟨o1,vs1,k o1 a1,b1,c1,d1⟩⟩
abbrev Q8:je:=[.type "ValueError",.type "Exception",.type "BaseException",.type "object"]
def KH:je->Bool
 | .ref _ :: r=>KH r
 | l=>l==Q8
theorem G8(self:ai):∀{l:je},KH l=true->PySem.refuseLoop self "__setattr__" l=pure ()
 | .ref c :: r,e=>(refuseLoop_ref _ _ _ _).trans (G8 self (l:=r) e)
 | .type n :: r,e=>by rw [show (Value.type n :: r)=Q8 from beq_iff_eq.mp e];exact qO.passes self
 | [],e=>by cases e
 | .none :: r,e | .bool _ :: r,e | .int _ _ :: r,e | .str _ _ :: r,e | .bytes _ _ :: r,e | .float _ _ :: r,e | .builtin _ :: r,e=>by cases (beq_iff_eq.mp e)
def GP(K:zZ)(C:aj):Bool:=(PySem.W.clsIn K C).any fun cd=>KH cd.mro
def Kd(K:zZ)(C:aj):Bool:=
 match K.lookup C with
 | some ⟨.type t,_,.cls cd,sl⟩=>
  (match sl.toList,cd.mro with
  | [_,_,_,_,some (.builtin made),_],.ref D :: up=>t == "type" && (D==C&&(made == "ValueError.__new__" && (PySem.W.tailIn K Q8 up && !cd.hasDel)))
  | _,_=>false)
 | _=>false
structure Wu(K:zZ)(C fI:aj)(f:Str):Prop where
 exc:X0 K C
 made:Kd K C=true
 init:zE K (.ref C) "__init__" = some (some (.ref fI))
 fn:wU K (.ref fI)=true
 kp:yQ K (.ref C)=true
 sa:zE K (.ref C) "__setattr__" = some (some (.builtin "object.__setattr__"))
 no:zE K (.ref C) f=some none
 hd:wH K C=true
 over:GP K C=true
section
variable{g:Array ai->Prop}{X:Cx}{pins:List (aj×aJ)}{σ:St}{H:Hp}{s:am}{a C fI:aj}{f:Str}{v:V}{A:az}{E:jb}
theorem B0{y:V}{u:ai}{Q:Unit->am->Prop}(I:ZH X pins σ H s)(e:H a=some (XO g a C none))(c:Wu X.K C fI f)(ry:ZT y u)(h:∀ dx s',H dx=none->dx≠a->ZH X pins σ (upd (upd H dx (.xd [(f,y)])) a (XO g a C (some dx))) s'->Q () s'):aD (aC X.prog X.w) A (setAttr (.ref a) f u) Q E s:=by
 obtain ⟨o,vs,hx,hc,hda,hdi,hgv⟩:=(I.hok a _ e).1;obtain ⟨oc,od,oda,jK⟩:=o;dsimp only at hc hda hdi;subst hc hda hdi;have J:sC s.heap a ⟨.ref C,none,.fields vs,jK⟩ C none:=⟨hx,rfl,rfl,True.intro⟩;refine PySem.W.set_plain I.kIn J c.sa ?_;have SF:=qO;obtain ⟨cd,jD,ho⟩:=uG c.over;have sub:yM (aC X.prog X.w) s.heap (isInstance (.ref a) (.type "object")) true:=J.type.andThen (tZ I.kIn c.exc.mO);refine codeAny_call_builtin SF.slot.plain SF.entry (@PySem.W.check_slot (aC X.prog X.w) _ _ { s with toks:=s.toks+1 } "object.__setattr__" "object" "__setattr__" (.ref a) [.str f s.toks,u] [] _ SF.kind SF.split sub (SF.args (.ref a) (.str f s.toks) u) ?_);have hm:yM (aC X.prog X.w) s.heap (mroOf (.ref C)) cd.mro:=(sO I.kIn jD).andThen .now;rw [PySem.W.osa_eq,PySem.refuse_eq];refine aa (aa (yM.here (s:={ s with toks:=s.toks+1 }) J.type (aa (yM.here (s:={ s with toks:=s.toks+1 }) hm ?_))));rw [G8 _ ho];refine ad (aa (yM.here (s:={ s with toks:=s.toks+1 }) J.type (aa (yM.here (s:={ s with toks:=s.toks+1 }) (tW I.kIn c.no) (aa (ad ?_))))));obtain ⟨cd2,hcd2,hd2⟩:=uG c.hd;refine aa (ad (aa (aa (wpAny_loadPart hx (aa (yM.here (s:={ s with toks:=s.toks+1 }) (sO I.kIn hcd2) ?_))))));rw [hd2];dsimp only;have hsz:s.heap.get? s.heap.objs.size=none:=vB (zY _);have hda:a≠s.heap.objs.size:=yY (zS hx);have hHd:H s.heap.objs.size=none:=I.hok.fresh (zY _);rw [aO (by simp),aO (by simp [typeHasDict])]
 have hx1:=zR { cls:=.type "dict",data:=.dict #[] } hx;refine aa (wpAny_alloc' (aa (wpAny_update' hx1 (ad ?_))));generalize eh:((s.heap.push { cls:=.type "dict",data:=.dict #[] }).update a fun o=>{ cls:=o.cls,dict:=some s.heap.objs.size,data:=o.data,slots:=o.slots })=h2;have ga:h2.get? a=some ⟨.ref C,some s.heap.objs.size,.fields vs,jK⟩:=by
  rw [<-eh];exact wF _ hx1 rfl
 have gd:h2.get? s.heap.objs.size=some { cls:=.type "dict",data:=.dict #[] }:=by
  rw [<-eh];exact (Heap.get?_update_ne _ _ _ _ hda.symm).trans (Heap.get?_push_at rfl rfl)
 have go:∀ b o,b≠a->s.heap.get? b=some o->h2.get? b=some o:=fun b o n q=>by
  rw [<-eh];exact (Heap.get?_update_ne _ _ _ _ n).trans (zR _ q)
 have jS:h2.Ns s.heap.objs.size (fun _=>none):=⟨_,#[],_,gd,rfl,fun e he=>absurd he (by simp),fun _=>rfl⟩
 show aD _ _ (Builtin.ObjectAttr.storeInDict s.heap.objs.size (.str f s.toks) f u) _ _ _;unfold Builtin.ObjectAttr.storeInDict Builtin.ObjectAttr.newKeyGuard;refine aa (ad (aa (wpAny_nsSet1 (Heap.Ns1.of_empty jS) fun h' hn' hs=>?_)));obtain ⟨oD,esD,epD,hoD,hdD,hcD⟩:=hn'.count (Within.cons f u Within.nil);refine aa (wpAny_lookBehind hoD (by rw [hdD];exact pastItsLine_dict (yK hcD (by rw [zI,xD,sizeLine_eq];lia))) ?_)
 have ga':h'.get? a=some ⟨.ref C,some s.heap.objs.size,.fields vs,jK⟩:=(hs.2 a hda).trans ga;have go':∀ b o,b≠a->s.heap.get? b=some o->h'.get? b=some o:=fun b o n q=>(hs.2 b (yY (zS q))).trans (go b o n q);have nt:∀{b:aj}{o:HO},H b=some o->b≠s.heap.objs.size:=fun{b o} q z=>by rw [z,hHd] at q;cases q
 have na:∀{b:aj},H b=none->b≠a:=fun{b} q z=>by rw [z,e] at q;cases q
 refine ad (h s.heap.objs.size _ hHd hda.symm (I.call' (s':={ s with heap:=h',toks:=_ }) (ch:=[]) rfl ⟨fun b o q n _ _=>go' b o (na n) q,fun b o q n _ _=>⟨o.slots,go' b o (na n) q⟩,fun b o q n _=>?_,fun b o q _=>?_,fun b xs q=>?_,fun b o u q=>?_,fun b ps q=>?_⟩ (fun b ob q=>?_) I.bare (fun b hb=>absurd hb (by simp))))
 ·rw [ZV (na n),ZV (yY (zS q))];exact n
 ·by_cases z:b=a
  ·rw [z];exact ⟨_,ga'⟩
  ·exact ⟨o,go' b o z q⟩
 ·rw [ZV (fun z=>by rw [z,e] at q;cases q),ZV (nt q)];exact q
 ·rw [ZV (fun z=>by rw [z,e] at q;cases q),ZV (nt q)];exact q
 ·exact ⟨#[],by rw [ZV (fun z=>by rw [z,e] at q;cases q),ZV (nt q),q];simp⟩
 ·by_cases z:b=a
  ·rw [z,ZP] at q;cases q;rw [z];exact Mv ⟨_,_,ga',rfl,rfl,rfl,hgv⟩
  ·rw [ZV z] at q;by_cases z2:b=s.heap.objs.size
   ·rw [z2,ZP] at q;cases q;rw [z2];refine ⟨_,hn',fun g=>?_⟩;show Yj (xU g [(f,y)]) (if g=f then some u else none)
    by_cases hg:g=f
    ·rw [hg,aP rfl];simp only [xU,beq_self_eq_true];exact ry
    ·rw [aO hg];simp only [xU,beq_eq_false_iff_ne.mpr hg];exact True.intro
   ·rw [ZV z2] at q;have oc:∀{c:aj},H c=some (.own b)->c≠a:=fun{c} hc z=>by rw [z,e] at hc;cases hc
    refine (I.hok b ob q).stay (fun c u hc r=>go' c u ?_ r) (fun c hc=>?_) (fun c xs hc=>?_)
    ·rcases hc with rfl | hc
     ·exact z
     ·exact oc hc
    ·rw [ZV (oc hc),ZV (nt hc)];exact hc
    ·rw [ZV (fun z=>by rw [z,e] at hc;cases hc),ZV (nt hc)];exact hc
theorem C4{b:Bool}{dx:aj}{fs:List (Str×V)}{Q:jb}(I:ZH X pins σ H s)(e:H a=some (XO g a C (some dx)))(d:H dx=some (.xd fs))(c:Wu X.K C fI f)(l:fs.lookup f=some v)(h:∀ u s',ZH X pins σ H s'->ZT v u->Q u s'):aD (aC X.prog X.w) A (getAttr (.ref a) f b) Q E s:=by
 obtain ⟨o,vs,hx,hc,hda,hdi,hgv⟩:=id (I.hok a _ e).1;obtain ⟨mA,hns,hrel⟩:=I.hok dx _ d;obtain ⟨u,hu,ru⟩:=Yj.some_of (v:=v) (o:=mA f) (by rw [<-l];exact hrel f)
 obtain ⟨od,hod,hlk⟩:=J9 hns;have J:sC s.heap a o C (some od):=⟨hx,hc,by unfold PySem.W.notCls;rw [hda],by rw [hdi];exact hod⟩
 obtain ⟨cd,jD,hhd⟩:=uG c.hd;have L:yM (aC X.prog X.w) s.heap (Builtin.ObjectAttr.inOwnDict f (.ref a)) (some u):=PySem.W.looks_own I.kIn J jD (by unfold PySem.W.ownOf;rw [hhd,aP rfl];show vI f od=_;rw [hlk,hu])
 have F:yM (aC X.prog X.w) s.heap (Builtin.ObjectAttr.find (.ref a) (.ref C) f) (.value u):=by
  refine yM.andThen (tW I.kIn c.no) (yM.andThen .now (yM.andThen .now ?_));exact yM.andThen L (yM.tag yM.now)
 refine aa (wpAny_mkText ?_);refine JD (s:={ s with toks:=s.toks+1 }) I.kIn (I.hok a _ e).1.is c.exc F ⟨Hr ru,h u _ (I.tok _) ru⟩
end
section
variable{prog:ao}{w:ay}{A:az}{E:jb}{s:am}{K:zZ}{C fI:aj}{f:Str}
abbrev Qg(h:aF)(C:aj)(us:je):Heap:=(h.push { cls:=.type "tuple",data:=.seq us.toArray }).push { cls:=.ref C,data:=.fields #[.ref h.objs.size,.none,.none,.none,.bool false,.none] }
theorem Cz{us:je}{Q:jb}(X:K.In s.heap)(c:Wu K C fI f)(hus:us.length<=aw)(h:aD (aC prog w) (A.under (.builtin "type.__call__" ⟨.ref C :: us,[]⟩)) (call (.ref fI) (.ref (s.heap.objs.size+1) :: us)) (fun r s'=>r=.none/\Q (.ref (s.heap.objs.size+1)) s') E { s with heap:=Qg s.heap C us }):
  aD (aC prog w) A (call (.ref C) us) Q E s:=by
 obtain ⟨hh,g,d,t,os⟩:=s;have n:=c.made;unfold Kd at n;split at n
 next tt dd cd sl ho=>
  split at n
  next k0 k1 k2 k3 made k5 D up hs hm=>
   simp only [zQ,beq_iff_eq,Bool.not_eq_true'] at n;obtain ⟨rfl,rfl,rfl,ht,hdel⟩:=n;obtain ⟨nm,bs,mro,ns,qn,hd,sn,sub,ab,col,del⟩:=cd;dsimp only at hm hdel;subst hm hdel;obtain ⟨sll⟩:=sl;dsimp only at hs;subst hs;have hC:hh.get? D=some (excClassObj nm qn D ns bs up hd sn sub ab col dd k0 k1 k2 k3 k5 "ValueError.__new__"):=X _ _ ho;have T:OwnTail hh Q8 up:=rP X ht;have FB:=qP;have f1:=tc_lookup;have f2:=tc_bind (.ref D);have hT:(⟨hh,g,d,t,os⟩:am).TypeIs (.ref D) "type" :=⟨_,hC,rfl⟩;refine wpAny_call (codeAny_of_tree (show aD _ _ (callAny (.ref D) _) _ _ _ from ?_))
   repeat (any_goals (first | assumption | with_reducible refine wpAny_loadPart_at hC ?_ | wp_step))
   refine ⟨rfl,codeAny_call_builtin_at (Code.quiet_builtin _ (by decide +kernel)) entry_typeCall (wpAny_check_type_call_sub hC ?_)⟩
   repeat (first | with_reducible refine wpAny_loadPart_at hC ?_ | with_reducible refine wpAny_madeBy_exc hC ?_ | wp_step)
   refine codeAny_call_builtin_code (Code.quiet_builtin _ FB.quiet) (wpAny_check_new_subU FB FB.hasB T hC (codeAny_exc_new_subU FB FB.hasB FB T hC ?_ hus));show aD _ _ _ _ _ _;have e1:(Qg hh D us).get? (hh.objs.size+1)=some { cls:=.ref D,data:=.fields #[.ref hh.objs.size,.none,.none,.none,.bool false,.none] }:=by heap_get
   have kk:∀ b o,hh.get? b=some o->(Qg hh D us).get? b=some o:=fun b o q=>zR _ (zR _ q);have hC1:=kk _ _ hC;have hin:(Value.ref D :: up).contains (.ref D)=true:=by simp
   unfold isInstance;show aD _ _ _ _ _ ⟨Qg hh D us,g,d,t,os⟩
   repeat (first | with_reducible refine wpAny_loadPart_at e1 ?_ | wp_step)
   refine wpAny_isSubtype_exc (C:=D) (h:=Qg hh D us) hC1 ?_;rw [hin]
   repeat wp_step
   have X1:K.In (Qg hh D us):=fun b o q=>kk b o (X b o q);show aD _ _ (typeLookup (.ref D) _) _ _ _;refine (tW X1 c.init).at ?_;refine af (aa ((PySem.W.bind_fn X1 _ (beq_iff_eq.mp c.fn)).at ?_));refine aa (ae h (fun r s' hr=>?_) fun _ _ z=>z);obtain ⟨rfl,hQ⟩:=hr
   wp_walk
   exact hQ
  next=>cases n
 next=>cases n
end
def Oq(H:Hp)(ea C:aj):Prop:=∃ φ,H ea=some (.ext φ)/\∀ h,φ h->WD ea C h
theorem Gn{g:Array ai->Prop}{H:Hp}{ea C:aj}{od:Option aj}(e:H ea=some (XO g ea C od)):Oq H ea C:=⟨_,e,fun _ h=>h.is⟩
def Oi(K:zZ):jf->Hp->VK->Prop:=fun xs H Q=>∃ ea C c b,xs=[.ref ea,c]/\Oq H ea C/\X0 K C/\GZ c=true/\yX K (.ref C) (cV c)=some b/\Q (.bl b) H
def EA(K:zZ)(ta tv:TE)(f:Str):TS:=fun D σ H=>tv σ H fun y H1=>ta σ H1 fun x H2=>∃ g a C fI,x=.ref a/\H2 a=some (XO g a C none)/\Wu K C fI f/\∀ dx,H2 dx=none->dx≠a->D.nx σ (upd (upd H2 dx (.xd [(f,y)])) a (XO g a C (some dx)))
def G1(K:zZ)(ta:TE)(f:Str):TE:=fun σ H Q=>ta σ H fun x H1=>∃ g a C dx fs v fI,x=.ref a/\H1 a=some (XO g a C (some dx))/\H1 dx=some (.xd fs)/\Wu K C fI f/\fs.lookup f=some v/\Q v H1
def On(K:zZ)(C fI:aj)(f:Str):Sp:=fun vs H Q _=>Wu K C fI f/\∃ ea y,vs=[.ref ea,y]/\H ea=some (XO QM ea C none)/\∀ dx,H dx=none->dx≠ea->Q .non (upd (upd H dx (.xd [(f,y)])) ea (XO QM ea C (some dx)))
section
variable{X:Cx}
theorem NM:VW X (.builtin "isinstance") (Oi X.K):=by
 intro pins s σ H xs us Q I r h;obtain ⟨ea,C,c,b,rfl,⟨φ,e,of⟩,EC,hc,hk,q⟩:=h;obtain ⟨u,w',rfl,ru,rw'⟩:=O7 r;cases (show u=Value.ref ea from ru);rw [ZON rw' hc];exact xV (B8 EC) I.kIn (of _ (I.hok ea _ e).1) hk (fun z=>nomatch z) fun tk=>⟨.bl b,H,I.tok tk,rfl,q⟩
variable{C fI:aj}{f:Str}{e o value:Expr}{es:List Expr}{ta tv:TE}{t:TA}{pos pos' p:Pos}{x:Str}
theorem Ir(ha:PE X o ta)(hv:PE X value tv)(hs:swapsWith value (some (.Attribute o f pos')) pos.line X.env=pure false):PS X (.Assign [.Attribute o f pos'] value pos) (EA X.K ta tv f):=by
 intro pins s σ H D I h;refine plainObj_wpAny_Assign_Attribute (Zc (hv pins s σ H _ I h) fun u s1 ⟨y,H1,I1,ry,q⟩=>Zc (ha pins s1 σ H1 _ I1 q) fun ov s2 ⟨x,H2,I2,rx,g,a,C,fI,ex,ea,c,q2⟩=>?_) hs;subst ex;obtain rfl:ov=Value.ref a:=rx;exact B0 I2 ea c ry fun dx s' hd hn I3=>⟨σ,_,I3,q2 dx hd hn⟩
theorem EN(he:PE X e ta)(hb:attributeBase e f X.env (aI e X.env)=aI e X.env):PE X (.Attribute e f pos) (G1 X.K ta f):=by
 intro pins s σ H Q I h;refine Ht hb (Zc (he pins s σ H _ I h) fun u s1 ⟨x,H1,I1,rx,g,a,C,dx,fs,v,fI,ex,ea,ed,c,l,q⟩=>?_);subst ex;obtain rfl:u=Value.ref a:=rx;exact C4 I1 ea ed c l fun u s' I2 ru=>⟨v,H1,I2,ru,q⟩
theorem ZH.newx{pins:List (aj×aJ)}{σ:St}{H:Hp}{s:am}{h':aF}{ea:aj}(I:ZH X pins σ H s)(keeps:∀ b o,s.heap.get? b=some o->h'.get? b=some o)(n:s.heap.get? ea=none)(hx:VO QM ea C none h'):ZH X pins σ (upd H ea (XO QM ea C none)) { s with heap:=h' }:=by
 have hn:H ea=none:=by
  cases z:H ea with
  | none=>rfl
  | some o=>
   obtain ⟨o',q⟩:=I.hok.there (a:=ea) (by rw [z];exact fun y=>nomatch y)
   rw [n] at q;cases q
 have nt:∀{b:aj}{o:HO},H b=some o->b≠ea:=fun{b o} q z=>by rw [z,hn] at q;cases q
 refine I.call' (s':={ s with heap:=h' }) (ch:=[]) rfl ⟨fun b o q _ _ _=>keeps b o q,fun b o q _ _ _=>⟨o.slots,keeps b o q⟩,fun b o q z _=>?_,fun b o q _=>⟨o,keeps b o q⟩,fun b xs q=>?_,fun b o u q=>?_,fun b ps q=>⟨#[],?_⟩⟩ (fun b ob q=>?_) I.bare (fun b hb=>absurd hb (by simp))
 ·rw [ZV (fun y=>by rw [y,n] at q;cases q)];exact z
 ·rw [ZV (nt q)];exact q
 ·rw [ZV (nt q)];exact q
 ·rw [ZV (nt q),q];simp
 ·by_cases z:b=ea
  ·rw [z,ZP] at q;cases q;rw [z];exact Mv hx
  ·rw [ZV z] at q;exact (I.hok b ob q).stay (fun c u _ r=>keeps c u r) (fun c hc=>by rw [ZV (nt hc)];exact hc) (fun c xs hc=>by rw [ZV (nt hc)];exact hc)
end
theorem FV(f:Array ai->Array ai)(o:aJ):(Obj.mapFields f o).dict=o.dict:=by
 obtain ⟨c,d,da,sl⟩:=o;cases da <;> rfl
def Fd(h B:aF)(e:aj)(cls:ai)(od:Option aj)(fl:ai):Prop:=
 ∃ oe vs T oT ts,(h.get? e=some oe/\oe.cls=cls/\oe.dict=od/\oe.data=.fields vs/\vs[1]? = some (.ref T))/\B.get? T=none/\T≠e/\h.get? T=some oT/\oT.data=.fields ts/\ts[3]? = some fl
def VV(B:aF)(l:List Env)(e:aj)(cls:ai)(od:Option aj)(fl:ai)(h:aF):Prop:=B.StaysIn h/\B.get? e=none/\h.FunFrames B l/\Fd h B e cls od fl
theorem VV.at{B h:aF}{l:List Env}{e C:aj}{od:Option aj}{fl:ai}(x:VV B l e (.ref C) od fl h):VO UF e C od h:=by
 obtain ⟨_,_,_,oe,vs,T,oT,ts,⟨a,b,c,d,_⟩,_⟩:=x;exact ⟨oe,vs,a,b,d,c,trivial⟩
section
variable{M:Model}{A:az}{E:jb}{s:am}{B:aF}{env:Env}{outer l:List Env}{L e:aj}{cls:ai}{od:Option aj}{Q:Unit->am->Prop}
theorem Iq{oe:aJ}{vs:Array ai}{first:ai}{nx:Bool}(fr:A.frames=some (env :: outer))(ff:s.heap.FunFrames B (env :: outer))(eL:env.frame=some L)(ge:s.heap.get? e=some oe)(sb:B.StaysIn s.heap)(eB:B.get? e=none)(dd:oe.data=.fields vs)(two:1<vs.size)(h:∀ h',VV B (env :: outer) e oe.cls oe.dict (rawInt L) h'->s.heap.UpToSlots h'->Q () { s with heap:=h' }):
  aD M A (frameOf env >>= fun a=>entryPlaceOf L nx >>= fun pl=>EntryCells.newEntry first a .none (rawInt L) .none pl >>= fun b=>setField (.ref e) 1 b) Q E s:=by
 have en:e∉(env :: outer).filterMap (·.frame):=fun z=>by
  obtain ⟨_,o,g1,g2⟩:=ff.mem z;rw [ge] at g1;cases g1;exact g2 vs dd
 refine aa (wpAny_frameOf_fun fr ff eL fun h1 k1=>aa (wpAny_entryPlaceOf fun pl kp=>?_));unfold EntryCells.newEntry newFields;refine aa (wpAny_newObj_type ?_ (kp.sizeOk5 _ _ _ _ _));have t3:([first,Value.ref L,.none,rawInt L,.none]++(if pl.isEmpty then wR 6 Value.none else pl)).toArray[3]? = some (rawInt L):=by
  first | (simp;done) | (rcases kp with rfl | ⟨_,_,_,_,_,_,_,rfl⟩ <;> simp)
 generalize ([first,Value.ref L,.none,rawInt L,.none]++(if pl.isEmpty then wR 6 Value.none else pl)).toArray=ts at t3 ⊢;have g1:h1.get? e=some oe:=(k1.2.1 e en).trans ge;have sb1:B.StaysIn h1:=fun b o q=>(k1.2.1 b fun z=>by rw [(ff.mem z).1] at q;cases q).trans (sb b o q)
 have eT:h1.objs.size≠e:=fun z=>wT _ (by have:=zS g1;rw [<-z] at this;exact this)
 have g2:=zR (h:=h1) ({ cls:=.type "traceback",dict:=none,data:=.fields ts }:aJ) g1;have d3:=Obj.data_mapFields dd (·.setIfInBounds 1 (Value.ref h1.objs.size));have g3:=wF (Obj.mapFields (·.setIfInBounds 1 (Value.ref h1.objs.size))) g2 (Obj.isFreed_of_fields d3);have gT:=(wD (h1.push ({ cls:=.type "traceback",dict:=none,data:=.fields ts }:aJ)) (Obj.mapFields (·.setIfInBounds 1 (Value.ref h1.objs.size))) eT.symm).trans (yS h1 rfl);have stay:∀ b o,b≠e->h1.get? b=some o->((h1.push ({ cls:=.type "traceback",dict:=none,data:=.fields ts }:aJ)).update e (Obj.mapFields (·.setIfInBounds 1 (Value.ref h1.objs.size)))).get? b=some o:=fun b o n q=>
  (wD _ _ n.symm).trans (zR _ q)
 have notE:∀ b o,s.heap.get? b=some o->(∀ ws,o.data≠.fields ws)->b≠e:=fun b o q nf z=>by
  rw [z,ge] at q;cases q;exact nf vs dd
 refine wpAny_setField g2 dd two (h _ ⟨fun b o q=>stay b o (fun z=>by rw [z,eB] at q;cases q) (sb1 b o q),eB,ff.of_keeps fun b o q nf=>?_,_,_,h1.objs.size,_,_,⟨g3,Obj.cls_mapFields _ _,FV _ _,d3,by simp [two]⟩,sb1.fresh,eT,gT,rfl,t3⟩ fun b o q nf=>?_)
 ·obtain ⟨sl,z⟩:=k1.2.2 b o q;exact ⟨_,stay b _ (notE b o q nf) z,rfl⟩
 ·obtain ⟨sl,z⟩:=k1.2.2 b o q;exact ⟨sl,stay b _ (notE b o q nf) z⟩
theorem P2{fl:ai}(x:VV B l e cls od fl s.heap)(h:∀ h',VV B l e cls od .none h'->s.heap.UpToSlots h'->Q () { s with heap:=h' }):aD M A (setFlight (.ref e) none) Q E s:=by
 obtain ⟨sb,eB,ff,oe,vs,T,oT,ts,⟨ge,c1,c2,dd,v1⟩,TB,Te,gT,dT,t3⟩:=x;have n3:3<ts.size:=(uW.mp t3).1;have far:∀ b,b≠T->(s.heap.update T (Obj.mapFields (·.setIfInBounds 3 ((none:Option aj).elim Value.none fun f=>rawInt f)))).get? b=s.heap.get? b:=fun b n=>wD _ _ n.symm;have notT:∀ b o,s.heap.get? b=some o->(∀ ws,o.data≠.fields ws)->b≠T:=fun b o q nf z=>by
  rw [z,gT] at q;cases q;exact nf ts dT
 unfold setFlight;refine aa (wpAny_field ge dd v1 ?_);rw [aP (show (Value.ref T != Value.none)=true by simp)]
 refine wpAny_setField gT dT n3 (h _ ⟨fun b o q=>(far b fun z=>by rw [z,TB] at q;cases q).trans (sb b o q),eB,ff.of_keeps fun b o q nf=>⟨o,(far b (notT b o q nf)).trans q,rfl⟩,?_⟩ fun b o q nf=>⟨o.slots,(far b (notT b o q nf)).trans q⟩)
 exact ⟨oe,vs,T,_,_,⟨(far e Te.symm).trans ge,c1,c2,dd,v1⟩,TB,Te,wF _ gT (Obj.isFreed_of_fields (Obj.data_mapFields dT _)),Obj.data_mapFields dT _,by simp [n3]⟩
theorem ZIM{oe:aJ}{vs:Array ai}(fr:A.frames=some (env :: outer))(ff:s.heap.FunFrames B (env :: outer))(eL:env.frame=some L)(ge:s.heap.get? e=some oe)(sb:B.StaysIn s.heap)(eB:B.get? e=none)(dd:oe.data=.fields vs)(v1:vs[1]? = some .none)(h:∀ h',VV B (env :: outer) e oe.cls oe.dict (rawInt L) h'->s.heap.UpToSlots h'->Q () { s with heap:=h' }):aD M A (noteFrame (.ref e) env) Q E s:=by
 unfold noteFrame;simp only [eL];refine aa (wpAny_field ge dd v1 ?_);rw [aO (by decide)]
 exact Iq fr ff eL ge sb eB dd (uW.mp v1).1 h
theorem Ma(fr:A.frames=some (env :: outer))(eL:env.frame=some L)(x:VV B (env :: outer) e cls od .none s.heap)(h:∀ h',VV B (env :: outer) e cls od (rawInt L) h'->s.heap.UpToSlots h'->Q () { s with heap:=h' }):
  aD M A (noteFrame (.ref e) env) Q E s:=by
 obtain ⟨sb,eB,ff,oe,vs,T,oT,ts,⟨ge,c1,c2,dd,v1⟩,TB,Te,gT,dT,t3⟩:=x;subst c1 c2;have n3:3<ts.size:=(uW.mp t3).1;have far:∀ b,b≠T->(s.heap.update T (Obj.mapFields (·.setIfInBounds 3 Value.none))).get? b=s.heap.get? b:=fun b n=>wD _ _ n.symm;have notT:∀ b o,s.heap.get? b=some o->(∀ ws,o.data≠.fields ws)->b≠T:=fun b o q nf z=>by
  rw [z,gT] at q;cases q;exact nf ts dT
 unfold noteFrame;simp only [eL];refine aa (wpAny_field ge dd v1 ?_);rw [aP (show (Value.ref T != Value.none)=true by simp)]
 refine aa (wpAny_field gT dT t3 ?_);rw [aO (show ¬ ((Value.none==rawInt L)=true) by simp [rawInt])]
 refine aa (wpAny_setField gT dT n3 ?_);refine Iq (s:={ s with heap:=_ }) fr (ff.of_keeps fun b o q nf=>⟨o,(far b (notT b o q nf)).trans q,rfl⟩) eL ((far e Te.symm).trans ge) (fun b o q=>(far b fun z=>by rw [z,TB] at q;cases q).trans (sb b o q)) eB dd (uW.mp v1).1 fun h' f' u'=>h h' f' fun b o q nf=>?_
 exact u' b o ((far b (notT b o q nf)).trans q) nf
theorem VV.less{fl:ai}{h:aF}(x:VV B (env :: outer) e cls od fl h):VV B outer e cls od fl h:=by
 obtain ⟨a,b,⟨_,_,c⟩,d⟩:=x;exact ⟨a,b,c,d⟩
theorem ZHm(fr:A.frames=some (env :: outer))(eL:env.frame=some L)(x:VV B (env :: outer) e cls od .none s.heap)(h:∀ h',VV B outer e cls od .none h'->s.heap.UpToSlots h'->Q () { s with heap:=h' }):aD M A (leaving env (.ref e)) Q E s:=by
 unfold leaving;exact aa (Ma fr eL x fun h1 f1 u1=>P2 (s:={ s with heap:=h1 }) f1 fun h2 f2 u2=>h h2 f2.less (u1.trans u2))
theorem Fi{oe:aJ}{vs:Array ai}(fr:A.frames=some (env :: outer))(ff:s.heap.FunFrames B (env :: outer))(eL:env.frame=some L)(ge:s.heap.get? e=some oe)(sb:B.StaysIn s.heap)(eB:B.get? e=none)(dd:oe.data=.fields vs)(v1:vs[1]? = some .none)(h:∀ h',VV B outer e oe.cls oe.dict .none h'->s.heap.UpToSlots h'->Q () { s with heap:=h' }):aD M A (leaving env (.ref e)) Q E s:=by
 unfold leaving;exact aa (ZIM fr ff eL ge sb eB dd v1 fun h1 f1 u1=>P2 (s:={ s with heap:=h1 }) f1 fun h2 f2 u2=>h h2 f2.less (u1.trans u2))
end
theorem Jx{prog:ao}{w:ay}{A:az}{E:jb}{s:am}{env:Env}{K:zZ}{C:aj}{x:Sem ai}{Q:Flow->am->Prop}(hh:A.handled=none)(mB:yW K C (.type "BaseException")=some true)(ht:yE K (.ref C)=some (.type "type"))(h:aD (aC prog w) A x (fun v s1=>∃ e od,v=.ref e/\K.In s1.heap/\VO QM e C od s1.heap/\E (.ref e) s1) E s):aD (aC prog w) A (raiseStmt env (some x) none) Q E s:=by
 unfold raiseStmt;refine aa (ae h (fun v s1 h1=>?_) fun _ _ z=>z);obtain ⟨e,od,rfl,KX,⟨⟨oc,od',oda,jK⟩,vs,ge,c1,c2,c3,v1⟩,hE⟩:=h1;dsimp only at c1 c2 c3;subst c1 c2 c3;obtain ⟨hp,g,d,tk,os⟩:=s1;have L0:yM (aC prog w) hp (typeOf (.ref e)) (.ref C):=WD.ty ⟨_,ge,rfl⟩ _;have L1:=tZ (M:=aC prog w) KX mB;have L3:=rE (M:=aC prog w) KX ht;have ge':hp.get? e=some ⟨.ref C,od',.fields vs,jK⟩:=ge;unfold excFromValue isExcClass isInstance isType raisedInstance setFlight
 repeat (first | with_reducible refine wpAny_loadPart_at ge' ?_ | with_reducible refine L1.at ?_ | with_reducible refine L0.at ?_ | with_reducible refine L3.at ?_ | wp_step)
 rw [show vs[1]? = some Value.none from v1]
 repeat wp_step
 all_goals first | exact wpAny_raiseNew_none hh hE | trace_state
structure Ub(P:ao)(w:ay)(outer:List Env)(H:Hp)(s:am)(ea:aj)(cls:ai)(od:Option aj)(H':Hp)(s':am):Prop where
 ex:∃ B:aF,VV B outer ea cls od .none s'.heap/\(∀ b o,s'.heap.get? b=some o->H' b≠none->B.get? b=some o)/\(∀ b o,s.heap.get? b=some o->H b=none->b∉frs outer->B.get? b=some o)/\(∀ b o,s.heap.get? b=some o->b∉frs outer->∃ o',B.get? b=some o')
 os:s'.os=s.os
 bare:AllBare s'.gens
 un:Un (frs outer) [] H H' s.heap s'.heap
 hok:Ye P w H' s'.heap
 new:s.heap.get? ea=none
 free:H' ea=none
def XD(P:ao)(w:ay):VS:=fun outer H s E e s'=>∃ ea cls od H',e=.ref ea/\Ub P w outer H s ea cls od H' s'/\E cls od H'
structure V8(X:Cx)(E:XK):Prop where
 stack:X.stack=X.env :: X.outer
 frame:X.env.frame=some X.env.locals
 ex:X.ex=[]
 calm:X.calm=true
 xe:∀ e s',aD (aC X.prog X.w) X.A (leaving X.env e) (fun _ s''=>XD X.prog X.w X.outer X.H₀ X.s₀ E e s'') (fun e' s''=>XD X.prog X.w X.outer X.H₀ X.s₀ E e' s'') s'->X.xe e s'
theorem Wt{P:ao}{w:ay}{K:zZ}{mg:jc}{base:aF}{N:List Str}{qual:Str}{scope:aG}{f:aj}{cdv:ai}{A:az}{outer:List Env}{s:am}{H:Hp}{E:XK}:
  V8 (X9 (XD P w) P w K mg base N qual scope f cdv A outer s H E) E:=⟨rfl,rfl,rfl,rfl,fun _ _ h=>h⟩
section
variable{X:Cx}{pins:List (aj×aJ)}{σ:St}{H H':Hp}{s s':am}{E:XK}
theorem V8.frs(F:V8 X E):frs X.stack=X.env.locals :: X.fs:=by
 rw [F.stack];show List.filterMap _ (X.env :: X.outer)=_;rw [wG,F.frame];rfl
theorem V8.off(F:V8 X E)(I:ZH X pins σ H s){b:aj}{o:aJ}(q:X.s₀.heap.get? b=some o)(n:b∉L2.frs X.outer):b∉L2.frs X.stack:=fun z=>by
 rw [F.frs] at z;rcases zB.mp z with z | z
 ·rw [z,I.noloc] at q;cases q
 ·exact n z
theorem V8.on(F:V8 X E){b:aj}(n:b∈L2.frs X.outer):b∈L2.frs X.stack:=by
 rw [F.frs];exact zH _ n
theorem ZO3{B h3:aF}{ea:aj}(F:V8 X E)(J:ZH X pins σ H s)(st:B.StaysIn h3)(inB:∀ b o,b≠ea->s.heap.get? b=some o->b∉L2.frs X.stack->B.get? b=some o)(sm:s.heap.UpToSlots h3)(new:X.s₀.heap.get? ea=none):
  Un (L2.frs X.outer) [] X.H₀ H X.s₀.heap h3:=by
 have bb:=J.base;rw [F.ex] at bb;have ne:∀{b:aj}{o:aJ},X.s₀.heap.get? b=some o->b≠ea:=fun q z=>by rw [z,new] at q;cases q
 have nf:∀{b:aj}{o:aJ},b∈L2.frs X.stack->s.heap.get? b=some o->∀ vs,o.data≠.fields vs:=fun hb q=>KN J _ hb _ q;refine ⟨fun b o q n hb _=>st b o (inB b o (ne q) (bb.keep b o q n hb (by simp)) (F.off J q hb)),fun b o q n hb _=>?_,bb.free,fun b o q _=>?_,bb.tups,bb.frzs,bb.tbls⟩
 ·obtain ⟨sl,e1⟩:=bb.slot b o q n hb (by simp)
  obtain ⟨jG,e2⟩:=sm b _ e1 (nf (F.on hb) e1);exact ⟨jG,e2⟩
 ·obtain ⟨o',q'⟩:=bb.there b o q (by simp)
  by_cases hb:b∈L2.frs X.stack
  ·obtain ⟨sl,e1⟩:=sm b o' q' (nf hb q');exact ⟨_,e1⟩
  ·exact ⟨o',st b o' (inB b o' (ne q) q' hb)⟩
theorem ZH.untrack{a:aj}{φ:aF->Prop}(I:ZH X pins σ (upd H a (.ext φ)) s)(hn:H a=none):ZH X pins σ H s:=by
 have nt:∀{b:aj}{u:HO},H b=some u->b≠a:=fun{b u} e z=>by rw [z,hn] at e;cases e
 have dn:∀{b:aj},upd H a (.ext φ) b=none->H b=none:=fun{b} e=>by
  by_cases z:b=a
  ·rw [z];exact hn
  ·rw [ZV z] at e;exact e
 have dt:∀{b:aj}{u:HO},upd H a (.ext φ) b=some u->(∀ ψ,u≠.ext ψ)->H b=some u:=fun{b u} e k=>by
  by_cases z:b=a
  ·rw [z,ZP] at e;exact absurd (zD.inj e).symm (k φ)
  ·rw [ZV z] at e;exact e
 refine ⟨I.ok,I.os,I.bare,⟨I.base.keep,I.base.slot,fun b ob q n hx=>dn (I.base.free b ob q n hx),I.base.there,fun b xs q=>dt (I.base.tups b xs q) (fun _ z=>nomatch z),fun b ob u q=>dt (I.base.frzs b ob u q) (fun _ z=>nomatch z),fun b ps q=>?_⟩,I.loc,I.cell,dn I.free,fun x c e=>dn (I.freeC x c e),fun p hp'=>?_,fun b u e=>?_,I.len⟩
 ·obtain ⟨more,e⟩:=I.base.tbls b ps q;exact ⟨more,dt e (fun _ z=>nomatch z)⟩
 ·obtain ⟨e,n,r⟩:=I.pin p hp';exact ⟨e,dn n,r⟩
 ·have e2:upd H a (.ext φ) b=some u:=by rw [ZV (nt e)];exact e
  exact (I.hok b u e2).stay (fun _ _ _ q=>q) (fun c q=>dt q (fun _ z=>nomatch z)) fun c xs q=>dt q (fun _ z=>nomatch z)
theorem Hn{ea C:aj}{od:Option aj}(F:V8 X E)(J:ZH X pins σ H s)(new:X.s₀.heap.get? ea=none)(hn:H ea=none)(hx:VO QM ea C od s.heap)(hE:E (.ref C) od H):X.xe (.ref ea) s:=by
 obtain ⟨oe,vs,ge,c1,c2,c3,v1⟩:=hx;have fr:X.A.frames=some (X.env :: X.outer):=by rw [J.ok.frames,F.stack]
 have ff:s.heap.FunFrames (uU s.heap (ea :: L2.frs X.stack)) (X.env :: X.outer):=by
  have:=PySem.W.funFrames_hide (as:=ea :: L2.frs X.stack) J.stack (fun env he a ha=>zH _ (uE.mpr ⟨env,he,ha⟩));rw [F.stack] at this ⊢;exact this
 have inB:∀ b o,b≠ea->s.heap.get? b=some o->b∉L2.frs X.stack->(uU s.heap (ea :: L2.frs X.stack)).get? b=some o:=fun b o n q hb=>rJ _ q (fun z=>by
  rcases zB.mp z with z | z
  ·exact n z
  ·exact hb z)
 have inT:∀ b o,s.heap.get? b=some o->H b≠none->(uU s.heap (ea :: L2.frs X.stack)).get? b=some o:=fun b o q n=>inB b o (fun z=>n (by rw [z];exact hn)) q fun z=>n (J.stkFree b z)
 have eB:(uU s.heap (ea :: L2.frs X.stack)).get? ea=none:=rG _ (by simp)
 refine F.xe _ _ (Fi fr ff F.frame ge (fun b o q=>rQ _ q) eB c2 v1 fun h3 fl sm=>?_);rw [c1,c3] at fl;refine ⟨ea,_,od,H,rfl,⟨⟨_,fl,fun b o q n=>?_,fun b o q n hb=>?_,fun b o q hb=>?_⟩,J.os,J.bare,ZO3 F J fl.1 inB sm new,J.hok.keptT fun b o q n=>fl.1 b o (inT b o q n),new,hn⟩,hE⟩
 ·obtain ⟨o',q'⟩:=J.hok.there n;have q2:=fl.1 b o' (inT b o' q' n);have q3:h3.get? b=some o:=q;rw [q2] at q3;rw [<-zD.inj q3];exact inT b o' q' n
 ·have bb:=J.base;rw [F.ex] at bb;exact inB b o (fun z=>by rw [z,new] at q;cases q) (bb.keep b o q n hb (by simp)) (F.off J q hb)
 ·obtain ⟨o',q'⟩:=J.base.there b o q (by rw [F.ex];simp)
  exact ⟨o',inB b o' (fun z=>by rw [z,new] at q;cases q) q' (F.off J q hb)⟩
theorem NL{E1:XK}(F:V8 X E)(hE:∀ cls o H,E1 cls o H->E cls o H):QJ (XD X.prog X.w) X E1:=by
 intro pins σ H s e s' I h;obtain ⟨ea,cls,od,H',rfl,W,q⟩:=h;obtain ⟨B,fl,inT,inB,inA⟩:=W.ex;have fr:X.A.frames=some (X.env :: X.outer):=by rw [I.ok.frames,F.stack]
 refine F.xe _ _ (ZHm fr F.frame (by rw [<-F.stack];exact fl) fun h2 fl2 sm=>?_)
 have bb:=I.base;rw [F.ex] at bb;have nf:∀{b:aj}{o:aJ},b∈L2.frs X.stack->s.heap.get? b=some o->∀ vs,o.data≠.fields vs:=fun hb q=>KN I _ hb _ q;have toB:∀ b o,X.s₀.heap.get? b=some o->X.H₀ b=none->b∉L2.frs X.outer->B.get? b=some o:=fun b o q n hb=>inB b o (bb.keep b o q n hb (by simp)) (bb.free b o q n (by simp)) (F.off I q hb)
 have jG:∀ b o,s.heap.get? b=some o->b∈L2.frs X.stack->∃ sl,h2.get? b=some { o with slots:=sl }:=fun b o q hb=>by
  obtain ⟨sl,e1⟩:=W.un.slot b o q (I.stkFree b hb) hb (by simp)
  obtain ⟨jG,e2⟩:=sm b _ e1 (fun vs z=>nf hb q vs z);exact ⟨jG,e2⟩
 have u:Un (L2.frs X.outer) [] X.H₀ H' X.s₀.heap h2:=by
  refine ⟨fun b o q n hb _=>fl2.1 b o (toB b o q n hb),fun b o q n hb _=>?_,fun b o q n _=>?_,fun b o q _=>?_,fun b xs q=>W.un.tups b xs (bb.tups b xs q),fun b o u q=>W.un.frzs b o u (bb.frzs b o u q),fun b ps q=>?_⟩
  ·obtain ⟨sl,e1⟩:=bb.slot b o q n hb (by simp)
   obtain ⟨sl3,e3⟩:=jG b _ e1 (F.on hb);exact ⟨sl3,e3⟩
  ·obtain ⟨o',q'⟩:=bb.there b o q (by simp)
   exact W.un.free b o' q' (bb.free b o q n (by simp)) (by simp)
  ·obtain ⟨o',q'⟩:=bb.there b o q (by simp)
   by_cases hb:b∈L2.frs X.stack
   ·obtain ⟨sl,e1⟩:=jG b o' q' hb;exact ⟨_,e1⟩
   ·obtain ⟨o2,e2⟩:=inA b o' q' hb;exact ⟨o2,fl2.1 b o2 e2⟩
  ·obtain ⟨m1,e1⟩:=bb.tbls b ps q;obtain ⟨m2,e2⟩:=W.un.tbls b _ e1;exact ⟨m1++m2,by rw [e2,Array.append_assoc]⟩
 refine ⟨ea,cls,od,H',rfl,⟨⟨B,fl2,fun b o q2 n=>?_,toB,fun b o q2 hb=>?_⟩,W.os.trans I.os,W.bare,u,W.hok.keptT fun b o q2 n=>fl2.1 b o (inT b o q2 n),?_,W.free⟩,hE _ _ _ q⟩
 ·obtain ⟨o',q'⟩:=W.hok.there n;have q3:=fl2.1 b o' (inT b o' q' n);have q4:h2.get? b=some o:=q2;rw [q3] at q4;rw [<-zD.inj q4];exact inT b o' q' n
 ·obtain ⟨o',q'⟩:=bb.there b o q2 (by simp)
  exact inA b o' q' (F.off I q2 hb)
 ·cases z:X.s₀.heap.get? ea with
  | none=>rfl
  | some o=>
   obtain ⟨o',q'⟩:=bb.there ea o z (by simp)
   rw [W.new] at q';cases q'
def Jg(C:aj)(f:Str)(E:XK)(t:TA):TS:=fun _ σ H=>t σ H fun vs H1=>∃ y,vs=[y]/\∀ dx,H1 dx=none->E (.ref C) (some dx) (upd H1 dx (.xd [(f,y)]))
theorem A3{k:Nat}{C fI:aj}{f x:Str}{fd:aq}{ps:List Str}{e:Expr}{es:List Expr}{t:TA}{p jk pos:Pos}(F:V8 X E)(c:Wu X.K C fI f)(ht:yE X.K (.ref C)=some (.type "type"))(FI:ZJ X.prog X.w X.K X.mg X.base ZW k fI fd ps (On X.K C fI f))(hr:ZX (k+1) X.A)(hg:Gl X x)(hm:X.mg x=some (.ref C))(hb:Zt X.K fd ps [])(ha:PA X (e :: es) t)(jy:(x==("__debug__" : Str))=false:=by decide)(he:ax (e :: es) X.env=(false,aI e X.env) :: ax es X.env:=by rfl)(jv:(aH jk (ax es X.env)).any (·.1)=false:=by rfl):
  PS X (.Raise (some (.Call (.Name x p) (e :: es) [] jk)) none pos) (Jg C f E t):=by
 intro pins s σ H D I h;have hh:=I.ok.hd F.calm;rw [arm_exec_Raise];refine aa (ah ?_);refine Jx hh c.exc.mB ht (aa (ae ?_ (fun v s3 h3=>aa (ah (ad h3))) fun _ _ z=>z));refine ag (QK I hg hm ?_ jy);refine vU (h₀:=X.base) I.ok.mod.kin c.kp (Zc (ha jk pins s σ H _ I h) fun us s1 ⟨vs,H1,I1,r,y,ey,q⟩=>⟨I1.kIn,?_⟩) he jv;subst ey;obtain ⟨u,rfl,ry⟩:∃ u,us=[u]/\ZT y u:=by
  cases r with
  | cons ry r0=>cases r0;exact ⟨_,rfl,ry⟩
 refine Cz I1.kIn c (by show 1<=aw;rw [sizeLine_eq];lia) ?_
 have kk:∀ b o,s1.heap.get? b=some o->(Qg s1.heap C [u]).get? b=some o:=fun b o q=>zR _ (zR _ q);have e1:(Qg s1.heap C [u]).get? (s1.heap.objs.size+1)=some { cls:=.ref C,data:=.fields #[.ref s1.heap.objs.size,.none,.none,.none,.bool false,.none] }:=by heap_get
 have e0:s1.heap.get? (s1.heap.objs.size+1)=none:=vB (wC _);have h0:H1 (s1.heap.objs.size+1)=none:=I1.hok.fresh (wC _);have new0:X.s₀.heap.get? (s1.heap.objs.size+1)=none:=by
  cases z:X.s₀.heap.get? (s1.heap.objs.size+1) with
  | none=>rfl
  | some o=>
   obtain ⟨o',q'⟩:=I1.base.there _ o z (by rw [F.ex];simp)
   rw [e0] at q';cases q'
 have J:=I1.newx (C:=C) (ea:=s1.heap.objs.size+1) (h':=Qg s1.heap C [u]) kk e0 ⟨_,_,e1,rfl,rfl,rfl,rfl⟩;generalize hea:s1.heap.objs.size+1=ea at *;have r2:ZO [V.ref ea,y] [Value.ref ea,u]:=.cons rfl (.cons ry .nil);have jE:On X.K C fI f [V.ref ea,y] (upd H1 ea (XO QM ea C none)) (fun v H2=>v=.non/\∃ dx,H2=upd (upd H1 dx (.xd [(f,y)])) ea (XO QM ea C (some dx))/\H1 dx=none/\dx≠ea) E0:=by
  refine ⟨c,_,y,rfl,ZP,fun dx hd jt=>⟨rfl,dx,?_,?_,jt⟩⟩
  ·funext b
   by_cases z:b=ea
   ·rw [z,ZP,ZP]
   ·rw [ZV z,ZV z];by_cases z2:b=dx
    ·rw [z2,ZP,ZP]
    ·rw [ZV z2,ZV z2,ZV z]
  ·rw [ZV jt] at hd;exact hd
 have hl:([Value.ref ea,u]++([]:je)).length=ps.length:=by
  have e:=r2.length;rw [FI.len _ _ _ _ jE] at e;exact e.symm
 refine wpAny_call (codeAny_mono (FI.run _ X.stack _ _ ⟨[Value.ref ea,u],[]⟩ _ _ _ E0 (hr.make C [u] []) (J.env0.make C [u] []) (hb _ [Value.ref ea,u] J.kIn hl) r2 jE) fun r s' hq'=>?_)
 cases r with
 | error e=>exact (XJ pins σ _ _ e s' J hq')
 | ok fl=>
  cases fl with
  | ret u2=>
   obtain ⟨v,H',I3,rv,ev,dx,eH,nd,ne⟩:=J.after hq';subst ev eH;refine ⟨rv,ea,some dx,rfl,I3.kIn,(I3.hok ea _ ZP).1,?_⟩;have hn:upd H1 dx (.xd [(f,y)]) ea=none:=by rw [ZV (Ne.symm ne)];exact h0
   exact Hn F (I3.untrack hn) new0 hn (I3.hok ea _ ZP).1 (q dx nd)
  | next=>exact False.elim hq'
  | brk=>exact False.elim hq'
  | cont=>exact False.elim hq'
end
def IY(K:zZ)(CB:aj)(i:Nat)(ts:TS)(D:Yu)(σ:St):XK:=fun cls od H2=>∃ C,cls=.ref C/\yW K C (.ref CB)=some true/\∀ ea,H2 ea=none ->
 ts { nx:=fun σ' H'=>D.nx (σ'.set i none) H',rt:=D.rt,bk:=fun σ' H'=>D.bk (σ'.set i none) H',ct:=fun σ' H'=>D.ct (σ'.set i none) H' } (σ.set i (some (.ref ea))) (upd H2 ea (XO UF ea C od))
theorem NS{X:Cx}{pins:List (aj×aJ)}{σ:St}{H H':Hp}{s s':am}{ea:aj}{od:Option aj}{B h2:aF}{cls:ai}(I:ZH X pins σ H s)(W:Ub X.prog X.w X.stack H s ea cls od H' s')(inT:∀ b o,s'.heap.get? b=some o->H' b≠none->B.get? b=some o)(inB:∀ b o,s.heap.get? b=some o->H b=none->b∉frs X.stack->B.get? b=some o)(inA:∀ b o,s.heap.get? b=some o->b∉frs X.stack->∃ o',B.get? b=some o')(st:B.StaysIn h2)(sm:s'.heap.UpToSlots h2):
  ZH X pins σ H' { s' with heap:=h2 }:=by
 have jG:∀ b o,s.heap.get? b=some o->b∈frs X.stack->∃ sl,h2.get? b=some { o with slots:=sl }:=fun b o q hb=>by
  obtain ⟨sl,e1⟩:=W.un.slot b o q (I.stkFree b hb) hb (by simp)
  obtain ⟨jG,e2⟩:=sm b _ e1 (fun vs z=>KN I b hb o q vs z);exact ⟨jG,e2⟩
 refine I.call' (s':={ s' with heap:=h2 }) W.os ⟨fun b o q n hb _=>st b o (inB b o q n hb),fun b o q n hb _=>jG b o q hb,W.un.free,fun b o q _=>?_,W.un.tups,W.un.frzs,W.un.tbls⟩ (W.hok.keptT fun b o q n=>st b o (inT b o q n)) W.bare (fun b hb=>absurd hb (by simp))
 by_cases hb:b∈frs X.stack
 ·obtain ⟨sl,e1⟩:=jG b o q hb;exact ⟨_,e1⟩
 ·obtain ⟨o',e1⟩:=inA b o q hb;exact ⟨o',st b o' e1⟩
section
variable{P:ao}{w:ay}{K:zZ}{mg:jc}{base:aF}
theorem Zj.okD{x qual:Str}{st:aE}{f:aj}{fd:aq}{N ps:List Str}{k:Nat}{sp:Sp}(F:Zj K x qual st f fd)(S:ZC N ps (Ze st))(len:∀ vs H Q E,sp vs H Q E->vs.length=ps.length)(jp:∀ (cdv:ai) (A:az) (outer:List Env) (s:am) (H:Hp) (vs:jf) (Q:VK) (E:XK),ZX k (A.deeper (envOfC qual (Ze st) s.heap.objs.size f cdv))->sp vs H Q E ->
   ∃ t,Xn (X9 (XD P w) P w K mg base N qual (Ze st) f cdv A outer s H E) (Xv st) t/\t { nx:=fun _ H'=>Q .non H',rt:=Q } (Vr N vs) H):ZJ P w K mg base (XD P w) (k+1) f fd ps sp:=by
 obtain ⟨oc,od,kV,doc,pm,an,cdv,ct,jK,rfl,lk,jD⟩:=F.ex;exact Lc lk jD S len fun A outer s H vs Q E hr jE=>jp cdv A outer s H vs Q E hr jE
theorem Zj.kD{x qual:Str}{st:aE}{f:aj}{fd:aq}{N ps:List Str}{k:Nat}{sp:Sp}(F:Zj K x qual st f fd)(S:ZC N ps (Ze st))(jp:∀ (cdv:ai) (A:az) (outer:List Env) (s:am) (H:Hp) (vs:jf) (Q:VK) (E:XK),ZX k (A.deeper (envOfC qual (Ze st) s.heap.objs.size f cdv))->sp vs H Q E ->
   ∃ t,Xn (X9 (XD P w) P w K mg base N qual (Ze st) f cdv A outer s H E) (Xv st) t/\t { nx:=fun _ H'=>Q .non H',rt:=Q } (Vr N vs) H)(len:∀ vs H Q E,sp vs H Q E->vs.length=ps.length:=by intro vs _ _ _ h;cases h;subst vs;rfl):ZJ P w K mg base (XD P w) (k+1) f fd ps sp:=F.okD S len jp
end
section
variable{X:Cx}
theorem MN(hu:X.A.units<cLine):Yx X (aB .NotEq) (fun x y H Q=>∃ p b xs,x=.ref p/\y=.ref b/\ZL X.K H p xs/\ZL X.K H b []/\Q (.bl (!xs.isEmpty)) H):=by
 intro pins s σ H x y v u Q I rx ry h;obtain ⟨p,b,xs,rfl,rfl,h1,h2,q⟩:=h;cases rx;cases ry;obtain ⟨jj,r1,p1,z1⟩:=I.list h1;obtain ⟨jr,r2,p2,z2⟩:=I.list h2;have l1:=r1.length;have l2:=r2.length;have e2:jr=[]:=qK (by rw [<-l2];rfl)
 subst e2
 cases xs with
 | nil=>
  have e1:jj=[]:=qK (by rw [<-l1];rfl)
  subst e1;exact PySem.SeqAt.RcNeAt.lists (e:=fun _=>true) p1.isList p2.isList rfl hu (fun j h1 _=>absurd h1 (by simp)) X.prog X.w X.xe _ (Yw I q (by simp))
 | cons x r=>exact PySem.SeqAt.RcNeAt.lists_lengths p1.isList p2.isList (by simp;intro e;subst e;simp at l1) hu X.prog X.w X.xe _ (Yw I q rfl)
end
end L2
namespace Tw
open PySem PySem.Spec L2 PyProof.Rows
section
open PySem.SeqAt
open PySem.AutoSeq1 (wpAny_loadPart')
open PySem.MeetsSeq PySem.MeetsSeq2 PySem.MeetsSeq3
end
section
variable{X:Cx}
end
end Tw
namespace L2
open PySem PySem.Spec PyProof.Rows
section
variable{σ:St}{H:Hp}{ix:List Nat}{te:TE}{Q:VK}{K:zZ}
theorem ML{J:It}{n:Nat}{tt:TT}(item:Nat->V->Prop)(keep:Nat->Bool)(Pv:aj->Nat->jf->Hp->Prop)(hn:n<aw)(hgo:∀ D i ys H,i<n->Pv D i ys H->J.go i H)(hy:∀ D i ys H x H',i<n->Pv D i ys H->J.yld i H x H'->H'=H/\item i x)(jW:∀ D ys H,Pv D n ys H->J.stop n H)(h0:∀ D,H D=none->Pv D 0 [] (upd H D (.lst [])))(test:∀ D i ys H x,H D=some (.lst ys)->i<n->item i x->Pv D i ys H->∀ R:Bool->Hp->Prop,(∀ H2,H2 D=some (.lst ys)->Pv D i ys H2->R (keep i) H2)->tt (OP σ ix x) H R)(elt:∀ D i ys H x,H D=some (.lst ys)->i<n->item i x->keep i=true->Pv D i ys H->∀ R:VK,(∀ y H3,H3 D=some (.lst ys)->Pv D (i+1) (ys++[y]) (upd H3 D (.lst (ys++[y])))->R y H3)->te (OP σ ix x) H R)(no:∀ D i ys H,H D=some (.lst ys)->i<n->keep i=false->Pv D i ys H->Pv D (i+1) ys H)(fin:∀ D ys H,H D=some (.lst ys)->Pv D n ys H->Q (.ref D) H):Vi J σ ix tt te H Q:=by
 intro D hD;refine ⟨fun i m H=>m=n - i/\i<=n/\∃ ys,H D=some (.lst ys)/\ys.length<=i/\Pv D i ys H,⟨n,rfl,zG _,[],ZP,zY _,h0 D hD⟩,?_⟩;rintro i m H ⟨rfl,hi,ys,e,hl,p⟩;by_cases hlt:i<n
 ·refine .inr ⟨hgo D i ys H hlt p,fun x H' y=>?_⟩;obtain ⟨rfl,it⟩:=hy D i ys H x H' hlt p y;refine test D i ys _ x e hlt it p _ fun H2 e2 p2=>?_
  cases hk:keep i with
  | true=>
   rw [aP rfl];refine elt D i ys H2 x e2 hlt it hk p2 _ fun y H3 e3 p3=>?_;exact ⟨ys,n - (i+1),e3,by lia,by lia,rfl,hlt,ys++[y],ZP,by rw [zU,tY];lia,p3⟩
  | false=>
   rw [aO zW];exact ⟨n - (i+1),by lia,rfl,hlt,ys,e2,Nat.le_succ_of_le hl,no D i ys H2 e2 hlt hk p2⟩
 ·have e':i=n:=by lia
  subst e';exact .inl ⟨jW D ys H p,fin D ys H e p⟩
end
section
variable{P:ao}{w:ay}{K:zZ}{mg:jc}{base:aF}
end
section
variable{M:Model}{A:az}{E:jb}{s:am}
end
section
variable{X:Cx}{pins:List (aj×aJ)}{σ:St}{H:Hp}{s:am}{E E1:XK}
end
section
variable{M:Model}{A:az}{E:jb}{s:am}{B:aF}{env:Env}{outer l:List Env}{L e:aj}{cls:ai}{od:Option aj}{Q:Unit->am->Prop}
end
section
variable{X:Cx}{pins:List (aj×aJ)}{σ:St}{H:Hp}{s:am}{E E1:XK}
end
section
variable{X:Cx}{E:XK}
theorem ZH5{x:Str}{C:aj}{np jk pos:Pos}(F:V8 X E)(O:OwnCls x C [.type "ValueError",.type "Exception",.type "BaseException",.type "object"] "ValueError.__new__" X.mg X.base)(kp:yQ X.K (.ref C)=true)(mB:yW X.K C (.type "BaseException")=some true)(ht:yE X.K (.ref C)=some (.type "type"))(hg:Gl X x)(jy:(x==("__debug__" : Str))=false:=by decide):
  PS X (.Raise (some (.Call (.Name x np) [] [] jk)) none pos) (fun _ _ H=>E (.ref C) none H):=by
 intro pins s σ H D I h;have hh:=I.ok.hd F.calm;rw [arm_exec_Raise];refine aa (ah ?_);refine Jx hh mB ht (aa (ae ?_ (fun v s3 h3=>aa (ah (ad h3))) fun _ _ z=>z));have FB:=qP;obtain ⟨tl,N,nm,q,bs,hdct,sn,sub,ab,col,dd,k0,k1,k2,k3,k5,mN,hC,hN,hni,T⟩:=O.obj;refine ag (QK I hg O.bound ?_ jy);refine rL I.kIn kp ?_;obtain ⟨hp,g,d,tk,os⟩:=s;refine wpAny_call_exc_subU (rest:=[]) FB FB.hasB FB (T.keeps I.bk) (I.bk _ _ hC) (hN.keeps I.bk) hni (fun h' ea hm=>?_) (zG _);obtain ⟨tt,e1,e2,e3⟩:=hm.there;have J:=I.newx (C:=C) (ea:=ea) (h':=h') hm.keeps hm.new ⟨_,_,e1,rfl,rfl,rfl,rfl⟩;have hn:H ea=none:=by
  cases z:H ea with
  | none=>rfl
  | some o=>
   obtain ⟨o',q'⟩:=I.hok.there (a:=ea) (by rw [z];exact fun y=>nomatch y)
   have:=hm.new;rw [q'] at this;cases this
 have new0:X.s₀.heap.get? ea=none:=by
  cases z:X.s₀.heap.get? ea with
  | none=>rfl
  | some o=>
   obtain ⟨o',q'⟩:=I.base.there ea o z (by rw [F.ex];simp)
   have:=hm.new;rw [q'] at this;cases this
 exact ⟨ea,none,rfl,J.kIn,(J.hok ea _ ZP).1,Hn F (J.untrack hn) new0 hn (J.hok ea _ ZP).1 h⟩
end
def JA(K:zZ)(CB:aj)(ts:TS)(D:Yu)(σ:St):XK:=fun cls od H2=>∃ C,cls=.ref C/\yW K C (.ref CB)=some true/\ts D σ H2
section
variable{X:Cx}
end
def Bx(K:zZ)(CB:aj)(sp:Sp)(t:TA)(i:Nat)(ts:TS):TS:=fun D σ H=>t σ H fun vs H1=>sp (vs++[]) H1 (fun _ H2=>D.nx σ H2) (IY K CB i ts D σ)
theorem AF{X:Cx}{k:Nat}{f CB:aj}{fd:aq}{ps:List Str}{sp:Sp}{x y n:Str}{p pos1 pos2 py ph pos:Pos}{e:Expr}{es:List Expr}{t:TA}{i:Nat}{b₀:aE}{suite:List aE}{ts:TS}(F:ZJ X.prog X.w X.K X.mg X.base (XD X.prog X.w) k f fd ps sp)(hr:ZX k X.A)(hg:Gl X x)(hm:X.mg x=some (.ref f))(hk:yQ X.K (.ref f)=true)(hb:Zt X.K fd ps [])(ha:∀ E',PA (X.wish E') (e :: es) t)(hst:X.stack=X.env :: X.outer)(hfm:X.env.frame=some X.env.locals)(hex:X.ex=[])(hy:Gl X y)(hyC:X.mg y=some (.ref CB))(hN:X.N.Nodup)(hi:X.N[i]? = some n)(hn:X.env.scope.names.lookup n=some .local)(ht:yE X.K (.ref CB)=some (.type "type"))(hB:yW X.K CB (.type "BaseException")=some true)(hs:∀ ea E',Xn (X.held ea E') (b₀ :: suite) ts)(jy:(x==("__debug__" : Str))=false:=by decide)(hdy:(y==("__debug__" : Str))=false:=by decide)(he:ax (e :: es) X.env=(false,aI e X.env) :: ax es X.env:=by rfl)(jv:(aH pos1 (ax es X.env)).any (·.1)=false:=by rfl)(hsw:swapsWith (.Call (.Name x p) (e :: es) [] pos1) none pos2.line X.env=pure false:=by rfl):
  PS X (.Try [.Expr (.Call (.Name x p) (e :: es) [] pos1) pos2] [.ExceptHandler (some (.Name y py)) (some n) (b₀ :: suite) ph] [] [] pos) (Bx X.K CB sp t i ts):=by
 intro pins s σ H D I h;refine wpAny_Try_except ?_;have hfr:X.A.frames=some (X.env :: X.outer):=by rw [I.ok.frames,hst]
 have lands:∀(H1:Hp)(s1:am)(ev:ai)(s':am),ZH X pins σ H1 s1->XD X.prog X.w X.stack H1 s1 (IY X.K CB i ts D σ) ev s' ->
   aD (aC X.prog X.w) X.A (noteFrame ev X.env) (fun _ s₂=>aD (aC X.prog X.w) X.A (setFlight ev none) (fun _ s₃=>aD (aC X.prog X.w) X.A (handleBy ev X.env [.ExceptHandler (some (.Name y py)) (some n) (b₀ :: suite) ph]) (SP X pins D) X.xe s₃) X.xe s₂) X.xe s':=by
  intro H1 s1 ev s' I1 hx;obtain ⟨ea,cls,od,H',rfl,W,C,rfl,mC,q⟩:=hx;obtain ⟨B,fl,inT,inB,inA⟩:=W.ex;have fl':VV B (X.env :: X.outer) ea (.ref C) od .none s'.heap:=by rw [<-hst];exact fl
  refine Ma hfr hfm fl' fun h4 held4 sm4=>?_;refine P2 (s:={ s' with heap:=h4 }) held4 fun h5 fl5 sm5=>?_;have J5:ZH X pins σ H' { s' with heap:=h5 }:=NS I1 W inT inB inA fl5.1 (sm4.trans sm5);refine wpAny_handleBy_cons (codeAny_handlers_test ?_) (by intro q;cases q)
  refine QK (J5.held ea (fun _ _=>False)) hy hyC ?_ hdy;refine IF (s:={ s' with heap:=h5 }) J5.kIn fl5.at.is ht hB mC ?_;refine codeAny_handlers_suite_as ?_;refine P2 (s:={ s' with heap:=h5 }) fl5 fun h6 fl6 sm6=>?_;have J6:ZH X pins σ H' { s' with heap:=h6 }:=NS I1 W inT inB inA fl6.1 ((sm4.trans sm5).trans sm6);have n0:X.s₀.heap.get? ea=none:=by
   cases z:X.s₀.heap.get? ea with
   | none=>rfl
   | some o=>
    obtain ⟨o',q'⟩:=I1.base.there ea o z (by rw [hex];simp)
    rw [W.new] at q';cases q'
  have n1:ea≠X.env.locals:=fun z=>by
   obtain ⟨m,⟨o,_,_,ho,_⟩,_⟩:=I1.loc;rw [<-z,W.new] at ho;cases ho
  have n2:∀ x c,X.env.cells.lookup x=some c->c≠ea:=fun x c e z=>by
   obtain ⟨v,o,ho,_⟩:=I1.cell x c e;rw [z,W.new] at ho;cases ho
  have n3:∀ p∈X.pn++pins,p.1≠ea:=fun p hp z=>by
   have ho:=(I1.pin p hp).1;rw [z,W.new] at ho;cases ho
  have K6:ZH X pins σ (upd H' ea (XO UF ea C od)) { s' with heap:=h6 }:=J6.track n0 n1 n2 n3 W.free (Mv fl6.at);refine NA K6 hN hi (.inl hn) (v:=.ref ea) rfl (fun s7 I7=>?_) (.inr hn);refine ae (hs ea _ pins s7 _ _ _ (I7.held ea _) (q ea W.free)) (fun fl s8 h8=>?_) fun _ _ z=>z
  cases fl with
  | next=>
   obtain ⟨σ8,H8,J8,q8⟩:=h8;exact (J8.unheld I1.ok).goes hN hi hn fun s9 I9=>⟨_,H8,I9,q8⟩
  | brk=>
   obtain ⟨σ8,H8,J8,q8⟩:=h8;exact (J8.unheld I1.ok).goes hN hi hn fun s9 I9=>⟨_,H8,I9,q8⟩
  | cont=>
   obtain ⟨σ8,H8,J8,q8⟩:=h8;exact (J8.unheld I1.ok).goes hN hi hn fun s9 I9=>⟨_,H8,I9,q8⟩
  | ret u=>
   obtain ⟨v8,σ8,H8,J8,r8,q8⟩:=h8;exact (J8.unheld I1.ok).goes hN hi hn fun s9 I9=>⟨v8,_,H8,I9,r8,q8⟩
 refine wpAny_execs_cons (wpAny_Expr_any ?_ I.quiet hsw);have I':=I.wish (fun ev s'=>aD (aC X.prog X.w) X.A (noteFrame ev X.env) (fun _ s₂=>aD (aC X.prog X.w) X.A (setFlight ev none) (fun _ s₃=>aD (aC X.prog X.w) X.A (handleBy ev X.env [.ExceptHandler (some (.Name y py)) (some n) (b₀ :: suite) ph]) (SP X pins D) X.xe s₃) X.xe s₂) X.xe s');refine ag (QK I hg hm ?_ jy);refine vU (h₀:=X.base) I.ok.mod.kin hk (Zc (ha _ pos1 pins s σ H _ I' h) fun us s1 ⟨vs,H1,I1,r,q⟩=>⟨I1.kIn,?_⟩) he jv;have r2:ZO (vs++[]) (us++[]):=r.append .nil;have hl:(us++[]).length=ps.length:=by rw [<-r2.length];exact F.len _ _ _ _ q
 refine wpAny_call (codeAny_mono (F.run X.A X.stack s1 H1 ⟨us,[]⟩ (us++[]) (vs++[]) _ _ hr I1.env0 (hb s1 us I1.kIn hl) r2 q) fun rr s' hq=>?_)
 cases rr with
 | error ev=>exact lands H1 s1 ev s' I1.unwish hq
 | ok fl=>
  cases fl with
  | ret u=>
   obtain ⟨v,H2,J,rv,q2⟩:=I1.unwish.after hq;exact wpAny_execs_nil (wpAny_execs_nil ⟨σ,H2,J,q2⟩)
  | next=>exact False.elim hq
  | brk=>exact False.elim hq
  | cont=>exact False.elim hq
section
variable{X:Cx}
theorem ZLI(hu:X.A.units<cLine):Yx X (aB .Eq) (fun x y H Q=>∃(p b:aj)(xs ys:List Bool),x=.ref p/\y=.ref b/\ZL X.K H p (xs.map V.bl)/\ZL X.K H b (ys.map V.bl)/\xs.length=ys.length/\Q (.bl ((yU xs.length).all fun j=>xs.getD j false==ys.getD j false)) H):=by
 intro pins s σ H x y v u Q I rx ry h;obtain ⟨p,b,xs,ys,rfl,rfl,h1,h2,hl,q⟩:=h;cases rx;cases ry;obtain ⟨jj,r1,p1,z1⟩:=I.list h1;obtain ⟨jr,r2,p2,z2⟩:=I.list h2;have l1:=r1.length;have l2:=r2.length;rw [zX] at l1 l2;have ln:jj.toArray.size=xs.length:=by simp;lia
 refine PySem.SeqAt.eq_listAt (e:=fun j=>xs.getD j false==ys.getD j false) p1.isList p2.isList (by simp;lia) hu (fun j g1 g2=>?_) (Yw I q (by rw [ln]))
 have hj:j<xs.length:=by lia
 have hj2:j<ys.length:=by lia
 have hv:(xs.map V.bl)[j]? = some (.bl (xs.getD j false)):=by rw [zL,zV,zT hj];rfl
 have hv2:(ys.map V.bl)[j]? = some (.bl (ys.getD j false)):=by rw [zL,zV,zT hj2];rfl
 obtain ⟨u1,e1,a1⟩:=r1.get hv;obtain ⟨u2,e2,a2⟩:=r2.get hv2;have k1:jj.toArray[j]=u1:=by
  have:jj.toArray[j]? = some u1:=by simpa using e1
  rw [xM g1] at this;exact zD.inj this
 have k2:jr.toArray[j]=u2:=by
  have:jr.toArray[j]? = some u2:=by simpa using e2
  rw [xM g2] at this;exact zD.inj this
 rw [k1,k2];obtain rfl:u1=.bool _:=a1;obtain rfl:u2=.bool _:=a2;exact PySem.SeqAt.EqAt.bool_bool _ _
end
def Px:V->Bool
 | .int _=>true
 | .str _=>true
 | .bl _=>true
 | _=>false
theorem BG{A:az}{s:am}{v:V}{a b:ai}(h:Px v=true)(ra:ZT v a)(rb:ZT v b):PySem.SeqAt.EqAt A s a b true:=by
 cases v with
 | int i=>
  obtain ⟨t1,rfl⟩:=ra;obtain ⟨t2,rfl⟩:=rb;have:=PySem.SeqAt.EqAt.int_int (A:=A) (s:=s) i t1 i t2
  rwa [show (i==i)=true by simp] at this
 | str x=>
  obtain ⟨t1,rfl⟩:=ra;obtain ⟨t2,rfl⟩:=rb;have:=PySem.SeqAt.EqAt.str_str (A:=A) (s:=s) x t1 x t2
  rwa [show (x==x)=true by simp] at this
 | bl x=>
  obtain rfl:a=.bool x:=ra;obtain rfl:b=.bool x:=rb;exact PySem.SeqAt.EqAt.same _
 | _=>cases h
section
variable{X:Cx}
theorem Gx{pins:List (aj×aJ)}{σ:St}{H:Hp}{s:am}{xs:jf}{jj jr:je}(hf:∀ v∈xs,Px v=true)(r1:ZO xs jj)(r2:ZO xs jr)(j:Nat)(g1:j<jj.toArray.size)(g2:j<jr.toArray.size):PySem.SeqAt.EqAt X.A.in1 s jj.toArray[j] jr.toArray[j] true:=by
 have l1:=r1.length;have hj:j<xs.length:=by simp at g1;lia
 have hv:xs[j]? = some xs[j]:=zT hj;obtain ⟨u1,e1,a1⟩:=r1.get hv;obtain ⟨u2,e2,a2⟩:=r2.get hv;have k1:jj.toArray[j]=u1:=by
  have:jj.toArray[j]? = some u1:=by simpa using e1
  rw [xM g1] at this;exact zD.inj this
 have k2:jr.toArray[j]=u2:=by
  have:jr.toArray[j]? = some u2:=by simpa using e2
  rw [xM g2] at this;exact zD.inj this
 rw [k1,k2];exact BG (hf _ (xZ hj)) a1 a2
def Hx(K:zZ)(b:Bool):R2:=fun x y H Q=>∃(p q:aj)(xs:jf),x=.ref p/\y=.ref q/\Zo K H p xs/\Zo K H q xs/\(∀ v∈xs,Px v=true)/\Q (.bl b) H
theorem ZMy(hu:X.A.units<cLine):Yx X (aB .Eq) (Hx X.K true):=by
 intro pins s σ H x y v u Q I rx ry h;obtain ⟨p,b,xs,rfl,rfl,h1,h2,hf,q⟩:=h;cases rx;cases ry;obtain ⟨jj,r1,p1,z1⟩:=I.tuple h1;obtain ⟨jr,r2,p2,z2⟩:=I.tuple h2;have l1:=r1.length;have l2:=r2.length;exact PySem.SeqAt.eq_tupleAt (e:=fun _=>true) p1 p2 hu (fun j g1 g2=>Gx (X:=X) (pins:=pins) (σ:=σ) (H:=H) hf r1 r2 j g1 g2) (Yw I q (by simp;lia))
theorem G4(hu:X.A.units<cLine):Yx X (aB .NotEq) (Hx X.K false):=by
 intro pins s σ H x y v u Q I rx ry h;obtain ⟨p,b,xs,rfl,rfl,h1,h2,hf,q⟩:=h;cases rx;cases ry;obtain ⟨jj,r1,p1,z1⟩:=I.tuple h1;obtain ⟨jr,r2,p2,z2⟩:=I.tuple h2;have l1:=r1.length;have l2:=r2.length;exact PySem.SeqAt.RcNeAt.tuples (e:=fun _=>true) p1 p2 hu (fun j g1 g2=>Gx (X:=X) (pins:=pins) (σ:=σ) (H:=H) hf r1 r2 j g1 g2) X.prog X.w X.xe _ (Yw I q (by simp;lia))
end
theorem Jk:∀{xs:jf}{us:je}(i:Nat),ZO xs us->(xs[i]? = none/\us[i]? = none)\/∃ x u,xs[i]? = some x/\us[i]? = some u/\ZT x u
 | _,_,i,.nil=>.inl ⟨by simp,by simp⟩
 | _,_,0,.cons r t=>.inr ⟨_,_,rfl,rfl,r⟩
 | _,_,i+1,.cons r t=>by
  rcases Jk i t with ⟨a,b⟩ | ⟨x,u,a,b,c⟩
  ·exact .inl ⟨by simpa using a,by simpa using b⟩
  ·exact .inr ⟨x,u,by simpa using a,by simpa using b,c⟩
theorem My{xs:jf}{us:je}(r:ZO xs us):∀ idx:List Nat,ZO (idx.filterMap (xs[·]?)) (idx.filterMap (us[·]?))
 | []=>.nil
 | i :: idx=>by
  rw [wG,wG];rcases Jk i r with ⟨a,b⟩ | ⟨x,u,a,b,c⟩
  ·rw [a,b];exact My r idx
  ·rw [a,b];exact .cons c (My r idx)
section
variable{X:Cx}
end
theorem Eb{α:Type}:∀(l r:List α),(yU l.length).filterMap ((l++r)[·]?)=l:=by
 intro l
 induction l with
 | nil=>intro r;rfl
 | cons a l ih=>
  intro r;rw [zI,rN,wG,List.filterMap_map];show a :: List.filterMap (fun i=>(l++r)[i]?) (yU l.length)=a :: l;rw [ih]
theorem ZDV(n:Nat):sliceRange ((n:Int) - 1) (-1) (-1)=(yU n).reverse:=by
 unfold sliceRange;have e:(if (-1:Int) > 0 then if ((n:Int) - 1) < -1 then (-1 - ((n:Int) - 1) + -1 - 1) / -1 else 0 else if ((n:Int) - 1) > -1 then (((n:Int) - 1) - -1 - -1 - 1) / - -1 else 0).toNat=n:=by
  rw [aO (by decide)]
  by_cases h:0<n
  ·rw [aP (by lia),show (- -1:Int)=1 from rfl,Int.ediv_one];lia
  ·rw [aO (by lia)];lia
 simp only [e];refine tI (by simp) fun i h1 h2=>?_
 simp at h1;simp
 lia
theorem ZLh{α:Type}(l:List α):(sliceRange ((l.length:Int) - 1) (-1) (-1)).filterMap (l[·]?)=l.reverse:=by
 rw [ZDV,List.filterMap_reverse];have:=Eb l [];rw [yO] at this;rw [this]
section
variable{X:Cx}
def EB(K:zZ)(te t3:TE):TE:=fun σ H Q=>te σ H fun x H1=>t3 σ H1 fun y H2=>∃ a xs,x=.ref a/\y=.int (-1)/\ZL K H2 a xs/\∀ p,H2 p=none->Q (.ref p) (upd H2 p (.lst xs.reverse))
theorem JE{e e3:Expr}{te t3:TE}{p2 pos:Pos}(he:PE X e te)(h3:PE X e3 t3):PE X (.Subscript e (.Slice none none (some e3) p2) pos) (EB X.K te t3):=by
 intro pins s σ H Q I h;refine Subscript_ (Zc (he pins s σ H _ I h) fun v s1 ⟨x,H1,I1,r1,q1⟩=>?_);refine wpAny_Slice ?_;rw [evalPart_none];refine ad (ad ?_);rw [evalPart_some];refine Zc (h3 pins s1 σ H1 _ I1 q1) fun u s3 ⟨y,H3,I3,r3,q3⟩=>?_;obtain ⟨a,xs,rfl,rfl,hx,q⟩:=q3;cases r1;obtain ⟨tk,rfl⟩:=r3;have I4:ZH X pins σ H3 { s3 with heap:=s3.heap.push { cls:=.type "slice",data:=.fields #[.none,.none,.int (-1) tk] } }:=I3.kept (t':=s3.toks) fun b ob q=>zR _ q;obtain ⟨jj,r,ht,hz⟩:=I4.list hx;have hlen:=r.length;show aD (aC X.prog X.w) X.A (subscriptTail e (.Slice none none (some e3) p2) (.ref a) (.ref s3.heap.objs.size)) (EP X pins σ Q) X.xe { s3 with heap:=s3.heap.push { cls:=.type "slice",data:=.fields #[.none,.none,.int (-1) tk] } };refine tail_any (ops:=[.ref a,.ref s3.heap.objs.size]) ht.isList.typeIs slot_list_getitem.lookup ?_ (by with_unfolding_all rfl)
 refine wpAny_getItem_list_slice ht.isList (Heap.IsSliceOf.new ..) .none .none (.int (-1) tk) (by simp) ?_ (by rw [zO] <;> lia)
 have pk:slicePick jj.toArray none none (some (-1))=((sliceRange ((jj.length:Int) - 1) (-1) (-1)).filterMap (jj[·]?)).toArray:=by
  unfold slicePick;simp [sliceBounds]
 rw [pk];have vp:=My r (sliceRange ((jj.length:Int) - 1) (-1) (-1));have ex:(sliceRange ((jj.length:Int) - 1) (-1) (-1)).filterMap (xs[·]?)=xs.reverse:=by rw [<-hlen];exact ZLh xs
 rw [ex] at vp;refine ⟨.ref _,_,I4.laid (t':=s3.toks) (o:=.lst xs.reverse) (fun b ob q=>zR _ q) (zY _) ?_,rfl,q _ (I4.hok.fresh (zY _))⟩;exact ⟨by rw [List.length_reverse];lia,_,0,vp,yS _ rfl⟩
end
end L2
namespace Tw
open PySem PySem.Spec L2 PyProof.Rows
variable{P:ao}{w:ay}{K:zZ}{mg:jc}{base:aF}{f:aj}{fd:aq}{jh ji CS CT CH CK CP CB:aj}
theorem C9(l:aj)(jj:Array ai)(n:Nat)(b:aj)(js:Array ai)(m:Nat)(dc:Option aj)(sl:Array (jd))(h0:¬(!jj.isEmpty&&Builtin.List.listTooLong (jj.size+js.size))=true)(h1:jj.size<=aw)(h2:jj.size+js.size<=aw+1):
  Meets (Builtin.«list.extend» ⟨[.ref l,.ref b],[]⟩) (fun _ R s=>s.heap.get? l=some { cls:=.type "list",data:=.seq jj n }/\s.heap.get? b=some { cls:=.type "tuple",dict:=dc,data:=.seq js m,slots:=sl }/\R (.ok (.ret Value.none)) { s with heap:=s.heap.update l (Obj.mapSeq fun x=>x++js) }):=by
 refine .of_wp fun _ _ _ R s h=>?_;obtain ⟨x1,x2,x3,x4,x5⟩:=s;obtain ⟨g1,g2,h⟩:=h;have u1:=AutoSeq1.sub_tuple_list;have u2:=AutoSeq1.sub_tuple_tuple;have hz:(jj++js).size<=aw+1:=by rw [sX];exact h2
 wp_walk using (wpAny_updateSeq g1 rfl (hz:=h1) (_hz':=hz)),AutoSeq1.wpAny_loadPart' g1,AutoSeq1.wpAny_loadPart' g2
 exact ⟨_,rfl,h⟩
section
variable{X:Cx}
def Df:V->jf->Hp->VK->Prop:=fun x vs H Q=>∃ l b xs zs,x=.ref l/\vs=[.ref b]/\H l=some (.lst xs)/\H b=some (.tup zs)/\xs.length+zs.length<=1000/\Q .non (upd H l (.lst (xs++zs)))
theorem Gu:N9 X "list.extend" Df:=by
 intro pins s σ H x vs v us Q I rx rv h;obtain ⟨l,b,xs,zs,rfl,rfl,hH,hB,hz,q⟩:=h;cases rx;obtain ⟨u,rfl,ru⟩:=rv.one;cases ru;obtain ⟨z,jj,n,r,hl,e⟩:=I.lstM hH;obtain ⟨jr,r2,⟨⟨oc,od,odt,jK⟩,e2,hcl,n2,hdt⟩,z2⟩:=I.tuple (Zo.of hB);dsimp only at hcl hdt;subst hcl hdt;have l2:=r2.length;have l1:=r.length;have le:aw=16777216:=by decide
 have hsz:jj.toArray.size+jr.toArray.size<=sizeLine:=by rw [zO,zO];lia
 have hlong:¬ (!jj.toArray.isEmpty&&Builtin.List.listTooLong (jj.toArray.size+jr.toArray.size))=true:=by
  rw [ZKo hsz,vL];exact zW
 refine call_meets F.slot_list_extend ⟨_,e,rfl⟩ F.entry_list_extend (F.args_list_extend_2 _ _) (C9 l jj.toArray n b jr.toArray n2 od jK hlong (by rw [zO];lia) (by lia)) ⟨e,e2,?_⟩
 refine ⟨.non,_,I.lset (its':=jj++jr) hH e (by simp) (r.append r2) ?_,rfl,q⟩
 rw [zU]
 lia
end
def GA(f c':aj)(fo co:aJ)(sp:Sp):Sp:=fun vs H Q E=>H f=some (UG f fo)/\H c'=some (UG c' co)/\sp vs H Q E
theorem Eo{k:Nat}{f c':aj}{co:aJ}{qual:Str}{params:Arguments}{body:Expr}{scope:aG}{pm ctv:ai}{N ps:List Str}{sp:Sp}(S:ZC N ps scope)(len:∀ vs H Q E,sp vs H Q E->vs.length=ps.length)(jD:Os co qual)(jp:∀ (A:az) (outer:List Env) (s:am) (H:Hp) (vs:jf) (Q:VK) (E:XK),ZX k (A.deeper (envOfC qual scope s.heap.objs.size f (.ref c')))->sp vs H Q E ->
   ∃ t,PE (X9 ZW P w K mg base N qual scope f (.ref c') A outer s H E) body t/\t (Vr N vs) H Q):
  ZJ P w K mg base ZW (k+1) f (PySem.W.kla_fn "<lambda>" qual params body scope [] pm (.ref c') ctv) ps (GA f c' (wJ "<lambda>" qual params body scope [] pm c' ctv) co sp):=by
 refine ⟨fun vs H Q E h=>len _ _ _ _ h.2.2,fun A outer s H args us vs Q E hr e0 hb r jE=>?_⟩;obtain ⟨hf,hc,hB⟩:=jE;have hl:=len _ _ _ _ hB;have lim:s.heap.NoLimit:=e0.mod.nolimit.keeps fun b o e=>(e0.bs b o e).1;have hrec:s.heap.CodeRec (.ref c') qual:=by
  obtain ⟨vs',t,d,v1⟩:=jD;exact ⟨c',co,vs',t,rfl,e0.hok.obj hc,d,v1⟩
 have jB:∀ y∈ps.zip us,scope.names.lookup y.1=some .local\/(scope.names.lookup y.1=some .cell/\((cellsFrom (s.heap.objs.size+1) scope.names []).lookup y.1).isSome=true):=fun ⟨n,v⟩ hy=>by
  rcases S.par n (uN hy).1 with q | q
  ·exact .inl q
  ·exact .inr ⟨q,sF _ _ _ (.inl q)⟩
 refine PySem.W.kla_callFunE hr.depth (e0.hok.obj hf) rfl S.co S.gen rfl hrec (hb _ _ _ _ ?_);refine wpAny_newFunctionEnv_cells S.kind jB fun env he s1 x=>?_;subst he;refine ⟨lim.keeps x.toInCall.keep,?_⟩;obtain ⟨t,ht,hq⟩:=jp A outer s H vs Q E (hr.deeper _) hB;have I:ZH (X9 ZW P w K mg base N qual scope f (.ref c') A outer s H E) [] (Vr N vs) H s1:=IW S hr.hd e0 hl r x;refine PySem.W.kla_codeExpr (ae (ht [] s1 (Vr N vs) H _ I hq) (fun u s' hs=>?_) fun e s' hs=>hs);obtain ⟨v,H2,J,rv,q⟩:=hs;exact ⟨v,H2,J.os,J.bare,J.base,J.hok,rv,q⟩
section
variable{X:Cx}
def BR(X:Cx)(g:KT->KT)(k:Nat)(t:TA)(tk:TE):TE:=fun σ H Q=>t σ H fun vs H1=>Y0 tk V4 σ H1 fun zs H2=>∃(f:aj)(fd:aq)(x0:Str)(sp:Sp)(IT:Hp->KT->V->Prop)(l:aj)(us:jf)(ts:List KT),zs=[.ref f]/\vs=[.ref l] /\
 ZJ X.prog X.w X.K X.mg X.base ZW k f fd [x0] sp/\Zt X.K fd [x0] []/\(∀(H H':Hp)(t:KT)(u:V),ZA H H'->IT H t u->IT H' t u)/\(∀(H':Hp)(u:V)(t:KT)(Q:VK),ZA H2 H'->IT H' t u->(∀(v':V)(H3:Hp),ZD H3 (g t) v'->ZA H' H3->Q v' H3)->sp [u] H' Q E0) /\
 H2 l=some (.lst us)/\Paired (IT H2) ts us/\(∀ t∈ts,t.fits 3=true)/\us.length<64 /\
 ∀(D:aj)(ws:jf)(rs:List KT)(H':Hp),ZA H2 H'->H2 D=none->H' D=some (.lst ws)->Paired (IT H') rs ws->rs.Perm ts->rs.Pairwise (fun a b=>b.lt a=false)->Q (.ref D) H'
theorem BX{g:KT->KT}(hg:Kg g)(dg:∀ t,(g t).depth<=2 * t.depth+2){k:Nat}{p pos kp:Pos}{e ke:Expr}{t:TA}{tk:TE}(hr:ZX (k+2) X.A)(hgl:Gl X "sorted")(hm:X.mg "sorted" = none)(ha:PA X [e] t)(hke:PE X ke tk)(he:aH pos (ax [e] X.env)=(false,aI e X.env) :: aH pos (ax [] X.env):=by rfl)(jF:(aH pos (ax [e] X.env)).any (·.1)=false:=by rfl):
  PE X (.Call (.Name "sorted" p) [e] [⟨some (yJ "key"),ke,kp⟩] pos) (BR X g k t tk):=by
 intro pins s σ H Q I h;refine ag (PN I hgl hm JV (callWith_kw (Zc (ha pos pins s σ H _ I h) fun us s1 ⟨vs,H1,I1,r,q⟩=>?_) he jF));have pk:PK X [⟨some (yJ "key"),ke,kp⟩] (Y0 tk V4):=Ja hke Gp;refine Zc (pk pos pins s1 σ H1 _ I1 q) fun zs s2 ⟨zv,H2,I2,rz,f,fd,x0,sp,IT,l,ws,ts,e1,e2,F,b,hI,hS,hl,hk,hf,h64,q2⟩=>?_;subst e1 e2;obtain ⟨u,rfl,ru⟩:=Vk r;obtain ⟨u2,rfl,ru2⟩:=Vk rz;cases ru;cases ru2;obtain ⟨jj,rv,pl,hz⟩:=I2.list (ZL.of hl);have lv:=rv.length;exact Hl hg dg hr F b I2 hI hS hk hf h64 (fun Q' hq=>collect_list pl.isList (hq _ jj (I2.kept (t':=s2.toks) fun b o e=>(wD _ _ (Ne.symm (yY (zS e)))).trans (zR _ e)) rv) (by rw [sizeLine_eq];first | lia | (simp;lia))) q2
end
end Tw
namespace L2
open PySem PySem.Spec PyProof.Rows
section
variable{X:Cx}
theorem Ch(hu:X.A.units<cLine):Yx X (aB .NotEq) (fun x y H Q=>∃(a b:aj)(ka:List (Zd×V)),x=.ref a/\y=.ref b/\H a=some (.dK ka)/\H b=some (.dK [])/\Q (.bl (!ka.isEmpty)) H):=by
 intro pins s σ H x y v u Q I rx ry h;obtain ⟨a,b,ka,rfl,rfl,h1,h2,q⟩:=h;cases rx;cases ry;obtain ⟨z1,lo1,va,kv1,hD1⟩:=Oa I.hok h1;obtain ⟨z2,lo2,vb,kv2,hD2⟩:=Oa I.hok h2;have l1:=KV.length kv1;have l2:=KV.length kv2;have e2:vb=[]:=sG.mp l2.symm;subst e2;refine PySem.W.keq_ne (r:=true) lo1 lo2 hD1 hD2 hu (fun e=>?_) ⟨.bl (!ka.isEmpty),H,I,?_,q⟩
 ·have:va=[]:=sG.mp e;subst this;exact .nil
 ·show Value.bool _=Value.bool _
  congr 1
  cases ka with
  | nil=>cases va with
   | nil=>rfl
   | cons _ _=>simp at l1
  | cons _ _=>cases va with
   | nil=>simp at l1
   | cons _ _=>rfl
end
def Aa(K:zZ)(CB:aj)(sp:Sp)(t:TA)(ts:TS):TS:=fun D σ H=>t σ H fun vs H1=>sp (vs++[]) H1 (fun v H2=>∀ p,H2 p=none->D.rt (.ref p) (upd H2 p (.lst [v]))) (JA K CB ts D σ)
theorem ZMs{X:Cx}{k:Nat}{f CB:aj}{fd:aq}{ps:List Str}{sp:Sp}{x y:Str}{p jk lpos rpos py ph pos:Pos}{e:Expr}{es:List Expr}{t:TA}{b₀:aE}{suite:List aE}{ts:TS}(F:ZJ X.prog X.w X.K X.mg X.base (XD X.prog X.w) k f fd ps sp)(hr:ZX k X.A)(hg:Gl X x)(hm:X.mg x=some (.ref f))(hk:yQ X.K (.ref f)=true)(hb:Zt X.K fd ps [])(ha:∀ E',PA (X.wish E') (e :: es) t)(hst:X.stack=X.env :: X.outer)(hfm:X.env.frame=some X.env.locals)(hy:Gl X y)(hyC:X.mg y=some (.ref CB))(ht:yE X.K (.ref CB)=some (.type "type"))(hB:yW X.K CB (.type "BaseException")=some true)(hs:∀ ea E',Xn (X.held ea E') (b₀ :: suite) ts)(jy:(x==("__debug__" : Str))=false:=by decide)(hdy:(y==("__debug__" : Str))=false:=by decide)(he:ax (e :: es) X.env=(false,aI e X.env) :: ax es X.env:=by rfl)(jv:(aH jk (ax es X.env)).any (·.1)=false:=by rfl)(hse:ax [.Call (.Name x p) (e :: es) [] jk] X.env=(false,aI (.Call (.Name x p) (e :: es) [] jk) X.env) :: ax [] X.env:=by rfl):
  PS X (.Try [.Return (some (.List [.Call (.Name x p) (e :: es) [] jk] lpos)) rpos] [.ExceptHandler (some (.Name y py)) none (b₀ :: suite) ph] [] [] pos) (Aa X.K CB sp t ts):=by
 intro pins s σ H D I h;refine wpAny_Try_except ?_;have hfr:X.A.frames=some (X.env :: X.outer):=by rw [I.ok.frames,hst]
 have lands:∀(H1:Hp)(s1:am)(ev:ai)(s':am),ZH X pins σ H1 s1->XD X.prog X.w X.stack H1 s1 (JA X.K CB ts D σ) ev s' ->
   aD (aC X.prog X.w) X.A (noteFrame ev X.env) (fun _ s₂=>aD (aC X.prog X.w) X.A (setFlight ev none) (fun _ s₃=>aD (aC X.prog X.w) X.A (handleBy ev X.env [.ExceptHandler (some (.Name y py)) none (b₀ :: suite) ph]) (SP X pins D) X.xe s₃) X.xe s₂) X.xe s':=by
  intro H1 s1 ev s' I1 hx;obtain ⟨ea,cls,od,H',rfl,W,C,rfl,mC,q⟩:=hx;obtain ⟨B,fl,inT,inB,inA⟩:=W.ex;have fl':VV B (X.env :: X.outer) ea (.ref C) od .none s'.heap:=by rw [<-hst];exact fl
  refine Ma hfr hfm fl' fun h4 held4 sm4=>?_;refine P2 (s:={ s' with heap:=h4 }) held4 fun h5 fl5 sm5=>?_;have J5:ZH X pins σ H' { s' with heap:=h5 }:=NS I1 W inT inB inA fl5.1 (sm4.trans sm5);refine wpAny_handleBy_cons (codeAny_handlers_test ?_) (by intro q;cases q)
  refine QK (J5.held ea (fun _ _=>False)) hy hyC ?_ hdy;refine IF (s:={ s' with heap:=h5 }) J5.kIn fl5.at.is ht hB mC ?_;refine codeAny_handlers_suite ?_;refine P2 (s:={ s' with heap:=h5 }) fl5 fun h6 fl6 sm6=>?_;have J6:ZH X pins σ H' { s' with heap:=h6 }:=NS I1 W inT inB inA fl6.1 ((sm4.trans sm5).trans sm6);refine ae (hs ea _ pins _ _ _ _ (J6.held ea _) q) (fun fl s8 h8=>?_) fun _ _ z=>z
  cases fl with
  | next=>
   obtain ⟨σ8,H8,J8,q8⟩:=h8;exact ⟨σ8,H8,J8.unheld I1.ok,q8⟩
  | brk=>
   obtain ⟨σ8,H8,J8,q8⟩:=h8;exact ⟨σ8,H8,J8.unheld I1.ok,q8⟩
  | cont=>
   obtain ⟨σ8,H8,J8,q8⟩:=h8;exact ⟨σ8,H8,J8.unheld I1.ok,q8⟩
  | ret u=>
   obtain ⟨v8,σ8,H8,J8,r8,q8⟩:=h8;exact ⟨v8,σ8,H8,J8.unheld I1.ok,r8,q8⟩
 have I':=I.wish (fun ev s'=>aD (aC X.prog X.w) X.A (noteFrame ev X.env) (fun _ s₂=>aD (aC X.prog X.w) X.A (setFlight ev none) (fun _ s₃=>aD (aC X.prog X.w) X.A (handleBy ev X.env [.ExceptHandler (some (.Name y py)) none (b₀ :: suite) ph]) (SP X pins D) X.xe s₃) X.xe s₂) X.xe s');refine wpAny_execs_cons (wpAny_Return_some (wpAny_List_spliced ?_));rw [hse];show aD _ _ (spliced ((false,aI (.Call (.Name x p) (e :: es) [] jk) X.env) :: aH lpos (ax [] X.env))) _ _ s;refine Calls.spliced_cons ?_;refine ag (QK I hg hm ?_ jy);refine vU (h₀:=X.base) I.ok.mod.kin hk (Zc (ha _ jk pins s σ H _ I' h) fun us s1 ⟨vs,H1,I1,r,q⟩=>⟨I1.kIn,?_⟩) he jv;have r2:ZO (vs++[]) (us++[]):=r.append .nil;have hl:(us++[]).length=ps.length:=by rw [<-r2.length];exact F.len _ _ _ _ q
 refine wpAny_call (codeAny_mono (F.run X.A X.stack s1 H1 ⟨us,[]⟩ (us++[]) (vs++[]) _ _ hr I1.env0 (hb s1 us I1.kIn hl) r2 q) fun rr s' hq=>?_)
 cases rr with
 | error ev=>exact lands H1 s1 ev s' I1.unwish hq
 | ok fl=>
  cases fl with
  | ret u=>
   obtain ⟨v,H2,J,rv,q2⟩:=I1.unwish.after hq;refine Zc (ZF (X:=X.wish _) lpos pins s' σ H2 (fun xs H'=>xs=[]/\H'=H2) (J.wish _) ⟨rfl,rfl⟩) fun jH s2 ⟨xs,H3,I3,r3,e1,e2⟩=>?_;subst e1 e2;cases r3;have I4:=I3.unwish;refine ⟨show 1<=aw by decide,?_⟩
   have hf:H3 s2.heap.objs.size=none:=I4.hok.fresh (zY _);exact ⟨.ref s2.heap.objs.size,σ,upd H3 s2.heap.objs.size (.lst [v]),I4.laid (t':=s2.toks) (fun b u e=>zR _ e) (zY _) ⟨show 1<=aw by decide,[u],0,.cons rv .nil,yS _ rfl⟩,rfl,q2 _ hf⟩
  | next=>exact False.elim hq
  | brk=>exact False.elim hq
  | cont=>exact False.elim hq
end L2
namespace Tw
open PySem PySem.Spec L2 PyProof.Rows
def Jc(A:az)(s:am)(v u:ai)(b:Bool):Prop:=
 ∀(prog:ao)(w:ay)(E:jb)(Q:jb),Q (.bool b) s->aD (aC prog w) A (richCompare .LtE v u) Q E s
section
open PySem.SeqAt
open PySem.AutoSeq1 (wpAny_loadPart')
open PySem.MeetsSeq PySem.MeetsSeq2 PySem.MeetsSeq3
theorem EM(l b:aj)(items jl:Array ai)(n n2:Nat)(dd dd2:Option aj)(sl jG:Array (jd))(ts us:List KT):
  Meets (Builtin.«tuple.__le__» ⟨[.ref l,.ref b],[]⟩)
   (fun A R s=>s.heap.get? l=some { cls:=.type "tuple",dict:=dd,data:=.seq items n,slots:=sl }/\s.heap.get? b=some { cls:=.type "tuple",dict:=dd2,data:=.seq jl n2,slots:=jG } /\
    KVals s.heap ts items.toList/\KVals s.heap us jl.toList/\cmpL ts us=true /\
    (∀ x y v u,x∈ts->ZN s.heap x v->ZN s.heap y u->EqAt A.in1 s v u (x.eqb y))/\(∀ x y v u,x∈ts->ZN s.heap x v->ZN s.heap y u->x.cmp y=true->Jc A.in1 s v u (!y.plt x)) /\
    R (.ok (.ret (.bool (!pltL us ts)))) s):=
 .of_wp fun prog w A R s h=>by
  obtain ⟨hp,g,d,tk,os⟩:=s;obtain ⟨hl,hb,hi,hj,hc,hE,hL,h⟩:=h;have f2:=AutoSeq1.sub_tuple_tuple;have z1:items.size=ts.length:=by rw [hi.length];simp
  have z2:jl.size=us.length:=by rw [hj.length];simp
  wp_walk using wpAny_loadPart' hl,wpAny_loadPart' hb,wpAny_forIn_list _ (fun rest b s'=>b.1=none/\s'=⟨hp,g,d,tk,os⟩/\∃(vs ws:je)(ts' us':List KT),rest=vs.zip ws /\
   KVals hp ts' vs/\KVals hp us' ws/\(∀ x∈ts',x∈ts)/\cmpL ts' us'=true/\ts'.length+jl.size=us'.length+items.size/\R (.ok (.ret (.bool (!pltL us' ts')))) ⟨hp,g,d,tk,os⟩) _
  case turn=>
   rintro ⟨y,x⟩ rest b s' ⟨hb',rfl,vs,ws,ts',us',hz,hvi,hwi,hin,hcm,hlen,hR⟩
   cases ts' with
   | nil=>rw [KVals] at hvi;subst hvi;rw [List.zip_nil_left] at hz;cases hz
   | cons a ts'=>
    cases us' with
    | nil=>rw [KVals] at hwi;subst hwi;rw [List.zip_nil_right] at hz;cases hz
    | cons c us'=>
     rw [KVals] at hvi hwi;obtain ⟨v,vr,rfl,ka,hvi'⟩:=hvi;obtain ⟨u,ur,rfl,kc,hwi'⟩:=hwi;rw [uD] at hz;injection hz with hyx hrest;injection hyx with hy hx;subst hy hx;rw [pltL,eqb_comm' c a] at hR;rw [cmpL] at hcm;simp only [zI] at hlen;have he:=hE a c y x (hin a zK) ka kc;refine aa (he prog w _ _ ?_)
     cases hq:a.eqb c with
     | true=>
      rw [hq,aP rfl] at hR hcm
      wp_walk
      exact ⟨rfl,rfl,_,_,_,_,hrest,hvi',hwi',fun z hz=>hin z (zH _ hz),hcm,by lia,hR⟩
     | false=>
      rw [hq,aO zW] at hR hcm;have hri:=hL a c y x (hin a zK) ka kc hcm prog w
      wp_walk using hri
      exact ⟨_,rfl,by simpa using hR⟩
  case fin=>
   rintro ⟨b1,b2⟩ s' ⟨hb',rfl,vs,ws,ts',us',hz,hvi,hwi,hin,hcm,hlen,hR⟩;simp only at hb';subst hb';have hv:pltL us' ts'=decide (jl.size<items.size):=by
    cases ts' with
    | nil=>
     cases us' with
     | nil=>
      simp only [xD] at hlen;rw [pltL];exact (aK (by lia)).symm
     | cons c us'=>
      simp only [xD,zI] at hlen;rw [pltL];exact (aK (by lia)).symm
    | cons a ts'=>
     cases us' with
     | nil=>
      simp only [xD,zI] at hlen;rw [pltL];exact (aM (by lia)).symm
     | cons c us'=>
      rw [KVals] at hvi hwi;obtain ⟨v,vr,rfl,_,_⟩:=hvi;obtain ⟨u,ur,rfl,_,_⟩:=hwi;rw [uD] at hz;cases hz
   rw [hv,show (!decide (jl.size<items.size))=decide (items.size<=jl.size) by by_cases z:jl.size<items.size <;> simp [z] <;> lia] at hR
   wp_walk
   exact ⟨_,rfl,by simpa [Builtin.Tuple.tupleCompareSizes] using hR⟩
  case h=>
   exact ⟨rfl,rfl,items.toList,jl.toList,ts,us,rfl,hi,hj,fun _ hx=>hx,hc,by lia,h⟩
end
theorem Jd{s:am}:∀(n:Nat)(a b:KT)(A:az)(v u:ai),a.depth<=n->ZN s.heap a v->ZN s.heap b u->a.cmp b=true->A.units+a.depth<cLine->Jc A s v u (!b.plt a)
 | n,.int i,b,A,v,u,_,x,y,hc,hu=>by
  rw [ZN] at x;obtain ⟨t,rfl⟩:=x
  cases b with
  | int j=>rw [ZN] at y;obtain ⟨t',rfl⟩:=y;rw [KT.plt];exact fun prog w E Q h=>(le_int (by rw [show decide (i<=j) = !decide (j<i) by by_cases z:j<i <;> simp [z] <;> lia];exact h):aD (aC prog w) A (aB .LtE (.int i t) (.int j t')) Q E s)
  | str z=>simp [KT.cmp] at hc
  | tup m=>simp [KT.cmp] at hc
 | n,.str w,b,A,v,u,_,x,y,hc,hu=>by
  rw [ZN] at x;obtain ⟨t,rfl⟩:=x
  cases b with
  | int j=>simp [KT.cmp] at hc
  | str z=>rw [ZN] at y;obtain ⟨t',rfl⟩:=y;rw [KT.plt];exact fun prog w' E Q h=>(PySem.P.le_str h:aD (aC prog w') A (aB .LtE (.str w t) (.str z t')) Q E s)
  | tup m=>simp [KT.cmp] at hc
 | 0,.tup l,b,A,v,u,hn,x,y,hc,hu=>by
  rw [KT.depth] at hn
  lia
 | n+1,.tup l,b,A,v,u,hn,x,y,hc,hu=>by
  rw [ZN] at x;obtain ⟨p,jj,rfl,px,kx⟩:=x;rw [KT.depth] at hn hu;have hu':A.units<cLine:=by lia
  cases b with
  | int j=>simp [KT.cmp] at hc
  | str z=>simp [KT.cmp] at hc
  | tup m=>
   rw [ZN] at y;obtain ⟨q,its',rfl,py,ky⟩:=y;rw [KT.cmp] at hc;rw [KT.plt];intro prog w E Q h;obtain ⟨⟨cls,dd,data,sl⟩,ho,hcl,nn1,hd⟩:=id px;obtain ⟨⟨cls2,dd2,data2,jG⟩,ho2,hcl2,nn2,hd2⟩:=id py;simp only at hcl hd hcl2 hd2;subst hcl hd hcl2 hd2;refine richCompare_meets_room (op:=.LtE) ⟨_,ho,rfl⟩ ⟨_,ho2,rfl⟩ PySem.F.slot_tuple_le PySem.F.entry_tuple_le (PySem.F.args_tuple_le_2 _ _) (EM p q jj.toArray its'.toArray nn1 nn2 dd dd2 sl jG l m)
    ⟨ho,ho2,kx,ky,hc,fun x y v u hx k1 k2=>?_,fun x y v u hx k1 k2 k3=>?_,show Value.bool (!pltL m l)≠Value.notImplemented/\Q (.bool (!pltL m l)) s from ⟨(fun x=>nomatch x),h⟩⟩ hu'
   ·have d1:=QR hx;exact Pm x.depth x y A.in1 v u (zY _) k1 k2 (by show A.units+1+x.depth<cLine;lia)
   ·have d1:=QR hx;exact Jd n x y A.in1 v u (by lia) k1 k2 k3 (by show A.units+1+x.depth<cLine;lia)
section
variable{X:Cx}
def ZQe:R2:=fun x y H Q=>∃ a b,ZD H a x/\ZD H b y/\a.cmp b=true/\a.depth<=200/\Q (.bl (!b.plt a)) H
theorem Bw{k:Nat}(hr:ZX k X.A):Yx X (aB .LtE) ZQe:=by
 intro pins s σ H x y v u Q I rx ry h;obtain ⟨a,b,ha,hb,hc,hd,q⟩:=h;exact Jd a.depth a b X.A v u (zY _) (UU I a x v ha rx) (UU I b y u hb ry) hc (ZX.key hr hd) X.prog X.w X.xe _ ⟨.bl _,H,I,rfl,q⟩
end
end Tw
namespace Tw
open PySem PySem.Spec L2
variable{P:ao}{w:ay}{K:zZ}{mg:jc}{base:aF}{f:aj}{fd:aq}{jh ji CS CT CH CK CP CB:aj}
def Zq(i:Nat):Stmt:=PySem.Challenge.pw_twigmap_k34_near_ones.main.body.getD i (.Pass ⟨0,0,0,0⟩)
abbrev Ln:Stmt:=Zq 13
abbrev O8:Stmt:=Zq 14
abbrev Nt:Stmt:=Zq 15
abbrev LY:Stmt:=Zq 16
abbrev MO:Stmt:=Zq 17
abbrev LT:Stmt:=Zq 18
abbrev Lq:Stmt:=Zq 19
abbrev Na:Stmt:=Zq 20
abbrev Mz:Stmt:=Zq 30
abbrev MY:Stmt:=Zq 31
abbrev Ms:Stmt:=Zq 32
abbrev LL:Stmt:=Zq 33
abbrev Lo:Stmt:=Zq 34
abbrev LD:Stmt:=Zq 35
abbrev Lk:Stmt:=Zq 37
abbrev Li:Stmt:=Zq 38
abbrev Mw:Stmt:=Zq 39
abbrev LN:Stmt:=Zq 40
abbrev KR:Stmt:=Zq 41
abbrev KG:Stmt:=Zq 43
abbrev Ko:Stmt:=Zq 44
abbrev LA:Stmt:=Zq 45
abbrev LO:Stmt:=Zq 46
abbrev Mu:Stmt:=Zq 47
abbrev M9:Stmt:=Zq 48
abbrev Mb:Stmt:=Zq 49
abbrev Kc:Stmt:=Zq 50
abbrev Nd:Stmt:=Zq 51
abbrev KL:Stmt:=Zq 54
abbrev LX:Stmt:=Zq 56
abbrev M7:Stmt:=Zq 57
abbrev Kh:Stmt:=Zq 58
abbrev KJ:Stmt:=Zq 59
abbrev No:Stmt:=Zq 60
abbrev Nn:Stmt:=Zq 61
abbrev MG:Stmt:=Zq 62
abbrev LU:Stmt:=Zq 63
abbrev P9:Stmt:=Zq 64
abbrev QB:Stmt:=Zq 65
abbrev Kb:Stmt:=Zq 66
abbrev NE:Stmt:=Zq 67
abbrev Mh:Stmt:=Zq 68
abbrev MS:Stmt:=Zq 69
abbrev Ka:Stmt:=Zq 70
abbrev Lr:Stmt:=Zq 71
abbrev MV:Stmt:=Zq 72
abbrev Ly:Stmt:=Zq 73
abbrev M2:Stmt:=Zq 74
abbrev LC:Stmt:=Zq 75
abbrev LH:Stmt:=Zq 76
abbrev Qd:Stmt:=Zq 77
abbrev Kj:Stmt:=Zq 78
abbrev KW:Stmt:=Zq 79
abbrev ME:Stmt:=Zq 80
abbrev KB:Stmt:=Zq 81
abbrev MZ:Stmt:=Zq 82
abbrev KU:Stmt:=Zq 83
abbrev UV:Stmt:=Zq 84
structure YF(mg:jc):Prop where
 isi:mg "isinstance" = none
 bool:mg "bool" = none
 int:mg "int" = none
 str:mg "str" = none
 tuple:mg "tuple" = none
 list:mg "list" = none
 len:mg "len" = none
 all:mg "all" = none
 abs:mg "abs" = none
 max:mg "max" = none
 min:mg "min" = none
 range:mg "range" = none
 sorted:mg "sorted" = none
 ValueError:mg "ValueError" = none
 sum:mg "sum" = none
 signs:∃ t,mg "MOST_SIGNS" = some (.int 40 t)
 things:∃ t,mg "MOST_THINGS" = some (.int 4 t)
 deep:∃ t,mg "MOST_DEEP" = some (.int 3 t)
 rows:∃ t,mg "MOST_ROWS" = some (.int 4 t)
 few:∃ t,mg "FEWEST_BRANCHES" = some (.int 2 t)
 most:∃ t,mg "MOST_BRANCHES" = some (.int 4 t)
 height:∃ t,mg "HEIGHT" = some (.int 0 t)
 least:∃ t,mg "LEAST" = some (.int 1 t)
 greatest:∃ t,mg "GREATEST" = some (.int 2 t)
 many:∃ t,mg "MANY" = some (.int 3 t)
theorem Uo:ZC ["_law_well_here","_law_many","_law_found","_law_first","_law_second"] ["_law_well_here","_law_many"] (Ze M7):=Zp
theorem ZNa(F:Zj K "_law_pull" "_law_pull" M7 f fd):ZJ P w K mg base ZW 1 f fd ["_law_well_here","_law_many"] Zr:=by
 refine F.ok Uo (fun vs H Q E h=>?_) (fun cdv A outer s H vs Q E hr h=>?_)
 ·obtain ⟨p,m,rfl,_⟩:=h;rfl
 obtain ⟨p,m,rfl,W,⟨hm,hlog⟩,k⟩:=h;obtain ⟨a,b,c,d,hw,ha0,ha1,hc,hd⟩:=W.ex;have nd:=Uo.nd;refine ⟨_,ZR (Z5 (Y8 VM (Zn Zs (pv 0) ZM (fun _ _=>rfl)) ZM (YK _)) (ZU (Zg ZM)) Z7)
  (ZR (Pe (Zw Vp (Zn Zs (pv 0) ZM (fun _ _=>rfl)) ZM) (Lw (pv 0) ZM LB))
  (ZR (Z5 (Y8 Q2 (Zn Zs (pv 0) ZM (fun _ _=>rfl)) ZM (YK _))
   (ZR (Zk 2 nd (Zw Qk (Zn Zs (pv 0) ZM (fun _ _=>rfl)) (pv 1)))
   (ZR (Pe (Zw Dh (Zn Zs (pv 0) ZM (fun _ _=>rfl)) (pv 1)) (Lw (pv 0) ZM LB))
   (ZU (Zg (pv 2))))) Z7)
  (ZR (Pe (Zw WP (Zn Zs (pv 0) ZM (fun _ _=>rfl)) ZM) (Lw (pv 0) ZM LB))
  (ZR (Zk 3 nd (Zw Qk (Zw Ph (Zw WP (Zn Zs (pv 0) ZM (fun _ _=>rfl)) ZM) (Zw WP ZM (Zw Ph ZM (Zn Zs (pv 0) ZM (fun _ _=>rfl))))) ZM))
  (ZR (Zk 4 nd (Zw Qk (Zw Ph (Zw WP (Zw NV (pv 3) ZM) ZM) (Zw WP (Zw Qk (pv 3) ZM) ZM)) ZM))
  (ZU (Zg (Zw Qk (Zw NV (pv 4) ZM) (pv 1))))))))),?_⟩
 refine ⟨_,rfl,p,_,_,_,rfl,rfl,ZL.of hw,rfl,rfl,_,rfl,?_⟩;refine We (fun _=>?_) (fun c0=>?_)
 ·exact k 0 H (Int.le_refl 0) hm W (ZE.refl p H)
 have d0:d≠0:=fun e=>c0 (aM (by rw [e]))
 refine ⟨_,rfl,p,_,_,_,rfl,rfl,ZL.of hw,rfl,_,_,rfl,rfl,_,rfl,p,_,_,_,rfl,rfl,hw,rfl,?_⟩;refine ⟨_,rfl,p,_,_,_,rfl,rfl,ZL.of ZP,rfl,_,_,rfl,rfl,_,rfl,?_⟩;refine We (fun c1=>?_) (fun c1=>?_)
 ·refine ⟨_,rfl,p,_,_,_,rfl,rfl,ZL.of ZP,rfl,_,rfl,_,_,rfl,rfl,hm,?_⟩;refine ⟨_,rfl,p,_,_,_,rfl,rfl,ZL.of ZP,rfl,_,rfl,_,_,rfl,rfl,⟨hm,hlog⟩,_,rfl,p,_,_,_,rfl,rfl,ZP,rfl,?_⟩;refine ⟨_,rfl,?_⟩;refine k (c % m) _ (vQ _ (by lia)) (vV _ hm) ⟨a,b,c / m,d - 1,ZP,ha0,ha1,Int.ediv_nonneg hc (by lia),by lia⟩ (ZE.refl p H).upd.upd
 ·refine ⟨_,rfl,p,_,_,_,rfl,rfl,ZL.of ZP,rfl,_,_,rfl,rfl,_,rfl,p,_,_,_,rfl,rfl,ZP,rfl,?_⟩;refine ⟨_,rfl,p,_,_,_,rfl,rfl,ZL.of ZP,rfl,_,_,rfl,rfl,_,rfl,p,_,_,_,rfl,rfl,ZL.of ZP,rfl,_,_,rfl,rfl,.inl ⟨by decide,by decide⟩,_,_,rfl,rfl,_,_,rfl,rfl,.inl ⟨by lia,by lia⟩,_,_,rfl,rfl,(by show (0:Int)<2147483629;decide),?_⟩
  generalize hx:(a+1) * (48271+7919 * (b+1)) % 2147483629=x;have x0:0<=x:=by rw [<-hx];exact vQ _ (by decide)
  have x1:x<2147483629:=by rw [<-hx];exact vV _ (by decide)
  refine ⟨_,rfl,_,_,rfl,rfl,⟨by decide,by decide⟩,_,_,rfl,rfl,_,rfl,_,_,rfl,rfl,(by show (0:Int)<1009;decide),_,_,rfl,rfl,_,_,rfl,rfl,.inl ⟨by lia,by lia⟩,_,_,rfl,rfl,(by show (0:Int)<1000000007;decide),?_⟩
  refine ⟨_,rfl,_,_,rfl,rfl,⟨by decide,by decide⟩,_,rfl,_,_,rfl,rfl,hm,?_⟩
  exact k _ _ (vQ _ (by lia)) (vV _ hm) ⟨a,b+1,c,d - 1,ZP,ha0,ha1,hc,by lia⟩ (ZE.refl p H).upd.upd
theorem UB:ZC ["_law_well_here","_law_bound","_law_found","_law_j"] ["_law_well_here","_law_bound"] (Ze Kh):=Zp
theorem BU(F:Zj K "_law_great" "_law_great" Kh f fd)(T:YF mg)(DP:ZB P w K mg base 1 "_law_pull" ["_law_well_here","_law_many"] Zr):ZJ P w K mg base ZW 2 f fd ["_law_well_here","_law_bound"] Zr:=by
 refine F.ok UB (fun vs H Q E h=>?_) (fun cdv A outer s H vs Q E hr h=>?_)
 ·obtain ⟨p,m,rfl,_⟩:=h;rfl
 obtain ⟨p,m,rfl,W,hm,k⟩:=h;obtain ⟨a,b,c,d,hw,_⟩:=W.ex;have nd:=UB.nd;refine ⟨_,ZR (Z5 (Y8 Q2 (Zn Zs (pv 0) ZM (fun _ _=>rfl)) ZM (YK _)) (ZU (Zg (Zh DP hr (Zb (pv 0) (Zb (pv 1) ZF))))) Z7)
  (ZR (Zk 2 nd ZM)
  (ZR (Vf PassesOwn.never rfl (Qw rfl T.range (Zb ZM ZF)) (Xo 3 nd)
   (ZU (Zk 2 nd (Zw WP (Zw Ph (pv 2) ZM) (Zh DP hr (Zb (pv 0) (Zb ZM ZF)))))))
  (ZU (Zg (Zw Qk (pv 2) (pv 1)))))),?_⟩
 refine ⟨_,rfl,p,_,_,_,rfl,rfl,ZL.of hw,rfl,_,_,rfl,rfl,_,rfl,?_⟩;refine We (fun _=>?_) (fun _=>?_)
 ·exact ⟨_,rfl,_,rfl,p,m,rfl,W,hm,k⟩
 refine ⟨8,rfl,by decide,by decide,Qu (n:=8) (fun i σ H2=>∃(z:Int)(j:jg),σ=[some (.ref p),some (.int m),some (.int z),j]/\ZI H2 p/\ZE p H H2) ⟨0,none,rfl,W,ZE.refl p H⟩ ?_ ?_⟩
 ·rintro i σ H2 hi ⟨z,j,rfl,W2,s2⟩;refine ⟨_,rfl,_,_,rfl,rfl,.inr ⟨by decide,by decide⟩,_,rfl,p,62500000,rfl,W2,Xi (by decide) (by decide),fun r H3 _ _ W3 s3=>?_⟩
  exact ⟨_,_,rfl,rfl,_,_,rfl,W3,s2.trans s3⟩
 ·rintro σ H2 ⟨z,j,rfl,W2,s2⟩;refine ⟨_,rfl,_,rfl,_,_,rfl,rfl,hm.1,?_⟩;exact k _ _ (vQ _ (by have:=hm.1;lia)) (vV _ hm.1) W2 s2
def YX:Str:= " \"\\~!#$&'()*+,-./0123456789:;<=>?@ABCDEFGHIJKLMNOPQRSTUVWXYZ[]^_`abcdefghijklmnopqrstuvwxyz{|}"
theorem Fy:YX.cps.toList.length=94:=by decide +kernel
theorem Ie:YX.length=94:=by decide +kernel
theorem Cc:YX.cps.toList.all UT=true:=by decide +kernel
theorem GG{i:Int}(h0:0<=i)(h1:i<94):∃ c,WM YX.cps.toList i=some c/\UT c=true:=by
 obtain ⟨c,e,m⟩:=Q7 (xs:=YX.cps.toList) h0 (by rw [Fy];exact h1)
 exact ⟨c,e,zP.mp Cc c m⟩
def WH(x:Str)(i:Nat):Prop:=x.cps.size<=i/\x.cps.toList.all UT=true
theorem WH.ok{x:Str}{i:Nat}(h:WH x i)(hi:i<=40):Us x=true:=by
 unfold Us;rw [zQ];exact ⟨aM (yK h.1 hi),h.2⟩
theorem WH.more{x:Str}{i c:Nat}(h:WH x i)(hc:UT c=true):WH (x++(⟨#[c]⟩:Str)) (i+1):=by
 have e:(x++(⟨#[c]⟩:Str)).cps=x.cps++#[c]:=rfl;refine ⟨?_,?_⟩
 ·rw [e,sX];exact Nat.succ_le_succ h.1
 ·rw [e,sR,List.all_append,h.2];simp [hc]
abbrev BS:List Str:=["_law_well_here","_law_signs","_law_text_here","_law_few","_law_j","_law_sign"]
theorem U6:ZC BS ["_law_well_here"] (Ze KJ):=Zp
theorem BO(F:Zj K "_law_text" "_law_text" KJ f fd)(T:YF mg)(DP:ZB P w K mg base 1 "_law_pull" ["_law_well_here","_law_many"] Zr):ZJ P w K mg base ZW 2 f fd ["_law_well_here"] Xz:=by
 refine F.ok U6 (fun vs H Q E h=>?_) (fun cdv A outer s H vs Q E hr h=>?_)
 ·obtain ⟨p,rfl,_⟩:=h;rfl
 obtain ⟨p,rfl,W,k⟩:=h;have nd:=U6.nd;refine ⟨_,ZR (Zk 1 nd Xq) (ZR (Zk 2 nd Xq)
  (ZR (Zk 3 nd (Zh DP hr (Zb (pv 0) (Zb ZM ZF))))
  (ZR (Vf PassesOwn.never rfl (Qw rfl T.range (Zb (Zh DP hr (Zb (pv 0) (Zb (Zn Zs (Yr (Zb ZM (Zb ZM ZF))) (Zh DP hr (Zb (pv 0) (Zb ZM ZF))) (fun _ _=>rfl)) ZF))) ZF)) (Xo 4 nd)
   (ZR (Zk 5 nd Xq)
   (ZR (Z5 (PY (Y8 Q2 (pv 3) ZM (YK _)) (Pf (Y8 VM (Zh DP hr (Zb (pv 0) (Zb ZM ZF))) ZM (YK _)))).pt
    (ZU (Zk 5 nd (Zn G2 (pv 1) (Zh DP hr (Zb (pv 0) (Zb (Zn Zs (Yr (Zb ZM (Zb ZM ZF))) (Zw NV (pv 3) ZM) (fun _ _=>rfl)) ZF))) (fun _ _=>rfl)))) Z7)
   (ZU (Zk 2 nd (Zw ZH0 (pv 2) (pv 5)))))))
  (ZU (Zg (pv 2)))))),?_⟩
 refine ⟨_,rfl,p,3,rfl,W,Xi (by decide) (by decide),fun pl H1 pl0 pl1 W1 s1=>?_⟩
 refine ⟨_,rfl,(by show 2<=aw;decide),fun l hl=>?_⟩
 have W1':ZI (upd H1 l (.lst [.int 4,.int 41])) p:=W1.same (ZY hl _);refine ⟨_,rfl,p,2,rfl,W1',Xi (by decide) (by decide),fun r H2 r0 r1 W2 s2=>?_⟩
 have npl:l≠p:=by
  obtain ⟨xs,e⟩:=W1.some;exact (Za e hl).symm
 have hl2:H2 l=some (.lst [.int 4,.int 41]):=s2 l _ ZP npl;obtain ⟨v,hv,hv'⟩:=Kr (x:=V.int 4) (y:=V.int 41) r0 r1;have hb:∃ z:Int,v=.int z/\0<z/\z<=41:=by
  rcases hv' with e | e
  ·exact ⟨4,e,by decide,by decide⟩
  ·exact ⟨41,e,by decide,by decide⟩
 obtain ⟨z,rfl,z0,z1⟩:=hb;refine ⟨l,_,_,_,rfl,rfl,ZL.of hl2,hv,p,z,rfl,W2,Xi z0 (by lia),fun n H3 n0 n1 W3 s3=>?_⟩
 have sA:ZE p H H3:=(s1.trans (ZE.of (ZY hl _))).trans (s2.trans s3);refine ⟨n,rfl,by lia,by lia,Qu (n:=n.toNat) (fun i σ H4=>∃(x:Str)(j g:jg),σ=[some (.ref p),some (.str YX),some (.str x),some (.int pl),j,g]/\WH x i/\ZI H4 p/\ZE p H H4)
  ⟨"",none,none,rfl,⟨by decide,by decide⟩,W3,sA⟩ ?_ ?_⟩
 ·rintro i σ H4 hi ⟨x,j,g,rfl,hx,W4,s4⟩;have fin:∀(c:Nat)(H5:Hp),UT c=true->ZI H5 p->ZE p H H5->∃(y:Str)(j g:jg),[some (V.ref p),some (.str YX),some (.str (x++(⟨#[c]⟩:Str))),some (.int pl),some (.int (0+(i:Int))),some (.str ⟨#[c]⟩)]=[some (.ref p),some (.str YX),some (.str y),some (.int pl),j,g]/\WH y (i+1)/\ZI H5 p/\ZE p H H5:=
   fun c H5 hc W5 s5=>⟨_,_,_,rfl,hx.more hc,W5,s5⟩
  have hlen:∀ c:Nat,x.length+(⟨#[c]⟩:Str).length<=sizeLine:=fun c=>by
   have h1:x.length<=i:=hx.1;have h2:(⟨#[c]⟩:Str).length=1:=rfl;rw [h2];exact nn (by lia)
  have yes:∀ H5,ZI H5 p->ZE p H H5->∃(v:Int),0<v/\v<=94/\WM [V.int 94,V.int 5] (pl / 2)=some (.int v):=fun H5 _ _=>by
   obtain ⟨v,e,h⟩:=Kr (x:=V.int 94) (y:=V.int 5) (i:=pl / 2) (by lia) (by lia)
   rcases h with rfl | rfl
   ·exact ⟨94,by decide,by decide,e⟩
   ·exact ⟨5,by decide,by decide,e⟩
  refine ⟨_,rfl,_,_,rfl,rfl,_,rfl,?_⟩;refine We (fun _=>?_) (fun _=>?_)
  ·refine Z2 ?_;refine ⟨_,rfl,_,rfl,(by show 2<=aw;decide),fun l2 hl2=>?_⟩
   obtain ⟨v,v0,v1,ev⟩:=yes H4 W4 s4;refine ⟨_,rfl,_,_,rfl,rfl,⟨by decide,by decide⟩,l2,_,_,_,rfl,rfl,ZL.of ZP,ev,p,v,rfl,W4.same (ZY hl2 _),Xi v0 (by lia),fun u H5 u0 u1 W5 s5=>?_⟩
   obtain ⟨c,ec,hc⟩:=GG u0 (by lia)
   refine ⟨YX,_,c,rfl,rfl,(by rw [Ie];exact nn (by decide)),ec,?_⟩
   exact ⟨_,rfl,_,rfl,_,_,rfl,rfl,hlen c,fin c H5 hc W5 ((s4.trans (ZE.of (ZY hl2 _))).trans s5)⟩
  ·refine ⟨_,rfl,p,8,rfl,W4,Xi (by decide) (by decide),fun y H6 _ _ W6 s6=>⟨rfl,_,rfl,?_⟩⟩
   refine We (fun _=>?_) (fun _=>?_)
   ·refine ⟨_,rfl,_,rfl,(by show 2<=aw;decide),fun l2 hl2=>?_⟩
    obtain ⟨v,v0,v1,ev⟩:=yes H6 W6 (s4.trans s6);refine ⟨_,rfl,_,_,rfl,rfl,⟨by decide,by decide⟩,l2,_,_,_,rfl,rfl,ZL.of ZP,ev,p,v,rfl,W6.same (ZY hl2 _),Xi v0 (by lia),fun u H5 u0 u1 W5 s5=>?_⟩
    obtain ⟨c,ec,hc⟩:=GG u0 (by lia)
    refine ⟨YX,_,c,rfl,rfl,(by rw [Ie];exact nn (by decide)),ec,?_⟩
    exact ⟨_,rfl,_,rfl,_,_,rfl,rfl,hlen c,fin c H5 hc W5 (((s4.trans s6).trans (ZE.of (ZY hl2 _))).trans s5)⟩
   ·exact ⟨_,rfl,_,rfl,_,_,rfl,rfl,hlen 97,fin 97 H6 (by decide) W6 (s4.trans s6)⟩
 ·rintro σ H4 ⟨x,j,g,rfl,hx,W4,s4⟩;exact ⟨_,rfl,k x H4 (hx.ok (by lia)) W4 s4⟩
theorem Q0:ZC ["_law_well_here","_law_room","_law_way"] ["_law_well_here","_law_room"] (Ze No):=Zp
theorem F5{k:Nat}:ZJ P w K mg base ZW k f fd ["_law_well_here","_law_room"] (XC 0):=by
 have no:∀ vs H Q E,¬ XC 0 vs H Q E:=fun vs H Q E h=>by
  obtain ⟨p,r,_,_,h1,_⟩:=h
  lia
 exact ⟨fun vs H Q E h=>absurd h (no vs H Q E),fun A outer s H args us vs Q E _ _ _ _ h=>absurd h (no vs H Q E)⟩
theorem BH{n:Nat}(F:Zj K "_law_key" "_law_key" No f fd)(T:YF mg)(DP:ZB P w K mg base 1 "_law_pull" ["_law_well_here","_law_many"] Zr)(DG:ZB P w K mg base 2 "_law_great" ["_law_well_here","_law_bound"] Zr)(DT:ZB P w K mg base 2 "_law_text" ["_law_well_here"] Xz)(DK:ZB P w K mg base (n+2) "_law_key" ["_law_well_here","_law_room"] (XC n)):ZJ P w K mg base ZW (n+3) f fd ["_law_well_here","_law_room"] (XC (n+1)):=by
 refine F.ok Q0 (fun vs H Q E h=>?_) (fun cdv A outer s H vs Q E hr h=>?_)
 ·obtain ⟨p,r,rfl,_⟩:=h;rfl
 obtain ⟨p,r,rfl,W,hn,k⟩:=h;have nd:=Q0.nd;have hr1:=hr.mono (show 1<=n+2 by lia)
 have hr2:=hr.mono (show 2<=n+2 by lia)
 refine ⟨_,ZR (Zk 2 nd (Zh DP hr1 (Zb (pv 0) (Zb ZM ZF))))
  (ZR (Z5 (Y8 PJ (pv 2) ZM (YK _)) (ZU (Zg (Zw Vp (Zh DP hr1 (Zb (pv 0) (Zb ZM ZF))) ZM))) Z7)
  (ZR (Z5 (Y8 VM (pv 2) ZM (YK _)) (ZU (Zg (Zw WP (Zw Vp (Zh DG hr2 (Zb (pv 0) (Zb (Zw Vp (Zw Ph ZM (Zw OI ZM ZM)) ZM) ZF))) (Zw OI ZM ZM)) ZM))) Z7)
  (ZR (Z5 (PY (Y8 PJ (pv 2) ZM (YK _)) (Pf (Y8 VM (pv 1) ZM (YK _)))).pt (ZU (Zg (Zh DT hr2 (Zb (pv 0) ZF)))) Z7)
  (ZU (Zg (Wy Po rfl T.tuple QZ (Zb (VZ [0,1] ["_law_well_here","_law_room"] rfl (Qw rfl T.range (Zb (Zh DP hr1 (Zb (pv 0) (Zb ZM ZF))) ZF)) (fun _ _ _ _ _=>Vc)
   (fun _ _ _ _ _=>Zh DK hr (Zb (pv 1) (Zb (Zw Vp (pv 2) ZM) ZF))) ⟨rfl,.inl rfl,rfl,rfl,.inl rfl,rfl,trivial⟩) ZF))))))),?_⟩
 refine ⟨_,rfl,p,8,rfl,W,Xi (by decide) (by decide),fun y H1 y0 y1 W1 s1=>?_⟩
 refine ⟨_,rfl,_,_,rfl,rfl,_,rfl,?_⟩;refine We (fun _=>?_) (fun c1=>?_)
 ·refine ⟨_,rfl,p,41,rfl,W1,Xi (by decide) (by decide),fun u H2 u0 u1 W2 s2=>⟨_,_,rfl,rfl,?_⟩⟩
  refine k (.int (u - 20)) (.int (u - 20)) H2 (ZD.int _) ?_ W2 (s1.trans s2);rw [KT.fits];have e:(10:Nat) ^ 60 > 1000:=by decide
  exact aM (by lia)
 refine ⟨_,rfl,rfl,_,rfl,?_⟩;refine We (fun _=>?_) (fun c2=>?_)
 ·refine ⟨_,rfl,_,_,rfl,rfl,⟨by decide,by decide,by decide⟩,_,_,rfl,rfl,.inl ⟨by decide,by decide⟩,_,_,rfl,rfl,p,_,rfl,W1,Xi (by decide +kernel) (by decide +kernel),fun u H2 u0 u1 W2 s2=>?_⟩
  refine ⟨_,_,rfl,rfl,⟨by decide,by decide,by decide⟩,_,_,rfl,rfl,_,_,rfl,rfl,?_⟩
  refine k _ (.int _) H2 (ZD.int _) ?_ W2 (s1.trans s2);have e:((10:Int) ^ (60:Int).toNat)=((10 ^ 60:Nat):Int):=by decide +kernel
  rw [e] at u1;rw [KT.fits,e];generalize (10 ^ 60:Nat)=N at *;exact aM (by lia)
 have txt:Xz ([.ref p]++[]) H1 Q E0:=⟨p,rfl,W1,fun x H2 hx W2 s2=>k (.str x) (.str x) H2 (ZD.str x) (by rw [KT.fits];exact hx) W2 (s1.trans s2)⟩
 refine ⟨_,rfl,_,_,rfl,rfl,_,rfl,?_⟩;refine We (fun _=>?_) (fun _=>?_)
 ·exact Z2 ⟨_,rfl,txt⟩
 refine ⟨_,rfl,rfl,_,rfl,?_⟩;refine We (fun _=>?_) (fun c3=>?_)
 ·exact ⟨_,rfl,txt⟩
 have r0:r≠0:=fun e=>c3 (aM (by rw [e];rfl))
 refine ⟨_,rfl,p,5,rfl,W1,Xi (by decide) (by decide),fun u H2 u0 u1 W2 s2=>⟨u,rfl,by lia,by lia,?_⟩⟩
 have sB:ZE p H H2:=s1.trans s2;refine VY (n:=u.toNat) (fun i x=>x=.int (0+(i:Int))) (fun D i ys H3=>ZI H3 p/\ZE p H H3/\D≠p/\H D=none/\∃ ts,KeysAt H3 ts ys/\ts.length=i/\fitsL ts (r - 1)=true) (XM (by lia))
  (fun D i ys H3 hi _=>hi) (fun D i ys H3 x H4 hi _ hy=>hy) (fun D ys H3 _=>zY _) (fun D hD=>?_) (fun D i ys H3 x eD hl hi hx hP R hR=>?_) (fun D ys H3 eD hP=>?_)
 ·have nD:D≠p:=by
   obtain ⟨xs,e⟩:=W2.some;exact (Za e hD).symm
  have nH:H D=none:=by
   cases e:H D with
   | none=>rfl
   | some o=>rw [sB D o e nD] at hD;cases hD
  exact ⟨W2.same (ZY hD _),sB.trans (ZE.of (ZY hD _)),nD,nH,[],.nil,rfl,by rw [fitsL]⟩
 ·obtain ⟨W3,s3,nD,nH,ts,hk,hlen,hf⟩:=hP;have er:(r:Int) - 1=((r - 1:Nat):Int):=by lia
  refine ⟨_,rfl,_,rfl,_,_,rfl,rfl,p,r - 1,congrArg (fun z=>[V.ref p,V.int z]) er,W3,by lia,fun v t H4 hv ht W4 s4=>?_⟩
  have eD4:=s4 D _ eD nD;have sD:ZE D H4 (upd H4 D (.lst (ys++[v]))):=(ZE.refl D H4).upd;have tD:Z1 H4 (upd H4 D (.lst (ys++[v]))):=sD.tups eD4;refine hR v H4 eD4 ⟨W4.stay sD nD.symm,fun b o e n=>?_,nD,nH,ts++[t],((KeysAt.mono (s4.tupsW W3) _ _ hk).append (.cons hv .nil)).mono tD _ _,by simp [hlen],?_⟩
  ·rw [ZV (Za e nH)];exact (s3.trans s4) b o e n
  ·rw [NZ] at hf ⊢;rw [List.all_append,hf];simp [ht]
 ·obtain ⟨W3,s3,nD,nH,ts,hk,hlen,hf⟩:=hP;refine ⟨D,ys,rfl,.inl ⟨ZL.of eD,fun l hl=>?_⟩⟩;have sl:=ZY hl (.tup ys);refine k (.ref l) (.tup ts) _ (.tup ZP (hk.mono (ZA.tups sl) _ _)) ?_ (W3.same sl) (s3.trans (ZE.of sl));rw [KT.fits,hf,Bool.and_true,zQ];exact ⟨aM (by lia),aM (by lia)⟩
abbrev Ez:List Str:=["_law_script","_law_k","_law_left","_law_cell","_law_digits"]
theorem U2:ZC Ez ["_law_script","_law_k"] (Ze LX):=Zp
theorem BE(F:Zj K "_law_well" "_law_well" LX f fd)(T:YF mg):ZJ P w K mg base ZW 1 f fd ["_law_script","_law_k"] (WG K):=by
 refine F.ok U2 (fun vs H Q E h=>?_) (fun cdv A outer s H vs Q E hr h=>?_)
 ·obtain ⟨a,ns,k,rfl,_⟩:=h;rfl
 obtain ⟨a,ns,k,rfl,hS,hn,k0,k1,q⟩:=h;have nd:=U2.nd;refine ⟨_,ZR (Zk 2 nd (Zn Zs (Yr (Zb ZM (Zb ZM ZF))) (Wy OA rfl T.int QY (Zb (VQ VM (pv 1) ZM (YK _)) ZF)) (fun _ _=>rfl)))
  (ZR (Zk 3 nd (Zn Zs (Zw Nv (Wy Q5 rfl T.list Qf (Zb (pv 0) ZF)) (Yr (Zb ZM ZF))) (Zw Qk (pv 1) (Z4 (LE rfl) rfl T.max Lj (Zb ZM (Zb (Z4 Xu rfl T.len Xl (Zb (pv 0) ZF)) ZF)))) (fun _ _=>rfl)))
  (ZR (Zk 4 nd (Zw Ph (Z4 LK rfl T.abs Kk (Zb (pv 3) ZF)) (Wy OA rfl T.int QY (Zb (QV (VQ ZPU (Z4 LK rfl T.abs Kk (Zb (pv 3) ZF)) (Zw OI ZM ZM) (YK _)) (Q4 (VQ PJ (pv 1) (Z4 Xu rfl T.len Xl (Zb (pv 0) ZF)) (YK _)))) ZF))))
  (ZU (Zg (Yr (Zb (Zw Qk (pv 3) ZM) (Zb (Zw Ph ZM (pv 1)) (Zb (pv 4) (Zb (pv 2) ZF))))))))),?_⟩
 refine ⟨(by show 2<=aw;decide),fun l1 hl1=>?_⟩
 have g1:=ZY hl1 (.lst [V.int 240,V.int 2400]);refine ⟨_,rfl,rfl,.inr ⟨_,rfl,?_⟩⟩;obtain ⟨lv,elv,hlv⟩:∃ z:Int,WM [V.int 240,V.int 2400] (if decide (V.int k=V.int 0)=true then 1 else 0)=some (.int z)/\0<=z:=by
  split
  ·exact ⟨2400,rfl,by decide⟩
  ·exact ⟨240,rfl,by decide⟩
 refine ⟨l1,_,_,_,rfl,rfl,ZL.of ZP,elv,?_⟩;refine ⟨_,rfl,a,_,rfl,.inl (g1.seq hS),fun l2 hl2=>?_⟩;have g2:=g1.trans (ZY hl2 (.lst (ns.map V.int)));refine ⟨(by show 1<=aw;decide),fun l3 hl3=>?_⟩
 have g3:=g2.trans (ZY hl3 (.lst [V.int 0]));have n23:l2≠l3:=Za ZP hl3;refine ⟨l2,l3,_,_,rfl,rfl,(by rw [ZV n23];exact ZP),ZP,(by rw [zX];exact nn (by show ns.length+1<=1000;lia)),fun l4 hl4=>?_⟩
 have g4:=g3.trans (ZY hl4 (.lst (ns.map V.int++[V.int 0])));refine ⟨_,rfl,_,rfl,a,_,rfl,.inl (g4.seq hS),_,_,rfl,?_⟩;have hlm:(ns.map V.int).length=ns.length:=zX _;generalize hM:(if (((ns.map V.int).length:Nat):Int) > 1 then (((ns.map V.int).length:Nat):Int) else 1)=M
 have M1:1<=M/\M<=(ns.length:Int)+1:=by
  rw [hlm] at hM;rw [<-hM];split <;> lia
 refine ⟨_,_,rfl,rfl,by lia,?_⟩
 have i0:0<=k % M:=vQ _ (by lia)
 have i1:k % M<M:=vV _ (by lia)
 obtain ⟨cv,ecv,mcv⟩:=Q7 (xs:=ns.map V.int++[V.int 0]) i0 (by rw [zU,zX,tY];lia)
 obtain ⟨cell,rfl⟩:∃ z:Int,cv=.int z:=by
  rcases yT.mp mcv with m | m
  ·obtain ⟨z,_,e⟩:=zJ.mp m;exact ⟨z,e.symm⟩
  ·exact ⟨0,zA.mp m⟩
 refine ⟨l4,_,_,_,rfl,rfl,ZL.of ZP,ecv,?_⟩;have dig:∀ b:Bool,0<=(if cell<0 then -cell else cell) * (if b=true then 1 else 0):=fun b=>by
  cases b
  ·simp
  ·simp;split <;> lia
 have cm:∀(x:Int)(b:Bool),Qb x (if b=true then 1 else 0):=fun x b=>.inr (by cases b <;> exact ⟨by decide,by decide⟩)
 have done:∀(z:Int)(H5:Hp),0<=z->ZA H H5->∀ l5,H5 l5=none->Q (.ref l5) (upd H5 l5 (.lst [.int (cell % 2147483647),.int (1000 * k),.int z,.int lv])):=fun z H5 z0 s5 l5 hl5=>
  q l5 _ (s5.free hl5) (s5.trans (ZY hl5 _)) ⟨_,_,_,_,ZP,vQ _ (by decide),vV _ (by decide),z0,hlv⟩
 refine ⟨_,rfl,_,rfl,_,rfl,_,rfl,_,_,rfl,rfl,⟨by decide,by decide,by decide⟩,_,_,rfl,rfl,_,rfl,?_⟩
 refine We (fun _=>?_) (fun _=>?_)
 ·refine ⟨_,rfl,_,rfl,a,_,rfl,.inl (g4.seq hS),_,_,rfl,rfl,.inr ⟨_,rfl,_,_,rfl,rfl,cm _ _,?_⟩⟩;refine ⟨_,rfl,_,_,rfl,rfl,(by show (0:Int)<2147483647;decide),_,rfl,_,_,rfl,rfl,.inl ⟨by decide,by decide⟩,_,rfl,_,rfl,(by show 4<=aw;decide),fun l5 hl5=>?_⟩
  exact done _ _ (dig _) g4 l5 hl5
 ·refine .inr ⟨_,rfl,_,_,rfl,rfl,cm _ false,?_⟩;refine ⟨_,rfl,_,_,rfl,rfl,(by show (0:Int)<2147483647;decide),_,rfl,_,_,rfl,rfl,.inl ⟨by decide,by decide⟩,_,rfl,_,rfl,(by show 4<=aw;decide),fun l5 hl5=>?_⟩
  exact done _ _ (dig false) g4 l5 hl5
theorem B3:ZC ["number"] ["number"] (Ze LY):=Zp
theorem CL(F:Zj K "has_few_figures" "has_few_figures" LY f fd)(T:YF mg):ZJ P w K mg base ZW 1 f fd ["number"] V9:=by
 refine F.ok B3 (fun vs H Q E h=>?_) (fun cdv A outer s H vs Q E hr h=>?_)
 ·obtain ⟨i,rfl,_⟩:=h;rfl
 obtain ⟨i,rfl,q⟩:=h;refine ⟨_,ZU (Zg (VQ PJ (Z4 LK rfl T.abs Kk (Zb (pv 0) ZF)) (Zw OI ZM ZM) (YK _))),?_⟩;refine ⟨_,rfl,_,rfl,_,_,rfl,rfl,⟨by decide,by decide,by decide⟩,_,_,rfl,rfl,?_⟩
 have e:=BI i;rw [<-e] at q;exact q
theorem Ew:ZC ["sign"] ["sign"] (Ze MO):=Zp
theorem EX(F:Zj K "is_sign" "is_sign" MO f fd):ZJ P w K mg base ZW 1 f fd ["sign"] VA:=by
 refine F.ok Ew (fun vs H Q E h=>?_) (fun cdv A outer s H vs Q E hr h=>?_)
 ·obtain ⟨c,rfl,_⟩:=h;rfl
 obtain ⟨c,rfl,q⟩:=h;refine ⟨_,ZU (Zg (Cp Ju Ju Xq (pv 0) Xq)),?_⟩;have e1:(yJ " ").cps.toList=[32]:=by decide +kernel
 have e2:(yJ "~").cps.toList=[126]:=by decide +kernel
 have e:=B1 c;refine ⟨_,rfl,_,_,rfl,rfl,_,rfl,?_⟩;refine We (fun h1=>?_) (fun h1=>?_)
 ·refine ⟨_,_,rfl,rfl,?_⟩;have h1':(!decide ([c]<[32]))=true:=by rw [<-e1];exact h1
  rw [h1',vM] at e;rw [<-e,<-e2] at q;exact q
 ·have h1':(!decide ([c]<[32]))=false:=by rw [<-e1];exact Bool.eq_false_iff.mpr h1
  rw [h1',wS] at e;rw [<-e] at q;exact q
structure ZZ(K:zZ)(mg:jc)(x:Str)(st:aE)(ps:List Str):Prop where
 ex:∃ f fd,Zj K x x st f fd/\Zt K fd ps []/\mg x=some (.ref f)
theorem ZZ.of{P:ao}{w:ay}{K:zZ}{mg:jc}{base:aF}{x:Str}{st:aE}{ps:List Str}{k:Nat}{sp:Sp}(L:ZZ K mg x st ps)(h:∀ f fd,Zj K x x st f fd->ZJ P w K mg base ZW k f fd ps sp):ZB P w K mg base k x ps sp:=by
 obtain ⟨f,fd,F,b,m⟩:=L.ex;exact ⟨f,fd,h f fd F,b,F.kp,m⟩
theorem NU{K:zZ}{h:aF}{mg:jc}{x:Str}{st:aE}{ps:List Str}{f:aj}{od an:Option aj}{sl:Array (jd)}{oc kV dc pm cd ct:ai}(X:K.In h)(G:h.Ns ar mg)(a:zM K ar x=some (some (.ref f)))(l:K.lookup f=some ⟨oc,od,.func (yH x x (Vs st) (Xv st) (Ze st) .none kV dc pm an cd ct),sl⟩)(c:xJ K cd x=true)(k:yQ K (.ref f)=true)(hb:∀ (kV doc pm:ai) (an:Option aj) (cdv ct:ai) (us:je),us.length=ps.length->bindArgs (yH x x (Vs st) (Xv st) (Ze st) .none kV doc pm an cdv ct) ⟨us,[]⟩=pure (ps.zip us):=by first | exact (fun _ _ _ _ _ _ us hl=>match us,hl with | [_],_=>rfl) | exact (fun _ _ _ _ _ _ us hl=>match us,hl with | [_,_],_=>rfl) | exact (fun _ _ _ _ _ _ us hl=>match us,hl with | [_,_,_],_=>rfl) | exact (fun _ _ _ _ _ _ us hl=>match us,hl with | [_,_,_,_],_=>rfl) | exact (fun _ _ _ _ _ _ us hl=>match us,hl with | [_,_,_,_,_],_=>rfl)):ZZ K mg x st ps:=
 ⟨f,_,UM (st:=st) l c k,(UM (st:=st) l c k).binds hb,yP X G a⟩
theorem Jn(T:YF mg)(L:ZZ K mg "_law_key" No ["_law_well_here","_law_room"])(DP:ZB P w K mg base 1 "_law_pull" ["_law_well_here","_law_many"] Zr)(DG:ZB P w K mg base 2 "_law_great" ["_law_well_here","_law_bound"] Zr)(DT:ZB P w K mg base 2 "_law_text" ["_law_well_here"] Xz):∀ n:Nat,ZB P w K mg base (n+2) "_law_key" ["_law_well_here","_law_room"] (XC n)
 | 0=>L.of fun _ _ _=>F5
 | n+1=>L.of fun _ _ F=>BH F T DP DG DT (Jn T L DP DG DT n)
inductive Xs(n:Nat)(vs:jf)(H:Hp)(Q:VK)(_:XK):Prop
 | mk (v:V) (t:TG) (N:aj->Prop) (r:Nat) (_:vs=[v,.int (r:Int)]) (_:Zl N H t v) (_:t.neat) (_:r<n) (_:∀ H',ZA H H'->Q (.bl (t.fits r)) H')
inductive XQ(vs:jf)(H:Hp)(Q:VK)(_:XK):Prop
 | mk (v:V) (t:TG) (N:aj->Prop) (_:vs=[v]) (_:Zl N H t v) (_:t.neat) (_:∀ H',ZA H H'->Q (.bl (t.fits 3)) H')
theorem Fo{sp:Sp}{k:Nat}{ps:List Str}(no:∀ vs H Q E,¬ sp vs H Q E):ZJ P w K mg base ZW k f fd ps sp:=
 ⟨fun vs H Q E h=>absurd h (no vs H Q E),fun A outer s H args us vs Q E _ _ _ _ h=>absurd h (no vs H Q E)⟩
theorem Dg:ZC ["thing","room"] ["thing","room"] (Ze Nt):=Zp
theorem Dv{n:Nat}(F:Zj K "fits" "fits" Nt f fd)(T:YF mg)(DW:ZB P w K mg base 1 "has_few_figures" ["number"] V9)(DS:ZB P w K mg base 1 "is_sign" ["sign"] VA)(DF:ZB P w K mg base (n+1) "fits" ["thing","room"] (Xs n)):ZJ P w K mg base ZW (n+2) f fd ["thing","room"] (Xs (n+1)):=by
 refine F.ok Dg (fun vs H Q E h=>?_) (fun cdv A outer s H vs Q E hr h=>?_)
 ·obtain ⟨v,t,N,r,rfl,_⟩:=h;rfl
 obtain ⟨v,t,N,r,rfl,hv,hq,hn,k⟩:=h;have hr1:=hr.mono (show 1<=n+1 by lia)
 obtain ⟨t1,m1⟩:=T.signs;obtain ⟨t2,m2⟩:=T.things;refine ⟨_,ZR (Z5 (Y9 (Z4 Vo rfl T.isi Wm (Zb (pv 0) (Zb (Vb (v:=.ty "bool") rfl T.bool GF rfl) ZF)))) (ZU (Zg XV)) Z7)
  (ZR (Z5 (Y9 (Z4 Vo rfl T.isi Wm (Zb (pv 0) (Zb (Vb (v:=.ty "int") rfl T.int QY rfl) ZF)))) (ZU (Zg (Zh DW hr1 (Zb (pv 0) ZF)))) Z7)
  (ZR (Z5 (Y9 (Z4 Vo rfl T.isi Wm (Zb (pv 0) (Zb (Vb (v:=.ty "str") rfl T.str OC rfl) ZF))))
   (ZU (Zg (QV (VQ Pg (Z4 Ca rfl T.len Xl (Zb (pv 0) ZF)) (WN (v:=.int 40) rfl m1 ⟨_,rfl⟩) (YK _))
    (Q4 (Z4 (O4 rfl) rfl T.all Nr (Zb (VZ [] [] rfl (ZOw (pv 0)) (fun _ _ _ _ _=>Vc) (fun _ _ _ _ _=>Zh DS hr1 (Zb (pv 0) ZF)) trivial) ZF)))))) Z7)
  (ZR (Z5 (Y9 (Z4 Vo rfl T.isi Wm (Zb (pv 0) (Zb (Vb (v:=.ty "tuple") rfl T.tuple QZ rfl) ZF))))
   (ZU (Zg (QV (VQ Q2 (pv 1) ZM (YK _)) (QV (VQ Pg (Z4 Xu rfl T.len Xl (Zb (pv 0) ZF)) (WN (v:=.int 4) rfl m2 ⟨_,rfl⟩) (YK _))
    (Q4 (Z4 (O4 rfl) rfl T.all Nr (Zb (VZ [1] ["room"] rfl (Mj (pv 0)) (fun _ _ _ _ _=>Vc) (fun _ _ _ _ _=>Zh DF hr (Zb (pv 0) (Zb (Zw Vp (pv 1) ZM) ZF))) ⟨rfl,.inl rfl,rfl,trivial⟩) ZF))))))) Z7)
  (ZU (Zg XV))))),?_⟩
 cases t with
 | int i=>
  have ev:v=.int i:=by rw [Zl] at hv;exact hv
  subst ev;refine ⟨_,rfl,_,_,_,_,rfl,.int i,JF,_,rfl,Zm ?_⟩;refine ⟨_,rfl,_,_,_,_,rfl,.int i,O2,_,rfl,Z2 ?_⟩;have kk:=k H (ZA.refl H);rw [TG.fits] at kk;exact ⟨_,rfl,i,rfl,kk⟩
 | str x=>
  have ev:v=.str x:=by rw [Zl] at hv;exact hv
  subst ev;have hlen:x.length<=1000:=by rw [TG.neat] at hq;exact hq
  refine ⟨_,rfl,_,_,_,_,rfl,.str x,ZOg,_,rfl,Zm ?_⟩;refine ⟨_,rfl,_,_,_,_,rfl,.str x,NJ,_,rfl,Zm ?_⟩;refine ⟨_,rfl,_,_,_,_,rfl,.str x,OE,_,rfl,Z2 ?_⟩;refine ⟨_,rfl,x,rfl,nn hlen,_,_,rfl,rfl,_,rfl,?_⟩;refine We (fun c=>?_) (fun c=>?_)
  ·have c40:x.length<=40:=by have:=of_decide_eq_true c;lia
   refine ⟨_,rfl,x,rfl,?_⟩;have hsz:x.cps.size<=40:=c40;refine VY (n:=x.cps.size) (fun i z=>∃ c,x.cps[i]? = some c/\z=.str ⟨#[c]⟩) (fun D i ys H3=>ZA H H3/\H D=none/\ys=((x.cps.toList.take i).map UT).map V.bl) (XM (by lia))
    (fun D i ys H3 hi _=>hi) (fun D i ys H3 z H4 hi _ hy=>hy) (fun D ys H3 _=>rfl) (fun D hD=>⟨ZY hD _,hD,rfl⟩) (fun D i ys H3 z eD hl hi hz hP R hR=>?_) (fun D ys H3 eD hP=>?_)
   ·obtain ⟨c,hc,rfl⟩:=hz;obtain ⟨s3,nD,rfl⟩:=hP;refine ⟨_,rfl,c,rfl,?_⟩;refine hR _ H3 eD ⟨fun b o e=>by rw [ZV (Za e nD)];exact s3 b o e,nD,?_⟩
    have hc':x.cps.toList[i]? = some c:=by simpa using hc
    rw [yL,hc'];simp
   ·obtain ⟨s3,nD,rfl⟩:=hP;refine ⟨D,_,rfl,ZL.of eD,?_⟩;have kk:=k H3 s3;have et:(x.cps.toList.take x.cps.size)=x.cps.toList:=yR (by simp)
    have ea:(x.cps.toList.map UT).all id=(TG.str x).fits r:=by
     rw [TG.fits,vO];unfold Us;rw [aM c40,vM];rfl
    rw [et,ea];exact kk
  ·have c40:¬ x.length<=40:=fun z=>c (aM (by lia))
   have kk:=k H (ZA.refl H);rw [TG.fits] at kk;unfold Us at kk;rw [aK c40,wS] at kk;exact kk
 | tup l=>
  rw [Zl] at hv;obtain ⟨a,vs,rfl,ea,hvs⟩:=hv;have hl:=hvs.length;rw [TG.neat] at hq;obtain ⟨hq1,hq2⟩:=hq;have ty:Y2 K H (.ref a) (.type "tuple"):=.tup ea;refine ⟨_,rfl,_,_,_,_,rfl,ty,ZOJ,_,rfl,Zm ?_⟩;refine ⟨_,rfl,_,_,_,_,rfl,ty,NI,_,rfl,Zm ?_⟩;refine ⟨_,rfl,_,_,_,_,rfl,ty,Nl,_,rfl,Zm ?_⟩;refine ⟨_,rfl,_,_,_,_,rfl,ty,Lf,_,rfl,Z2 ?_⟩;refine ⟨_,rfl,_,_,rfl,rfl,_,rfl,?_⟩;refine We (fun c1=>?_) (fun c1=>?_)
  ·have r0:0<r:=by
    have:=of_decide_eq_true c1
    lia
   refine ⟨_,rfl,a,vs,rfl,.inr (Zo.of ea),_,_,rfl,rfl,_,rfl,?_⟩;refine We (fun c2=>?_) (fun c2=>?_)
   ·have l4:l.length<=4:=by
     have:=of_decide_eq_true c2
     lia
    refine ⟨_,rfl,a,rfl,⟨vs,Zo.of ea⟩,?_⟩;refine VY (n:=vs.length) (fun i z=>vs[i]? = some z) (fun D i ys H3=>ZA H H3/\H D=none/\ys=((l.take i).map fun t=>t.fits (r - 1)).map V.bl) (XM (by lia))
     (fun D i ys H3 hi hP=>⟨vs,vs[i],Zo.of (hP.1 _ _ ea),by simp [hi]⟩) (fun D i ys H3 z H4 hi hP hy=>⟨hy.1,hy.2 vs (Zo.of (hP.1 _ _ ea))⟩) (fun D ys H3 hP=>⟨vs,Zo.of (hP.1 _ _ ea),zY _⟩)
     (fun D hD=>⟨ZY hD _,hD,rfl⟩) (fun D i ys H3 z eD hl' hi hz hP R hR=>?_) (fun D ys H3 eD hP=>?_)
    ·obtain ⟨s3,nD,rfl⟩:=hP;obtain ⟨t,et,kt⟩:=hvs.get hz;have er:(r:Int) - 1=((r - 1:Nat):Int):=by lia
     refine ⟨_,rfl,_,rfl,_,_,rfl,rfl,z,t,N,r - 1,congrArg (fun y=>[z,V.int y]) er,kt.mono (Yp.same s3) _ _,IM hq2 (zN et),by lia,fun H4 s4=>?_⟩
     refine hR _ H4 (s4 D _ eD) ⟨fun b o e=>by rw [ZV (Za e nD)];exact s4 b o (s3 b o e),nD,?_⟩
     rw [yL,et];simp
    ·obtain ⟨s3,nD,rfl⟩:=hP;refine ⟨D,_,rfl,ZL.of eD,?_⟩;have kk:=k H3 s3;rw [TG.fits,aM r0,vM,aM l4,vM,K9] at kk;have et:l.take vs.length=l:=yR (by lia)
     rw [et,vO];exact kk
   ·have l4:¬ l.length<=4:=fun z=>c2 (aM (by lia))
    have kk:=k H (ZA.refl H);rw [TG.fits,aK l4,wS,vL] at kk;exact kk
  ·have r0:¬ 0<r:=fun z=>c1 (aM (by lia))
   have kk:=k H (ZA.refl H);rw [TG.fits,aK r0,wS] at kk;exact kk
 | odd n'=>
  rw [Zl] at hv;have ty:Y2 K H v (.type n'):=hv.ty;obtain ⟨b,kb,kr⟩:=ZMx (K:=K) hv;have kk:=k H (ZA.refl H);rw [TG.fits] at kk
  cases b with
  | true=>exact ⟨_,rfl,_,_,_,_,rfl,ty,kb,_,rfl,Z2 kk⟩
  | false=>
   obtain ⟨k1,k2,k3⟩:=kr rfl;refine ⟨_,rfl,_,_,_,_,rfl,ty,kb,_,rfl,Zm ?_⟩;refine ⟨_,rfl,_,_,_,_,rfl,ty,k1,_,rfl,Zm ?_⟩;refine ⟨_,rfl,_,_,_,_,rfl,ty,k2,_,rfl,Zm ?_⟩;refine ⟨_,rfl,_,_,_,_,rfl,ty,k3,_,rfl,Zm ?_⟩;exact kk
theorem Hu(T:YF mg)(L:ZZ K mg "fits" Nt ["thing","room"])(DW:ZB P w K mg base 1 "has_few_figures" ["number"] V9)(DS:ZB P w K mg base 1 "is_sign" ["sign"] VA):∀ n:Nat,ZB P w K mg base (n+1) "fits" ["thing","room"] (Xs n)
 | 0=>L.of fun _ _ _=>Fo fun vs H Q E h=>by obtain ⟨v,t,N,r,_,_,_,h1,_⟩:=h;lia
 | n+1=>L.of fun _ _ F=>Dv F T DW DS (Hu T L DW DS n)
theorem ZNF:ZC ["thing"] ["thing"] (Ze Ln):=Zp
theorem ZKh(F:Zj K "is_key" "is_key" Ln f fd)(T:YF mg)(DF:ZB P w K mg base 5 "fits" ["thing","room"] (Xs 4)):ZJ P w K mg base ZW 6 f fd ["thing"] XQ:=by
 refine F.ok ZNF (fun vs H Q E h=>?_) (fun cdv A outer s H vs Q E hr h=>?_)
 ·obtain ⟨v,t,N,rfl,_⟩:=h;rfl
 obtain ⟨v,t,N,rfl,hv,hq,k⟩:=h;obtain ⟨t1,m1⟩:=T.deep;refine ⟨_,ZU (Zg (Zh DF hr (Zb (pv 0) (Zb (WN (v:=.int 3) rfl m1 ⟨_,rfl⟩) ZF)))),?_⟩;exact ⟨_,rfl,v,t,N,3,rfl,hv,hq,by decide,k⟩
inductive Vq(n:Nat)(vs:jf)(H:Hp)(Q:VK)(_:XK):Prop
 | mk (v:V) (t:KT) (q:Nat) (_:vs=[v]) (_:ZD H t v) (_:t.fits q=true) (_:t.depth<n) (_:∀(v':V)(H':Hp),ZD H' t.st v'->ZA H H'->Q v' H')
inductive Yo(vs:jf)(H:Hp)(Q:VK)(_:XK):Prop
 | mk (v u:V) (a b:KT) (_:vs=[v,u]) (_:ZD H a v) (_:ZD H b u) (_:a.fits 3=true) (_:b.fits 3=true) (_:∀ H',ZA H H'->Q (.bl (a.lt b)) H')
theorem BL:ZC ["key"] ["key"] (Ze Na):=Zp
theorem ZMt{k:Nat}:ZJ P w K mg base ZW k f fd ["key"] (Vq 0):=by
 have no:∀ vs H Q E,¬ Vq 0 vs H Q E:=fun vs H Q E h=>by
  obtain ⟨v,t,q,_,_,_,h1,_⟩:=h
  lia
 exact ⟨fun vs H Q E h=>absurd h (no vs H Q E),fun A outer s H args us vs Q E _ _ _ _ h=>absurd h (no vs H Q E)⟩
theorem ZF8{n:Nat}(F:Zj K "standing" "standing" Na f fd)(T:YF mg)(DS:ZB P w K mg base (n+1) "standing" ["key"] (Vq n)):ZJ P w K mg base ZW (n+2) f fd ["key"] (Vq (n+1)):=by
 refine F.ok BL (fun vs H Q E h=>?_) (fun cdv A outer s H vs Q E hr h=>?_)
 ·obtain ⟨v,t,q,rfl,_⟩:=h;rfl
 obtain ⟨v,t,q,rfl,hv,hq,hn,k⟩:=h;refine ⟨_,ZR (Z5 (Y9 (Z4 Vo rfl T.isi Wm (Zb (pv 0) (Zb (Vb (v:=.ty "int") rfl T.int QY rfl) ZF)))) (ZU (Zg (Yq (Zb ZM (Zb (pv 0) ZF))))) Z7)
  (ZR (Z5 (Y9 (Z4 Vo rfl T.isi Wm (Zb (pv 0) (Zb (Vb (v:=.ty "str") rfl T.str OC rfl) ZF)))) (ZU (Zg (Yq (Zb ZM (Zb (pv 0) ZF))))) Z7)
  (ZU (Zg (Yq (Zb ZM (Zb (Wy Po rfl T.tuple QZ (Zb (VZ [] [] rfl (Mj (pv 0)) (fun _ _ _ _ _=>Vc) (fun _ _ _ _ _=>Zh DS hr (Zb (pv 0) ZF)) trivial) ZF)) ZF)))))),?_⟩
 cases t with
 | int i=>
  have ev:v=.int i:=by rw [ZD] at hv;exact hv
  subst ev;refine ⟨_,rfl,_,_,_,_,rfl,hv.ty,O2,_,rfl,Z2 ?_⟩;refine ⟨_,rfl,(by show 2<=aw;decide),fun p hp=>?_⟩
  refine k _ _ ?_ (ZY hp _);rw [KT.st];exact .tup ZP (.cons (.int 0) (.cons (.int i) .nil))
 | str x=>
  have ev:v=.str x:=by rw [ZD] at hv;exact hv
  subst ev;refine ⟨_,rfl,_,_,_,_,rfl,hv.ty,NJ,_,rfl,Zm ?_⟩;refine ⟨_,rfl,_,_,_,_,rfl,hv.ty,OE,_,rfl,Z2 ?_⟩;refine ⟨_,rfl,(by show 2<=aw;decide),fun p hp=>?_⟩
  refine k _ _ ?_ (ZY hp _);rw [KT.st];exact .tup ZP (.cons (.int 1) (.cons (.str x) .nil))
 | tup l=>
  have hv':=hv;rw [ZD] at hv';obtain ⟨a,vs,rfl,ea,hvs⟩:=hv';have hl:=hvs.length;rw [KT.fits,zQ,zQ] at hq;obtain ⟨hq0,hq1,hq2⟩:=hq;have hl4:l.length<=4:=of_decide_eq_true hq1;rw [KT.depth] at hn;refine ⟨_,rfl,_,_,_,_,rfl,hv.ty,NI,_,rfl,Zm ?_⟩;refine ⟨_,rfl,_,_,_,_,rfl,hv.ty,Nl,_,rfl,Zm ?_⟩;refine ⟨_,rfl,a,rfl,⟨vs,Zo.of ea⟩,?_⟩;refine VY (n:=vs.length) (fun i z=>vs[i]? = some z) (fun D i ys H3=>ZA H H3/\H D=none/\KeysAt H3 ((l.take i).map KT.st) ys) (XM (by lia))
   (fun D i ys H3 hi hP=>⟨vs,vs[i],Zo.of (hP.1 _ _ ea),by simp [hi]⟩) (fun D i ys H3 z H4 hi hP hy=>⟨hy.1,hy.2 vs (Zo.of (hP.1 _ _ ea))⟩) (fun D ys H3 hP=>⟨vs,Zo.of (hP.1 _ _ ea),zY _⟩)
   (fun D hD=>⟨ZY hD _,hD,.nil⟩) (fun D i ys H3 z eD hl' hi hz hP R hR=>?_) (fun D ys H3 eD hP=>?_)
  ·obtain ⟨s3,nD,hys⟩:=hP;obtain ⟨t,et,kt⟩:=hvs.get hz;have mt:=zN et;have htq:t.fits (q - 1)=true:=by
    rw [NZ] at hq2;exact zP.mp hq2 t mt
   have hdt:=QR mt;refine ⟨_,rfl,z,t,q - 1,rfl,kt.mono (ZA.tups s3) _ _,htq,by lia,fun v' H4 k4 s4=>?_⟩
   have eD4:=s4 D _ eD;have tD:Z1 H4 (upd H4 D (.lst (ys++[v']))):=(ZE.refl D H4).upd.tups eD4;refine hR v' H4 eD4 ⟨fun b o e=>by rw [ZV (Za e nD)];exact s4 b o (s3 b o e),nD,?_⟩
   rw [yL,et,yZ];exact ((hys.mono (ZA.tups s4) _ _).append (.cons k4 .nil)).mono tD _ _
  ·obtain ⟨s3,nD,hys⟩:=hP;have et:l.take vs.length=l:=yR (by lia)
   rw [et] at hys;have hyl:=hys.length;rw [zX] at hyl;refine ⟨D,ys,rfl,.inl ⟨ZL.of eD,fun p1 hp1=>?_⟩⟩;have g1:=ZY hp1 (.tup ys);refine ⟨(by show 2<=aw;decide),fun p2 hp2=>?_⟩
   have g2:=ZY hp2 (.tup [.int 2,.ref p1]);refine k _ _ ?_ ((s3.trans g1).trans g2);rw [KT.st,Jm];exact .tup ZP (.cons (.int 2) (.cons (.tup (g2 _ _ ZP) (hys.mono (ZA.tups (g1.trans g2)) _ _)) .nil))
theorem Ih(T:YF mg)(L:ZZ K mg "standing" Na ["key"]):∀ n:Nat,ZB P w K mg base (n+1) "standing" ["key"] (Vq n)
 | 0=>L.of fun _ _ _=>ZMt
 | n+1=>L.of fun _ _ F=>ZF8 F T (Ih T L n)
theorem Az:ZC ["one","other"] ["one","other"] (Ze LT):=Zp
theorem Ab(F:Zj K "ahead" "ahead" LT f fd)(DS:ZB P w K mg base 6 "standing" ["key"] (Vq 5)):ZJ P w K mg base ZW 7 f fd ["one","other"] Yo:=by
 refine F.ok Az (fun vs H Q E h=>?_) (fun cdv A outer s H vs Q E hr h=>?_)
 ·obtain ⟨v,u,a,b,rfl,_⟩:=h;rfl
 obtain ⟨v,u,a,b,rfl,ha,hb,fa,fb,k⟩:=h;refine ⟨_,ZU (Zg (VQ (KM hr) (Zh DS hr (Zb (pv 0) ZF)) (Zh DS hr (Zb (pv 1) ZF)) (YK _))),?_⟩;have da:=Va a 3 fa;have db:=Va b 3 fb;have ds:=HH a;refine ⟨_,rfl,v,a,3,rfl,ha,fa,by lia,fun v1 H1 k1 s1=>?_⟩
 refine ⟨_,rfl,u,b,3,rfl,hb.mono (ZA.tups s1) _ _,fb,by lia,fun v2 H2 k2 s2=>?_⟩
 refine ⟨a.st,b.st,k1.mono (ZA.tups s2) _ _,k2,J7 a b,by lia,?_⟩
 rw [IR];exact k H2 (s1.trans s2)
mutual
def KT.wide:KT->Nat->Bool
 | .int _,_=>true
 | .str _,_=>true
 | .tup l,r=>decide (0<r)&&(decide (l.length<=100)&&wideL l (r - 1))
def wideL:List KT->Nat->Bool
 | [],_=>true
 | t :: l,r=>t.wide r&&wideL l r
end
theorem NG:∀(l:List KT)(r:Nat),wideL l r=l.all (·.wide r)
 | [],r=>by rw [wideL];rfl
 | t :: l,r=>by rw [wideL,NG l r];rfl
mutual
theorem MC:∀(t:KT)(r:Nat),t.fits r=true->t.wide r=true
 | .int _,_,_=>by rw [KT.wide]
 | .str _,_,_=>by rw [KT.wide]
 | .tup l,r,h=>by
  rw [KT.fits,zQ,zQ] at h;rw [KT.wide,zQ,zQ];have:=of_decide_eq_true h.2.1;exact ⟨h.1,aM (by lia),wideL_of l (r - 1) h.2.2⟩
theorem wideL_of:∀(l:List KT)(r:Nat),fitsL l r=true->wideL l r=true
 | [],_,_=>by rw [wideL]
 | t :: l,r,h=>by
  rw [fitsL,zQ] at h;rw [wideL,zQ];exact ⟨MC t r h.1,wideL_of l r h.2⟩
end
theorem GH{sp:Sp}{k:Nat}{ps:List Str}(no:∀ vs H Q E,¬ sp vs H Q E):ZJ P w K mg base ZW k f fd ps sp:=
 ⟨fun vs H Q E h=>absurd h (no vs H Q E),fun A outer s H args us vs Q E _ _ _ _ h=>absurd h (no vs H Q E)⟩
theorem BN:ZC ["_law_found","_law_due"] ["_law_found","_law_due"] (Ze NE):=Zp
mutual
def KT.rk:KT->KT
 | .int i=>.tup [.int 0,.int i,.str "",.tup []]
 | .str x=>.tup [.int 1,.int 0,.str x,.tup []]
 | .tup l=>.tup [.int 2,.int 0,.str "",.tup (rkL l)]
def rkL:List KT->List KT
 | []=>[]
 | t :: l=>t.rk :: rkL l
end
theorem II:∀ l:List KT,rkL l=l.map KT.rk
 | []=>by rw [rkL];rfl
 | t :: l=>by rw [rkL,II l];rfl
mutual
theorem Jf:∀ a b:KT,a.rk.eqb b.rk=a.eqb b
 | .int i,.int j=>by simp [KT.rk,KT.eqb,eqbL]
 | .str x,.str y=>by simp [KT.rk,KT.eqb,eqbL]
 | .tup l,.tup m=>by simp [KT.rk,KT.eqb,eqbL,eqbL_rk l m]
 | .int _,.str _=>by simp [KT.rk,KT.eqb,eqbL]
 | .int _,.tup _=>by simp [KT.rk,KT.eqb,eqbL]
 | .str _,.int _=>by simp [KT.rk,KT.eqb,eqbL]
 | .str _,.tup _=>by simp [KT.rk,KT.eqb,eqbL]
 | .tup _,.int _=>by simp [KT.rk,KT.eqb,eqbL]
 | .tup _,.str _=>by simp [KT.rk,KT.eqb,eqbL]
theorem eqbL_rk:∀ l m:List KT,eqbL (rkL l) (rkL m)=eqbL l m
 | [],[]=>by simp [rkL,eqbL]
 | a :: l,b :: m=>by simp [rkL,eqbL,Jf a b,eqbL_rk l m]
 | [],_ :: _=>by simp [rkL,eqbL]
 | _ :: _,[]=>by simp [rkL,eqbL]
end
mutual
theorem OJ:∀ a b:KT,a.rk.cmp b.rk=true
 | .int i,.int j=>by simp [KT.rk,KT.eqb,KT.cmp,cmpL,eqbL]
 | .str x,.str y=>by simp [KT.rk,KT.eqb,KT.cmp,cmpL,eqbL]
 | .tup l,.tup m=>by simp [KT.rk,KT.eqb,KT.cmp,cmpL,cmpL_rk l m]
 | .int _,.str _=>by simp [KT.rk,KT.eqb,KT.cmp,cmpL]
 | .int _,.tup _=>by simp [KT.rk,KT.eqb,KT.cmp,cmpL]
 | .str _,.int _=>by simp [KT.rk,KT.eqb,KT.cmp,cmpL]
 | .str _,.tup _=>by simp [KT.rk,KT.eqb,KT.cmp,cmpL]
 | .tup _,.int _=>by simp [KT.rk,KT.eqb,KT.cmp,cmpL]
 | .tup _,.str _=>by simp [KT.rk,KT.eqb,KT.cmp,cmpL]
theorem cmpL_rk:∀ l m:List KT,cmpL (rkL l) (rkL m)=true
 | [],_=>by simp [rkL,cmpL]
 | _ :: _,[]=>by simp [rkL,cmpL]
 | a :: l,b :: m=>by
  rw [rkL,rkL,cmpL,cmpL_rk l m,OJ a b];split <;> rfl
end
mutual
theorem OT:∀ a b:KT,a.rk.plt b.rk=a.lt b
 | .int i,.int j=>by
  simp only [KT.rk,KT.eqb,KT.plt,pltL,eqbL,KT.lt,beq_self_eq_true,if_true];by_cases h:i=j
  ·subst h;simp
  ·simp [h]
 | .str x,.str y=>by
  simp only [KT.rk,KT.eqb,KT.plt,pltL,eqbL,KT.lt,beq_self_eq_true,if_true];by_cases h:x=y
  ·subst h;simp
  ·simp [h]
 | .tup l,.tup m=>by
  simp only [KT.rk,KT.eqb,KT.plt,pltL,KT.lt,beq_self_eq_true,if_true,eqbL_rk,pltL_rk l m]
  cases h:eqbL l m with
  | true=>rw [aP rfl,HC h]
  | false=>rw [aO zW]
 | .int _,.str _=>by simp [KT.rk,KT.eqb,KT.plt,pltL,KT.lt]
 | .int _,.tup _=>by simp [KT.rk,KT.eqb,KT.plt,pltL,KT.lt]
 | .str _,.int _=>by simp [KT.rk,KT.eqb,KT.plt,pltL,KT.lt]
 | .str _,.tup _=>by simp [KT.rk,KT.eqb,KT.plt,pltL,KT.lt]
 | .tup _,.int _=>by simp [KT.rk,KT.eqb,KT.plt,pltL,KT.lt]
 | .tup _,.str _=>by simp [KT.rk,KT.eqb,KT.plt,pltL,KT.lt]
theorem pltL_rk:∀ l m:List KT,pltL (rkL l) (rkL m)=ltL l m
 | [],[]=>by simp [rkL,pltL,ltL]
 | [],_ :: _=>by simp [rkL,pltL,ltL]
 | _ :: _,[]=>by simp [rkL,pltL,ltL]
 | a :: l,b :: m=>by rw [rkL,rkL,pltL,ltL,Jf a b,pltL_rk l m,OT a b]
end
mutual
theorem Qi:∀ t:KT,t.rk.depth<=2 * t.depth+2
 | .int i=>by simp [KT.rk,KT.depth,depthL]
 | .str x=>by simp [KT.rk,KT.depth,depthL]
 | .tup l=>by
  have:=depthL_rk l;simp only [KT.rk,KT.depth,depthL]
  lia
theorem depthL_rk:∀ l:List KT,depthL (rkL l)<=2 * depthL l+2
 | []=>by simp [rkL,depthL]
 | t :: l=>by
  have a:=Qi t;have b:=depthL_rk l;rw [rkL,depthL,depthL]
  lia
end
inductive Yh(n:Nat)(vs:jf)(H:Hp)(Q:VK)(_:XK):Prop
 | mk (v:V) (t:KT) (q:Nat) (_:vs=[v]) (_:ZD H t v) (_:t.fits q=true) (_:t.depth<n) (_:∀(v':V)(H':Hp),ZD H' t.rk v'->ZA H H'->Q v' H')
theorem ZOL:ZC ["_law_spot"] ["_law_spot"] (Ze Nn):=Zp
theorem ZNm{n:Nat}(F:Zj K "_law_rank" "_law_rank" Nn f fd)(T:YF mg)(DS:ZB P w K mg base (n+1) "_law_rank" ["_law_spot"] (Yh n)):ZJ P w K mg base ZW (n+2) f fd ["_law_spot"] (Yh (n+1)):=by
 refine F.ko ZOL fun cdv A outer s H vs Q E hr h=>?_;obtain ⟨v,t,q,rfl,hv,hq,hn,k⟩:=h;refine ⟨_,ZR (Z5 (Y9 (Z4 Vo rfl T.isi Wm (ZG (pv 0) (ZG (Vb (v:=.ty "int") rfl T.int QY rfl) ZF)))) (ZU (Zg (Yq (Vd ZM (pv 0) Xq (Yq ZF))))) Z7)
  (ZR (Z5 (Y9 (Z4 Vo rfl T.isi Wm (ZG (pv 0) (ZG (Vb (v:=.ty "str") rfl T.str OC rfl) ZF)))) (ZU (Zg (Yq (Vd ZM ZM (pv 0) (Yq ZF))))) Z7)
  (ZU (Zg (Yq (Vd ZM ZM Xq (Wy Po rfl T.tuple QZ (ZG (VZ [] [] rfl (Mj (pv 0)) (fun _ _ _ _ _=>Vc) (fun _ _ _ _ _=>Zh DS hr (ZG (pv 0) ZF)) trivial) ZF))))))),?_⟩
 cases t with
 | int i=>
  have ev:v=.int i:=by rw [ZD] at hv;exact hv
  subst ev;refine ⟨_,rfl,_,_,_,_,rfl,hv.ty,O2,_,rfl,Z2 ?_⟩;refine ⟨_,rfl,(by show 0<=aw;decide),fun p0 h0=>⟨(by show 4<=aw;decide),fun p hp=>?_⟩⟩
  have g0:=ZY h0 (.tup []);have g1:=ZY hp (.tup [.int 0,.int i,.str "",.ref p0]);refine k _ _ ?_ (g0.trans g1);rw [KT.rk];exact .tup ZP (.cons (.int 0) (.cons (.int i) (.cons (.str _) (.cons (.tup (g1 _ _ ZP) .nil) .nil))))
 | str x=>
  have ev:v=.str x:=by rw [ZD] at hv;exact hv
  subst ev;refine ⟨_,rfl,_,_,_,_,rfl,hv.ty,NJ,_,rfl,Zm ?_⟩;refine ⟨_,rfl,_,_,_,_,rfl,hv.ty,OE,_,rfl,Z2 ?_⟩;refine ⟨_,rfl,(by show 0<=aw;decide),fun p0 h0=>⟨(by show 4<=aw;decide),fun p hp=>?_⟩⟩
  have g0:=ZY h0 (.tup []);have g1:=ZY hp (.tup [.int 1,.int 0,.str x,.ref p0]);refine k _ _ ?_ (g0.trans g1);rw [KT.rk];exact .tup ZP (.cons (.int 1) (.cons (.int 0) (.cons (.str x) (.cons (.tup (g1 _ _ ZP) .nil) .nil))))
 | tup l=>
  have hv':=hv;rw [ZD] at hv';obtain ⟨a,vs,rfl,ea,hvs⟩:=hv';have hl:=hvs.length;rw [KT.fits,zQ,zQ] at hq;obtain ⟨hq0,hq1,hq2⟩:=hq;have hl4:l.length<=4:=of_decide_eq_true hq1;rw [KT.depth] at hn;refine ⟨_,rfl,_,_,_,_,rfl,hv.ty,NI,_,rfl,Zm ?_⟩;refine ⟨_,rfl,_,_,_,_,rfl,hv.ty,Nl,_,rfl,Zm ?_⟩;refine ⟨_,rfl,a,rfl,⟨vs,Zo.of ea⟩,?_⟩;refine VY (n:=vs.length) (fun i z=>vs[i]? = some z) (fun D i ys H3=>ZA H H3/\H D=none/\KeysAt H3 ((l.take i).map KT.rk) ys) (XM (by lia))
   (fun D i ys H3 hi hP=>⟨vs,vs[i],Zo.of (hP.1 _ _ ea),by simp [hi]⟩) (fun D i ys H3 z H4 hi hP hy=>⟨hy.1,hy.2 vs (Zo.of (hP.1 _ _ ea))⟩) (fun D ys H3 hP=>⟨vs,Zo.of (hP.1 _ _ ea),zY _⟩)
   (fun D hD=>⟨ZY hD _,hD,.nil⟩) (fun D i ys H3 z eD hl' hi hz hP R hR=>?_) (fun D ys H3 eD hP=>?_)
  ·obtain ⟨s3,nD,hys⟩:=hP;obtain ⟨t,et,kt⟩:=hvs.get hz;have mt:=zN et;have htq:t.fits (q - 1)=true:=by
    rw [NZ] at hq2;exact zP.mp hq2 t mt
   have hdt:=QR mt;refine ⟨_,rfl,z,t,q - 1,rfl,kt.mono (ZA.tups s3) _ _,htq,by lia,fun v' H4 k4 s4=>?_⟩
   have eD4:=s4 D _ eD;have tD:Z1 H4 (upd H4 D (.lst (ys++[v']))):=(ZE.refl D H4).upd.tups eD4;refine hR v' H4 eD4 ⟨fun b o e=>by rw [ZV (Za e nD)];exact s4 b o (s3 b o e),nD,?_⟩
   rw [yL,et,yZ];exact ((hys.mono (ZA.tups s4) _ _).append (.cons k4 .nil)).mono tD _ _
  ·obtain ⟨s3,nD,hys⟩:=hP;have et:l.take vs.length=l:=yR (by lia)
   rw [et] at hys;have hyl:=hys.length;rw [zX] at hyl;refine ⟨D,ys,rfl,.inl ⟨ZL.of eD,fun p1 hp1=>?_⟩⟩;have g1:=ZY hp1 (.tup ys);refine ⟨(by show 4<=aw;decide),fun p2 hp2=>?_⟩
   have g2:=ZY hp2 (.tup [.int 2,.int 0,.str "",.ref p1]);refine k _ _ ?_ ((s3.trans g1).trans g2);rw [KT.rk,II];exact .tup ZP (.cons (.int 2) (.cons (.int 0) (.cons (.str _) (.cons (.tup (g2 _ _ ZP) (hys.mono (ZA.tups (g1.trans g2)) _ _)) .nil))))
theorem Jw(T:YF mg)(L:ZZ K mg "_law_rank" Nn ["_law_spot"]):∀ n:Nat,ZB P w K mg base (n+1) "_law_rank" ["_law_spot"] (Yh n)
 | 0=>L.of fun _ _ _=>GH fun vs H Q E h=>by obtain ⟨v,t,q,_,_,_,h1,_⟩:=h;lia
 | n+1=>L.of fun _ _ F=>ZNm F T (Jw T L n)
end Tw
namespace Tw
open PySem PySem.Spec L2 PyProof.Rows
variable{P:ao}{w:ay}{K:zZ}{mg:jc}{base:aF}{f:aj}{fd:aq}{jh ji CS CT CH CK CP CB:aj}
theorem Mo:Kg KT.rk:=⟨OT,OJ,3,fun t=>by cases t <;> (rw [KT.rk];exact ⟨_,_,rfl,rfl⟩)⟩
def Ym(ts:List KT):Prop:=ts.Pairwise fun a b=>a.lt b=true
theorem IE{rs:List KT}(nd:rs.Nodup)(h:rs.Pairwise fun a b=>b.lt a=false):Ym rs:=by
 induction rs with
 | nil=>exact .nil
 | cons a rs ih=>
  rw [wP] at nd;rw [xL] at h;refine xL.mpr ⟨fun b hb=>?_,ih nd.2 h.2⟩
  cases q:a.lt b with
  | true=>rfl
  | false=>
   have e:=Oo a b q (h.1 b hb);exact absurd (e ▸ hb) nd.1
theorem LM{k:Nat}{A:az}(r:ZX k A):A.units+4<cLine:=by have:=r.un;lia
theorem O6{p D:aj}{H H':Hp}(s:ZE p H H')(w:ZI H' p)(n:H' D=none):H D=none:=by
 cases e:H D with
 | none=>rfl
 | some o=>
  by_cases h:D=p
  ·subst h;obtain ⟨xs,e'⟩:=w.some;rw [n] at e';cases e'
  ·rw [s D o e h] at n;cases n
inductive Ve(vs:jf)(H:Hp)(Q:VK)(_:XK):Prop
 | mk (p:aj) (n:Nat) (_:vs=[.ref p,.int (n:Int)]) (_:ZI H p) (_:n<64) (_:∀(D:aj)(ws:jf)(ts:List KT)(H':Hp),H D=none->H' D=some (.lst ws)->KeysAt H' ts ws->(∀ t∈ts,t.fits 3=true)->Ym ts->ts.length<=n->ZI H' p->ZE p H H'->Q (.ref D) H')
theorem Ui:ZC ["_law_well_here","_law_many","_law_found","_law_j"] ["_law_well_here","_law_many"] (Ze LU):=Zp
theorem Bf(F:Zj K "_law_keys" "_law_keys" LU f fd)(T:YF mg)(DK:ZB P w K mg base 6 "_law_key" ["_law_well_here","_law_room"] (XC 4))(DR:ZB P w K mg base 6 "_law_rank" ["_law_spot"] (Yh 5)):
  ZJ P w K mg base ZW 9 f fd ["_law_well_here","_law_many"] Ve:=by
 refine F.ko Ui fun cdv A outer s H vs Q E hr h=>?_;obtain ⟨p,n,rfl,hw,hn,k⟩:=h;have nd:=Ui.nd;have hr6:=hr.mono (show 6<=8 by lia)
 have DS:ZB P w K mg base 6 "_law_rank" ["_law_spot"] (UQ KT.rk):=by
  obtain ⟨g,gd,FG,b,kp,m⟩:=DR.ex;exact ⟨g,gd,FG.imp fun vs H Q E h=>by
   obtain ⟨v,t,e,a,c,d⟩:=h;have:=Va t 3 c;exact ⟨v,t,3,e,a,c,by lia,d⟩,b,kp,m⟩
 refine ⟨_,ZR (Zk 2 nd HV)
  (ZR (Vf PassesOwn.never rfl (Qw rfl T.range (ZG (pv 1) ZF)) (Xo 3 nd)
   (ZU (Ky (LM hr) (pv 2) (Zh DK hr6 (ZG (pv 0) (ZG ZM ZF))) XV rfl)))
  (ZU (Zg (JT Mo Qi DS hr rfl T.sorted rfl (ZG (pv 2) ZF))))),?_⟩
 intro fa H1 nfa _ s1 dk1;obtain ⟨xsw,hxw⟩:=hw.some;have hpf:p≠fa:=Za hxw nfa;refine ⟨_,rfl,(n:Int),rfl,by lia,by lia,Qu (n:=(n:Int).toNat) (fun i σ H'=>∃(xs:List (KT×V×V))(o:jg),σ=[some (.ref p),some (.int (n:Int)),some (.ref fa),o]/\YM w H' fa xs/\xs.length<=i/\(∀ x∈xs,x.1.fits 3=true)/\ZI H' p/\ZE p H H')
  ⟨[],none,rfl,dk1,zY _,fun x hx=>by simp at hx,hw.same s1,ZE.of s1⟩ (fun i σ H' hi hP=>?_) (fun σ H' hP=>?_)⟩
 ·obtain ⟨xs,o,rfl,dk,lx,fx,hw',sx⟩:=hP;refine ⟨_,rfl,_,rfl,p,3,rfl,hw',by lia,fun v t H3 kv ft hw3 sx3=>?_⟩
  have tu:=sx3.tupsW hw';refine ⟨fa,xs,t,rfl,dk.but sx3 tu (Ne.symm hpf),by lia,kv,Va t 3 ft,fun H4 sx4 dk4=>⟨_,_,rfl,dk4,by have:=ZLJ xs t v (.bl true);lia,fun x hx=>?_,hw3.stay sx4 hpf,fun b ob e nb=>?_⟩⟩
  ·have:x.1∈(UZ xs t v (.bl true)).map (·.1):=List.mem_map_of_mem hx;rw [KS] at this;split at this
   ·obtain ⟨z,hz,e⟩:=zJ.mp this;rw [<-e];exact fx z hz
   ·rcases yT.mp this with q | q
    ·obtain ⟨z,hz,e⟩:=zJ.mp q;rw [<-e];exact fx z hz
    ·rw [zA.mp q];exact ft
  ·exact sx4 b ob (sx3 b ob (sx b ob e nb) nb) (Za e nfa)
 ·obtain ⟨xs,o,rfl,dk,lx,fx,hw',sx⟩:=hP;refine ⟨_,rfl,fa,xs,rfl,dk,fx,by lia,fun D ws rs H5 s5 nD hD ka pm pw=>?_⟩
  have lr:=pm.length_eq;rw [zX] at lr;refine k D ws rs H5 (O6 sx hw' nD) hD ka (fun t ht=>?_) (IE (pm.nodup_iff.mpr dk.nd) pw) (by lia) (hw'.same s5) (sx.trans (ZE.of s5))
  obtain ⟨z,hz,e⟩:=zJ.mp (pm.mem_iff.mp ht);rw [<-e];exact fx z hz
inductive Yc(n:Nat)(vs:jf)(H:Hp)(Q:VK)(_:XK):Prop
 | mk (v u:V) (t m:KT) (r:Nat) (_:vs=[v,u]) (_:ZD H t v) (_:ZD H m u) (_:m.wide r=true) (_:r<n) (_:∀ H',ZA H H'->Q (.bl (t.eqb m)) H')
theorem ZNl{l m:List KT}(h:l.length≠m.length):eqbL l m=false:=by
 rw [<-Ox,show (l.length==m.length)=false by simp [h],vL]
theorem BZ{l m:List KT}(h:l.length=m.length):((yU m.length).map fun j=>(l.getD j (.int 0)).eqb (m.getD j (.int 0))).all id=eqbL l m:=by
 rw [<-Ox,h,Nat.min_self,vO];simp
theorem Bs{n:Nat}(F:Zj K "_law_alike" "_law_alike" NE f fd)(T:YF mg)(DA:ZB P w K mg base (n+1) "_law_alike" ["_law_found","_law_due"] (Yc n)):
  ZJ P w K mg base ZW (n+2) f fd ["_law_found","_law_due"] (Yc (n+1)):=by
 refine F.ok BN (fun vs H Q E h=>?_) (fun cdv A outer s H vs Q E hr h=>?_)
 ·obtain ⟨v,u,t,m,r,rfl,_⟩:=h;rfl
 obtain ⟨v,u,t,m,r,rfl,hv,hu,hf,hn,k⟩:=h;refine ⟨_,ZR (Z5 (Y9 (Z4 Vo rfl T.isi Wm (Zb (pv 1) (Zb (Vb (v:=.ty "tuple") rfl T.tuple QZ rfl) ZF))))
   (ZR (Z5 (PW.pt (PY (VG (Y9 (Z4 Vo rfl T.isi Wm (Zb (pv 0) (Zb (Vb (v:=.ty "tuple") rfl T.tuple QZ rfl) ZF)))))
    (Pf (Y8 EF (Z4 Xu rfl T.len Xl (Zb (pv 0) ZF)) (Z4 Xu rfl T.len Xl (Zb (pv 1) ZF)) (YK _))))) (ZU (Zg XV)) Z7)
   (ZU (Zg (Z4 (O4 rfl) rfl T.all Nr (Zb (VZ [0,1] ["_law_found","_law_due"] rfl (Qw rfl T.range (Zb (Z4 Xu rfl T.len Xl (Zb (pv 1) ZF)) ZF)) (fun _ _ _ _ _=>Vc)
    (fun _ _ _ _ _=>Zh DA hr (Zb (Zn (r:=YI K) YO (pv 1) (pv 0) (fun _ _=>rfl)) (Zb (Zn (r:=YI K) YO (pv 2) (pv 0) (fun _ _=>rfl)) ZF))) ⟨rfl,.inl rfl,rfl,rfl,.inl rfl,rfl,trivial⟩) ZF))))) Z7)
  (ZR (Z5 (Y9 (Z4 Vo rfl T.isi Wm (Zb (pv 1) (Zb (Vb (v:=.ty "str") rfl T.str OC rfl) ZF))))
   (ZU (Zg (QV (Z4 Vo rfl T.isi Wm (Zb (pv 0) (Zb (Vb (v:=.ty "str") rfl T.str OC rfl) ZF))) (Q4 (VQ VM (pv 0) (pv 1) (YK _)))))) Z7)
  (ZU (Zg (QV (Z4 Vo rfl T.isi Wm (Zb (pv 0) (Zb (Vb (v:=.ty "int") rfl T.int QY rfl) ZF)))
   (QV (IC (Z4 Vo rfl T.isi Wm (Zb (pv 0) (Zb (Vb (v:=.ty "bool") rfl T.bool GF rfl) ZF)))) (Q4 (VQ VM (pv 0) (pv 1) (YK _)))))))),?_⟩
 have kk:=k H (ZA.refl H)
 cases m with
 | int j=>
  have eu:u=.int j:=by rw [ZD] at hu;exact hu
  subst eu;refine ⟨_,rfl,_,_,_,_,rfl,.int j,Go,_,rfl,Zm ?_⟩;refine ⟨_,rfl,_,_,_,_,rfl,.int j,kit_is',_,rfl,Zm ?_⟩
  cases t with
  | int i=>
   have ev:v=.int i:=by rw [ZD] at hv;exact hv
   subst ev;refine ⟨_,rfl,_,_,_,_,rfl,.int i,O2,_,rfl,Z2 ?_⟩;refine ⟨_,rfl,_,_,_,_,rfl,.int i,JF,_,rfl,_,rfl,Z2 ?_⟩;refine ⟨_,rfl,_,rfl,rfl,?_⟩;rw [KT.eqb] at kk;have e:decide (V.int i=V.int j)=(i==j):=by
    by_cases z:i=j
    ·subst z;simp
    ·simp [z]
   rw [e];exact kk
  | str x=>
   rw [show (KT.str x).eqb (.int j)=false by simp [KT.eqb]] at kk
   exact ⟨_,rfl,_,_,_,_,rfl,hv.ty,NJ,_,rfl,Zm kk⟩
  | tup l=>
   rw [show (KT.tup l).eqb (.int j)=false by simp [KT.eqb]] at kk
   exact ⟨_,rfl,_,_,_,_,rfl,hv.ty,NI,_,rfl,Zm kk⟩
 | str y=>
  have eu:u=.str y:=by rw [ZD] at hu;exact hu
  subst eu;refine ⟨_,rfl,_,_,_,_,rfl,.str y,Kz,_,rfl,Zm ?_⟩;refine ⟨_,rfl,_,_,_,_,rfl,.str y,OE,_,rfl,Z2 ?_⟩
  cases t with
  | int i=>
   rw [show (KT.int i).eqb (.str y)=false by simp [KT.eqb]] at kk
   exact ⟨_,rfl,_,_,_,_,rfl,hv.ty,kit_is',_,rfl,Zm kk⟩
  | str x=>
   have ev:v=.str x:=by rw [ZD] at hv;exact hv
   subst ev;refine ⟨_,rfl,_,_,_,_,rfl,.str x,OE,_,rfl,Z2 ?_⟩;refine ⟨_,rfl,_,rfl,rfl,?_⟩;rw [KT.eqb] at kk;have e:decide (V.str x=V.str y)=(x==y):=by
    by_cases z:x=y
    ·subst z;simp
    ·simp [z]
   rw [e];exact kk
  | tup l=>
   rw [show (KT.tup l).eqb (.str y)=false by simp [KT.eqb]] at kk
   exact ⟨_,rfl,_,_,_,_,rfl,hv.ty,Nl,_,rfl,Zm kk⟩
 | tup m=>
  have tu:=hu.ty (K:=K);rw [ZD] at hu;obtain ⟨b,us,rfl,eb,hus⟩:=hu;have hl2:=hus.length;rw [KT.wide,zQ,zQ] at hf;obtain ⟨f0,f1,f2⟩:=hf;have r0:=of_decide_eq_true f0;have l4:=of_decide_eq_true f1;refine ⟨_,rfl,_,_,_,_,rfl,tu,Lf,_,rfl,Z2 ?_⟩
  cases t with
  | int i=>
   rw [show (KT.int i).eqb (.tup m)=false by simp [KT.eqb]] at kk
   exact ⟨_,rfl,_,_,_,_,rfl,hv.ty,Go,_,rfl,Z2 (Z2 kk)⟩
  | str x=>
   rw [show (KT.str x).eqb (.tup m)=false by simp [KT.eqb]] at kk
   exact ⟨_,rfl,_,_,_,_,rfl,hv.ty,Kz,_,rfl,Z2 (Z2 kk)⟩
  | tup l=>
  have tv:=hv.ty (K:=K);rw [ZD] at hv;obtain ⟨a,vs,rfl,ea,hvs⟩:=hv;have hl:=hvs.length;rw [KT.eqb] at k kk;refine ⟨_,rfl,_,_,_,_,rfl,tv,Lf,_,rfl,Zm ?_⟩;refine ⟨_,rfl,a,vs,rfl,.inr (Zo.of ea),_,rfl,b,us,rfl,.inr (Zo.of eb),rfl,_,rfl,?_⟩;by_cases luv:vs.length=us.length
  ·refine Fq (by rw [luv]) ?_
   refine ⟨_,rfl,b,us,rfl,.inr (Zo.of eb),_,rfl,by lia,by lia,?_⟩
   rw [vW];refine VY (n:=us.length) (fun i x=>x=.int (0+(i:Int))) (fun D i ys H3=>ZA H H3/\H D=none/\ys=((yU i).map fun j=>(l.getD j (.int 0)).eqb (m.getD j (.int 0))).map V.bl) (XM (by lia))
    (fun D i ys H3 hi _=>hi) (fun D i ys H3 x H4 hi _ hy=>hy) (fun D ys H3 _=>zY _) (fun D hD=>⟨ZY hD _,hD,rfl⟩) (fun D i ys H3 x eD hl' hi hx hP R hR=>?_) (fun D ys H3 eD hP=>?_)
   ·subst hx;obtain ⟨s3,nD,rfl⟩:=hP;have hi':i<vs.length:=by lia
    have hiv:vs[i]? = some vs[i]:=by simp [hi']
    have hiu:us[i]? = some us[i]:=by simp [hi]
    obtain ⟨t,et,kt⟩:=hvs.get hiv;obtain ⟨t',et',kt'⟩:=hus.get hiu;have ft:t'.wide (r - 1)=true:=by rw [NG] at f2;exact zP.mp f2 t' (zN et')
    have av:WM vs (0+(i:Int))=some vs[i]:=by rw [Int.zero_add];exact Xb hiv
    have au:WM us (0+(i:Int))=some us[i]:=by rw [Int.zero_add];exact Xb hiu
    refine ⟨_,rfl,_,rfl,.inr (.inl ⟨a,vs,_,_,rfl,rfl,Zo.of (s3 _ _ ea),av,_,rfl,_,rfl,.inr (.inl ⟨b,us,_,_,rfl,rfl,Zo.of (s3 _ _ eb),au,vs[i],us[i],t,t',r - 1,rfl,kt.mono (ZA.tups s3) _ _,kt'.mono (ZA.tups s3) _ _,ft,by lia,fun H4 s4=>?_⟩)⟩)⟩
    refine hR _ H4 (s4 D _ eD) ⟨fun b o e=>by rw [ZV (Za e nD)];exact s4 b o (s3 b o e),nD,?_⟩
    rw [List.range_succ,yZ,yZ]
    congr 1
    show [V.bl (t.eqb t')]=[V.bl ((l.getD i (.int 0)).eqb (m.getD i (.int 0)))];rw [zV,zV,et,et'];rfl
   ·obtain ⟨s3,nD,rfl⟩:=hP;refine ⟨D,_,rfl,ZL.of eD,?_⟩;rw [<-hl2,BZ (by lia)]
    exact k H3 s3
  ·rw [ZNl (by lia)] at kk
   rw [aK (fun z=>luv (by have:=Og z;lia))]
   exact Z2 kk
theorem K4(T:YF mg)(L:ZZ K mg "_law_alike" NE ["_law_found","_law_due"]):∀ n:Nat,ZB P w K mg base (n+1) "_law_alike" ["_law_found","_law_due"] (Yc n)
 | 0=>L.of fun _ _ _=>GH fun vs H Q E h=>by obtain ⟨v,u,t,m,r,_,_,_,_,h1,_⟩:=h;lia
 | n+1=>L.of fun _ _ F=>Bs F T (K4 T L n)
inductive WI(vs:jf)(H:Hp)(Q:VK)(_:XK):Prop
 | mk (a b:aj) (xs ys:jf) (ts us:List KT) (_:vs=[.ref a,.ref b]) (_:H a=some (.lst xs)) (_:H b=some (.lst ys)) (_:KeysAt H ts xs) (_:KeysAt H us ys) (_:∀ t∈us,t.wide 4=true) (_:us.length<=100) (_:∀ H',ZA H H'->Q (.bl (eqbL ts us)) H')
theorem Fn:ZC ["_law_found","_law_due"] ["_law_found","_law_due"] (Ze Mh):=Zp
theorem ZId(F:Zj K "_law_rows_alike" "_law_rows_alike" Mh f fd)(T:YF mg)(DA:ZB P w K mg base 7 "_law_alike" ["_law_found","_law_due"] (Yc 6)):ZJ P w K mg base ZW 8 f fd ["_law_found","_law_due"] WI:=by
 refine F.ko Fn fun cdv A outer s H vs Q E hr h=>?_;obtain ⟨a,b,xs,ys,ts,us,rfl,ha,hb,kx,ky,hf,h100,k⟩:=h;refine ⟨_,ZU (Zg (QV (Z4 Vo rfl T.isi Wm (ZG (pv 0) (ZG (Vb (v:=.ty "list") rfl T.list Qf rfl) ZF)))
  (Q4 (Zh DA hr (ZG (Wy Po rfl T.tuple QZ (ZG (pv 0) ZF)) (ZG (Wy Po rfl T.tuple QZ (ZG (pv 1) ZF)) ZF)))))),?_⟩
 refine ⟨_,rfl,_,_,_,_,rfl,.lst ha,(by kernel_rfl),_,rfl,Z2 ?_⟩
 refine ⟨_,rfl,a,xs,rfl,.inl ⟨ZL.of ha,fun p1 hp1=>?_⟩⟩;have g1:=ZY hp1 (.tup xs);refine ⟨_,rfl,b,ys,rfl,.inl ⟨ZL.of (g1 _ _ hb),fun p2 hp2=>?_⟩⟩;have g2:=ZY hp2 (.tup ys);have g:=g1.trans g2;refine ⟨.ref p1,.ref p2,.tup ts,.tup us,5,rfl,.tup (g2 _ _ ZP) (kx.mono (ZA.tups g) _ _),.tup ZP (ky.mono (ZA.tups g) _ _),?_,by decide,fun H' s'=>?_⟩
 ·rw [KT.wide,zQ,zQ,NG];exact ⟨by decide,aM h100,zP.mpr fun t ht=>hf t ht⟩
 ·rw [KT.eqb];exact k H' (g.trans s')
theorem UJ{H:Hp}{p q:aj}(W:ZI H p)(h:H q=none):q≠p:=fun z=>by
 obtain ⟨xs,e⟩:=W.some;rw [z,e] at h;cases h
inductive Wf(vs:jf)(H:Hp)(Q:VK)(_:XK):Prop
 | mk (p:aj) (_:vs=[.ref p]) (_:ZI H p) (_:∀(v:V)(t:KT)(H':Hp),ZD H' t v->t.fits 3=true->ZI H' p->ZE p H H'->Q v H')
theorem Dm:ZC ["_law_well_here"] ["_law_well_here"] (Ze MS):=Zp
theorem Bj(F:Zj K "_law_value" "_law_value" MS f fd)(DP:ZB P w K mg base 1 "_law_pull" ["_law_well_here","_law_many"] Zr)(DK:ZB P w K mg base 6 "_law_key" ["_law_well_here","_law_room"] (XC 4)):ZJ P w K mg base ZW 7 f fd ["_law_well_here"] Wf:=by
 refine F.ko Dm fun cdv A outer s H vs Q E hr h=>?_;obtain ⟨p,rfl,W,q⟩:=h;have hr1:=hr.mono (show 1<=6 by decide)
 refine ⟨_,ZR (Z5 (Y8 VM (Zh DP hr1 (ZG (pv 0) (ZG ZM ZF))) ZM (YK _)) (ZU (Zg (Zh DK hr (ZG (pv 0) (ZG ZM ZF))))) Z7)
  (ZU (Zg (Zn (r:=YI K) YO (Yr (Bu ZM ZM Xq (Yq (ZG ZM ZF)) Xq (Yq ZF))) (Zh DP hr1 (ZG (pv 0) (ZG ZM ZF))) (fun _ _=>rfl)))),?_⟩
 refine ⟨_,rfl,p,3,rfl,W,Xi (by decide) (by decide),fun w0 H1 w00 w01 W1 s1=>⟨rfl,_,rfl,?_⟩⟩
 refine We (fun c=>?_) (fun c=>?_)
 ·exact ⟨_,rfl,p,3,rfl,W1,by decide,fun v t H3 hv ht W3 s3=>q v t H3 hv ht W3 (s1.trans s3)⟩
 refine ⟨Z0,fun t1 n1=>?_⟩;have g1:=ZY n1 (.tup [.int 1]);refine ⟨Z0,fun t2 n2=>?_⟩;have g2:=ZY n2 (.tup []);refine ⟨Z0,fun d nd'=>?_⟩;have g3:=ZY nd' (.lst [.int 0,.int 1,.str "1",.ref t1,.str "",.ref t2]);have gA:ZA H1 _:=(g1.trans g2).trans g3;have nd2:d≠p:=UJ (W1.same (g1.trans g2)) nd';refine ⟨_,rfl,p,6,rfl,W1.same gA,Xi (by decide) (by decide),fun r H3 r0 r1 W3 s3=>?_⟩
 have tA:=s3.tupsW (W1.same gA);have sA:ZE p H H3:=(s1.trans (ZE.of gA)).trans s3;have k1:ZD H3 (.tup [.int 1]) (.ref t1):=.tup (tA _ _ (g3 _ _ (g2 _ _ ZP))) (.cons (.int 1) .nil);have k2:ZD H3 (.tup []) (.ref t2):=.tup (tA _ _ (g3 _ _ ZP)) .nil;have eL:H3 d=some (.lst [.int 0,.int 1,.str "1",.ref t1,.str "",.ref t2]):=s3 d _ ZP nd2;obtain ⟨v,av,mv⟩:=Q7 (xs:=[V.int 0,.int 1,.str "1",.ref t1,.str "",.ref t2]) r0 r1;refine .inl ⟨d,_,_,v,rfl,rfl,ZL.of eL,av,?_⟩;simp only [zB,vY,or_false] at mv;rcases mv with rfl | rfl | rfl | rfl | rfl | rfl
 ·exact q _ _ H3 (.int 0) (by decide +kernel) W3 sA
 ·exact q _ _ H3 (.int 1) (by decide +kernel) W3 sA
 ·exact q _ _ H3 (.str _) (by decide +kernel) W3 sA
 ·exact q _ _ H3 k1 (by decide +kernel) W3 sA
 ·exact q _ _ H3 (.str _) (by decide +kernel) W3 sA
 ·exact q _ _ H3 k2 (by decide +kernel) W3 sA
end Tw
namespace L2
open PySem PySem.Spec PyProof.Rows
section
variable{X:Cx}
theorem M5(hc:X.calm=true):VW X (.builtin "sum") (fun xs H Q=>∃(p:aj)(ns:List Int),xs=[.ref p]/\ZL X.K H p (ns.map V.int)/\Q (.int ns.sum) H):=by
 intro pins s σ H xs us Q I r h;obtain ⟨p,ns,rfl,hq,q⟩:=h;obtain ⟨u,rfl,ru⟩:=Vk r;cases ru;obtain ⟨jj,rv,pl,hz⟩:=I.list hq;have hi:=Es rv;obtain ⟨ys,e⟩:=hi.allInts.items;have hl:=pl.isList;rw [e] at hl;have en:ys.toList.map (·.1)=ns:=by
  rw [<-nums_intItems,<-e];exact hi.numsOf
 refine sum_intListG (I.ok.hd hc) hl fun h' tk t' hk=>⟨.int ns.sum,H,I.kept (t':=tk) hk,⟨t',?_⟩,q⟩;rw [preSum_eq,yR (by simp),en]
end
end L2
namespace Tw
open PySem PySem.Spec L2 PyProof.Rows
variable{P:ao}{w:ay}{K:zZ}{mg:jc}{base:aF}{f:aj}{fd:aq}{jh ji CS CT CH CK CP CB:aj}
theorem KD:aA "sum" = some (.builtin "sum"):=by decide +kernel
structure YV where
 h:Int
 lo:KT
 hi:KT
 m:Int
def YV.d:YV:=⟨0,.int 0,.int 0,0⟩
def YV.kt(L:YV):KT:=.tup [.int L.h,L.lo,L.hi,.int L.m]
def Y1(H:Hp)(L:YV)(u:V):Prop:=∃ a jL jO,u=.ref a/\H a=some (.tup [.int L.h,jL,jO,.int L.m])/\ZD H L.lo jL/\ZD H L.hi jO
theorem Y1.mono{H H':Hp}{L:YV}{u:V}(x:Y1 H L u)(m:Z1 H H'):Y1 H' L u:=by
 obtain ⟨a,jL,jO,e,e1,k1,k2⟩:=x;exact ⟨a,jL,jO,e,m _ _ e1,k1.mono m _ _,k2.mono m _ _⟩
def Yi(H:Hp)(ls:List YV)(us:jf):Prop:=us.length=ls.length/\∀ i u,us[i]? = some u->Y1 H (ls.getD i .d) u
theorem Yi.mono{H H':Hp}{ls:List YV}{us:jf}(x:Yi H ls us)(m:Z1 H H'):Yi H' ls us:=⟨x.1,fun i u e=>(x.2 i u e).mono m⟩
def YV.fit(L:YV):Prop:=L.lo.fits 3=true/\L.hi.fits 3=true
def Ug(a b:YV):Bool:=(a.h==b.h)&&a.hi.lt b.lo
def Nf(ls:List YV):Bool:=(yU (ls.length - 1)).all fun j=>Ug (ls.getD j .d) (ls.getD (j+1) .d)
def over(ls:List YV):Option YV:=if 2<=ls.length/\ls.length<=4/\Nf ls=true then some ⟨(ls.getD 0 .d).h+1,(ls.getD 0 .d).lo,(ls.getD (ls.length - 1) .d).hi,(ls.map YV.m).sum⟩ else none
theorem Ce{ls:List YV}(h2:2<=ls.length)(h4:ls.length<=4)(h:∀ j,j<ls.length - 1->Ug (ls.getD j .d) (ls.getD (j+1) .d)=true):over ls=some ⟨(ls.getD 0 .d).h+1,(ls.getD 0 .d).lo,(ls.getD (ls.length - 1) .d).hi,(ls.map YV.m).sum⟩:=
 aP ⟨h2,h4,zP.mpr fun j hj=>h j (yA.mp hj)⟩
inductive Vh(vs:jf)(H:Hp)(Q:VK)(_:XK):Prop
 | mk (v u:V) (a b:YV) (_:vs=[v,u]) (_:Y1 H a v) (_:Y1 H b u) (_:a.fit) (_:b.fit) (_:∀ H',ZA H H'->Q (.bl (Ug a b)) H')
theorem ZOY:ZC ["label","following"] ["label","following"] (Ze LD):=Zp
theorem ZM8(F:Zj K "stand_side_by_side" "stand_side_by_side" LD f fd)(T:YF mg)(DA:ZB P w K mg base 7 "ahead" ["one","other"] Yo):ZJ P w K mg base ZW 8 f fd ["label","following"] Vh:=by
 refine F.ko ZOY fun cdv A outer s H vs Q E hr h=>?_;obtain ⟨v,u,a,b,rfl,ha,hb,fa,fb,k⟩:=h;obtain ⟨t0,m0⟩:=T.height;obtain ⟨t1,m1⟩:=T.least;obtain ⟨t2,m2⟩:=T.greatest;obtain ⟨pa,alo,ahi,rfl,ea,ka1,ka2⟩:=ha;obtain ⟨pb,blo,bhi,rfl,eb,kb1,kb2⟩:=hb;refine ⟨_,ZU (Zg (QV (VQ VM (Zn (r:=YI K) YO (pv 0) (WN (v:=.int 0) rfl m0 ⟨_,rfl⟩) (fun _ _=>rfl)) (Zn (r:=YI K) YO (pv 1) (WN (v:=.int 0) rfl m0 ⟨_,rfl⟩) (fun _ _=>rfl)) (YK _))
  (Q4 (Zh DA hr (ZG (Zn (r:=YI K) YO (pv 0) (WN (v:=.int 2) rfl m2 ⟨_,rfl⟩) (fun _ _=>rfl)) (ZG (Zn (r:=YI K) YO (pv 1) (WN (v:=.int 1) rfl m1 ⟨_,rfl⟩) (fun _ _=>rfl)) ZF)))))),?_⟩
 refine ⟨_,rfl,.inr (.inl ⟨pa,_,_,.int a.h,rfl,rfl,Zo.of ea,rfl,?_⟩)⟩;refine ⟨_,rfl,.inr (.inl ⟨pb,_,_,.int b.h,rfl,rfl,Zo.of eb,rfl,rfl,_,rfl,?_⟩)⟩;by_cases hh:a.h=b.h
 ·rw [aM (by rw [hh])]
  refine Z2 ?_;refine ⟨_,rfl,.inr (.inl ⟨pa,_,_,ahi,rfl,rfl,Zo.of ea,rfl,?_⟩)⟩;refine ⟨_,rfl,.inr (.inl ⟨pb,_,_,blo,rfl,rfl,Zo.of eb,rfl,ahi,blo,a.hi,b.lo,rfl,ka2,kb1,fa.2,fb.1,fun H' s'=>?_⟩)⟩;have e:a.hi.lt b.lo=Ug a b:=by unfold Ug;rw [hh,beq_self_eq_true,vM]
  rw [e];exact k H' s'
 ·rw [aK (fun z=>hh (Og z))];refine Zm ?_;have e:false=Ug a b:=by unfold Ug;rw [beq_eq_false_iff_ne.mpr hh,wS]
  rw [e];exact k H (ZA.refl H)
theorem Kw{n:Int}(h:n.natAbs<10 ^ 60)(r:Nat):(KT.int n).fits r=true:=by rw [KT.fits];exact aM h
theorem Np{H:Hp}{L:YV}{u:V}(h:ZD H L.kt u):Y1 H L u:=by
 unfold YV.kt at h;rw [ZD] at h;obtain ⟨a,vs,rfl,ea,ks⟩:=h;rw [KeysAt] at ks;obtain ⟨v1,r1,rfl,k1,ks⟩:=ks;rw [KeysAt] at ks;obtain ⟨v2,r2,rfl,k2,ks⟩:=ks;rw [KeysAt] at ks;obtain ⟨v3,r3,rfl,k3,ks⟩:=ks;rw [KeysAt] at ks;obtain ⟨v4,r4,rfl,k4,ks⟩:=ks;rw [KeysAt] at ks;subst ks;rw [ZD] at k1 k4;subst k1 k4;exact ⟨a,v2,v3,rfl,ea,k2,k3⟩
theorem Fj:YV.d.fit:=⟨Kw (n:=0) (by decide) 3,Kw (n:=0) (by decide) 3⟩
def Ia(H:Hp)(ks:List KT)(us:jf):Prop:=us.length=ks.length/\∀ i u,us[i]? = some u->∃ a vk vv,u=.ref a/\H a=some (.tup [vk,vv])/\ZD H (ks.getD i (.int 0)) vk
def NW(ks:List KT):KT:=.tup [.int 0,ks.getD 0 (.int 0),ks.getD (ks.length - 1) (.int 0),.int ks.length]
theorem DE{us:jf}{u:V}(h:us[us.length - 1]? = some u):WM us (-1)=some u:=by
 have jt:us≠[]:=fun z=>by rw [z] at h;simp at h
 have e:us=us.dropLast++[u]:=by
  have hg:us.getLast jt=u:=by
   rw [rH];exact (yV.mp h).2
  rw [<-hg,qM]
 rw [e];exact G6 _ _
inductive Xh(vs:jf)(H:Hp)(Q:VK)(_:XK):Prop
 | mk (l:aj) (us:jf) (ks:List KT) (_:vs=[.ref l]) (_:H l=some (.lst us)) (_:Ia H ks us) (_:0<us.length) (_:∀(H':Hp)(v:V),ZA H H'->ZD H' (NW ks) v->Q v H')
theorem Ad:ZC ["rows"] ["rows"] (Ze LL):=Zp
theorem CG(F:Zj K "label_of_rows" "label_of_rows" LL f fd)(T:YF mg):ZJ P w K mg base ZW 1 f fd ["rows"] Xh:=by
 refine F.ko Ad fun cdv A outer s H vs Q E hr h=>?_;obtain ⟨l,us,ks,rfl,hl,hk,h0,k⟩:=h;refine ⟨_,ZU (Zg (Yq (Vd ZM (Zn (r:=YI K) YO (Zn (r:=YI K) YO (pv 0) ZM (fun _ _=>rfl)) ZM (fun _ _=>rfl))
  (Zn (r:=YI K) YO (Zn (r:=YI K) YO (pv 0) (Py P8 ZM) (fun _ _=>rfl)) ZM (fun _ _=>rfl)) (Z4 Xu rfl T.len Xl (ZG (pv 0) ZF))))),?_⟩
 have u0:us[0]? = some us[0]:=zT h0;have u1:us[us.length - 1]? = some (us[us.length - 1]'(by lia)):=zT (by lia)
 obtain ⟨a,ak,av,ea,ta,ka⟩:=hk.2 0 _ u0;obtain ⟨b,bk,bv,eb,tb,kb⟩:=hk.2 _ _ u1;rw [ea] at u0;rw [eb] at u1;refine ⟨_,rfl,.inl ⟨l,us,_,.ref a,rfl,rfl,ZL.of hl,Xb (j:=0) u0,.inr (.inl ⟨a,_,_,ak,rfl,rfl,Zo.of ta,rfl,?_⟩)⟩⟩;refine ⟨_,rfl,1,rfl,.inl ⟨l,us,_,.ref b,rfl,rfl,ZL.of hl,DE u1,.inr (.inl ⟨b,_,_,bk,rfl,rfl,Zo.of tb,rfl,?_⟩)⟩⟩;refine ⟨_,rfl,l,us,rfl,.inl (ZL.of hl),Z0,fun p hp=>?_⟩;have g:=ZY hp (.tup [.int 0,ak,bk,.int us.length]);refine k _ _ g ?_;unfold NW;rw [<-hk.1];exact .tup ZP (.cons (.int _) (.cons (ka.mono (ZA.tups g) _ _) (.cons (kb.mono (ZA.tups g) _ _) (.cons (.int _) .nil))))
abbrev Zz:=KT×KT
def QI(r:Zz):KT:=.tup [r.1,r.2]
def Zv(rs:List Zz):List KT:=rs.map QI
def Zz.fit(r:Zz):Prop:=r.1.fits 3=true/\r.2.fits 3=true
structure ZS where
 h:Nat
 rows:List Zz
 bs:List Nat
def ZS.d:ZS:=⟨0,[],[]⟩
def gd(ts:List ZS)(i:Nat):ZS:=ts.getD i .d
theorem XI{ts:List ZS}{i:Nat}(h:i<ts.length):ts[i]? = some (gd ts i):=by
 unfold gd;rw [zV,zT h];rfl
structure WE(gt:List KT)(ts:List ZS)(i:Nat)(t:ZS):Prop where
 ne:t.rows≠[]
 up:(t.rows.map (·.1)).Pairwise fun a b=>a.lt b=true
 inn:∀ r∈t.rows,r.fit
 leaf:t.h=0->t.bs=[]/\t.rows.length<=4
 stem:t.h≠0->2<=t.bs.length/\t.bs.length<=4/\(∀ b∈t.bs,b<i/\(gd ts b).h+1=t.h)/\t.rows=t.bs.flatMap fun b=>(gd ts b).rows
def WF(gt:List KT)(ts:List ZS):Prop:=∀ i t,ts[i]? = some t->WE gt ts i t
def kindOf(t:ZS):Str:=if t.h=0 then "leaf" else "stem"
theorem UO{H H':Hp}{a:aj}{o:HO}(s:ZA H H')(n:H a=none):ZA H (upd H' a o):=fun b u e=>by rw [ZV (Za e n)];exact s b u e
abbrev iN(l:List Nat):jf:=l.map fun b=>V.int (b:Nat)
theorem O5(a b:List Zz):Zv (a++b)=Zv a++Zv b:=yZ
def rd:Zz:=(.int 0,.int 0)
def YS(t:ZS):YV:=⟨t.h,(t.rows.getD 0 rd).1,(t.rows.getD (t.rows.length - 1) rd).1,t.rows.length⟩
theorem row_at{H:Hp}{rs:List Zz}{us:jf}{i:Nat}{u:V}(h:KeysAt H (Zv rs) us)(e:us[i]? = some u):∃ a vk vv,rs[i]? = some (rs.getD i rd)/\u=.ref a/\H a=some (.tup [vk,vv])/\ZD H (rs.getD i rd).1 vk/\ZD H (rs.getD i rd).2 vv:=by
 obtain ⟨t,et,kt⟩:=h.get e;unfold Zv at et;rw [zL] at et;obtain ⟨r,er,rfl⟩:=xN.mp et;have eg:rs.getD i rd=r:=by rw [zV,er];rfl
 unfold QI at kt;rw [ZD] at kt;obtain ⟨a,vs,rfl,ha,hk⟩:=kt;rw [KeysAt] at hk;obtain ⟨v1,r1,rfl,k1,hk⟩:=hk;rw [KeysAt] at hk;obtain ⟨v2,r2,rfl,k2,hk⟩:=hk;rw [KeysAt] at hk;subst hk;rw [eg];exact ⟨a,v1,v2,er,rfl,ha,k1,k2⟩
theorem Yi.snoc{H:Hp}{ls:List YV}{us:jf}{L:YV}{u:V}(h:Yi H ls us)(hu:Y1 H L u):Yi H (ls++[L]) (us++[u]):=by
 refine ⟨by rw [zU,zU,h.1];rfl,fun i w e=>?_⟩
 rcases zC i us.length with hi | hi
 ·rw [wX hi] at e;have:=h.2 i w e;rw [zV] at this ⊢;rw [wX (by rw [<-h.1];exact hi)]
  exact this
 ·rw [xW hi] at e;have hi0:i - us.length=0:=by
   rcases Nat.eq_zero_or_pos (i - us.length) with z | z
   ·exact z
   ·rw [sJ (by simp;lia)] at e;cases e
  rw [hi0] at e;simp at e;subst e;have ei:i=ls.length:=by have:=h.1;lia
  rw [zV,ei];simp;exact hu
def inT(ts:List ZS)(x:Int):Bool:=decide (0<=x/\x<(ts.length:Int))
def Le(ls:List YV):Prop:=∀ j,j+1<ls.length->(ls.getD (j+1) .d).h=(ls.getD 0 .d).h/\(ls.getD j .d).hi.lt (ls.getD (j+1) .d).lo=true
theorem Uj{ls:List YV}:Le ls ↔ Nf ls=true:=by
 unfold Le Nf Ug;rw [zP];constructor
 ·intro h j hj;have hj':j<ls.length - 1:=yA.mp hj;obtain ⟨a,b⟩:=h j (by lia)
  rw [zQ];refine ⟨?_,b⟩;rw [beq_iff_eq,a]
  cases j with
  | zero=>rfl
  | succ j=>exact (h j (by lia)).1
 ·intro h;have hh:∀ j,j<ls.length->(ls.getD j .d).h=(ls.getD 0 .d).h:=fun j=>by
   induction j with
   | zero=>intro _;rfl
   | succ j ih=>
    intro hj;have:=h j (yA.mpr (by lia))
    rw [zQ,beq_iff_eq] at this;rw [<-this.1];exact ih (by lia)
  intro j hj;have:=h j (yA.mpr (by lia))
  rw [zQ] at this;exact ⟨hh (j+1) hj,this.2⟩
theorem GQ{gt:List KT}{ts:List ZS}{i:Nat}{t:ZS}(h:WE gt ts i t):(YS t).fit:=by
 have hp:0<t.rows.length:=sU.mpr h.ne;have m0:t.rows.getD 0 rd∈t.rows:=by rw [zV,zT hp];exact xZ _
 have m1:t.rows.getD (t.rows.length - 1) rd∈t.rows:=by rw [zV,zT (show t.rows.length - 1<t.rows.length by lia)];exact xZ _
 exact ⟨(h.inn _ m0).1,(h.inn _ m1).1⟩
def XB(ts:List ZS)(bs:List Nat):List YV:=bs.map fun b=>YS (gd ts b)
structure ZK(P:ao)(w:ay)(K:zZ)(mg:jc)(base:aF)(CX:VS)(k:Nat)(C:aj)(m:Str)(ps:List Str)(sp:Sp):Prop where
 ex:∃ f fd,QW K C m f/\ZJ P w K mg base CX k f fd ps sp/\Zt K fd ps []
theorem XT{X:Cx}{CX:VS}{k:Nat}{C:aj}{m:Str}{ps:List Str}{sp:Sp}{E:XK}{o e:Expr}{es:List Expr}{ta:TE}{t:TA}{pos ju:Pos}{pl:Sem Bool}(he:PE X o ta)(c:UI X.K C)(D:ZK X.prog X.w X.K X.mg X.base CX k C m ps sp)(hr:ZX k X.A)(hx:QJ CX X E)(ha:PA X (e :: es) t)(hst:ax (e :: es) X.env=(false,aI e X.env) :: ax es X.env:=by rfl)(jv:(aH pos (ax es X.env)).any (·.1)=false:=by rfl)(ht:aI (.Call (.Attribute o m ju) (e :: es) [] pos) X.env=(do
   let ov<-aI o X.env
   standAt ju.atName
   let (f,first)<-holding [ov] (getMethod ov m pl)
   callWith pos f first (aH pos (ax (e :: es) X.env)) (backToKw pos (keywordEach [] X.env))):=by rfl):
  PE X (.Call (.Attribute o m ju) (e :: es) [] pos) (Iw C m sp [] E ta t):=by
 obtain ⟨f,fd,M,F,b⟩:=D.ex;exact Bd he c M F hr b .nil hx ha hst jv ht
abbrev M0:Stmt:=VH (Zq 29) 0
abbrev MX:Stmt:=VH (Zq 53) 0
abbrev LV:Stmt:=VH (Zq 53) 1
abbrev MD:Stmt:=VH (Zq 53) 3
abbrev MB:Stmt:=VH (Zq 53) 7
abbrev LQ:Stmt:=VH (Zq 53) 8
abbrev Mf:Stmt:=VH (Zq 53) 12
abbrev NY:Stmt:=VH (Zq 53) 13
abbrev Ny:Stmt:=VH (Zq 53) 18
structure XA(K:zZ)(mg:jc)(jh ji:aj):Prop where
 shelf:mg "Shelf" = some (.ref jh)
 twig:mg "Twig" = some (.ref ji)
 cS:UI K jh
 cT:UI K ji
 nk:Z6 K jh "kept"
 nf:Z6 K jh "following"
 nl:Z6 K jh "looks"
 nth:Z6 K ji "things"
 ntg:Z6 K ji "tag"
 nab:Z6 K ji "above"
 nho:Z6 K ji "holds"
abbrev Qz(d lk:aj)(n:Nat):List (Str×V):=[("kept",.ref d),("following",.int n),("looks",.ref lk)]
abbrev UX(th tg:V)(ab:aj)(ho:Nat):List (Str×V):=[("things",th),("tag",tg),("above",.ref ab),("holds",.int ho)]
structure Y7(jh:aj)(H:Hp)(S d lk:aj)(n:Nat)(kvs:List (Zd×V))(ls:jf):Prop where
 self:∃ dx,H S=some (.ins jh dx (Qz d lk n))
 kept:H d=some (.dK kvs)
 looks:H lk=some (.lst ls)
structure WK(ji:aj)(H:Hp)(x:aj)(th tg:V)(ab:aj)(ho:Nat)(us:jf):Prop where
 self:∃ dx,H x=some (.ins ji dx (UX th tg ab ho))
 above:H ab=some (.lst us)
theorem Y7.same{jh:aj}{H H':Hp}{S d lk:aj}{n:Nat}{kvs:List (Zd×V)}{ls:jf}(h:Y7 jh H S d lk n kvs ls)(s:ZA H H'):Y7 jh H' S d lk n kvs ls:=by
 obtain ⟨⟨dx,e⟩,h2,h3⟩:=h;exact ⟨⟨dx,s _ _ e⟩,s _ _ h2,s _ _ h3⟩
theorem WK.same{ji:aj}{H H':Hp}{x:aj}{th tg:V}{ab:aj}{ho:Nat}{us:jf}(h:WK ji H x th tg ab ho us)(s:ZA H H'):WK ji H' x th tg ab ho us:=by
 obtain ⟨⟨dx,e⟩,h2⟩:=h;exact ⟨⟨dx,s _ _ e⟩,s _ _ h2⟩
inductive Uf(ji:aj)(vs:jf)(H:Hp)(Q:VK)(_:XK):Prop
 | mk (x dx:aj) (th tg:V) (_:vs=[.ref x,th,tg]) (_:H x=some (.ins ji dx [])) (_:∀(H':Hp)(ab:aj),(∀ b o,b≠x->H b=some o->H' b=some o)->H ab=none->WK ji H' x th tg ab 1 []->Q .non H')
theorem ZP0:ZC ["self","things","tag"] ["self","things","tag"] (Ze M0):=Zp
theorem ZNw(F:Zj K "__init__" "Twig.__init__" M0 f fd)(L:XA K mg jh ji):ZJ P w K mg base ZW 1 f fd ["self","things","tag"] (Uf ji):=by
 refine F.ko ZP0 fun cdv A outer s H vs Q E hr h=>?_;obtain ⟨x,dx,th,tg,rfl,hx,k⟩:=h;refine ⟨_,ZR (Qy (pv 0) (pv 1) rfl) (ZR (Qy (pv 0) (pv 2) rfl) (ZR (Qy (pv 0) (Yr ZF) rfl) (ZU (Qy (pv 0) ZM rfl)))),?_⟩;refine ⟨_,rfl,_,rfl,x,ji,dx,_,rfl,hx,L.cT,L.nth,xO rfl,?_⟩;refine ⟨_,rfl,_,rfl,x,ji,dx,_,rfl,ZP,L.cT,L.ntg,xO rfl,?_⟩;refine ⟨Z0,fun ab hab=>?_⟩;rw [Nc] at hab ⊢;have xab:x≠ab:=fun z=>by rw [<-z,ZP] at hab;cases hab
 have nab:H ab=none:=by rw [ZV (Ne.symm xab)] at hab;exact hab
 refine ⟨_,rfl,x,ji,dx,_,rfl,(by rw [ZV xab];exact ZP),L.cT,L.nab,xO rfl,?_⟩
 refine ⟨_,rfl,x,ji,dx,_,rfl,ZP,L.cT,L.nho,xO rfl,?_⟩;refine k _ ab (fun b o n e=>?_) nab ⟨⟨dx,ZP⟩,?_⟩
 ·rw [Nc,ZV n,ZV (Za e nab),ZV n];exact e
 ·rw [Nc,ZV (Ne.symm xab)];exact ZP
inductive Uk(jh:aj)(vs:jf)(H:Hp)(Q:VK)(_:XK):Prop
 | mk (x dx:aj) (_:vs=[.ref x]) (_:H x=some (.ins jh dx [])) (_:∀(H':Hp)(d lk:aj),(∀ b o,b≠x->H b=some o->H' b=some o)->H d=none->H lk=none->d≠lk->Y7 jh H' x d lk 0 [] []->Q .non H')
theorem Bk:ZC ["self"] ["self"] (Ze MX):=Zp
theorem ZOA(F:Zj K "__init__" "Shelf.__init__" MX f fd)(L:XA K mg jh ji):ZJ P w K mg base ZW 1 f fd ["self"] (Uk jh):=by
 refine F.ko Bk fun cdv A outer s H vs Q E hr h=>?_;obtain ⟨x,dx,rfl,hx,k⟩:=h;refine ⟨_,ZR (Qy (pv 0) Lv rfl) (ZR (Qy (pv 0) ZM rfl) (ZU (Qy (pv 0) (Yr ZF) rfl))),?_⟩;intro d hd;have xd:x≠d:=Za hx hd;refine ⟨_,rfl,x,jh,dx,_,rfl,(by rw [ZV xd];exact hx),L.cS,L.nk,xO rfl,?_⟩
 refine ⟨_,rfl,x,jh,dx,_,rfl,ZP,L.cS,L.nf,xO rfl,?_⟩;refine ⟨Z0,fun lk hlk=>?_⟩;rw [Nc] at hlk ⊢;have xl:x≠lk:=fun z=>by rw [<-z,ZP] at hlk;cases hlk
 have hlk1:upd H d (.dK []) lk=none:=by rw [ZV (Ne.symm xl)] at hlk;exact hlk
 have dl:d≠lk:=fun z=>by rw [<-z,ZP] at hlk1;cases hlk1
 have nlk:H lk=none:=by rw [ZV (Ne.symm dl)] at hlk1;exact hlk1
 refine ⟨_,rfl,x,jh,dx,_,rfl,(by rw [ZV xl];exact ZP),L.cS,L.nl,xO rfl,?_⟩
 refine k _ d lk (fun b o n e=>?_) hd nlk dl ⟨⟨dx,ZP⟩,?_,?_⟩
 ·rw [ZV n,ZV (Za e nlk),ZV n,ZV (Za e hd)];exact e
 ·rw [ZV (Ne.symm xd),ZV dl,ZV (Ne.symm xd)];exact ZP
 ·rw [ZV (Ne.symm xl)];exact ZP
inductive YB(jh:aj)(vs:jf)(H:Hp)(Q:VK)(_:XK):Prop
 | mk (S d lk:aj) (n:Nat) (kvs:List (Zd×V)) (ls:jf) (i:Int) (tw:V) (_:vs=[.ref S,.int i]) (_:Y7 jh H S d lk n kvs ls) (_:YR kvs (.inl i)=some tw) (_:Q tw H)
theorem GE:ZC ["self","number"] ["self","number"] (Ze Ny):=Zp
theorem B7(F:Zj K "twig_of" "Shelf.twig_of" Ny f fd)(L:XA K mg jh ji):ZJ P w K mg base ZW 1 f fd ["self","number"] (YB jh):=by
 refine F.ko GE fun cdv A outer s H vs Q E hr h=>?_;obtain ⟨S,d,lk,n,kvs,ls,i,tw,rfl,⟨⟨dx,hS⟩,hd,hl⟩,hv,k⟩:=h;have hu:=P5 hr;refine ⟨_,ZR (Z5 (V0 (LP hu (pv 1) (VU (pv 0) rfl))) Qx Z7) (ZU (Zg (OW hu (VU (pv 0) rfl) (pv 1) (fun _ _=>rfl)))),?_⟩;have hg:Yg H d (.int i) (some tw):=hv ▸ Yg.k (k:=Sum.inl i) hd;refine ⟨_,rfl,_,rfl,S,jh,dx,_,.ref d,rfl,hS,L.cS,L.nk,rfl,d,some tw,rfl,hg,_,rfl,Zm ?_⟩;exact ⟨_,rfl,S,jh,dx,_,.ref d,rfl,hS,L.cS,L.nk,rfl,_,rfl,d,tw,rfl,hg,k⟩
structure UP(P:ao)(w:ay)(K:zZ)(mg:jc)(base:aF)(k:Nat)(C:aj)(ps:List Str)(sp:Sp):Prop where
 ex:∃ f fd,Mk K C f/\ZJ P w K mg base ZW k f fd ps sp/\Zt K fd ps []
structure VR(jh ji:aj)(H:Hp)(S d lk:aj)(n:Nat)(kvs:List (Zd×V))(ls:jf)(i:Int)(x:aj)(th tg:V)(ab:aj)(ho:Nat)(us:jf):Prop where
 sh:Y7 jh H S d lk n kvs ls
 val:YR kvs (.inl i)=some (.ref x)
 tw:WK ji H x th tg ab ho us
theorem VR.same{jh ji:aj}{H H':Hp}{S d lk:aj}{n:Nat}{kvs:List (Zd×V)}{ls:jf}{i:Int}{x:aj}{th tg:V}{ab:aj}{ho:Nat}{us:jf}(h:VR jh ji H S d lk n kvs ls i x th tg ab ho us)(s:ZA H H'):VR jh ji H' S d lk n kvs ls i x th tg ab ho us:=⟨h.sh.same s,h.val,h.tw.same s⟩
inductive WQ(jh ji:aj)(res:V->Nat->jf->V)(vs:jf)(H:Hp)(Q:VK)(_:XK):Prop
 | mk (S d lk:aj) (n:Nat) (kvs:List (Zd×V)) (ls:jf) (i:Int) (x:aj) (th tg:V) (ab:aj) (ho:Nat) (us:jf) (_:vs=[.ref S,.int i]) (_:VR jh ji H S d lk n kvs ls i x th tg ab ho us) (_:Q (res tg ho us) H)
theorem Fx:ZC ["self","number"] ["self","number"] (Ze LQ):=Zp
theorem BM(F:Zj K "outside" "Shelf.outside" LQ f fd)(L:XA K mg jh ji)(DT:ZK P w K mg base ZW 1 jh "twig_of" ["self","number"] (YB jh)):ZJ P w K mg base ZW 2 f fd ["self","number"] (WQ jh ji fun _ ho _=>.int ho):=by
 refine F.ko Fx fun cdv A outer s H vs Q E hr h=>?_;obtain ⟨S,d,lk,n,kvs,ls,i,x,th,tg,ab,ho,us,rfl,R,k⟩:=h;refine ⟨_,ZU (Zg (VU (XT (E:=E0) (pv 0) L.cS DT hr XJ (ZG (pv 1) ZF)) rfl)),?_⟩;obtain ⟨dx,hS⟩:=R.sh.self;obtain ⟨dt,hx⟩:=R.tw.self;exact ⟨_,rfl,S,dx,_,rfl,hS,rfl,_,rfl,S,d,lk,n,kvs,ls,i,.ref x,rfl,R.sh,R.val,x,ji,dt,_,.int ho,rfl,hx,L.cT,L.nho,rfl,k⟩
theorem GX:ZC ["self","number"] ["self","number"] (Ze NY):=Zp
theorem ZK6(F:Zj K "label" "Shelf.label" NY f fd)(L:XA K mg jh ji)(DT:ZK P w K mg base ZW 1 jh "twig_of" ["self","number"] (YB jh)):ZJ P w K mg base ZW 2 f fd ["self","number"] (WQ jh ji fun tg _ _=>tg):=by
 refine F.ko GX fun cdv A outer s H vs Q E hr h=>?_;obtain ⟨S,d,lk,n,kvs,ls,i,x,th,tg,ab,ho,us,rfl,R,k⟩:=h;refine ⟨_,ZU (Zg (VU (XT (E:=E0) (pv 0) L.cS DT hr XJ (ZG (pv 1) ZF)) rfl)),?_⟩;obtain ⟨dx,hS⟩:=R.sh.self;obtain ⟨dt,hx⟩:=R.tw.self;exact ⟨_,rfl,S,dx,_,rfl,hS,rfl,_,rfl,S,d,lk,n,kvs,ls,i,.ref x,rfl,R.sh,R.val,x,ji,dt,_,tg,rfl,hx,L.cT,L.ntg,rfl,k⟩
theorem Wd:ZC ["self","number","twig"] ["self","number"] (Ze MB):=Zp
theorem Cs(F:Zj K "holders" "Shelf.holders" MB f fd)(T:YF mg)(L:XA K mg jh ji)(DT:ZK P w K mg base ZW 1 jh "twig_of" ["self","number"] (YB jh)):ZJ P w K mg base ZW 2 f fd ["self","number"] (WQ jh ji fun _ ho us=>.int ((us.length:Nat)+(ho:Nat):Int)):=by
 refine F.ko Wd fun cdv A outer s H vs Q E hr h=>?_;obtain ⟨S,d,lk,n,kvs,ls,i,x,th,tg,ab,ho,us,rfl,R,k⟩:=h;have nd:=Wd.nd;refine ⟨_,ZR (Zk 2 nd (XT (E:=E0) (pv 0) L.cS DT hr XJ (ZG (pv 1) ZF))) (ZU (Zg (Zw WP (Z4 Xu rfl T.len Xl (ZG (VU (pv 2) rfl) ZF)) (VU (pv 2) rfl)))),?_⟩;obtain ⟨dx,hS⟩:=R.sh.self;obtain ⟨dt,hx⟩:=R.tw.self;refine ⟨_,rfl,S,dx,_,rfl,hS,rfl,_,rfl,S,d,lk,n,kvs,ls,i,.ref x,rfl,R.sh,R.val,?_⟩;exact ⟨_,rfl,x,ji,dt,_,.ref ab,rfl,hx,L.cT,L.nab,rfl,ab,us,rfl,.inl (ZL.of R.tw.above),_,rfl,x,ji,dt,_,.int ho,rfl,hx,L.cT,L.nho,rfl,_,_,rfl,rfl,k⟩
inductive Wh(ji:aj)(vs:jf)(H:Hp)(Q:VK)(_:XK):Prop
 | mk (x:aj) (th:V) (tg ab:aj) (ho:Nat) (us:jf) (h:Int) (xs:jf) (_:vs=[.ref x]) (_:WK ji H x th (.ref tg) ab ho us) (_:H tg=some (.tup (.int h :: xs))) (_:Q (.bl (decide (h > 0))) H)
theorem Ci:ZC ["twig"] ["twig"] (Ze KL):=Zp
theorem Cj(F:Zj K "is_stem" "is_stem" KL f fd)(T:YF mg)(L:XA K mg jh ji):ZJ P w K mg base ZW 1 f fd ["twig"] (Wh ji):=by
 refine F.ko Ci fun cdv A outer s H vs Q E hr h=>?_;obtain ⟨x,th,tg,ab,ho,us,hh,xs,rfl,W,ht,k⟩:=h;obtain ⟨t0,m0⟩:=T.height;obtain ⟨dt,hx⟩:=W.self;refine ⟨_,ZU (Zg (VQ Q2 (Zn (r:=YI K) YO (VU (pv 0) rfl) (WN (v:=.int 0) rfl m0 ⟨_,rfl⟩) (fun _ _=>rfl)) ZM (YK _))),?_⟩;exact ⟨_,rfl,x,ji,dt,_,.ref tg,rfl,hx,L.cT,L.ntg,rfl,.inr (.inl ⟨tg,_,_,.int hh,rfl,rfl,Zo.of ht,Xb (j:=0) rfl,_,_,rfl,rfl,k⟩)⟩
theorem F9{n:Nat}(h:n<=400000):n<sizeLine:=uF h (by decide)
inductive Vv(jh ji:aj)(vs:jf)(H:Hp)(Q:VK)(_:XK):Prop
 | mk (S d lk:aj) (n:Nat) (kvs:List (Zd×V)) (ls:jf) (i:Int) (x tl tg ab:aj) (ho:Nat) (as us xs:jf) (h:Int) (_:vs=[.ref S,.int i]) (_:VR jh ji H S d lk n kvs ls i x (.ref tl) (.ref tg) ab ho as) (_:H tl=some (.lst us)) (_:H tg=some (.tup (.int h :: xs))) (_:lk≠tl) (_:lk≠ab) (_:ls.length<=390000) (_:∀(H':Hp)(l' t:aj),(∀ b o,b≠lk->H b=some o->H' b=some o)->H' lk=some (.lst (ls++[.int i]))->H l'=none->H' l'=some (.lst us)->H' t=some (.tup [.str (if h > 0 then "stem" else "leaf"),.ref l'])->Q (.ref t) H')
theorem Ue:ZC ["self","number","twig"] ["self","number"] (Ze Mf):=Zp
theorem Al(F:Zj K "look" "Shelf.look" Mf f fd)(T:YF mg)(L:XA K mg jh ji)(DT:ZK P w K mg base ZW 1 jh "twig_of" ["self","number"] (YB jh))(DS:ZB P w K mg base 1 "is_stem" ["twig"] (Wh ji)):ZJ P w K mg base ZW 2 f fd ["self","number"] (Vv jh ji):=by
 refine F.ko Ue fun cdv A outer s H vs Q E hr h=>?_;obtain ⟨S,d,lk,n,kvs,ls,i,x,tl,tg,ab,ho,as,us,xs,hh,rfl,R,htl,htg,ltl,lab,l900,k⟩:=h;have nd:=Ue.nd;refine ⟨_,ZR (Zk 2 nd (XT (E:=E0) (pv 0) L.cS DT hr XJ (ZG (pv 1) ZF)))
  (ZR (X8 (U0 yC wZ wY QD (VU (pv 0) rfl) (ZG (pv 1) ZF)))
  (ZR (Z5 (Y9 (Zh DS hr (ZG (pv 2) ZF))) (ZU (Zg (Yq (ZG Xq (ZG (Wy Q5 rfl T.list Qf (ZG (VU (pv 2) rfl) ZF)) ZF))))) Z7)
  (ZU (Zg (Yq (ZG Xq (ZG (Wy Q5 rfl T.list Qf (ZG (VU (pv 2) rfl) ZF)) ZF))))))),?_⟩
 obtain ⟨dx,hS⟩:=R.sh.self;obtain ⟨dt,hx⟩:=R.tw.self;refine ⟨_,rfl,S,dx,_,rfl,hS,rfl,_,rfl,S,d,lk,n,kvs,ls,i,.ref x,rfl,R.sh,R.val,?_⟩;have hlk:=R.sh.looks;refine ⟨_,rfl,S,jh,dx,_,.ref lk,rfl,hS,L.cS,L.nl,rfl,.inl ⟨rfl,_,ZL.of hlk⟩,_,rfl,lk,ls,.int i,rfl,rfl,hlk,F9 (by lia),?_⟩
 have ke:∀ b o,b≠lk->H b=some o->upd H lk (.lst (ls++[.int i])) b=some o:=fun b o n e=>by rw [ZV n];exact e
 have xlk:x≠lk:=ZQ hx hlk;have tglk:tg≠lk:=ZQ htg hlk;have hx1:=ke _ _ xlk hx;have htg1:=ke _ _ tglk htg;have hab1:=ke _ _ (Ne.symm lab) R.tw.above;have htl1:=ke _ _ (Ne.symm ltl) htl;have hlk1:upd H lk (.lst (ls++[.int i])) lk=some (.lst (ls++[.int i])):=ZP;have fin:∀(w:Str)(l' t:aj),upd H lk (.lst (ls++[.int i])) l'=none->upd (upd H lk (.lst (ls++[.int i]))) l' (.lst us) t=none->w=(if hh > 0 then ("stem" : Str) else "leaf")->Q (.ref t) (upd (upd (upd H lk (.lst (ls++[.int i]))) l' (.lst us)) t (.tup [.str w,.ref l'])):=fun w l' t hl' ht ew=>by
  have g1:=ZY hl' (.lst us);have g2:=ZY ht (.tup [.str w,.ref l']);have g:=g1.trans g2;have nl':H l'=none:=by
   cases z:H l' with
   | none=>rfl
   | some o=>
    have:l'≠lk:=fun y=>by rw [y,ZP] at hl';cases hl'
    rw [ZV this,z] at hl';cases hl'
  refine k _ l' t (fun b o n e=>g _ _ (ke b o n e)) (g _ _ hlk1) nl' (g2 _ _ ZP) ?_;rw [ZP,ew]
 refine ⟨_,rfl,x,.ref tl,tg,ab,ho,as,hh,xs,rfl,⟨⟨dt,hx1⟩,hab1⟩,htg1,_,rfl,?_⟩;by_cases hp:hh > 0
 ·rw [aM hp];refine Z2 ⟨_,rfl,x,ji,dt,_,.ref tl,rfl,hx1,L.cT,L.nth,rfl,tl,us,rfl,.inl (ZL.of htl1),fun l' hl'=>⟨Z0,fun t ht=>?_⟩⟩;exact fin _ l' t hl' ht (by rw [aP hp])
 ·rw [aK hp];refine Zm ⟨_,rfl,x,ji,dt,_,.ref tl,rfl,hx1,L.cT,L.nth,rfl,tl,us,rfl,.inl (ZL.of htl1),fun l' hl'=>⟨Z0,fun t ht=>?_⟩⟩;exact fin _ l' t hl' ht (by rw [aO hp])
structure XN(P:ao)(w:ay)(K:zZ)(mg:jc)(base:aF)(nm:Str)(C:aj)(fl:Str):Prop where
 ex:∃ fI fd,Wu K C fI fl/\ZJ P w K mg base ZW 1 fI fd ["self",fl] (On K C fI fl)/\Zt K fd ["self",fl] []
 at_:mg nm=some (.ref C)
 ty:yE K (.ref C)=some (.type "type")
theorem Gr{X:Cx}{E:XK}{nm fl:Str}{C:aj}{e:Expr}{es:List Expr}{t:TA}{p jk pos:Pos}(F:V8 X E)(N:XN X.prog X.w X.K X.mg X.base nm C fl)(hr:ZX 2 X.A)(ha:PA X (e :: es) t)(hg:Gl X nm)(jy:(nm==("__debug__" : Str))=false:=by decide)(he:ax (e :: es) X.env=(false,aI e X.env) :: ax es X.env:=by rfl)(jv:(aH jk (ax es X.env)).any (·.1)=false:=by rfl):PS X (.Raise (some (.Call (.Name nm p) (e :: es) [] jk)) none pos) (Jg C fl E t):=by
 obtain ⟨fI,fd,c,G,b⟩:=N.ex;exact A3 F c N.ty G hr hg N.at_ b ha jy he jv
def QG(C:aj)(x:Int)(E:XK)(H:Hp):Prop:=∀ dx H',ZA H H'->H' dx=some (.xd [("number",.int x)])->E (.ref C) (some dx) H'
theorem QG.go{C:aj}{x:Int}{E:XK}{H H1:Hp}(r:QG C x E H)(s:ZA H H1){dx:aj}(h:H1 dx=none):E (.ref C) (some dx) (upd H1 dx (.xd [("number",.int x)])):=r dx _ (s.trans (ZY h _)) ZP
inductive Xa(jh CT:aj)(vs:jf)(H:Hp)(Q:VK)(E:XK):Prop
 | mk (S d lk:aj) (n:Nat) (kvs:List (Zd×V)) (ls:jf) (x:Int) (_:vs=[.ref S,.int x]) (_:Y7 jh H S d lk n kvs ls) (_:∀ tw,YR kvs (.inl x)=some tw->Q tw H) (_:YR kvs (.inl x)=none->QG CT x E H)
theorem BC{CT:aj}(F:Zj K "twig_of" "Shelf.twig_of" Ny f fd)(L:XA K mg jh ji)(N:XN P w K mg base "NoTwig" CT "number"):ZJ P w K mg base (XD P w) 3 f fd ["self","number"] (Xa jh CT):=by
 refine F.kD GE fun cdv A outer s H vs Q E hr h=>?_;obtain ⟨S,d,lk,n,kvs,ls,x,rfl,⟨⟨dx,hS⟩,hd,hl⟩,k1,k2⟩:=h;have hu:=P5 hr;refine ⟨_,ZR (Z5 (V0 (LP hu (pv 1) (VU (pv 0) rfl))) (ZU (Gr Wt N hr (ZG (pv 1) ZF) rfl)) Z7) (ZU (Zg (OW hu (VU (pv 0) rfl) (pv 1) (fun _ _=>rfl)))),?_⟩
 cases hv:YR kvs (.inl x) with
 | none=>
  have hg:Yg H d (.int x) none:=hv ▸ Yg.k (k:=Sum.inl x) hd;refine ⟨_,rfl,_,rfl,S,jh,dx,_,.ref d,rfl,hS,L.cS,L.nk,rfl,d,none,rfl,hg,_,rfl,Z2 ?_⟩;exact ⟨_,rfl,_,rfl,fun dd hdd=>(k2 hv).go (ZA.refl H) hdd⟩
 | some tw=>
  have hg:Yg H d (.int x) (some tw):=hv ▸ Yg.k (k:=Sum.inl x) hd;refine ⟨_,rfl,_,rfl,S,jh,dx,_,.ref d,rfl,hS,L.cS,L.nk,rfl,d,some tw,rfl,hg,_,rfl,Zm ?_⟩;exact ⟨_,rfl,S,jh,dx,_,.ref d,rfl,hS,L.cS,L.nk,rfl,_,rfl,d,tw,rfl,hg,k1 tw hv⟩
inductive XX(jh ji CT:aj)(vs:jf)(H:Hp)(Q:VK)(E:XK):Prop
 | mk (S d lk:aj) (n:Nat) (kvs:List (Zd×V)) (ls:jf) (x:Int) (_:vs=[.ref S,.int x]) (_:Y7 jh H S d lk n kvs ls) (_:∀ tw,YR kvs (.inl x)=some tw->∃(a:aj)(th tg:V)(ab:aj)(ho:Nat)(us:jf),tw=.ref a/\WK ji H a th tg ab ho us/\Q tg H) (_:YR kvs (.inl x)=none->QG CT x E H)
theorem AM{CT:aj}(F:Zj K "label" "Shelf.label" NY f fd)(L:XA K mg jh ji)(DT:ZK P w K mg base (XD P w) 3 jh "twig_of" ["self","number"] (Xa jh CT)):ZJ P w K mg base (XD P w) 4 f fd ["self","number"] (XX jh ji CT):=by
 refine F.kD GX fun cdv A outer s H vs Q E hr h=>?_;obtain ⟨S,d,lk,n,kvs,ls,x,rfl,R,k1,k2⟩:=h;refine ⟨_,ZU (Zg (VU (XT (E:=E) (pv 0) L.cS DT hr (NL Wt fun _ _ _ h=>h) (ZG (pv 1) ZF)) rfl)),?_⟩;obtain ⟨dx,hS⟩:=R.self;refine ⟨_,rfl,S,dx,_,rfl,hS,rfl,_,rfl,S,d,lk,n,kvs,ls,x,rfl,R,fun tw hv=>?_,k2⟩;obtain ⟨a,th,tg,ab,ho,us,rfl,W,q⟩:=k1 tw hv;obtain ⟨dt,hx⟩:=W.self;exact ⟨a,ji,dt,_,tg,rfl,hx,L.cT,L.ntg,rfl,q⟩
structure YC where
 x:aj
 th:aj
 tg:aj
 ab:aj
def YC.d:YC:=⟨0,0,0,0⟩
structure Ql(ji:aj)(H:Hp)(ts:List ZS)(av:Nat->List Nat)(ho:Nat->Nat)(i:Nat)(a:YC):Prop where
 tw:WK ji H a.x (.ref a.th) (.ref a.tg) a.ab (ho i) (iN (av i))
 things:∃ us,H a.th=some (.lst us)/\((gd ts i).h=0->KeysAt H (Zv (gd ts i).rows) us)/\((gd ts i).h≠0->us=iN (gd ts i).bs)
 tag:Y1 H (YS (gd ts i)) (.ref a.tg)
theorem Ql.same{ji:aj}{H H':Hp}{ts:List ZS}{av:Nat->List Nat}{ho:Nat->Nat}{i:Nat}{a:YC}(h:Ql ji H ts av ho i a)(s:ZA H H'):Ql ji H' ts av ho i a:=by
 obtain ⟨us,e1,e2,e3⟩:=h.things;exact ⟨h.tw.same s,⟨us,s _ _ e1,fun z=>(e2 z).mono (ZA.tups s) _ _,e3⟩,h.tag.mono (ZA.tups s)⟩
structure Yf(jh ji:aj)(H:Hp)(S d lk:aj)(ts:List ZS)(av:Nat->List Nat)(ho:Nat->Nat)(as:List YC)(kvs:List (Zd×V))(ls:jf):Prop where
 sh:Y7 jh H S d lk ts.length kvs ls
 keys:kvs.map (·.1)=(yU ts.length).map (fun i:Nat=>(Sum.inl (i:Int):Zd))
 val:∀ i:Nat,i<ts.length->YR kvs (Sum.inl (i:Int))=some (.ref (as.getD i .d).x)
 len:as.length=ts.length
 tw:∀ i:Nat,i<ts.length->Ql ji H ts av ho i (as.getD i .d)
 own:∀ i:Nat,i<ts.length->(as.getD i .d).x≠S/\(as.getD i .d).ab≠lk/\(as.getD i .d).th≠lk/\(as.getD i .d).ab≠(as.getD i .d).th
 two:∀ i j:Nat,i<ts.length->j<ts.length->i≠j->(as.getD i .d).x≠(as.getD j .d).x/\(as.getD i .d).ab≠(as.getD j .d).ab/\(as.getD i .d).ab≠(as.getD j .d).th/\(as.getD i .d).th≠(as.getD j .d).th
theorem Yf.same{jh ji:aj}{H H':Hp}{S d lk:aj}{ts:List ZS}{av:Nat->List Nat}{ho:Nat->Nat}{as:List YC}{kvs:List (Zd×V)}{ls:jf}(h:Yf jh ji H S d lk ts av ho as kvs ls)(s:ZA H H'):Yf jh ji H' S d lk ts av ho as kvs ls:=
 ⟨h.sh.same s,h.keys,h.val,h.len,fun i hi=>(h.tw i hi).same s,h.own,h.two⟩
theorem Ql.frame{ji:aj}{H H':Hp}{ts:List ZS}{av:Nat->List Nat}{ho:Nat->Nat}{i:Nat}{a:YC}(h:Ql ji H ts av ho i a)(m:Z1 H H')(kx:∀ o,H a.x=some o->H' a.x=some o)(kt:∀ o,H a.th=some o->H' a.th=some o)(ka:∀ o,H a.ab=some o->H' a.ab=some o):Ql ji H' ts av ho i a:=by
 obtain ⟨us,e1,e2,e3⟩:=h.things;obtain ⟨dx,e4⟩:=h.tw.self;exact ⟨⟨⟨dx,kx _ e4⟩,ka _ h.tw.above⟩,⟨us,kt _ e1,fun z=>(e2 z).mono m _ _,e3⟩,h.tag.mono m⟩
theorem Yf.none{jh ji:aj}{H:Hp}{S d lk:aj}{ts:List ZS}{av:Nat->List Nat}{ho:Nat->Nat}{as:List YC}{kvs:List (Zd×V)}{ls:jf}(h:Yf jh ji H S d lk ts av ho as kvs ls){x:Int}(hx:inT ts x=false):YR kvs (Sum.inl x)=vP:=by
 cases z:YR kvs (Sum.inl x) with
 | none=>rfl
 | some v=>
  have:=Jv z;rw [h.keys] at this;obtain ⟨i,hi,ei⟩:=zJ.mp this;have e1:=Sum.inl.inj ei;have e2:=yA.mp hi;unfold inT at hx;have:=of_decide_eq_false hx
  lia
theorem OM{ts:List ZS}{x:Int}(h:inT ts x=true):∃ i:Nat,x=(i:Int)/\i<ts.length:=by
 unfold inT at h;have:=of_decide_eq_true h;exact ⟨x.toNat,by lia,by lia⟩
def OU(av:Nat->List Nat)(b st:Nat):Nat->List Nat:=fun i=>if i=b then av i++[st] else av i
def Oe(ho:Nat->Nat)(b:Nat):Nat->Nat:=fun i=>if i=b then ho i - 1 else ho i
theorem Yf.touch{jh ji:aj}{H H':Hp}{S d lk:aj}{ts:List ZS}{av:Nat->List Nat}{ho:Nat->Nat}{as:List YC}{kvs:List (Zd×V)}{ls:jf}(R:Yf jh ji H S d lk ts av ho as kvs ls){b st:Nat}(hb:b<ts.length)(hx:∃ dx,H' (as.getD b .d).x=some (.ins ji dx (UX (.ref (as.getD b .d).th) (.ref (as.getD b .d).tg) (as.getD b .d).ab (ho b - 1))))(ha:H' (as.getD b .d).ab=some (.lst (iN (av b++[st]))))(k:∀ c o,c≠(as.getD b .d).x->c≠(as.getD b .d).ab->H c=some o->H' c=some o):Yf jh ji H' S d lk ts (OU av b st) (Oe ho b) as kvs ls:=by
 obtain ⟨⟨dS,hS⟩,hd,hl⟩:=R.sh;have Wb:=R.tw b hb;obtain ⟨dx0,hx0⟩:=Wb.tw.self;have hab:=Wb.tw.above;obtain ⟨us,e1,e2,e3⟩:=Wb.things;have m:Z1 H H':=fun c xs e=>k c _ (ZQ e hx0) (ZQ e hab) e;refine ⟨⟨⟨dS,k _ _ (R.own b hb).1.symm (ZQ hS hab) hS⟩,k _ _ (ZQ hd hx0) (ZQ hd hab) hd,k _ _ (ZQ hl hx0) (R.own b hb).2.1.symm hl⟩,R.keys,R.val,R.len,fun i hi=>?_,R.own,R.two⟩;by_cases z:i=b
 ·subst z;have ea:OU av i st i=av i++[st]:=aP rfl;have eh:Oe ho i i=ho i - 1:=aP rfl;refine ⟨⟨?_,?_⟩,⟨us,k _ _ (ZQ e1 hx0) (R.own i hi).2.2.2.symm e1,fun z=>(e2 z).mono m _ _,e3⟩,Wb.tag.mono m⟩
  ·rw [eh];exact hx
  ·rw [ea];exact ha
 ·have ea:OU av b st i=av i:=aO z;have eh:Oe ho b i=ho i:=aO z;have Wi:=R.tw i hi;obtain ⟨t1,t2,t3,t4⟩:=R.two i b hi hb z;obtain ⟨s1,s2,s3,s4⟩:=R.two b i hb hi (Ne.symm z);obtain ⟨dx1,hx1⟩:=Wi.tw.self;obtain ⟨vs,f1,_⟩:=Wi.things;have G:=Wi.frame m (fun o e=>k _ _ t1 (by have:=hx1.symm.trans e;exact ZQ hx1 hab) e) (fun o e=>k _ _ (ZQ f1 hx0) s3.symm e) (fun o e=>k _ _ (ZQ Wi.tw.above hx0) t2 e)
  refine ⟨?_,G.things,G.tag⟩;rw [ea,eh];exact G.tw
def U8(bs:List Nat)(st:Nat)(av:Nat->List Nat):Nat->List Nat:=fun i=>if i∈bs then av i++[st] else av i
def Up(bs:List Nat)(ho:Nat->Nat):Nat->Nat:=fun i=>if i∈bs then ho i - 1 else ho i
theorem E4{bs:List Nat}{b st:Nat}{av:Nat->List Nat}(h:b∉bs):OU (U8 bs st av) b st=U8 (bs++[b]) st av:=by
 funext i
 unfold OU U8;by_cases z:i=b
 ·subst z;rw [aP rfl,aO h,aP (by simp)]
 ·rw [aO z];by_cases y:i∈bs
  ·rw [aP y,aP (by simp [y])]
  ·rw [aO y,aO (by simp [y,z])]
theorem ZLB{bs:List Nat}{b:Nat}{ho:Nat->Nat}(h:b∉bs):Oe (Up bs ho) b=Up (bs++[b]) ho:=by
 funext i
 unfold Oe Up;by_cases z:i=b
 ·subst z;rw [aP rfl,aO h,aP (by simp)]
 ·rw [aO z];by_cases y:i∈bs
  ·rw [aP y,aP (by simp [y])]
  ·rw [aO y,aO (by simp [y,z])]
abbrev MU:Stmt:=VH (Zq 53) 21
inductive XG(jh ji:aj)(vs:jf)(H:Hp)(Q:VK)(_:XK):Prop
 | mk (S d lk l:aj) (ts:List ZS) (av:Nat->List Nat) (ho:Nat->Nat) (as:List YC) (kvs:List (Zd×V)) (ls:jf) (bs:List Nat) (st:Nat) (_:vs=[.ref S,.int st,.ref l]) (_:Yf jh ji H S d lk ts av ho as kvs ls) (_:H l=some (.lst (iN bs))) (_:bs.Nodup) (_:∀ b∈bs,b<ts.length/\1<=ho b/\(av b).length<=900) (_:∀ b:Nat,b<ts.length->l≠(as.getD b .d).ab) (_:∀ H':Hp,(∀ c o,(∀ b:Nat,b<ts.length->c≠(as.getD b .d).x/\c≠(as.getD b .d).ab)->H c=some o->H' c=some o)->(∀ c,H' c=none->H c=none)->Yf jh ji H' S d lk ts (U8 bs st av) (Up bs ho) as kvs ls->Q .non H')
abbrev Co:List Str:=["self","stem","branches","branch","twig"]
theorem X3:ZC Co ["self","stem","branches"] (Ze MU):=Zp
theorem AU(F:Zj K "take_over" "Shelf.take_over" MU f fd)(L:XA K mg jh ji)(DT:ZK P w K mg base ZW 1 jh "twig_of" ["self","number"] (YB jh)):ZJ P w K mg base ZW 2 f fd ["self","stem","branches"] (XG jh ji):=by
 refine F.ko X3 fun cdv A outer s H vs Q E hr h=>?_;obtain ⟨S,d,lk,l,ts,av,ho,as,kvs,ls,bs,st,rfl,R,hl,jS,hb,hla,k⟩:=h;have nd:=X3.nd;refine ⟨_,ZU (Vf PassesOwn.never rfl (VE (pv 2)) (Xo 3 nd)
  (ZR (Zk 4 nd (XT (E:=E0) (pv 0) L.cS DT hr XJ (ZG (pv 3) ZF)))
  (ZR (GW (pv 4) ZM Ga)
  (ZU (X8 (U0 yC wZ wY QD (VU (pv 4) rfl) (ZG (pv 1) ZF))))))),?_⟩
 refine ⟨_,rfl,l,rfl,⟨_,ZL.of hl⟩,Pb (K:=K) (a:=l) (xs:=iN bs) (fun i σ H2=>∃ x y:jg,σ=[some (.ref S),some (.int st),some (.ref l),x,y]/\(∀ c o,(∀ b:Nat,b<ts.length->c≠(as.getD b .d).x/\c≠(as.getD b .d).ab)->H c=some o->H2 c=some o)/\(∀ c,H2 c=none->H c=none)/\Yf jh ji H2 S d lk ts (U8 (bs.take i) st av) (Up (bs.take i) ho) as kvs ls)
  ⟨_,_,rfl,fun c o _ e=>e,fun c e=>e,(by
   have e1:U8 [] st av=av:=funext fun i=>aO (by simp)
   have e2:Up [] ho=ho:=funext fun i=>aO (by simp)
   rw [show bs.take 0=[] from rfl,e1,e2];exact R)⟩ ?_ ?_ ?_⟩
 ·rintro i σ H2 _ ⟨x,y,rfl,k2,_,R2⟩;refine ZL.of (k2 _ _ (fun b hb=>⟨?_,hla b hb⟩) hl);obtain ⟨dx,hx⟩:=(R.tw b hb).tw.self;exact ZQ hl hx
 ·rintro i u σ H2 hu2 ⟨x,y,rfl,k2,k3,R2⟩;unfold iN at hu2;rw [zL] at hu2;obtain ⟨b,eb,rfl⟩:=xN.mp hu2;obtain ⟨hbl,hb1,hb9⟩:=hb b (zN eb);have hnb:b∉bs.take i:=fun z=>by
   have hs:bs=bs.take i++b :: bs.drop (i+1):=by
    have hi:=(yV.mp eb);obtain ⟨hi,e⟩:=hi;rw [<-e,<-uX hi,wE]
   rw [hs,uS] at jS;exact jS.2.2 b z b (by simp) rfl
  have eho:Up (bs.take i) ho b=ho b:=aO hnb;have eav:U8 (bs.take i) st av b=av b:=aO hnb;obtain ⟨dS,hS⟩:=R2.sh.self;have Wb:=R2.tw b hbl;obtain ⟨dt,hx⟩:=Wb.tw.self;have hab:=Wb.tw.above;rw [eho] at hx;rw [eav] at hab;refine ⟨_,rfl,S,dS,_,rfl,hS,rfl,_,rfl,S,d,lk,ts.length,kvs,ls,(b:Int),.ref (as.getD b .d).x,rfl,R2.sh,R2.val b hbl,?_⟩;refine ⟨_,rfl,(as.getD b .d).x,ji,dt,_,.int (ho b:Nat),rfl,hx,L.cT,L.nho,rfl,_,_,rfl,rfl,dt,_,hx,xO rfl,?_⟩;have eh:((ho b:Nat):Int) - 1=((ho b - 1:Nat):Int):=by lia
  have hx3:upd H2 (as.getD b .d).x (.ins ji dt (XH "holds" (.int (((ho b:Nat):Int) - 1)) (UX (.ref (as.getD b .d).th) (.ref (as.getD b .d).tg) (as.getD b .d).ab (ho b)))) (as.getD b .d).x=some (.ins ji dt (UX (.ref (as.getD b .d).th) (.ref (as.getD b .d).tg) (as.getD b .d).ab (ho b - 1))):=by rw [ZP,eh];rfl
  have xab:(as.getD b .d).ab≠(as.getD b .d).x:=ZQ hab hx;have hab3:upd H2 (as.getD b .d).x (.ins ji dt (XH "holds" (.int (((ho b:Nat):Int) - 1)) (UX (.ref (as.getD b .d).th) (.ref (as.getD b .d).tg) (as.getD b .d).ab (ho b)))) (as.getD b .d).ab=some (.lst (iN (av b))):=by rw [ZV xab];exact hab
  have ke3:∀ c o,c≠(as.getD b .d).x->H2 c=some o->upd H2 (as.getD b .d).x (.ins ji dt (XH "holds" (.int (((ho b:Nat):Int) - 1)) (UX (.ref (as.getD b .d).th) (.ref (as.getD b .d).tg) (as.getD b .d).ab (ho b)))) c=some o:=fun c o n e=>by rw [ZV n];exact e
  have no3:∀ c,upd H2 (as.getD b .d).x (.ins ji dt (XH "holds" (.int (((ho b:Nat):Int) - 1)) (UX (.ref (as.getD b .d).th) (.ref (as.getD b .d).tg) (as.getD b .d).ab (ho b)))) c=none->H2 c=none:=fun c e=>by
   by_cases z:c=(as.getD b .d).x
   ·rw [z,ZP] at e;cases e
   ·rw [ZV z] at e;exact e
  generalize upd H2 (as.getD b .d).x (.ins ji dt (XH "holds" (.int (((ho b:Nat):Int) - 1)) (UX (.ref (as.getD b .d).th) (.ref (as.getD b .d).tg) (as.getD b .d).ab (ho b))))=H3 at hx3 hab3 ke3 no3 ⊢;refine ⟨_,rfl,(as.getD b .d).x,ji,dt,_,.ref (as.getD b .d).ab,rfl,hx3,L.cT,L.nab,rfl,.inl ⟨rfl,_,ZL.of hab3⟩,_,rfl,(as.getD b .d).ab,_,.int st,rfl,rfl,hab3,XM (by rw [show (iN (av b)).length=(av b).length from zX _];lia),?_⟩
  have et:bs.take (i+1)=bs.take i++[b]:=by rw [yL,eb];rfl
  refine ⟨_,_,rfl,fun c o hc e=>?_,fun c e=>?_,?_⟩
  ·obtain ⟨n1,n2⟩:=hc b hbl;rw [ZV n2];exact ke3 _ _ n1 (k2 c o hc e)
  ·by_cases z:c=(as.getD b .d).ab
   ·rw [z,ZP] at e;cases e
   ·rw [ZV z] at e;exact k3 c (no3 c e)
  ·rw [et,<-E4 hnb,<-ZLB hnb];refine R2.touch hbl ⟨dt,?_⟩ ?_ fun c o n1 n2 e=>?_
   ·rw [ZV (Ne.symm xab),eho];exact hx3
   ·rw [ZP,eav];simp [iN]
   ·rw [ZV n2];exact ke3 _ _ n1 e
 ·rintro σ H2 ⟨x,y,rfl,k2,k3,R2⟩;rw [show (iN bs).length=bs.length from zX _,yR (zY _)] at R2;exact k H2 k2 k3 R2
theorem DZ{X:Cx}{k:Nat}{C:aj}{x:Str}{ps:List Str}{sp:Sp}{e:Expr}{es:List Expr}{t:TA}{p pos:Pos}(D:UP X.prog X.w X.K X.mg X.base k C ps sp)(hr:ZX (k+1) X.A)(hg:Gl X x)(hm:X.mg x=some (.ref C))(ha:PA X (e :: es) t)(jy:(x==("__debug__" : Str))=false:=by decide)(he:ax (e :: es) X.env=(false,aI e X.env) :: ax es X.env:=by rfl)(jv:(aH pos (ax es X.env)).any (·.1)=false:=by rfl):
  PE X (.Call (.Name x p) (e :: es) [] pos) (Oy C sp [] E0 t):=by
 obtain ⟨f,fd,M,F,b⟩:=D.ex;exact Ej M F hr hg hm b .nil XJ ha jy he jv
theorem ZOQ{X:Cx}{k:Nat}{C:aj}{x:Str}{ps:List Str}{sp:Sp}{p pos:Pos}(D:UP X.prog X.w X.K X.mg X.base k C ps sp)(hr:ZX (k+1) X.A)(hg:Gl X x)(hm:X.mg x=some (.ref C))(jy:(x==("__debug__" : Str))=false:=by decide):PE X (.Call (.Name x p) [] [] pos) (Oy C sp [] E0 V4):=by
 obtain ⟨f,fd,M,F,b⟩:=D.ex;exact Bl M F hr hg hm b .nil XJ jy
def U1(n:Nat)(av:Nat->List Nat):Nat->List Nat:=fun i=>if i=n then [] else av i
def Ur(n:Nat)(ho:Nat->Nat):Nat->Nat:=fun i=>if i=n then 1 else ho i
theorem Oj{ts:List ZS}{t:ZS}{i:Nat}(h:i<ts.length):gd (ts++[t]) i=gd ts i:=by
 unfold gd;rw [zV,wX h,<-zV]
theorem MF{ts:List ZS}{t:ZS}:gd (ts++[t]) ts.length=t:=by
 unfold gd;rw [zV,xW (zY _)];simp
theorem Lx{as:List YC}{a:YC}{i:Nat}(h:i<as.length):(as++[a]).getD i .d=as.getD i .d:=by
 rw [zV,wX h,<-zV]
theorem MP{as:List YC}{a:YC}:(as++[a]).getD as.length .d=a:=by
 rw [zV,xW (zY _)];simp
theorem Gw{jh ji:aj}{H H':Hp}{S d lk:aj}{ts:List ZS}{av:Nat->List Nat}{ho:Nat->Nat}{as:List YC}{kvs:List (Zd×V)}{ls:jf}(R:Yf jh ji H S d lk ts av ho as kvs ls){t:ZS}{x th tg ab:aj}(fr:∀ b o,b≠S->b≠d->H b=some o->H' b=some o)(nx:H x=none)(nth:H th=none)(nab:H ab=none)(abth:ab≠th)(R':Y7 jh H' S d lk (ts.length+1) (XL kvs (.inl (ts.length:Int)) (.ref x)) ls)(W:WK ji H' x (.ref th) (.ref tg) ab 1 [])(hth:∃ us,H' th=some (.lst us)/\(t.h=0->KeysAt H' (Zv t.rows) us)/\(t.h≠0->us=iN t.bs))(htg:Y1 H' (YS t) (.ref tg)):
  Yf jh ji H' S d lk (ts++[t]) (U1 ts.length av) (Ur ts.length ho) (as++[⟨x,th,tg,ab⟩]) (XL kvs (.inl (ts.length:Int)) (.ref x)) ls:=by
 obtain ⟨⟨dS,hS⟩,hd,hl⟩:=R.sh;have m:Z1 H H':=fun c xs e=>fr c _ (ZQ e hS) (ZQ e hd) e;have en:(ts++[t]).length=ts.length+1:=by simp
 have nv:YR kvs (Sum.inl (ts.length:Int))=none:=R.none (by unfold inT;exact aK (by lia))
 have lt_or:∀ i,i<(ts++[t]).length->i<ts.length\/i=ts.length:=fun i hi=>by rw [en] at hi;lia
 have el:as.length=ts.length:=R.len;have aL:∀ i,i<ts.length->(as++[(⟨x,th,tg,ab⟩:YC)]).getD i .d=as.getD i .d:=fun i hi=>Lx (by lia)
 have aN:(as++[(⟨x,th,tg,ab⟩:YC)]).getD ts.length .d=⟨x,th,tg,ab⟩:=by rw [<-el];exact MP
 have old:∀ i,i<ts.length->∃ dx us o,H (as.getD i .d).x=some (.ins ji dx us)/\H (as.getD i .d).th=some (.lst o)/\H (as.getD i .d).ab=some (.lst (iN (av i))):=fun i hi=>by
  obtain ⟨dx,e1⟩:=(R.tw i hi).tw.self;obtain ⟨us,e2,_⟩:=(R.tw i hi).things;exact ⟨dx,_,us,e1,e2,(R.tw i hi).tw.above⟩
 have nS:x≠S:=(Za hS nx).symm;have ablk:ab≠lk:=(Za hl nab).symm;have thlk:th≠lk:=(Za hl nth).symm;refine ⟨by rw [en];exact R',?_,fun i hi=>?_,by simp [el],fun i hi=>?_,fun i hi=>?_,fun i j hi hj jz=>?_⟩
 ·rw [Ov _ nv,yZ,R.keys,en,List.range_succ,yZ];rfl
 ·rw [Nh];rcases lt_or i hi with c | rfl
  ·rw [aO (fun z=>by have:=Sum.inl.inj z;lia),aL i c]
   exact R.val i c
  ·rw [aP rfl,aN]
 ·rcases lt_or i hi with c | rfl
  ·have Wi:=R.tw i c;obtain ⟨dx,us,o,e1,e2,e3⟩:=old i c;have ni:i≠ts.length:=by lia
   have G:=Wi.frame m (fun o' e=>fr _ _ (R.own i c).1 (ZQ e1 hd) e) (fun o' e=>fr _ _ (ZQ e2 hS) (ZQ e2 hd) e) (fun o' e=>fr _ _ (ZQ e3 hS) (ZQ e3 hd) e);rw [aL i c];refine ⟨?_,?_,?_⟩
   ·rw [show U1 ts.length av i=av i from aO ni,show Ur ts.length ho i=ho i from aO ni];exact G.tw
   ·rw [Oj c];exact G.things
   ·rw [Oj c];exact G.tag
  ·rw [aN];refine ⟨?_,?_,?_⟩
   ·rw [show U1 ts.length av ts.length=[] from aP rfl,show Ur ts.length ho ts.length=1 from aP rfl];exact W
   ·rw [MF];exact hth
   ·rw [MF];exact htg
 ·rcases lt_or i hi with c | rfl
  ·rw [aL i c];exact R.own i c
  ·rw [aN];exact ⟨nS,ablk,thlk,abth⟩
 ·rcases lt_or i hi with c | rfl
  ·rw [aL i c];rcases lt_or j hj with c2 | rfl
   ·rw [aL j c2];exact R.two i j c c2 jz
   ·rw [aN];obtain ⟨dx,us,o,e1,e2,e3⟩:=old i c;exact ⟨Za e1 nx,Za e3 nab,Za e3 nth,Za e2 nth⟩
  ·rw [aN];rcases lt_or j hj with c2 | rfl
   ·rw [aL j c2];obtain ⟨dx,us,o,e1,e2,e3⟩:=old j c2;exact ⟨(Za e1 nx).symm,(Za e3 nab).symm,(Za e2 nab).symm,(Za e2 nth).symm⟩
   ·exact absurd rfl jz
inductive Y5(jh ji:aj)(vs:jf)(H:Hp)(Q:VK)(_:XK):Prop
 | mk (S d lk:aj) (n:Nat) (kvs:List (Zd×V)) (ls:jf) (th tg:V) (_:vs=[.ref S,th,tg]) (_:Y7 jh H S d lk n kvs ls) (_:kvs.length<=900) (_:∀(H':Hp)(x ab:aj),H x=none->H ab=none->(∀ b o,b≠S->b≠d->H b=some o->H' b=some o)->Y7 jh H' S d lk (n+1) (XL kvs (.inl (n:Int)) (.ref x)) ls->WK ji H' x th tg ab 1 []->Q (.int (n:Int)) H')
theorem Wc:ZC ["self","things","label","number"] ["self","things","label"] (Ze MD):=Zp
theorem DQ(F:Zj K "put_twig" "Shelf.put_twig" MD f fd)(L:XA K mg jh ji)(DM:UP P w K mg base 1 ji ["self","things","tag"] (Uf ji)):ZJ P w K mg base ZW 3 f fd ["self","things","label"] (Y5 jh ji):=by
 refine F.ko Wc fun cdv A outer s H vs Q E hr h=>?_;obtain ⟨S,d,lk,n,kvs,ls,th,tg,rfl,R,l100,k⟩:=h;have nd:=Wc.nd;have hu:=P5 hr;refine ⟨_,ZR (Zk 3 nd (VU (pv 0) rfl)) (ZR (Qy (pv 0) (Zw WP (pv 3) ZM) rfl)
  (ZR (Ib hu (VU (pv 0) rfl) (pv 3) (DZ DM hr rfl L.twig (ZG (pv 1) (ZG (pv 2) ZF))) rfl) (ZU (Zg (pv 3))))),?_⟩
 obtain ⟨⟨dx,hS⟩,hd,hl⟩:=R;have Sd:S≠d:=ZQ hS hd;have Sl:S≠lk:=ZQ hS hl;have dl:d≠lk:=ZQ hd hl;refine ⟨_,rfl,S,jh,dx,_,.int n,rfl,hS,L.cS,L.nf,rfl,?_⟩;refine ⟨_,rfl,_,_,rfl,rfl,_,rfl,S,jh,dx,_,rfl,hS,L.cS,L.nf,xO rfl,?_⟩;have hS1:upd H S (.ins jh dx (XH "following" (.int ((n:Int)+1)) (Qz d lk n))) S=some (.ins jh dx (Qz d lk (n+1))):=ZP;have hd1:upd H S (.ins jh dx (XH "following" (.int ((n:Int)+1)) (Qz d lk n))) d=some (.dK kvs):=by rw [ZV (Ne.symm Sd)];exact hd
 have hl1:upd H S (.ins jh dx (XH "following" (.int ((n:Int)+1)) (Qz d lk n))) lk=some (.lst ls):=by rw [ZV (Ne.symm Sl)];exact hl
 have ke1:∀ b o,b≠S->H b=some o->upd H S (.ins jh dx (XH "following" (.int ((n:Int)+1)) (Qz d lk n))) b=some o:=fun b o n e=>by rw [ZV n];exact e
 have no1:∀ b,upd H S (.ins jh dx (XH "following" (.int ((n:Int)+1)) (Qz d lk n))) b=none->H b=none:=fun b e=>by
  by_cases z:b=S
  ·rw [z,ZP] at e;cases e
  ·rw [ZV z] at e;exact e
 generalize upd H S (.ins jh dx (XH "following" (.int ((n:Int)+1)) (Qz d lk n)))=H1 at hS1 hd1 hl1 ke1 no1 ⊢;refine ⟨_,rfl,_,rfl,fun x dt nx ndt ne=>?_⟩;have g1:=ZY ndt (.own x);have nx2:upd H1 dt (.own x) x=none:=by rw [ZV (Ne.symm ne)];exact nx
 have g2:=ZY nx2 (.ins ji dt []);have g:=g1.trans g2;refine ⟨x,dt,th,tg,rfl,ZP,fun H2 ab ke2 nab W=>⟨rfl,?_⟩⟩;have fr:∀ b o,H1 b=some o->H2 b=some o:=fun b o e=>ke2 b o (Za e nx) (g b o e);have hS2:=fr _ _ hS1;have hd2:=fr _ _ hd1;have hl2:=fr _ _ hl1;have hab1:H1 ab=none:=g.free nab;obtain ⟨dx2,hx2⟩:=W.self;have xd:x≠d:=ZQ hx2 hd2;have abd:ab≠d:=ZQ W.above hd2;refine ⟨_,rfl,S,jh,dx,_,.ref d,rfl,hS2,L.cS,L.nk,rfl,_,rfl,d,_,rfl,UN.k (k:=Sum.inl (n:Int)) hd2 (XM (by lia)),?_⟩
 refine ⟨_,rfl,k _ x ab (no1 _ nx) (no1 _ hab1) (fun b o n1 n2 e=>?_) ⟨⟨dx,?_⟩,ZP,?_⟩ ⟨⟨dx2,?_⟩,?_⟩⟩
 ·rw [ZV n2];exact fr b o (ke1 b o n1 e)
 ·rw [ZV Sd];exact hS2
 ·rw [ZV (Ne.symm dl)];exact hl2
 ·rw [ZV xd];exact hx2
 ·rw [ZV abd];exact W.above
theorem ZIW{H:Hp}{rs:List Zz}{us:jf}(h:KeysAt H (Zv rs) us):Ia H (rs.map (·.1)) us:=by
 have hl:us.length=rs.length:=by have:=h.length;rw [<-this];exact zX _
 refine ⟨by rw [zX];exact hl,fun i u e=>?_⟩
 obtain ⟨a,vk,vv,er,e1,e2,k1,_⟩:=row_at h e;refine ⟨a,vk,vv,e1,e2,?_⟩;rw [zV,zL,er];exact k1
inductive U3(vs:jf)(H:Hp)(Q:VK)(_:XK):Prop
 | mk (v:V) (t:KT) (_:vs=[v]) (_:ZD H t v) (_:t.fits 3=true) (_:∀ H',ZA H H'->Q v H')
theorem Hd:ZC ["thing"] ["thing"] (Ze O8):=Zp
theorem CF(F:Zj K "checked" "checked" O8 f fd)(DI:ZB P w K mg base 6 "is_key" ["thing"] V2):ZJ P w K mg base ZW 7 f fd ["thing"] U3:=by
 refine F.ko Hd fun cdv A outer s H vs Q E hr h=>?_;obtain ⟨v,t,rfl,hv,hf,k⟩:=h;refine ⟨_,ZR (Z5 (VG (Y9 (Zh DI hr (ZG (pv 0) ZF)))) Qx Z7) (ZU (Zg (pv 0))),?_⟩;refine ⟨_,rfl,v,t,3,rfl,hv,hf,fun H1 s1=>⟨_,rfl,?_⟩⟩;rw [hf];exact Zm ⟨_,rfl,k H1 s1⟩
inductive Xd(vs:jf)(H:Hp)(Q:VK)(_:XK):Prop
 | mk (l:aj) (us:jf) (rs:List Zz) (_:vs=[.ref l]) (_:H l=some (.lst us)) (_:KeysAt H (Zv rs) us) (_:∀ r∈rs,r.fit) (_:us.length<=100) (_:∀(H':Hp)(l':aj)(us':jf),ZA H H'->H l'=none->H' l'=some (.lst us')->KeysAt H' (Zv rs) us'->Q (.ref l') H')
theorem ZIU:ZC ["rows"] ["rows"] (Ze MY):=Zp
theorem AX(F:Zj K "own_rows" "own_rows" MY f fd)(DC:ZB P w K mg base 7 "checked" ["thing"] U3):ZJ P w K mg base ZW 8 f fd ["rows"] Xd:=by
 refine F.ko ZIU fun cdv A outer s H vs Q E hr h=>?_;obtain ⟨l,us,rs,rfl,hl,hk,hf,h100,k⟩:=h;have lk:us.length=rs.length:=by have:=hk.length;rw [<-this];exact zX _
 refine ⟨_,ZU (Zg (VZ [] [] rfl (VE (pv 0)) (fun _ _ _ _ _=>Vc)
   (fun _ _ _ _ _=>Yq (ZG (Zh DC hr (ZG (Zn (r:=YI K) YO (pv 0) ZM (fun _ _=>rfl)) ZF)) (ZG (Zh DC hr (ZG (Zn (r:=YI K) YO (pv 0) ZM (fun _ _=>rfl)) ZF)) ZF))) trivial)),?_⟩
 refine ⟨_,rfl,l,rfl,⟨us,ZL.of hl⟩,?_⟩;refine VY (n:=us.length) (fun i z=>us[i]? = some z) (fun D i ys H3=>ZA H H3/\H D=none/\KeysAt H3 (Zv (rs.take i)) ys) (XM (by lia))
  (fun D i ys H3 hi hP=>⟨us,us[i],ZL.of (hP.1 _ _ hl),by simp [hi]⟩) (fun D i ys H3 z H4 hi hP hy=>⟨hy.1,hy.2 us (ZL.of (hP.1 _ _ hl))⟩) (fun D ys H3 hP=>⟨us,ZL.of (hP.1 _ _ hl),zY _⟩)
  (fun D hD=>⟨ZY hD _,hD,.nil⟩) (fun D i ys H3 z eD hl' hi hz hP R hR=>?_) (fun D ys H3 eD hP=>?_)
 ·obtain ⟨s3,nD,hys⟩:=hP;obtain ⟨a,vk,vv,er,rfl,e2,k1,k2⟩:=row_at hk hz;have e3:=s3 _ _ e2;have hfit:=hf _ (zN er);refine ⟨_,rfl,.inr (.inl ⟨a,_,_,vk,rfl,rfl,Zo.of e3,rfl,vk,_,rfl,k1.mono (ZA.tups s3) _ _,hfit.1,fun H4 s4=>?_⟩)⟩;refine ⟨_,rfl,.inr (.inl ⟨a,_,_,vv,rfl,rfl,Zo.of (s4 _ _ e3),rfl,vv,_,rfl,k2.mono (ZA.tups (s3.trans s4)) _ _,hfit.2,fun H5 s5=>?_⟩)⟩;refine ⟨Z0,fun q hq=>?_⟩;have g:=ZY hq (.tup [vk,vv]);have s36:=(s4.trans s5).trans g;have eD6:=s36 _ _ eD;have tD:Z1 (upd H5 q (.tup [vk,vv])) (upd (upd H5 q (.tup [vk,vv])) D (.lst (ys++[.ref q]))):=fun b xs e=>by rw [ZV (ZQ e eD6)];exact e
  refine hR _ _ eD6 ⟨UO (s3.trans s36) nD,nD,?_⟩;rw [yL,er,O5];refine ((hys.mono (ZA.tups s36) _ _).mono tD _ _).append (.cons (.tup (tD _ _ ZP) (.cons ?_ (.cons ?_ .nil))) .nil)
  ·exact (k1.mono (ZA.tups (s3.trans s36)) _ _).mono tD _ _
  ·exact (k2.mono (ZA.tups (s3.trans s36)) _ _).mono tD _ _
 ·obtain ⟨s3,nD,hys⟩:=hP;rw [yR (by lia)] at hys
  exact k H3 D ys s3 nD eD hys
inductive VF(vs:jf)(H:Hp)(Q:VK)(_:XK):Prop
 | mk (l:aj) (us:jf) (ks:List KT) (_:vs=[.ref l]) (_:H l=some (.lst us)) (_:KeysAt H ks us) (_:∀ t∈ks,t.fits 3=true) (_:us.length<=100) (_:ks.Pairwise (fun a b=>a.lt b=true)) (_:∀ H',ZA H H'->Q (.bl true) H')
theorem El:ZC ["keys"] ["keys"] (Ze Ms):=Zp
theorem La{α:Type}{R:α->α->Prop}:∀{l:List α},l.Pairwise R->∀{i j:Nat}{a b:α},i<j->l[i]? = some a->l[j]? = some b->R a b
 | [],_,_,_,_,_,_,h,_=>by simp at h
 | x :: l,hp,0,j+1,a,b,_,ha,hb=>by
  simp at ha hb;subst ha;exact (xL.mp hp).1 b (zN hb)
 | x :: l,hp,i+1,j+1,a,b,jz,ha,hb=>by
  simp at ha hb;exact La (xL.mp hp).2 (by lia) ha hb
theorem ZMp(F:Zj K "rise" "rise" Ms f fd)(T:YF mg)(DA:ZB P w K mg base 7 "ahead" ["one","other"] Yo):ZJ P w K mg base ZW 8 f fd ["keys"] VF:=by
 refine F.ko El fun cdv A outer s H vs Q E hr h=>?_;obtain ⟨l,us,ks,rfl,hl,hk,hf,h100,hup,k⟩:=h;have lk:=hk.length;refine ⟨_,ZU (Zg (Z4 (O4 rfl) rfl T.all Nr (ZG (VZ [0] ["keys"] rfl (MR rfl T.range (ZG ZM (ZG (Z4 Xu rfl T.len Xl (ZG (pv 0) ZF)) ZF))) (fun _ _ _ _ _=>Vc)
  (fun _ _ _ _ _=>Zh DA hr (ZG (Zn (r:=YI K) YO (pv 1) (Zw Vp (pv 0) ZM) (fun _ _=>rfl)) (ZG (Zn (r:=YI K) YO (pv 1) (pv 0) (fun _ _=>rfl)) ZF))) ⟨rfl,.inl rfl,rfl,trivial⟩) ZF))),?_⟩
 refine ⟨_,rfl,l,us,rfl,.inl (ZL.of hl),1,(us.length:Int),rfl,⟨by lia,by lia,by lia,by lia⟩,?_⟩
 refine VY (n:=((us.length:Int) - 1).toNat) (fun i x=>x=.int (1+(i:Int))) (fun D i ys H3=>ZA H H3/\H D=none/\ys=(wR i true).map V.bl) (XM (by lia))
  (fun D i ys H3 hi _=>hi) (fun D i ys H3 x H4 hi _ hy=>hy) (fun D ys H3 _=>zY _) (fun D hD=>⟨ZY hD _,hD,rfl⟩) (fun D i ys H3 x eD hl' hi hx hP R hR=>?_) (fun D ys H3 eD hP=>?_)
 ·subst hx;obtain ⟨s3,nD,rfl⟩:=hP;have hi1:i+1<us.length:=by lia
  have ua:us[i]? = some (us[i]'(by lia)):=zT (by lia)
  have ub:us[i+1]? = some us[i+1]:=zT hi1;have e1:(1:Int)+(i:Int)=((i+1:Nat):Int):=by lia
  have e0:(1:Int)+(i:Int) - 1=((i:Nat):Int):=by lia
  obtain ⟨a,ea,ka⟩:=hk.get ua;obtain ⟨b,eb,kb⟩:=hk.get ub;have hl3:=s3 _ _ hl;refine ⟨_,rfl,_,rfl,_,_,rfl,rfl,.inl ⟨l,us,_,_,rfl,rfl,ZL.of hl3,(by rw [e0];exact Xb ua),?_⟩⟩
  refine ⟨_,rfl,_,rfl,.inl ⟨l,us,_,_,rfl,rfl,ZL.of hl3,(by rw [e1];exact Xb ub),?_⟩⟩
  refine ⟨_,_,a,b,rfl,ka.mono (ZA.tups s3) _ _,kb.mono (ZA.tups s3) _ _,hf a (zN ea),hf b (zN eb),fun H4 s4=>?_⟩;rw [La hup (uV i) ea eb];refine hR _ H4 (s4 D _ eD) ⟨UO (s3.trans s4) nD,nD,?_⟩;rw [List.replicate_succ',yZ];rfl
 ·obtain ⟨s3,nD,rfl⟩:=hP;refine ⟨D,_,rfl,ZL.of eD,?_⟩;have e:(wR ((us.length:Int) - 1).toNat true).all id=true:=by simp
  rw [e];exact k H3 s3
def Qj(rs:List Zz):Prop:=(∀ r∈rs,r.fit)/\0<rs.length/\rs.length<=4/\(rs.map (·.1)).Pairwise (fun a b=>a.lt b=true)
inductive WJ(vs:jf)(H:Hp)(Q:VK)(_:XK):Prop
 | mk (l:aj) (us:jf) (rs:List Zz) (_:vs=[.ref l]) (_:H l=some (.lst us)) (_:KeysAt H (Zv rs) us) (_:Qj rs) (_:∀(H':Hp)(l':aj)(us':jf),ZA H H'->H l'=none->H' l'=some (.lst us')->KeysAt H' (Zv rs) us'->Q (.ref l') H')
theorem VN:ZC ["rows","own"] ["rows"] (Ze Mz):=Zp
theorem ZJW(F:Zj K "checked_rows" "checked_rows" Mz f fd)(T:YF mg)(DC:ZB P w K mg base 8 "own_rows" ["rows"] Xd)(DR:ZB P w K mg base 8 "rise" ["keys"] VF):ZJ P w K mg base ZW 9 f fd ["rows"] WJ:=by
 refine F.ko VN fun cdv A outer s H vs Q E hr h=>?_;obtain ⟨l,us,rs,rfl,hl,hk,⟨hf,h0,h4,hup⟩,k⟩:=h;have nd:=VN.nd;have lk:us.length=rs.length:=by have:=hk.length;rw [<-this];exact zX _
 obtain ⟨t4,m4⟩:=T.rows;refine ⟨_,ZR (Zk 1 nd (Zh DC hr (ZG (pv 0) ZF)))
  (ZR (Z5 (PW.pt (PY (VG (MI Pg Pg ZM (Z4 Xu rfl T.len Xl (ZG (pv 1) ZF)) (WN (v:=.int 4) rfl m4 ⟨_,rfl⟩)))
   (Pf (VG (Y9 (Zh DR hr (ZG (VZ [] [] rfl (VE (pv 1)) (fun _ _ _ _ _=>Vc) (fun _ _ _ _ _=>Zn (r:=YI K) YO (pv 0) ZM (fun _ _=>rfl)) trivial) ZF))))))) Qx Z7)
  (ZU (Zg (pv 1)))),?_⟩
 refine ⟨_,rfl,l,us,rs,rfl,hl,hk,hf,by lia,fun H3 D ys s3 nD eD hrw=>?_⟩
 have ly:ys.length=rs.length:=by have:=hrw.length;rw [<-this];exact zX _
 refine ⟨_,rfl,D,ys,rfl,.inl (ZL.of eD),_,_,rfl,rfl,_,rfl,?_⟩;rw [aM (show (1:Int)<=(ys.length:Int) by lia)]
 refine Z2 ⟨_,_,rfl,rfl,_,rfl,?_⟩;rw [aM (show (ys.length:Int)<=4 by lia)]
 refine Zm ?_;refine ⟨_,rfl,D,rfl,⟨ys,ZL.of eD⟩,?_⟩;refine VY (n:=ys.length) (fun i z=>ys[i]? = some z) (fun D2 i zs H4=>ZA H3 H4/\H3 D2=none/\KeysAt H3 ((rs.map (·.1)).take i) zs) (XM (by lia))
  (fun D2 i zs H4 hi hP=>⟨ys,ys[i],ZL.of (hP.1 _ _ eD),by simp [hi]⟩) (fun D2 i zs H4 z H5 hi hP hy=>⟨hy.1,hy.2 ys (ZL.of (hP.1 _ _ eD))⟩) (fun D2 zs H4 hP=>⟨ys,ZL.of (hP.1 _ _ eD),zY _⟩)
  (fun D2 hD2=>⟨ZY hD2 _,hD2,.nil⟩) (fun D2 i zs H4 z eD2 hl2 hi hz hP R hR=>?_) (fun D2 zs H4 eD2 hP=>?_)
 ·obtain ⟨s4,nD2,hzs⟩:=hP;obtain ⟨a,vk,vv,er,rfl,e2,k1,_⟩:=row_at hrw hz;refine ⟨_,rfl,.inr (.inl ⟨a,_,_,vk,rfl,rfl,Zo.of (s4 _ _ e2),rfl,?_⟩)⟩;refine hR _ H4 eD2 ⟨UO s4 nD2,nD2,?_⟩;rw [yL,zL,er];exact hzs.append (.cons k1 .nil)
 ·obtain ⟨s4,nD2,hzs⟩:=hP;rw [yR (by rw [zX];lia)] at hzs
  have lz:=hzs.length;rw [zX] at lz;refine ⟨D2,zs,_,rfl,eD2,hzs.mono (ZA.tups s4) _ _,fun t ht=>?_,by lia,hup,fun H5 s5=>⟨_,rfl,Zm ⟨_,rfl,k H5 D ys ((s3.trans s4).trans s5) nD (s5 _ _ (s4 _ _ eD)) (hrw.mono (ZA.tups (s4.trans s5)) _ _)⟩⟩⟩
  obtain ⟨r,hr',rfl⟩:=zJ.mp ht;exact (hf r hr').1
def V5(rs:List Zz):ZS:=⟨0,rs,[]⟩
inductive Ya(jh ji:aj)(vs:jf)(H:Hp)(Q:VK)(_:XK):Prop
 | mk (S d lk l:aj) (ts:List ZS) (av:Nat->List Nat) (ho:Nat->Nat) (as:List YC) (kvs:List (Zd×V)) (ls us:jf) (rs:List Zz) (_:vs=[.ref S,.ref l]) (_:Yf jh ji H S d lk ts av ho as kvs ls) (_:ts.length<=900) (_:H l=some (.lst us)) (_:KeysAt H (Zv rs) us) (_:Qj rs) (_:∀(H':Hp)(a:YC),H a.x=none->H a.th=none->H a.ab=none->(∀ b o,b≠S->b≠d->H b=some o->H' b=some o)->Yf jh ji H' S d lk (ts++[V5 rs]) (U1 ts.length av) (Ur ts.length ho) (as++[a]) (XL kvs (.inl (ts.length:Int)) (.ref a.x)) ls->Q (.int (ts.length:Nat)) H')
theorem WW:ZC ["self","rows","own"] ["self","rows"] (Ze LV):=Zp
theorem Je{jh ji:aj}{H:Hp}{S d lk:aj}{ts:List ZS}{av:Nat->List Nat}{ho:Nat->Nat}{as:List YC}{kvs:List (Zd×V)}{ls:jf}(R:Yf jh ji H S d lk ts av ho as kvs ls):kvs.length=ts.length:=by
 have:=congrArg wL R.keys;simpa using this
def Zu(ts:List ZS)(bs:List Nat):List Zz:=bs.flatMap fun b=>(gd ts b).rows
def Xm(ts:List ZS)(bs:List Nat):ZS:=⟨(gd ts (bs.getD 0 0)).h+1,Zu ts bs,bs⟩
def Nb(ts:List ZS):List Nat->Prop
 | a :: b :: r=>(YS (gd ts a)).hi.lt (YS (gd ts b)).lo=true/\Nb ts (b :: r)
 | _=>True
theorem Ip{ts:List ZS}:∀{bs:List Nat},(∀ j,j+1<bs.length->((XB ts bs).getD j .d).hi.lt ((XB ts bs).getD (j+1) .d).lo=true)->Nb ts bs
 | [],_=>trivial
 | [_],_=>trivial
 | a :: b :: r,h=>⟨h 0 (by simp),Ip (bs:=b :: r) fun j hj=>h (j+1) (by simp at hj ⊢;lia)⟩
theorem Qs{t:ZS}(jt:t.rows≠[]):∃ r rs,t.rows=r :: rs/\(YS t).lo=r.1:=by
 cases e:t.rows with
 | nil=>exact absurd e jt
 | cons r rs=>exact ⟨r,rs,rfl,by unfold YS;rw [e];rfl⟩
theorem Mt{t:ZS}(jt:t.rows≠[]):∃ rs r,t.rows=rs++[r]/\(YS t).hi=r.1:=by
 rcases sL t.rows with e | ⟨rs,r,e⟩
 ·exact absurd e jt
 ·rw [sM] at e;refine ⟨rs,r,e,?_⟩;unfold YS;rw [e];simp [zV]
theorem CI{gt:List KT}{ts:List ZS}{i:Nat}{t:ZS}(h:WE gt ts i t){x:KT}(hx:x∈t.rows.map (·.1)){y:KT}(hy:(YS t).hi.lt y=true):x.lt y=true:=by
 obtain ⟨rs,r,e,eh⟩:=Mt h.ne;have up:=h.up;rw [e,yZ] at up hx;rw [eh] at hy;rcases yT.mp hx with hx | hx
 ·have:=(uA.mp up).2.2 x hx r.1 (by simp)
  exact lt_trans' _ _ _ this hy
 ·simp at hx;rw [hx];exact hy
theorem Fw{gt:List KT}{ts:List ZS}{bs:List Nat}{l:List KT}(hp:l.Pairwise fun a b=>a.lt b=true){z:KT}(e:l.head? = some z){x:KT}(hx:x.lt z=true):∀ y∈l,x.lt y=true:=by
 cases l with
 | nil=>cases e
 | cons a l=>
  simp at e;subst e;intro y hy;rcases zB.mp hy with rfl | hy
  ·exact hx
  ·exact lt_trans' _ _ _ hx ((xL.mp hp).1 y hy)
theorem IH{gt:List KT}{ts:List ZS}(hw:WF gt ts):∀{bs:List Nat},(∀ b∈bs,b<ts.length)->Nb ts bs->((Zu ts bs).map (·.1)).Pairwise (fun a b=>a.lt b=true)/\bs.Nodup
 | [],_,_=>⟨tT.nil,List.nodup_nil⟩
 | [a],hb,_=>by
  refine ⟨?_,by simp⟩
  have:=(hw a _ (XI (hb a (by simp)))).up
  simpa [Zu] using this
 | a :: b :: r,hb,hn=>by
  obtain ⟨h1,h2⟩:=IH hw (bs:=b :: r) (fun c hc=>hb c (zH _ hc)) hn.2;have oa:=hw a _ (XI (hb a (by simp)))
  have ob:=hw b _ (XI (hb b (by simp)))
  obtain ⟨rb,rs,eb,el⟩:=Qs ob.ne;have hd:((Zu ts (b :: r)).map (·.1)).head? = some (YS (gd ts b)).lo:=by
   rw [el];unfold Zu;rw [wM,eb];rfl
  have cross:∀ x∈(gd ts a).rows.map (·.1),∀ y∈(Zu ts (b :: r)).map (·.1),x.lt y=true:=fun x hx=>Fw (gt:=gt) (ts:=ts) (bs:=[]) h1 hd (CI oa hx hn.1);refine ⟨?_,wP.mpr ⟨fun hm=>?_,h2⟩⟩
  ·have e:Zu ts (a :: b :: r)=(gd ts a).rows++Zu ts (b :: r):=by simp [Zu]
   rw [e,yZ];exact uA.mpr ⟨oa.up,h1,cross⟩
  ·obtain ⟨ra,rs',ea,_⟩:=Qs oa.ne;have m1:ra.1∈(gd ts a).rows.map (·.1):=by rw [ea];simp
   have m2:ra.1∈(Zu ts (b :: r)).map (·.1):=zJ.mpr ⟨ra,uK.mpr ⟨a,hm,by rw [ea];simp⟩,rfl⟩
   have:=cross _ m1 _ m2;rw [QH] at this;cases this
theorem Qn{ts:List ZS}{bs:List Nat}{i:Nat}(hi:i<bs.length):(XB ts bs).getD i .d=YS (gd ts (bs.getD i 0)):=by
 unfold XB;rw [zV,zL,zT hi,zV,zT hi];rfl
theorem Jz{gt:List KT}{ts:List ZS}(hw:WF gt ts){bs:List Nat}(hb:∀ b∈bs,b<ts.length){L:YV}(h:over (XB ts bs)=some L):
  L=YS (Xm ts bs)/\bs.Nodup/\2<=bs.length/\bs.length<=4/\(∀ b∈bs,(gd ts b).h+1=(Xm ts bs).h)/\((Zu ts bs).map (·.1)).Pairwise (fun a b=>a.lt b=true)/\Zu ts bs≠[]:=by
 unfold over at h;split at h
 case isFalse=>cases h
 case isTrue hc=>
  obtain ⟨h2,h4,hk⟩:=hc;have ll:(XB ts bs).length=bs.length:=zX _;rw [ll] at h2 h4;have hl:=Uj.mpr hk;unfold Le at hl;rw [ll] at hl;have hnb:Nb ts bs:=Ip fun j hj=>(hl j hj).2;obtain ⟨hup,jS⟩:=IH hw hb hnb;have hh:∀ i,i<bs.length->((XB ts bs).getD i .d).h=((XB ts bs).getD 0 .d).h:=fun i hi=>by
   cases i with
   | zero=>rfl
   | succ i=>exact (hl i hi).1
  have hmem:∀ i,i<bs.length->bs.getD i 0∈bs:=fun i hi=>by rw [zV,zT hi];exact xZ _
  have o0:=hw _ _ (XI (hb _ (hmem 0 (by lia))))
  have ol:=hw _ _ (XI (hb _ (hmem (bs.length - 1) (by lia))))
  have hhb:∀ b∈bs,(gd ts b).h+1=(Xm ts bs).h:=fun b hb'=>by
   obtain ⟨i,hi,e⟩:=List.getElem_of_mem hb';have:=hh i hi;rw [Qn hi,Qn (by lia)] at this
   have e2:bs.getD i 0=b:=by rw [zV,zT hi,e];rfl
   rw [e2] at this;have:=Int.ofNat.inj this;show (gd ts b).h+1=(gd ts (bs.getD 0 0)).h+1
   lia
  have jt:Zu ts bs≠[]:=fun z=>by
   obtain ⟨r,rs,e,_⟩:=Qs o0.ne;have:r∈Zu ts bs:=uK.mpr ⟨_,hmem 0 (by lia),by rw [e];simp⟩
   rw [z] at this;simp at this
  refine ⟨?_,jS,h2,h4,hhb,hup,jt⟩;rw [<-zD.inj h];have elo:((XB ts bs).getD 0 .d).lo=(YS (Xm ts bs)).lo:=by
   rw [Qn (by lia)]
   obtain ⟨r,rs,e,el⟩:=Qs o0.ne;rw [el]
   cases bs with
   | nil=>simp at h2
   | cons b bs=>
    unfold YS Xm Zu;have e':(gd ts b).rows=r :: rs:=e;simp only [wM,e'];rfl
  have ehi:((XB ts bs).getD ((XB ts bs).length - 1) .d).hi=(YS (Xm ts bs)).hi:=by
   rw [ll,Qn (by lia)]
   obtain ⟨rs,r,e,el⟩:=Mt ol.ne;rw [el];rcases sL bs with z | ⟨bi,b,z⟩
   ·rw [z] at h2;simp at h2
   ·rw [sM] at z;have eb:bs.getD (bs.length - 1) 0=b:=by rw [z];simp [zV]
    rw [eb] at e;have er:Zu ts bs=Zu ts bi++rs++[r]:=by rw [z];simp [Zu,e]
    unfold YS Xm;simp only [er];simp [zV]
  have em:((XB ts bs).map YV.m).sum=(YS (Xm ts bs)).m:=by
   have:∀ l:List Nat,((XB ts l).map YV.m).sum=((Zu ts l).length:Int):=fun l=>by
    induction l with
    | nil=>rfl
    | cons b l ih=>
     have e1:XB ts (b :: l)=YS (gd ts b) :: XB ts l:=rfl;have e2:Zu ts (b :: l)=(gd ts b).rows++Zu ts l:=by simp [Zu]
     rw [e1,e2,zF,xE,ih,zU];show ((gd ts b).rows.length:Int)+_=_
     lia
   exact this bs
  have eh:((XB ts bs).getD 0 .d).h+1=(YS (Xm ts bs)).h:=by
   rw [Qn (by lia)]
   show ((gd ts (bs.getD 0 0)).h:Int)+1=(((gd ts (bs.getD 0 0)).h+1:Nat):Int)
   lia
  rw [elo,ehi,em,eh]
theorem WE.ext{gt:List KT}{ts:List ZS}{t:ZS}{i:Nat}{u:ZS}(h:WE gt ts i u)(hi:i<=ts.length):WE gt (ts++[t]) i u:=by
 refine ⟨h.ne,h.up,h.inn,h.leaf,fun z=>?_⟩;obtain ⟨h1,h2,h3,h4⟩:=h.stem z;have e:∀ b∈u.bs,gd (ts++[t]) b=gd ts b:=fun b hb=>Oj (by have:=(h3 b hb).1;lia)
 refine ⟨h1,h2,fun b hb=>⟨(h3 b hb).1,by rw [e b hb];exact (h3 b hb).2⟩,?_⟩
 rw [h4];clear h1 h2 h3 h4;have:∀ l:List Nat,(∀ b∈l,gd (ts++[t]) b=gd ts b)->(l.flatMap fun b=>(gd ts b).rows)=l.flatMap fun b=>(gd (ts++[t]) b).rows:=fun l hl=>by
  induction l with
  | nil=>rfl
  | cons b l ih=>rw [wM,wM,hl b (by simp),ih fun c hc=>hl c (zH _ hc)]
 exact this _ e
theorem WF.push{gt:List KT}{ts:List ZS}{t:ZS}(hw:WF gt ts)(h:WE gt ts ts.length t):WF gt (ts++[t]):=fun i u e=>by
 rcases zC i ts.length with hi | hi
 ·rw [wX hi] at e;exact (hw i u e).ext (xY hi)
 ·rw [xW hi] at e;have hi0:i - ts.length=0:=by
   rcases Nat.eq_zero_or_pos (i - ts.length) with z | z
   ·exact z
   ·rw [sJ (by simp;lia)] at e;cases e
  rw [hi0] at e;simp at e;subst e;have:i=ts.length:=by lia
  rw [this];exact h.ext (zY _)
theorem ZLg{gt:List KT}{ts:List ZS}(hw:WF gt ts){bs:List Nat}(hb:∀ b∈bs,b<ts.length){L:YV}(h:over (XB ts bs)=some L):WE gt ts ts.length (Xm ts bs):=by
 obtain ⟨_,_,h2,h4,hh,hup,jt⟩:=Jz hw hb h;refine ⟨jt,hup,fun r hr=>?_,fun z=>absurd z (by show (gd ts (bs.getD 0 0)).h+1≠0;lia),fun _=>⟨h2,h4,fun b hb'=>⟨hb b hb',hh b hb'⟩,rfl⟩⟩
 obtain ⟨b,hb',hr'⟩:=uK.mp hr;exact (hw b _ (XI (hb b hb'))).inn r hr'
theorem Ex{gt:List KT}{ts:List ZS}(hw:WF gt ts){bs:List Nat}(hb:∀ b∈bs,b<ts.length)(i:Nat):((XB ts bs).getD i .d).fit:=by
 rcases zC i bs.length with hi | hi
 ·rw [Qn hi];refine GQ (hw _ _ (XI (hb _ ?_)));rw [zV,zT hi];exact xZ _
 ·rw [zV,sJ (by unfold XB;rw [zX];exact hi)]
  exact Fj
abbrev ZPt:List Str:=["labels","at","many"]
theorem Uc:ZC ZPt ["labels"] (Ze Lo):=Zp
theorem C1(D:ZB P w K mg base 6 "is_key" ["thing"] XQ):ZB P w K mg base 6 "is_key" ["thing"] V2:=by
 obtain ⟨g,gd,FG,b,kp,m⟩:=D.ex;refine ⟨g,gd,FG.imp fun vs H Q E h=>?_,b,kp,m⟩;obtain ⟨v,t,q,e,hk,hf,k⟩:=h;exact ⟨v,t.emb,fun _=>False,e,Md t v hk,MM t q hf,fun H' s'=>by rw [Mn];exact k H' s'⟩
theorem BY{ls:List YV}{L:YV}(h:over ls=some L):2<=ls.length/\ls.length<=4/\Nf ls=true/\L=⟨(ls.getD 0 .d).h+1,(ls.getD 0 .d).lo,(ls.getD (ls.length - 1) .d).hi,(ls.map YV.m).sum⟩:=by
 unfold over at h;split at h
 ·rename_i z
  cases h;exact ⟨z.1,z.2.1,z.2.2,rfl⟩
 ·cases h
inductive Wj(vs:jf)(H:Hp)(Q:VK)(_:XK):Prop
 | mk (l:aj) (us:jf) (ls:List YV) (L:YV) (_:vs=[.ref l]) (_:H l=some (.lst us)) (_:Yi H ls us) (_:∀ i,(ls.getD i .d).fit) (_:over ls=some L) (_:∀ H' v,ZA H H'->ZD H' L.kt v->Q v H')
theorem By(F:Zj K "label_over" "label_over" Lo f fd)(T:YF mg)(DS:ZB P w K mg base 8 "stand_side_by_side" ["label","following"] Vh):ZJ P w K mg base ZW 9 f fd ["labels"] Wj:=by
 refine F.ko Uc fun cdv A outer s H vs Q E hr h=>?_;obtain ⟨l,us,ls,L,rfl,hl,hk,hf,hov,k⟩:=h;obtain ⟨v2,v4,vc,rfl⟩:=BY hov;have nd:=Uc.nd;have hlen:=hk.1;obtain ⟨tf,mf⟩:=T.few;obtain ⟨tm,mm⟩:=T.most;obtain ⟨t0,m0⟩:=T.height;obtain ⟨t1,m1⟩:=T.least;obtain ⟨t2,m2⟩:=T.greatest;obtain ⟨t3,m3⟩:=T.many;refine ⟨_,ZR (Z5 (VG (MI Pg Pg (WN (v:=.int 2) rfl mf ⟨_,rfl⟩) (Z4 Xu rfl T.len Xl (ZG (pv 0) ZF)) (WN (v:=.int 4) rfl mm ⟨_,rfl⟩))) Qx Z7)
  (ZR (Vf PassesOwn.never rfl (MR rfl T.range (ZG ZM (ZG (Z4 Xu rfl T.len Xl (ZG (pv 0) ZF)) ZF))) (Xo 1 nd)
   (ZU (Z5 (VG (Y9 (Zh DS hr (ZG (Zn (r:=YI K) YO (pv 0) (Zw Vp (pv 1) ZM) (fun _ _=>rfl)) (ZG (Zn (r:=YI K) YO (pv 0) (pv 1) (fun _ _=>rfl)) ZF))))) Qx Z7)))
  (ZR (Zk 2 nd (Z4 (M5 rfl) rfl T.sum KD (ZG (VZ [] [] rfl (VE (pv 0)) (fun _ _ _ _ _=>Vc) (fun _ _ _ _ _=>Zn (r:=YI K) YO (pv 0) (WN (v:=.int 3) rfl m3 ⟨_,rfl⟩) (fun _ _=>rfl)) trivial) ZF)))
  (ZU (Zg (Yq (Vd (Zw WP (Zn (r:=YI K) YO (Zn (r:=YI K) YO (pv 0) ZM (fun _ _=>rfl)) (WN (v:=.int 0) rfl m0 ⟨_,rfl⟩) (fun _ _=>rfl)) ZM)
   (Zn (r:=YI K) YO (Zn (r:=YI K) YO (pv 0) ZM (fun _ _=>rfl)) (WN (v:=.int 1) rfl m1 ⟨_,rfl⟩) (fun _ _=>rfl))
   (Zn (r:=YI K) YO (Zn (r:=YI K) YO (pv 0) (Py P8 ZM) (fun _ _=>rfl)) (WN (v:=.int 2) rfl m2 ⟨_,rfl⟩) (fun _ _=>rfl))
   (pv 2))))))),?_⟩
 have lab:∀(H':Hp)(i:Nat),ZA H H'->i<us.length->∃(a:aj)(jL jO:V),us[i]? = some (.ref a)/\H' a=some (.tup [.int (ls.getD i .d).h,jL,jO,.int (ls.getD i .d).m])/\ZD H' (ls.getD i .d).lo jL/\ZD H' (ls.getD i .d).hi jO:=fun H' i s' hi=>by
  have hu:us[i]? = some us[i]:=zT hi;obtain ⟨a,jL,jO,e,e1,k1,k2⟩:=(hk.2 i _ hu).mono (ZA.tups s');exact ⟨a,jL,jO,by rw [hu,e],e1,k1,k2⟩
 refine ⟨_,rfl,l,us,rfl,.inl (ZL.of hl),_,_,rfl,rfl,_,rfl,?_⟩;have h2:2<=us.length:=by lia
 have h4:us.length<=4:=by lia
 rw [aM (show (2:Int)<=(us.length:Int) by lia)]
 refine Z2 ⟨_,_,rfl,rfl,_,rfl,?_⟩;rw [aM (show (us.length:Int)<=4 by lia)]
 refine Zm ?_;refine ⟨_,rfl,l,us,rfl,.inl (ZL.of hl),1,(us.length:Int),rfl,⟨by lia,by lia,by lia,by lia⟩,?_⟩
 refine Qu (lo:=1) (n:=((us.length:Int) - 1).toNat) (fun i σ H2=>∃ x:jg,σ=[some (.ref l),x,none]/\ZA H H2/\∀ j,j<i->Ug (ls.getD j .d) (ls.getD (j+1) .d)=true) ⟨_,rfl,ZA.refl H,fun j hj=>absurd hj (by lia)⟩ ?_ ?_
 ·rintro i σ H2 hi ⟨x,rfl,s2,hok⟩;have hi1:i+1<us.length:=by lia
  have ua:us[i]? = some (us[i]'(by lia)):=zT (by lia)
  have ub:us[i+1]? = some us[i+1]:=zT hi1;have e1:(1:Int)+(i:Int)=((i+1:Nat):Int):=by lia
  have e0:(1:Int)+(i:Int) - 1=((i:Nat):Int):=by lia
  have hl2:=s2 _ _ hl;refine ⟨_,rfl,_,rfl,_,_,rfl,rfl,.inl ⟨l,us,_,_,rfl,rfl,ZL.of hl2,(by rw [e0];exact Xb ua),?_⟩⟩
  refine ⟨_,rfl,_,rfl,.inl ⟨l,us,_,_,rfl,rfl,ZL.of hl2,(by rw [e1];exact Xb ub),?_⟩⟩
  refine ⟨_,_,ls.getD i .d,ls.getD (i+1) .d,rfl,(hk.2 i _ ua).mono (ZA.tups s2),(hk.2 (i+1) _ ub).mono (ZA.tups s2),hf i,hf (i+1),fun H3 s3=>⟨_,rfl,?_⟩⟩;have hc:Ug (ls.getD i .d) (ls.getD (i+1) .d)=true:=zP.mp vc i (yA.mpr (by lia))
  rw [hc];refine Zm ⟨_,rfl,s2.trans s3,fun j hj=>?_⟩;rcases zC j i with c1 | c1
  ·exact hok j c1
  ·have:j=i:=by lia
   rw [this];exact hc
 rintro σ H2 ⟨x,rfl,s2,hok⟩;have hl2:=s2 _ _ hl;refine ⟨_,rfl,l,rfl,⟨us,ZL.of hl2⟩,?_⟩;refine VY (n:=us.length) (fun i z=>us[i]? = some z) (fun D i ys H3=>ZA H2 H3/\H2 D=none/\ys=((ls.map YV.m).take i).map V.int) (XM (by lia))
  (fun D i ys H3 hi hP=>⟨us,us[i],ZL.of (hP.1 _ _ hl2),by simp [hi]⟩) (fun D i ys H3 z H4 hi hP hy=>⟨hy.1,hy.2 us (ZL.of (hP.1 _ _ hl2))⟩) (fun D ys H3 hP=>⟨us,ZL.of (hP.1 _ _ hl2),zY _⟩)
  (fun D hD=>⟨ZY hD _,hD,rfl⟩) (fun D i ys H3 z eD hl' hi hz hP R hR=>?_) (fun D ys H3 eD hP=>?_)
 ·obtain ⟨s3,nD,rfl⟩:=hP;obtain ⟨a,alo,ahi,ua,ea,ka1,ka2⟩:=lab H3 i (s2.trans s3) hi;rw [ua] at hz;cases hz;refine ⟨_,rfl,.inr (.inl ⟨a,_,_,.int (ls.getD i .d).m,rfl,rfl,Zo.of ea,rfl,?_⟩)⟩;refine hR _ H3 eD ⟨fun b o e=>by rw [ZV (Za e nD)];exact s3 b o e,nD,?_⟩
  have eg:(ls.map YV.m)[i]? = some (ls.getD i .d).m:=by
   rw [zL,zV,zT (show i<ls.length by lia)]
   rfl
  rw [yL,eg,yZ];rfl
 ·obtain ⟨s3,nD,rfl⟩:=hP;rw [yR (by rw [zX];lia)] at eD
  refine ⟨D,ls.map YV.m,rfl,ZL.of eD,?_⟩;have s23:=s2.trans s3;have hl3:=s23 _ _ hl;obtain ⟨c,clo,chi,uc,ec,kc1,kc2⟩:=lab H3 0 s23 (by lia)
  obtain ⟨b,blo,bhi,ub,eb,kb1,kb2⟩:=lab H3 (us.length - 1) s23 (by lia)
  have elast:WM us (-1)=some (.ref b):=by
   have e:us=us.dropLast++[.ref b]:=by
    have jt:us≠[]:=fun z=>by rw [z] at h2;simp at h2
    have hg:us.getLast jt=.ref b:=by
     rw [rH];have:=(yV.mp ub).2;exact this
    rw [<-hg,qM]
   rw [e];exact G6 _ _
  refine ⟨_,rfl,.inl ⟨l,us,_,.ref c,rfl,rfl,ZL.of hl3,Xb (j:=0) uc,.inr (.inl ⟨c,_,_,.int (ls.getD 0 .d).h,rfl,rfl,Zo.of ec,rfl,_,_,rfl,rfl,?_⟩)⟩⟩;refine ⟨_,rfl,.inl ⟨l,us,_,.ref c,rfl,rfl,ZL.of hl3,Xb (j:=0) uc,.inr (.inl ⟨c,_,_,clo,rfl,rfl,Zo.of ec,rfl,?_⟩)⟩⟩;refine ⟨_,rfl,1,rfl,.inl ⟨l,us,_,.ref b,rfl,rfl,ZL.of hl3,elast,.inr (.inl ⟨b,_,_,bhi,rfl,rfl,Zo.of eb,rfl,?_⟩)⟩⟩;refine ⟨_,rfl,Z0,fun p hp=>?_⟩;have g:=ZY hp (.tup [.int ((ls.getD 0 .d).h+1),clo,bhi,.int (ls.map YV.m).sum]);refine k _ _ (s23.trans g) ?_;rw [<-hlen];exact .tup ZP (.cons (.int _) (.cons (kc1.mono (ZA.tups g) _ _) (.cons (kb2.mono (ZA.tups g) _ _) (.cons (.int _) .nil))))
abbrev Kp:Stmt:=VH (Zq 53) 19
abbrev LW:Stmt:=VH (Zq 53) 20
abbrev LZ:Stmt:=VH (Zq 53) 2
inductive Yy(jh ji:aj)(vs:jf)(H:Hp)(Q:VK)(_:XK):Prop
 | mk (S d lk l:aj) (ts:List ZS) (av:Nat->List Nat) (ho:Nat->Nat) (as:List YC) (kvs:List (Zd×V)) (ls:jf) (bs:List Nat) (_:vs=[.ref S,.ref l]) (_:Yf jh ji H S d lk ts av ho as kvs ls) (_:H l=some (.lst (iN bs))) (_:∀ b∈bs,b<ts.length) (_:bs.length<=100) (_:∀(D:aj)(us:jf)(H':Hp),ZA H H'->H D=none->H' D=some (.lst us)->Yi H' (XB ts bs) us->Q (.ref D) H')
theorem ZHb:ZC ["self","numbers"] ["self","numbers"] (Ze Kp):=Zp
theorem OD{bs:List Nat}{i:Nat}{z:V}(h:(iN bs)[i]? = some z):∃ b,bs[i]? = some b/\z=.int (b:Nat):=by
 unfold iN at h;rw [zL] at h;obtain ⟨b,e,rfl⟩:=xN.mp h;exact ⟨b,e,rfl⟩
theorem Dl(F:Zj K "labels_of" "Shelf.labels_of" Kp f fd)(L:XA K mg jh ji)(DL:ZK P w K mg base ZW 2 jh "label" ["self","number"] (WQ jh ji fun tg _ _=>tg)):ZJ P w K mg base ZW 3 f fd ["self","numbers"] (Yy jh ji):=by
 refine F.ko ZHb fun cdv A outer s H vs Q E hr h=>?_;obtain ⟨S,d,lk,l,ts,av,ho,as,kvs,ls,bs,rfl,R,hl,hb,h100,k⟩:=h;have li:(iN bs).length=bs.length:=zX _;refine ⟨_,ZU (Zg (VZ [0] ["self"] rfl (VE (pv 1)) (fun _ _ _ _ _=>Vc) (fun _ _ _ _ _=>XT (E:=E0) (pv 1) L.cS DL hr XJ (ZG (pv 0) ZF)) ⟨rfl,.inl rfl,rfl,trivial⟩)),?_⟩;refine ⟨_,rfl,l,rfl,⟨_,ZL.of hl⟩,?_⟩;refine VY (n:=(iN bs).length) (fun i z=>(iN bs)[i]? = some z) (fun D i ys H3=>ZA H H3/\H D=none/\Yi H3 (XB ts (bs.take i)) ys) (XM (by lia))
  (fun D i ys H3 hi hP=>⟨_,(iN bs)[i],ZL.of (hP.1 _ _ hl),zT hi⟩) (fun D i ys H3 z H4 hi hP hy=>⟨hy.1,hy.2 _ (ZL.of (hP.1 _ _ hl))⟩) (fun D ys H3 hP=>⟨_,ZL.of (hP.1 _ _ hl),zY _⟩)
  (fun D hD=>⟨ZY hD _,hD,rfl,fun i u e=>by simp at e⟩) (fun D i ys H3 z eD hl' hi hz hP RR jQ=>?_) (fun D us H3 eD hP=>?_)
 ·obtain ⟨s3,nD,hk⟩:=hP;obtain ⟨b,eb,rfl⟩:=OD hz;have hbl:=hb b (zN eb);have R3:=R.same s3;obtain ⟨dx,hS⟩:=R3.sh.self;refine ⟨_,rfl,S,dx,_,rfl,hS,rfl,_,rfl,S,d,lk,ts.length,kvs,ls,(b:Int),_,_,_,_,_,_,rfl,⟨R3.sh,R3.val b hbl,(R3.tw b hbl).tw⟩,?_⟩;refine jQ _ H3 eD ⟨UO s3 nD,nD,?_⟩;have tD:Z1 H3 (upd H3 D (.lst (ys++[.ref (as.getD b .d).tg]))):=fun c xs e=>by rw [ZV (ZQ e eD)];exact e
  rw [yL,eb];have e2:XB ts (bs.take i++(some b).toList)=XB ts (bs.take i)++[YS (gd ts b)]:=by unfold XB;simp
  rw [e2];exact (hk.snoc (R3.tw b hbl).tag).mono tD
 ·obtain ⟨s3,nD,hk⟩:=hP;rw [yR (by lia)] at hk
  exact k D us H3 s3 nD eD hk
inductive YJ(jh ji:aj)(vs:jf)(H:Hp)(Q:VK)(_:XK):Prop
 | mk (S l:aj) (ns:List Int) (_:vs=[.ref S,.ref l]) (_:H l=some (.lst (ns.map V.int))) (_:∃ dx fs,H S=some (.ins jh dx fs)/\fs.lookup (yJ "outside")=none) (_:∀ n∈ns,∃(d lk:aj)(m:Nat)(kvs:List (Zd×V))(ls:jf)(x:aj)(th tg:V)(ab:aj)(ho:Nat)(us:jf),VR jh ji H S d lk m kvs ls n x th tg ab ho us/\1<=ho) (_:Q .non H)
theorem Xj:ZC ["self","numbers","number"] ["self","numbers"] (Ze LW):=Zp
theorem ZEp(F:Zj K "check_held" "Shelf.check_held" LW f fd)(L:XA K mg jh ji)(DO:ZK P w K mg base ZW 2 jh "outside" ["self","number"] (WQ jh ji fun _ ho _=>.int ho)):ZJ P w K mg base ZW 3 f fd ["self","numbers"] (YJ jh ji):=by
 refine F.ko Xj fun cdv A outer s H vs Q E hr h=>?_;obtain ⟨S,l,ns,rfl,hl,⟨dx,fs,hS,hlk⟩,hb,k⟩:=h;have nd:=Xj.nd;refine ⟨_,ZU (Vf PassesOwn.never rfl (VE (pv 1)) (Xo 2 nd)
  (ZU (Z5 (Y8 VM (XT (E:=E0) (pv 0) L.cS DO hr XJ (ZG (pv 2) ZF)) ZM (YK _)) Qx Z7))),?_⟩
 refine ⟨_,rfl,l,rfl,⟨_,ZL.of hl⟩,Pb (K:=K) (a:=l) (xs:=ns.map V.int) (fun i σ H2=>∃ x:jg,σ=[some (.ref S),some (.ref l),x]/\H2=H) ⟨_,rfl,rfl⟩ (fun i σ H2 _ hP=>by obtain ⟨_,_,rfl⟩:=hP;exact ZL.of hl) ?_ ?_⟩
 ·rintro i u σ H2 hu2 ⟨x,rfl,rfl⟩;rw [zL] at hu2;obtain ⟨n,en,rfl⟩:=xN.mp hu2;obtain ⟨d,lk,m,kvs,ls,x',th,tg,ab,ho,us,R,h1⟩:=hb n (zN en);refine ⟨_,rfl,S,dx,_,rfl,hS,hlk,_,rfl,S,d,lk,m,kvs,ls,n,x',th,tg,ab,ho,us,rfl,R,rfl,_,rfl,?_⟩;rw [aK (fun z=>by have:=Og z;lia)]
  exact Zm ⟨_,rfl,rfl⟩
 ·rintro σ H2 ⟨x,rfl,rfl⟩;exact k
inductive Z9(gt:List KT)(jh ji:aj)(vs:jf)(H:Hp)(Q:VK)(_:XK):Prop
 | mk (S d lk l:aj) (ts:List ZS) (av:Nat->List Nat) (ho:Nat->Nat) (as:List YC) (kvs:List (Zd×V)) (ls:jf) (bs:List Nat) (Lb:YV) (_:vs=[.ref S,.ref l]) (_:Yf jh ji H S d lk ts av ho as kvs ls) (_:WF gt ts) (_:ts.length<=800) (_:∀ b∈bs,b<ts.length/\1<=ho b/\(av b).length<=800) (_:H l=some (.lst (iN bs))) (_:over (XB ts bs)=some Lb) (_:∀(H':Hp)(a:YC),H a.x=none->H a.th=none->H a.ab=none->(∀ c o,c≠S->c≠d->(∀ b:Nat,b<ts.length->c≠(as.getD b .d).x/\c≠(as.getD b .d).ab)->H c=some o->H' c=some o)->Yf jh ji H' S d lk (ts++[Xm ts bs]) (U8 bs ts.length (U1 ts.length av)) (Up bs (Ur ts.length ho)) (as++[a]) (XL kvs (.inl (ts.length:Int)) (.ref a.x)) ls->Q (.int (ts.length:Nat)) H')
abbrev CD:List Str:=["self","numbers","branches","label","number"]
theorem WZ:ZC CD ["self","numbers"] (Ze LZ):=Zp
theorem Ba(bs:List Nat):iN bs=(bs.map fun b:Nat=>(b:Int)).map V.int:=by unfold iN;rw [wB];rfl
theorem F4{gt:List KT}(F:Zj K "put_stem" "Shelf.put_stem" LZ f fd)(T:YF mg)(L:XA K mg jh ji)(DL:ZK P w K mg base ZW 3 jh "labels_of" ["self","numbers"] (Yy jh ji))(DO:ZB P w K mg base 9 "label_over" ["labels"] Wj)(DC:ZK P w K mg base ZW 3 jh "check_held" ["self","numbers"] (YJ jh ji))(DT:ZK P w K mg base ZW 3 jh "put_twig" ["self","things","label"] (Y5 jh ji))(DK:ZK P w K mg base ZW 2 jh "take_over" ["self","stem","branches"] (XG jh ji)):
  ZJ P w K mg base ZW 10 f fd ["self","numbers"] (Z9 gt jh ji):=by
 refine F.ko WZ fun cdv A outer s H vs Q E hr h=>?_;obtain ⟨S,d,lk,l,ts,av,ho,as,kvs,ls,bs,Lb,rfl,R,hw,t800,hbb,hl,hov,q3⟩:=h;have hb:∀ b∈bs,b<ts.length:=fun b h=>(hbb b h).1;have nd:=WZ.nd;have hr3:=hr.mono (show 3<=9 by lia)
 have hr2:=hr.mono (show 2<=9 by lia)
 obtain ⟨eL,jS,hb2,hb4,hhh,hup,jt⟩:=Jz hw hb hov;refine ⟨_,ZR (Zk 2 nd (Wy Q5 rfl T.list Qf (ZG (pv 1) ZF)))
  (ZR (Zk 3 nd (Zh DO hr (ZG (XT (E:=E0) (pv 0) L.cS DL hr3 XJ (ZG (pv 2) ZF)) ZF)))
  (ZR (X8 (XT (E:=E0) (pv 0) L.cS DC hr3 XJ (ZG (pv 2) ZF)))
  (ZR (Zk 4 nd (XT (E:=E0) (pv 0) L.cS DT hr3 XJ (ZG (pv 2) (ZG (pv 3) ZF))))
  (ZR (X8 (XT (E:=E0) (pv 0) L.cS DK hr2 XJ (ZG (pv 4) (ZG (pv 2) ZF))))
  (ZU (Zg (pv 4))))))),?_⟩
 refine ⟨_,rfl,l,iN bs,rfl,.inl (ZL.of hl),fun D nD=>?_⟩;have g1:=ZY nD (.lst (iN bs));have hD1:upd H D (.lst (iN bs)) D=some (.lst (iN bs)):=ZP;generalize upd H D (.lst (iN bs))=H1 at g1 hD1 ⊢;have R1:=R.same g1;obtain ⟨dx1,hS1⟩:=R1.sh.self;refine ⟨_,rfl,S,dx1,_,rfl,hS1,rfl,_,rfl,S,d,lk,D,ts,av,ho,as,kvs,ls,bs,rfl,R1,hD1,hb,by lia,fun D2 us H2 s2 nD2 hD2 hk2=>?_⟩
 have s12:=g1.trans s2;refine ⟨D2,us,XB ts bs,Lb,rfl,hD2,hk2,Ex hw hb,hov,fun H3 v s3 kv=>?_⟩;subst eL;have s13:=s12.trans s3;have R3:=R.same s13;obtain ⟨dx3,hS3⟩:=R3.sh.self;have hD3:H3 D=some (.lst (iN bs)):=s3 _ _ (s2 _ _ hD1);refine ⟨_,rfl,S,dx3,_,rfl,hS3,rfl,_,rfl,S,D,bs.map (fun b:Nat=>(b:Int)),rfl,by rw [<-Ba];exact hD3,⟨dx3,_,hS3,rfl⟩,fun n hn=>?_,?_⟩
 ·obtain ⟨b,hb',rfl⟩:=zJ.mp hn;have hbl:=hbb b hb';exact ⟨d,lk,ts.length,kvs,ls,_,_,_,_,_,_,⟨R3.sh,R3.val b hbl.1,(R3.tw b hbl.1).tw⟩,hbl.2.1⟩
 have kl:=Np kv;obtain ⟨tg,jL,jO,rfl,htg,_,_⟩:=kl;have kl4:=Np kv;refine ⟨_,rfl,S,dx3,_,rfl,hS3,rfl,_,rfl,_,rfl,S,d,lk,ts.length,kvs,ls,.ref D,.ref tg,rfl,R3.sh,by rw [Je R];lia,fun H5 x ab nx nab fr R5 W5=>?_⟩
 have tup5:Z1 H3 H5:=fun b ys e=>fr b _ (ZQ e hS3) (ZQ e R3.sh.kept) e;have hD5:H5 D=some (.lst (iN bs)):=fr _ _ (ZQ hD3 hS3) (ZQ hD3 R3.sh.kept) hD3;have PP:=Gw (t:=Xm ts bs) (x:=x) (th:=D) (tg:=tg) (ab:=ab) R (H':=H5) (fun b o n1 n2 e=>fr b o n1 n2 (s13 b o e)) (s13.free nx) nD (s13.free nab) (Za hD3 nab).symm R5 W5
  ⟨iN bs,hD5,fun z=>absurd z (by show (gd ts (bs.getD 0 0)).h+1≠0;lia),fun _=>rfl⟩ (kl4.mono tup5)
 obtain ⟨dx5,hS5⟩:=R5.self;have el:as.length=ts.length:=R.len;have aL:∀ b,b<ts.length->(as++[(⟨x,D,tg,ab⟩:YC)]).getD b .d=as.getD b .d:=fun b hb=>Lx (by lia)
 have aN:(as++[(⟨x,D,tg,ab⟩:YC)]).getD ts.length .d=⟨x,D,tg,ab⟩:=by rw [<-el];exact MP
 have en:(ts++[Xm ts bs]).length=ts.length+1:=by simp
 refine ⟨_,rfl,S,dx5,_,rfl,hS5,rfl,_,rfl,_,rfl,S,d,lk,D,_,_,_,_,_,ls,bs,ts.length,rfl,PP,hD5,jS,fun b hb'=>?_,fun b hb'=>?_,fun H6 fr6 no6 R6=>⟨_,rfl,?_⟩⟩
 ·have hbl:=hbb b hb';have nb:b≠ts.length:=by lia
  refine ⟨by lia,?_,?_⟩
  ·rw [show Ur ts.length ho b=ho b from aO nb];exact hbl.2.1
  ·rw [show U1 ts.length av b=av b from aO nb];lia
 ·rw [en] at hb';rcases zC b ts.length with c | c
  ·rw [aL b c];exact (Za (R.tw b c).tw.above nD).symm
  ·have:b=ts.length:=by lia
   rw [this,aN];exact Za hD3 nab
 ·refine q3 H6 ⟨x,D,tg,ab⟩ (s13.free nx) nD (s13.free nab) (fun c o n1 n2 n3 e=>?_) R6;refine fr6 c o (fun b hb'=>?_) (fr c o n1 n2 (s13 c o e));rw [en] at hb';rcases zC b ts.length with z | z
  ·rw [aL b z];exact n3 b z
  ·have:b=ts.length:=by lia
   rw [this,aN];exact ⟨Za e (s13.free nx),Za e (s13.free nab)⟩
theorem ZLa(rs:List Zz):(YS (V5 rs)).kt=NW (rs.map (·.1)):=by
 have lks:(rs.map (·.1)).length=rs.length:=zX _;have e0:(rs.map (·.1)).getD 0 (.int 0)=(rs.getD 0 rd).1:=by
  rw [zV,zV,zL];cases rs[0]? <;> rfl
 have e1:(rs.map (·.1)).getD (rs.length - 1) (.int 0)=(rs.getD (rs.length - 1) rd).1:=by
  rw [zV,zV,zL];cases rs[rs.length - 1]? <;> rfl
 unfold NW YS V5 YV.kt;rw [lks,e0,e1];rfl
inductive Yk(jh ji:aj)(vs:jf)(H:Hp)(Q:VK)(_:XK):Prop
 | mk (S d lk l:aj) (n:Nat) (kvs:List (Zd×V)) (ls us:jf) (rs:List Zz) (_:vs=[.ref S,.ref l]) (_:Y7 jh H S d lk n kvs ls) (_:kvs.length<=900) (_:H l=some (.lst us)) (_:KeysAt H (Zv rs) us) (_:Qj rs) (_:∀(H':Hp)(x th tg ab:aj),H x=none->H th=none->H ab=none->ab≠th->(∀ b o,b≠S->b≠d->H b=some o->H' b=some o)->Y7 jh H' S d lk (n+1) (XL kvs (.inl (n:Int)) (.ref x)) ls->WK ji H' x (.ref th) (.ref tg) ab 1 []->(∃ us',H' th=some (.lst us')/\KeysAt H' (Zv rs) us')->Y1 H' (YS (V5 rs)) (.ref tg)->Q (.int (n:Nat)) H')
theorem AC(F:Zj K "put_leaf" "Shelf.put_leaf" LV f fd)(L:XA K mg jh ji)(DC:ZB P w K mg base 9 "checked_rows" ["rows"] WJ)(DL:ZB P w K mg base 1 "label_of_rows" ["rows"] Xh)(DT:ZK P w K mg base ZW 3 jh "put_twig" ["self","things","label"] (Y5 jh ji)):
  ZJ P w K mg base ZW 10 f fd ["self","rows"] (Yk jh ji):=by
 refine F.ko WW fun cdv A outer s H vs Q E hr h=>?_;obtain ⟨S,d,lk,l,n,kvs,ls,us,rs,rfl,R,l900,hl,hk,G,k⟩:=h;have nd:=WW.nd;have hr1:=hr.mono (show 1<=9 by lia)
 have hr3:=hr.mono (show 3<=9 by lia)
 refine ⟨_,ZR (Zk 2 nd (Zh DC hr (ZG (pv 1) ZF)))
  (ZU (Zg (XT (E:=E0) (pv 0) L.cS DT hr3 XJ (ZG (pv 2) (ZG (Zh DL hr1 (ZG (pv 2) ZF)) ZF))))),?_⟩
 refine ⟨_,rfl,l,us,rs,rfl,hl,hk,G,fun H1 l' us' s1 nl' hl' hk'=>?_⟩;have R1:=R.same s1;obtain ⟨dx,hS⟩:=R1.self;have lu:us'.length=rs.length:=by have:=hk'.length;rw [<-this];exact zX _
 refine ⟨_,rfl,S,dx,_,rfl,hS,rfl,_,rfl,_,rfl,l',us',rs.map (·.1),rfl,hl',ZIW hk',by rw [lu];exact G.2.1,fun H2 v s2 kv=>?_⟩
 rw [<-ZLa] at kv;have kl:=Np kv;obtain ⟨tg,jL,jO,rfl,htg,_,_⟩:=kl;have kl:=Np kv;have s12:=s1.trans s2;have R2:=R.same s12;refine ⟨S,d,lk,n,kvs,ls,.ref l',.ref tg,rfl,R2,l900,fun H3 x ab nx nab fr R3 W3=>?_⟩;obtain ⟨dx2,hS2⟩:=R2.self;have tup3:Z1 H2 H3:=fun b ys e=>fr b _ (ZQ e hS2) (ZQ e R2.kept) e;have hl2:=s2 _ _ hl';have hl3:H3 l'=some (.lst us'):=fr _ _ (ZQ hl2 hS2) (ZQ hl2 R2.kept) hl2;exact k H3 x l' tg ab (s12.free nx) nl' (s12.free nab) (Za hl2 nab).symm (fun b o n1 n2 e=>fr b o n1 n2 (s12 b o e)) R3 W3 ⟨us',hl3,hk'.mono (fun b xs e=>tup3 b xs (s2 _ _ e)) _ _⟩ (kl.mono tup3)
theorem F2(D:ZK P w K mg base ZW 10 jh "put_leaf" ["self","rows"] (Yk jh ji)):ZK P w K mg base ZW 10 jh "put_leaf" ["self","rows"] (Ya jh ji):=by
 obtain ⟨g,gd,M,FG,b⟩:=D.ex;refine ⟨g,gd,M,FG.imp fun vs H Q E h=>?_,b⟩;obtain ⟨S,d,lk,l,ts,av,ho,as,kvs,ls,us,rs,e,R,l900,hl,hk,G,k⟩:=h;refine ⟨S,d,lk,l,ts.length,kvs,ls,us,rs,e,R.sh,by rw [Je R];exact l900,hl,hk,G,fun H' x th tg ab nx nth nab abth fr R' W hth htg=>?_⟩
 obtain ⟨us',h1,h2⟩:=hth;exact k H' ⟨x,th,tg,ab⟩ nx nth nab fr (Gw (t:=V5 rs) R fr nx nth nab abth R' W ⟨us',h1,fun _=>h2,fun z=>absurd rfl z⟩ htg)
abbrev Mx:Stmt:=VH (Zq 53) 5
abbrev KQ:Stmt:=VH (Zq 53) 6
structure PF(jh ji:aj)(H:Hp)(S d lk:aj)(n:Nat)(kvs:List (Zd×V))(ls:jf)(i:Int)(x:aj)(th:V)(tg ab:aj)(ho:Nat):Prop where
 rd:VR jh ji H S d lk n kvs ls i x th (.ref tg) ab ho []
 tag:∃ xs,H tg=some (.tup (.int 0 :: xs))
inductive Vg(jh ji:aj)(vs:jf)(H:Hp)(Q:VK)(_:XK):Prop
 | mk (S d lk:aj) (n:Nat) (kvs:List (Zd×V)) (ls:jf) (i:Int) (x:aj) (th:V) (tg ab:aj) (_:vs=[.ref S,.int i]) (_:PF jh ji H S d lk n kvs ls i x th tg ab 0) (_:Q .non (upd H d (.dK (QN kvs (.inl i)))))
theorem Uq:ZC ["self","number","twig","branch"] ["self","number"] (Ze KQ):=Zp
theorem AO(F:Zj K "drop_unheld" "Shelf.drop_unheld" KQ f fd)(L:XA K mg jh ji)(DH:ZK P w K mg base ZW 2 jh "holders" ["self","number"] (WQ jh ji fun _ ho us=>.int ((us.length:Nat)+(ho:Nat):Int)))(DS:ZB P w K mg base 1 "is_stem" ["twig"] (Wh ji)):ZJ P w K mg base ZW 3 f fd ["self","number"] (Vg jh ji):=by
 refine F.ko Uq fun cdv A outer s H vs Q E hr h=>?_;obtain ⟨S,d,lk,n,kvs,ls,i,x,th,tg,ab,rfl,R,k⟩:=h;have nd:=Uq.nd;have hr1:=hr.mono (show 1<=2 by decide)
 refine ⟨_,ZR (Z5 (Y8 Q2 (XT (E:=E0) (pv 0) L.cS DH hr XJ (ZG (pv 1) ZF)) ZM (YK _)) Qx Z7)
  (ZR (Zk 2 nd (C7 (VU (pv 0) rfl) (pv 1) ⟨rfl,rfl,rfl,rfl⟩))
  (ZU (Z5 (Y9 (Zh DS hr1 (ZG (pv 2) ZF))) Qx Z7))),?_⟩
 obtain ⟨dx,hS⟩:=R.rd.sh.self;obtain ⟨xs,ht⟩:=R.tag;refine ⟨_,rfl,S,dx,_,rfl,hS,rfl,_,rfl,S,d,lk,n,kvs,ls,i,x,th,.ref tg,ab,0,[],rfl,R.rd,_,_,rfl,rfl,_,rfl,Zm ?_⟩;have hd:=R.rd.sh.kept;refine ⟨_,rfl,S,jh,dx,_,.ref d,rfl,hS,L.cS,L.nk,rfl,d,rfl,.inl ⟨kvs,Rd.of hd⟩,_,rfl,kvs,.inl i,.ref x,hd,rfl,R.rd.val,?_⟩;obtain ⟨dt,hx⟩:=R.rd.tw.self;have fr:∀ b o,b≠d->H b=some o->upd H d (.dK (QN kvs (.inl i))) b=some o:=fun b o n e=>by rw [ZV n];exact e
 refine ⟨_,rfl,x,th,tg,ab,0,[],0,xs,rfl,⟨⟨dt,fr _ _ (ZQ hx hd) hx⟩,fr _ _ (ZQ R.rd.tw.above hd) R.rd.tw.above⟩,fr _ _ (ZQ ht hd) ht,_,rfl,Zm k⟩
inductive Wp(jh ji:aj)(vs:jf)(H:Hp)(Q:VK)(_:XK):Prop
 | mk (S d lk:aj) (n:Nat) (kvs:List (Zd×V)) (ls:jf) (i:Int) (x:aj) (th:V) (tg ab:aj) (_:vs=[.ref S,.int i]) (_:PF jh ji H S d lk n kvs ls i x th tg ab 1) (_:x≠S) (_:∀ H',(∀ b o,b≠x->b≠d->H b=some o->H' b=some o)->H' d=some (.dK (QN kvs (.inl i)))->Q .non H')
theorem V6:ZC ["self","number","twig"] ["self","number"] (Ze Mx):=Zp
theorem FP(F:Zj K "let_go" "Shelf.let_go" Mx f fd)(L:XA K mg jh ji)(DC:ZK P w K mg base ZW 3 jh "check_held" ["self","numbers"] (YJ jh ji))(DT:ZK P w K mg base ZW 1 jh "twig_of" ["self","number"] (YB jh))(DD:ZK P w K mg base ZW 3 jh "drop_unheld" ["self","number"] (Vg jh ji)):
  ZJ P w K mg base ZW 4 f fd ["self","number"] (Wp jh ji):=by
 refine F.ko V6 fun cdv A outer s H vs Q E hr h=>?_;obtain ⟨S,d,lk,n,kvs,ls,i,x,th,tg,ab,rfl,R,xS,k⟩:=h;have nd:=V6.nd;have hr1:=hr.mono (show 1<=3 by decide)
 refine ⟨_,ZR (X8 (XT (E:=E0) (pv 0) L.cS DC hr XJ (ZG (Yr (ZG (pv 1) ZF)) ZF)))
  (ZR (Zk 2 nd (XT (E:=E0) (pv 0) L.cS DT hr1 XJ (ZG (pv 1) ZF)))
  (ZR (GW (pv 2) ZM Ga)
  (ZU (X8 (XT (E:=E0) (pv 0) L.cS DD hr XJ (ZG (pv 1) ZF)))))),?_⟩
 obtain ⟨dx,hS⟩:=R.rd.sh.self;refine ⟨_,rfl,S,dx,_,rfl,hS,rfl,_,rfl,Z0,fun l nl=>?_⟩;have g:=ZY nl (.lst [.int i]);have hl:=ZP (H:=H) (a:=l) (o:=.lst [.int i]);generalize upd H l (.lst [.int i])=H1 at g hl ⊢;have hS1:=g _ _ hS;have R1:=R.rd.same g;refine ⟨S,l,[i],rfl,hl,⟨dx,_,hS1,rfl⟩,fun m hm=>?_,?_⟩
 ·rw [zA.mp hm];exact ⟨d,lk,n,kvs,ls,x,th,.ref tg,ab,1,[],R1,zY _⟩
 refine ⟨_,rfl,S,dx,_,rfl,hS1,rfl,_,rfl,S,d,lk,n,kvs,ls,i,.ref x,rfl,R1.sh,R1.val,?_⟩;obtain ⟨dt,hx⟩:=R1.tw.self;obtain ⟨xs,ht⟩:=R.tag;have ht1:=g _ _ ht;refine ⟨_,rfl,x,ji,dt,_,.int (1:Nat),rfl,hx,L.cT,L.nho,rfl,_,_,rfl,rfl,dt,_,hx,xO rfl,?_⟩;have hx2:upd H1 x (.ins ji dt (XH "holds" (.int (((1:Nat):Int) - 1)) (UX th (.ref tg) ab 1))) x=some (.ins ji dt (UX th (.ref tg) ab 0)):=by rw [ZP];rfl
 have fr:∀ b o,b≠x->H1 b=some o->upd H1 x (.ins ji dt (XH "holds" (.int (((1:Nat):Int) - 1)) (UX th (.ref tg) ab 1))) b=some o:=fun b o n e=>by rw [ZV n];exact e
 generalize upd H1 x (.ins ji dt (XH "holds" (.int (((1:Nat):Int) - 1)) (UX th (.ref tg) ab 1)))=H2 at hx2 fr ⊢;have hd1:=R1.sh.kept;have hk1:=R1.sh.looks;have hS2:=fr _ _ (Ne.symm xS) hS1;have R2:PF jh ji H2 S d lk n kvs ls i x th tg ab 0:=⟨⟨⟨⟨dx,hS2⟩,fr _ _ (ZQ hd1 hx) hd1,fr _ _ (ZQ hk1 hx) hk1⟩,R1.val,⟨⟨dt,hx2⟩,fr _ _ (ZQ R1.tw.above hx) R1.tw.above⟩⟩,⟨xs,fr _ _ (ZQ ht1 hx) ht1⟩⟩;refine ⟨_,rfl,S,dx,_,rfl,hS2,rfl,_,rfl,S,d,lk,n,kvs,ls,i,x,th,tg,ab,rfl,R2,?_⟩;exact k _ (fun b o n1 n2 e=>by rw [ZV n2];exact fr _ _ n1 (g _ _ e)) ZP
structure YL where
 S:aj
 d:aj
 ts:List ZS
 av:Nat->List Nat
 ho:Nat->Nat
 as:List YC
 kvs:List (Zd×V)
structure Zx(jh ji:aj)(H:Hp)(X:YL)(lk:aj)(c:Nat)(ls:jf):Prop where
 sh:Y7 jh H X.S X.d lk c X.kvs ls
 keys:X.kvs.map (·.1)=(yU X.ts.length).map (fun i:Nat=>(Sum.inl (i:Int):Zd))
 val:∀ i:Nat,i<X.ts.length->YR X.kvs (Sum.inl (i:Int))=some (.ref (X.as.getD i .d).x)
 tw:∀ i:Nat,i<X.ts.length->Ql ji H X.ts X.av X.ho i (X.as.getD i .d)
 own:∀ i:Nat,i<X.ts.length->(X.as.getD i .d).x≠X.S/\(X.as.getD i .d).ab≠lk/\(X.as.getD i .d).th≠lk
 le:X.ts.length<=c
theorem Od{H H':Hp}{p:aj}(w:ZI H p)(h:∀ o,H p=zD o->H' p=zD o):ZI H' p:=by
 obtain ⟨a,b,c,d,e,r⟩:=w.ex;exact ⟨a,b,c,d,h _ e,r⟩
section
variable{jh ji:aj}{H H':Hp}{X:YL}{lk lk':aj}{c c':Nat}{ls ls':jf}
theorem Yf.q{S d:aj}{ts:List ZS}{av:Nat->List Nat}{ho:Nat->Nat}{as:List YC}{kvs:List (Zd×V)}(R:Yf jh ji H S d lk ts av ho as kvs ls):Zx jh ji H ⟨S,d,ts,av,ho,as,kvs⟩ lk ts.length ls:=
 ⟨R.sh,R.keys,R.val,R.tw,fun i hi=>⟨(R.own i hi).1,(R.own i hi).2.1,(R.own i hi).2.2.1⟩,zY _⟩
theorem Zx.frame(R:Zx jh ji H X lk c ls)(sh:Y7 jh H' X.S X.d lk' c' X.kvs ls')(fr:∀ b o,b≠X.S->b≠X.d->b≠lk->H b=some o->H' b=some o)(own:∀ i:Nat,i<X.ts.length->(X.as.getD i .d).ab≠lk'/\(X.as.getD i .d).th≠lk')(le:X.ts.length<=c'):Zx jh ji H' X lk' c' ls':=by
 obtain ⟨⟨dS,hS⟩,hd,hl⟩:=R.sh;refine ⟨sh,R.keys,R.val,fun i hi=>?_,fun i hi=>⟨(R.own i hi).1,own i hi⟩,le⟩;have W:=R.tw i hi;obtain ⟨dx,hx⟩:=W.tw.self;obtain ⟨us,e1,_⟩:=W.things;have ha:=W.tw.above;have o:=R.own i hi;exact W.frame (fun b xs e=>fr b _ (ZQ e hS) (ZQ e hd) (ZQ e hl) e)
  (fun o' e=>fr _ _ o.1 (ZQ hx hd) (ZQ hx hl) e)
  (fun o' e=>fr _ _ (ZQ e1 hS) (ZQ e1 hd) o.2.2 e)
  (fun o' e=>fr _ _ (ZQ ha hS) (ZQ ha hd) o.2.1 e)
theorem Zx.same(R:Zx jh ji H X lk c ls)(s:ZA H H'):Zx jh ji H' X lk c ls:=R.frame (R.sh.same s) (fun b o _ _ _ e=>s b o e) (fun i hi=>(R.own i hi).2) R.le
def Om(X:YL)(lk:aj)(b:aj):Prop:=b=X.S\/b=X.d\/b=lk
theorem Zx.but(R:Zx jh ji H X lk c ls){p:aj}(s:ZE p H H')(hp:¬ Om X lk p)(own:∀ i:Nat,i<X.ts.length->(X.as.getD i .d).x≠p/\(X.as.getD i .d).ab≠p/\(X.as.getD i .d).th≠p)(t:Z1 H H'):Zx jh ji H' X lk c ls:=by
 obtain ⟨⟨dS,hS⟩,hd,hl⟩:=R.sh;refine ⟨⟨⟨dS,s _ _ hS fun z=>hp (.inl z.symm)⟩,s _ _ hd fun z=>hp (.inr (.inl z.symm)),s _ _ hl fun z=>hp (.inr (.inr z.symm))⟩,R.keys,R.val,fun i hi=>?_,R.own,R.le⟩;exact (R.tw i hi).frame t (fun o e=>s _ _ e (own i hi).1) (fun o e=>s _ _ e (own i hi).2.2) (fun o e=>s _ _ e (own i hi).2.1)
theorem Zx.rd(R:Zx jh ji H X lk c ls){i:Nat}(hi:i<X.ts.length):VR jh ji H X.S X.d lk c X.kvs ls (i:Int) (X.as.getD i .d).x (.ref (X.as.getD i .d).th) (.ref (X.as.getD i .d).tg) (X.as.getD i .d).ab (X.ho i) (iN (X.av i)):=⟨R.sh,R.val i hi,(R.tw i hi).tw⟩
theorem Zx.none(R:Zx jh ji H X lk c ls){x:Int}(hx:inT X.ts x=false):YR X.kvs (Sum.inl x)=vP:=by
 cases z:YR X.kvs (Sum.inl x) with
 | none=>rfl
 | some v=>
  have:=Jv z;rw [R.keys] at this;obtain ⟨i,hi,ei⟩:=zJ.mp this;have e1:=Sum.inl.inj ei;have e2:=yA.mp hi;unfold inT at hx;have:=of_decide_eq_false hx
  lia
theorem Zx.klen(R:Zx jh ji H X lk c ls):X.kvs.length=X.ts.length:=by
 have:=congrArg wL R.keys;simpa using this
end
theorem E8(t:ZS):(if ((t.h:Nat):Int) > 0 then ("stem" : Str) else "leaf")=kindOf t:=by
 unfold kindOf;by_cases h:t.h=0
 ·rw [aP h,aO (by lia)]
 ·rw [aO h,aP (by lia)]
inductive Xr(jh ji:aj)(vs:jf)(H:Hp)(Q:VK)(_:XK):Prop
 | mk (X:YL) (lk:aj) (c:Nat) (ls:jf) (i:Nat) (_:vs=[.ref X.S,.int (i:Int)]) (_:Zx jh ji H X lk c ls) (_:i<X.ts.length) (_:ls.length<=390000) (_:∀(H':Hp)(tp l:aj)(us:jf),(∀ b o,b≠lk->H b=some o->H' b=some o)->Zx jh ji H' X lk c (ls++[.int (i:Int)])->H' tp=some (.tup [.str (kindOf (gd X.ts i)),.ref l])->H l=none->H' l=some (.lst us)->((gd X.ts i).h=0->KeysAt H' (Zv (gd X.ts i).rows) us)->((gd X.ts i).h≠0->us=iN (gd X.ts i).bs)->Q (.ref tp) H')
theorem ZMR(D:ZK P w K mg base ZW 2 jh "look" ["self","number"] (Vv jh ji)):ZK P w K mg base ZW 2 jh "look" ["self","number"] (Xr jh ji):=by
 obtain ⟨g,gd',M,FG,b⟩:=D.ex;refine ⟨g,gd',M,FG.imp fun vs H Q E h=>?_,b⟩;obtain ⟨X,lk,c,ls,i,e,R,hi,l9,k⟩:=h;have W:=R.tw i hi;obtain ⟨us,hu,u1,u2⟩:=W.things;obtain ⟨a,jL,jO,ea,ht,k1,k2⟩:=W.tag;cases ea;have o:=R.own i hi;refine ⟨X.S,X.d,lk,c,X.kvs,ls,i,_,_,_,_,_,_,us,_,_,e,R.rd hi,hu,ht,Ne.symm o.2.2,Ne.symm o.2.1,l9,fun H' l' t fr hlk nl' hl' ht'=>?_⟩;have hlk0:=R.sh.looks;have m:Z1 H H':=fun b xs e=>fr b _ (ZQ e hlk0) e;obtain ⟨⟨dS,hS⟩,hd,_⟩:=R.sh;have ek:(if (YS (gd X.ts i)).h > 0 then ("stem" : Str) else "leaf")=kindOf (gd X.ts i):=E8 _
 rw [ek] at ht';exact k H' t l' us fr (R.frame ⟨⟨dS,fr _ _ (ZQ hS hlk0) hS⟩,fr _ _ (ZQ hd hlk0) hd,hlk⟩ (fun b o _ _ n e=>fr b o n e) (fun j hj=>(R.own j hj).2) R.le) ht' nl' hl' (fun z=>(u1 z).mono m _ _) u2
inductive WC(jh ji:aj)(vs:jf)(H:Hp)(Q:VK)(_:XK):Prop
 | mk (X:YL) (lk:aj) (c:Nat) (ls:jf) (i:Nat) (_:vs=[.ref X.S,.int (i:Int)]) (_:Zx jh ji H X lk c ls) (_:i<X.ts.length) (_:Q (.ref (X.as.getD i .d).tg) H)
theorem Dz(D:ZK P w K mg base ZW 2 jh "label" ["self","number"] (WQ jh ji fun tg _ _=>tg)):ZK P w K mg base ZW 2 jh "label" ["self","number"] (WC jh ji):=by
 obtain ⟨g,gd',M,FG,b⟩:=D.ex;refine ⟨g,gd',M,FG.imp fun vs H Q E h=>?_,b⟩;obtain ⟨X,lk,c,ls,i,e,R,hi,k⟩:=h;exact ⟨X.S,X.d,lk,c,X.kvs,ls,i,_,_,_,_,_,_,e,R.rd hi,k⟩
inductive Vl(jh ji:aj)(vs:jf)(H:Hp)(Q:VK)(_:XK):Prop
 | mk (p:aj) (X:YL) (lk:aj) (c:Nat) (ls:jf) (_:vs=[.ref p,.ref X.S]) (_:ZI H p) (_:Zx jh ji H X lk c ls) (_:X.ts.length<=900) (_:p≠lk) (_:∀ i:Nat,i<X.ts.length->(X.as.getD i .d).ab≠p/\(X.as.getD i .d).th≠p) (_:∀(H':Hp)(g:Int),(∀ b o,b≠p->b≠X.S->b≠X.d->H b=some o->H' b=some o)->ZI H' p->Zx jh ji H' X lk (c+1) ls->inT X.ts g=false->Q (.int g) H')
theorem U5:ZC ["_law_well_here","_law_shelf","_law_number"] ["_law_well_here","_law_shelf"] (Ze Ly):=Zp
theorem ZNy:Qj [(.int 0,.int 0)]:=⟨fun r hr=>by rw [zA.mp hr];exact ⟨by decide +kernel,by decide +kernel⟩,by decide,by decide,List.pairwise_singleton _ _⟩
theorem Ar{kvs:List (Zd×V)}{k:Zd}{v:V}(h:YR kvs k=none):QN (XL kvs k v) k=kvs:=by
 have hk:k∉kvs.map (·.1):=Cf h;rw [Ov v h];unfold QN;rw [xA];have e1:kvs.filter (fun kv=>decide (kv.1≠k))=kvs:=vE.mpr fun a ha=>aM fun z=>hk (zJ.mpr ⟨a,ha,z⟩);rw [e1];simp
theorem ZMv(F:Zj K "_law_gone" "_law_gone" Ly f fd)(L:XA K mg jh ji)(DP:ZB P w K mg base 1 "_law_pull" ["_law_well_here","_law_many"] Zr)(DL:ZK P w K mg base ZW 10 jh "put_leaf" ["self","rows"] (Yk jh ji))(DG:ZK P w K mg base ZW 4 jh "let_go" ["self","number"] (Wp jh ji)):
  ZJ P w K mg base ZW 11 f fd ["_law_well_here","_law_shelf"] (Vl jh ji):=by
 refine F.ko U5 fun cdv A outer s H vs Q E hr h=>?_;obtain ⟨p,X,lk,c,ls,rfl,W,R,l9,plk,own,k⟩:=h;have nd:=U5.nd;have hr1:=hr.mono (show 1<=10 by decide)
 have hr4:=hr.mono (show 4<=10 by decide)
 refine ⟨_,ZR (Zk 2 nd (XT (E:=E0) (pv 1) L.cS DL hr XJ (ZG (Yr (ZG (Yq (ZG ZM (ZG ZM ZF))) ZF)) ZF)))
  (ZR (X8 (XT (E:=E0) (pv 1) L.cS DG hr4 XJ (ZG (pv 2) ZF)))
  (ZU (Zg (Zn (r:=YI K) YO (Yr (WA (pv 2) (Py P8 ZM) (Zw WP (Zw WP (pv 2) ZM) (Zh DP hr1 (ZG (pv 0) (ZG ZM ZF)))))) (Zh DP hr1 (ZG (pv 0) (ZG ZM ZF))) (fun _ _=>rfl))))),?_⟩
 obtain ⟨⟨dx,hS⟩,hd,hlk⟩:=R.sh;obtain ⟨pw,hp⟩:=W.some;refine ⟨_,rfl,X.S,dx,_,rfl,hS,rfl,Z0,fun t0 n0=>⟨Z0,fun l nl=>?_⟩⟩;have g0:=ZY n0 (.tup [.int 0,.int 0]);have g1:=ZY nl (.lst [.ref t0]);have g:=g0.trans g1;have et:=g1 _ _ (ZP (H:=H) (a:=t0) (o:=.tup [.int 0,.int 0]));have el:=ZP (H:=upd H t0 (.tup [.int 0,.int 0])) (a:=l) (o:=.lst [.ref t0]);generalize upd (upd H t0 (.tup [.int 0,.int 0])) l (.lst [.ref t0])=H1 at g et el ⊢;have R1:=R.same g;refine ⟨X.S,X.d,lk,l,c,X.kvs,ls,[.ref t0],[(.int 0,.int 0)],rfl,R1.sh,by rw [R.klen];exact l9,el,.cons (.tup et (.cons (.int 0) (.cons (.int 0) .nil))) .nil,ZNy,fun H2 x th tg ab nx nth nab abth fr sh2 W2 _ htg=>?_⟩
 have nv:YR X.kvs (Sum.inl (c:Int))=none:=R.none (by unfold inT;exact aK (by have:=R.le;lia))
 obtain ⟨a,jL,jO,ea,htg',_,_⟩:=htg;cases ea;obtain ⟨dx2,hS2⟩:=sh2.self;have xS:x≠X.S:=(Za (g _ _ hS) nx).symm;have ev:YR (XL X.kvs (Sum.inl (c:Int)) (.ref x)) (Sum.inl (c:Int))=some (.ref x):=by rw [Nh,aP rfl]
 refine ⟨_,rfl,X.S,dx2,_,rfl,hS2,rfl,_,rfl,X.S,X.d,lk,c+1,XL X.kvs (Sum.inl (c:Int)) (.ref x),ls,(c:Int),x,.ref th,tg,ab,rfl,⟨⟨sh2,ev,W2⟩,_,htg'⟩,xS,fun H3 fr3 hd3=>?_⟩;rw [Ar nv] at hd3;obtain ⟨dt,hx2⟩:=W2.self;have hlk2:=sh2.looks;have fr03:∀ b o,b≠X.S->b≠X.d->H b=some o->H3 b=some o:=fun b o n1 n2 e=>fr3 b o (Za (g _ _ e) nx) n2 (fr b o n1 n2 (g b o e));have hS3:=fr3 _ _ (Ne.symm xS) (ZQ hS2 sh2.kept) hS2;have hlk3:=fr3 _ _ (ZQ hlk2 hx2) (ZQ hlk2 sh2.kept) hlk2;have R3:Zx jh ji H3 X lk (c+1) ls:=R.frame ⟨⟨dx2,hS3⟩,hd3,hlk3⟩ (fun b o n1 n2 _ e=>fr03 b o n1 n2 e) (fun i hi=>(R.own i hi).2) (by have:=R.le;lia)
 have pS:p≠X.S:=ZQ hp hS;have pd:p≠X.d:=ZQ hp hd;have W3:ZI H3 p:=Od W fun o e=>fr03 _ _ pS pd e;have hN:¬ Om X lk p:=by
  rintro (z | z | z)
  ·exact pS z
  ·exact pd z
  ·exact plk z
 have own3:∀ i:Nat,i<X.ts.length->(X.as.getD i .d).x≠p/\(X.as.getD i .d).ab≠p/\(X.as.getD i .d).th≠p:=fun i hi=>by
  obtain ⟨dy,hy⟩:=(R.tw i hi).tw.self;exact ⟨ZQ hy hp,own i hi⟩
 refine ⟨_,rfl,1,rfl,_,rfl,_,_,rfl,rfl,_,rfl,p,1000,rfl,W3,Xi (by decide) (by decide),fun r H4 r0 r1 W4 s4=>⟨_,_,rfl,rfl,Z0,fun q nq=>?_⟩⟩
 have g5:=ZY nq (.lst [.int (c:Int),.int (-1),.int ((c:Int)+1+r)]);have eq:=ZP (H:=H4) (a:=q) (o:=.lst [.int (c:Int),.int (-1),.int ((c:Int)+1+r)]);have qp:q≠p:=UJ W4 nq;generalize upd H4 q (.lst [.int (c:Int),.int (-1),.int ((c:Int)+1+r)])=H5 at g5 eq ⊢;refine ⟨_,rfl,p,3,rfl,W4.same g5,Xi (by decide) (by decide),fun j H6 j0 j1 W6 s6=>?_⟩
 have eq6:=s6 _ _ eq qp;obtain ⟨v,av,mv⟩:=Q7 (xs:=[V.int (c:Int),.int (-1),.int ((c:Int)+1+r)]) j0 j1;have s36:ZE p H3 H6:=(s4.trans (ZE.of g5)).trans s6;have R6:=R3.but s36 hN own3 (s36.tupsW W3);have fin:∀ z:Int,inT X.ts z=false->Q (.int z) H6:=fun z hz=>k H6 z (fun b o n0 n1 n2 e=>s36 b o (fr03 b o n1 n2 e) n0) W6 R6 hz;have lc:=R.le;refine .inl ⟨q,_,_,v,rfl,rfl,ZL.of eq6,av,?_⟩;simp only [zB,vY,or_false] at mv;rcases mv with rfl | rfl | rfl
 ·exact fin _ (by unfold inT;exact aK (by lia))
 ·exact fin _ (by unfold inT;exact aK (by lia))
 ·exact fin _ (by unfold inT;exact aK (by lia))
def MW(rs:List KT):Prop:=rs.Pairwise fun a b=>b.lt a=false
theorem JP{rs:List KT}(h:MW rs){i j:Nat}{a b:KT}(jz:i<=j)(ha:rs[i]? = some a)(hb:rs[j]? = some b):b.lt a=false:=by
 obtain ⟨hi,rfl⟩:=yV.mp ha;obtain ⟨hj,rfl⟩:=yV.mp hb;rcases zC i j with c | c
 ·exact qY.mp h i j hi hj c
 ·have:i=j:=by lia
  subst this;exact QH _
def XW(ts:List KT)(t:KT):Nat:=(ts.filter fun x=>x.lt t).length
theorem AV{ts:List KT}{t:KT}{m:Nat}(hm:m<=ts.length)(h1:∀ i a,i<m->ts[i]? = some a->a.lt t=true)(h2:∀ i a,m<=i->ts[i]? = some a->a.lt t=false):XW ts t=m:=by
 unfold XW;have e:ts=ts.take m++ts.drop m:=(wE m ts).symm;rw [e,xA,zU];have a1:(ts.take m).filter (fun x=>x.lt t)=ts.take m:=vE.mpr fun a ha=>by
  obtain ⟨i,hi⟩:=vA ha;have hlt:i<m:=by
   have:=(yV.mp hi).1;rw [xH] at this
   lia
  rw [List.getElem?_take,aP hlt] at hi;exact h1 i a hlt hi
 have a2:(ts.drop m).filter (fun x=>x.lt t)=[]:=vS.mpr fun a ha=>by
  obtain ⟨j,hj⟩:=vA ha;rw [List.getElem?_drop] at hj;rw [h2 (m+j) a (Nat.le_add_right _ _) hj];exact zW
 rw [a1,a2,xH];simp
 lia
inductive Wz(K:zZ)(vs:jf)(H:Hp)(Q:VK)(_:XK):Prop
 | mk (l:aj) (us:jf) (ts:List KT) (v:V) (t:KT) (_:vs=[.ref l,v]) (_:ZL K H l us) (_:KeysAt H ts us) (_:∀ t∈ts,t.fits 3=true) (_:us.length<=100) (_:MW ts) (_:ZD H t v) (_:t.fits 3=true) (_:∀ H',ZA H H'->Q (.int (XW ts t:Nat)) H')
abbrev ZOf:List Str:=["keys","key","low","high","middle"]
theorem Vx:ZC ZOf ["keys","key"] (Ze Lq):=Zp
theorem ZLP(F:Zj K "place_in" "place_in" Lq f fd)(T:YF mg)(DA:ZB P w K mg base 7 "ahead" ["one","other"] Yo):ZJ P w K mg base ZW 8 f fd ["keys","key"] (Wz K):=by
 refine F.ko Vx fun cdv A outer s H vs Q E hr h=>?_;obtain ⟨l,us,ts,v,t,rfl,hl,hk,hf,h100,ha,hv,ht,q⟩:=h;have nd:=Vx.nd;have hlen:=hk.length;refine ⟨_,ZR (Zk 2 nd ZM)
  (ZR (Zk 3 nd (Z4 Xu rfl T.len Xl (ZG (pv 0) ZF)))
  (ZR (Qr PassesOwn.never (Y8 PJ (pv 2) (pv 3) (YK _))
   (ZR (Zk 4 nd (Zw NV (Zw WP (pv 2) (pv 3)) ZM))
   (ZU (Z5 (Y9 (Zh DA hr (ZG (Zn (r:=YI K) YO (pv 0) (pv 4) (fun _ _=>rfl)) (ZG (pv 1) ZF))))
    (ZU (Zk 2 nd (Zw WP (pv 4) ZM))) (ZU (Zk 3 nd (pv 4)))))))
  (ZU (Zg (pv 2))))),?_⟩
 refine ⟨_,rfl,l,us,rfl,.inl hl,?_⟩;refine ⟨fun m σ H'=>∃(lo hi:Nat)(x:jg),σ=[some (.ref l),some v,some (.int (lo:Int)),some (.int (hi:Int)),x]/\ZA H H'/\lo<=hi/\hi<=ts.length/\m=hi - lo/\(∀ i a,i<lo->ts[i]? = some a->a.lt t=true)/\(∀ i a,hi<=i->ts[i]? = some a->a.lt t=false),
  ⟨_,0,us.length,none,rfl,ZA.refl H,zG _,by lia,rfl,fun i a hi=>absurd hi (by lia),fun i a hi hg=>?_⟩,?_⟩
 ·have:=(yV.mp hg).1
  lia
 rintro m σ H1 ⟨lo,hi,x,rfl,s1,h1,h2,rfl,g1,g2⟩;refine ⟨_,rfl,_,rfl,_,_,rfl,rfl,_,rfl,?_⟩;refine We (fun c=>?_) (fun c=>?_)
 ·have hlt:(lo:Int)<(hi:Int):=of_decide_eq_true c;refine ⟨fun σ' H'=>∃ m',m'<hi - lo/\∃(lo' hi':Nat)(x:jg),σ'=[some (.ref l),some v,some (.int (lo':Int)),some (.int (hi':Int)),x]/\ZA H H'/\lo'<=hi'/\hi'<=ts.length/\m'=hi' - lo'/\(∀ i a,i<lo'->ts[i]? = some a->a.lt t=true)/\(∀ i a,hi'<=i->ts[i]? = some a->a.lt t=false),fun _ _ h=>h,?_⟩;refine ⟨_,rfl,_,rfl,_,_,rfl,rfl,_,_,rfl,rfl,⟨by lia,by decide⟩,?_⟩
  obtain ⟨mid,em,hm1,hm2⟩:∃ mid:Nat,((lo:Int)+(hi:Int)) / 2=(mid:Int)/\lo<=mid/\mid<hi:=⟨((lo+hi) / 2:Nat),by lia,by lia,by lia⟩
  show Qt 4 (V.int (((lo:Int)+(hi:Int)) / 2)) _ _ _;rw [em];have hml:mid<us.length:=by lia
  have hum:us[mid]? = some us[mid]:=by simp [hml]
  obtain ⟨tm,etm,ktm⟩:=hk.get hum;refine ⟨_,rfl,_,rfl,.inl ⟨l,us,_,us[mid],rfl,rfl,s1.seq hl,Xb hum,_,rfl,us[mid],v,tm,t,rfl,ktm.mono (ZA.tups s1) _ _,hv.mono (ZA.tups s1) _ _,hf tm (zN etm),ht,fun H2 s2=>⟨_,rfl,?_⟩⟩⟩
  cases hc:tm.lt t with
  | true=>
   refine Z2 ⟨_,rfl,_,_,rfl,rfl,hi - (mid+1),by lia,mid+1,hi,_,rfl,s1.trans s2,by lia,h2,rfl,fun i a hi' hg=>?_,g2⟩
   exact Kf (JP ha (show i<=mid by lia) hg etm) hc
  | false=>
   refine Zm ⟨_,rfl,mid - lo,by lia,lo,mid,_,rfl,s1.trans s2,hm1,by lia,rfl,g1,fun i a hi' hg=>?_⟩
   exact le_trans' hc (JP ha hi' etm hg)
 ·have hge:¬ (lo:Int)<(hi:Int):=fun z=>c (aM z);refine ⟨_,rfl,?_⟩;rw [<-AV (ts:=ts) (t:=t) (m:=lo) (by lia) g1 fun i a hi'=>g2 i a (by lia)]
  exact q H1 s1
def Yv(ts:List ZS)(k:KT)(i:Nat):Nat:=if (gd ts i).h=0 then XW ((gd ts i).rows.map (·.1)) k else ((gd ts i).bs.filter fun b=>!k.lt (YS (gd ts b)).lo).length - 1
def UY(ts:List ZS)(k:KT)(i:Nat):Nat:=(gd ts i).bs.getD (Yv ts k i) 0
def UW(ts:List ZS)(k:KT):Nat->Nat->List (Nat×Nat)
 | 0,i=>[(i,Yv ts k i)]
 | n+1,i=>(i,Yv ts k i) :: UW ts k n (UY ts k i)
theorem NC(ts:List ZS)(k:KT):∀ n i,(UW ts k n i).length=n+1
 | 0,_=>rfl
 | n+1,i=>by rw [UW,zI,NC]
theorem HI{gt:List KT}{ts:List ZS}(hw:WF gt ts){i:Nat}(hi:i<ts.length)(h0:(gd ts i).h≠0)(k:KT):Yv ts k i<(gd ts i).bs.length:=by
 have:=(hw i _ (XI hi)).stem h0;unfold Yv;rw [aO h0];have l:=uY (fun b=>!k.lt (YS (gd ts b)).lo) (gd ts i).bs
 lia
theorem NO{gt:List KT}{ts:List ZS}(hw:WF gt ts){i:Nat}(hi:i<ts.length)(h0:(gd ts i).h≠0)(k:KT):UY ts k i<i/\(gd ts (UY ts k i)).h+1=(gd ts i).h/\(gd ts i).bs[Yv ts k i]? = some (UY ts k i):=by
 have hl:=HI hw hi h0 k;have hs:=(hw i _ (XI hi)).stem h0;have e:(gd ts i).bs[Yv ts k i]? = some (UY ts k i):=by
  unfold UY;rw [zV,zT hl];rfl
 have:=hs.2.2.1 _ (zN e);exact ⟨this.1,this.2,e⟩
def Ys(N:aj->Prop)(H:Hp)(t:ZS)(u:V):Prop:=∃ tp l us,u=.ref tp/\H tp=some (.tup [.str (kindOf t),.ref l])/\H l=some (.lst us)/\¬ N l/\(t.h=0->KeysAt H (Zv t.rows) us)/\(t.h≠0->us=iN t.bs)
theorem Ys.off{N:aj->Prop}{H H':Hp}{t:ZS}{u:V}(h:Ys N H t u)(fr:∀ b o,¬ N b->H b=some o->H' b=some o)(m:Z1 H H'):Ys N H' t u:=by
 obtain ⟨tp,l,us,e,h1,h2,n,h3,h4⟩:=h;exact ⟨tp,l,us,e,m _ _ h1,fr _ _ n h2,n,fun z=>(h3 z).mono m _ _,h4⟩
theorem IL{t:ZS}(h:t.h=0):kindOf t = "leaf" :=aP h
theorem Il{t:ZS}(h:t.h≠0):kindOf t = "stem" :=aO h
theorem G3(t:ZS):decide (V.str (kindOf t)=V.str "leaf")=decide (t.h=0):=by
 by_cases h:t.h=0
 ·rw [IL h,aM rfl,aM h]
 ·rw [Il h,aK h];decide +kernel
theorem ZOu{gt:List KT}{ts:List ZS}(hw:WF gt ts){i:Nat}(hi:i<ts.length):MW ((gd ts i).rows.map (·.1)):=(hw i _ (XI hi)).up.imp fun{a b} q=>PX _ _ q
inductive Yb(vs:jf)(H:Hp)(Q:VK)(_:XK):Prop
 | mk (N:aj->Prop) (t:ZS) (u:V) (_:vs=[u]) (_:Ys N H t u) (_:Q (.bl (decide (t.h=0))) H)
theorem ZKT:ZC ["found"] ["found"] (Ze KR):=Zp
theorem ZIj(F:Zj K "is_leaf" "is_leaf" KR f fd):ZJ P w K mg base ZW 1 f fd ["found"] Yb:=by
 refine F.ko ZKT fun cdv A outer s H vs Q E hr h=>?_;obtain ⟨lk,t,u,rfl,⟨tp,l,us,rfl,h1,_⟩,k⟩:=h;refine ⟨_,ZU (Zg (VQ VM (Zn (r:=Xk K) Zi (pv 0) ZM (fun _ _=>rfl)) Xq (YK _))),?_⟩;refine ⟨_,rfl,tp,_,_,.str (kindOf t),rfl,rfl,Zo.of h1,rfl,rfl,?_⟩;rw [G3];exact k
inductive XF(vs:jf)(H:Hp)(Q:VK)(_:XK):Prop
 | mk (N:aj->Prop) (t:ZS) (u:V) (n:Nat) (_:vs=[u,.int (n:Int)]) (_:Ys N H t u) (_:t.h=0->Q .non H) (_:t.h≠0->∃ b,t.bs[n]? = some b/\Q (.int (b:Nat)) H)
theorem Ax:ZC ["found","at"] ["found","at"] (Ze LN):=Zp
theorem Bt(F:Zj K "branch_at" "branch_at" LN f fd)(DL:ZB P w K mg base 1 "is_leaf" ["found"] Yb):ZJ P w K mg base ZW 2 f fd ["found","at"] XF:=by
 refine F.ko Ax fun cdv A outer s H vs Q E hr h=>?_;obtain ⟨lk,t,u,n,rfl,hf,k0,k1⟩:=h;refine ⟨_,ZR (Z5 (Y9 (Zh DL hr (ZG (pv 0) ZF))) (ZU (Zg O0)) Z7) (ZU (Zg (Zn (r:=YI K) YO (Zn (r:=Xk K) Zi (pv 0) ZM (fun _ _=>rfl)) (pv 1) (fun _ _=>rfl)))),?_⟩;refine ⟨_,rfl,lk,t,u,rfl,hf,_,rfl,?_⟩;obtain ⟨tp,l,us,rfl,h1,h2,n1,h3,h4⟩:=hf;by_cases h:t.h=0
 ·rw [aM h];exact Z2 (k0 h)
 ·rw [aK h];obtain ⟨b,eb,q⟩:=k1 h;have eu:=h4 h;subst eu;refine Zm ⟨_,rfl,tp,_,_,.ref l,rfl,rfl,Zo.of h1,rfl,_,rfl,.inl ⟨l,_,_,.int (b:Nat),rfl,rfl,ZL.of h2,Xb (by unfold iN;rw [zL,eb];rfl),q⟩⟩
inductive X5(gt:List KT)(jh ji:aj)(vs:jf)(H:Hp)(Q:VK)(_:XK):Prop
 | mk (X:YL) (lk:aj) (c:Nat) (ls:jf) (i:Nat) (u v:V) (k:KT) (N:aj->Prop) (_:vs=[.ref X.S,u,v]) (_:Zx jh ji H X lk c ls) (_:WF gt X.ts) (_:i<X.ts.length) (_:Ys N H (gd X.ts i) u) (_:ZD H k v) (_:k.fits 3=true) (_:∀ H',ZA H H'->Q (.int (Yv X.ts k i:Nat)) H')
theorem VI:ZC ["shelf","found","key","begun"] ["shelf","found","key"] (Ze Mw):=Zp
theorem Oc{α:Type}(p:α->Bool){l:List α}{i:Nat}{b:α}(e:l[i]? = some b):(l.take (i+1)).filter p=(l.take i).filter p++(if p b=true then [b] else []):=by
 rw [yL,e,Option.toList_some,xA]
 congr 1
 rw [vZ];cases p b <;> rfl
theorem EU{gt:List KT}(F:Zj K "place_within" "place_within" Mw f fd)(T:YF mg)(L:XA K mg jh ji)(DL:ZB P w K mg base 1 "is_leaf" ["found"] Yb)(DP:ZB P w K mg base 8 "place_in" ["keys","key"] (Wz K))(DA:ZB P w K mg base 7 "ahead" ["one","other"] Yo)(DB:ZK P w K mg base ZW 2 jh "label" ["self","number"] (WC jh ji)):
  ZJ P w K mg base ZW 9 f fd ["shelf","found","key"] (X5 gt jh ji):=by
 refine F.ko VI fun cdv A outer s H vs Q E hr h=>?_;obtain ⟨X,lk,c,ls,i,u,v,k,N,rfl,R,hw,hi,hf,hv,fk,q⟩:=h;have nd:=VI.nd;have hr1:=hr.mono (show 1<=8 by decide)
 have hr2:=hr.mono (show 2<=8 by decide)
 have hr7:=hr.mono (show 7<=8 by decide)
 obtain ⟨t1,m1⟩:=T.least;refine ⟨_,ZR (Z5 (Y9 (Zh DL hr1 (ZG (pv 1) ZF))) (ZU (Zg (Zh DP hr (ZG (VZ [] [] rfl (VE (Zn (r:=Xk K) Zi (pv 1) ZM (fun _ _=>rfl))) (fun _ _ _ _ _=>Vc) (fun _ _ _ _ _=>Zn (r:=Xk K) Zi (pv 0) ZM (fun _ _=>rfl)) trivial) (ZG (pv 2) ZF))))) Z7)
  (ZR (M4 (i:=3) [2,0] ["key","shelf"] nd rfl rfl rfl (VE (Zn (r:=Xk K) Zi (pv 1) ZM (fun _ _=>rfl))) (fun _ _ _ _ _=>Ki (VG (Y9 (Zh DA hr7 (ZG (pv 1) (ZG (Zn (r:=Xk K) Zi (XT (E:=E0) (pv 2) L.cS DB hr2 XJ (ZG (pv 0) ZF)) (WN (v:=.int 1) rfl m1 ⟨_,rfl⟩) (fun _ _=>rfl)) ZF)))))) (fun _ _ _ _ _=>pv 0) ⟨rfl,.inl rfl,rfl,rfl,.inl rfl,rfl,trivial⟩)
  (ZU (Zg (Z4 (LE rfl) rfl T.max Lj (ZG (Zw Vp (Z4 Xu rfl T.len Xl (ZG (pv 3) ZF)) ZM) (ZG ZM ZF)))))),?_⟩
 refine ⟨_,rfl,N,gd X.ts i,u,rfl,hf,_,rfl,?_⟩;obtain ⟨tp,l,us,rfl,h1,h2,n1,h3,h4⟩:=hf;have ok:=hw i _ (XI hi);by_cases h:(gd X.ts i).h=0
 ·rw [aM h];have kr:=h3 h;have lr:us.length=(gd X.ts i).rows.length:=by have:=kr.length;rw [<-this];exact zX _
  have l4:=(ok.leaf h).2;refine Z2 ⟨_,rfl,tp,_,_,.ref l,rfl,rfl,Zo.of h1,rfl,l,rfl,⟨us,ZL.of h2⟩,VY (n:=us.length) (fun i z=>us[i]? = some z) (fun D j ys H3=>ZA H H3/\H D=none/\KeysAt H (((gd X.ts i).rows.map (·.1)).take j) ys) (XM (by lia))
   (fun D j ys H3 hj hP=>⟨us,us[j],ZL.of (hP.1 _ _ h2),by simp [hj]⟩) (fun D j ys H3 z H4 hj hP hy=>⟨hy.1,hy.2 us (ZL.of (hP.1 _ _ h2))⟩) (fun D ys H3 hP=>⟨us,ZL.of (hP.1 _ _ h2),zY _⟩)
   (fun D hD=>⟨ZY hD _,hD,.nil⟩) (fun D j ys H3 z eD hl' hj hz hP RR jQ=>?_) (fun D ys H3 eD hP=>?_)⟩
  ·obtain ⟨s3,nD,kys⟩:=hP;obtain ⟨a,vk,vv,er,rfl,ea,k1,k2⟩:=row_at kr hz;refine ⟨_,rfl,a,_,_,vk,rfl,rfl,Zo.of (s3 _ _ ea),rfl,jQ _ H3 eD ⟨UO s3 nD,nD,?_⟩⟩;rw [yL,zL,er];exact kys.append (.cons k1 .nil)
  ·obtain ⟨s3,nD,kys⟩:=hP;rw [yR (by rw [zX];lia)] at kys
   have lk':=kys.length;rw [zX] at lk';refine ⟨_,rfl,D,ys,_,v,k,rfl,ZL.of eD,kys.mono (ZA.tups s3) _ _,fun t ht=>?_,by lia,ZOu hw hi,hv.mono (ZA.tups s3) _ _,fk,fun H4 s4=>?_⟩
   ·obtain ⟨r,hr',rfl⟩:=zJ.mp ht;exact (ok.inn r hr').1
   ·have e:Yv X.ts k i=XW ((gd X.ts i).rows.map (·.1)) k:=aP h;rw [<-e];exact q H4 (s3.trans s4)
 ·rw [aK h];have eu:=h4 h;have ob:=ok.stem h;have lu:us.length=(gd X.ts i).bs.length:=by rw [eu];exact zX _
  refine Zm ⟨_,rfl,tp,_,_,.ref l,rfl,rfl,Zo.of h1,rfl,l,rfl,⟨us,ZL.of h2⟩,ML (n:=us.length) (fun i z=>us[i]? = some z) (fun j=>!k.lt (YS (gd X.ts ((gd X.ts i).bs.getD j 0))).lo) (fun D j ys H3=>ZA H H3/\H D=none/\ys.length=(((gd X.ts i).bs.take j).filter fun b=>!k.lt (YS (gd X.ts b)).lo).length) (XM (by lia))
   (fun D j ys H3 hj hP=>⟨us,us[j],ZL.of (hP.1 _ _ h2),by simp [hj]⟩) (fun D j ys H3 z H4 hj hP hy=>⟨hy.1,hy.2 us (ZL.of (hP.1 _ _ h2))⟩) (fun D ys H3 hP=>⟨us,ZL.of (hP.1 _ _ h2),zY _⟩)
   (fun D hD=>⟨ZY hD _,hD,rfl⟩) (fun D j ys H3 z eD hj hz hP B hB=>?_) (fun D j ys H3 z eD hj hz hk hP B hB=>?_) (fun D j ys H3 eD hj hk hP=>?_) (fun D ys H3 eD hP=>?_)⟩
  ·obtain ⟨s3,nD,ly⟩:=hP;rw [eu] at hz;obtain ⟨b,eb,rfl⟩:=OD hz;have ebd:(gd X.ts i).bs.getD j 0=b:=by rw [zV,eb];rfl
   have hb:=ob.2.2.1 b (zN eb);have hbl:b<X.ts.length:=by lia
   have R3:=R.same s3;obtain ⟨dx,hS⟩:=R3.sh.self;obtain ⟨a,jL,jO,ea,ht,k1,k2⟩:=(R3.tw b hbl).tag;cases ea;have okb:=hw b _ (XI hbl);refine ⟨_,rfl,_,rfl,X.S,dx,_,rfl,hS,rfl,_,rfl,X,lk,c,ls,b,rfl,R3,hbl,_,_,_,jL,rfl,rfl,Zo.of ht,rfl,v,jL,k,(YS (gd X.ts b)).lo,rfl,hv.mono (ZA.tups s3) _ _,k1,fk,(GQ okb).1,fun H4 s4=>⟨_,rfl,?_⟩⟩;have:=hB H4 (s4 _ _ eD) ⟨s3.trans s4,nD,ly⟩;rw [ebd] at this;exact this
  ·obtain ⟨s3,nD,ly⟩:=hP;rw [eu] at hz;obtain ⟨b,eb,rfl⟩:=OD hz;have ebd:(gd X.ts i).bs.getD j 0=b:=by rw [zV,eb];rfl
   rw [ebd] at hk;refine ⟨_,rfl,hB _ H3 eD ⟨UO s3 nD,nD,?_⟩⟩;rw [Oc _ eb,aP hk,zU,zU,ly];rfl
  ·obtain ⟨s3,nD,ly⟩:=hP;have hj':j<(gd X.ts i).bs.length:=by lia
   have eb:(gd X.ts i).bs[j]? = some ((gd X.ts i).bs.getD j 0):=by rw [zV,zT hj'];rfl
   refine ⟨s3,nD,?_⟩;rw [Oc _ eb,aO (by rw [hk];exact zW),yO]
   exact ly
  ·obtain ⟨s3,nD,ly⟩:=hP;rw [yR (by lia)] at ly
   refine ⟨_,rfl,D,ys,rfl,.inl (ZL.of eD),_,_,rfl,rfl,_,_,rfl,?_⟩;have e:Yv X.ts k i=ys.length - 1:=by rw [ly];exact aO h
   have e2:(if (0:Int) > ((ys.length:Nat):Int) - 1 then (0:Int) else ((ys.length:Nat):Int) - 1)=((Yv X.ts k i:Nat):Int):=by
    rw [e];split <;> lia
   have:=q H3 s3;rw [<-e2] at this;exact this
def UA(N:aj->Prop)(H:Hp)(o:Option KT)(v:V):Prop:=match o with
 | some t=>ZD H t v/\t.fits 3=true
 | none=>∃ g:TG,Zl N H g v/\g.neat/\g.fits 3=false
theorem UA.mono{N:aj->Prop}{H H':Hp}{v:V}{o:Option KT}(h:UA N H o v)(m:Yp N H H'):UA N H' o v:=by
 cases o with
 | some t=>exact ⟨h.1.mono m.tup,h.2⟩
 | none=>
  obtain ⟨g,h1,h2,h3⟩:=h;exact ⟨g,h1.mono m,h2,h3⟩
theorem UA.tg{N:aj->Prop}{H:Hp}{v:V}{o:Option KT}(h:UA N H o v):∃ g:TG,Zl N H g v/\g.neat/\g.fits 3=o.isSome:=by
 cases o with
 | some t=>exact ⟨t.emb,Md t v h.1,MM t 3 h.2,by rw [Mn];exact h.2⟩
 | none=>exact h
structure Z3(P:ao)(w:ay)(K:zZ)(mg:jc)(base:aF)(k:Nat)(x:Str)(ps:List Str)(sp:Sp):Prop where
 ex:∃ f fd,ZJ P w K mg base (XD P w) k f fd ps sp/\Zt K fd ps []/\yQ K (.ref f)=true/\mg x=some (.ref f)
theorem ZZ.ofD{P:ao}{w:ay}{K:zZ}{mg:jc}{base:aF}{x:Str}{st:aE}{ps:List Str}{k:Nat}{sp:Sp}(L:ZZ K mg x st ps)(h:∀ f fd,Zj K x x st f fd->ZJ P w K mg base (XD P w) k f fd ps sp):Z3 P w K mg base k x ps sp:=by
 obtain ⟨f,fd,F,b,m⟩:=L.ex;exact ⟨f,fd,h f fd F,b,F.kp,m⟩
theorem UR{X:Cx}{E:XK}{k:Nat}{x:Str}{ps:List Str}{sp:Sp}{e:Expr}{es:List Expr}{t:TA}{p pos:Pos}(F:V8 X E)(D:Z3 X.prog X.w X.K X.mg X.base k x ps sp)(hr:ZX k X.A)(ha:PA X (e :: es) t)(hg:Gl X x:=by rfl)(jy:(x==("__debug__" : Str))=false:=by decide)(he:ax (e :: es) X.env=(false,aI e X.env) :: ax es X.env:=by rfl)(jv:(aH pos (ax es X.env)).any (·.1)=false:=by rfl):
  PE X (.Call (.Name x p) (e :: es) [] pos) (NH sp [] E t):=by
 obtain ⟨f,fd,FF,b,kp,m⟩:=D.ex;exact KY FF hr hg m kp b .nil (NL F fun _ _ _ h=>h) ha jy he jv
abbrev Q8:je:=[.type "ValueError",.type "Exception",.type "BaseException",.type "object"]
structure Ii(K:zZ)(mg:jc)(CK:aj):Prop where
 at_:mg "NoKey" = some (.ref CK)
 exk:uO K CK Q8 "ValueError.__new__" = true
 kp:yQ K (.ref CK)=true
 mB:yW K CK (.type "BaseException")=some true
 ty:yE K (.ref CK)=some (.type "type")
def YE:Option Int->V
 | none=>.non
 | some x=>.int x
def VB(ts:List ZS)(k:KT):Option Nat->List (Nat×Nat)
 | none=>[]
 | some i=>UW ts k (gd ts i).h i
def Zy:Option Nat->Option Int
 | none=>none
 | some i=>some (i:Int)
def YU(N:aj->Prop)(H:Hp)(ts:List ZS)(p:Nat×Nat)(u:V):Prop:=∃ t fv,u=.ref t/\H t=some (.tup [.int (p.1:Int),.int (p.2:Int),fv])/\Ys N H (gd ts p.1) fv
theorem YU.off{N:aj->Prop}{H H':Hp}{ts:List ZS}{p:Nat×Nat}{u:V}(h:YU N H ts p u)(fr:∀ b o,¬ N b->H b=some o->H' b=some o)(m:Z1 H H'):YU N H' ts p u:=by
 obtain ⟨t,fv,e,h1,h2⟩:=h;exact ⟨t,fv,e,m _ _ h1,Ys.off h2 fr m⟩
def US(ts:List ZS):Option Int->Bool
 | none=>true
 | some x=>inT ts x
inductive YN(CK:aj)(vs:jf)(H:Hp)(Q:VK)(E:XK):Prop
 | mk (v:V) (N:aj->Prop) (o:Option KT) (_:vs=[v]) (_:UA N H o v) (_:o.isSome=true->∀ H',ZA H H'->Q v H') (_:o=none->∀ H',ZA H H'->E (.ref CK) none H')
theorem Ft(F:Zj K "checked" "checked" O8 f fd)(kin:K.In base)(L:Ii K mg CK)(DI:ZB P w K mg base 6 "is_key" ["thing"] XQ):ZJ P w K mg base (XD P w) 7 f fd ["thing"] (YN CK):=by
 refine F.kD Hd fun cdv A outer s H vs Q E hr h=>?_;obtain ⟨v,N,o,rfl,hv,k1,k2⟩:=h;refine ⟨_,ZR (Z5 (VG (Y9 (Zh DI hr (ZG (pv 0) ZF)))) (ZU (ZH5 Wt (AW kin L.at_ L.exk) L.kp L.mB L.ty rfl)) Z7) (ZU (Zg (pv 0))),?_⟩;obtain ⟨g,tg,ng,fg⟩:=hv.tg;refine ⟨_,rfl,v,g,N,rfl,tg,ng,fun H1 s1=>⟨_,rfl,?_⟩⟩;rw [fg]
 cases o with
 | some t=>exact Zm ⟨_,rfl,k1 rfl H1 s1⟩
 | none=>exact Z2 (k2 rfl H1 s1)
inductive YH(jh ji CT CK:aj)(vs:jf)(H:Hp)(Q:VK)(E:XK):Prop
 | mk (X:YL) (lk:aj) (c:Nat) (ls:jf) (r:Option Int) (v:V) (N:aj->Prop) (o:Option KT) (_:vs=[.ref X.S,YE r,v]) (_:Zx jh ji H X lk c ls) (_:UA N H o v) (_:∀ x,r=some x->inT X.ts x=false->QG CT x E H) (_:US X.ts r=true->o=none->∀ H',ZA H H'->E (.ref CK) none H') (_:US X.ts r=true->o.isSome=true->∀ H',ZA H H'->Q .non H')
theorem AT:ZC ["shelf","root","key"] ["shelf","root","key"] (Ze Li):=Zp
theorem Aw(F:Zj K "check_asked" "check_asked" Li f fd)(L:XA K mg jh ji)(DL:ZK P w K mg base (XD P w) 4 jh "label" ["self","number"] (XX jh ji CT))(DC:Z3 P w K mg base 7 "checked" ["thing"] (YN CK)):ZJ P w K mg base (XD P w) 8 f fd ["shelf","root","key"] (YH jh ji CT CK):=by
 refine F.kD AT fun cdv A outer s H vs Q E hr h=>?_;obtain ⟨X,lk,c,ls,r,v,N,o,rfl,R,hv,k1,k2,k3⟩:=h;have hr4:=hr.mono (show 4<=7 by decide)
 refine ⟨_,ZR (Z5 (V0 (N6 (pv 1))) (ZU (X8 (XT (E:=E) (pv 0) L.cS DL hr4 (NL Wt fun _ _ _ h=>h) (ZG (pv 1) ZF)))) Z7)
  (ZU (X8 (UR Wt DC hr (ZG (pv 2) ZF)))),?_⟩
 have last:US X.ts r=true->YN CK ([v]++[]) H (fun _ H1=>Q .non H1) E:=fun g=>⟨v,N,o,rfl,hv,fun z H' s'=>k3 g z H' s',fun z H' s'=>k2 g z H' s'⟩
 cases r with
 | none=>
  refine ⟨_,rfl,_,rfl,Zm ⟨_,rfl,last rfl⟩⟩
 | some x=>
  refine ⟨_,rfl,_,rfl,Z2 ?_⟩;obtain ⟨dx,hS⟩:=R.sh.self;refine ⟨_,rfl,X.S,dx,_,rfl,hS,rfl,_,rfl,X.S,X.d,lk,c,X.kvs,ls,x,rfl,R.sh,fun tw hx=>?_,fun hx=>?_⟩
  ·have hi:inT X.ts x=true:=by
    cases z:inT X.ts x with
    | true=>rfl
    | false=>rw [R.none z] at hx;cases hx
   obtain ⟨i,rfl,hi'⟩:=OM hi;rw [R.val i hi'] at hx;cases hx;exact ⟨_,_,_,_,_,_,rfl,(R.tw i hi').tw,_,rfl,last hi⟩
  ·have hi:inT X.ts x=false:=by
    cases z:inT X.ts x with
    | false=>rfl
    | true=>
     obtain ⟨i,rfl,hi'⟩:=OM z;rw [R.val i hi'] at hx;cases hx
   exact k1 x rfl hi
structure QX(gt:List KT)(jh ji CT CK:aj)(H:Hp)(X:YL)(lk:aj)(c:Nat)(ls:jf)(r:Option Int)(v:V)(o:Option KT)(E:XK):Prop where
 sh:Zx jh ji H X lk c ls
 wf:WF gt X.ts
 low:∀ i,i<X.ts.length->(gd X.ts i).h<=60
 few:ls.length<=380000
 key:∃ N,UA N H o v
 no1:∀ x,r=some x->inT X.ts x=false->QG CT x E H
 no2:US X.ts r=true->o=none->∀ H',ZA H H'->E (.ref CK) none H'
def QP(p:List (Nat×Nat)):jf:=p.map fun s=>V.int (s.1:Int)
inductive VD(gt:List KT)(jh ji CT CK:aj)(vs:jf)(H:Hp)(Q:VK)(E:XK):Prop
 | mk (X:YL) (lk:aj) (c:Nat) (ls:jf) (r:Option Int) (v:V) (o:Option KT) (_:vs=[.ref X.S,YE r,v]) (_:QX gt jh ji CT CK H X lk c ls r v o E) (_:∀(k:KT)(rn:Option Nat),o=some k->r=Zy rn->(∀ i,rn=some i->i<X.ts.length)->∀(H':Hp)(D:aj)(us:jf),(∀ b o,b≠lk->H b=some o->H' b=some o)->Zx jh ji H' X lk c (ls++QP (VB X.ts k rn))->H D=none->D≠lk->H' D=some (.lst us)->Paired (YU (fun b=>b=lk\/b=D) H' X.ts) (VB X.ts k rn) us->Q (.ref D) H')
abbrev ZOP:List Str:=["shelf","root","key","steps","number","found","at"]
theorem Vy:ZC ZOP ["shelf","root","key"] (Ze Lk):=Zp
theorem HG{ts:List ZS}{r:Option Int}(h:US ts r=true):∃ rn,r=Zy rn/\∀ i,rn=some i->i<ts.length:=by
 cases r with
 | none=>exact ⟨none,rfl,fun i h=>by cases h⟩
 | some x=>
  obtain ⟨i,rfl,hi⟩:=OM h;exact ⟨some i,rfl,fun j h=>by cases h;exact hi⟩
theorem Eu{gt:List KT}(F:Zj K "steps_to" "steps_to" Lk f fd)(L:XA K mg jh ji)(DC:Z3 P w K mg base 8 "check_asked" ["shelf","root","key"] (YH jh ji CT CK))(DL:ZK P w K mg base ZW 2 jh "look" ["self","number"] (Xr jh ji))(DP:ZB P w K mg base 9 "place_within" ["shelf","found","key"] (X5 gt jh ji))(DB:ZB P w K mg base 2 "branch_at" ["found","at"] XF):
  ZJ P w K mg base (XD P w) 10 f fd ["shelf","root","key"] (VD gt jh ji CT CK):=by
 refine F.kD Vy fun cdv A outer s H vs Q E hr h=>?_;obtain ⟨X,lk,c,ls,r,v,o,rfl,A0,q⟩:=h;have nd:=Vy.nd;have hr2:=hr.mono (show 2<=9 by decide)
 have hr8:=hr.mono (show 8<=9 by decide)
 refine ⟨_,ZR (X8 (UR Wt DC hr8 (WA (pv 0) (pv 1) (pv 2))))
  (ZR (Zk 3 nd (Yr ZF))
  (ZR (Zk 4 nd (pv 1))
  (ZR (Qr Lz (V0 (N6 (pv 4)))
   (ZR (Zk 5 nd (XT (E:=E0) (pv 0) L.cS DL hr2 XJ (ZG (pv 4) ZF)))
   (ZR (Zk 6 nd (Zh DP hr (WA (pv 0) (pv 5) (pv 2))))
   (ZR (X8 (U0 yC wZ wY QD (pv 3) (ZG (Yq (WA (pv 4) (pv 6) (pv 5))) ZF)))
   (ZU (Zk 4 nd (Zh DB hr2 (ZG (pv 5) (ZG (pv 6) ZF)))))))))
  (ZU (Zg (pv 3)))))),?_⟩
 obtain ⟨N,hv⟩:=A0.key;refine ⟨_,rfl,_,rfl,_,rfl,X,lk,c,ls,r,v,N,o,rfl,A0.sh,hv,A0.no1,A0.no2,fun gr go H1 s1=>?_⟩;obtain ⟨rn,rfl,jm⟩:=HG gr;obtain ⟨k,rfl⟩:=vR.mp go;obtain ⟨kv,fk⟩:=hv;have R1:=A0.sh.same s1;refine ⟨Z0,fun D nD=>?_⟩;have gD:=ZY nD (.lst []);have eD:=ZP (H:=H1) (a:=D) (o:=.lst []);have nD0:H D=none:=s1.free nD;have Dlk:D≠lk:=(Za R1.sh.looks nD).symm;have R2:=R1.same gD;have s2:=s1.trans gD;generalize upd H1 D (.lst [])=H2 at gD eD R2 s2 ⊢;refine ⟨_,rfl,?_⟩;have hw:=A0.wf;refine ⟨fun m σ H'=>∃(cur:Option Nat)(pre:List (Nat×Nat))(us:jf)(x5 x6:jg),σ=[some (.ref X.S),some (YE (Zy rn)),some v,some (.ref D),some (YE (Zy cur)),x5,x6]/\m=(match cur with | none=>0 | some j=>(gd X.ts j).h+1)/\(∀ j,cur=some j->j<X.ts.length)/\VB X.ts k rn=pre++VB X.ts k cur /\
   (∀ b o,b≠lk->H b=some o->H' b=some o)/\Zx jh ji H' X lk c (ls++QP pre)/\H' D=some (.lst us)/\Paired (YU (fun b=>b=lk\/b=D) H' X.ts) pre us,⟨_,rn,[],[],none,none,rfl,rfl,jm,rfl,fun b o _ e=>s2 b o e,by rw [show QP []=[] from rfl,yO];exact R2,eD,.nil⟩,?_⟩
 rintro m σ H3 ⟨cur,pre,us,x5,x6,rfl,rfl,hcur,epre,fr,R3,eD3,hst⟩
 cases cur with
 | none=>
  refine ⟨_,rfl,_,rfl,Zm ?_⟩;have e':VB X.ts k rn=pre:=by rw [epre];exact yO _
  exact ⟨_,rfl,q k rn rfl rfl jm H3 D us fr (by rw [e'];exact R3) nD0 Dlk eD3 (by rw [e'];exact hst)⟩
 | some j=>
  have hj:=hcur j rfl;have hjl:=A0.low j hj;have lpre:pre.length+((gd X.ts j).h+1)<=61:=by
   have e:=congrArg wL epre;rw [zU] at e;have e1:(VB X.ts k (some j)).length=(gd X.ts j).h+1:=NC _ _ _ _;have e2:(VB X.ts k rn).length<=61:=by
    cases rn with
    | none=>exact zG _
    | some i=>
     have:(VB X.ts k (some i)).length=(gd X.ts i).h+1:=NC _ _ _ _;have:=A0.low i (jm i rfl)
     lia
   lia
  have few:=A0.few;have lw:(QP pre).length=pre.length:=zX _;have lus:=Paired.length hst;refine ⟨_,rfl,_,rfl,Z2 ⟨fun σ' H'=>∃ m',m'<(gd X.ts j).h+1/\∃(cur:Option Nat)(pre:List (Nat×Nat))(us:jf)(x5 x6:jg),σ'=[some (.ref X.S),some (YE (Zy rn)),some v,some (.ref D),some (YE (Zy cur)),x5,x6]/\m'=(match cur with | none=>0 | some j=>(gd X.ts j).h+1)/\(∀ j,cur=some j->j<X.ts.length)/\VB X.ts k rn=pre++VB X.ts k cur /\
   (∀ b o,b≠lk->H b=some o->H' b=some o)/\Zx jh ji H' X lk c (ls++QP pre)/\H' D=some (.lst us)/\Paired (YU (fun b=>b=lk\/b=D) H' X.ts) pre us,fun _ _ z=>z,?_⟩⟩
  obtain ⟨dx,hS⟩:=R3.sh.self;refine ⟨_,rfl,X.S,dx,_,rfl,hS,rfl,_,rfl,X,lk,c,_,j,rfl,R3,hj,by rw [zU];lia,fun H4 tp l ws fr4 R4 htp nl hl w1 w2=>?_⟩
  have hlk3:=R3.sh.looks;have m34:Z1 H3 H4:=fun b xs e=>fr4 b _ (ZQ e hlk3) e;have llk:l≠lk:=(Za hlk3 nl).symm;have lD:l≠D:=fun z=>by rw [z,eD3] at nl;cases nl
  have lN:¬ (l=lk\/l=D):=fun z=>z.elim llk lD;have hf4:Ys (fun b=>b=lk\/b=D) H4 (gd X.ts j) (.ref tp):=⟨tp,l,ws,rfl,htp,hl,lN,w1,w2⟩;have m03:Z1 H H3:=fun b xs e=>fr b _ (ZQ e A0.sh.sh.looks) e;have kv4:=(kv.mono m03 _ _).mono m34 _ _;refine ⟨_,rfl,_,rfl,_,rfl,X,lk,c,_,j,.ref tp,v,k,_,rfl,R4,hw,hj,hf4,kv4,fk,fun H5 s5=>?_⟩;have eD5:=s5 _ _ (fr4 _ _ Dlk eD3);refine ⟨_,rfl,.inl ⟨rfl,_,ZL.of eD5⟩,_,rfl,_,rfl,_,rfl,Z0,fun t nt=>?_⟩;have g6:=ZY nt (.tup [YE (Zy (some j)),.int ((Yv X.ts k j:Nat):Int),.ref tp]);have et:=ZP (H:=H5) (a:=t) (o:=.tup [YE (Zy (some j)),.int ((Yv X.ts k j:Nat):Int),.ref tp]);have g56:=s5.trans g6;generalize upd H5 t (.tup [YE (Zy (some j)),.int ((Yv X.ts k j:Nat):Int),.ref tp])=H6 at g6 et g56 ⊢;have eD6:=g6 _ _ eD5;refine ⟨D,us,.ref t,rfl,rfl,eD6,nn (by lia),?_⟩
  have sD:ZE D H6 (upd H6 D (.lst (us++[.ref t]))):=(ZE.refl D H6).upd;have tD:=sD.tups eD6;have R6:=R4.same g56;have ND:¬ Om X lk D:=by
   obtain ⟨⟨dS,hS'⟩,hd',_⟩:=R6.sh;rintro (z | z | z)
   ·exact ZQ eD6 hS' (by intro z;cases z) z
   ·exact ZQ eD6 hd' (by intro z;cases z) z
   ·exact Dlk z
  have oD:∀ i:Nat,i<X.ts.length->(X.as.getD i .d).x≠D/\(X.as.getD i .d).ab≠D/\(X.as.getD i .d).th≠D:=fun i hi=>by
   have W:=R1.tw i hi;obtain ⟨dy,hy⟩:=W.tw.self;obtain ⟨us',e1,_⟩:=W.things;exact ⟨Za hy nD,Za W.tw.above nD,Za e1 nD⟩
  have R7:=R6.but sD ND oD tD;have fr7:∀ b o,b≠lk->H3 b=some o->b≠D->upd H6 D (.lst (us++[.ref t])) b=some o:=fun b o n e nb=>by rw [ZV nb];exact g56 _ _ (fr4 b o n e)
  have m37:Z1 H3 (upd H6 D (.lst (us++[.ref t]))):=fun b xs e=>tD b xs (g56 _ _ (m34 b xs e));have hf7:Ys (fun b=>b=lk\/b=D) (upd H6 D (.lst (us++[.ref t]))) (gd X.ts j) (.ref tp):=by
   exact ⟨tp,l,ws,rfl,tD _ _ (g56 _ _ htp),by rw [ZV lD];exact g56 _ _ hl,lN,fun z=>((w1 z).mono (ZA.tups g56) _ _).mono tD _ _,w2⟩
  have hst7:Paired (YU (fun b=>b=lk\/b=D) (upd H6 D (.lst (us++[.ref t]))) X.ts) (pre++[(j,Yv X.ts k j)]) (us++[.ref t]):=by
   refine P7 (a:=(j,Yv X.ts k j)) ⟨t,.ref tp,rfl,tD _ _ et,hf7⟩ (Paired.mapP hst fun _ _ z=>YU.off z (fun b o n e=>fr7 b o (fun z=>n (.inl z)) e fun z=>n (.inr z)) m37)
  have ew:ls++QP pre++[V.int (j:Int)]=ls++QP (pre++[(j,Yv X.ts k j)]):=by unfold QP;simp
  rw [ew] at R7;have fr':∀ b o,b≠lk->H b=some o->upd H6 D (.lst (us++[.ref t])) b=some o:=fun b o n e=>by rw [ZV (Za e nD0)];exact g56 _ _ (fr4 b o n (fr b o n e))
  refine ⟨_,rfl,_,rfl,_,gd X.ts j,.ref tp,Yv X.ts k j,rfl,hf7,fun h0=>?_,fun h0=>?_⟩
  ·refine ⟨0,by lia,none,pre++[(j,Yv X.ts k j)],_,_,_,rfl,rfl,(fun i z=>by cases z),?_,fr',R7,ZP,hst7⟩
   rw [epre];show pre++UW X.ts k (gd X.ts j).h j=_;rw [h0];exact (yO _).symm
  ·obtain ⟨n1,n2,n3⟩:=NO hw hj h0 k;refine ⟨UY X.ts k j,n3,(gd X.ts (UY X.ts k j)).h+1,by lia,some (UY X.ts k j),pre++[(j,Yv X.ts k j)],_,_,_,rfl,rfl,(fun i z=>by cases z;lia),?_,fr',R7,ZP,hst7⟩
   rw [epre];show pre++UW X.ts k (gd X.ts j).h j=_;rw [<-n2,uH];rfl
theorem ZNQ{ts:List ZS}{rn:Option Nat}(k:KT)(low:∀ i,i<ts.length->(gd ts i).h<=60)(jm:∀ i,rn=some i->i<ts.length):(VB ts k rn).length<=61:=by
 cases rn with
 | none=>exact zG _
 | some i=>
  have:(VB ts k (some i)).length=(gd ts i).h+1:=NC _ _ _ _;have:=low i (jm i rfl)
  lia
theorem CM{X:Cx}{w:ay}{o i:Expr}{pos:Pos}{td ty:TE}(hu:X.A.units+5<cLine)(ho:PE X o td)(hi:PE X i ty)(hs:O9 i)(hw:X.w=w:=by rfl):PE X (.Subscript o i pos) (Gb w td ty):=by
 subst hw;exact ZMZ hu ho hi hs
theorem HD:∀{a b:List KT},Ym a->Ym b->(∀ k,k∈a ↔ k∈b)->a=b
 | [],[],_,_,_=>rfl
 | [],y :: b,_,_,h=>by simp at h;exact absurd rfl (h y).1
 | x :: a,[],_,_,h=>by simp at h;exact absurd rfl (h x).1
 | x :: a,y :: b,ha,hb,h=>by
  have ha':=xL.mp ha;have hb':=xL.mp hb;have e:x=y:=by
   rcases zB.mp ((h x).mp (zK ..)) with e | q
   ·exact e
   rcases zB.mp ((h y).mpr (zK ..)) with e | q'
   ·exact e.symm
   have h1:=hb'.1 x q;have h2:=ha'.1 y q';rw [PX _ _ h1] at h2;cases h2
  subst e;have:a=b:=HD ha'.2 hb'.2 fun k=>by
   constructor
   ·intro hk;rcases zB.mp ((h k).mp (zH _ hk)) with e | q
    ·have:=ha'.1 k hk;rw [e,QH] at this;cases this
    ·exact q
   ·intro hk;rcases zB.mp ((h k).mpr (zH _ hk)) with e | q
    ·have:=hb'.1 k hk;rw [e,QH] at this;cases this
    ·exact q
  rw [this]
theorem Fv{ts:List KT}(h:Ym ts):ts.Nodup:=h.imp fun{a b} q e=>by rw [e,QH] at q;cases q
structure WB(w:ay)(H:Hp)(D:aj)(rs:List Zz)(xs:List (KT×V×V)):Prop where
 dk:YM w H D xs
 rows:Paired (fun(r:Zz)(x:KT×V×V)=>x.1=r.1/\ZD H r.2 x.2.2) rs xs
theorem WB.keys{w:ay}{H:Hp}{D:aj}{rs:List Zz}{xs:List (KT×V×V)}(h:WB w H D rs xs):xs.map (·.1)=rs.map (·.1):=by
 have:=h.rows;clear h
 induction this with
 | nil=>rfl
 | cons a t ih=>rw [zF,zF,a.1,ih]
theorem WB.but{w:ay}{H H':Hp}{D p:aj}{rs:List Zz}{xs:List (KT×V×V)}(h:WB w H D rs xs)(s:ZE p H H')(t:Z1 H H')(n:D≠p):WB w H' D rs xs:=⟨h.dk.but s t n,Paired.mapP h.rows fun _ _ z=>⟨z.1,z.2.mono t _ _⟩⟩
theorem WB.same{w:ay}{H H':Hp}{D:aj}{rs:List Zz}{xs:List (KT×V×V)}(h:WB w H D rs xs)(s:ZA H H'):WB w H' D rs xs:=⟨h.dk.same s,Paired.mapP h.rows fun _ _ z=>⟨z.1,z.2.mono (ZA.tups s) _ _⟩⟩
theorem C3{w:ay}{H H':Hp}{d:aj}{xs:List (KT×V×V)}(dk:YM w H d xs)(s:ZE d H H'):Z1 H H':=fun b ys e=>by
 obtain ⟨es,h,_⟩:=dk.ex;exact s b _ e (ZQ e h (by unfold Ps;intro z;cases z))
inductive X7(w:ay)(vs:jf)(H:Hp)(Q:VK)(_:XK):Prop
 | mk (p:aj) (m:Int) (_:vs=[.ref p,.int m]) (_:ZI H p) (_:0<m) (_:m<=61) (_:∀(D:aj)(rs:List Zz)(xs:List (KT×V×V))(H':Hp),H D=none->WB w H' D rs xs->(∀ r∈rs,r.fit)->Ym (rs.map (·.1))->rs.length<=60->ZI H' p->ZE p H H'->Q (.ref D) H')
abbrev ZNE:List Str:=["_law_well_here","_law_most","_law_keys_here","_law_model","_law_spot"]
theorem VJ:ZC ZNE ["_law_well_here","_law_most"] (Ze Lr):=Zp
inductive C5(p:aj)(m:Int)(Kl D:aj)(w:ay)(ts:List KT)(H:Hp)(vs:jf)(i:Nat)(σ:L2.St)(H':Hp):Prop
 | mk (rs:List Zz) (xs:List (KT×V×V)) (x4:jg) (_:σ=[some (.ref p),some (.int m),some (.ref Kl),some (.ref D),x4]) (_:WB w H' D rs xs) (_:rs.map (·.1)=ts.take i) (_:∀ r∈rs,r.fit) (_:ZI H' p) (_:ZE p H H') (_:H' Kl=some (.lst vs)) (_:KeysAt H' ts vs)
theorem ZIO(F:Zj K "_law_ground" "_law_ground" Lr f fd)(DP:ZB P w K mg base 1 "_law_pull" ["_law_well_here","_law_many"] Zr)(DK:ZB P w K mg base 9 "_law_keys" ["_law_well_here","_law_many"] Ve)(DV:ZB P w K mg base 7 "_law_value" ["_law_well_here"] Wf):ZJ P w K mg base ZW 10 f fd ["_law_well_here","_law_most"] (X7 w):=by
 refine F.ko VJ fun cdv A outer s H vs Q E hr h=>?_;obtain ⟨p,m,rfl,W,m0,m61,k⟩:=h;have nd:=VJ.nd;have hr1:=hr.mono (show 1<=9 by decide)
 have hr7:=hr.mono (show 7<=9 by decide)
 have LM:=ZX.key hr (n:=4) (by decide)
 refine ⟨_,ZR (Zk 2 nd (Zh DK hr (ZG (pv 0) (ZG (Zh DP hr1 (ZG (pv 0) (ZG (pv 1) ZF))) ZF))))
  (ZR (Zk 3 nd HV)
  (ZR (Vf PassesOwn.never rfl (VE (pv 2)) (Xo 4 nd)
   (ZU (Ky LM (pv 3) (pv 4) (Zh DV hr7 (ZG (pv 0) ZF)) rfl)))
  (ZU (Zg (pv 3))))),?_⟩
 refine ⟨_,rfl,_,rfl,_,rfl,p,m,rfl,W,Xi (by lia) (by lia),fun n H1 n0 n1 W1 s1=>?_⟩
 have en:n=((n.toNat:Nat):Int):=by lia
 refine ⟨p,n.toNat,congrArg (fun y=>[V.ref p,V.int y]) en,W1,by lia,fun Kl vs ts H2 nK hK kK fK rK lK W2 s2=>?_⟩
 have pK:Kl≠p:=UJ W1 nK;have s02:=s1.trans s2;intro D H3 nD sx3 s3 dk3;have W3:=W2.same s3;have hK3:=s3 _ _ hK;have Dp:D≠p:=UJ W2 nD;have DK':D≠Kl:=fun z=>by rw [z,hK] at nD;cases nD
 have nD0:H D=none:=O6 s02 W2 nD;have s03:=s02.trans (ZE.of s3);have lv:=kK.length;refine ⟨_,rfl,Kl,rfl,⟨vs,ZL.of hK3⟩,Pb (K:=K) (a:=Kl) (xs:=vs) (C5 p m Kl D w ts H vs)
  ⟨[],[],_,rfl,⟨dk3,.nil⟩,rfl,fun r hr=>by simp at hr,W3,s03,hK3,kK.mono (ZA.tups s3) _ _⟩ (fun i σ H' _ hP=>by obtain ⟨_,_,_,_,_,_,_,_,_,h,_⟩:=hP;exact ZL.of h) ?_ ?_⟩
 ·rintro i u σ H4 hu ⟨rs,xs,x4,rfl,dr,er,fr,W4,s4,hK4,kK4⟩;have hi:i<vs.length:=(yV.mp hu).1;obtain ⟨t,et,kt⟩:=kK4.get hu;refine ⟨_,rfl,p,rfl,W4,fun v vt H5 kv fv W5 s5=>?_⟩;have t5:=s5.tupsW W4;have dr5:=dr.but s5 t5 Dp;have lx:=Paired.length dr5.rows;have lrs:rs.length=(ts.take i).length:=by rw [<-er,zX]
  rw [xH] at lrs;refine ⟨_,rfl,_,rfl,D,xs,t,rfl,dr5.dk,by lia,kt.mono t5 _ _,Va _ 3 (fK t (zN et)),fun H6 s6 dk6=>?_⟩
  have t6:=C3 dr5.dk s6;have hn:t∉xs.map (·.1):=by
   rw [dr5.keys,er];intro z;obtain ⟨j,hj⟩:=vA z;rw [List.getElem?_take] at hj;split at hj
   ·have:=(sY (by lia) (Fv rK)).mp (hj.trans et.symm)
    lia
   ·cases hj
  have ep:UZ xs t u v=xs++[(t,u,v)]:=by
   unfold UZ;rw [aO fun z=>hn (Xy.mp z)]
  rw [ep] at dk6;refine ⟨rs++[(t,vt)],xs++[(t,u,v)],_,rfl,⟨dk6,P7 (a:=((t,vt):Zz)) ⟨rfl,kv.mono t6 _ _⟩ (Paired.mapP dr5.rows fun _ _ z=>⟨z.1,z.2.mono t6 _ _⟩)⟩,?_,fun r hr'=>?_,W5.stay s6 (Ne.symm Dp),fun b o e n=>s6 b o (s5 b o (s4 b o e n) n) (Za e nD0),s6 _ _ (s5 _ _ hK4 pK) (Ne.symm DK'),(kK4.mono t5 _ _).mono t6 _ _⟩
  ·rw [yZ,er,yL,et];rfl
  ·rcases yT.mp hr' with z | z
   ·exact fr r z
   ·rw [zA.mp z];exact ⟨fK t (zN et),fv⟩
 ·rintro σ H4 ⟨rs,xs,x4,rfl,dr,er,fr,W4,s4,hK4,kK4⟩;rw [yR (by lia)] at er
  have lrs:rs.length=ts.length:=by rw [<-er,zX]
  exact ⟨_,rfl,k D rs xs H4 nD0 dr fr (by rw [er];exact rK) (by lia) W4 s4⟩
inductive X4(w:ay)(vs:jf)(H:Hp)(Q:VK)(_:XK):Prop
 | mk (D:aj) (rs:List Zz) (xs:List (KT×V×V)) (_:vs=[.ref D]) (_:WB w H D rs xs) (_:∀ r∈rs,r.fit) (_:Ym (rs.map (·.1))) (_:rs.length<=60) (_:∀(l:aj)(us:jf)(H':Hp),ZA H H'->H l=none->H' l=some (.lst us)->KeysAt H' (Zv rs) us->Q (.ref l) H')
theorem ZLX:ZC ["_law_model"] ["_law_model"] (Ze MG):=Zp
theorem Ck(F:Zj K "_law_sorted" "_law_sorted" MG f fd)(T:YF mg)(DR:ZB P w K mg base 6 "_law_rank" ["_law_spot"] (Yh 5)):ZJ P w K mg base ZW 9 f fd ["_law_model"] (X4 w):=by
 refine F.ko ZLX fun cdv A outer s H vs Q E hr h=>?_;obtain ⟨D,rs,xs,rfl,dr,fr,ris,l60,k⟩:=h;have hu5:=ZX.key hr (n:=5) (by decide)
 have DS:ZB P w K mg base 6 "_law_rank" ["_law_spot"] (UQ KT.rk):=by
  obtain ⟨g,gd,FG,b,kp,m⟩:=DR.ex;exact ⟨g,gd,FG.imp fun vs H Q E h=>by
   obtain ⟨v,t,e,a,c,d⟩:=h;have:=Va t 3 c;exact ⟨v,t,3,e,a,c,by lia,d⟩,b,kp,m⟩
 refine ⟨_,ZU (Zg (VZ [0] ["_law_model"] rfl (VE (JT Mo Qi DS hr rfl T.sorted rfl (ZG (pv 0) ZF))) (fun _ _ _ _ _=>Vc) (fun _ _ _ _ _=>Yq (ZG (pv 0) (ZG (CM (w:=w) hu5 (pv 1) (pv 0) (fun _ _=>rfl)) ZF))) ⟨rfl,.inl rfl,rfl,trivial⟩)),?_⟩;have lx:=Paired.length dr.rows;have ek:=dr.keys;have kf:∀ x∈xs,x.1.fits 3=true:=fun x hx=>by
  have:x.1∈rs.map (·.1):=by rw [<-ek];exact zJ.mpr ⟨x,hx,rfl⟩
  obtain ⟨r,hr',e⟩:=zJ.mp this;rw [<-e];exact (fr r hr').1
 refine ⟨_,rfl,D,xs,rfl,dr.dk,kf,by lia,fun S ws ts H1 s1 nS hS ka pm pw=>?_⟩
 have et:ts=rs.map (·.1):=HD (IE (pm.nodup_iff.mpr dr.dk.nd) pw) ris fun t=>by rw [pm.mem_iff,ek]
 subst et;have dr1:=dr.same s1;have lw:=ka.length;rw [zX] at lw;refine ⟨S,rfl,⟨ws,ZL.of hS⟩,VY (n:=ws.length) (fun i z=>ws[i]? = some z) (fun E i ys H3=>ZA H1 H3/\H1 E=none/\KeysAt H3 ((Zv rs).take i) ys) (XM (by lia))
  (fun E i ys H3 hi hP=>⟨ws,ws[i],ZL.of (hP.1 _ _ hS),by simp [hi]⟩) (fun E i ys H3 z H4 hi hP hy=>⟨hy.1,hy.2 ws (ZL.of (hP.1 _ _ hS))⟩) (fun E ys H3 hP=>⟨ws,ZL.of (hP.1 _ _ hS),zY _⟩)
  (fun E hE=>⟨ZY hE _,hE,.nil⟩) (fun E i ys H3 z eE hl' hi hz hP RR jQ=>?_) (fun E ys H3 eE hP=>?_)⟩
 ·obtain ⟨s3,nE,kys⟩:=hP;obtain ⟨t,et,kt⟩:=ka.get hz;rw [zL] at et;obtain ⟨r,er,rfl⟩:=xN.mp et;have hix:xs[i]? = some (xs[i]'(by lia)):=zT (by lia)
  have dr3:=dr1.same s3;obtain ⟨r',er',e1,e2⟩:=Paired.ixR dr3.rows hix;rw [er] at er';cases er';have hv:=Im dr.dk.nd hix;rw [e1] at hv;have ff:=(fr r (zN er)).1;refine ⟨_,rfl,_,rfl,_,rfl,D,xs,r.1,_,rfl,dr3.dk,kt.mono (ZA.tups s3) _ _,Va _ 3 ff,hv,Z0,fun q nq=>?_⟩;have g:=ZY nq (.tup [z,(xs[i]'(by lia)).2.2])
  have eq:=ZP (H:=H3) (a:=q) (o:=.tup [z,(xs[i]'(by lia)).2.2])
  have eE4:=g _ _ eE;refine jQ _ _ eE4 ⟨UO (s3.trans g) nE,nE,?_⟩;have tE:Z1 (upd H3 q (.tup [z,(xs[i]'(by lia)).2.2])) (upd (upd H3 q (.tup [z,(xs[i]'(by lia)).2.2])) E (.lst (ys++[.ref q]))):=(ZE.refl E _).upd.tups eE4
  unfold Zv;rw [yL,zL,er];refine ((kys.mono (ZA.tups g) _ _).mono tE _ _).append (.cons (.tup (tE _ _ eq) (.cons ?_ (.cons ?_ .nil))) .nil)
  ·exact (kt.mono (ZA.tups (s3.trans g)) _ _).mono tE _ _
  ·exact (e2.mono (ZA.tups g) _ _).mono tE _ _
 ·obtain ⟨s3,nE,kys⟩:=hP;rw [yR (by unfold Zv;rw [zX];lia)] at kys
  exact k E ys H3 (s1.trans s3) (s1.free nE) eE kys
theorem LG:∀(n:Nat)(l:List Nat),l.Nodup->(∀ x∈l,x<n)->l.length<=n
 | 0,[],_,_=>zY _
 | 0,x :: _,_,h=>absurd (h x (zK ..)) (by lia)
 | n+1,l,nd,h=>by
  have h1:=LG n (l.erase n) (nd.erase n) fun x hx=>by
   have:=h x (List.mem_of_mem_erase hx);have ne:x≠n:=fun z=>by
    rw [z] at hx;exact (List.Nodup.not_mem_erase nd) hx
   lia
  by_cases hm:n∈l
  ·rw [List.length_erase_of_mem hm] at h1
   lia
  ·rw [List.erase_of_not_mem hm] at h1
   lia
def UH(H:Hp)(t:ZS)(v:V):Prop:=∃ tp u us,v=.ref tp/\H tp=some (.tup [.str (kindOf t),.ref u])/\H u=some (.tup us)/\(t.h=0->KeysAt H (Zv t.rows) us)/\(t.h≠0->us=iN t.bs)
theorem UH.mono{H H':Hp}{t:ZS}{v:V}(h:UH H t v)(m:Z1 H H'):UH H' t v:=by
 obtain ⟨tp,u,us,e,h1,h2,h3,h4⟩:=h;exact ⟨tp,u,us,e,m _ _ h1,m _ _ h2,fun z=>(h3 z).mono m _ _,h4⟩
structure XU(ts:List ZS)(H:Hp)(kvs:List (Zd×V))(F:List Nat):Prop where
 nd:F.Nodup
 lt:∀ j∈F,j<ts.length
 no:∀ j:Nat,j∉F->YR kvs (Sum.inl (j:Int))=none
 yes:∀ j:Nat,j∈F->∃ v,YR kvs (Sum.inl (j:Int))=some v/\UH H (gd ts j) v
 len:kvs.length=F.length
 ks:kvs.map (·.1)=F.map fun j:Nat=>(Sum.inl (j:Int):Zd)
theorem XU.mono{ts:List ZS}{H H':Hp}{kvs:List (Zd×V)}{F:List Nat}(h:XU ts H kvs F)(m:Z1 H H'):XU ts H' kvs F:=⟨h.nd,h.lt,h.no,fun j hj=>by
 obtain ⟨v,e,r⟩:=h.yes j hj;exact ⟨v,e,r.mono m⟩,h.len,h.ks⟩
theorem XU.put{ts:List ZS}{H:Hp}{kvs:List (Zd×V)}{F:List Nat}(h:XU ts H kvs F){j:Nat}(hj:j<ts.length)(hn:j∉F){v:V}(hv:UH H (gd ts j) v):XU ts H (XL kvs (Sum.inl (j:Int)) v) (F++[j]):=by
 refine ⟨?_,fun i hi=>?_,fun i hi=>?_,fun i hi=>?_,?_,by rw [Ov v (h.no j hn),yZ,yZ,h.ks];rfl⟩
 ·rw [uS];exact ⟨h.nd,by simp,fun a ha b hb=>by rw [zA.mp hb];exact fun z=>hn (z ▸ ha)⟩
 ·rcases yT.mp hi with z | z
  ·exact h.lt i z
  ·rw [zA.mp z];exact hj
 ·have n1:i∉F:=fun z=>hi (xG _ z);have n2:i≠j:=fun z=>hi (yI _ (by rw [z];exact zA.mpr rfl))
  rw [Nh,aO fun z=>n2 (by have:=Sum.inl.inj z;lia)]
  exact h.no i n1
 ·rw [Nh];by_cases z:i=j
  ·subst z;exact ⟨v,aP rfl,hv⟩
  ·rw [aO fun y=>z (by have:=Sum.inl.inj y;lia)]
   exact h.yes i ((yT.mp hi).elim id fun y=>absurd (zA.mp y) z)
 ·rw [Ov v (h.no j hn),zU,zU,h.len];rfl
def Lu(ts:List ZS)(F:List Nat)(T:List (Option Nat)):Prop:=∀ j∈F,∀ b∈(gd ts j).bs,b∈F\/some b∈T
abbrev Ww(l:List (Option Nat)):jf:=l.map fun x=>YE (Zy x)
def NK(ts:List ZS):Option Nat->Nat
 | none=>1
 | some j=>5 ^ (gd ts j).h
def PU(ts:List ZS)(l:List (Option Nat)):Nat:=(l.map (NK ts)).sum
theorem Km{ts:List ZS}{l:List (Option Nat)}{x:Option Nat}:PU ts l<PU ts (l++[x]):=by
 unfold PU;rw [yZ,tJ];have:0<NK ts x:=by
  cases x with
  | none=>exact Nat.one_pos
  | some j=>exact Nat.pow_pos (by decide)
 simp only [zF,wV,xE,tV,uR]
 lia
theorem Au{ts:List ZS}{gt:List KT}{l:List (Option Nat)}{b:Nat}(hw:WF gt ts)(hb:b<ts.length)(hh:(gd ts b).h≠0):PU ts (l++(gd ts b).bs.map some)<PU ts (l++[some b]):=by
 obtain ⟨h1,h2,h3,_⟩:=(hw b _ (XI hb)).stem hh;have key:∀(bs:List Nat),(∀ c∈bs,(gd ts c).h+1=(gd ts b).h)->((bs.map some).map (NK ts)).sum=bs.length * 5 ^ ((gd ts b).h - 1):=by
  intro bs
  induction bs with
  | nil=>intro _;simp
  | cons c bs ih=>
   intro h;have hc:=h c (zK ..);rw [zF,zF,xE,ih fun x hx=>h x (zH _ hx),zI,Nat.succ_mul];show 5 ^ (gd ts c).h+_=_;rw [show (gd ts c).h=(gd ts b).h - 1 by lia]
   lia
 unfold PU;rw [yZ,tJ,yZ,tJ,key _ fun c hc=>(h3 c hc).2];have e2:NK ts (some b)=5 * 5 ^ ((gd ts b).h - 1):=by
  show 5 ^ (gd ts b).h=_;have:(gd ts b).h=((gd ts b).h - 1)+1:=by lia
  rw [this,Nat.pow_succ,Nat.mul_comm];simp
 have pos:0<5 ^ ((gd ts b).h - 1):=Nat.pow_pos (by decide)
 simp only [zF,wV,xE,tV,uR];rw [e2];have:(gd ts b).bs.length * 5 ^ ((gd ts b).h - 1)<=4 * 5 ^ ((gd ts b).h - 1):=Nat.mul_le_mul_right _ h2
 lia
inductive Xe(gt:List KT)(jh ji:aj)(vs:jf)(H:Hp)(Q:VK)(_:XK):Prop
 | mk (X:YL) (lk:aj) (c:Nat) (ls:jf) (rn:Option Nat) (d:aj) (_:vs=[.ref X.S,YE (Zy rn),.ref d]) (_:Zx jh ji H X lk c ls) (_:WF gt X.ts) (_:X.ts.length<=240) (_:ls.length<=500) (_:∀ i,rn=some i->i<X.ts.length) (_:H d=some (.dK [])) (_:d≠X.d) (_:∀(H':Hp)(kvs:List (Zd×V))(F:List Nat)(ls':jf),(∀ b o,b≠lk->b≠d->H b=some o->H' b=some o)->Zx jh ji H' X lk c ls'->ls'.length<=ls.length+X.ts.length->H' d=some (.dK kvs)->XU X.ts H' kvs F->Lu X.ts F []->(∀ i,rn=some i->i∈F)->Q (.ref d) H')
abbrev B4:List Str:=["_law_shelf","_law_root_here","_law_found","_law_todo","_law_number","_law_kind","_law_what"]
theorem WX:ZC B4 ["_law_shelf","_law_root_here","_law_found"] (Ze Kb):=Zp
structure Xg(jh ji:aj)(H H':Hp)(X:YL)(lk:aj)(c:Nat)(ls:jf)(d ta:aj)(todo:List (Option Nat))(F:List Nat)(kvs:List (Zd×V))(ls':jf):Prop where
 fr:∀ b o,b≠lk->b≠d->H b=some o->H' b=some o
 sh:Zx jh ji H' X lk c ls'
 len:ls'.length=ls.length+F.length
 hd:H' d=some (.dK kvs)
 rcd:XU X.ts H' kvs F
 hta:H' ta=some (.lst (Ww todo))
 nta:H ta=none
 tl:ta≠lk
 tw:∀ i:Nat,i<X.ts.length->(X.as.getD i .d).ab≠ta/\(X.as.getD i .d).th≠ta
section
variable{H H' H'':Hp}{X:YL}{lk:aj}{c:Nat}{ls ls':jf}{d ta:aj}{todo todo':List (Option Nat)}{F:List Nat}{kvs:List (Zd×V)}
theorem Xg.same(r:Xg jh ji H H' X lk c ls d ta todo F kvs ls')(s:ZA H' H''):Xg jh ji H H'' X lk c ls d ta todo F kvs ls':=
 ⟨fun b o n1 n2 e=>s b o (r.fr b o n1 n2 e),r.sh.same s,r.len,s _ _ r.hd,r.rcd.mono (ZA.tups s),s _ _ r.hta,r.nta,r.tl,r.tw⟩
theorem Xg.pop(r:Xg jh ji H H' X lk c ls d ta todo F kvs ls'):Xg jh ji H (upd H' ta (.lst (Ww todo'))) X lk c ls d ta todo' F kvs ls':=by
 have s:ZE ta H' (upd H' ta (.lst (Ww todo'))):=(ZE.refl ta H').upd;have t:=s.tups r.hta;obtain ⟨⟨dS,hS⟩,hd,hl⟩:=r.sh.sh;have N:¬ Om X lk ta:=by
  rintro (z | z | z)
  ·exact ZQ r.hta hS (by intro z;cases z) z
  ·exact ZQ r.hta hd (by intro z;cases z) z
  ·exact r.tl z
 refine ⟨fun b o n1 n2 e=>by rw [ZV (Za e r.nta)];exact r.fr b o n1 n2 e,r.sh.but s N (fun i hi=>?_) t,r.len,s _ _ r.hd (ZQ r.hd r.hta),r.rcd.mono t,ZP,r.nta,r.tl,r.tw⟩
 obtain ⟨dy,hy⟩:=(r.sh.tw i hi).tw.self;exact ⟨ZQ hy r.hta,r.tw i hi⟩
theorem Xg.anew(r:Xg jh ji H H' X lk c ls d ta todo F kvs ls'){q:aj}(nq:H' q=none)(hq:H lk≠none)(hd0:H d≠none):Xg jh ji H (upd H' q (.lst (Ww todo'))) X lk c ls d q todo' F kvs ls':=by
 have g:=ZY nq (.lst (Ww todo'));have r':=r.same g;have nlk:q≠lk:=(Za r.sh.sh.looks nq).symm;have nd:q≠d:=(Za r.hd nq).symm;refine ⟨r'.fr,r'.sh,r'.len,r'.hd,r'.rcd,ZP,?_,nlk,fun i hi=>?_⟩
 ·cases e:H q with
  | none=>rfl
  | some o=>rw [r.fr q o nlk nd e] at nq;cases nq
 ·obtain ⟨us,e1,_⟩:=(r.sh.tw i hi).things;exact ⟨Za (r.sh.tw i hi).tw.above nq,Za e1 nq⟩
end
theorem Gj(t:ZS):decide (V.str (kindOf t)=V.str "stem")=decide (t.h≠0):=by
 by_cases h:t.h=0
 ·rw [IL h,aK (show ¬ t.h≠0 from fun z=>z h)];decide +kernel
 ·rw [Il h,aM rfl,aM h]
inductive ReL(X:YL)(rn:Option Nat)(d jh ji:aj)(H:Hp)(lk:aj)(c:Nat)(ls:jf)(m:Nat)(σ:L2.St)(H':Hp):Prop
 | mk (ta:aj) (todo:List (Option Nat)) (F:List Nat) (kvs:List (Zd×V)) (ls':jf) (x4 x5 x6:jg) (_:σ=[some (.ref X.S),some (YE (Zy rn)),some (.ref d),some (.ref ta),x4,x5,x6]) (_:m=PU X.ts todo) (_:Xg jh ji H H' X lk c ls d ta todo F kvs ls') (_:Lu X.ts F todo) (_:∀ i,rn=some i->i∈F\/some i∈todo) (_:∀ i,some i∈todo->i<X.ts.length) (_:todo.length<=1+4 * F.length)
theorem ZHr{gt:List KT}(F0:Zj K "_law_reached" "_law_reached" Kb f fd)(T:YF mg)(L:XA K mg jh ji)(DL:ZK P w K mg base ZW 2 jh "look" ["self","number"] (Xr jh ji)):ZJ P w K mg base ZW 3 f fd ["_law_shelf","_law_root_here","_law_found"] (Xe gt jh ji):=by
 refine F0.ko WX fun cdv A outer s H vs Q E hr h=>?_;obtain ⟨X,lk,c,ls,rn,d,rfl,R,hw,t200,l500,jm,hd,dXd,k⟩:=h;have nd:=WX.nd;have hu:=P5 hr;refine ⟨_,ZR (Zk 3 nd (Yr (ZG (pv 1) ZF)))
  (ZR (Qr PassesOwn.never (Y8 (MN hr.units0) (pv 3) (Yr ZF) (YK _))
   (ZR (Zk 4 nd (M6 yC PySem.F.slot_list_pop PySem.F.type_list_pop Eh (pv 3)))
   (ZU (Z5 (PW.pt (ON (V0 (N6 (pv 4))) (Ol (V0 (LP hu (pv 4) (pv 2))))))
    (ZR (Pe (XT (E:=E0) (pv 0) L.cS DL hr XJ (ZG (pv 4) ZF)) (Oh rfl (QA (Xo 5 nd) (QA (Xo 6 nd) Ob))))
    (ZR (Ib hu (pv 2) (pv 4) (Yq (ZG (pv 5) (ZG (Wy Po rfl T.tuple QZ (ZG (pv 6) ZF)) ZF))) rfl)
    (ZU (Z5 (Y8 VM (pv 5) Xq (YK _)) (ZU (Zk 3 nd (Zw Nv (pv 3) (Wy Q5 rfl T.list Qf (ZG (pv 6) ZF))))) Z7)))) Z7))))
  (ZU (Zg (pv 2)))),?_⟩
 have hlk0:=R.sh.looks;have dlk:d≠lk:=ZQ hd hlk0;have lkne:H lk≠none:=by rw [hlk0];exact fun z=>nomatch z
 have dne:H d≠none:=by rw [hd];exact fun z=>nomatch z
 refine ⟨_,rfl,Z0,fun ta nta=>?_⟩;have g0:=ZY nta (.lst [YE (Zy rn)]);have I0:Xg jh ji H (upd H ta (.lst [YE (Zy rn)])) X lk c ls d ta [rn] [] [] ls:=by
  refine ⟨fun b o _ _ e=>g0 b o e,R.same g0,rfl,g0 _ _ hd,⟨.nil,fun j hj=>by simp at hj,fun j _=>rfl,fun j hj=>by simp at hj,rfl,rfl⟩,ZP,nta,(Za hlk0 nta).symm,fun i hi=>?_⟩
  obtain ⟨us,e1,_⟩:=(R.tw i hi).things;exact ⟨Za (R.tw i hi).tw.above nta,Za e1 nta⟩
 refine ⟨ReL X rn d jh ji H lk c ls,
  ⟨_,ta,[rn],[],[],ls,none,none,none,rfl,rfl,I0,fun j hj=>by simp at hj,fun i hi=>.inr (by rw [hi];exact zA.mpr rfl),fun i hi=>jm i (zA.mp hi).symm,zY _⟩,?_⟩
 rintro m σ H1 ⟨ta,todo,F,kvs,ls',x4,x5,x6,rfl,rfl,r1,clo,root,inn,few⟩;have lF:=LG X.ts.length F r1.rcd.nd r1.rcd.lt;refine ⟨_,rfl,Z0,fun e0 he0=>?_⟩;have ge:=ZY he0 (.lst []);have r2:=r1.same ge;refine ⟨ta,e0,Ww todo,rfl,rfl,ZL.of r2.hta,ZL.of ZP,_,rfl,?_⟩;generalize upd H1 e0 (.lst [])=H2 at r2 ⊢;rcases sL todo with z | ⟨rest,x,z⟩
 ·subst z;refine Zm ⟨_,rfl,k H2 kvs F ls' r2.fr r2.sh (by rw [r2.len];lia) r2.hd r2.rcd clo fun i hi=>(root i hi).elim id fun z=>by simp at z⟩
 rw [sM] at z;subst z;have ene:(!(Ww (rest++[x])).isEmpty)=true:=by simp [Ww]
 rw [ene];have eT:Ww (rest++[x])=Ww rest++[YE (Zy x)]:=by simp [Ww]
 refine Z2 ⟨_,fun _ _ z=>z,?_⟩;refine ⟨_,rfl,.inl ⟨rfl,_,ZL.of r2.hta⟩,ta,Ww (rest++[x]),YE (Zy x),rfl,rfl,r2.hta,by rw [eT];simp,?_⟩
 have r3:Xg jh ji H (upd H2 ta (.lst (Ww (rest++[x])).dropLast)) X lk c ls d ta rest F kvs ls':=by
  rw [eT,List.dropLast_concat];exact r2.pop
 generalize upd H2 ta (.lst (Ww (rest++[x])).dropLast)=H3 at r3 ⊢;rw [zU] at few;have few':rest.length+1<=1+4 * F.length:=few;have inn':∀ i,some i∈rest->i<X.ts.length:=fun i hi=>inn i (xG _ hi)
 cases x with
 | none=>
  refine ⟨_,rfl,_,rfl,Zm (Zm ?_)⟩;refine ⟨_,Km,ta,rest,F,kvs,ls',_,_,_,rfl,rfl,r3,fun j hj b hb=>(clo j hj b hb).imp id fun z=>?_,fun i hi=>(root i hi).imp id fun z=>?_,inn',by lia⟩
  ·exact (yT.mp z).elim id fun y=>by simp at y
  ·exact (yT.mp z).elim id fun y=>by simp at y
 | some j=>
  have hj:=inn j (by simp)
  refine ⟨_,rfl,_,rfl,Z2 ?_⟩;by_cases hF:j∈F
  ·obtain ⟨v,ev,_⟩:=r3.rcd.yes j hF;have hg:Yg H3 d (.int (j:Int)) (some v):=ev ▸ Yg.k (k:=Sum.inl (j:Int)) r3.hd;refine ⟨_,rfl,_,rfl,d,some v,rfl,hg,_,rfl,Zm ?_⟩;refine ⟨_,Km,ta,rest,F,kvs,ls',_,_,_,rfl,rfl,r3,fun i hi b hb=>?_,fun i hi=>?_,inn',by lia⟩
   ·rcases clo i hi b hb with z | z
    ·exact .inl z
    ·rcases yT.mp z with y | y
     ·exact .inr y
     ·have:=zD.inj (zA.mp y);exact .inl (this ▸ hF)
   ·rcases root i hi with z | z
    ·exact .inl z
    ·rcases yT.mp z with y | y
     ·exact .inr y
     ·have:=zD.inj (zA.mp y);exact .inl (this ▸ hF)
  ·have ev:=r3.rcd.no j hF;have hg:Yg H3 d (.int (j:Int)) none:=ev ▸ Yg.k (k:=Sum.inl (j:Int)) r3.hd;refine ⟨_,rfl,_,rfl,d,none,rfl,hg,_,rfl,Z2 ?_⟩;obtain ⟨dx,hS⟩:=r3.sh.sh.self;have ll:=r3.len;refine ⟨_,rfl,X.S,dx,_,rfl,hS,rfl,_,rfl,X,lk,c,ls',j,rfl,r3.sh,hj,by lia,fun H4 tp l us fr4 R4 htp nl hl w1 w2=>?_⟩
   have hd3:=r3.hd;have m34:Z1 H3 H4:=fun b xs e=>fr4 b _ (ZQ e r3.sh.sh.looks) e;have hd4:=fr4 _ _ dlk hd3;have hta4:=fr4 _ _ r3.tl r3.hta;refine ⟨tp,_,rfl,Zo.of htp,rfl,_,_,rfl,_,_,rfl,rfl,?_⟩;refine ⟨_,rfl,_,rfl,l,us,rfl,.inl ⟨ZL.of hl,fun u nu=>⟨Z0,fun t nt=>?_⟩⟩⟩;have g5:=ZY nu (.tup us);have g6:=ZY nt (.tup [.str (kindOf (gd X.ts j)),.ref u]);have g46:=g5.trans g6;have eu:=g6 _ _ (ZP (H:=H4) (a:=u) (o:=.tup us));have et:=ZP (H:=upd H4 u (.tup us)) (a:=t) (o:=.tup [.str (kindOf (gd X.ts j)),.ref u]);generalize upd (upd H4 u (.tup us)) t (.tup [.str (kindOf (gd X.ts j)),.ref u])=H6 at g46 eu et ⊢;have hd6:=g46 _ _ hd4;have hta6:=g46 _ _ hta4;have hl6:=g46 _ _ hl;have R6:=R4.same g46;have lkv:=r3.rcd.len;refine ⟨_,rfl,_,rfl,d,_,rfl,UN.k (k:=Sum.inl (j:Int)) hd6 (XM (by lia)),?_⟩
   have rv:UH H6 (gd X.ts j) (.ref t):=⟨t,u,us,rfl,et,eu,fun z=>(w1 z).mono (ZA.tups g46) _ _,w2⟩;have rc6:=(((r3.rcd.mono m34).mono (ZA.tups g46)).put hj hF rv);have sx:ZE d H6 (upd H6 d (.dK (XL kvs (Sum.inl (j:Int)) (.ref t)))):=(ZE.refl d H6).upd;have m67:Z1 H6 (upd H6 d (.dK (XL kvs (Sum.inl (j:Int)) (.ref t)))):=fun b xs e=>sx b _ e (ZQ e hd6);have hd7:=ZP (H:=H6) (a:=d) (o:=.dK (XL kvs (Sum.inl (j:Int)) (.ref t)));generalize upd H6 d (.dK (XL kvs (Sum.inl (j:Int)) (.ref t)))=H7 at sx m67 hd7 ⊢;have N:¬ Om X lk d:=by
    obtain ⟨⟨dS,hS'⟩,_,_⟩:=R6.sh;rintro (z | z | z)
    ·exact ZQ hd6 hS' (by intro z;cases z) z
    ·exact dXd z
    ·exact dlk z
   have r7:Xg jh ji H H7 X lk c ls d ta rest (F++[j]) (XL kvs (Sum.inl (j:Int)) (.ref t)) (ls'++[.int (j:Int)]):=by
    refine ⟨fun b o n1 n2 e=>sx b o (g46 b o (fr4 b o n1 (r3.fr b o n1 n2 e))) n2,R6.but sx N (fun i hi=>?_) m67,by rw [zU,zU,ll];rfl,hd7,rc6.mono m67,sx _ _ hta6 (ZQ hta6 hd6),r3.nta,r3.tl,r3.tw⟩
    have W:=R6.tw i hi;obtain ⟨dy,hy⟩:=W.tw.self;obtain ⟨us',e1,_⟩:=W.things;exact ⟨ZQ hy hd6,ZQ W.tw.above hd6,ZQ e1 hd6⟩
   have hl7:=sx _ _ hl6 (ZQ hl6 hd6);have clo':∀ i∈F,∀ b∈(gd X.ts i).bs,b∈F++[j]\/some b∈rest:=fun i hi b hb=>by
    rcases clo i hi b hb with z | z
    ·exact .inl (xG _ z)
    ·rcases yT.mp z with y | y
     ·exact .inr y
     ·exact .inl (yI _ (zA.mpr (zD.inj (zA.mp y))))
   have root':∀ i,rn=some i->i∈F++[j]\/some i∈rest:=fun i hi=>by
    rcases root i hi with z | z
    ·exact .inl (xG _ z)
    ·rcases yT.mp z with y | y
     ·exact .inr y
     ·exact .inl (yI _ (zA.mpr (zD.inj (zA.mp y))))
   have lFj:(F++[j]).length=F.length+1:=by rw [zU];rfl
   have ok:=hw j _ (XI hj);refine ⟨_,rfl,rfl,_,rfl,?_⟩;rw [Gj];by_cases h0:(gd X.ts j).h=0
   ·rw [aK (show ¬ (gd X.ts j).h≠0 from fun z=>z h0)];refine Zm ⟨_,Km,ta,rest,F++[j],_,_,_,_,_,rfl,rfl,r7,fun i hi b hb=>?_,root',inn',by lia⟩
    rcases yT.mp hi with z | z
    ·exact clo' i z b hb
    ·rw [zA.mp z,(ok.leaf h0).1] at hb;simp at hb
   ·rw [aM (show (gd X.ts j).h≠0 from h0)];obtain ⟨b2,b4,b3,_⟩:=ok.stem h0;have eus:=w2 h0;have lus:us.length=(gd X.ts j).bs.length:=by rw [eus];exact zX _
    have lto:(Ww rest).length=rest.length:=zX _;refine Z2 ⟨_,rfl,_,rfl,l,us,rfl,.inl (ZL.of hl7),fun q1 n1=>?_⟩;have g8:=ZY n1 (.lst us);have r8:=r7.same g8;refine ⟨ta,q1,Ww rest,us,rfl,rfl,r8.hta,ZP,nn (by lia),fun q2 n2=>?_⟩
    have e9:Ww rest++us=Ww (rest++(gd X.ts j).bs.map some):=by
     rw [eus];simp [Ww,iN,YE,Zy]
    rw [e9];refine ⟨_,Au hw hj h0,q2,rest++(gd X.ts j).bs.map some,F++[j],_,_,_,_,_,rfl,rfl,r8.anew n2 lkne dne,fun i hi b hb=>?_,fun i hi=>(root' i hi).imp id fun z=>xG _ z,fun i hi=>?_,by rw [zU,zX];lia⟩
    ·rcases yT.mp hi with z | z
     ·exact (clo' i z b hb).imp id fun y=>xG _ y
     ·rw [zA.mp z] at hb;exact .inr (yI _ (zJ.mpr ⟨b,hb,rfl⟩))
    ·rcases yT.mp hi with z | z
     ·exact inn' i z
     ·obtain ⟨b,hb,e⟩:=zJ.mp z;cases e;have:=(b3 i hb).1
      lia
structure X6(gt:List KT)(ts:List ZS)(H:Hp)(d:aj)(kvs:List (Zd×V))(F:List Nat):Prop where
 hd:H d=some (.dK kvs)
 rcd:XU ts H kvs F
 clo:Lu ts F []
 wf:WF gt ts
theorem X6.same{gt:List KT}{ts:List ZS}{H H':Hp}{d:aj}{kvs:List (Zd×V)}{F:List Nat}(r:X6 gt ts H d kvs F)(s:ZA H H'):X6 gt ts H' d kvs F:=⟨s _ _ r.hd,r.rcd.mono (ZA.tups s),r.clo,r.wf⟩
theorem X6.get{gt:List KT}{ts:List ZS}{H:Hp}{d:aj}{kvs:List (Zd×V)}{F:List Nat}(r:X6 gt ts H d kvs F){j:Nat}(hj:j∈F):∃ tp u us,Yg H d (.int (j:Int)) (some (.ref tp))/\H tp=some (.tup [.str (kindOf (gd ts j)),.ref u])/\H u=some (.tup us)/\((gd ts j).h=0->KeysAt H (Zv (gd ts j).rows) us)/\((gd ts j).h≠0->us=iN (gd ts j).bs):=by
 obtain ⟨v,ev,tp,u,us,rfl,h1,h2,h3,h4⟩:=r.rcd.yes j hj;exact ⟨tp,u,us,ev ▸ Yg.k (k:=Sum.inl (j:Int)) r.hd,h1,h2,h3,h4⟩
theorem X6.sub{gt:List KT}{ts:List ZS}{H:Hp}{d:aj}{kvs:List (Zd×V)}{F:List Nat}(r:X6 gt ts H d kvs F){j b:Nat}(hj:j∈F)(hb:b∈(gd ts j).bs):b∈F:=(r.clo j hj b hb).elim id fun z=>by simp at z
theorem AB{gt:List KT}{ts:List ZS}(hw:WF gt ts){j:Nat}(hj:j<ts.length)(h0:(gd ts j).h≠0):(gd ts j).bs.Pairwise fun a b=>(YS (gd ts a)).lo.lt (YS (gd ts b)).lo=true:=by
 have ok:=hw j _ (XI hj);obtain ⟨b2,b4,b3,er⟩:=ok.stem h0;have up:=ok.up;rw [er,List.map_flatMap,rS] at up;have lo:∀ b∈(gd ts j).bs,(YS (gd ts b)).lo∈(gd ts b).rows.map (·.1):=fun b hb=>by
  have hbl:b<ts.length:=by have:=(b3 b hb).1;lia
  obtain ⟨r,rs,e1,e2⟩:=Qs (hw b _ (XI hbl)).ne;rw [e1,e2];exact zK ..
 have:=up.2;exact this.imp_of_mem fun{a b} ha hb h=>h _ (lo a ha) _ (lo b hb)
theorem Hh(us:jf)(n s:Nat)(hn:n<=us.length):U9 us (some (n:Int)) (some ((n:Int)+(s:Int)))=(us.drop n).take s:=by
 unfold U9;have e:((n:Int)+(s:Int))=((n+s:Nat):Int):=by lia
 rw [e,HT.sIx_nat,HT.sIx_nat,show min n us.length=n by lia,rR (i:=s),uL]
 congr 1
 lia
def Yl(N:aj->Prop)(H:Hp)(ps:jf)(u:V):Prop:=∃ a,u=.ref a/\H a=some (.lst ps)/\¬ N a
theorem Yl.go{N:aj->Prop}{H H':Hp}{ps:jf}{u:V}(h:Yl N H ps u)(k:∀ b o,H b=some o->¬ N b->H' b=some o):Yl N H' ps u:=by
 obtain ⟨a,e,h1,h2⟩:=h;exact ⟨a,e,k _ _ h1 h2,h2⟩
def NB(H:Hp)(p D:aj)(b:aj):Prop:=b=p\/b=D\/H b≠none
def Pk(stem:Bool)(n:Nat):Prop:=(if stem=true then 2 else 1)<=n/\n<=4
structure YT(H H':Hp)(p l D:aj)(us:jf)(stem:Bool)(pl:jf)(jn:List (jf))(n:Nat):Prop where
 w:ZI H' p
 sx:ZE p H H'
 hl:H' l=some (.lst us)
 hD:H' D=some (.lst pl)
 nD:H D=none
 lp:l≠p
 lD:l≠D
 Dp:D≠p
 parts:Paired (Yl (NB H p D) H') jn pl
 flat:jn.flatten=us.take n
 size:∀ ps∈jn,Pk stem ps.length
 few:pl.length<=n
theorem YT.go{H H' H'':Hp}{p l D:aj}{us:jf}{stem:Bool}{pl:jf}{jn:List (jf)}{n:Nat}(r:YT H H' p l D us stem pl jn n)(s:ZE p H' H'')(w:ZI H'' p):YT H H'' p l D us stem pl jn n:=
 ⟨w,r.sx.trans s,s _ _ r.hl r.lp,s _ _ r.hD r.Dp,r.nD,r.lp,r.lD,r.Dp,Paired.mapP r.parts fun _ _ z=>Yl.go z fun b o e n=>s b o e fun z=>n (.inl z),r.flat,r.size,r.few⟩
abbrev JG:List Str:=["_law_well_here","_law_things","_law_few","_law_stem","_law_parts","_law_at","_law_size"]
theorem Uv:ZC JG ["_law_well_here","_law_things","_law_few","_law_stem"] (Ze P9):=Zp
def JC:Option aE->List aE
 | some (.While _ b _ _)=>b
 | _=>[]
def Ke:List Stmt:=JC ((Xv P9)[2]?)
section
variable{P:ao}{w:ay}{K:zZ}{mg:jc}{base:aF}{f:aj}{fd:aq}{cdv:ai}{A:az}{outer:List Env}{s:am}{Hs:Hp}{E:XK}
theorem Br(T:YF mg):∃ t,Xn (X9 ZW P w K mg base JG "_law_cut" (Ze P9) f cdv A outer s Hs E).nox (Ke.drop 2) t/\∀(D0:Yu)(H H1:Hp)(p l D:aj)(us pl:jf)(stem:Bool)(fw:Int)(jn:List (jf))(n sz:Nat),
  YT H H1 p l D us stem pl jn n->n<us.length->us.length<=100->1<=sz->sz<=4->Pk stem (min sz (us.length - n)) ->
   (∀ pl' pss' H',YT H H' p l D us stem pl' pss' (n+sz)->D0.nx [some (.ref p),some (.ref l),some (.int fw),some (.bl stem),some (.ref D),some (.int ((n+sz:Nat):Int)),some (.int (sz:Int))] H') ->
    t D0 [some (.ref p),some (.ref l),some (.int fw),some (.bl stem),some (.ref D),some (.int (n:Int)),some (.int (sz:Int))] H1:=by
 have nd:=Uv.nd;refine ⟨_,ZR (X8 (U0 yC wZ wY QD (pv 4) (ZG (Wy Q5 rfl T.list Qf (ZG (N0 Nk (pv 1) (P1 (pv 5)) (P1 (Zw WP (pv 5) (pv 6)))) ZF)) ZF)))
  (ZU (Zk 5 nd (Zw WP (pv 5) (pv 6)))),fun D0 H H1 p l D us pl stem fw jn n sz r hn l100 s1 s4 hok fin=>?_⟩
 refine ⟨_,rfl,.inl ⟨rfl,_,ZL.of r.hD⟩,_,rfl,_,rfl,_,rfl,_,rfl,_,rfl,_,_,rfl,rfl,_,rfl,l,us,rfl,ZL.of r.hl,fun q1 n1=>?_⟩;rw [Hh us n sz (by lia)] at *
 have g1:=ZY n1 (.lst ((us.drop n).take sz));have e1:=ZP (H:=H1) (a:=q1) (o:=.lst ((us.drop n).take sz));generalize upd H1 q1 (.lst ((us.drop n).take sz))=H2 at g1 e1 ⊢;refine ⟨q1,_,rfl,.inl (ZL.of e1),fun q2 n2=>?_⟩;have g2:=ZY n2 (.lst ((us.drop n).take sz));have e2:=ZP (H:=H2) (a:=q2) (o:=.lst ((us.drop n).take sz));have g:=g1.trans g2;have n20:H1 q2=none:=g1.free n2;generalize upd H2 q2 (.lst ((us.drop n).take sz))=H3 at g2 e2 g ⊢;have r3:=YT.go r (ZE.of g) (r.w.same g);have hD3:=r3.hD;have fw':=r.few;refine ⟨D,pl,.ref q2,rfl,rfl,hD3,nn (by lia),?_⟩
 refine ⟨_,rfl,_,rfl,_,_,rfl,rfl,?_⟩;have q2N:¬ NB H p D q2:=by
  rintro (z | z | z)
  ·exact UJ r.w n20 z
  ·rw [z,r.hD] at n20;cases n20
  ·exact z (O6 r.sx r.w n20)
 have sD:ZE D H3 (upd H3 D (.lst (pl++[.ref q2]))):=(ZE.refl D H3).upd;have e:((n:Int)+(sz:Int))=((n+sz:Nat):Int):=by lia
 have lpart:((us.drop n).take sz).length=min sz (us.length - n):=by rw [xH,uL]
 have k:=fin (pl++[.ref q2]) (jn++[(us.drop n).take sz]) (upd H3 D (.lst (pl++[.ref q2]))) ⟨r3.w.stay sD (Ne.symm r.Dp),fun b o e n=>by rw [ZV (Za e r.nD)];exact r3.sx b o e n,by rw [ZV r.lD];exact r3.hl,ZP,r.nD,r.lp,r.lD,r.Dp,P7 ⟨q2,rfl,by rw [ZV (fun z=>q2N (.inr (.inl z)))];exact e2,q2N⟩ (Paired.mapP r3.parts fun _ _ z=>Yl.go z fun b o e n=>sD b o e fun z=>n (.inr (.inl z))),by rw [List.flatten_append,r.flat,List.take_add];simp,fun ps hps=>?_,by simp;lia⟩
 ·rw [<-e] at k;exact k
 ·rcases yT.mp hps with z | z
  ·exact r.size ps z
  ·rw [zA.mp z,lpart];exact hok
inductive V3(vs:jf)(H:Hp)(Q:VK)(_:XK):Prop
 | mk (p l:aj) (us:jf) (fw:Int) (stem:Bool) (_:vs=[.ref p,.ref l,.int fw,.bl stem]) (_:ZI H p) (_:H l=some (.lst us)) (_:l≠p) (_:0<=fw) (_:fw<4) (_:us.length<=100) (_:stem=true->us.length≠1) (_:∀(D:aj)(pl:jf)(jn:List (jf))(H':Hp),H D=none->H' D=some (.lst pl)->Paired (Yl (NB H p D) H') jn pl->jn.flatten=us->(∀ ps∈jn,Pk stem ps.length)->pl.length<=104->ZI H' p->ZE p H H'->Q (.ref D) H')
theorem IQ{q:aj}{a b c d:Int}{fw:Int}(h0:0<=fw)(h4:fw<4)(lo hi:Int)(ha:lo<=a/\a<=hi)(hb:lo<=b/\b<=hi)(hc:lo<=c/\c<=hi)(hd:lo<=d/\d<=hi):∃ m:Int,WM [V.int a,.int b,.int c,.int d] fw=some (.int m)/\lo<=m/\m<=hi:=by
 obtain ⟨v,av,mv⟩:=Q7 (xs:=[V.int a,.int b,.int c,.int d]) h0 h4;simp only [zB,vY,or_false] at mv;rcases mv with rfl | rfl | rfl | rfl
 ·exact ⟨a,av,ha⟩
 ·exact ⟨b,av,hb⟩
 ·exact ⟨c,av,hc⟩
 ·exact ⟨d,av,hd⟩
inductive FH(p l:aj)(fw:Int)(stem:Bool)(D:aj)(us:jf)(H:Hp)(m:Nat)(σ:L2.St)(H':Hp):Prop
 | mk (pl:jf) (jn:List (jf)) (n:Nat) (x6:jg) (_:σ=[some (.ref p),some (.ref l),some (.int fw),some (.bl stem),some (.ref D),some (.int (n:Int)),x6]) (_:m=us.length - n) (_:YT H H' p l D us stem pl jn n) (_:(stem=true->us.length - n≠1)) (_:n<=103)
theorem CJ(F0:Zj K "_law_cut" "_law_cut" P9 f fd)(T:YF mg)(DP:ZB P w K mg base 1 "_law_pull" ["_law_well_here","_law_many"] Zr):ZJ P w K mg base ZW 2 f fd ["_law_well_here","_law_things","_law_few","_law_stem"] V3:=by
 refine F0.ko Uv fun cdv A outer s H vs Q E hr h=>?_;obtain ⟨p,l,us,fw,stem,rfl,W,hl,lp,f0,f4,l100,hst,k⟩:=h;have nd:=Uv.nd;obtain ⟨t,ht,hk⟩:=Br (P:=P) (w:=w) (K:=K) (base:=base) (f:=f) (cdv:=cdv) (A:=A) (outer:=outer) (s:=s) (Hs:=H) (E:=E) T;refine ⟨_,ZR (Zk 4 nd (Yr ZF))
  (ZR (Zk 5 nd ZM)
  (ZR (Qr PassesOwn.never (Y8 PJ (pv 5) (Z4 Xu rfl T.len Xl (ZG (pv 1) ZF)) (YK _))
   (ZR (Zk 6 nd (Zw WP ZM (Zh DP hr (ZG (pv 0) (ZG (Zn (r:=YI K) YO (Yr (Vd ZM ZM ZM ZM)) (pv 2) (fun _ _=>rfl)) ZF)))))
   (ZR (Z5 (Y9 (pv 3))
    (ZR (Zk 6 nd (Z4 (JS rfl) rfl T.min HN (ZG (Zw WP ZM (Zh DP hr (ZG (pv 0) (ZG (Zn (r:=YI K) YO (Yr (Vd ZM ZM ZM ZM)) (pv 2) (fun _ _=>rfl)) ZF)))) (ZG (Zw Vp (Z4 Xu rfl T.len Xl (ZG (pv 1) ZF)) (pv 5)) ZF))))
    (ZU (Z5 (Y8 VM (Zw Vp (Zw Vp (Z4 Xu rfl T.len Xl (ZG (pv 1) ZF)) (pv 5)) (pv 6)) ZM (YK _))
     (ZU (Zk 6 nd (Zn (r:=YI K) YO (Yr (ZG (Zw Vp (pv 6) ZM) (ZG (Zw WP (pv 6) ZM) ZF))) (Wy OA rfl T.int QY (ZG (VQ VM (pv 6) ZM (YK _)) ZF)) (fun _ _=>rfl)))) Z7))) Z7) ht)))
  (ZU (Zg (pv 4))))),?_⟩
 refine ⟨Z0,fun D nD=>?_⟩;have gD:=ZY nD (.lst []);have eD:=ZP (H:=H) (a:=D) (o:=.lst []);generalize upd H D (.lst [])=H1 at gD eD ⊢;have I0:YT H H1 p l D us stem [] [] 0:=⟨W.same gD,ZE.of gD,gD _ _ hl,eD,nD,lp,Za hl nD,UJ W nD,.nil,rfl,fun ps h=>by simp at h,zY _⟩
 refine ⟨FH p l fw stem D us H,⟨_,[],[],0,none,rfl,rfl,I0,hst,zG _⟩,?_⟩;rintro m σ H2 ⟨pl,jn,n,x6,rfl,rfl,r,hrest,n103⟩;refine ⟨_,rfl,_,rfl,l,us,rfl,.inl (ZL.of r.hl),_,_,rfl,rfl,_,rfl,?_⟩;rcases zC n us.length with hn | hn
 ·rw [aM (show (n:Int)<(us.length:Int) by lia)]
  refine Z2 ⟨_,fun _ _ z=>z,?_⟩;have go:∀{D0:Yu}{H3:Hp}(z:Int),YT H H3 p l D us stem pl jn n->1<=z->z<=4->Pk stem (min z.toNat (us.length - n))->(stem=true->us.length - (n+z.toNat)≠1)->(∀ σ' H',(∃ m',m'<us.length - n/\FH p l fw stem D us H m' σ' H')->D0.nx σ' H') ->
    t D0 [some (.ref p),some (.ref l),some (.int fw),some (.bl stem),some (.ref D),some (.int (n:Int)),some (.int z)] H3:=fun{D0 H3} z r3 z1 z4 hok hr' fin=>by
   obtain ⟨sz,rfl⟩:∃ sz:Nat,z=(sz:Int):=⟨z.toNat,by lia⟩
   rw [vW] at hok hr';exact hk D0 H H3 p l D us pl stem fw jn n sz r3 hn l100 (by lia) (by lia) hok fun pl' pss' H' r'=>fin _ _ ⟨us.length - (n+sz),by lia,pl',pss',n+sz,_,rfl,rfl,r',hr',by lia⟩
  refine ⟨_,rfl,Z0,fun q nq=>?_⟩;have gq:=ZY nq (.lst [.int 4,.int 1,.int 2,.int 4]);have eq:=ZP (H:=H2) (a:=q) (o:=.lst [.int 4,.int 1,.int 2,.int 4]);have r3:=YT.go r (ZE.of gq) (r.w.same gq);generalize upd H2 q (.lst [.int 4,.int 1,.int 2,.int 4])=H3 at gq eq r3 ⊢;obtain ⟨m1,am1,m10,m14⟩:=IQ (q:=q) (a:=4) (b:=1) (c:=2) (d:=4) f0 f4 1 4 (by decide) (by decide) (by decide) (by decide)
  refine ⟨_,rfl,.inl ⟨q,_,_,_,rfl,rfl,ZL.of eq,am1,p,m1,rfl,r3.w,Xi (by lia) (by lia),fun z1 H4 z10 z11 W4 s4=>⟨_,_,rfl,rfl,?_⟩⟩⟩
  have r4:=YT.go r3 s4 W4;refine ⟨_,rfl,_,rfl,?_⟩
  cases stem with
  | false=>
   refine Zm (go (1+z1) r4 (by lia) (by lia) ⟨?_,?_⟩ (fun z=>by cases z) fun _ _ z=>z)
   ·show 1<=min (1+z1).toNat (us.length - n)
    lia
   ·lia
  | true=>
   have hre:=hrest rfl;refine Z2 ⟨_,rfl,Z0,fun q2 nq2=>?_⟩;have gq2:=ZY nq2 (.lst [.int 3,.int 1,.int 3,.int 2]);have eq2:=ZP (H:=H4) (a:=q2) (o:=.lst [.int 3,.int 1,.int 3,.int 2]);have r5:=YT.go r4 (ZE.of gq2) (r4.w.same gq2);generalize upd H4 q2 (.lst [.int 3,.int 1,.int 3,.int 2])=H5 at gq2 eq2 r5 ⊢;obtain ⟨m2,am2,m20,m24⟩:=IQ (q:=q2) (a:=3) (b:=1) (c:=3) (d:=2) f0 f4 1 3 (by decide) (by decide) (by decide) (by decide)
   refine ⟨_,rfl,.inl ⟨q2,_,_,_,rfl,rfl,ZL.of eq2,am2,p,m2,rfl,r5.w,Xi (by lia) (by lia),fun z2 H6 z20 z21 W6 s6=>⟨_,_,rfl,rfl,?_⟩⟩⟩
   have r6:=YT.go r5 s6 W6;refine ⟨_,rfl,l,us,rfl,.inl (ZL.of r6.hl),_,rfl,_,_,rfl,rfl,_,_,rfl,?_⟩;obtain ⟨y,ey,y1,y2,y3⟩:∃ y:Int,(if ((us.length:Nat):Int) - (n:Int)<2+z2 then ((us.length:Nat):Int) - (n:Int) else 2+z2)=y/\2<=y/\y<=4/\y<=((us.length:Nat):Int) - (n:Int):=⟨_,rfl,by split <;> lia,by split <;> lia,by split <;> lia⟩
   rw [ey];refine ⟨_,rfl,l,us,rfl,.inl (ZL.of r6.hl),_,rfl,_,_,rfl,rfl,_,rfl,_,_,rfl,rfl,rfl,_,rfl,?_⟩;by_cases hy:((us.length:Nat):Int) - (n:Int) - y=1
   ·rw [aM (congrArg V.int hy)];refine Z2 ⟨_,rfl,_,_,rfl,rfl,_,rfl,_,_,rfl,rfl,Z0,fun q3 nq3=>?_⟩;have gq3:=ZY nq3 (.lst [.int (y - 1),.int (y+1)]);have eq3:=ZP (H:=H6) (a:=q3) (o:=.lst [.int (y - 1),.int (y+1)]);have r7:=YT.go r6 (ZE.of gq3) (r6.w.same gq3);generalize upd H6 q3 (.lst [.int (y - 1),.int (y+1)])=H7 at gq3 eq3 r7 ⊢;refine ⟨_,rfl,rfl,.inr ⟨_,rfl,?_⟩⟩;by_cases h2:y=2
    ·subst h2;refine .inl ⟨q3,_,_,.int (2+1),rfl,rfl,ZL.of eq3,rfl,?_⟩;exact go (2+1) r7 (by lia) (by lia) ⟨by show 2<=min (2+1:Int).toNat _;lia,by lia⟩ (fun _=>by lia) fun _ _ z=>z
    ·have ed:decide (V.int y=V.int 2)=false:=aK fun z=>h2 (Og z);rw [ed];refine .inl ⟨q3,_,_,.int (y - 1),rfl,rfl,ZL.of eq3,rfl,?_⟩;exact go (y - 1) r7 (by lia) (by lia) ⟨by show 2<=min (y - 1).toNat _;lia,by lia⟩ (fun _=>by lia) fun _ _ z=>z
   ·rw [aK (fun z=>hy (Og z))];exact Zm (go y r6 (by lia) (by lia) ⟨by show 2<=min y.toNat _;lia,by lia⟩ (fun _=>by lia) fun _ _ z=>z)
 ·rw [aK (show ¬ (n:Int)<(us.length:Int) by lia)]
  have fl:=r.flat;rw [yR hn] at fl;have:=r.few;exact Zm ⟨_,rfl,k D pl jn H2 r.nD r.hD r.parts fl r.size (by lia) r.w r.sx⟩
end
section
variable{X:Cx}
theorem ZGM{k0:Nat}(hr:ZX k0 X.A):Yx X (aB .NotIn) (fun x y H Q=>∃(p:aj)(us:jf)(ts:List KT)(k:KT),y=.ref p/\ZL X.K H p us/\KeysAt H ts us/\ZD H k x/\(∀ t∈ts,t.fits 3=true)/\∀ b,Q (.bl b) H):=by
 intro pins s σ H x y v u Q I rx ry h;obtain ⟨p,us,ts,k,rfl,hq,ks,kx,hf,q⟩:=h;cases ry;obtain ⟨jj,r,pl,hz⟩:=I.list hq;have un:=hr.un;have ex:∀ y,y∈jj.toArray->∃ b,PySem.SeqAt.EqAt X.A.in1 s y v b:=fun y hy=>by
  have hy':y∈jj:=by simpa using hy
  obtain ⟨j,hj⟩:=vA hy';have lr:=r.length;have hl:=(yV.mp hj).1;have hu:us[j]? = some (us[j]'(by lia)):=zT (by lia)
  obtain ⟨u1,e1,a1⟩:=r.get hu;rw [hj] at e1;cases e1;obtain ⟨t,et,kt⟩:=ks.get hu;have dp:=Va t 3 (hf t (zN et));exact ⟨_,Pm t.depth t k X.A.in1 y v (zY _) (UU I _ _ _ kt a1) (UU I _ _ _ kx rx) (by show X.A.units+1+_<_;lia)⟩
 refine PySem.SeqAt.notIn_listAt (fun y=>@ite _ (PySem.SeqAt.EqAt X.A.in1 s y v true) (Classical.propDecidable _) true false) pl.isList (fun y hy=>?_) ⟨.bl _,H,I,rfl,q _⟩;obtain ⟨b,hb⟩:=ex y hy;by_cases h:PySem.SeqAt.EqAt X.A.in1 s y v true
 ·rw [aP h];exact h
 ·rw [aO h]
  cases b with
  | true=>exact absurd hb h
  | false=>exact hb
end
inductive XR(vs:jf)(H:Hp)(Q:VK)(_:XK):Prop
 | mk (p kn:aj) (us:jf) (ts:List KT) (_:vs=[.ref p,.ref kn]) (_:ZI H p) (_:H kn=some (.lst us)) (_:KeysAt H ts us) (_:∀ t∈ts,t.fits 3=true) (_:kn≠p) (_:us.length<=300) (_:∀(v:V)(t:KT)(us':jf)(ts':List KT)(H':Hp),ZD H' t v->t.fits 3=true->H' kn=some (.lst us')->KeysAt H' ts' us'->(∀ t∈ts',t.fits 3=true)->us'.length<=us.length+1->ZI H' p->(∀ b o,b≠p->b≠kn->H b=some o->H' b=some o)->Q v H')
theorem VL:ZC ["_law_well_here","_law_known_here","_law_spot"] ["_law_well_here","_law_known_here"] (Ze Ka):=Zp
theorem Em(F0:Zj K "_law_any_key" "_law_any_key" Ka f fd)(T:YF mg)(DP:ZB P w K mg base 1 "_law_pull" ["_law_well_here","_law_many"] Zr)(DK:ZB P w K mg base 6 "_law_key" ["_law_well_here","_law_room"] (XC 4)):ZJ P w K mg base ZW 7 f fd ["_law_well_here","_law_known_here"] XR:=by
 refine F0.ko VL fun cdv A outer s H vs Q E hr h=>?_;obtain ⟨p,kn,us,ts,rfl,W,hk,kk,hf,kp,l300,q⟩:=h;have nd:=VL.nd;have hr1:=hr.mono (show 1<=6 by decide)
 refine ⟨_,ZR (Z5 (PW.pt (ON (Y8 (MN hr.units0) (pv 1) (Yr ZF) (YK _)) (Ol (Y8 Q2 (Zh DP hr1 (ZG (pv 0) (ZG ZM ZF))) ZM (YK _))))) (ZU (Zg (Zn (r:=YI K) YO (pv 1) (Zh DP hr1 (ZG (pv 0) (ZG (Z4 Xu rfl T.len Xl (ZG (pv 1) ZF)) ZF))) (fun _ _=>rfl)))) Z7)
  (ZR (Zk 2 nd (Zh DK hr (ZG (pv 0) (ZG ZM ZF))))
  (ZR (Z5 (Y8 (ZGM hr) (pv 2) (pv 1) rfl) (ZU (X8 (U0 yC wZ wY QD (pv 1) (ZG (pv 2) ZF)))) Z7)
  (ZU (Zg (pv 2))))),?_⟩
 refine ⟨_,rfl,Z0,fun e0 ne0=>?_⟩;have g0:=ZY ne0 (.lst []);refine ⟨kn,e0,us,rfl,rfl,ZL.of (g0 _ _ hk),ZL.of ZP,_,rfl,?_⟩;have hk0:=g0 _ _ hk;have W0:=W.same g0;generalize upd H e0 (.lst [])=H0 at g0 hk0 W0 ⊢;have more:∀{H1:Hp},ZE p H0 H1->ZI H1 p->∀(R:V->Hp->Prop),(∀ v t H2,ZD H2 t v->t.fits 3=true->ZI H2 p->ZE p H0 H2->R v H2)->XC 4 [V.ref p,V.int 3] H1 R E0:=fun s1 W1 R hR=>⟨p,3,rfl,W1,by decide,fun v t H2 kv fv W2 s2=>hR v t H2 kv fv W2 (s1.trans s2)⟩
 have last:∀{v:V}{t:KT}{H2:Hp},ZD H2 t v->t.fits 3=true->ZI H2 p->ZE p H0 H2->Q v H2:=fun{v t H2} kv fv W2 s2=>q v t us ts H2 kv fv (s2 _ _ hk0 kp) ((kk.mono (ZA.tups g0) _ _).mono (s2.tupsW W0) _ _) hf (by lia) W2 fun b o n1 _ e=>s2 b o (g0 b o e) n1
 have tail:∀{v:V}{t:KT}{H2:Hp},ZD H2 t v->t.fits 3=true->ZI H2 p->ZE p H0 H2->H2 kn=some (.lst us)/\KeysAt H2 ts us/\(Q v H2)/\Q v (upd H2 kn (.lst (us++[v]))):=fun{v t H2} kv fv W2 s2=>by
  have hk2:=s2 _ _ hk0 kp;have kk2:=(kk.mono (ZA.tups g0) _ _).mono (s2.tupsW W0) _ _;have sK:ZE kn H2 (upd H2 kn (.lst (us++[v]))):=(ZE.refl kn H2).upd;have tK:=sK.tups hk2;refine ⟨hk2,kk2,last kv fv W2 s2,q v t (us++[v]) (ts++[t]) _ (kv.mono tK _ _) fv ZP ((kk2.mono tK _ _).append (.cons (kv.mono tK _ _) .nil)) (fun z hz=>?_) (by simp) (W2.stay sK (Ne.symm kp)) fun b o n1 n2 e=>by rw [ZV n2];exact s2 b o (g0 b o e) n1⟩
  rcases yT.mp hz with y | y
  ·exact hf z y
  ·rw [zA.mp y];exact fv
 have luu:us.length<1000:=by lia
 cases us with
 | nil=>
  refine Zm (Zm ⟨_,rfl,more (ZE.refl _ _) W0 _ fun v t H2 kv fv W2 s2=>?_⟩);obtain ⟨a1,a2,a3,a4⟩:=tail kv fv W2 s2;refine ⟨_,rfl,_,rfl,kn,_,ts,t,rfl,ZL.of a1,a2,kv,hf,fun b=>⟨_,rfl,?_⟩⟩
  cases b with
  | true=>exact Z2 ⟨_,rfl,.inl ⟨rfl,_,ZL.of a1⟩,_,rfl,kn,_,v,rfl,rfl,a1,nn (by lia),_,rfl,a4⟩
  | false=>exact Zm ⟨_,rfl,a3⟩
 | cons u0 us0=>
  refine Z2 ⟨_,rfl,p,3,rfl,W0,Xi (by decide) (by decide),fun z H1 z0 z1 W1 s1=>⟨_,_,rfl,rfl,_,rfl,We (fun c=>?_) (fun c=>?_)⟩⟩
  ·have hk1:=s1 _ _ hk0 kp;refine ⟨_,rfl,_,rfl,_,rfl,kn,_,rfl,.inl (ZL.of hk1),p,_,rfl,W1,Xi (by simp <;> lia) (by simp at luu ⊢ <;> lia),fun j H2 j0 j1 W2 s2=>?_⟩
   obtain ⟨v,av,mv⟩:=Q7 (xs:=u0 :: us0) j0 j1;have hk2:=s2 _ _ hk1 kp;obtain ⟨i,hi⟩:=vA mv;have s02:=s1.trans s2;obtain ⟨t,et,kt⟩:=((kk.mono (ZA.tups g0) _ _).mono (s02.tupsW W0) _ _).get hi;exact .inl ⟨kn,_,_,v,rfl,rfl,ZL.of hk2,av,last kt (hf t (zN et)) W2 s02⟩
  ·refine ⟨_,rfl,more s1 W1 _ fun v t H2 kv fv W2 s2=>?_⟩;obtain ⟨a1,a2,a3,a4⟩:=tail kv fv W2 s2;refine ⟨_,rfl,_,rfl,kn,_,ts,t,rfl,ZL.of a1,a2,kv,hf,fun b=>⟨_,rfl,?_⟩⟩
   cases b with
   | true=>exact Z2 ⟨_,rfl,.inl ⟨rfl,_,ZL.of a1⟩,_,rfl,kn,_,v,rfl,rfl,a1,nn (by lia),_,rfl,a4⟩
   | false=>exact Zm ⟨_,rfl,a3⟩
def PZ(ts:List ZS):Option Nat->Nat
 | none=>0
 | some i=>(gd ts i).rows.length
def RfP(C:aj)(x:Int)(E:XK)(H:Hp):Prop:=∀ dx H',ZA H H'->H' dx=some (.xd [("at",.int x)])->E (.ref C) (some dx) H'
theorem Fh{ts:List ZS}{bs:List Nat}{j b:Nat}(e:bs[j]? = some b):(Zu ts (bs.take (j+1))).length=(Zu ts (bs.take j)).length+(gd ts b).rows.length:=by
 rw [yL,e];simp [Zu]
theorem JO{ts:List ZS}{bs:List Nat}{j b:Nat}(e:bs[j]? = some b):Zu ts bs=Zu ts (bs.take j)++((gd ts b).rows++Zu ts (bs.drop (j+1))):=by
 obtain ⟨hj,rfl⟩:=yV.mp e;have:bs=bs.take j++bs[j] :: bs.drop (j+1):=(wE j bs).symm.trans (by rw [uX hj])
 have e2:Zu ts bs=Zu ts (bs.take j++bs[j] :: bs.drop (j+1)):=congrArg (Zu ts) this;rw [e2];unfold Zu;rw [vD,wM]
theorem E7{ts:List ZS}{bs:List Nat}{j b m:Nat}(e:bs[j]? = some b)(hm:m<(gd ts b).rows.length):(Zu ts bs).getD ((Zu ts (bs.take j)).length+m) rd=(gd ts b).rows.getD m rd:=by
 rw [JO e,zV,zV,xW (by lia),rM,wX hm]
inductive Xt(jh ji:aj)(vs:jf)(H:Hp)(Q:VK)(_:XK):Prop
 | mk (X:YL) (lk:aj) (c:Nat) (ls:jf) (rn:Option Nat) (_:vs=[.ref X.S,YE (Zy rn)]) (_:Zx jh ji H X lk c ls) (_:∀ i,rn=some i->i<X.ts.length) (_:Q (.int (PZ X.ts rn:Nat)) H)
theorem Iz:ZC ["shelf","root"] ["shelf","root"] (Ze Nd):=Zp
theorem ZK3(F:Zj K "rows_under" "rows_under" Nd f fd)(T:YF mg)(L:XA K mg jh ji)(DB:ZK P w K mg base ZW 2 jh "label" ["self","number"] (WC jh ji)):ZJ P w K mg base ZW 3 f fd ["shelf","root"] (Xt jh ji):=by
 refine F.ko Iz fun cdv A outer s H vs Q E hr h=>?_;obtain ⟨X,lk,c,ls,rn,rfl,R,jm,q⟩:=h;obtain ⟨t3,m3⟩:=T.many;refine ⟨_,ZR (Z5 (V0 (Hw (pv 1))) (ZU (Zg ZM)) Z7) (ZU (Zg (Zn (r:=Xk K) Zi (XT (E:=E0) (pv 0) L.cS DB hr XJ (ZG (pv 1) ZF)) (WN (v:=.int 3) rfl m3 ⟨_,rfl⟩) (fun _ _=>rfl)))),?_⟩
 cases rn with
 | none=>exact ⟨_,rfl,_,rfl,Z2 q⟩
 | some i=>
  have hi:=jm i rfl;obtain ⟨dx,hS⟩:=R.sh.self;obtain ⟨a,jL,jO,ea,ht,_,_⟩:=(R.tw i hi).tag;cases ea;exact ⟨_,rfl,_,rfl,Zm ⟨_,rfl,X.S,dx,_,rfl,hS,rfl,_,rfl,X,lk,c,ls,i,rfl,R,hi,_,_,_,_,rfl,rfl,Zo.of ht,rfl,q⟩⟩
inductive Wn(jh ji CT:aj)(vs:jf)(H:Hp)(Q:VK)(E:XK):Prop
 | mk (X:YL) (lk:aj) (c:Nat) (ls:jf) (r:Option Int) (_:vs=[.ref X.S,YE r]) (_:Zx jh ji H X lk c ls) (_:∀ x,r=some x->inT X.ts x=false->QG CT x E H) (_:∀ rn,r=Zy rn->(∀ i,rn=some i->i<X.ts.length)->Q (.int (PZ X.ts rn:Nat)) H)
theorem ZK4(F:Zj K "rows_under" "rows_under" Nd f fd)(T:YF mg)(L:XA K mg jh ji)(DL:ZK P w K mg base (XD P w) 4 jh "label" ["self","number"] (XX jh ji CT)):ZJ P w K mg base (XD P w) 5 f fd ["shelf","root"] (Wn jh ji CT):=by
 refine F.kD Iz fun cdv A outer s H vs Q E hr h=>?_;obtain ⟨X,lk,c,ls,r,rfl,R,k1,k2⟩:=h;obtain ⟨t3,m3⟩:=T.many;refine ⟨_,ZR (Z5 (V0 (Hw (pv 1))) (ZU (Zg ZM)) Z7) (ZU (Zg (Zn (r:=Xk K) Zi (XT (E:=E) (pv 0) L.cS DL hr (NL Wt fun _ _ _ h=>h) (ZG (pv 1) ZF)) (WN (v:=.int 3) rfl m3 ⟨_,rfl⟩) (fun _ _=>rfl)))),?_⟩
 cases r with
 | none=>exact ⟨_,rfl,_,rfl,Z2 (k2 none rfl fun i h=>by cases h)⟩
 | some x=>
  obtain ⟨dx,hS⟩:=R.sh.self;refine ⟨_,rfl,_,rfl,Zm ⟨_,rfl,X.S,dx,_,rfl,hS,rfl,_,rfl,X.S,X.d,lk,c,X.kvs,ls,x,rfl,R.sh,fun tw hx=>?_,fun hx=>?_⟩⟩
  ·cases z:inT X.ts x with
   | false=>rw [R.none z] at hx;cases hx
   | true=>
    obtain ⟨i,rfl,hi⟩:=OM z;rw [R.val i hi] at hx;cases hx;obtain ⟨a,jL,jO,ea,ht,_,_⟩:=(R.tw i hi).tag;have W:=(R.tw i hi).tw;cases ea;exact ⟨_,_,_,_,_,_,rfl,W,_,_,_,_,rfl,rfl,Zo.of ht,rfl,k2 (some i) rfl fun j h=>by cases h;exact hi⟩
  ·cases z:inT X.ts x with
   | false=>exact k1 x rfl z
   | true=>
    obtain ⟨i,rfl,hi⟩:=OM z;rw [R.val i hi] at hx;cases hx
inductive Xf(jh ji:aj)(vs:jf)(H:Hp)(Q:VK)(_:XK):Prop
 | mk (X:YL) (lk:aj) (c:Nat) (ls:jf) (l:aj) (bs:List Nat) (m:Nat) (_:vs=[.ref X.S,.ref l,.int (m:Int)]) (_:Zx jh ji H X lk c ls) (_:H l=some (.lst (iN bs))) (_:∀ b∈bs,b<X.ts.length) (_:m<(Zu X.ts bs).length) (_:∀(j b n:Nat)(t:aj)(H':Hp),bs[j]? = some b->n<(gd X.ts b).rows.length->m=(Zu X.ts (bs.take j)).length+n->ZA H H'->H' t=some (.tup [.int (b:Nat),.int (n:Nat)])->Q (.ref t) H')
abbrev C8:List Str:=["shelf","branches","at","place","left"]
theorem WU:ZC C8 ["shelf","branches","at"] (Ze Ko):=Zp
theorem EJ(F:Zj K "branch_with" "branch_with" Ko f fd)(DU:ZB P w K mg base 3 "rows_under" ["shelf","root"] (Xt jh ji)):ZJ P w K mg base ZW 4 f fd ["shelf","branches","at"] (Xf jh ji):=by
 refine F.ko WU fun cdv A outer s H vs Q E hr h=>?_;obtain ⟨X,lk,c,ls,l,bs,m,rfl,R,hl,hb,hm,q⟩:=h;have nd:=WU.nd;refine ⟨_,ZR (Zk 3 nd ZM)
  (ZR (Zk 4 nd (pv 2))
  (ZR (Qr PassesOwn.never (V0 (EL (pv 4) (Zh DU hr (ZG (pv 0) (ZG (Zn (r:=YI K) YO (pv 1) (pv 3) (fun _ _=>rfl)) ZF)))))
   (ZR (Ik (i:=4) nd rfl (Or.inl rfl) (Zh DU hr (ZG (pv 0) (ZG (Zn (r:=YI K) YO (pv 1) (pv 3) (fun _ _=>rfl)) ZF))) AK)
   (ZU (Ik (i:=3) nd rfl (Or.inl rfl) ZM ZOl))))
  (ZU (Zg (Yq (ZG (Zn (r:=YI K) YO (pv 1) (pv 3) (fun _ _=>rfl)) (ZG (pv 4) ZF))))))),?_⟩
 refine ⟨_,rfl,?_⟩;refine ⟨fun k σ H'=>∃(j n:Nat),σ=[some (.ref X.S),some (.ref l),some (.int (m:Int)),some (.int (j:Int)),some (.int (n:Int))]/\k=bs.length - j/\m=(Zu X.ts (bs.take j)).length+n/\H'=H,⟨_,0,m,rfl,rfl,by simp [Zu],rfl⟩,?_⟩
 rintro k σ H1 ⟨j,n,rfl,rfl,em,rfl⟩;have hj:j<bs.length:=by
  rcases zC j bs.length with z | z
  ·exact z
  ·rw [yR z] at em;lia
 obtain ⟨b,eb⟩:∃ b,bs[j]? = some b:=⟨_,zT hj⟩;have ev:(iN bs)[j]? = some (V.int (b:Nat)):=by unfold iN;rw [zL,eb];rfl
 have hbl:=hb b (zN eb);refine ⟨_,rfl,_,rfl,_,rfl,_,rfl,.inl ⟨l,_,_,_,rfl,rfl,ZL.of hl,Xb ev,X,lk,c,ls,some b,rfl,R,fun i h=>by cases h;exact hbl,_,_,rfl,rfl,_,rfl,?_⟩⟩
 show if decide (((gd X.ts b).rows.length:Int)<=(n:Int))=true then _ else _
 rcases zC n (gd X.ts b).rows.length with z | z
 ·rw [aK (by lia)]
  refine Zm ⟨_,rfl,_,rfl,.inl ⟨l,_,_,_,rfl,rfl,ZL.of hl,Xb ev,_,rfl,Z0,fun t nt=>?_⟩⟩;exact q j b n t _ eb z em (ZY nt _) ZP
 ·rw [aM (by lia)]
  refine Z2 ⟨_,fun _ _ z=>z,?_⟩;refine ⟨_,rfl,_,rfl,_,rfl,_,rfl,.inl ⟨l,_,_,_,rfl,rfl,ZL.of hl,Xb ev,X,lk,c,ls,some b,rfl,R,(fun i h=>by cases h;exact hbl),_,_,rfl,rfl,_,rfl,_,_,rfl,rfl,?_⟩⟩
  refine ⟨bs.length - (j+1),by lia,j+1,n - (gd X.ts b).rows.length,?_,rfl,by rw [Fh eb];lia,rfl⟩
  have e1:(n:Int) - ((PZ X.ts (some b):Nat):Int)=((n - (gd X.ts b).rows.length:Nat):Int):=by show (n:Int) - ((gd X.ts b).rows.length:Int)=_;lia
  simp only [List.set_cons_zero,List.set_cons_succ];rw [e1];rfl
inductive Ux(gt:List KT)(jh ji CT CP:aj)(vs:jf)(H:Hp)(Q:VK)(E:XK):Prop
 | mk (X:YL) (lk:aj) (c:Nat) (ls:jf) (r:Option Int) (n:Int) (_:vs=[.ref X.S,YE r,.int n]) (_:Zx jh ji H X lk c ls) (_:WF gt X.ts) (_:∀ i,i<X.ts.length->(gd X.ts i).h<=60) (_:ls.length<=380000) (_:∀ x,r=some x->inT X.ts x=false->QG CT x E H) (_:∀ rn,r=Zy rn->(∀ i,rn=some i->i<X.ts.length)->¬ (0<=n/\n<(PZ X.ts rn:Nat))->RfP CP n E H) (_:∀(i m:Nat),r=some (i:Int)->i<X.ts.length->n=(m:Int)->m<(gd X.ts i).rows.length->∀(H':Hp)(v:V)(ls':jf),(∀ b o,b≠lk->H b=some o->H' b=some o)->Zx jh ji H' X lk c ls'->ls'.length<=ls.length+61->ZD H' (QI ((gd X.ts i).rows.getD m rd)) v->Q v H')
abbrev ZQr:List Str:=["shelf","root","at","many","found","left","step"]
theorem Qq:ZC ZQr ["shelf","root","at"] (Ze KG):=Zp
theorem CW{gt:List KT}(F:Zj K "nth" "nth" KG f fd)(L:XA K mg jh ji)(N:XN P w K mg base "NoPlace" CP "at")(DU:Z3 P w K mg base 5 "rows_under" ["shelf","root"] (Wn jh ji CT))(DL:ZK P w K mg base ZW 2 jh "look" ["self","number"] (Xr jh ji))(DI:ZB P w K mg base 1 "is_leaf" ["found"] Yb)(DB:ZB P w K mg base 4 "branch_with" ["shelf","branches","at"] (Xf jh ji)):
  ZJ P w K mg base (XD P w) 6 f fd ["shelf","root","at"] (Ux gt jh ji CT CP):=by
 refine F.kD Qq fun cdv A outer s H vs Q E hr h=>?_;obtain ⟨X,lk,c,ls,r,n,rfl,R,hw,low,few,k1,k2,q⟩:=h;have nd:=Qq.nd;have hr1:=hr.mono (show 1<=5 by decide)
 have hr2:=hr.mono (show 2<=5 by decide)
 have hr4:=hr.mono (show 4<=5 by decide)
 refine ⟨_,ZR (Zk 3 nd (UR Wt DU hr (ZG (pv 0) (ZG (pv 1) ZF))))
  (ZR (Z5 (VG (MI Pg PJ ZM (pv 2) (pv 3))) (ZU (Gr Wt N hr2 (ZG (pv 2) ZF) rfl)) Z7)
  (ZR (Zk 4 nd (XT (E:=E0) (pv 0) L.cS DL hr2 XJ (ZG (pv 1) ZF)))
  (ZR (Zk 5 nd (pv 2))
  (ZR (Qr Lz (VG (Y9 (Zh DI hr1 (ZG (pv 4) ZF))))
   (ZR (Zk 6 nd (Zh DB hr4 (WA (pv 0) (Zn (r:=Xk K) Zi (pv 4) ZM (fun _ _=>rfl)) (pv 5))))
   (ZR (Zk 4 nd (XT (E:=E0) (pv 0) L.cS DL hr2 XJ (ZG (Zn (r:=Xk K) Zi (pv 6) ZM (fun _ _=>rfl)) ZF)))
   (ZU (Zk 5 nd (Zn (r:=Xk K) Zi (pv 6) ZM (fun _ _=>rfl)))))))
  (ZU (Zg (Zn (r:=YI K) YO (Zn (r:=Xk K) Zi (pv 4) ZM (fun _ _=>rfl)) (pv 5) (fun _ _=>rfl)))))))),?_⟩
 refine ⟨_,rfl,_,rfl,X,lk,c,ls,r,rfl,R,k1,fun rn er jm=>?_⟩;subst er;refine ⟨_,rfl,_,_,rfl,rfl,_,rfl,?_⟩;by_cases h0:0<=n
 case neg=>
  rw [aK h0];exact Zm ⟨_,rfl,Z2 ⟨_,rfl,_,rfl,fun dd hdd=>k2 rn rfl jm (fun z=>h0 z.1) dd _ (ZY hdd _) ZP⟩⟩
 rw [aM h0];refine Z2 ⟨_,rfl,_,_,rfl,rfl,_,rfl,?_⟩;by_cases h1:n<(PZ X.ts rn:Nat)
 case neg=>
  rw [aK h1];exact Z2 ⟨_,rfl,_,rfl,fun dd hdd=>k2 rn rfl jm (fun z=>h1 z.2) dd _ (ZY hdd _) ZP⟩
 rw [aM h1];obtain ⟨m,rfl⟩:=rO h0
 cases rn with
 | none=>exact absurd h1 (by show ¬ ((m:Int)<((0:Nat):Int));lia)
 | some i=>
 have hi:=jm i rfl;have hm:m<(gd X.ts i).rows.length:=by have:(m:Int)<((gd X.ts i).rows.length:Int):=h1;lia
 obtain ⟨dx,hS⟩:=R.sh.self;have hlk:=R.sh.looks;refine Zm ⟨_,rfl,X.S,dx,_,rfl,hS,rfl,_,rfl,X,lk,c,ls,i,rfl,R,hi,by lia,fun H1 tp l us fr R1 htp nl hl w1 w2=>?_⟩
 have lw:=low i hi;have hf1:Ys (fun b=>b=lk) H1 (gd X.ts i) (.ref tp):=⟨tp,l,us,rfl,htp,hl,(Za hlk nl).symm,w1,w2⟩;refine ⟨_,rfl,fun k σ H'=>∃(j m':Nat)(u:V)(x6:jg)(ls':jf),σ=[some (.ref X.S),some (YE (Zy (some i))),some (.int (m:Int)),some (.int ((PZ X.ts (some i):Nat):Int)),some u,some (.int (m':Int)),x6]/\k=(gd X.ts j).h/\j<X.ts.length/\m'<(gd X.ts j).rows.length/\(gd X.ts i).rows.getD m rd=(gd X.ts j).rows.getD m' rd/\Ys (fun b=>b=lk) H' (gd X.ts j) u /\
   (∀ b o,b≠lk->H b=some o->H' b=some o)/\Zx jh ji H' X lk c ls'/\ls'.length+(gd X.ts j).h<=ls.length+61,⟨_,i,m,.ref tp,none,_,rfl,rfl,hi,hm,rfl,hf1,fr,R1,by rw [zU];simp;lia⟩,?_⟩
 rintro k σ H2 ⟨j,m',u,x6,ls',rfl,rfl,hj,hm',erow,hf,fr2,R2,ll⟩;refine ⟨_,rfl,_,gd X.ts j,u,rfl,hf,_,rfl,?_⟩;have hf0:=hf;obtain ⟨tp,l,us,rfl,htp,hl,nlk,w1,w2⟩:=hf;by_cases hh:(gd X.ts j).h=0
 ·rw [aM hh];have ks:=w1 hh;have lu:us.length=(gd X.ts j).rows.length:=by have:=ks.length;rw [<-this];exact zX _
  obtain ⟨t,et,kt⟩:=ks.get (zT (show m'<us.length by lia))
  unfold Zv at et;rw [zL,zT hm'] at et;cases et;refine Zm ⟨_,rfl,tp,_,_,.ref l,rfl,rfl,Zo.of htp,rfl,_,rfl,.inl ⟨l,us,_,_,rfl,rfl,ZL.of hl,Xb (zT (show m'<us.length by lia)),?_⟩⟩
  refine q i m rfl hi rfl hm H2 _ ls' fr2 R2 (by lia) ?_
  rw [erow,zV,zT hm'];exact kt
 ·rw [aK hh];obtain ⟨b2,b4,b3,er⟩:=(hw j _ (XI hj)).stem hh;have eu:=w2 hh;subst eu;refine Z2 ⟨_,fun _ _ z=>z,?_⟩;refine ⟨_,rfl,_,rfl,tp,_,_,.ref l,rfl,rfl,Zo.of htp,rfl,_,rfl,X,lk,c,ls',l,(gd X.ts j).bs,m',rfl,R2,hl,(fun b hb=>by have:=(b3 b hb).1;lia),by rw [<-show (gd X.ts j).rows=Zu X.ts (gd X.ts j).bs from er];exact hm',fun p b n t H3 eb hn em s3 et=>?_⟩
  have hb:=b3 b (zN eb);have hbl:b<X.ts.length:=by lia
  have R3:=R2.same s3;obtain ⟨dx,hS⟩:=R3.sh.self;have hlk3:=R3.sh.looks;refine ⟨_,rfl,X.S,dx,_,rfl,hS,rfl,_,rfl,t,_,_,.int (b:Nat),rfl,rfl,Zo.of et,rfl,X,lk,c,ls',b,rfl,R3,hbl,by lia,fun H4 tp4 l4 us4 fr4 R4 htp4 nl4 hl4 w14 w24=>?_⟩
  have et4:=fr4 _ _ (ZQ et hlk3) et;refine ⟨_,rfl,t,_,_,.int (n:Nat),rfl,rfl,Zo.of et4,rfl,?_⟩;refine ⟨(gd X.ts b).h,by lia,b,n,_,_,ls'++[.int (b:Int)],rfl,rfl,hbl,hn,?_,⟨tp4,l4,us4,rfl,htp4,hl4,(Za hlk3 nl4).symm,w14,w24⟩,fun a o n1 e=>fr4 a o n1 (s3 a o (fr2 a o n1 e)),R4,by rw [zU];simp;lia⟩
  rw [erow,show (gd X.ts j).rows=Zu X.ts (gd X.ts j).bs from er,em];exact E7 eb hn
theorem Ay{α:Type}{p:α->Bool}{A C:List α}{b:α}(h:((A++b :: C).filter p).length - 1=A.length)(hC:∀ c∈C,p c=true->p b=true/\∀ a∈A,p a=true):(A≠[]->p b=true)/\∀ c∈C,p c=false:=by
 have nC:∀ c∈C,p c=false:=fun c hc=>by
  cases e:p c with
  | false=>rfl
  | true=>
   obtain ⟨hb,hA⟩:=hC c hc e;rw [xA,sH hb,zU,zI,vE.mpr hA] at h;have:0<(C.filter p).length:=List.length_pos_of_mem (vG.mpr ⟨hc,e⟩)
   lia
 refine ⟨fun hA=>?_,nC⟩
 cases e:p b with
 | true=>rfl
 | false=>
  have e2:C.filter p=[]:=vS.mpr fun c hc=>by rw [nC c hc];exact zW
  rw [xA,List.filter_cons_of_neg (by rw [e];exact zW),e2,yO] at h
  have:=uY p A;have:0<A.length:=sU.mpr hA
  lia
theorem JR(l m:List KT)(k:KT):XW (l++m) k=XW l k+XW m k:=by unfold XW;rw [xA,zU]
theorem Dx{l:List KT}{k:KT}(h:∀ x∈l,x.lt k=true):XW l k=l.length:=by unfold XW;rw [vE.mpr h]
theorem HU{l:List KT}{k:KT}(h:∀ x∈l,x.lt k=false):XW l k=0:=by unfold XW;rw [vS.mpr fun x hx=>by rw [h x hx];exact zW];rfl
def Qh(ts:List ZS)(p:Nat×Nat):Nat:=if (gd ts p.1).h=0 then p.2 else (Zu ts ((gd ts p.1).bs.take p.2)).length
abbrev Pu(ts:List ZS)(i:Nat):List KT:=(gd ts i).rows.map (·.1)
theorem EW{gt:List KT}{ts:List ZS}{i j:Nat}{t:ZS}(ok:WE gt ts i t){y:KT}(hy:y∈t.rows.map (·.1)):y.lt (YS t).lo=false:=by
 obtain ⟨r,rs,e1,e2⟩:=Qs ok.ne;have up:=ok.up;rw [e1,zF] at up hy;rw [e2];rcases zB.mp hy with z | z
 ·rw [z];exact QH _
 ·exact PX _ _ ((xL.mp up).1 y z)
theorem D9{gt:List KT}{ts:List ZS}(hw:WF gt ts){i:Nat}(hi:i<ts.length)(h0:(gd ts i).h≠0)(k:KT):XW (Pu ts i) k=(Zu ts ((gd ts i).bs.take (Yv ts k i))).length+XW (Pu ts (UY ts k i)) k:=by
 obtain ⟨n1,n2,n3⟩:=NO hw hi h0 k;have ok:=hw i _ (XI hi);obtain ⟨b2,b4,b3,er⟩:=ok.stem h0;have er:(gd ts i).rows=Zu ts (gd ts i).bs:=er;have jv:=HI hw hi h0 k;have ri:=AB hw hi h0;have up:=ok.up;have ebs:(gd ts i).bs=(gd ts i).bs.take (Yv ts k i)++UY ts k i :: (gd ts i).bs.drop (Yv ts k i+1):=by
  obtain ⟨hj,e⟩:=yV.mp n3;exact (wE (Yv ts k i) _).symm.trans (by rw [uX hj,e])
 have lA:((gd ts i).bs.take (Yv ts k i)).length=Yv ts k i:=by rw [xH];lia
 have ep:((gd ts i).bs.filter fun b=>!k.lt (YS (gd ts b)).lo).length - 1=Yv ts k i:=(aO h0).symm;have mem:∀ b,b∈(gd ts i).bs.take (Yv ts k i)\/b∈(gd ts i).bs.drop (Yv ts k i+1)->b<ts.length:=fun b hb=>by
  have:=(b3 b (hb.elim List.mem_of_mem_take List.mem_of_mem_drop)).1
  lia
 have split:=JO (ts:=ts) n3;rw [ebs,uA] at ri;rw [<-lA] at ep
 conv at ep=>lhs;rw [ebs]
 generalize hA:(gd ts i).bs.take (Yv ts k i)=A at *;generalize hC:(gd ts i).bs.drop (Yv ts k i+1)=C at *;generalize UY ts k i=b at *;obtain ⟨_,rb,rAb⟩:=ri;have rbC:=(xL.mp rb).1;have tr:∀{x y:Nat},(YS (gd ts x)).lo.lt (YS (gd ts y)).lo=true->(!k.lt (YS (gd ts y)).lo)=true->(!k.lt (YS (gd ts x)).lo)=true:=fun{x y} h q=>by
  cases e:k.lt (YS (gd ts x)).lo with
  | false=>rfl
  | true=>rw [lt_trans' _ _ _ e h] at q;cases q
 obtain ⟨pA,pC⟩:=Ay ep fun c hc q=>⟨tr (rbC c hc) q,fun a ha=>tr (rAb a ha c (zH _ hc)) q⟩;rw [er,split,yZ,yZ,uA] at up;have hbl:b<ts.length:=by lia
 have lob:(YS (gd ts b)).lo∈Pu ts b:=by
  obtain ⟨r,rs,e1,e2⟩:=Qs (hw b _ (XI hbl)).ne;show _∈(gd ts b).rows.map (·.1);rw [e1,e2];exact zK ..
 show XW ((gd ts i).rows.map (·.1)) k=_;rw [er,split,yZ,yZ,JR,JR,Dx,HU (l:=(Zu ts C).map (·.1)),zX,uR]
 ·intro y hy;obtain ⟨r,hr,rfl⟩:=zJ.mp hy;obtain ⟨c,hc,hr⟩:=uK.mp hr;have h1:=EW (j:=0) (hw c _ (XI (mem c (.inr hc)))) (zJ.mpr ⟨r,hr,rfl⟩);have h2:=pC c hc
  cases e:r.1.lt k with
  | false=>rfl
  | true=>
   have h3:k.lt (YS (gd ts c)).lo=true:=by
    cases z:k.lt (YS (gd ts c)).lo with
    | true=>rfl
    | false=>rw [z] at h2;cases h2
   rw [lt_trans' _ _ _ e h3] at h1;cases h1
 ·intro x hx;have hx1:=up.2.2 x hx _ (xG _ lob);have hA0:A≠[]:=fun z=>by rw [z] at hx;simp [Zu] at hx
  have h2:=pA hA0
  cases e:x.lt k with
  | true=>rfl
  | false=>
   rw [Kf e hx1] at h2;cases h2
theorem JY{gt:List KT}{ts:List ZS}(hw:WF gt ts)(k:KT):∀ n i,i<ts.length->(gd ts i).h=n->((UW ts k n i).map (Qh ts)).sum=XW (Pu ts i) k
 | 0,i,hi,h=>by
  have e:Qh ts (i,Yv ts k i)=Yv ts k i:=aP h;have e2:Yv ts k i=XW (Pu ts i) k:=aP h;rw [UW,zF,wV,xE,tV,uR,e,e2]
 | n+1,i,hi,h=>by
  have h0:(gd ts i).h≠0:=by lia
  obtain ⟨n1,n2,n3⟩:=NO hw hi h0 k;have e:Qh ts (i,Yv ts k i)=(Zu ts ((gd ts i).bs.take (Yv ts k i))).length:=aO h0;rw [UW,zF,xE,JY hw k n _ (by lia) (by lia),e,D9 hw hi h0 k]
def UL(ts:List ZS)(k:KT):Option Nat->Nat
 | none=>0
 | some i=>XW (Pu ts i) k
theorem ZLW{gt:List KT}{ts:List ZS}(hw:WF gt ts)(k:KT){rn:Option Nat}(h:∀ i,rn=some i->i<ts.length):((VB ts k rn).map (Qh ts)).sum=UL ts k rn:=by
 cases rn with
 | none=>rfl
 | some i=>exact JY hw k _ i (h i rfl) rfl
theorem HS{gt:List KT}{ts:List ZS}(hw:WF gt ts)(k:KT):∀ n i,i<ts.length->(gd ts i).h=n->∀ p∈UW ts k n i,p.1<ts.length
 | 0,i,hi,h,p,hp=>by rw [UW] at hp;rw [zA.mp hp];exact hi
 | n+1,i,hi,h,p,hp=>by
  rw [UW] at hp;obtain ⟨n1,n2,n3⟩:=NO hw hi (by lia) k
  rcases zB.mp hp with z | z
  ·rw [z];exact hi
  ·exact HS hw k n _ (by lia) (by lia) p z
theorem JN(ts:List ZS):∀ bs:List Nat,(bs.map fun b=>(((gd ts b).rows.length:Nat):Int)).sum=(((Zu ts bs).length:Nat):Int)
 | []=>rfl
 | b :: bs=>by
  rw [zF,xE,JN ts bs];unfold Zu;rw [wM,zU]
  lia
theorem Jp:∀ l:List Nat,(l.map fun n=>((n:Nat):Int)).sum=((l.sum:Nat):Int)
 | []=>rfl
 | n :: l=>by rw [zF,xE,Jp l,xE];lia
theorem ZOO{xs:jf}(n:Nat):U9 xs none (some (n:Int))=xs.take n:=by
 unfold U9;rw [HT.sIx_none,HT.sIx_nat,List.drop_zero,Nat.sub_zero,<-rR]
inductive Wo(gt:List KT)(jh ji:aj)(vs:jf)(H:Hp)(Q:VK)(_:XK):Prop
 | mk (X:YL) (lk:aj) (c:Nat) (ls:jf) (N:aj->Prop) (p:Nat×Nat) (u:V) (_:vs=[.ref X.S,u]) (_:Zx jh ji H X lk c ls) (_:WF gt X.ts) (_:p.1<X.ts.length) (_:YU N H X.ts p u) (_:∀ H',ZA H H'->Q (.int (Qh X.ts p:Nat)) H')
theorem V1:ZC ["shelf","step","at","found"] ["shelf","step"] (Ze LO):=Zp
theorem ZLL{gt:List KT}(F:Zj K "rows_ahead" "rows_ahead" LO f fd)(T:YF mg)(DI:ZB P w K mg base 1 "is_leaf" ["found"] Yb)(DU:ZB P w K mg base 3 "rows_under" ["shelf","root"] (Xt jh ji)):ZJ P w K mg base ZW 4 f fd ["shelf","step"] (Wo gt jh ji):=by
 refine F.ko V1 fun cdv A outer s H vs Q E hr h=>?_;obtain ⟨X,lk,c,ls,N,p,u,rfl,R,hw,hp,⟨t,fv,rfl,ht,hf⟩,q⟩:=h;have nd:=V1.nd;have hr1:=hr.mono (show 1<=3 by decide)
 refine ⟨_,ZR (Zk 2 nd (Zn (r:=Xk K) Zi (pv 1) ZM (fun _ _=>rfl)))
  (ZR (Zk 3 nd (Zn (r:=Xk K) Zi (pv 1) ZM (fun _ _=>rfl)))
  (ZR (Z5 (Y9 (Zh DI hr1 (ZG (pv 3) ZF))) (ZU (Zg (pv 2))) Z7)
  (ZU (Zg (Z4 (M5 rfl) rfl T.sum KD (ZG (VZ [0] ["shelf"] rfl (VE (N0 Nk (Zn (r:=Xk K) Zi (pv 3) ZM (fun _ _=>rfl)) Jl (P1 (pv 2)))) (fun _ _ _ _ _=>Vc) (fun _ _ _ _ _=>Zh DU hr (ZG (pv 1) (ZG (pv 0) ZF))) ⟨rfl,.inl rfl,rfl,trivial⟩) ZF)))))),?_⟩
 refine ⟨_,rfl,t,_,_,_,rfl,rfl,Zo.of ht,rfl,_,rfl,t,_,_,_,rfl,rfl,Zo.of ht,rfl,_,rfl,N,gd X.ts p.1,fv,rfl,hf,_,rfl,?_⟩;obtain ⟨tp,l,us,rfl,h1,h2,n1,h3,h4⟩:=hf;by_cases h:(gd X.ts p.1).h=0
 ·rw [aM h];have e:Qh X.ts p=p.2:=aP h;have:=q H (ZA.refl _);rw [e] at this;exact Z2 ⟨_,rfl,this⟩
 ·rw [aK h];have eu:=h4 h;subst eu;obtain ⟨b2,b4,b3,er⟩:=(hw _ _ (XI hp)).stem h;refine Zm ⟨_,rfl,tp,_,_,.ref l,rfl,rfl,Zo.of h1,rfl,_,rfl,_,rfl,l,_,rfl,ZL.of h2,fun l' nl'=>?_⟩;rw [ZOO,show (iN (gd X.ts p.1).bs).take p.2=iN ((gd X.ts p.1).bs.take p.2) from (tP).symm];have g1:=ZY nl' (.lst (iN ((gd X.ts p.1).bs.take p.2)));have el:=ZP (H:=H) (a:=l') (o:=.lst (iN ((gd X.ts p.1).bs.take p.2)));generalize upd H l' (.lst (iN ((gd X.ts p.1).bs.take p.2)))=H1 at g1 el ⊢;have ll:(iN ((gd X.ts p.1).bs.take p.2)).length<=4:=by rw [zX,xH];lia
  refine ⟨l',rfl,⟨_,ZL.of el⟩,VY (n:=(iN ((gd X.ts p.1).bs.take p.2)).length) (fun i z=>(iN ((gd X.ts p.1).bs.take p.2))[i]? = some z) (fun D j ys H3=>ZA H1 H3/\H1 D=none/\ys=((((gd X.ts p.1).bs.take p.2).take j).map fun b=>(((gd X.ts b).rows.length:Nat):Int)).map V.int) (XM (by lia))
   (fun D j ys H3 hj hP=>⟨_,_,ZL.of (hP.1 _ _ el),zT hj⟩) (fun D j ys H3 z H4 hj hP hy=>⟨hy.1,hy.2 _ (ZL.of (hP.1 _ _ el))⟩) (fun D ys H3 hP=>⟨_,ZL.of (hP.1 _ _ el),zY _⟩)
   (fun D hD=>⟨ZY hD _,hD,rfl⟩) (fun D j ys H3 z eD hl' hj hz hP RR jQ=>?_) (fun D ys H3 eD hP=>?_)⟩
  ·obtain ⟨s3,nD,rfl⟩:=hP;obtain ⟨b,eb,rfl⟩:=OD hz;have hb:=(b3 b (List.mem_of_mem_take (zN eb))).1;refine ⟨_,rfl,_,rfl,X,lk,c,ls,some b,rfl,(R.same g1).same s3,(fun i z=>by cases z;lia),jQ _ H3 eD ⟨UO s3 nD,nD,?_⟩⟩
   rw [yL,eb,yZ,yZ];rfl
  ·obtain ⟨s3,nD,rfl⟩:=hP;rw [yR (by rw [<-zX];exact zY _)] at eD
   refine ⟨D,_,rfl,ZL.of eD,?_⟩;rw [JN];have e:Qh X.ts p=(Zu X.ts ((gd X.ts p.1).bs.take p.2)).length:=aO h;have:=q H3 (g1.trans s3);rw [e] at this;exact this
inductive YZ(gt:List KT)(jh ji CT CK:aj)(vs:jf)(H:Hp)(Q:VK)(E:XK):Prop
 | mk (X:YL) (lk:aj) (c:Nat) (ls:jf) (r:Option Int) (v:V) (o:Option KT) (_:vs=[.ref X.S,YE r,v]) (_:QX gt jh ji CT CK H X lk c ls r v o E) (_:∀(k:KT)(rn:Option Nat),o=some k->r=Zy rn->(∀ i,rn=some i->i<X.ts.length)->∀(H':Hp)(ls':jf),(∀ b o,b≠lk->H b=some o->H' b=some o)->Zx jh ji H' X lk c ls'->ls'.length<=ls.length+61->Q (.int (UL X.ts k rn:Nat)) H')
theorem De:ZC ["shelf","root","key"] ["shelf","root","key"] (Ze LA):=Zp
theorem Bo{gt:List KT}(F:Zj K "place_of" "place_of" LA f fd)(T:YF mg)(DS:Z3 P w K mg base 10 "steps_to" ["shelf","root","key"] (VD gt jh ji CT CK))(DA:ZB P w K mg base 4 "rows_ahead" ["shelf","step"] (Wo gt jh ji)):ZJ P w K mg base (XD P w) 11 f fd ["shelf","root","key"] (YZ gt jh ji CT CK):=by
 refine F.kD De fun cdv A outer s H vs Q E hr h=>?_;obtain ⟨X,lk,c,ls,r,v,o,rfl,A0,q⟩:=h;have hr4:=hr.mono (show 4<=10 by decide)
 refine ⟨_,ZU (Zg (Z4 (M5 rfl) rfl T.sum KD (ZG (VZ [0] ["shelf"] rfl (VE (UR Wt DS hr (WA (pv 0) (pv 1) (pv 2)))) (fun _ _ _ _ _=>Vc) (fun _ _ _ _ _=>Zh DA hr4 (ZG (pv 1) (ZG (pv 0) ZF))) ⟨rfl,.inl rfl,rfl,trivial⟩) ZF))),?_⟩;refine ⟨_,rfl,_,rfl,_,rfl,X,lk,c,ls,r,v,o,rfl,A0,fun k rn ek er jm H1 S us fr R1 nS Slk hS hst=>?_⟩;have lw:=ZNQ k A0.low jm;have ln:=Paired.length hst;have hin:∀ p∈VB X.ts k rn,p.1<X.ts.length:=fun p hp=>by
  cases rn with
  | none=>simp [VB] at hp
  | some i=>exact HS A0.wf k _ i (jm i rfl) rfl p hp
 refine ⟨S,rfl,⟨us,ZL.of hS⟩,VY (n:=us.length) (fun i z=>us[i]? = some z) (fun D i ys H3=>ZA H1 H3/\H1 D=none/\ys=(((VB X.ts k rn).take i).map fun p=>((Qh X.ts p:Nat):Int)).map V.int) (XM (by lia))
  (fun D i ys H3 hi hP=>⟨us,us[i],ZL.of (hP.1 _ _ hS),by simp [hi]⟩) (fun D i ys H3 z H4 hi hP hy=>⟨hy.1,hy.2 us (ZL.of (hP.1 _ _ hS))⟩) (fun D ys H3 hP=>⟨us,ZL.of (hP.1 _ _ hS),zY _⟩)
  (fun D hD=>⟨ZY hD _,hD,rfl⟩) (fun D i ys H3 z eD hl' hi hz hP RR jQ=>?_) (fun D ys H3 eD hP=>?_)⟩
 ·obtain ⟨s3,nD,rfl⟩:=hP;obtain ⟨p,ep,st⟩:=Paired.ixR hst hz;refine ⟨_,rfl,_,rfl,X,lk,c,_,_,p,z,rfl,R1.same s3,A0.wf,hin p (zN ep),YU.off st (fun b o _ e=>s3 b o e) (ZA.tups s3),fun H4 s4=>jQ _ H4 (s4 _ _ eD) ⟨UO (s3.trans s4) nD,nD,?_⟩⟩;rw [yL,ep,yZ,yZ];rfl
 ·obtain ⟨s3,nD,rfl⟩:=hP;rw [yR (by lia)] at eD
  refine ⟨D,_,rfl,ZL.of eD,?_⟩;have e:((VB X.ts k rn).map fun p=>((Qh X.ts p:Nat):Int)).sum=((UL X.ts k rn:Nat):Int):=by
   rw [<-ZLW A0.wf k jm,<-Jp,wB];rfl
  rw [e];refine q k rn ek er jm H3 _ (fun b o' n e=>s3 b o' (fr b o' n e)) (R1.same s3) ?_;rw [zU];have:(QP (VB X.ts k rn)).length=(VB X.ts k rn).length:=zX _
  lia
theorem Ym.sub{l m:List KT}(h:Ym m)(s:l.Sublist m):Ym l:=tT.sublist s h
theorem Me(ts:List ZS):∀ jn:List (List Nat),Zu ts jn.flatten=jn.flatMap fun bs=>Zu ts bs
 | []=>rfl
 | bs :: jn=>by
  rw [wI,wM,<-Me ts jn];unfold Zu;rw [vD]
theorem Aq{gt:List KT}{ts:List ZS}(hw:WF gt ts){bs:List Nat}{h:Nat}(hb:∀ b∈bs,b<ts.length/\(gd ts b).h=h)(h2:2<=bs.length)(h4:bs.length<=4)(hr:Ym ((Zu ts bs).map (·.1))):∃ L,over (XB ts bs)=some L:=by
 have ll:(XB ts bs).length=bs.length:=zX _;have up:=hr;unfold Ym Zu at up;rw [List.map_flatMap,rS] at up;refine ⟨_,Ce (by lia) (by lia) fun j hj=>?_⟩
 have j0:j<bs.length:=by lia
 have j1:j+1<bs.length:=by lia
 rw [Qn j0,Qn j1];have ea:bs[j]? = some (bs.getD j 0):=by rw [zV,zT j0];rfl
 have eb:bs[j+1]? = some (bs.getD (j+1) 0):=by rw [zV,zT j1];rfl
 have ha:=hb _ (zN ea);have hc:=hb _ (zN eb);have pr:=La up.2 (uV j) ea eb;obtain ⟨rs1,r1,e1,f1⟩:=Mt (hw _ _ (XI ha.1)).ne;obtain ⟨r2,rs2,e2,f2⟩:=Qs (hw _ _ (XI hc.1)).ne;unfold Ug;rw [zQ];refine ⟨?_,?_⟩
 ·show (((gd ts (bs.getD j 0)).h:Int)==((gd ts (bs.getD (j+1) 0)).h:Int))=true;rw [ha.2,hc.2];simp
 ·rw [f1,f2];refine pr _ ?_ _ ?_
  ·rw [e1,yZ];exact yI _ (zA.mpr rfl)
  ·rw [e2];exact zK ..
theorem ZIS{rs ps:List Zz}(hf:∀ r∈rs,r.fit)(hr:Ym (rs.map (·.1)))(hs:ps.Sublist rs)(h1:1<=ps.length)(h4:ps.length<=4):Qj ps:=⟨fun r h=>hf r (hs.subset h),by lia,h4,Ym.sub hr (hs.map _)⟩
theorem ZKR{α:Type}{jn:List (List α)}{ps:List α}(h:ps∈jn):ps.Sublist jn.flatten:=qS h
theorem FJ{gt:List KT}{ts:List ZS}{rs:List Zz}(g:Qj rs):WE gt ts ts.length (V5 rs):=
 ⟨fun z=>by have:=g.2.1;rw [show (V5 rs).rows=rs from rfl] at z;rw [z] at this;simp at this,g.2.2.2,g.1,fun _=>⟨rfl,g.2.2.1⟩,fun z=>absurd rfl z⟩
def QU(t:ZS):Prop:=t.h<=60/\t.rows.length<=60
def YQ{α:Type}(back:Bool)(l:List α):List α:=if back=true then l.reverse else l
theorem Pn{α:Type}(back:Bool)(l:List α):(YQ back l).length=l.length:=by cases back <;> simp [YQ]
theorem HR{α:Type}(back:Bool)(l:List α):YQ back (YQ back l)=l:=by cases back <;> simp [YQ]
theorem OR{α β:Type}(f:α->β)(back:Bool)(l:List α):(YQ back l).map f=YQ back (l.map f):=by cases back <;> simp [YQ]
theorem YA{α:Type}{back:Bool}{l:List α}{x:α}:x∈YQ back l ↔ x∈l:=by cases back <;> simp [YQ]
theorem Fb{back:Bool}{l:List Nat}(h:l.Nodup):(YQ back l).Nodup:=by
 cases back
 ·exact h
 ·exact (List.reverse_perm l).nodup_iff.mpr h
theorem Mi{α β:Type}{F:α->β->Prop}(back:Bool){l:List α}{m:List β}(h:Paired F l m):Paired F (YQ back l) (YQ back m):=by
 cases back
 ·exact h
 ·show Paired F l.reverse m.reverse
  induction h with
  | nil=>exact .nil
  | cons a _ ih=>rw [List.reverse_cons,List.reverse_cons];exact P7 a ih
theorem En{back:Bool}{qs:List (List Nat)}(h:qs.flatten.Nodup):(YQ back qs).flatten.Nodup:=by
 cases back
 ·exact h
 ·show qs.reverse.flatten.Nodup;have:qs.flatten.Perm qs.reverse.flatten:=(List.reverse_perm qs).symm.flatten;exact this.nodup_iff.mp h
theorem LF{ts L:List ZS}{i:Nat}(h:i<ts.length):gd (ts++L) i=gd ts i:=by
 unfold gd;rw [zV,wX h,<-zV]
theorem ZHu(ts L:List ZS):(yB ts.length L.length).map (fun b=>(gd (ts++L) b).rows)=L.map (·.rows):=by
 refine tI (by simp) fun i h1 h2=>?_
 have hi:i<L.length:=by simpa using h2
 rw [tH,tH,List.getElem_range'];unfold gd;rw [zV,xW (by lia),show ts.length+1 * i - ts.length=i by lia,zT hi]
 rfl
theorem E3{ts L:List ZS}{b:Nat}(h:b∈yB ts.length L.length):gd (ts++L) b∈L:=by
 rw [List.mem_range'_1] at h;unfold gd;rw [zV,xW h.1,zT (show b - ts.length<L.length by lia)]
 exact xZ _
theorem CN(ts L:List ZS)(back:Bool):Zu (ts++L) (YQ back (yB ts.length L.length))=((YQ back L).map (·.rows)).flatten:=by
 unfold Zu;rw [uT,OR,ZHu,OR]
theorem Ji{α β:Type}(f:α->β):∀(jn:List (List β))(l:List α),jn.flatten=l.map f->∃ jq:List (List α),jn=jq.map (List.map f)/\jq.flatten=l
 | [],l,h=>⟨[],rfl,by
  have:l.map f=[]:=h.symm;rw [List.map_eq_nil_iff.mp this];rfl⟩
 | ps :: jn,l,h=>by
  rw [wI] at h;obtain ⟨l1,l2,rfl,h1,h2⟩:=List.map_eq_append_iff.mp h.symm;obtain ⟨jq,e1,e2⟩:=Ji f jn l2 h2.symm;exact ⟨l1 :: jq,by rw [zF,h1,<-e1],by rw [wI,e2]⟩
theorem K3{H:Hp}:∀(jn:List (jf))(rs:List Zz),KeysAt H (Zv rs) jn.flatten->∃ jq:List (List Zz),jq.flatten=rs/\Paired (fun q ps=>KeysAt H (Zv q) ps) jq jn
 | [],rs,h=>⟨[],by
  have:=h.length;unfold Zv at this;rw [zX] at this;exact (sG.mp this).symm,.nil⟩
 | ps :: jn,rs,h=>by
  rw [wI] at h;have h1:=h.take ps.length;have h2:=h.drop ps.length;rw [List.take_left'  rfl] at h1;rw [List.drop_left' rfl] at h2;unfold Zv at h1 h2;rw [<-tP] at h1;rw [<-tQ] at h2;obtain ⟨jq,e1,e2⟩:=K3 jn _ h2;exact ⟨rs.take ps.length :: jq,by rw [wI,e1,wE],.cons h1 e2⟩
theorem N3{α:Type}{n:Nat}:∀(jq:List (List α)),(∀ q∈jq,n<=q.length)->n * jq.length<=jq.flatten.length
 | [],_=>by simp
 | q :: jq,h=>by
  have:=N3 jq fun x hx=>h x (zH _ hx);have h1:=h q zK;rw [wI,zU,zI,Nat.mul_add]
  lia
section
variable{gt:List KT}{jh ji:aj}{N N2:aj->Prop}{H0 H H':Hp}{S d lk:aj}{ls:jf}{jx ts ts':List ZS}{av av':Nat->List Nat}{ho ho':Nat->Nat}{jA as as':List YC}{kvs kvs':List (Zd×V)}
theorem Yf.but(R:Yf jh ji H S d lk ts av ho as kvs ls){c:aj}{o:jf}(s:ZE c H H')(hc:H c=some (.lst o))(clk:c≠lk)(own:∀ i:Nat,i<ts.length->(as.getD i .d).ab≠c/\(as.getD i .d).th≠c):Yf jh ji H' S d lk ts av ho as kvs ls:=by
 have t:=s.tups hc;obtain ⟨⟨dS,hS⟩,hd,hl⟩:=R.sh;refine ⟨⟨⟨dS,s _ _ hS (ZQ hS hc)⟩,s _ _ hd (ZQ hd hc),s _ _ hl (Ne.symm clk)⟩,R.keys,R.val,R.len,fun i hi=>?_,R.own,R.two⟩;obtain ⟨dx,hx⟩:=(R.tw i hi).tw.self;exact (R.tw i hi).frame t (fun o e=>s _ _ e (ZQ hx hc)) (fun o e=>s _ _ e (own i hi).2) (fun o e=>s _ _ e (own i hi).1)
structure YW(gt:List KT)(jh ji:aj)(N:aj->Prop)(H0 H:Hp)(S d lk:aj)(ls:jf)(jx:List ZS)(jA:List YC)(ts:List ZS)(av:Nat->List Nat)(ho:Nat->Nat)(as:List YC)(kvs:List (Zd×V)):Prop where
 sh:Yf jh ji H S d lk ts av ho as kvs ls
 wf:WF gt ts
 hs:∀ i,i<ts.length->QU (gd ts i)
 fr:∀ c o,¬ N c->c≠S->c≠d->(∀ b:Nat,b<jx.length->c≠(jA.getD b .d).x/\c≠(jA.getD b .d).ab)->H0 c=some o->H c=some o
 gr:∀ c,H c=none->H0 c=none
 le:jx.length<=ts.length
 old:∀ i,i<jx.length->as.getD i .d=jA.getD i .d/\gd ts i=gd jx i
 new:∀ i,jx.length<=i->i<ts.length->H0 (as.getD i .d).x=none/\H0 (as.getD i .d).th=none/\H0 (as.getD i .d).ab=none
theorem YW.refl(R:Yf jh ji H S d lk ts av ho as kvs ls)(hw:WF gt ts)(hs:∀ i,i<ts.length->QU (gd ts i)):YW gt jh ji N H H S d lk ls ts as ts av ho as kvs:=
 ⟨R,hw,hs,fun c o _ _ _ _ e=>e,fun c e=>e,zY _,fun i _=>⟨rfl,rfl⟩,fun i h1 h2=>absurd h2 (by lia)⟩
theorem YW.off(r:YW gt jh ji N H0 H S d lk ls jx jA ts av ho as kvs){c:aj}{o:HO}(e:H0 c=some o)(h:∀ b:Nat,b<jx.length->c≠(jA.getD b .d).x/\c≠(jA.getD b .d).ab)(b:Nat)(hb:b<ts.length):c≠(as.getD b .d).x/\c≠(as.getD b .d).ab:=by
 rcases zC b jx.length with z | z
 ·rw [(r.old b z).1];exact h b z
 ·obtain ⟨n1,_,n3⟩:=r.new b z hb;exact ⟨Za e n1,Za e n3⟩
theorem YW.push(r:YW gt jh ji N H0 H S d lk ls jx jA ts av ho as kvs){t:ZS}{a:YC}(ok:WE gt ts ts.length t)(h60:QU t)(nx:H a.x=none)(nth:H a.th=none)(nab:H a.ab=none)(fr:∀ c o,c≠S->c≠d->(∀ b:Nat,b<ts.length->c≠(as.getD b .d).x/\c≠(as.getD b .d).ab)->H c=some o->H' c=some o)(R':Yf jh ji H' S d lk (ts++[t]) av' ho' (as++[a]) kvs' ls):YW gt jh ji N H0 H' S d lk ls jx jA (ts++[t]) av' ho' (as++[a]) kvs':=by
 have el:as.length=ts.length:=r.sh.len;have en:(ts++[t]).length=ts.length+1:=by simp
 have aL:∀ i,i<ts.length->(as++[a]).getD i .d=as.getD i .d:=fun i hi=>Lx (by lia)
 have aN:(as++[a]).getD ts.length .d=a:=by rw [<-el];exact MP
 have le:=r.le;refine ⟨R',WF.push r.wf ok,fun i hi=>?_,fun c o n1 n2 n3 n4 e=>fr c o n2 n3 (r.off e n4) (r.fr c o n1 n2 n3 n4 e),fun c e=>r.gr c ?_,by lia,fun i hi=>?_,fun i h1 h2=>?_⟩
 ·rcases zC i ts.length with z | z
  ·rw [Oj z];exact r.hs i z
  ·have:i=ts.length:=by lia
   rw [this,MF];exact h60
 ·cases z:H c with
  | none=>rfl
  | some o=>
   exfalso
   by_cases c1:c=S
   ·obtain ⟨dS,hS⟩:=R'.sh.self;rw [c1,hS] at e;cases e
   by_cases c2:c=d
   ·rw [c2,R'.sh.kept] at e;cases e
   have:∀ b:Nat,b<ts.length->c≠(as.getD b .d).x/\c≠(as.getD b .d).ab:=fun b hb=>by
    have W:=R'.tw b (by lia)
    rw [aL b hb] at W;obtain ⟨dx,hx⟩:=W.tw.self;exact ⟨(Za hx e).symm,(Za W.tw.above e).symm⟩
   rw [fr c o c1 c2 this z] at e;cases e
 ·rw [aL i (by lia),Oj (by lia)];exact r.old i hi
 ·rcases zC i ts.length with z | z
  ·rw [aL i z];exact r.new i h1 z
  ·have:i=ts.length:=by lia
   rw [this,aN];exact ⟨r.gr _ nx,r.gr _ nth,r.gr _ nab⟩
structure WR(H0:Hp)(lk:aj)(jx:List ZS)(jA:List YC)(c:aj):Prop where
 at_:∃ o,H0 c=some (.lst o)
 lk:c≠lk
 own:∀ i:Nat,i<jx.length->(jA.getD i .d).ab≠c/\(jA.getD i .d).th≠c
theorem YW.own(r:YW gt jh ji N H0 H S d lk ls jx jA ts av ho as kvs){c:aj}(ap:WR H0 lk jx jA c)(i:Nat)(hi:i<ts.length):(as.getD i .d).ab≠c/\(as.getD i .d).th≠c:=by
 rcases zC i jx.length with z | z
 ·rw [(r.old i z).1];exact ap.own i z
 ·obtain ⟨_,n2,n3⟩:=r.new i z hi;obtain ⟨o,e⟩:=ap.at_;exact ⟨(Za e n3).symm,(Za e n2).symm⟩
theorem YW.but(r:YW gt jh ji N H0 H S d lk ls jx jA ts av ho as kvs){c:aj}{o o':jf}(ap:WR H0 lk jx jA c)(hN:N c)(hc:H c=some (.lst o))(s:ZE c H H')(hc':H' c=some (.lst o')):YW gt jh ji N H0 H' S d lk ls jx jA ts av ho as kvs:=
 ⟨r.sh.but s hc ap.lk (r.own ap),r.wf,r.hs,fun b u n1 n2 n3 n4 e=>s _ _ (r.fr b u n1 n2 n3 n4 e) fun z=>n1 (z ▸ hN),fun b e=>r.gr b (by
  cases z:H b with
  | none=>rfl
  | some u=>
   exfalso
   by_cases c1:b=c
   ·rw [c1,hc'] at e;cases e
   ·rw [s _ _ z c1] at e;cases e),r.le,r.old,r.new⟩
theorem YW.same(r:YW gt jh ji N H0 H S d lk ls jx jA ts av ho as kvs)(s:ZA H H'):YW gt jh ji N H0 H' S d lk ls jx jA ts av ho as kvs:=
 ⟨r.sh.same s,r.wf,r.hs,fun b u n1 n2 n3 n4 e=>s _ _ (r.fr b u n1 n2 n3 n4 e),fun b e=>r.gr b (s.free e),r.le,r.old,r.new⟩
theorem YW.trans(r:YW gt jh ji N H0 H S d lk ls jx jA ts av ho as kvs)(q:YW gt jh ji N2 H H' S d lk ls ts as ts' av' ho' as' kvs')(hN:∀ c,N2 c->H0 c=none\/N c):YW gt jh ji N H0 H' S d lk ls jx jA ts' av' ho' as' kvs':=by
 have l1:=r.le;have l2:=q.le;refine ⟨q.sh,q.wf,q.hs,fun c o n1 n2 n3 n4 e=>q.fr c o (fun z=>(hN c z).elim (fun y=>by rw [y] at e;cases e) n1) n2 n3 (r.off e n4) (r.fr c o n1 n2 n3 n4 e),fun c e=>r.gr c (q.gr c e),by lia,fun i hi=>?_,fun i h1 h2=>?_⟩
 ·obtain ⟨a1,a2⟩:=q.old i (by lia)
  rw [a1,a2];exact r.old i hi
 ·rcases zC i ts.length with z | z
  ·rw [(q.old i z).1];exact r.new i h1 z
  ·obtain ⟨m1,m2,m3⟩:=q.new i z h2;exact ⟨r.gr _ m1,r.gr _ m2,r.gr _ m3⟩
theorem YW.tups(r:YW gt jh ji N H0 H S d lk ls jx jA ts av ho as kvs)(R0:Yf jh ji H0 S d lk jx av' ho' jA kvs' ls)(hN:∀ c,N c->∃ o,H0 c=some (.lst o)):Z1 H0 H:=fun c xs e=>by
 obtain ⟨⟨dS,hS⟩,hd,hl⟩:=R0.sh;refine r.fr c _ (fun z=>?_) (ZQ e hS) (ZQ e hd) (fun b hb=>?_) e
 ·obtain ⟨o,eo⟩:=hN c z;rw [eo] at e;cases e
 ·obtain ⟨dx,hx⟩:=(R0.tw b hb).tw.self;exact ⟨ZQ e hx,ZQ e (R0.tw b hb).tw.above⟩
theorem P6(R0:Yf jh ji H S d lk ts av ho as kvs ls){c:aj}(n:H c=none){o:jf}(e:H' c=some (.lst o)):WR H' lk ts as c:=
 ⟨⟨o,e⟩,(Za R0.sh.looks n).symm,fun i hi=>by
  obtain ⟨us,e1,_⟩:=(R0.tw i hi).things;exact ⟨Za (R0.tw i hi).tw.above n,Za e1 n⟩⟩
end
abbrev N8:List Str:=["_law_well_here","_law_shelf","_law_rows","_law_few","_law_back","_law_level","_law_stem","_law_numbers","_law_parts","_law_part"]
theorem Xx:ZC N8 ["_law_well_here","_law_shelf","_law_rows"] (Ze QB):=Zp
def Gh:Option aE->List aE
 | some (.For _ _ b _ _)=>b
 | _=>[]
def Iu:List Stmt:=JC ((Xv QB)[4]?)
def IG:List Stmt:=Gh (Iu[2]?)
section
variable{P:ao}{w:ay}{K:zZ}{mg:jc}{base:aF}{f:aj}{fd:aq}{cdv:ai}{A:az}{outer:List Env}{s:am}{Hs:Hp}{E:XK}{jh ji:aj}
theorem Ea{gt:List KT}(L:XA K mg jh ji)(hr:ZX 10 (A.deeper (envOfC "_law_plant" (Ze QB) s.heap.objs.size f cdv)))(DS:ZK P w K mg base ZW 10 jh "put_stem" ["self","numbers"] (Z9 gt jh ji))(DL:ZK P w K mg base ZW 10 jh "put_leaf" ["self","rows"] (Ya jh ji)):
  ∃ t,Xn (X9 ZW P w K mg base N8 "_law_plant" (Ze QB) f cdv A outer s Hs E).nox IG t /\
  (∀(D0:Yu)(H1 H:Hp)(S d lk nm q:aj)(x0 x2 x3 x4 x5 x8:jg)(jo ts:List ZS)(jC as:List YC)(av:Nat->List Nat)(ho:Nat->Nat)(kvs:List (Zd×V))(ls nl us:jf)(rs:List Zz),
   YW gt jh ji (· = nm) H1 H S d lk ls jo jC ts av ho as kvs->ts.length<=700->WR H1 lk jo jC nm->H nm=some (.lst nl)->nl.length<=200->H q=some (.lst us)->KeysAt H (Zv rs) us->Qj rs ->
   (∀ H' as' kvs',YW gt jh ji (· = nm) H1 H' S d lk ls jo jC (ts++[V5 rs]) (U1 ts.length av) (Ur ts.length ho) as' kvs'->H' nm=some (.lst (nl++[.int (ts.length:Nat)]))->D0.nx [x0,some (.ref S),x2,x3,x4,x5,some (.bl false),some (.ref nm),x8,some (.ref q)] H') ->
   t D0 [x0,some (.ref S),x2,x3,x4,x5,some (.bl false),some (.ref nm),x8,some (.ref q)] H) /\
  (∀(D0:Yu)(H1 H:Hp)(S d lk nm q:aj)(x0 x2 x3 x4 x5 x8:jg)(jo ts:List ZS)(jC as:List YC)(av:Nat->List Nat)(ho:Nat->Nat)(kvs:List (Zd×V))(ls nl:jf)(bs:List Nat)(Lb:YV),
   YW gt jh ji (· = nm) H1 H S d lk ls jo jC ts av ho as kvs->ts.length<=700->WR H1 lk jo jC nm->H nm=some (.lst nl)->nl.length<=200->H q=some (.lst (iN bs))->(∀ b∈bs,b<ts.length/\ho b=1/\av b=[])->over (XB ts bs)=some Lb->QU (Xm ts bs) ->
   (∀ H' as' kvs',YW gt jh ji (· = nm) H1 H' S d lk ls jo jC (ts++[Xm ts bs]) (U8 bs ts.length (U1 ts.length av)) (Up bs (Ur ts.length ho)) as' kvs'->H' nm=some (.lst (nl++[.int (ts.length:Nat)]))->D0.nx [x0,some (.ref S),x2,x3,x4,x5,some (.bl true),some (.ref nm),x8,some (.ref q)] H') ->
   t D0 [x0,some (.ref S),x2,x3,x4,x5,some (.bl true),some (.ref nm),x8,some (.ref q)] H):=by
 have nd:=Xx.nd;refine ⟨_,ZU (Z5 (Y9 (pv 6))
  (ZU (X8 (U0 yC wZ wY QD (pv 7) (ZG (XT (E:=E0) (pv 1) L.cS DS hr XJ (ZG (pv 9) ZF)) ZF))))
  (ZU (X8 (U0 yC wZ wY QD (pv 7) (ZG (XT (E:=E0) (pv 1) L.cS DL hr XJ (ZG (pv 9) ZF)) ZF))))),
  fun D0 H1 H S d lk nm q x0 x2 x3 x4 x5 x8 jo ts jC as av ho kvs ls nl us rs r t7 ap hnm l2 hq hk G fin=>?_,fun D0 H1 H S d lk nm q x0 x2 x3 x4 x5 x8 jo ts jC as av ho kvs ls nl bs Lb r t7 ap hnm l2 hq hb hLb h60 fin=>?_⟩
 ·obtain ⟨dS,hS⟩:=r.sh.sh.self;refine ⟨_,rfl,_,rfl,Zm ⟨_,rfl,.inl ⟨rfl,_,ZL.of hnm⟩,_,rfl,S,dS,_,rfl,hS,rfl,_,rfl,S,d,lk,q,ts,av,ho,as,kvs,ls,us,rs,rfl,r.sh,by lia,hq,hk,G,fun H' a nx nth nab fr R'=>?_⟩⟩
  have r':=r.push (FJ G) ⟨zG _,yK G.2.2.1 (by decide)⟩ nx nth nab (fun c o n1 n2 _ e=>fr c o n1 n2 e) R'
  have nmS:nm≠S:=ZQ hnm hS;have hnm':=fr _ _ nmS (ZQ hnm r.sh.sh.kept) hnm;refine ⟨nm,nl,_,rfl,rfl,hnm',XM (by lia),?_⟩
  exact fin _ _ _ (r'.but ap rfl hnm' (ZE.upd (ZE.refl nm H')) ZP) ZP
 ·obtain ⟨dS,hS⟩:=r.sh.sh.self;refine ⟨_,rfl,_,rfl,Z2 ⟨_,rfl,.inl ⟨rfl,_,ZL.of hnm⟩,_,rfl,S,dS,_,rfl,hS,rfl,_,rfl,S,d,lk,q,ts,av,ho,as,kvs,ls,bs,Lb,rfl,r.sh,r.wf,by lia,fun b h=>⟨(hb b h).1,by rw [(hb b h).2.1];exact zY _,by rw [(hb b h).2.2];exact zG _⟩,hq,hLb,fun H' a nx nth nab fr R'=>?_⟩⟩
  have r':=r.push (ZLg r.wf (fun b h=>(hb b h).1) hLb) h60 nx nth nab fr R';have nmS:nm≠S:=ZQ hnm hS;have ow:=r.own ap;have hnm':=fr _ _ nmS (ZQ hnm r.sh.sh.kept) (fun b hb=>by
   obtain ⟨dx,hx⟩:=(r.sh.tw b hb).tw.self;exact ⟨ZQ hnm hx,(ow b hb).1.symm⟩) hnm
  refine ⟨nm,nl,_,rfl,rfl,hnm',XM (by lia),?_⟩
  exact fin _ _ _ (r'.but ap rfl hnm' (ZE.upd (ZE.refl nm H')) ZP) ZP
end
structure NQ(ts:List ZS)(av:Nat->List Nat)(ho:Nat->Nat)(ns:List Nat)(h:Nat)(rs:List Zz):Prop where
 nd:ns.Nodup
 at_:∀ b∈ns,b<ts.length/\(gd ts b).h=h/\ho b=1/\av b=[]
 rows:Zu ts ns=rs
def N4(gt:List KT)(jh ji:aj)(H1:Hp)(S d lk:aj)(ls:jf)(jo:List ZS)(jC:List YC)(nm:aj)(Ts:List ZS)(qs:List (List Nat))(i:Nat)(H:Hp):Prop:=
 ∃(av:Nat->List Nat)(ho:Nat->Nat)(as:List YC)(kvs:List (Zd×V)),YW gt jh ji (· = nm) H1 H S d lk ls jo jC (jo++Ts.take i) av ho as kvs/\H nm=some (.lst (iN (yB jo.length i)))/\(∀ b,jo.length<=b->b<jo.length+i->ho b=1/\av b=[])/\∀ b∈(qs.drop i).flatten,ho b=1/\av b=[]
theorem K5(n i:Nat):iN (yB n i)++[V.int ((n+i:Nat):Int)]=iN (yB n (i+1)):=by
 rw [List.range'_1_concat];simp [iN]
theorem HB{α:Type}{l:List α}{i:Nat}{x:α}(h:l[i]? = some x):l.take (i+1)=l.take i++[x]:=by rw [yL,h];rfl
theorem ZMi{α:Type}{l:List α}{i:Nat}{x:α}(h:l[i]? = some x):l.drop i=x :: l.drop (i+1):=by
 obtain ⟨hi,e⟩:=yV.mp h;rw [<-e,<-uX hi]
theorem ZJM{ts L:List ZS}{bs:List Nat}(hb:∀ b∈bs,b<ts.length)(h0:0<bs.length):Xm (ts++L) bs=Xm ts bs/\XB (ts++L) bs=XB ts bs:=by
 have e1:bs.getD 0 0∈bs:=by rw [zV,zT h0];exact xZ _
 refine ⟨?_,?_⟩
 ·unfold Xm Zu;rw [LF (hb _ e1)]
  congr 1
  rw [uT,uT]
  congr 1
  exact sS fun b h=>by rw [LF (hb b h)]
 ·unfold XB;exact sS fun b h=>by rw [LF (hb b h)]
theorem Gf{α:Type}{l m:List α}{i:Nat}(h:i<=m.length):(l++m.take i).length=l.length+i:=by simp;lia
section
variable{P:ao}{w:ay}{K:zZ}{mg:jc}{base:aF}{f:aj}{fd:aq}{cdv:ai}{A:az}{outer:List Env}{s:am}{Hs:Hp}{E:XK}{jh ji:aj}
theorem ZQz{gt:List KT}(L:XA K mg jh ji)(hr:ZX 10 (A.deeper (envOfC "_law_plant" (Ze QB) s.heap.objs.size f cdv)))(DS:ZK P w K mg base ZW 10 jh "put_stem" ["self","numbers"] (Z9 gt jh ji))(DL:ZK P w K mg base ZW 10 jh "put_leaf" ["self","rows"] (Ya jh ji)):
  ∃ t,Xn (X9 ZW P w K mg base N8 "_law_plant" (Ze QB) f cdv A outer s Hs E).nox IG t /\
  ∀(Ha H1:Hp)(S d lk nm:aj)(jo:List ZS)(jC:List YC)(av:Nat->List Nat)(ho:Nat->Nat)(kvs:List (Zd×V))(ls us pl:jf)(jn:List (jf))(rs:List Zz)(hN:Nat)(stem back:Bool)(N:aj->Prop),
   Yf jh ji Ha S d lk jo av ho jC kvs ls->Yf jh ji H1 S d lk jo av ho jC kvs ls->WR H1 lk jo jC nm->Ha nm≠none->WF gt jo->(∀ i,i<jo.length->QU (gd jo i))->(∀ b,¬ N b->Ha b=none)->jo.length<=600->us.length<=60->rs.length<=60->hN<=60 ->
   Paired (Yl N H1) jn pl->jn.flatten=us->(∀ ps∈jn,Pk stem ps.length)->(∀ r∈rs,r.fit)->Ym (rs.map (·.1))->H1 nm=some (.lst []) ->
   ((stem=false/\KeysAt H1 (Zv rs) us/\hN=0)\/(stem=true/\∃ ns h,us=iN ns/\NQ jo av ho ns h rs/\hN=h+1)) ->
   ∃(Ts:List ZS)(qs:List (List Nat)),Ts.length=pl.length/\(∀ t∈Ts,t.h=hN)/\((YQ back Ts).map (·.rows)).flatten=rs/\N4 gt jh ji H1 S d lk ls jo jC nm Ts qs 0 H1 /\
    ∀ i u,(YQ back pl)[i]? = some u->∀(D0:Yu)(H:Hp)(x0 x2 x3 x4 x5 x8:jg),N4 gt jh ji H1 S d lk ls jo jC nm Ts qs i H->(∀ H',N4 gt jh ji H1 S d lk ls jo jC nm Ts qs (i+1) H'->D0.nx [x0,some (.ref S),x2,x3,x4,x5,some (.bl stem),some (.ref nm),x8,some u] H') ->
     t D0 [x0,some (.ref S),x2,x3,x4,x5,some (.bl stem),some (.ref nm),x8,some u] H:=by
 obtain ⟨t,ht,hleaf,hstem⟩:=Ea (P:=P) (w:=w) (K:=K) (mg:=mg) (base:=base) (f:=f) (cdv:=cdv) (A:=A) (outer:=outer) (s:=s) (Hs:=Hs) (E:=E) L hr DS DL;refine ⟨t,ht,fun Ha H1 S d lk nm jo jC av ho kvs ls us pl jn rs hN stem back N Ra R1 ap nma hw hs hNf t6 l60 r60 h60 prt flat size frs ris hnm lev=>?_⟩;have stay:∀{q:aj}{o:HO}{H:Hp}{ts:List ZS}{av:Nat->List Nat}{ho:Nat->Nat}{as:List YC}{kvs:List (Zd×V)},¬ N q->H1 q=some o->YW gt jh ji (· = nm) H1 H S d lk ls jo jC ts av ho as kvs->H q=some o:=fun{q o H ts av ho as kvs} nq e r=>by
  have nq:=hNf q nq;obtain ⟨⟨dS,hS⟩,hd,_⟩:=Ra.sh;refine r.fr q o (fun z=>nma (z ▸ nq)) (Za hS nq).symm (Za hd nq).symm (fun b hb=>?_) e;obtain ⟨dx,hx⟩:=(Ra.tw b hb).tw.self;exact ⟨(Za hx nq).symm,(Za (Ra.tw b hb).tw.above nq).symm⟩
 have tup:∀{H:Hp}{ts:List ZS}{av:Nat->List Nat}{ho:Nat->Nat}{as:List YC}{kvs:List (Zd×V)},YW gt jh ji (· = nm) H1 H S d lk ls jo jC ts av ho as kvs->Z1 H1 H:=fun r=>r.tups R1 fun c z=>⟨[],by rw [z];exact hnm⟩
 have lpl:pl.length=jn.length:=prt.length.symm;rcases lev with ⟨rfl,hk,rfl⟩ | ⟨rfl,ns,h,rfl,lv,rfl⟩
 ·rw [<-flat] at hk;obtain ⟨jq,e1,e2⟩:=K3 jn rs hk;have lq:jq.length=jn.length:=e2.length;have few:=N3 (n:=1) jn fun ps h=>(size ps h).1;rw [flat] at few;refine ⟨YQ back (jq.map V5),[],by rw [Pn,zX];lia,fun x hx=>?_,?_,?_,?_⟩
  ·obtain ⟨q,_,rfl⟩:=zJ.mp (YA.mp hx);rfl
  ·rw [HR,wB,<-e1]
   congr 1
   exact List.map_id' jq
  ·refine ⟨av,ho,jC,kvs,?_,hnm,fun b h1 h2=>absurd h2 (by lia),fun b hb=>by simp at hb⟩
   rw [vJ,yO];exact YW.refl R1 hw hs
  ·intro i u hu D0 H x0 x2 x3 x4 x5 x8 hJ fin;obtain ⟨av',ho',as',kvs',r,hn,hh,_⟩:=hJ;obtain ⟨ps,ep,q,rfl,hq,nq⟩:=Paired.ixR (Mi back prt) hu;obtain ⟨rq,er,kq⟩:=Paired.ixR (Mi back e2) ep;have mq:rq∈jq:=YA.mp (zN er);have mp:ps∈jn:=YA.mp (zN ep);have lk':rq.length=ps.length:=by
    have:=kq.length;unfold Zv at this
    rwa [zX] at this
   have sub:rq.Sublist rs:=e1 ▸ ZKR mq;have G:Qj rq:=ZIS frs ris sub (by have:=(size ps mp).1;rw [lk'];exact this) (by have:=(size ps mp).2;rw [lk'];exact this)
   have eT:(YQ back (jq.map V5))[i]? = some (V5 rq):=by rw [<-OR,zL,er];rfl
   have hi:i<(YQ back (jq.map V5)).length:=(yV.mp eT).1;have ll:(YQ back (jq.map V5)).length=jn.length:=by rw [Pn,zX];lia
   have el:(jo++(YQ back (jq.map V5)).take i).length=jo.length+i:=Gf (by lia)
   refine hleaf D0 H1 H S d lk nm q x0 x2 x3 x4 x5 x8 jo _ jC as' av' ho' kvs' ls _ ps rq r (by rw [el];lia) ap hn (by simp [iN];lia) (stay nq hq r) (kq.mono (tup r) _ _) G fun H' as'' kvs'' r' hn'=>?_
   rw [uH,<-HB eT] at r';rw [el] at r' hn';rw [K5] at hn';refine fin H' ⟨_,_,_,_,r',hn',fun b b1 b2=>?_,fun b hb=>by simp at hb⟩
   unfold Ur U1;by_cases z:b=jo.length+i
   ·rw [aP z,aP z];exact ⟨rfl,rfl⟩
   ·rw [aO z,aO z];exact hh b b1 (by lia)
 ·obtain ⟨jq,e1,e2⟩:=Ji (fun b:Nat=>V.int (b:Nat)) jn ns flat;subst e1;have sz:∀ q∈jq,2<=q.length/\q.length<=4:=fun q hq=>by
   have:=size (iN q) (zJ.mpr ⟨q,hq,rfl⟩);unfold Pk iN at this;rw [zX] at this;exact this
  have few:=N3 (n:=2) jq fun q h=>(sz q h).1;have lns:(iN ns).length=ns.length:=zX _;rw [e2] at few;have inn:∀ q∈jq,∀ b∈q,b∈ns:=fun q hq b hb=>by rw [<-e2];exact tG.mpr ⟨q,hq,hb⟩
  have ndq:(YQ back jq).flatten.Nodup:=En (by rw [e2];exact lv.nd)
  refine ⟨YQ back (jq.map (Xm jo)),YQ back jq,by rw [Pn,zX,lpl,zX],fun x hx=>?_,?_,?_,?_⟩
  ·obtain ⟨q,hq,rfl⟩:=zJ.mp (YA.mp hx);have h2:=(sz q hq).1;have m0:q.getD 0 0∈q:=by rw [zV,zT (show 0<q.length by lia)];exact xZ _
   show (gd jo (q.getD 0 0)).h+1=h+1;rw [(lv.at_ _ (inn q hq _ m0)).2.1]
  ·rw [HR,wB,<-lv.rows,<-e2,Me,uT];rfl
  ·refine ⟨av,ho,jC,kvs,?_,hnm,fun b h1 h2=>absurd h2 (by lia),fun b hb=>?_⟩
   ·rw [vJ,yO];exact YW.refl R1 hw hs
   ·rw [List.drop_zero] at hb;obtain ⟨q,hq,hb⟩:=tG.mp hb;exact (lv.at_ b (inn q (YA.mp hq) b hb)).2.2
  ·intro i u hu D0 H x0 x2 x3 x4 x5 x8 hJ fin;obtain ⟨av',ho',as',kvs',r,hn,hh,hdr⟩:=hJ;obtain ⟨ps,ep,q,rfl,hq,nq⟩:=Paired.ixR (Mi back prt) hu;rw [<-OR,zL] at ep;obtain ⟨bs,eb,rfl⟩:=xN.mp ep;have mq:bs∈jq:=YA.mp (zN eb);have hb:∀ b∈bs,b<jo.length:=fun b h=>(lv.at_ b (inn bs mq b h)).1;obtain ⟨b2,b4⟩:=sz bs mq;obtain ⟨sT,lT⟩:=ZJM (L:=(YQ back (jq.map (Xm jo))).take i) hb (by lia)
   have sub':(Zu jo bs).Sublist rs:=by
    rw [<-lv.rows,<-e2,Me,uT];exact qS (zJ.mpr ⟨bs,mq,rfl⟩)
   have ris':Ym ((Zu jo bs).map (·.1)):=Ym.sub ris (sub'.map _);obtain ⟨Lb,hLb⟩:=Aq hw (h:=h) (fun b hb'=>⟨hb b hb',(lv.at_ b (inn bs mq b hb')).2.1⟩) b2 b4 ris';have eT:(YQ back (jq.map (Xm jo)))[i]? = some (Xm jo bs):=by rw [<-OR,zL,eb];rfl
   have hi:i<(YQ back (jq.map (Xm jo))).length:=(yV.mp eT).1;have ll:(YQ back (jq.map (Xm jo))).length=jq.length:=by rw [Pn,zX]
   have el:(jo++(YQ back (jq.map (Xm jo))).take i).length=jo.length+i:=Gf (by lia)
   have ed:((YQ back jq).drop i).flatten=bs++((YQ back jq).drop (i+1)).flatten:=by rw [ZMi eb,wI]
   have nd2:(bs++((YQ back jq).drop (i+1)).flatten).Nodup:=by
    rw [<-ed];have e:(YQ back jq).flatten=((YQ back jq).take i).flatten++((YQ back jq).drop i).flatten:=by rw [<-List.flatten_append,wE]
    rw [e] at ndq;exact (uS.mp ndq).2.1
   have m0:bs.getD 0 0∈bs:=by rw [zV,zT (show 0<bs.length by lia)];exact xZ _
   refine hstem D0 H1 H S d lk nm q x0 x2 x3 x4 x5 x8 jo _ jC as' av' ho' kvs' ls _ bs Lb r (by rw [el];lia) ap hn (by simp [iN];lia) (stay nq hq r) (fun b hb'=>⟨by rw [el];have:=hb b hb';lia,hdr b (by rw [ed];exact xG _ hb')⟩) (by rw [lT];exact hLb) (by rw [sT];refine ⟨?_,yK sub'.length_le r60⟩;show (gd jo (bs.getD 0 0)).h+1<=60;rw [(lv.at_ _ (inn bs mq _ m0)).2.1];exact h60) fun H' as'' kvs'' r' hn'=>?_
   rw [sT,uH,<-HB eT] at r';rw [el] at r' hn';rw [K5] at hn';refine fin H' ⟨_,_,_,_,r',hn',fun b c1 c2=>?_,fun b hb'=>?_⟩
   ·have nb:b∉bs:=fun z=>by have:=hb b z;lia
    unfold Up U8 Ur U1;rw [aO nb,aO nb];by_cases z:b=jo.length+i
    ·rw [aP z,aP z];exact ⟨rfl,rfl⟩
    ·rw [aO z,aO z];exact hh b c1 (by lia)
   ·have nb:b∉bs:=fun z=>(uS.mp nd2).2.2 b z b hb' rfl;have bl:b<jo.length:=by
     obtain ⟨q',hq',hb''⟩:=tG.mp hb';exact (lv.at_ b (inn q' (YA.mp (List.mem_of_mem_drop hq')) b hb'')).1
    unfold Up U8 Ur U1;rw [aO nb,aO nb,aO (by lia),aO (by lia)]
    exact hdr b (by rw [ed];exact yI _ hb')
end
theorem IO(x y:V)(back:Bool):WM [x,y] (if back=true then 1 else 0)=some (if back=true then y else x):=by
 cases back
 ·exact Xb (j:=0) rfl
 ·exact Xb (j:=1) rfl
section
variable{P:ao}{w:ay}{K:zZ}{mg:jc}{base:aF}{f:aj}{fd:aq}{cdv:ai}{A:az}{outer:List Env}{s:am}{Hs:Hp}{E:XK}{jh ji:aj}
theorem ZQp{gt:List KT}(T:YF mg)(L:XA K mg jh ji)(hr:ZX 10 (A.deeper (envOfC "_law_plant" (Ze QB) s.heap.objs.size f cdv)))(DC:ZB P w K mg base 2 "_law_cut" ["_law_well_here","_law_things","_law_few","_law_stem"] V3)(DS:ZK P w K mg base ZW 10 jh "put_stem" ["self","numbers"] (Z9 gt jh ji))(DL:ZK P w K mg base ZW 10 jh "put_leaf" ["self","rows"] (Ya jh ji)):
  ∃ t,Xn (X9 ZW P w K mg base N8 "_law_plant" (Ze QB) f cdv A outer s Hs E).nox Iu t /\
  ∀(D0:Yu)(H:Hp)(p S d lk lv:aj)(fw:Int)(back stem:Bool)(x2 x7 x8 x9:jg)(ts:List ZS)(as:List YC)(av:Nat->List Nat)(ho:Nat->Nat)(kvs:List (Zd×V))(ls us:jf)(rs:List Zz)(hN:Nat),
   ZI H p->Yf jh ji H S d lk ts av ho as kvs ls->WR H lk ts as p->WF gt ts->(∀ i,i<ts.length->QU (gd ts i))->ts.length<=600->0<=fw->fw<4->H lv=some (.lst us)->lv≠p->us.length<=60->rs.length<=60->hN<=60->(∀ r∈rs,r.fit)->Ym (rs.map (·.1)) ->
   ((stem=false/\KeysAt H (Zv rs) us/\hN=0)\/(stem=true/\us.length≠1/\∃ ns h,us=iN ns/\NQ ts av ho ns h rs/\hN=h+1)) ->
   (∀(H':Hp)(ts':List ZS)(av':Nat->List Nat)(ho':Nat->Nat)(as':List YC)(kvs':List (Zd×V))(lv':aj)(ns':List Nat)(y7 y8 y9:jg),YW gt jh ji (· = p) H H' S d lk ls ts as ts' av' ho' as' kvs'->ZI H' p->H' lv'=some (.lst (iN ns'))->lv'≠p->NQ ts' av' ho' ns' hN rs->ts'.length=ts.length+ns'.length->(if stem=true then 2 else 1) * ns'.length<=us.length ->
    D0.nx [some (.ref p),some (.ref S),x2,some (.int fw),some (.bl back),some (.ref lv'),some (.bl true),y7,y8,y9] H') ->
   t D0 [some (.ref p),some (.ref S),x2,some (.int fw),some (.bl back),some (.ref lv),some (.bl stem),x7,x8,x9] H:=by
 have nd:=Xx.nd;obtain ⟨t,ht,hJ⟩:=ZQz (P:=P) (w:=w) (K:=K) (mg:=mg) (base:=base) (f:=f) (cdv:=cdv) (A:=A) (outer:=outer) (s:=s) (Hs:=Hs) (E:=E) L hr DS DL;have hr2:=hr.mono (show 2<=10 by decide)
 refine ⟨_,ZR (Zk 7 nd (Yr ZF))
  (ZR (Zk 8 nd (Zh DC hr2 (Vd (pv 0) (pv 5) (pv 3) (pv 6))))
  (ZR (Vf PassesOwn.never rfl (VE (Zn (r:=YI K) YO (Yr (ZG (pv 8) (ZG (JE (pv 8) (Py P8 ZM)) ZF))) (Wy OA rfl T.int QY (ZG (pv 4) ZF)) (fun _ _=>rfl))) (Xo 9 nd) ht)
  (ZR (Zk 5 nd (Zn (r:=YI K) YO (Yr (ZG (pv 7) (ZG (JE (pv 7) (Py P8 ZM)) ZF))) (Wy OA rfl T.int QY (ZG (pv 4) ZF)) (fun _ _=>rfl)))
  (ZU (Zk 6 nd XV))))),?_⟩
 intro D0 H p S d lk lv fw back stem x2 x7 x8 x9 ts as av ho kvs ls us rs hN W R app hw hs t6 f0 f4 hlv lvp l60 r60 h60 frs ris lev fin;refine ⟨Z0,fun nm nnm=>?_⟩;have g1:=ZY nnm (.lst []);have hnm:=ZP (H:=H) (a:=nm) (o:=.lst []);generalize upd H nm (.lst [])=Ha at g1 hnm ⊢;have Wa:=W.same g1;refine ⟨_,rfl,_,rfl,_,rfl,_,rfl,p,lv,us,fw,stem,rfl,Wa,g1 _ _ hlv,lvp,f0,f4,by lia,fun z=>?_,fun D pl jn Hb nD hD prt flat size l104 Wb sab=>?_⟩
 ·rcases lev with ⟨z',_⟩ | ⟨_,z',_⟩
  ·rw [z] at z';cases z'
  ·exact z'
 have Dnm:D≠nm:=fun z=>by rw [z,hnm] at nD;cases nD
 refine ⟨_,rfl,_,rfl,1,rfl,D,pl,rfl,rfl,ZL.of hD,fun q1 n1=>⟨Z0,fun q2 n2=>?_⟩⟩;have g2:=ZY n1 (.lst pl.reverse);have g3:=ZY n2 (.lst [.ref D,.ref q1]);have eq1:=g3 _ _ (ZP (H:=Hb) (a:=q1) (o:=.lst pl.reverse));have eq2:=ZP (H:=upd Hb q1 (.lst pl.reverse)) (a:=q2) (o:=.lst [.ref D,.ref q1]);have g23:=g2.trans g3;generalize upd (upd Hb q1 (.lst pl.reverse)) q2 (.lst [.ref D,.ref q1])=H1 at g23 eq1 eq2 ⊢;refine ⟨_,rfl,.inr ⟨back,rfl,.inl ⟨q2,_,_,_,rfl,rfl,ZL.of eq2,IO _ _ _,?_⟩⟩⟩;have hI:∃ I,(if back=true then V.ref q1 else V.ref D)=.ref I/\H1 I=some (.lst (YQ back pl))/\Ha I=none:=by
  cases back
  ·exact ⟨D,rfl,g23 _ _ hD,nD⟩
  ·exact ⟨q1,rfl,eq1,O6 sab Wb n1⟩
 obtain ⟨I,eI,hI1,nI⟩:=hI;rw [eI];have Ra:=R.same g1;obtain ⟨pw,hp⟩:=W.some;have hpa:=g1 _ _ hp;obtain ⟨pwb,hpb⟩:=Wb.some;have rA:YW gt jh ji (· = p) H Ha S d lk ls ts as ts av ho as kvs:=(YW.refl R hw hs).same g1;have rB:=rA.but app rfl hpa sab hpb;have rC:=rB.same g23;have nmp:nm≠p:=UJ W nnm;have hnm1:=g23 _ _ (sab _ _ hnm nmp);have apn:WR H1 lk ts as nm:=P6 R nnm hnm1;have tHH1:Z1 H H1:=rC.tups R fun c z=>by rw [z];exact app.at_
 obtain ⟨Ts,qs,lT,hT,rT,J0,stp⟩:=hJ Ha H1 S d lk nm ts as av ho kvs ls us pl jn rs hN stem back (NB Ha p D) Ra rC.sh apn (by rw [hnm];exact fun z=>nomatch z) hw hs (fun b nb=>by
   cases z:Ha b with
   | none=>rfl
   | some o=>exact absurd (.inr (.inr (by rw [z];exact fun z=>nomatch z))) nb) t6 l60 r60 h60 (Paired.mapP prt fun _ _ z=>Yl.go z fun b o e n=>g23 b o e) flat size frs ris hnm1 (lev.imp (fun ⟨a,b,c⟩=>⟨a,b.mono tHH1 _ _,c⟩) fun ⟨a,_,c⟩=>⟨a,c⟩)
 have stayI:∀{H:Hp}{ts':List ZS}{av:Nat->List Nat}{ho:Nat->Nat}{as':List YC}{kvs:List (Zd×V)},YW gt jh ji (· = nm) H1 H S d lk ls ts as ts' av ho as' kvs->H I=some (.lst (YQ back pl)):=fun r=>by
  obtain ⟨⟨dS,hS⟩,hd,_⟩:=Ra.sh;refine r.fr I _ (Za hnm nI).symm (Za hS nI).symm (Za hd nI).symm (fun b hb=>?_) hI1;obtain ⟨dx,hx⟩:=(Ra.tw b hb).tw.self;exact ⟨(Za hx nI).symm,(Za (Ra.tw b hb).tw.above nI).symm⟩
 have lord:(YQ back pl).length=Ts.length:=by rw [Pn,lT]
 refine ⟨I,rfl,⟨_,ZL.of hI1⟩,Pb (K:=K) (a:=I) (xs:=YQ back pl) (fun i σ H'=>∃ x9':jg,σ=[some (.ref p),some (.ref S),x2,some (.int fw),some (.bl back),some (.ref lv),some (.bl stem),some (.ref nm),some (.ref D),x9']/\N4 gt jh ji H1 S d lk ls ts as nm Ts qs i H')
  ⟨_,rfl,J0⟩ (fun i σ H' _ hP=>by obtain ⟨_,_,_,_,_,_,r,_⟩:=hP;exact ZL.of (stayI r)) ?_ ?_⟩
 ·rintro i u σ H2 hu ⟨x9',rfl,j⟩;exact stp i u hu _ H2 _ _ _ _ _ _ j fun H' j'=>⟨_,rfl,j'⟩
 ·rintro σ H2 ⟨x9',rfl,j⟩;rw [lord] at j;obtain ⟨av',ho',as',kvs',r,hn,hh,_⟩:=j;rw [yR (zY _)] at r;have few:(if stem=true then 2 else 1) * Ts.length<=us.length:=by
   have:=N3 (n:=if stem=true then 2 else 1) jn fun ps h=>(size ps h).1
   rw [flat] at this;have e:Ts.length=jn.length:=by rw [lT];exact prt.length.symm
   rw [e];exact this
  have lT60:Ts.length<=60:=by
   split at few <;> lia
  refine ⟨_,rfl,_,rfl,1,rfl,nm,_,rfl,rfl,ZL.of hn,fun q3 n3=>⟨Z0,fun q4 n4=>?_⟩⟩;have g4:=ZY n3 (.lst (iN (yB ts.length Ts.length)).reverse);have g5:=ZY n4 (.lst [.ref nm,.ref q3]);have eq3:=g5 _ _ (ZP (H:=H2) (a:=q3) (o:=.lst (iN (yB ts.length Ts.length)).reverse));have eq4:=ZP (H:=upd H2 q3 (.lst (iN (yB ts.length Ts.length)).reverse)) (a:=q4) (o:=.lst [.ref nm,.ref q3]);have g45:=g4.trans g5;generalize upd (upd H2 q3 (.lst (iN (yB ts.length Ts.length)).reverse)) q4 (.lst [.ref nm,.ref q3])=H3 at g45 eq3 eq4 ⊢;refine ⟨_,rfl,.inr ⟨back,rfl,.inl ⟨q4,_,_,_,rfl,rfl,ZL.of eq4,IO _ _ _,?_⟩⟩⟩;obtain ⟨⟨dS,hS⟩,hd,_⟩:=R.sh;obtain ⟨pw1,hp1⟩:=(Wb.same g23).some;have W2:ZI H2 p:=Od (Wb.same g23) fun o e=>r.fr p o (Ne.symm nmp) (ZQ hp hS) (ZQ hp hd) (fun b hb=>by
   obtain ⟨dx,hx⟩:=(R.tw b hb).tw.self;exact ⟨ZQ hp hx,(app.own b hb).1.symm⟩) e
  have hL:∃ l',(if back=true then V.ref q3 else V.ref nm)=.ref l'/\H3 l'=some (.lst (iN (YQ back (yB ts.length Ts.length))))/\l'≠p:=by
   cases back
   ·exact ⟨nm,rfl,g45 _ _ hn,nmp⟩
   ·refine ⟨q3,rfl,?_,UJ W2 n3⟩;rw [eq3];unfold iN YQ;rw [aP rfl,List.map_reverse]
  obtain ⟨l',el,hl',l'p⟩:=hL;rw [el];have rF:YW gt jh ji (· = p) H H3 S d lk ls ts as (ts++Ts) av' ho' as' kvs':=(rC.trans r fun c z=>.inl (by rw [z];exact nnm)).same g45
  have ln:(YQ back (yB ts.length Ts.length)).length=Ts.length:=by rw [Pn,List.length_range']
  refine fin H3 (ts++Ts) av' ho' as' kvs' l' (YQ back (yB ts.length Ts.length)) _ _ _ rF (W2.same g45) hl' l'p ⟨Fb (List.nodup_range'),fun b hb=>?_,?_⟩ (by rw [ln,zU]) (by rw [ln];exact few)
  ·have hb:=YA.mp hb;have h1:=List.mem_range'_1.mp hb;refine ⟨by rw [zU];lia,hT _ (E3 hb),hh b h1.1 h1.2⟩
  ·rw [CN];exact rT
end
inductive Wk(gt:List KT)(jh ji:aj)(vs:jf)(H:Hp)(Q:VK)(_:XK):Prop
 | mk (p S d lk l:aj) (ts:List ZS) (av:Nat->List Nat) (ho:Nat->Nat) (as:List YC) (kvs:List (Zd×V)) (ls us:jf) (rs:List Zz) (_:vs=[.ref p,.ref S,.ref l]) (_:ZI H p) (_:Yf jh ji H S d lk ts av ho as kvs ls) (_:WR H lk ts as p) (_:WF gt ts) (_:∀ i,i<ts.length->QU (gd ts i)) (_:ts.length<=400) (_:H l=some (.lst us)) (_:l≠p) (_:KeysAt H (Zv rs) us) (_:∀ r∈rs,r.fit) (_:Ym (rs.map (·.1))) (_:rs.length<=60) (_:∀(H':Hp)(ts':List ZS)(av':Nat->List Nat)(ho':Nat->Nat)(as':List YC)(kvs':List (Zd×V))(rn:Option Nat),YW gt jh ji (· = p) H H' S d lk ls ts as ts' av' ho' as' kvs'->ZI H' p->ts'.length<=ts.length+120->(∀ i,rn=some i->i<ts'.length)->Q (YE (Zy rn)) H')
def MQ(gt:List KT)(jh ji:aj)(H:Hp)(p S d lk:aj)(ls:jf)(ts:List ZS)(as:List YC)(rs:List Zz)(stem:Bool)(m:Nat)(lv:aj)(us:jf)(H':Hp):Prop:=
 ∃(ts':List ZS)(av':Nat->List Nat)(ho':Nat->Nat)(as':List YC)(kvs':List (Zd×V)),YW gt jh ji (· = p) H H' S d lk ls ts as ts' av' ho' as' kvs'/\ZI H' p/\H' lv=some (.lst us)/\lv≠p/\us.length<=60 /\
  ((stem=false/\m=us.length+1/\KeysAt H' (Zv rs) us/\ts'.length=ts.length)\/(stem=true/\m=us.length/\∃ ns h,us=iN ns/\NQ ts' av' ho' ns h rs/\h+ns.length<=61/\ts'.length+ns.length<=ts.length+120))
theorem CY{gt:List KT}(F0:Zj K "_law_plant" "_law_plant" QB f fd)(T:YF mg)(L:XA K mg jh ji)(DP:ZB P w K mg base 1 "_law_pull" ["_law_well_here","_law_many"] Zr)(DC:ZB P w K mg base 2 "_law_cut" ["_law_well_here","_law_things","_law_few","_law_stem"] V3)(DS:ZK P w K mg base ZW 10 jh "put_stem" ["self","numbers"] (Z9 gt jh ji))(DL:ZK P w K mg base ZW 10 jh "put_leaf" ["self","rows"] (Ya jh ji)):
  ZJ P w K mg base ZW 11 f fd ["_law_well_here","_law_shelf","_law_rows"] (Wk gt jh ji):=by
 refine F0.ko Xx fun cdv A outer s H vs Q E hr h=>?_;obtain ⟨p,S,d,lk,l,ts,av,ho,as,kvs,ls,us,rs,rfl,W,R,app,hw,hs,t4,hl,lp,hk,frs,ris,r60,k⟩:=h;have nd:=Xx.nd;have hr1:=hr.mono (show 1<=10 by decide)
 obtain ⟨t,ht,hW⟩:=ZQp (P:=P) (w:=w) (K:=K) (mg:=mg) (base:=base) (f:=f) (cdv:=cdv) (A:=A) (outer:=outer) (s:=s) (Hs:=H) (E:=E) T L hr DC DS DL;refine ⟨_,ZR (Zk 3 nd (Zh DP hr1 (ZG (pv 0) (ZG ZM ZF))))
  (ZR (Zk 4 nd (VQ VM (Zh DP hr1 (ZG (pv 0) (ZG ZM ZF))) ZM (YK _)))
  (ZR (Zk 5 nd (Wy Q5 rfl T.list Qf (ZG (pv 2) ZF)))
  (ZR (Zk 6 nd XV)
  (ZR (Qr PassesOwn.never (PW.pt (PY (Y8 Q2 (Z4 Xu rfl T.len Xl (ZG (pv 5) ZF)) ZM (YK _)) (Pf (PW.pt (ON (Y8 (MN hr.units0) (pv 5) (Yr ZF) (YK _)) (Ol (VG (Y9 (pv 6))))))))) ht)
  (ZU (Zg (Zn (r:=YI K) YO (Zw Nv (pv 5) (Yr (ZG O0 ZF))) ZM (fun _ _=>rfl)))))))),?_⟩
 obtain ⟨⟨dS,hS⟩,hd,_⟩:=R.sh;obtain ⟨pw,hp⟩:=W.some;refine ⟨_,rfl,p,4,rfl,W,Xi (by decide) (by decide),fun fw H1 f0 f4 W1 s1=>?_⟩
 refine ⟨_,rfl,p,2,rfl,W1,Xi (by decide) (by decide),fun bk H2 b0 b1 W2 s2=>?_⟩
 have s02:=s1.trans s2;obtain ⟨pw2,hp2⟩:=W2.some;have r0:YW gt jh ji (· = p) H H2 S d lk ls ts as ts av ho as kvs:=(YW.refl R hw hs).but app rfl hp s02 hp2;have t02:=s02.tupsW W;refine ⟨rfl,?_⟩;refine ⟨_,rfl,l,us,rfl,.inl (ZL.of (s02 _ _ hl lp)),fun lv nlv=>?_⟩;have g3:=ZY nlv (.lst us);have elv:=ZP (H:=H2) (a:=lv) (o:=.lst us);generalize upd H2 lv (.lst us)=H3 at g3 elv ⊢;generalize decide (V.int bk=V.int 1)=back;have lus:us.length=rs.length:=by
  have:=hk.length;unfold Zv at this;rw [zX] at this;exact this.symm
 have I0:MQ gt jh ji H p S d lk ls ts as rs false (us.length+1) lv us H3:=⟨ts,av,ho,as,kvs,r0.same g3,W2.same g3,elv,UJ W2 nlv,by lia,.inl ⟨rfl,rfl,(hk.mono t02 _ _).mono (ZA.tups g3) _ _,rfl⟩⟩
 refine ⟨fun m σ H'=>∃(stem:Bool)(lv:aj)(us:jf)(x7 x8 x9:jg),σ=[some (.ref p),some (.ref S),some (.ref l),some (.int fw),some (.bl back),some (.ref lv),some (.bl stem),x7,x8,x9]/\MQ gt jh ji H p S d lk ls ts as rs stem m lv us H',⟨_,false,lv,us,none,none,none,rfl,I0⟩,?_⟩;rintro m σ H4 ⟨stem,lv,us,x7,x8,x9,rfl,ts',av',ho',as',kvs',r,W4,hlv,lvp,l60,cs⟩;have same5:∀{H5:Hp},ZA H4 H5->YW gt jh ji (· = p) H H5 S d lk ls ts as ts' av' ho' as' kvs'/\ZI H5 p/\H5 lv=some (.lst us):=fun g=>⟨r.same g,W4.same g,g _ _ hlv⟩;have go:∀{D0:Yu}{H5:Hp},ZA H4 H5->(stem=true->2<=us.length)->(∀ σ' H',(∃ m',m'<m/\∃(stem:Bool)(lv:aj)(us:jf)(x7 x8 x9:jg),σ'=[some (.ref p),some (.ref S),some (.ref l),some (.int fw),some (.bl back),some (.ref lv),some (.bl stem),x7,x8,x9]/\MQ gt jh ji H p S d lk ls ts as rs stem m' lv us H')->D0.nx σ' H') ->
   t D0 [some (.ref p),some (.ref S),some (.ref l),some (.int fw),some (.bl back),some (.ref lv),some (.bl stem),x7,x8,x9] H5:=fun{D0 H5} g h2 fin=>by
  obtain ⟨r5,W5,hlv5⟩:=same5 g;obtain ⟨pw5,hp5⟩:=W5.some;have ap5:WR H5 lk ts' as' p:=⟨⟨pw5,hp5⟩,app.lk,r5.own app⟩;have t5:Z1 H4 H5:=ZA.tups g;rcases cs with ⟨rfl,rfl,hk4,lt⟩ | ⟨rfl,rfl,ns,h,rfl,lv',h61,l120⟩
  ·refine hW D0 H5 p S d lk lv fw back false _ x7 x8 x9 ts' as' av' ho' kvs' ls us rs 0 W5 r5.sh ap5 r5.wf r5.hs (by lia) f0 f4 hlv5 lvp l60 r60 (zG _) frs ris (.inl ⟨rfl,hk4.mono t5 _ _,rfl⟩) fun H' ts2 av2 ho2 as2 kvs2 lv2 ns2 y7 y8 y9 r6 W6 hlv6 lvp6 lvi e6 few=>?_
   have few:1 * ns2.length<=us.length:=few;have ln:(iN ns2).length=ns2.length:=zX _;exact fin _ _ ⟨(iN ns2).length,by lia,true,lv2,iN ns2,y7,y8,y9,rfl,ts2,av2,ho2,as2,kvs2,r5.trans r6 (fun c z=>.inr z),W6,hlv6,lvp6,by lia,.inr ⟨rfl,rfl,ns2,0,rfl,lvi,by lia,by lia⟩⟩
  ·have ln:(iN ns).length=ns.length:=zX _;have h2:=h2 rfl;refine hW D0 H5 p S d lk lv fw back true _ x7 x8 x9 ts' as' av' ho' kvs' ls (iN ns) rs (h+1) W5 r5.sh ap5 r5.wf r5.hs (by lia) f0 f4 hlv5 lvp l60 r60 (by lia) frs ris (.inr ⟨rfl,by lia,ns,h,rfl,lv',rfl⟩) fun H' ts2 av2 ho2 as2 kvs2 lv2 ns2 y7 y8 y9 r6 W6 hlv6 lvp6 lvi e6 few=>?_
   have few:2 * ns2.length<=(iN ns).length:=few;have ln2:(iN ns2).length=ns2.length:=zX _;exact fin _ _ ⟨(iN ns2).length,by lia,true,lv2,iN ns2,y7,y8,y9,rfl,ts2,av2,ho2,as2,kvs2,r5.trans r6 (fun c z=>.inr z),W6,hlv6,lvp6,by lia,.inr ⟨rfl,rfl,ns2,h+1,rfl,lvi,by lia,by lia⟩⟩
 have done:∀{H5:Hp}{D0:Yu},D0.rt=Q->ZA H4 H5->us.length<=1->(stem=false->us=[])->Lm (Pr (YI K) (Pr Hy (OX 5) (Kx (Y0 (tC V.non) V4))) (tC (V.int 0))) D0 [some (.ref p),some (.ref S),some (.ref l),some (.int fw),some (.bl back),some (.ref lv),some (.bl stem),x7,x8,x9] H5:=fun{H5 D0} eD g h1 h0=>by
  obtain ⟨r5,W5,hlv5⟩:=same5 g;refine ⟨_,rfl,Z0,fun q nq=>?_⟩;have g6:=ZY nq (.lst [.non]);refine ⟨lv,q,us,[.non],rfl,rfl,g6 _ _ hlv5,ZP,xY (XM (n:=us.length+1) (by lia)),fun q' nq'=>?_⟩
  have g7:=ZY nq' (.lst (us++[.non]));obtain ⟨rn,ern,jm⟩:∃ rn:Option Nat,(us++[V.non])[0]? = some (YE (Zy rn))/\∀ i,rn=some i->i<ts'.length:=by
   rcases cs with ⟨z,_⟩ | ⟨_,_,ns,h,rfl,lv',_⟩
   ·rw [h0 z];exact ⟨none,rfl,fun i e=>by cases e⟩
   ·cases ns with
    | nil=>exact ⟨none,rfl,fun i e=>by cases e⟩
    | cons n ns=>exact ⟨some n,rfl,fun i e=>by cases e;exact (lv'.at_ n zK).1⟩
  refine .inl ⟨q',us++[.non],0,_,rfl,rfl,ZL.of ZP,Xb (j:=0) ern,?_⟩;rw [eD];have l120:ts'.length<=ts.length+120:=by
   rcases cs with ⟨_,_,_,z⟩ | ⟨_,_,ns,h,rfl,lv',_,z⟩ <;> lia
  exact k _ ts' av' ho' as' kvs' rn (r5.same (g6.trans g7)) (W5.same (g6.trans g7)) l120 jm
 refine ⟨_,rfl,lv,us,rfl,.inl (ZL.of hlv),_,_,rfl,rfl,_,rfl,?_⟩;rcases zC 1 us.length with c1 | c1
 ·rw [aM (show (1:Int)<((us.length:Nat):Int) by lia)]
  exact Z2 (Z2 ⟨_,fun _ _ z=>z,go (ZA.refl _) (fun _=>c1) fun _ _ z=>z⟩)
 ·rw [aK (show ¬ (1:Int)<((us.length:Nat):Int) by lia)]
  refine Zm ⟨_,rfl,Z0,fun q nq=>?_⟩;have g5:=ZY nq (.lst []);have eq:=ZP (H:=H4) (a:=q) (o:=.lst []);generalize upd H4 q (.lst [])=H5 at g5 eq ⊢;refine ⟨lv,q,us,rfl,rfl,ZL.of (g5 _ _ hlv),ZL.of eq,_,rfl,?_⟩
  cases us with
  | nil=>exact Zm (Zm (done rfl g5 c1 fun _=>rfl))
  | cons u us=>
   refine Z2 ⟨_,rfl,_,rfl,?_⟩
   cases stem with
   | false=>exact Z2 ⟨_,fun _ _ z=>z,go g5 (fun z=>by cases z) fun _ _ z=>z⟩
   | true=>exact Zm (done rfl g5 c1 fun z=>by cases z)
inductive Wv(vs:jf)(H:Hp)(Q:VK)(_:XK):Prop
 | mk (L T1 T2 r1 r2:aj) (xs1 xs2 jM jH:jf) (rs1 rs2:List Zz) (_:vs=[.ref L]) (_:H L=some (.lst [.ref T1,.ref T2])) (_:H T1=some (.tup (.ref r1 :: xs1))) (_:H T2=some (.tup (.ref r2 :: xs2))) (_:H r1=some (.lst jM)) (_:H r2=some (.lst jH)) (_:KeysAt H (Zv rs1) jM) (_:KeysAt H (Zv rs2) jH) (_:jM.length<=100) (_:jH.length<=100) (_:∀(D:aj)(ks:jf)(H':Hp),ZA H H'->H D=none->H' D=some (.lst ks)->KeysAt H' ((rs1++rs2).map (·.1)) ks->Q (.ref D) H')
theorem C2:ZC ["_law_trees_here"] ["_law_trees_here"] (Ze LC):=Zp
theorem CU(F0:Zj K "_law_known" "_law_known" LC f fd):ZJ P w K mg base ZW 1 f fd ["_law_trees_here"] Wv:=by
 refine F0.ko C2 fun cdv A outer s H vs Q E hr h=>?_;obtain ⟨L,T1,T2,r1,r2,xs1,xs2,jM,jH,rs1,rs2,rfl,hL,hT1,hT2,h1,h2,k1,k2,l1,l2,q⟩:=h;refine ⟨_,ZU (Zg (VZ [] [] rfl (VE (Zw Nv (Zn (r:=Xk K) Zi (Zn (r:=YI K) YO (pv 0) ZM (fun _ _=>rfl)) ZM (fun _ _=>rfl)) (Zn (r:=Xk K) Zi (Zn (r:=YI K) YO (pv 0) ZM (fun _ _=>rfl)) ZM (fun _ _=>rfl)))) (fun _ _ _ _ _=>Vc) (fun _ _ _ _ _=>Zn (r:=Xk K) Zi (pv 0) ZM (fun _ _=>rfl)) trivial)),?_⟩;refine ⟨_,rfl,.inl ⟨L,_,_,.ref T1,rfl,rfl,ZL.of hL,rfl,T1,_,_,.ref r1,rfl,rfl,Zo.of hT1,Xb (j:=0) rfl,?_⟩⟩;refine ⟨_,rfl,.inl ⟨L,_,_,.ref T2,rfl,rfl,ZL.of hL,rfl,T2,_,_,.ref r2,rfl,rfl,Zo.of hT2,Xb (j:=0) rfl,?_⟩⟩;refine ⟨r1,r2,jM,jH,rfl,rfl,h1,h2,nn (by lia),fun c nc=>?_⟩
 have g:=ZY nc (.lst (jM++jH));have ec:=ZP (H:=H) (a:=c) (o:=.lst (jM++jH));generalize upd H c (.lst (jM++jH))=H1 at g ec ⊢;have kr:KeysAt H1 (Zv (rs1++rs2)) (jM++jH):=by
  rw [O5];exact (k1.mono (ZA.tups g) _ _).append (k2.mono (ZA.tups g) _ _)
 have lu:(jM++jH).length<=200:=by rw [zU];lia
 have lr:(jM++jH).length=(rs1++rs2).length:=by have:=kr.length;rw [<-this];exact zX _
 generalize jM++jH=us at ec kr lu lr;generalize rs1++rs2=rs at kr lr q;refine ⟨c,rfl,⟨us,ZL.of ec⟩,VY (n:=us.length) (fun i z=>us[i]? = some z) (fun D i ys H3=>ZA H1 H3/\H1 D=none/\KeysAt H1 ((rs.map (·.1)).take i) ys) (XM (by lia))
  (fun D i ys H3 hi hP=>⟨us,us[i],ZL.of (hP.1 _ _ ec),by simp [hi]⟩) (fun D i ys H3 z H4 hi hP hy=>⟨hy.1,hy.2 us (ZL.of (hP.1 _ _ ec))⟩) (fun D ys H3 hP=>⟨us,ZL.of (hP.1 _ _ ec),zY _⟩)
  (fun D hD=>⟨ZY hD _,hD,.nil⟩) (fun D i ys H3 z eD hl' hi hz hP RR jQ=>?_) (fun D ys H3 eD hP=>?_)⟩
 ·obtain ⟨s3,nD,kys⟩:=hP;obtain ⟨a,vk,vv,er,rfl,ea,e1,e2⟩:=row_at kr hz;refine ⟨_,rfl,a,_,_,vk,rfl,rfl,Zo.of (s3 _ _ ea),rfl,jQ _ H3 eD ⟨UO s3 nD,nD,?_⟩⟩;rw [yL,zL,er];exact kys.append (.cons e1 .nil)
 ·obtain ⟨s3,nD,kys⟩:=hP;rw [yR (by rw [zX];lia)] at kys
  exact q D ys H3 (g.trans s3) (g.free nD) eD (kys.mono (ZA.tups s3) _ _)
structure WT where
 T:aj
 r:aj
 d:aj
 rn:Option Nat
 us:jf
 rs:List Zz
 kv:List (Zd×V)
 F:List Nat
structure XE(gt:List KT)(ts:List ZS)(H:Hp)(t:WT):Prop where
 tp:H t.T=some (.tup [.ref t.r,YE (Zy t.rn),.ref t.d])
 rl:H t.r=some (.lst t.us)
 ks:KeysAt H (Zv t.rs) t.us
 fit:∀ x∈t.rs,x.fit
 len:t.rs.length<=60
 rcd:X6 gt ts H t.d t.kv t.F
 rt:∀ i,t.rn=some i->i∈t.F
theorem XE.go{gt:List KT}{ts:List ZS}{H H':Hp}{t:WT}(h:XE gt ts H t)(m:Z1 H H')(hr:∀ o,H t.r=some o->H' t.r=some o)(hd:∀ o,H t.d=some o->H' t.d=some o):XE gt ts H' t:=
 ⟨m _ _ h.tp,hr _ h.rl,h.ks.mono m _ _,h.fit,h.len,⟨hd _ h.rcd.hd,h.rcd.rcd.mono m,h.rcd.clo,h.rcd.wf⟩,h.rt⟩
theorem XE.grow{gt:List KT}{ts ts':List ZS}{H:Hp}{t:WT}(h:XE gt ts H t)(le:ts.length<=ts'.length)(old:∀ i,i<ts.length->gd ts' i=gd ts i)(wf:WF gt ts'):XE gt ts' H t:=
 ⟨h.tp,h.rl,h.ks,h.fit,h.len,⟨h.rcd.hd,⟨h.rcd.rcd.nd,fun j hj=>yN (h.rcd.rcd.lt j hj) le,h.rcd.rcd.no,fun j hj=>by rw [old j (h.rcd.rcd.lt j hj)];exact h.rcd.rcd.yes j hj,h.rcd.rcd.len,h.rcd.rcd.ks⟩,fun j hj b hb=>by rw [old j (h.rcd.rcd.lt j hj)] at hb;exact h.rcd.clo j hj b hb,wf⟩,h.rt⟩
theorem Yf.back{jh ji:aj}{H H':Hp}{S d lk:aj}{ts:List ZS}{av:Nat->List Nat}{ho:Nat->Nat}{as:List YC}{kvs:List (Zd×V)}{ls ls':jf}(R:Yf jh ji H S d lk ts av ho as kvs ls)(Q:Zx jh ji H' ⟨S,d,ts,av,ho,as,kvs⟩ lk ts.length ls'):Yf jh ji H' S d lk ts av ho as kvs ls':=
 ⟨Q.sh,R.keys,R.val,R.len,Q.tw,R.own,R.two⟩
theorem WR.same{H H':Hp}{lk c:aj}{ts:List ZS}{as:List YC}(ap:WR H lk ts as c)(s:ZA H H'):WR H' lk ts as c:=by
 obtain ⟨o,e⟩:=ap.at_;exact ⟨⟨o,s _ _ e⟩,ap.lk,ap.own⟩
theorem YW.keep{gt:List KT}{jh ji:aj}{N:aj->Prop}{H0 H:Hp}{S d lk:aj}{ls:jf}{jx ts:List ZS}{av av0:Nat->List Nat}{ho ho0:Nat->Nat}{jA as:List YC}{kvs kvs0:List (Zd×V)}(r:YW gt jh ji N H0 H S d lk ls jx jA ts av ho as kvs)(R:Yf jh ji H0 S d lk jx av0 ho0 jA kvs0 ls){c:aj}{o:jf}(ap:WR H0 lk jx jA c)(nN:¬ N c)(e:H0 c=some (.lst o)):H c=some (.lst o)/\WR H lk ts as c:=by
 obtain ⟨⟨dS,hS⟩,hd,_⟩:=R.sh;have e':=r.fr c _ nN (ZQ e hS) (ZQ e hd) (fun b hb=>by
  obtain ⟨dx,hx⟩:=(R.tw b hb).tw.self;exact ⟨ZQ e hx,(ap.own b hb).1.symm⟩) e
 exact ⟨e',⟨_,e'⟩,ap.lk,r.own ap⟩
structure PM(gt:List KT)(jh ji:aj)(H0 H:Hp)(S d lk L:aj)(ts:List ZS)(av:Nat->List Nat)(ho:Nat->Nat)(as:List YC)(kvs:List (Zd×V))(ls:jf)(TL:List WT):Prop where
 pla:YW gt jh ji (fun _=>False) H0 H S d lk ls [] [] ts av ho as kvs
 hL:H L=some (.lst (TL.map fun t=>V.ref t.T))
 aL:WR H lk ts as L
 nL:H0 L=none
 trs:∀ t∈TL,XE gt ts H t/\WR H lk ts as t.r/\t.r≠L/\t.d≠d
inductive VC(gt:List KT)(K:zZ)(jh ji:aj)(vs:jf)(H:Hp)(Q:VK)(_:XK):Prop
 | mk (H0:Hp) (a S d lk:aj) (ns:List Int) (av:Nat->List Nat) (ho:Nat->Nat) (_:vs=[.ref a,.ref S]) (_:ZL K H0 a (ns.map V.int)) (_:ns.length<=63) (_:ZA H0 H) (_:H0 S=none) (_:H0 d=none) (_:H0 lk=none) (_:Yf jh ji H S d lk [] av ho [] [] []) (_:∀(H':Hp)(L:aj)(ts:List ZS)(av:Nat->List Nat)(ho:Nat->Nat)(as:List YC)(kvs:List (Zd×V))(ls:jf)(t1 t2:WT),PM gt jh ji H0 H' S d lk L ts av ho as kvs ls [t1,t2]->ts.length<=240->ls.length<=480->Q (.ref L) H')
abbrev F7:List Str:=["_law_script","_law_shelf","_law_trees_here","_law_k","_law_well_here","_law_rows","_law_root_here"]
theorem UC:ZC F7 ["_law_script","_law_shelf"] (Ze M2):=Zp
inductive TrL(a S L:aj)(gt:List KT)(jh ji:aj)(H0:Hp)(d lk:aj)(i:Nat)(σ:L2.St)(H':Hp):Prop
 | mk (ts:List ZS) (av:Nat->List Nat) (ho:Nat->Nat) (as:List YC) (kvs:List (Zd×V)) (ls:jf) (TL:List WT) (x3 x4 x5 x6:jg) (_:σ=[some (.ref a),some (.ref S),some (.ref L),x3,x4,x5,x6]) (_:PM gt jh ji H0 H' S d lk L ts av ho as kvs ls TL) (_:TL.length=i) (_:ts.length<=120 * i) (_:ls.length<=240 * i)
theorem ZK2{gt:List KT}(F0:Zj K "_law_trees" "_law_trees" M2 f fd)(T:YF mg)(DW:ZB P w K mg base 1 "_law_well" ["_law_script","_law_k"] (WG K))(DG:ZB P w K mg base 10 "_law_ground" ["_law_well_here","_law_most"] (X7 w))(DS:ZB P w K mg base 9 "_law_sorted" ["_law_model"] (X4 w))(DP:ZB P w K mg base 11 "_law_plant" ["_law_well_here","_law_shelf","_law_rows"] (Wk gt jh ji))(DR:ZB P w K mg base 3 "_law_reached" ["_law_shelf","_law_root_here","_law_found"] (Xe gt jh ji)):
  ZJ P w K mg base ZW 12 f fd ["_law_script","_law_shelf"] (VC gt K jh ji):=by
 refine F0.ko UC fun cdv A outer s H vs Q E hr h=>?_;obtain ⟨H0,a,S,d,lk,ns,av,ho,rfl,hSq,hn,s0,nS,ndd,nlk,R,k⟩:=h;have nd:=UC.nd;have hr1:=hr.mono (show 1<=11 by decide)
 have hr3:=hr.mono (show 3<=11 by decide)
 have hr9:=hr.mono (show 9<=11 by decide)
 have hr10:=hr.mono (show 10<=11 by decide)
 refine ⟨_,ZR (Zk 2 nd (Yr ZF))
  (ZR (Vf PassesOwn.never rfl (Qw rfl T.range (ZG ZM ZF)) (Xo 3 nd)
   (ZR (Zk 4 nd (Zh DW hr1 (ZG (pv 0) (ZG (pv 3) ZF))))
   (ZR (Zk 5 nd (Zh DS hr9 (ZG (Zh DG hr10 (ZG (pv 4) (ZG (Zn (r:=YI K) YO (Yr (ZG ZM (ZG ZM ZF))) (pv 3) (fun _ _=>rfl)) ZF))) ZF)))
   (ZR (Zk 6 nd (Zh DP hr (WA (pv 4) (pv 1) (pv 5))))
   (ZU (X8 (U0 yC wZ wY QD (pv 2) (ZG (Yq (WA (pv 5) (pv 6) (Zh DR hr3 (WA (pv 1) (pv 6) Lv)))) ZF))))))))
  (ZU (Zg (pv 2)))),?_⟩
 refine ⟨Z0,fun L nL=>?_⟩;have gL:=ZY nL (.lst []);have eL:=ZP (H:=H) (a:=L) (o:=.lst []);generalize upd H L (.lst [])=H1 at gL eL ⊢;have RL:=R.same gL;have wf0:WF gt []:=fun i t e=>by simp at e
 have I0:PM gt jh ji H0 H1 S d lk L [] av ho [] [] [] []:=⟨⟨RL,wf0,fun i hi=>absurd hi (xI _),fun c o _ _ _ _ e=>gL _ _ (s0 _ _ e),fun c e=>s0.free (gL.free e),zY _,fun i hi=>absurd hi (xI _),fun i _ hi=>absurd hi (xI _)⟩,eL,P6 R nL eL,s0.free nL,fun t ht=>by simp at ht⟩
 refine ⟨2,rfl,by decide,by decide,Qu (n:=2) (TrL a S L gt jh ji H0 d lk)
  ⟨_,_,_,_,_,_,[],_,_,_,_,rfl,I0,rfl,zG _,zG _⟩ ?_ ?_⟩
 ·rintro i σ H2 hi ⟨ts,av,ho,as,kvs,ls,TL,x3,x4,x5,x6,rfl,r,lTL,l120,l200⟩;have s02:ZA H0 H2:=fun b o e=>r.pla.fr b o (fun z=>z) (Za e nS) (Za e ndd) (fun j hj=>absurd hj (xI _)) e;refine ⟨_,rfl,_,rfl,a,ns,_,rfl,s02.seq hSq,hn,by lia,by lia,fun p H3 np s3 W3=>?_⟩
  obtain ⟨mv,emv,hmv⟩:=Kr (x:=V.int 61) (y:=V.int 21) (i:=(0:Int)+(i:Int)) (by lia) (by lia)
  refine ⟨_,rfl,Z0,fun q nq=>?_⟩;have gq:=ZY nq (.lst [.int 61,.int 21]);have eq:=ZP (H:=H3) (a:=q) (o:=.lst [.int 61,.int 21]);generalize upd H3 q (.lst [.int 61,.int 21])=H4 at gq eq ⊢;obtain ⟨m,rfl,m0,m61⟩:∃ m:Int,mv=.int m/\0<m/\m<=61:=by
   rcases hmv with rfl | rfl
   ·exact ⟨61,rfl,by decide,by decide⟩
   ·exact ⟨21,rfl,by decide,by decide⟩
  have W4:=W3.same gq;refine ⟨_,rfl,.inl ⟨q,_,_,_,rfl,rfl,ZL.of eq,emv,p,m,rfl,W4,m0,m61,fun D rs xs H5 nD dr frs ris r60 W5 s5=>?_⟩⟩;refine ⟨D,rs,xs,rfl,dr,frs,ris,r60,fun l us H6 s6 nl hl kl=>?_⟩;have s24:ZA H2 H4:=s3.trans gq;have R2:=r.pla.sh;have R4:=R2.same s24;obtain ⟨pw4,hp4⟩:=W4.some;have ap4:WR H4 lk ts as p:=P6 R2 np hp4;have R5:=R4.but s5 hp4 ap4.lk ap4.own;have R6:=R5.same s6;have W6:=W5.same s6;obtain ⟨pw6,hp6⟩:=W6.some;have ap6:WR H6 lk ts as p:=P6 R2 np hp6;have lp:l≠p:=UJ W5 nl;have g26:ZA H2 H6:=fun b o e=>s6 b o (s5 b o (s24 b o e) (Za e np));refine ⟨_,rfl,_,rfl,_,rfl,p,S,d,lk,l,ts,av,ho,as,kvs,ls,us,rs,rfl,W6,R6,ap6,r.pla.wf,r.pla.hs,by lia,hl,lp,kl,frs,ris,r60,fun H7 ts7 av7 ho7 as7 kvs7 rn r7 W7 l7 jm=>?_⟩
  have apl:WR H6 lk ts as l:=P6 R5 nl hl;have Lp:L≠p:=Za r.hL np;obtain ⟨hL7,aL7⟩:=r7.keep R6 (r.aL.same g26) Lp (g26 _ _ r.hL);obtain ⟨hl7,al7⟩:=r7.keep R6 apl lp hl;have t67:Z1 H6 H7:=r7.tups R6 fun c z=>by rw [z];exact ⟨_,hp6⟩
  refine ⟨_,rfl,.inl ⟨rfl,_,ZL.of hL7⟩,_,rfl,_,rfl,_,rfl,_,rfl,fun dd ndd'=>?_⟩;have gd8:=ZY ndd' (.dK []);have ed8:=ZP (H:=H7) (a:=dd) (o:=.dK []);generalize upd H7 dd (.dK [])=H8 at gd8 ed8 ⊢;have R8:=r7.sh.same gd8;have ddd:dd≠d:=(Za r7.sh.sh.kept ndd').symm;refine ⟨⟨S,d,ts7,av7,ho7,as7,kvs7⟩,lk,ts7.length,ls,rn,dd,rfl,R8.q,r7.wf,by show ts7.length<=240;lia,by lia,jm,ed8,ddd,fun H9 kv F ls9 fr9 Q9 ll9 hdd9 rec9 clo9 rt9=>⟨Z0,fun Tt nT=>?_⟩⟩
  have gT:=ZY nT (.tup [.ref l,YE (Zy rn),.ref dd]);have eT:=ZP (H:=H9) (a:=Tt) (o:=.tup [.ref l,YE (Zy rn),.ref dd]);generalize upd H9 Tt (.tup [.ref l,YE (Zy rn),.ref dd])=H10 at gT eT ⊢;have lk8:=R8.sh.looks;have f810:∀ b o,b≠lk->b≠dd->H8 b=some o->H10 b=some o:=fun b o n1 n2 e=>gT b o (fr9 b o n1 n2 e);have t810:Z1 H8 H10:=fun b o e=>f810 b _ (ZQ e lk8) (ZQ e ed8) e;have f710:∀ b o,b≠lk->H7 b=some o->H10 b=some o:=fun b o n1 e=>f810 b o n1 (Za e ndd') (gd8 b o e);have t710:Z1 H7 H10:=fun b o e=>t810 b o (gd8 b _ e);have R10:Yf jh ji H10 S d lk ts7 av7 ho7 as7 kvs7 ls9:=(R8.back Q9).same gT;have hL10:=f710 _ _ aL7.lk hL7;have hl10:=f710 _ _ al7.lk hl7;refine ⟨L,_,_,rfl,rfl,hL10,XM (by rw [zX];lia),?_⟩
  have sx:ZE L H10 (upd H10 L (.lst ((TL.map fun t=>V.ref t.T)++[.ref Tt]))):=(ZE.refl L H10).upd;have t11:Z1 H10 (upd H10 L (.lst ((TL.map fun t=>V.ref t.T)++[.ref Tt]))):=sx.tups hL10;have eL11:=ZP (H:=H10) (a:=L) (o:=.lst ((TL.map fun t=>V.ref t.T)++[.ref Tt]));generalize upd H10 L (.lst ((TL.map fun t=>V.ref t.T)++[.ref Tt]))=H11 at sx t11 eL11 ⊢;have R11:=R10.but sx hL10 aL7.lk aL7.own;have lL:l≠L:=fun z=>by rw [z,s5 _ _ (s24 _ _ r.hL) Lp] at nl;cases nl
  have np0:H0 p=none:=s02.free np;obtain ⟨⟨dS6,hS6⟩,hd6,_⟩:=R6.sh;have f011:ZA H0 H11:=fun b o e=>sx b o (f710 b o (Za e nlk) (r7.fr b o (Za e np0) (Za e nS) (Za e ndd) (fun j hj=>by
   obtain ⟨n1,_,n3⟩:=r.pla.new j (zG _) hj;exact ⟨Za e n1,Za e n3⟩) (g26 b o (s02 b o e)))) (Za e r.nL)
  have t211:Z1 H2 H11:=fun b o e=>t11 b o (t710 b o (t67 b o (ZA.tups g26 b o e)));have hl11:=sx _ _ hl10 lL;refine ⟨ts7,av7,ho7,as7,kvs7,ls9,TL++[⟨Tt,l,dd,rn,us,rs,kv,F⟩],_,_,_,_,rfl,⟨⟨R11,r7.wf,r7.hs,fun c o _ _ _ _ e=>f011 c o e,fun c e=>f011.free e,zG _,fun j hj=>absurd hj (xI _),fun j _ hj=>?_⟩,?_,⟨⟨_,eL11⟩,aL7.lk,aL7.own⟩,r.nL,fun t ht=>?_⟩,?_,by lia,?_⟩
  ·rcases zC j ts.length with z | z
   ·rw [(r7.old j z).1];exact r.pla.new j (zG _) z
   ·obtain ⟨n1,n2,n3⟩:=r7.new j z hj;exact ⟨s02.free (g26.free n1),s02.free (g26.free n2),s02.free (g26.free n3)⟩
  ·rw [yZ];exact eL11
  ·rcases yT.mp ht with z | z
   ·obtain ⟨a1,a2,a3,a4⟩:=r.trs t z;have rp:t.r≠p:=Za a1.rl np;obtain ⟨k7,ap7⟩:=r7.keep R6 (a2.same g26) rp (g26 _ _ a1.rl);have k11:=sx _ _ (f710 _ _ ap7.lk k7) a3;have d6:=g26 _ _ a1.rcd.hd;have d7:=r7.fr t.d _ (Za a1.rcd.hd np) (ZQ d6 hS6) a4 (fun b hb=>by
     obtain ⟨dx,hx⟩:=(R6.tw b hb).tw.self;exact ⟨ZQ d6 hx,ZQ d6 (R6.tw b hb).tw.above⟩) d6
    have d11:=sx _ _ (f710 _ _ (ZQ d7 r7.sh.sh.looks) d7) (ZQ a1.rcd.hd r.hL);exact ⟨(a1.go t211 (fun o e=>by rw [a1.rl] at e;cases e;exact k11) (fun o e=>by rw [a1.rcd.hd] at e;cases e;exact d11)).grow r7.le (fun j hj=>(r7.old j hj).2) r7.wf,⟨⟨_,k11⟩,ap7.lk,ap7.own⟩,a3,a4⟩
   ·rw [zA.mp z];exact ⟨⟨t11 _ _ eT,hl11,((kl.mono t67 _ _).mono t710 _ _).mono t11 _ _,frs,r60,⟨sx _ _ (gT _ _ hdd9) (ZQ hdd9 (fr9 _ _ aL7.lk (Za hL7 ndd') (gd8 _ _ hL7))),(rec9.mono (ZA.tups gT)).mono t11,clo9,r7.wf⟩,rt9⟩,⟨⟨_,hl11⟩,al7.lk,al7.own⟩,lL,ddd⟩
  ·rw [zU,lTL];rfl
  ·have ll9:ls9.length<=ls.length+ts7.length:=ll9
   lia
 ·rintro σ H2 ⟨ts,av,ho,as,kvs,ls,TL,x3,x4,x5,x6,rfl,r,lTL,l120,l200⟩;obtain ⟨t1,t2,rfl⟩:∃ t1 t2,TL=[t1,t2]:=by
   match TL,lTL with
   | [t1,t2],_=>exact ⟨t1,t2,rfl⟩
  exact ⟨_,rfl,k H2 L ts av ho as kvs ls t1 t2 r (by lia) (by lia)⟩
structure Qa(ts:List ZS)(F:List Nat)(R:List Zz)(pre B D:List Nat)(n:Nat):Prop where
 pr:∀ j∈pre,(gd ts j).h≠0
 bh:∀ b∈B,(gd ts b).h=n
 dh:∀ b∈D,(gd ts b).h+1=n
 rows:Zu ts D++Zu ts B=R
 inF:∀ j∈pre++(B++D),j∈F
 len:pre.length+1<=(B++D).length
def QE(ts:List ZS)(F:List Nat)(R:List Zz)(m at_:Nat)(found:List Nat):Prop:=
 (∃ pre B D n,found=pre++(B++D)/\at_=pre.length/\B≠[]/\n≠0/\m=300 - (B++D).length/\Qa ts F R pre B D n) \/
 (∃ pre L,found=pre++L/\(∀ j∈pre,(gd ts j).h≠0)/\(∀ j∈L,(gd ts j).h=0)/\Zu ts L=R/\(∀ j∈found,j∈F)/\pre.length<=at_/\at_<=found.length/\m=found.length - at_/\found.length<=120)
theorem JU(ts:List ZS)(a b:List Nat):Zu ts (a++b)=Zu ts a++Zu ts b:=vD
theorem GY{ts:List ZS}:∀{l:List Nat},(∀ b∈l,(gd ts b).rows≠[])->l.length<=(Zu ts l).length
 | [],_=>zY _
 | b :: l,h=>by
  have h1:=GY fun c hc=>h c (zH _ hc);have h2:=sU.mpr (h b (zK ..));unfold Zu at h1 ⊢;rw [wM,zU,zI]
  lia
section
variable{ts:List ZS}{F:List Nat}{R:List Zz}{pre B D:List Nat}{n:Nat}
theorem Qa.few(s:Qa ts F R pre B D n)(jt:∀ j∈F,(gd ts j).rows≠[]):(B++D).length<=R.length:=by
 have:=GY (ts:=ts) (l:=B++D) fun b hb=>jt b (s.inF b (yI _ hb));have e:=congrArg wL s.rows;rw [JU] at this;simp only [zU] at this e ⊢
 lia
theorem Ho(jt:∀ j∈F,(gd ts j).rows≠[])(h60:R.length<=60)(s:Qa ts F R pre B D n):∃ m,m<=300 - (B++D).length/\QE ts F R m pre.length (pre++(B++D)):=by
 have go:∀{B D:List Nat}{n:Nat},Qa ts F R pre B D n->B≠[]->∃ m,m<=300 - (B++D).length/\QE ts F R m pre.length (pre++(B++D)):=fun{B D n} s hB=>by
  have fw:=s.few jt;have ln:=s.len;by_cases h0:n=0
  ·have eD:D=[]:=by
    cases D with
    | nil=>rfl
    | cons d D=>exact absurd (s.dh d (zK ..)) (by lia)
   subst eD;have rw':=s.rows;rw [show Zu ts []=[] from rfl,tL] at rw';refine ⟨_,?_,.inr ⟨pre,B++[],rfl,s.pr,fun j hj=>?_,by rw [yO];exact rw',s.inF,zY _,by rw [zU];lia,rfl,by rw [zU];lia⟩⟩
   ·rw [zU];lia
   ·rw [yO] at hj;rw [s.bh j hj];exact h0
  ·exact ⟨_,zY _,.inl ⟨pre,B,D,n,rfl,rfl,hB,h0,rfl,s⟩⟩
 by_cases hB:B=[]
 ·subst hB;have ln:=s.len;have hD:D≠[]:=fun z=>by subst z;simp at ln
  have s':Qa ts F R pre D [] (n - 1):=⟨s.pr,fun b hb=>by have:=s.dh b hb;lia,fun b hb=>by simp at hb,by have:=s.rows;rw [show Zu ts []=[] from rfl,yO] at this;exact this,by have:=s.inF;rw [tL] at this;rw [yO];exact this,by rw [yO];exact ln⟩
  have:=go s' hD;rw [yO] at this;exact this
 ·exact go s hB
theorem ZNB{gt:List KT}(hw:WF gt ts)(hlt:∀ j∈F,j<ts.length)(clo:∀ j∈F,∀ b∈(gd ts j).bs,b∈F)(h60:R.length<=60){b:Nat}(s:Qa ts F R pre (b :: B) D n)(hn:n≠0):∃ m,m<300 - (b :: B++D).length/\QE ts F R m (pre.length+1) (pre++(b :: B++D)++(gd ts b).bs):=by
 have jt:∀ j∈F,(gd ts j).rows≠[]:=fun j hj=>(hw j _ (XI (hlt j hj))).ne;have hb:b∈F:=s.inF b (by simp)
 have h0:(gd ts b).h≠0:=by rw [s.bh b (zK ..)];exact hn
 obtain ⟨b2,b4,b3,er⟩:=(hw b _ (XI (hlt b hb))).stem h0;have e1:pre++(b :: B++D)++(gd ts b).bs=(pre++[b])++(B++(D++(gd ts b).bs)):=by simp
 have s':Qa ts F R (pre++[b]) B (D++(gd ts b).bs) n:=by
  refine ⟨fun j hj=>?_,fun j hj=>s.bh j (zH _ hj),fun j hj=>?_,?_,fun j hj=>?_,?_⟩
  ·rcases yT.mp hj with z | z
   ·exact s.pr j z
   ·rw [zA.mp z];exact h0
  ·rcases yT.mp hj with z | z
   ·exact s.dh j z
   ·rw [(b3 j z).2];exact s.bh b (zK ..)
  ·rw [<-s.rows,JU,uH,show Zu ts (gd ts b).bs=(gd ts b).rows from er.symm];rfl
  ·rw [<-e1] at hj;rcases yT.mp hj with z | z
   ·exact s.inF j z
   ·exact clo b hb j z
  ·have:=s.len;simp only [zU,zI,xD] at this ⊢
   lia
 obtain ⟨m,hm,I⟩:=Ho jt h60 s';have fw:=s'.few jt;rw [e1];refine ⟨m,?_,by rw [zU] at I;exact I⟩
 simp only [zU,zI] at hm fw ⊢
 lia
end
def YY(ts:List ZS):Option Nat->List Zz
 | none=>[]
 | some i=>(gd ts i).rows
def Um(ts:List ZS)(l:List Nat):List Zz:=(l.filter fun j=>decide ((gd ts j).h=0)).flatMap fun j=>(gd ts j).rows
theorem ZFz{ts:List ZS}{pre L:List Nat}(h1:∀ j∈pre,(gd ts j).h≠0)(h2:∀ j∈L,(gd ts j).h=0):Um ts (pre++L)=Zu ts L:=by
 unfold Um;rw [xA,vS.mpr fun j hj=>by rw [aK (h1 j hj)];exact zW,vE.mpr fun j hj=>aM (h2 j hj)]
 rfl
theorem HZ{ts:List ZS}{F:List Nat}{R:List Zz}{m a:Nat}{found:List Nat}(jt:∀ j∈F,(gd ts j).rows≠[])(h60:R.length<=60)(h:QE ts F R m a found):found.length<=120/\∀ j∈found,j∈F:=by
 rcases h with ⟨pre,B,D,n,rfl,rfl,hB,hn,rfl,s⟩ | ⟨pre,L,rfl,h1,h2,h3,h4,h5,h6,h7,h8⟩
 ·have:=s.few jt;have:=s.len;exact ⟨by rw [zU];lia,s.inF⟩
 ·exact ⟨h8,h4⟩
theorem Av{gt:List KT}{ts:List ZS}{F:List Nat}{R:List Zz}{m a j:Nat}{found:List Nat}(hw:WF gt ts)(hlt:∀ j∈F,j<ts.length)(clo:∀ j∈F,∀ b∈(gd ts j).bs,b∈F)(h60:R.length<=60)(h:QE ts F R m a found)(ej:found[a]? = some j):
  ((gd ts j).h≠0->∃ m',m'<m/\QE ts F R m' (a+1) (found++(gd ts j).bs))/\((gd ts j).h=0->∃ m',m'<m/\QE ts F R m' (a+1) found):=by
 rcases h with ⟨pre,B,D,n,rfl,rfl,hB,hn,rfl,s⟩ | ⟨pre,L,rfl,h1,h2,h3,h4,h5,h6,rfl,h8⟩
 ·cases B with
  | nil=>exact absurd rfl hB
  | cons b B=>
   rw [xW (zY _),Nat.sub_self] at ej;cases ej;exact ⟨fun _=>ZNB hw hlt clo h60 s hn,fun z=>absurd (z.symm.trans (s.bh j (zK ..))).symm hn⟩
 ·have hj:j∈L:=by
   rw [xW h5] at ej;exact zN ej
  have hl:=(yV.mp ej).1;exact ⟨fun z=>absurd (h2 j hj) z,fun _=>⟨_,by lia,.inr ⟨pre,L,rfl,h1,h2,h3,h4,by lia,hl,rfl,h8⟩⟩⟩
theorem D6{ts:List ZS}{F:List Nat}{R:List Zz}{m a:Nat}{found:List Nat}(h:QE ts F R m a found)(ha:found.length<=a):Um ts found=R:=by
 rcases h with ⟨pre,B,D,n,rfl,rfl,hB,hn,rfl,s⟩ | ⟨pre,L,rfl,h1,h2,h3,_⟩
 ·have:=s.len;rw [zU] at ha
  lia
 ·rw [ZFz h1 h2];exact h3
theorem AS{ts:List ZS}{F:List Nat}{rn:Option Nat}(jt:∀ j∈F,(gd ts j).rows≠[])(jm:∀ i,rn=some i->i∈F)(h60:(YY ts rn).length<=60):∃ m,QE ts F (YY ts rn) m 0 rn.toList:=by
 cases rn with
 | none=>exact ⟨0,.inr ⟨[],[],rfl,fun j h=>by simp at h,fun j h=>by simp at h,rfl,fun j h=>by simp at h,zY _,zY _,rfl,zG _⟩⟩
 | some i=>
  have s:Qa ts F (YY ts (some i)) [] [i] [] (gd ts i).h:=⟨fun j h=>by simp at h,fun b hb=>by rw [zA.mp hb],fun b hb=>by simp at hb,by simp [Zu,YY],fun j hj=>by simp at hj;rw [hj];exact jm i rfl,zY _⟩
  obtain ⟨m,_,I⟩:=Ho jt h60 s;exact ⟨m,I⟩
inductive Wr(gt:List KT)(vs:jf)(H:Hp)(Q:VK)(_:XK):Prop
 | mk (ts:List ZS) (d:aj) (kvs:List (Zd×V)) (F:List Nat) (rn:Option Nat) (_:vs=[.ref d,YE (Zy rn)]) (_:X6 gt ts H d kvs F) (_:∀ i,rn=some i->i∈F) (_:(YY ts rn).length<=60) (_:∀(H':Hp)(D:aj)(found:List Nat),ZA H H'->H D=none->H' D=some (.lst (iN found))->found.length<=120->(∀ j∈found,j∈F)->Um ts found=YY ts rn->Q (.ref D) H')
abbrev Du:List Str:=["_law_record","_law_root_here","_law_found","_law_at","_law_kind","_law_what"]
theorem UE:ZC Du ["_law_record","_law_root_here"] (Ze LH):=Zp
theorem BQ{gt:List KT}(F0:Zj K "_law_below" "_law_below" LH f fd)(T:YF mg):ZJ P w K mg base ZW 1 f fd ["_law_record","_law_root_here"] (Wr gt):=by
 refine F0.ko UE fun cdv A outer s H vs Q E hr h=>?_;obtain ⟨ts,d,kvs,F,rn,rfl,R,jm,r60,k⟩:=h;have nd:=UE.nd;have hu:=P5 hr;refine ⟨_,ZR (M4 (i:=2) [] [] nd rfl rfl rfl (VE (Yr (ZG (pv 1) ZF))) (fun _ _ _ _ _=>Ki (V0 (N6 (pv 0)))) (fun _ _ _ _ _=>pv 0) trivial)
  (ZR (Zk 3 nd ZM)
  (ZR (Qr PassesOwn.never (V0 (Fg (pv 3) (Z4 Xu rfl T.len Xl (ZG (pv 2) ZF))))
   (ZR (Pe (OW hu (pv 0) (Zn (r:=YI K) YO (pv 2) (pv 3) (fun _ _=>rfl)) (fun _ _=>rfl)) (Oh rfl (QA (Xo 4 nd) (QA (Xo 5 nd) Ob))))
   (ZR (Z5 (Y8 VM (pv 4) Xq (YK _)) (ZU (X8 (U0 yC qQ qN Gu (pv 2) (ZG (pv 5) ZF)))) Z7)
   (ZU (Zk 3 nd (Zw WP (pv 3) ZM))))))
  (ZU (Zg (pv 2))))),?_⟩
 have hlt:=R.rcd.lt;have hw:=R.wf;have jt:∀ j∈F,(gd ts j).rows≠[]:=fun j hj=>(hw j _ (XI (hlt j hj))).ne;have clo:∀ j∈F,∀ b∈(gd ts j).bs,b∈F:=fun j hj b hb=>R.sub hj hb;refine ⟨_,rfl,Z0,fun p np=>?_⟩;have g1:=ZY np (.lst [YE (Zy rn)]);have ep:=ZP (H:=H) (a:=p) (o:=.lst [YE (Zy rn)]);generalize upd H p (.lst [YE (Zy rn)])=H1 at g1 ep ⊢;refine ⟨p,rfl,⟨_,ZL.of ep⟩,ML (n:=1) (fun i z=>[YE (Zy rn)][i]? = some z) (fun _=>rn.isSome) (fun D j ys H3=>ZA H1 H3/\H1 D=none/\ys=if j=0 then [] else iN rn.toList) (XM (by decide))
  (fun D j ys H3 hj hP=>⟨_,_,ZL.of (hP.1 _ _ ep),zT (by simpa using hj)⟩) (fun D j ys H3 z H4 hj hP hy=>⟨hy.1,hy.2 _ (ZL.of (hP.1 _ _ ep))⟩) (fun D ys H3 hP=>⟨_,ZL.of (hP.1 _ _ ep),zY _⟩)
  (fun D hD=>⟨ZY hD _,hD,rfl⟩) (fun D j ys H3 z eD hj hz hP B hB=>?_) (fun D j ys H3 z eD hj hz hk hP B hB=>?_) (fun D j ys H3 eD hj hk hP=>?_) (fun D ys H3 eD hP=>?_)⟩
 ·have:j=0:=by lia
  subst this;cases hz
  cases rn with
  | none=>exact ⟨_,rfl,_,rfl,hB H3 eD hP⟩
  | some i=>exact ⟨_,rfl,_,rfl,hB H3 eD hP⟩
 ·have:j=0:=by lia
  subst this;cases hz;obtain ⟨s3,nD,rfl⟩:=hP
  cases rn with
  | none=>cases hk
  | some i=>exact ⟨_,rfl,hB _ H3 eD ⟨UO s3 nD,nD,rfl⟩⟩
 ·have:j=0:=by lia
  subst this;obtain ⟨s3,nD,rfl⟩:=hP
  cases rn with
  | none=>exact ⟨s3,nD,rfl⟩
  | some i=>cases hk
 obtain ⟨s3,nD,rfl⟩:=hP;have eD:H3 D=some (.lst (iN rn.toList)):=eD;have nD0:H D=none:=g1.free nD;obtain ⟨m0,I0⟩:=AS jt jm r60;refine ⟨fun m σ H'=>∃(found:List Nat)(a:Nat)(x4 x5:jg),σ=[some (.ref d),some (YE (Zy rn)),some (.ref D),some (.int (a:Int)),x4,x5]/\QE ts F (YY ts rn) m a found/\H' D=some (.lst (iN found))/\ZA H H',⟨m0,_,0,none,none,rfl,I0,eD,g1.trans s3⟩,?_⟩;rintro m σ H4 ⟨found,a,x4,x5,rfl,I,hD,s4⟩;obtain ⟨l120,inF⟩:=HZ jt r60 I;have lf:(iN found).length=found.length:=zX _;refine ⟨_,rfl,_,rfl,D,_,rfl,.inl (ZL.of hD),_,_,rfl,rfl,_,rfl,?_⟩;show if decide (((a:Nat):Int)<(((iN found).length:Nat):Int))=true then _ else _
 rcases zC a found.length with c | c
 ·rw [aM (show ((a:Nat):Int)<(((iN found).length:Nat):Int) by lia)]
  obtain ⟨j,ej⟩:∃ j,found[a]? = some j:=⟨_,zT c⟩;have ev:(iN found)[a]? = some (V.int (j:Nat)):=by unfold iN;rw [zL,ej];rfl
  have hj:=inF j (zN ej);obtain ⟨tp,u,us,hg,htp,hu',w1,w2⟩:=(R.same s4).get hj;obtain ⟨st,lf'⟩:=Av hw hlt clo r60 I ej;refine Z2 ⟨_,fun _ _ z=>z,?_⟩;refine ⟨_,rfl,_,rfl,_,rfl,.inl ⟨D,_,_,_,rfl,rfl,ZL.of hD,Xb ev,d,.ref tp,rfl,hg,tp,_,rfl,Zo.of htp,rfl,_,_,rfl,_,_,rfl,rfl,?_⟩⟩;refine ⟨_,rfl,rfl,_,rfl,?_⟩;rw [Gj];by_cases h0:(gd ts j).h=0
  ·rw [aK (show ¬ (gd ts j).h≠0 from fun z=>z h0)];obtain ⟨m',hm',I'⟩:=lf' h0;exact Zm ⟨_,rfl,_,_,rfl,rfl,m',hm',found,a+1,_,_,rfl,I',hD,s4⟩
  ·rw [aM (show (gd ts j).h≠0 from h0)];obtain ⟨m',hm',I'⟩:=st h0;have eu:=w2 h0;subst eu;obtain ⟨l120',_⟩:=HZ jt r60 I';have lb:(iN (gd ts j).bs).length=(gd ts j).bs.length:=zX _;refine Z2 ⟨_,rfl,.inl ⟨rfl,_,ZL.of hD⟩,_,rfl,D,u,_,_,rfl,rfl,hD,hu',by rw [zU] at l120';lia,?_⟩
   refine ⟨_,rfl,_,_,rfl,rfl,m',hm',found++(gd ts j).bs,a+1,_,_,rfl,I',?_,fun b o e=>by rw [ZV (Za e nD0)];exact s4 b o e⟩
   rw [ZP];unfold iN;rw [yZ]
 ·rw [aK (show ¬ ((a:Nat):Int)<(((iN found).length:Nat):Int) by lia)]
  exact Zm ⟨_,rfl,k H4 D found s4 nD0 hD l120 inF (D6 I c)⟩
abbrev qR:Str:=("_law_rows_of" ++ ".<locals>.") ++ "<lambda>"
def Vt:Arguments×Expr×Scope:=match (Xv Qd)[(2:Nat)]? with
 | some (Stmt.Return (some (.Call _ _ [⟨_,.Lambda ps b sc _,_⟩] _)) _)=>(ps,b,sc)
 | _=>(⟨[],[],none,[],[],none,[]⟩,.Name "" ⟨0,0,0,0⟩,(Ze Qd))
theorem Dq:ZC ["_law_row"] ["_law_row"] Vt.2.2:=Zp
inductive Uw(vs:jf)(H:Hp)(Q:VK)(_:XK):Prop
 | mk (u:V) (r:Zz) (_:vs=[u]) (_:ZD H (QI r) u) (_:r.1.fits 3=true) (_:∀(v':V)(H':Hp),ZD H' r.1.rk v'->ZA H H'->Q v' H')
theorem B9{rs:List Zz}(h:(rs.map (·.1)).Pairwise fun a b=>a.lt b=true){r q:Zz}(hr:r∈rs)(hq:q∈rs)(e:r.1=q.1):r=q:=by
 rw [List.pairwise_map] at h
 induction rs with
 | nil=>simp at hr
 | cons x rs ih=>
  obtain ⟨h1,h2⟩:=xL.mp h;rcases zB.mp hr with z | z <;> rcases zB.mp hq with y | y
  ·rw [z,y]
  ·have:=h1 q y;rw [<-z,e,QH] at this;cases this
  ·have:=h1 r z;rw [<-y,<-e,QH] at this;cases this
  ·exact ih h2 z y
theorem Hg{H:Hp}{rs:List Zz}(h:(rs.map (·.1)).Pairwise fun a b=>a.lt b=true):∀(l:List Zz)(ws:jf),(∀ r∈l,r∈rs)->Paired (fun t u=>∃ r∈rs,r.1=t/\ZD H (QI r) u) (l.map (·.1)) ws->KeysAt H (Zv l) ws
 | [],ws,_,p=>by cases p;exact .nil
 | r :: l,ws,hl,p=>by
  cases p with
  | cons h1 h2=>
   obtain ⟨q,hq,e,k⟩:=h1;have:=B9 h hq (hl r (zK ..)) e;subst this;exact .cons k (Hg h l _ (fun x hx=>hl x (zH _ hx)) h2)
theorem Gd{H:Hp}{rs:List Zz}:∀(l:List Zz)(ws:jf),(∀ r∈l,r∈rs)->KeysAt H (Zv l) ws->Paired (fun t u=>∃ r∈rs,r.1=t/\ZD H (QI r) u) (l.map (·.1)) ws
 | [],ws,_,p=>by unfold Zv at p;rw [wV,KeysAt] at p;subst p;exact .nil
 | r :: l,ws,hl,p=>by
  unfold Zv at p;rw [zF,KeysAt] at p;obtain ⟨v,vr,rfl,h1,h2⟩:=p;exact .cons ⟨r,hl r (zK ..),rfl,h1⟩ (Gd l vr (fun x hx=>hl x (zH _ hx)) h2)
theorem C6{f c':aj}{co:aJ}{pm ctv:ai}(jD:Os co qR)(DR:ZB P w K mg base 6 "_law_rank" ["_law_spot"] (UQ KT.rk)):
  ZJ P w K mg base ZW 7 f (PySem.W.kla_fn "<lambda>" qR Vt.1 Vt.2.1 Vt.2.2 [] pm (.ref c') ctv) ["_law_row"] (GA f c' (wJ "<lambda>" qR Vt.1 Vt.2.1 Vt.2.2 [] pm c' ctv) co Uw):=by
 refine Eo Dq (fun vs H Q E h=>(by obtain ⟨_,_,rfl,_⟩:=h;rfl)) jD fun A outer s H vs Q E hr h=>?_
 obtain ⟨u,r,rfl,hu,fr,k⟩:=h;refine ⟨_,Zh DR hr (ZG (Zn (r:=Xk K) Zi (pv 0) ZM (fun _ _=>rfl)) ZF),?_⟩;unfold QI at hu;rw [ZD] at hu;obtain ⟨a,vs,rfl,ha,hk⟩:=hu;rw [KeysAt] at hk;obtain ⟨v1,r1,rfl,k1,_⟩:=hk;exact ⟨_,rfl,a,_,_,v1,rfl,rfl,Zo.of ha,Xb (j:=0) rfl,v1,r.1,rfl,k1,fr,k⟩
theorem DJ{ts:List ZS}{l:List Nat}{i j:Nat}(e:l[i]? = some j):Um ts (l.take (i+1))=Um ts (l.take i)++(if (gd ts j).h=0 then (gd ts j).rows else []):=by
 rw [yL,e];unfold Um;rw [xA,vD]
 congr 1
 by_cases h:(gd ts j).h=0 <;> simp [h]
theorem B6(ts:List ZS)(l:List Nat)(i:Nat):(Um ts (l.take i)).length<=(Um ts l).length:=by
 conv=>rhs;rw [<-wE i l]
 unfold Um;rw [xA,vD,zU]
 lia
inductive XS(gt:List KT)(T:aj)(vs:jf)(H:Hp)(Q:VK)(_:XK):Prop
 | mk (ts:List ZS) (d:aj) (kvs:List (Zd×V)) (F:List Nat) (rn:Option Nat) (_:vs=[.ref d,YE (Zy rn)]) (_:Y3 H T qR) (_:X6 gt ts H d kvs F) (_:∀ i,rn=some i->i∈F) (_:(YY ts rn).length<=60) (_:∀(H':Hp)(D:aj)(ws:jf),(∀ b o,b≠T->H b=some o->H' b=some o)->Y3 H' T qR->H D=none->H' D=some (.lst ws)->KeysAt H' (Zv (YY ts rn)) ws->Q (.ref D) H')
abbrev Cm:List Str:=["_law_record","_law_root_here","_law_rows","_law_number"]
theorem VT:ZC Cm ["_law_record","_law_root_here"] (Ze Qd):=Zp
inductive Bb(d l D:aj)(rn:Option Nat)(H:Hp)(ts:List ZS)(found:List Nat)(i:Nat)(σ:L2.St)(H':Hp):Prop
 | mk (ys:jf) (x3:jg) (_:σ=[some (.ref d),some (YE (Zy rn)),some (.ref D),x3]) (_:H' l=some (.lst (iN found))) (_:H' D=some (.lst ys)) (_:KeysAt H' (Zv (Um ts (found.take i))) ys) (_:ZA H H')
theorem AE{gt:List KT}{c T:aj}(F0:Zj K "_law_rows_of" "_law_rows_of" Qd f fd)(hf:zM K ar "_law_rows_of" = some (some (.ref f)))(ht:xR K "_law_rows_of" = some (c,T))(CC:wQ base c T)(hbt:base.BuiltinsAt mg T)(Tx:YF mg)(DB:ZB P w K mg base 1 "_law_below" ["_law_record","_law_root_here"] (Wr gt))(DR:ZB P w K mg base 6 "_law_rank" ["_law_spot"] (Yh 5)):
  ZJ P w K mg base ZW 10 f fd ["_law_record","_law_root_here"] (XS gt T):=by
 refine F0.okC hf ht VT (fun vs H Q E h=>(by obtain ⟨_,_,_,_,_,rfl,_⟩:=h;rfl)) (fun A outer s H vs Q E hr h=>?_)
 obtain ⟨ts,d,kvs,F,rn,rfl,tab,R,jm,r60,k⟩:=h;have nd:=VT.nd;have hu:=P5 hr;have hr1:=hr.mono (show 1<=9 by decide)
 have DS:ZB P w K mg base 6 "_law_rank" ["_law_spot"] (UQ KT.rk):=by
  obtain ⟨g,gd,FG,b,kp,m⟩:=DR.ex;exact ⟨g,gd,FG.imp fun vs H Q E h=>by
   obtain ⟨v,t,e,a,c,d⟩:=h;have:=Va t 3 c;exact ⟨v,t,3,e,a,c,by lia,d⟩,b,kp,m⟩
 refine ⟨_,ZR (Zk 2 nd (Yr ZF))
  (ZR (Vf Lz rfl (VE (Zh DB hr1 (ZG (pv 0) (ZG (pv 1) ZF)))) (Xo 3 nd)
   (ZU (Z5 (Y8 VM (Zn (r:=Xk K) Zi (OW hu (pv 0) (pv 3) (fun _ _=>rfl)) ZM (fun _ _=>rfl)) Xq (YK _)) (ZU (X8 (U0 yC qQ qN Gu (pv 2) (ZG (Zn (r:=Xk K) Zi (OW hu (pv 0) (pv 3) (fun _ _=>rfl)) ZM (fun _ _=>rfl)) ZF)))) Z7)))
  (ZU (Zg (BX Mo Qi (k:=7) hr rfl Tx.sorted (ZG (pv 2) ZF) (ZOE (P:=T) (cl:=[]) rfl CC hbt rfl rfl))))),?_⟩
 refine ⟨Z0,fun D nD=>?_⟩;have g1:=ZY nD (.lst []);have eD:=ZP (H:=H) (a:=D) (o:=.lst []);generalize upd H D (.lst [])=H1 at g1 eD ⊢;refine ⟨_,rfl,_,rfl,ts,d,kvs,F,rn,rfl,R.same g1,jm,r60,fun H2 l found s2 nl hl l120 inF erows=>?_⟩;have s02:=g1.trans s2;have lne:l≠D:=fun z=>by rw [z,eD] at nl;cases nl
 refine ⟨l,rfl,⟨_,ZL.of hl⟩,Pb (K:=K) (a:=l) (xs:=iN found) (Bb d l D rn H ts found) ⟨[],_,rfl,hl,s2 _ _ eD,.nil,s02⟩ (fun i σ H' _ hP=>by obtain ⟨_,_,_,h,_,_,_⟩:=hP;exact ZL.of h) ?_ ?_⟩
 ·rintro i u σ H3 hz ⟨ys,x3,rfl,hl3,hD3,ks,s3⟩;obtain ⟨j,ej,rfl⟩:=OD hz;have hj:=inF j (zN ej);obtain ⟨tp,u,us,hg,htp,hu',w1,w2⟩:=(R.same s3).get hj;have lr:=B6 ts found (i+1);rw [erows] at lr;have lk:=ks.length;unfold Zv at lk;rw [zX] at lk;have st:=DJ (ts:=ts) ej;refine ⟨_,rfl,_,rfl,d,.ref tp,rfl,hg,tp,_,_,_,rfl,rfl,Zo.of htp,rfl,rfl,_,rfl,?_⟩;rw [G3];by_cases h0:(gd ts j).h=0
  ·rw [aM h0];rw [aP h0] at st;have ku:=w1 h0;have lu:=ku.length;unfold Zv at lu;rw [zX] at lu;rw [st,zU] at lr;have ul:u≠D:=ZQ hu' hD3;refine Z2 ⟨_,rfl,.inl ⟨rfl,_,ZL.of hD3⟩,_,rfl,_,rfl,d,.ref tp,rfl,hg,tp,_,_,_,rfl,rfl,Zo.of htp,rfl,D,u,ys,us,rfl,rfl,hD3,hu',by lia,?_⟩
   have sx:ZE D H3 (upd H3 D (.lst (ys++us))):=(ZE.refl D H3).upd;have tx:=sx.tups hD3;refine ⟨ys++us,_,rfl,by rw [ZV lne];exact hl3,ZP,?_,fun b o e=>by rw [ZV (Za e nD)];exact s3 b o e⟩
   rw [st,O5];exact (ks.mono tx _ _).append (ku.mono tx _ _)
  ·rw [aK h0];rw [aO h0,yO] at st;exact Zm ⟨ys,_,rfl,hl3,hD3,by rw [st];exact ks,s3⟩
 ·rintro σ H3 ⟨ys,x3,rfl,hl3,hD3,ks,s3⟩;rw [yR (by rw [<-zX (f:=fun b:Nat=>V.int (b:Nat))];exact zY _),erows] at ks
  have lk:=ks.length;unfold Zv at lk;rw [zX] at lk;have up:((YY ts rn).map (·.1)).Pairwise fun a b=>a.lt b=true:=by
   cases rn with
   | none=>exact .nil
   | some i=>exact (R.wf i _ (XI (R.rcd.lt i (jm i rfl)))).up
  have fit:∀ r∈YY ts rn,r.fit:=by
   cases rn with
   | none=>intro r hr;simp [YY] at hr
   | some i=>exact (R.wf i _ (XI (R.rcd.lt i (jm i rfl)))).inn
  have tab3:=tab.ext (VP.same s3);refine ⟨_,rfl,tab3,fun H4 fn c' co pm ctv hco hfn hc' fr4 tab4 oth=>?_⟩;obtain ⟨psT,hT,_⟩:=id tab3;have m34:Z1 H3 H4:=fun b xs e=>fr4 b _ (ZQ e hT) e;have hD4:=fr4 _ _ (ZQ hD3 hT) hD3;refine ⟨fn,_,"_law_row",_,fun H t u=>∃ r∈YY ts rn,r.1=t/\ZD H (QI r) u,D,ys,(YY ts rn).map (·.1),rfl,rfl,C6 (c':=c') (pm:=pm) (ctv:=ctv) hco DS,.all (fun us hl=>match us,hl with | [_],_=>rfl),fun H H' t u sm h=>?_,fun H' u t Q' sm h kq=>?_,hD4,Gd _ _ (fun r h=>h) (ks.mono m34 _ _),fun t ht=>?_,by lia,fun D' ws rs H5 s5 nD' hD' hp pm up'=>?_⟩
  ·obtain ⟨r,hr,e,kr⟩:=h;exact ⟨r,hr,e,kr.mono (ZA.tups sm) _ _⟩
  ·obtain ⟨r,hr,rfl,kr⟩:=h;exact ⟨sm _ _ hfn,sm _ _ hc',u,r,rfl,kr,(fit r hr).1,kq⟩
  ·obtain ⟨r,hr,rfl⟩:=zJ.mp ht;exact (fit r hr).1
  ·have e:rs=(YY ts rn).map (·.1):=List.Perm.eq_of_pairwise (le:=fun a b:KT=>b.lt a=false) (fun a b _ _ h1 h2=>Oo a b h2 h1) up' (up.imp fun{a b} h=>PX _ _ h) pm;subst e;refine k H5 D' ws (fun b o n e=>s5 b o (fr4 b o n (s3 b o e))) (tab4.ext (VP.same s5)) ?_ hD' (Hg up _ _ (fun r h=>h) hp)
   cases z:H D' with
   | none=>rfl
   | some o=>
    by_cases y:D'=T
    ·obtain ⟨ps4,hT4,_⟩:=tab4;rw [y,hT4] at nD';cases nD'
    ·rw [fr4 _ _ y (s3 _ _ z)] at nD';cases nD'
structure Yd(gt:List KT)(ts:List ZS)(H:Hp)(t:WT):Prop where
 tp:H t.T=some (.tup [.ref t.r,YE (Zy t.rn),.ref t.d])
 rcd:X6 gt ts H t.d t.kv t.F
 rt:∀ i,t.rn=some i->i∈t.F
theorem Yd.go{gt:List KT}{ts:List ZS}{H H':Hp}{t:WT}(h:Yd gt ts H t)(m:Z1 H H')(hd:∀ o,H t.d=some o->H' t.d=some o):Yd gt ts H' t:=
 ⟨m _ _ h.tp,⟨hd _ h.rcd.hd,h.rcd.rcd.mono m,h.rcd.clo,h.rcd.wf⟩,h.rt⟩
inductive Wl(gt:List KT)(vs:jf)(H:Hp)(Q:VK)(E:XK):Prop
 | mk (ts:List ZS) (p L:aj) (t1 t2:WT) (_:vs=[.ref p,.ref L]) (_:ZI H p) (_:H L=some (.lst [.ref t1.T,.ref t2.T])) (_:L≠p) (_:Yd gt ts H t1) (_:Yd gt ts H t2) (_:ts.length<=240) (_:∀(H':Hp)(t:aj)(tr:WT)(rn:Option Nat),tr=t1\/tr=t2->(∀ i,rn=some i->i∈tr.F)->ZE p H H'->ZI H' p->H' t=some (.tup [YE (Zy rn),.ref tr.d])->Q (.ref t) H')
abbrev BJ:List Str:=["_law_well_here","_law_trees_here","_law_rows","_law_root_here","_law_record"]
theorem Ul:ZC BJ ["_law_well_here","_law_trees_here"] (Ze Kj):=Zp
theorem Fr{gt:List KT}(F:Zj K "_law_root" "_law_root" Kj f fd)(T:YF mg)(DP:ZB P w K mg base 1 "_law_pull" ["_law_well_here","_law_many"] Zr):ZJ P w K mg base ZW 2 f fd ["_law_well_here","_law_trees_here"] (Wl gt):=by
 refine F.ko Ul fun cdv A outer s H vs Q E hr h=>?_;obtain ⟨ts,p,L,t1,t2,rfl,W,hL,Lp,a1,a2,l240,k⟩:=h;have nd:=Ul.nd;refine ⟨_,ZR (Pe (Zn (r:=YI K) YO (pv 1) (Zh DP hr (ZG (pv 0) (ZG ZM ZF))) (fun _ _=>rfl)) (Oh rfl (QA (Xo 2 nd) (QA (Xo 3 nd) (QA (Xo 4 nd) Ob)))))
  (ZR (Z5 (PW.pt (ON (Y8 (Ch hr.units0) (pv 4) Lv (YK _)) (Ol (V0 (MK (Zh DP hr (ZG (pv 0) (ZG ZM ZF))) ZM)))))
   (ZU (Zk 3 nd (Zn (r:=YI K) YO (Wy (Fl rfl) rfl T.list Qf (ZG (pv 4) ZF)) (Zh DP hr (ZG (pv 0) (ZG (Z4 A6 rfl T.len Xl (ZG (pv 4) ZF)) ZF))) (fun _ _=>rfl)))) Z7)
  (ZU (Zg (Yq (ZG (pv 3) (ZG (pv 4) ZF)))))),?_⟩
 refine ⟨_,rfl,_,rfl,p,2,rfl,W,Xi (by decide) (by decide),fun r H1 r0 r2 W1 s1=>?_⟩
 obtain ⟨tr,htr,hr'⟩:∃ tr,(tr=t1\/tr=t2)/\WM [V.ref t1.T,.ref t2.T] r=some (.ref tr.T):=by
  have:r=0\/r=1:=by lia
  rcases this with rfl | rfl
  ·exact ⟨t1,.inl rfl,Xb (j:=0) rfl⟩
  ·exact ⟨t2,.inr rfl,Xb (j:=1) rfl⟩
 have at_:Yd gt ts H tr:=by rcases htr with z | z <;> rw [z] <;> assumption
 obtain ⟨pw,hp⟩:=W.some;obtain ⟨pw1,hp1⟩:=W1.some;have m1:Z1 H H1:=s1.tups hp;have hd0:=at_.rcd.hd;have dp:tr.d≠p:=ZQ hd0 hp;have hd1:=s1 _ _ hd0 dp;refine .inl ⟨L,_,r,_,rfl,rfl,ZL.of (s1 _ _ hL Lp),hr',tr.T,_,rfl,Zo.of (m1 _ _ at_.tp),rfl,_,_,rfl,_,_,rfl,_,_,rfl,rfl,?_⟩;refine ⟨_,rfl,fun e0 ne0=>?_⟩;have g2:=ZY ne0 (.dK []);have W2:=W1.same g2;have s2:ZE p H (upd H1 e0 (.dK [])):=fun b o e n=>g2 b o (s1 b o e n);have hd2:=g2 _ _ hd1;have e2:=ZP (H:=H1) (a:=e0) (o:=.dK []);generalize upd H1 e0 (.dK [])=H2 at g2 W2 s2 hd2 e2 ⊢;have lF:=LG _ _ at_.rcd.rcd.nd at_.rcd.rcd.lt;have lkv:=at_.rcd.rcd.len;have fin:∀(H3:Hp)(rn:Option Nat),(∀ i,rn=some i->i∈tr.F)->ZE p H H3->ZI H3 p->H3 tr.d=some (.dK tr.kv)->∀ x2:jg,Lm (K7 (Y0 (OX 3) (Y0 (OX 4) V4))) { nx:=fun _ H'=>Q .non H',rt:=Q } [some (.ref p),some (.ref L),x2,some (YE (Zy rn)),some (.ref tr.d)] H3:=fun H3 rn jm s3 W3 hd3 x2=>by
  refine ⟨_,rfl,_,rfl,Z0,fun t nt=>?_⟩;have g:=ZY nt (.tup [YE (Zy rn),.ref tr.d]);exact k _ t tr rn htr jm (fun b o e n=>g b o (s3 b o e n)) (W3.same g) ZP
 refine ⟨tr.d,e0,tr.kv,rfl,rfl,hd2,e2,_,rfl,?_⟩
 cases ek:tr.kv.isEmpty with
 | true=>exact Zm (Zm (fin H2 tr.rn at_.rt s2 W2 hd2 _))
 | false=>
  refine Z2 ⟨_,rfl,p,2,rfl,W2,Xi (by decide) (by decide),fun r' H3 r0' r2' W3 s3=>?_⟩
  have s03:ZE p H H3:=fun b o e n=>s3 b o (s2 b o e n) n;have hd3:=s3 _ _ hd2 dp;refine ⟨_,_,rfl,rfl,_,rfl,We (fun c=>?_) (fun c=>?_)⟩
  ·refine ⟨_,rfl,tr.d,tr.kv,tr.F.map fun j:Nat=>(j:Int),rfl,hd3,by rw [at_.rcd.rcd.ks,wB];rfl,by rw [zX];lia,fun q nq=>?_⟩
   have g4:=ZY nq (.lst ((tr.F.map fun j:Nat=>(j:Int)).map V.int));have W4:=W3.same g4;have hd4:=g4 _ _ hd3;have eq4:=ZP (H:=H3) (a:=q) (o:=.lst ((tr.F.map fun j:Nat=>(j:Int)).map V.int));have s04:ZE p H (upd H3 q (.lst ((tr.F.map fun j:Nat=>(j:Int)).map V.int))):=fun b o e n=>g4 b o (s03 b o e n);generalize upd H3 q (.lst ((tr.F.map fun j:Nat=>(j:Int)).map V.int))=H4 at g4 W4 hd4 eq4 s04 ⊢;have k0:0<tr.kv.length:=by
    cases z:tr.kv with
    | nil=>rw [z] at ek;cases ek
    | cons _ _=>exact Nat.succ_pos _
   refine ⟨_,rfl,_,rfl,tr.d,tr.kv,rfl,hd4,p,_,rfl,W4,Xi (by lia) (by rw [Int.natAbs_natCast];lia),fun z H5 z0 z1 W5 s5=>?_⟩
   have qp:q≠p:=(UJ W3 nq);obtain ⟨n,rfl⟩:=rO z0;have hz:n<tr.F.length:=by lia
   have ez:WM ((tr.F.map fun j:Nat=>(j:Int)).map V.int) (n:Int)=some (.int ((tr.F[n]:Nat):Int)):=Xb (by rw [zL,zL,zT hz];rfl)
   exact .inl ⟨q,_,_,_,rfl,rfl,ZL.of (s5 _ _ eq4 qp),ez,fin H5 (some tr.F[n]) (fun i e=>by cases e;exact xZ _) (fun b o e n=>s5 b o (s04 b o e n) n) W5 (s5 _ _ hd4 dp) _⟩
  ·exact fin H3 tr.rn at_.rt s03 W3 hd3 _
def Vu(rs:List Zz)(n:Int):List Zz:=if 0<=n/\n<(rs.length:Int) then [rs.getD n.toNat rd] else []
theorem FO(ts:List ZS)(rn:Option Nat):PZ ts rn=(YY ts rn).length:=by cases rn <;> rfl
theorem Ni(ts:List ZS)(k:KT)(rn:Option Nat):UL ts k rn=XW ((YY ts rn).map (·.1)) k:=by cases rn <;> rfl
theorem Pz{ts:List ZS}{rn:Option Nat}(h:∀ i,rn=some i->i<ts.length):US ts (Zy rn)=true:=by
 cases rn with
 | none=>rfl
 | some i=>exact aM ⟨by lia,by have:=h i rfl;lia⟩
theorem Pi{a b:Option Nat}(h:Zy a=Zy b):a=b:=by
 cases a with
 | none=>
  cases b with
  | none=>rfl
  | some b=>cases h
 | some a=>
  cases b with
  | none=>cases h
  | some b=>
   have e:(a:Int)=(b:Int):=zD.inj h;have:a=b:=by lia
   rw [this]
theorem Ct{X:Cx}:QJ (XD X.prog X.w) X E0:=fun _ _ _ _ _ _ _ h=>by
 obtain ⟨_,_,_,_,_,_,q⟩:=h;exact q.elim
theorem Ld{X:Cx}{k:Nat}{x:Str}{ps:List Str}{sp:Sp}{e:Expr}{es:List Expr}{t:TA}{p pos:Pos}(D:Z3 X.prog X.w X.K X.mg X.base k x ps sp)(hr:ZX k X.A)(ha:PA X (e :: es) t)(hg:Gl X x:=by rfl)(jy:(x==("__debug__" : Str))=false:=by decide)(he:ax (e :: es) X.env=(false,aI e X.env) :: ax es X.env:=by rfl)(jv:(aH pos (ax es X.env)).any (·.1)=false:=by rfl):
  PE X (.Call (.Name x p) (e :: es) [] pos) (NH sp [] E0 t):=by
 obtain ⟨f,fd,FF,b,kp,m⟩:=D.ex;exact KY FF hr hg m kp b .nil Ct ha jy he jv
inductive Xp(gt:List KT)(jh ji:aj)(vs:jf)(H:Hp)(Q:VK)(E:XK):Prop
 | mk (X:YL) (lk:aj) (c:Nat) (ls:jf) (rn:Option Nat) (n:Int) (_:vs=[.ref X.S,YE (Zy rn),.int n]) (_:Zx jh ji H X lk c ls) (_:WF gt X.ts) (_:∀ i,i<X.ts.length->(gd X.ts i).h<=60) (_:ls.length<=380000) (_:∀ i,rn=some i->i<X.ts.length)
  (_:∀(H':Hp)(D:aj)(us ls':jf),(∀ b o,b≠lk->H b=some o->H' b=some o)->Zx jh ji H' X lk c ls'->ls'.length<=ls.length+61->H D=none->H' D=some (.lst us)->KeysAt H' (Zv (Vu (YY X.ts rn) n)) us->Q (.ref D) H')
theorem Cq:ZC ["shelf","root","at"] ["shelf","root","at"] (Ze Mb):=Zp
theorem Dn{gt:List KT}(F:Zj K "row_at" "row_at" Mb f fd)(NP:XN P w K mg base "NoPlace" CP "at")(pB:yW K CP (.type "BaseException")=some true)(pP:yW K CP (.ref CP)=some true)(DN:Z3 P w K mg base 6 "nth" ["shelf","root","at"] (Ux gt jh ji CT CP)):ZJ P w K mg base ZW 7 f fd ["shelf","root","at"] (Xp gt jh ji):=by
 refine F.ko Cq fun cdv A outer s H vs Q E hr h=>?_;obtain ⟨X,lk,c,ls,rn,n,rfl,R,hw,low,few,jm,k⟩:=h;obtain ⟨g,gd',FC,bC,kC,mC⟩:=DN.ex;refine ⟨_,ZU (ZMs FC hr rfl mC kC bC (fun E'=>WA (pv 0) (pv 1) (pv 2)) rfl rfl rfl NP.at_ NP.ty pB (fun ea E'=>ZU (Zg (Yr ZF)))),?_⟩;refine ⟨_,rfl,_,rfl,_,rfl,X,lk,c,ls,Zy rn,n,rfl,R,hw,low,few,fun x ex hx=>?_,fun rn' er hrn' hno dx H1 s1 edx=>⟨CP,rfl,pP,Z0,fun D nD=>?_⟩,fun i m er hi em hm H1 v ls1 fr1 R1 l1 kv D nD=>?_⟩
 ·have:=Pz jm;rw [ex] at this;rw [show inT X.ts x=true from this] at hx;cases hx
 ·have e:=Pi er;subst e;have g:=s1.trans (ZY nD (.lst []));refine k _ D [] ls (fun b o _ e=>g b o e) (R.same g) (by lia) (s1.free nD) ZP ?_
  rw [FO] at hno;unfold Vu;rw [aO hno];exact .nil
 ·have e:=Pi (b:=some i) er;subst e em;have nD0:H D=none:=by
   cases z:H D with
   | none=>rfl
   | some o=>
    by_cases y:D=lk
    ·rw [y,R1.sh.looks] at nD;cases nD
    ·rw [fr1 _ _ y z] at nD;cases nD
  have g:=ZY nD (.lst [v]);refine k _ D [v] ls1 (fun b o n e=>g b o (fr1 b o n e)) (R1.same g) l1 nD0 ZP ?_;unfold Vu;rw [aP ⟨by lia,by show (m:Int)<((gd X.ts i).rows.length:Int);lia⟩,vW]
  exact .cons (kv.mono (ZA.tups g) _ _) .nil
inductive Z8(δ:Int)(gt:List KT)(jh ji CT CK:aj)(vs:jf)(H:Hp)(Q:VK)(E:XK):Prop
 | mk (X:YL) (lk:aj) (c:Nat) (ls:jf) (r:Option Int) (v:V) (o:Option KT) (_:vs=[.ref X.S,YE r,v]) (_:QX gt jh ji CT CK H X lk c ls r v o E) (_:ls.length<=370000)
  (_:∀(k:KT)(rn:Option Nat),o=some k->r=Zy rn->(∀ i,rn=some i->i<X.ts.length)->∀(H':Hp)(D:aj)(us ls':jf),(∀ b o,b≠lk->H b=some o->H' b=some o)->Zx jh ji H' X lk c ls'->ls'.length<=ls.length+122->H D=none->H' D=some (.lst us)->KeysAt H' (Zv (Vu (YY X.ts rn) ((UL X.ts k rn:Nat)+δ))) us->Q (.ref D) H')
theorem Fs:ZC ["shelf","root","key"] ["shelf","root","key"] (Ze Mu):=Zp
theorem Da:ZC ["shelf","root","key"] ["shelf","root","key"] (Ze M9):=Zp
theorem Nm{jh ji:aj}{H H1:Hp}{X:YL}{lk D:aj}{c:Nat}{ls:jf}(R1:Zx jh ji H1 X lk c ls)(fr1:∀ b o,b≠lk->H b=some o->H1 b=some o)(nD:H1 D=none):H D=none:=by
 cases z:H D with
 | none=>rfl
 | some o=>
  by_cases y:D=lk
  ·rw [y,R1.sh.looks] at nD;cases nD
  ·rw [fr1 _ _ y z] at nD;cases nD
theorem Fu{gt:List KT}(F:Zj K "from_key" "from_key" Mu f fd)(DO:Z3 P w K mg base 11 "place_of" ["shelf","root","key"] (YZ gt jh ji CT CK))(DR:ZB P w K mg base 7 "row_at" ["shelf","root","at"] (Xp gt jh ji)):ZJ P w K mg base (XD P w) 12 f fd ["shelf","root","key"] (Z8 0 gt jh ji CT CK):=by
 refine F.kD Fs fun cdv A outer s H vs Q E hr h=>?_;obtain ⟨X,lk,c,ls,r,v,o,rfl,A0,few,q⟩:=h;refine ⟨_,ZU (Zg (Zh DR (hr.mono (by decide)) (WA (pv 0) (pv 1) (UR Wt DO hr (WA (pv 0) (pv 1) (pv 2)))))),?_⟩
 refine ⟨_,rfl,_,rfl,_,rfl,_,rfl,_,rfl,X,lk,c,ls,r,v,o,rfl,A0,fun k rn ek er jm H1 ls1 fr1 R1 l1=>?_⟩;subst er;refine ⟨X,lk,c,ls1,rn,_,rfl,R1,A0.wf,A0.low,by lia,jm,fun H2 D us ls2 fr2 R2 l2 nD hD ks=>?_⟩
 exact q k rn ek rfl jm H2 D us ls2 (fun b o n e=>fr2 b o n (fr1 b o n e)) R2 (by lia) (Nm R1 fr1 nD) hD (by rw [Int.add_zero];exact ks)
theorem ZKB{gt:List KT}(F:Zj K "before_key" "before_key" M9 f fd)(DO:Z3 P w K mg base 11 "place_of" ["shelf","root","key"] (YZ gt jh ji CT CK))(DR:ZB P w K mg base 7 "row_at" ["shelf","root","at"] (Xp gt jh ji)):ZJ P w K mg base (XD P w) 12 f fd ["shelf","root","key"] (Z8 (-1) gt jh ji CT CK):=by
 refine F.kD Da fun cdv A outer s H vs Q E hr h=>?_;obtain ⟨X,lk,c,ls,r,v,o,rfl,A0,few,q⟩:=h;refine ⟨_,ZU (Zg (Zh DR (hr.mono (by decide)) (WA (pv 0) (pv 1) (Zw Vp (UR Wt DO hr (WA (pv 0) (pv 1) (pv 2))) ZM)))),?_⟩
 refine ⟨_,rfl,_,rfl,_,rfl,_,rfl,_,rfl,X,lk,c,ls,r,v,o,rfl,A0,fun k rn ek er jm H1 ls1 fr1 R1 l1=>?_⟩;subst er;refine ⟨_,_,rfl,rfl,X,lk,c,ls1,rn,_,rfl,R1,A0.wf,A0.low,by lia,jm,fun H2 D us ls2 fr2 R2 l2 nD hD ks=>?_⟩
 exact q k rn ek rfl jm H2 D us ls2 (fun b o n e=>fr2 b o n (fr1 b o n e)) R2 (by lia) (Nm R1 fr1 nD) hD ks
def OG(ts:List ZS)(rn:Option Nat)(k1 k2:KT):Int:=if k1.lt k2=true then (UL ts k2 rn:Nat) - (UL ts k1 rn:Nat) else 0
inductive Yn(gt:List KT)(jh ji CT CK:aj)(vs:jf)(H:Hp)(Q:VK)(E:XK):Prop
 | mk (X:YL) (lk:aj) (c:Nat) (ls:jf) (r:Option Int) (v1 v2:V) (o1 o2:Option KT) (N1 N2:aj->Prop) (_:vs=[.ref X.S,YE r,v1,v2]) (_:Zx jh ji H X lk c ls) (_:WF gt X.ts) (_:∀ i,i<X.ts.length->(gd X.ts i).h<=60) (_:ls.length<=370000) (_:UA N1 H o1 v1) (_:UA N2 H o2 v2)
  (_:∀ x,r=some x->inT X.ts x=false->QG CT x E H) (_:US X.ts r=true->o1=none\/o2=none->∀ H',ZA H H'->E (.ref CK) none H')
  (_:∀(k1 k2:KT)(rn:Option Nat),o1=some k1->o2=some k2->r=Zy rn->(∀ i,rn=some i->i<X.ts.length)->∀(H':Hp)(ls':jf),(∀ b o,b≠lk->H b=some o->H' b=some o)->Zx jh ji H' X lk c ls'->ls'.length<=ls.length+122->Q (.int (OG X.ts rn k1 k2)) H')
theorem ZNd:ZC ["shelf","root","low","high"] ["shelf","root","low","high"] (Ze Kc):=Zp
theorem A8{gt:List KT}(F:Zj K "many_between" "many_between" Kc f fd)(DA:Z3 P w K mg base 8 "check_asked" ["shelf","root","key"] (YH jh ji CT CK))(DC:Z3 P w K mg base 7 "checked" ["thing"] (YN CK))(DH:ZB P w K mg base 7 "ahead" ["one","other"] Yo)(DO:Z3 P w K mg base 11 "place_of" ["shelf","root","key"] (YZ gt jh ji CT CK)):ZJ P w K mg base (XD P w) 12 f fd ["shelf","root","low","high"] (Yn gt jh ji CT CK):=by
 refine F.kD ZNd fun cdv A outer s H vs Q E hr h=>?_;obtain ⟨X,lk,c,ls,r,v1,v2,o1,o2,N1,N2,rfl,R,hw,low,few,h1,h2,no1,no2,q⟩:=h;have hr7:=hr.mono (show 7<=11 by decide)
 have hr8:=hr.mono (show 8<=11 by decide)
 refine ⟨_,ZR (X8 (UR Wt DA hr8 (WA (pv 0) (pv 1) (pv 2))))
  (ZR (X8 (UR Wt DC hr7 (ZG (pv 3) ZF)))
  (ZR (Z5 (VG (Y9 (Zh DH hr7 (ZG (pv 2) (ZG (pv 3) ZF))))) (ZU (Zg ZM)) Z7)
  (ZU (Zg (Zw Vp (UR Wt DO hr (WA (pv 0) (pv 1) (pv 3))) (UR Wt DO hr (WA (pv 0) (pv 1) (pv 2)))))))),?_⟩
 refine ⟨_,rfl,_,rfl,_,rfl,X,lk,c,ls,r,v1,N1,o1,rfl,R,h1,no1,fun gr on=>no2 gr (.inl on),fun gr go H1 s1=>?_⟩;refine ⟨_,rfl,v2,N2,o2,rfl,h2.mono (Yp.same s1),fun go2 H2 s2=>?_,fun on2 H2 s2=>no2 gr (.inr on2) H2 (s1.trans s2)⟩;obtain ⟨rn,rfl,jm⟩:=HG gr;obtain ⟨k1,rfl⟩:=vR.mp go;obtain ⟨k2,rfl⟩:=vR.mp go2;have s02:=s1.trans s2;obtain ⟨kv1,fk1⟩:=h1;obtain ⟨kv2,fk2⟩:=h2;refine ⟨_,rfl,_,rfl,v1,v2,k1,k2,rfl,kv1.mono (ZA.tups s02) _ _,kv2.mono (ZA.tups s02) _ _,fk1,fk2,fun H3 s3=>⟨_,rfl,?_⟩⟩;have s03:=s02.trans s3;have fin:=q k1 k2 rn rfl rfl rfl jm;unfold OG at fin
 cases e:k1.lt k2 with
 | false=>
  rw [e,aO zW] at fin;exact Z2 (fin H3 ls (fun b o _ e=>s03 b o e) (R.same s03) (by lia))
 | true=>
  rw [e,aP rfl] at fin;have inn:∀{x:Int},Zy rn=some x->inT X.ts x=false->False:=fun{x} ex hx=>by
   have:=Pz jm;rw [ex] at this;rw [show inT X.ts x=true from this] at hx;cases hx
  have noX:∀{H4:Hp}{ls4:jf}{v:V}{k:KT},Zx jh ji H4 X lk c ls4->ls4.length<=370061->ZD H4 k v->k.fits 3=true->QX gt jh ji CT CK H4 X lk c ls4 (Zy rn) v (some k) E:=fun{H4 ls4 v k} R4 f4 kv fk=>⟨R4,hw,low,by lia,⟨fun _=>False,kv,fk⟩,fun x ex hx=>(inn ex hx).elim,fun _ z=>by cases z⟩
  refine Zm ⟨_,rfl,_,rfl,_,rfl,X,lk,c,ls,Zy rn,v2,some k2,rfl,noX (R.same s03) (by lia) (kv2.mono (ZA.tups s03) _ _) fk2,fun k' rn' ek er hrn' H4 ls4 fr4 R4 l4=>?_⟩
  cases ek;have:=Pi er;subst this;have m34:Z1 H3 H4:=fun b xs e=>fr4 b _ (ZQ e (R.same s03).sh.looks) e;refine ⟨_,rfl,_,rfl,_,rfl,X,lk,c,ls4,Zy rn,v1,some k1,rfl,noX R4 (by lia) ((kv1.mono (ZA.tups s03) _ _).mono m34 _ _) fk1,fun k' rn' ek er hrn' H5 ls5 fr5 R5 l5=>?_⟩
  cases ek;have:=Pi er;subst this;exact ⟨_,_,rfl,rfl,fin H5 ls5 (fun b o n e=>fr5 b o n (fr4 b o n (s03 b o e))) R5 (by lia)⟩
theorem ZEl:aA "ValueError" = some (.type "ValueError"):=by decide +kernel
theorem GJ{X:Cx}{K:zZ}{e:Expr}{ta:TE}{f:Str}{pos:Pos}(he:PE X e ta)(hb:attributeBase e f X.env (aI e X.env)=aI e X.env)(hK:X.K=K:=by rfl):PE X (.Attribute e f pos) (G1 K ta f):=by
 subst hK;exact EN he hb
def Ot(K:zZ):R2:=fun x y H Q=>∃(p b:aj)(xs ys:List Bool),x=.ref p/\y=.ref b/\ZL K H p (xs.map V.bl)/\ZL K H b (ys.map V.bl)/\xs.length=ys.length/\Q (.bl ((yU xs.length).all fun j=>xs.getD j false==ys.getD j false)) H
theorem LR{X:Cx}{K:zZ}(hu:X.A.units<cLine)(hK:X.K=K:=by rfl):Yx X (aB .Eq) (Ot K):=by
 subst hK;exact ZLI hu
structure Cl(K:zZ)(mg:jc)(CB CT CK CP:aj):Prop where
 base:mg "TwigError" = some (.ref CB)
 n1:mg "NoTwig" = some (.ref CT)
 n2:mg "NoKey" = some (.ref CK)
 n3:mg "NoPlace" = some (.ref CP)
 ty:yE K (.ref CB)=some (.type "type")
 mB:yW K CB (.type "BaseException")=some true
 sub:∀ C,C=CT\/C=CK\/C=CP->yW K C (.ref CB)=some true/\X0 K C/\(∀ D,D=CT\/D=CK\/D=CP->yX K (.ref C) (.ref D)=some (decide (C=D)))/\yX K (.ref C) (.type "ValueError")=some true
 ne:CT≠CK/\CT≠CP/\CK≠CP
inductive Vw(gt:List KT)(jh ji CT CK:aj)(vs:jf)(H:Hp)(Q:VK)(E:XK):Prop
 | mk (wy:Int) (S r x y:V) (_:vs=[.int wy,S,r,x,y]) (_:wy=0->Z8 0 gt jh ji CT CK [S,r,x] H Q E) (_:wy=1->Z8 (-1) gt jh ji CT CK [S,r,x] H Q E) (_:wy≠0->wy≠1->Yn gt jh ji CT CK [S,r,x,y] H Q E)
abbrev Q6:List Str:=["_law_way","_law_shelf","_law_root_here","_law_one","_law_other"]
theorem CQ:ZC Q6 Q6 (Ze KW):=Zp
theorem Bp{gt:List KT}(F0:Zj K "_law_told" "_law_told" KW f fd)(DF:Z3 P w K mg base 12 "from_key" ["shelf","root","key"] (Z8 0 gt jh ji CT CK))(DB:Z3 P w K mg base 12 "before_key" ["shelf","root","key"] (Z8 (-1) gt jh ji CT CK))(DM:Z3 P w K mg base 12 "many_between" ["shelf","root","low","high"] (Yn gt jh ji CT CK)):ZJ P w K mg base (XD P w) 13 f fd Q6 (Vw gt jh ji CT CK):=by
 refine F0.kD CQ fun cdv A outer s H vs Q E hr h=>?_;obtain ⟨wy,S,r,x,y,rfl,k1,k2,k3⟩:=h;refine ⟨_,ZR (Z5 (V0 (MK (pv 0) ZM)) (ZU (Zg (UR Wt DF hr (WA (pv 1) (pv 2) (pv 3))))) Z7)
  (ZR (Z5 (V0 (MK (pv 0) ZM)) (ZU (Zg (UR Wt DB hr (WA (pv 1) (pv 2) (pv 3))))) Z7)
  (ZU (Zg (UR Wt DM hr (Vd (pv 1) (pv 2) (pv 3) (pv 4)))))),?_⟩
 refine ⟨_,rfl,_,_,rfl,rfl,_,rfl,We (fun c=>?_) (fun c=>⟨_,rfl,_,_,rfl,rfl,_,rfl,We (fun d=>?_) (fun d=>?_)⟩)⟩
 ·exact ⟨_,rfl,_,rfl,_,rfl,k1 (by simpa using c)⟩
 ·exact ⟨_,rfl,_,rfl,_,rfl,k2 (by simpa using d)⟩
 ·exact ⟨_,rfl,_,rfl,_,rfl,_,rfl,k3 (by simpa using c) (by simpa using d)⟩
inductive Xc(gt:List KT)(jh ji:aj)(vs:jf)(H:Hp)(Q:VK)(E:XK):Prop
 | mk (X:YL) (lk:aj) (c:Nat) (ls:jf) (wy:Int) (r:Option Int) (v1 v2:V) (N1 N2:aj->Prop) (o1 o2:Option KT) (_:vs=[.int wy,.ref X.S,YE r,v1,v2]) (_:Zx jh ji H X lk c ls) (_:WF gt X.ts) (_:∀ i,i<X.ts.length->(gd X.ts i).h<=60) (_:ls.length<=370000) (_:UA N1 H o1 v1) (_:UA N2 H o2 v2)
  (_:US X.ts r=true->o1=none\/wy≠0/\wy≠1/\o2=none)
  (_:∀ x,r=some x->inT X.ts x=false->∀ H' t,ZA H H'->H' t=some (.tup [.str "twig",.int x])->Q (.ref t) H') (_:US X.ts r=true->∀ H' t,ZA H H'->H' t=some (.tup [.str "spot",.bl true])->Q (.ref t) H')
abbrev FX:List Str:=["_law_way","_law_shelf","_law_root_here","_law_one","_law_other","e","_law_some"]
theorem WS:ZC FX Q6 (Ze ME):=Zp
theorem AZ{gt:List KT}(F0:Zj K "_law_refusal" "_law_refusal" ME f fd)(T:YF mg)(NT:XN P w K mg base "NoTwig" CT "number")(L:Cl K mg CB CT CK CP)(DW:Z3 P w K mg base 13 "_law_told" Q6 (Vw gt jh ji CT CK)):ZJ P w K mg base ZW 14 f fd Q6 (Xc gt jh ji):=by
 refine F0.ko WS fun cdv A outer s H vs Q E hr h=>?_;obtain ⟨X,lk,c,ls,wy,r,v1,v2,N1,N2,o1,o2,rfl,R,hw,low,few,h1,h2,bad,k1,k3⟩:=h;have nd:=WS.nd;have hu:=hr.units0;obtain ⟨g,gd',FC,bC,kC,mC⟩:=DW.ex;obtain ⟨fT,fdT,eT,_,_⟩:=NT.ex;refine ⟨_,ZR (AF (i:=5) FC hr rfl mC kC bC (fun E'=>Pa (pv 0) (pv 1) (pv 2) (pv 3) (pv 4)) rfl rfl rfl rfl L.base nd rfl rfl L.ty L.mB
   (fun ea E'=>ZR (Zk 6 nd (Yr (Vd (Z4 (r:=Oi K) NM rfl T.isi Wm (ZG (pv 5) (ZG (WN (v:=.ref CT) rfl L.n1 rfl) ZF))) (Z4 (r:=Oi K) NM rfl T.isi Wm (ZG (pv 5) (ZG (WN (v:=.ref CK) rfl L.n2 rfl) ZF)))
     (Z4 (r:=Oi K) NM rfl T.isi Wm (ZG (pv 5) (ZG (WN (v:=.ref CP) rfl L.n3 rfl) ZF))) (IC (Z4 (r:=Oi K) NM rfl T.isi Wm (ZG (pv 5) (ZG (Vb (v:=.ty "ValueError") rfl T.ValueError ZEl rfl) ZF)))))))
    (ZR (Z5 (Y8 (r:=Ot K) (LR hu) (pv 6) (Yr (Vd XV XV XV XV)) (YK _)) (ZU (Zg (Yq (ZG Xq (ZG (GJ (pv 5) (by rfl)) ZF))))) Z7)
    (ZR (Z5 (Y8 (r:=Ot K) (LR hu) (pv 6) (Yr (Vd XV XV XV XV)) (YK _)) (ZU (Zg (Yq (ZG Xq (ZG (GJ (pv 5) (by rfl)) ZF))))) Z7)
    (ZU (Zg (Yq (ZG Xq (ZG (VQ (r:=Ot K) (LR hu) (pv 6) (Yr (Vd XV XV XV XV)) (YK _)) ZF)))))))))
  (ZU (Zg (Yq (ZG Xq ZF)))),?_⟩
 obtain ⟨n1,n2,n3⟩:=L.ne;obtain ⟨sT,xT,kT,vT⟩:=L.sub CT (.inl rfl);obtain ⟨sK,xK,kK,vK⟩:=L.sub CK (.inr (.inl rfl));have nx:∀{C D:aj}{b:Option Bool},b=some (decide (C=D))->C≠D->b=some false:=fun e h=>by rw [e,aK h]
 have yx:∀{C:aj}{b:Option Bool},b=some (decide (C=C))->b=some true:=fun e=>by rw [e,aM rfl]
 have away:∀ k rn,o1=some k->r=Zy rn->(∀ i,rn=some i->i<X.ts.length)->(wy=0\/wy=1)->False:=fun k rn ek er jm w01=>by
  rcases bad (by rw [er];exact Pz jm) with z | z
  ·rw [z] at ek;cases ek
  ·rcases w01 with y | y
   ·exact z.1 y
   ·exact z.2.1 y
 refine ⟨_,rfl,_,rfl,_,rfl,_,rfl,_,rfl,(fun(tw:∀ x,r=some x->inT X.ts x=false->QG CT x _ H)(sp:US X.ts r=true->∀ H1,ZA H H1->_)=>⟨wy,_,_,_,_,rfl,fun w0=>⟨X,lk,c,ls,r,v1,o1,rfl,⟨R,hw,low,by lia,⟨N1,h1⟩,tw,fun gr on H1 s1=>sp gr H1 s1⟩,few,fun k rn ek er jm=>(away k rn ek er jm (.inl w0)).elim⟩,fun w1=>⟨X,lk,c,ls,r,v1,o1,rfl,⟨R,hw,low,by lia,⟨N1,h1⟩,tw,fun gr on H1 s1=>sp gr H1 s1⟩,few,fun k rn ek er jm=>(away k rn ek er jm (.inr w1)).elim⟩,fun w0 w1=>⟨X,lk,c,ls,r,v1,v2,o1,o2,N1,N2,rfl,R,hw,low,few,h1,h2,tw,fun gr _ H1 s1=>sp gr H1 s1,fun k1 k2 rn e1 e2 er jm=>?_⟩⟩) (fun x ex hx dx H1 s1 edx=>⟨CT,rfl,sT,fun ea hea=>?_⟩) (fun gr H1 s1=>⟨CK,rfl,sK,fun ea hea=>?_⟩)⟩
 ·rcases bad (by rw [er];exact Pz jm) with z | z
  ·rw [z] at e1;cases e1
  ·rw [z.2.2] at e2;cases e2
 ·have g1:=ZY hea (XO UF ea CT (some dx));have ee:upd H1 ea (XO UF ea CT (some dx)) ea=some (XO UF ea CT (some dx)):=ZP;have ix:Oq (upd H1 ea (XO UF ea CT (some dx))) ea CT:=Gn ee;have s01:=s1.trans g1;refine ⟨_,rfl,ea,CT,_,true,rfl,ix,xT,rfl,(yx (kT _ (.inl rfl))),_,rfl,ea,CT,_,false,rfl,ix,xT,rfl,(nx (kT _ (.inr (.inl rfl))) n1),_,rfl,ea,CT,_,false,rfl,ix,xT,rfl,(nx (kT _ (.inr (.inr rfl))) n2),_,rfl,ea,CT,_,true,rfl,ix,xT,rfl,vT,_,rfl,Z0,fun q nq=>?_⟩;have g3:=ZY nq (.lst ([true,false,false,false].map V.bl));have eq:=ZP (H:=upd H1 ea (XO UF ea CT (some dx))) (a:=q) (o:=.lst ([true,false,false,false].map V.bl));refine ⟨_,rfl,Z0,fun q2 nq2=>?_⟩;have g4:=ZY nq2 (.lst ([true,false,false,false].map V.bl));refine ⟨q,q2,[true,false,false,false],[true,false,false,false],rfl,rfl,ZL.of (g4 _ _ eq),ZL.of ZP,rfl,_,rfl,?_⟩;refine Z2 ⟨_,rfl,UF,ea,CT,dx,_,_,fT,rfl,g4 _ _ (g3 _ _ ee),g4 _ _ (g3 _ _ (g1 _ _ edx)),eT,rfl,Z0,fun t nt=>?_⟩;exact k1 x ex hx _ t (((s01.trans g3).trans g4).trans (ZY nt _)) ZP
 ·have g1:=ZY hea (XO UF ea CK none);have ee:upd H1 ea (XO UF ea CK none) ea=some (XO UF ea CK none):=ZP;have ix:Oq (upd H1 ea (XO UF ea CK none)) ea CK:=Gn ee;have s01:=s1.trans g1;refine ⟨_,rfl,ea,CK,_,false,rfl,ix,xK,rfl,(nx (kK _ (.inl rfl)) (Ne.symm n1)),_,rfl,ea,CK,_,true,rfl,ix,xK,rfl,(yx (kK _ (.inr (.inl rfl)))),_,rfl,ea,CK,_,false,rfl,ix,xK,rfl,(nx (kK _ (.inr (.inr rfl))) n3),_,rfl,ea,CK,_,true,rfl,ix,xK,rfl,vK,_,rfl,Z0,fun q nq=>?_⟩;have g3:=ZY nq (.lst ([false,true,false,false].map V.bl));have eq:=ZP (H:=upd H1 ea (XO UF ea CK none)) (a:=q) (o:=.lst ([false,true,false,false].map V.bl));refine ⟨_,rfl,Z0,fun q2 nq2=>?_⟩;have g4:=ZY nq2 (.lst ([true,false,false,false].map V.bl));refine ⟨q,q2,[false,true,false,false],[true,false,false,false],rfl,rfl,ZL.of (g4 _ _ eq),ZL.of ZP,rfl,_,rfl,?_⟩;refine Zm ⟨_,rfl,Z0,fun q3 nq3=>?_⟩;have g5:=ZY nq3 (.lst ([false,false,true,false].map V.bl));refine ⟨q,q3,[false,true,false,false],[false,false,true,false],rfl,rfl,ZL.of (g5 _ _ (g4 _ _ eq)),ZL.of ZP,rfl,_,rfl,?_⟩;refine Zm ⟨_,rfl,Z0,fun q4 nq4=>?_⟩;have g6:=ZY nq4 (.lst ([false,true,false,false].map V.bl));refine ⟨q,q4,[false,true,false,false],[false,true,false,false],rfl,rfl,ZL.of (g6 _ _ (g5 _ _ (g4 _ _ eq))),ZL.of ZP,rfl,Z0,fun t nt=>?_⟩;exact k3 gr _ t (((((s01.trans g3).trans g4).trans g5).trans g6).trans (ZY nt _)) ZP
def Ua(k1 k2:KT)(r:Zz):Bool:=!r.1.lt k1&&r.1.lt k2
theorem JQ(k1 k2:KT):∀ rs:List Zz,k1.lt k2=true->XW (rs.map (·.1)) k2=XW (rs.map (·.1)) k1+(rs.filter (Ua k1 k2)).length
 | [],_=>rfl
 | r :: rs,h=>by
  have ih:=JQ k1 k2 rs h;unfold XW at ih ⊢;rw [zF,vZ,vZ,vZ];unfold Ua at ih ⊢
  cases e1:r.1.lt k1 with
  | true=>
   rw [lt_trans' _ _ _ e1 h];simp only [vN,wS,if_true,xX,if_false,zI]
   lia
  | false=>
   cases e2:r.1.lt k2 with
   | true=>
    simp only [Bool.not_false,Bool.and_self,if_true,xX,if_false,zI]
    lia
   | false=>
    simp only [vL,xX,if_false];exact ih
theorem Ds{k1 k2:KT}(h:k1.lt k2=false)(rs:List Zz):rs.filter (Ua k1 k2)=[]:=vS.mpr fun r _=>by
 unfold Ua
 cases e1:r.1.lt k1 with
 | true=>exact zW
 | false=>
  cases e2:r.1.lt k2 with
  | false=>exact zW
  | true=>rw [Kf e1 e2] at h;cases h
theorem ZOB(ts:List ZS)(rn:Option Nat)(k1 k2:KT):OG ts rn k1 k2=((((YY ts rn).filter (Ua k1 k2)).length:Nat):Int):=by
 unfold OG
 cases e:k1.lt k2 with
 | true=>
  rw [aP rfl,Ni,Ni,JQ k1 k2 _ e]
  lia
 | false=>rw [aO zW,Ds e];rfl
inductive XY(vs:jf)(H:Hp)(Q:VK)(E:XK):Prop
 | mk (l:aj) (us:jf) (rs:List Zz) (v1 v2:V) (k1 k2:KT) (_:vs=[.ref l,v1,v2]) (_:H l=some (.lst us)) (_:KeysAt H (Zv rs) us) (_:∀ r∈rs,r.fit) (_:us.length<=60) (_:ZD H k1 v1) (_:ZD H k2 v2) (_:k1.fits 3=true) (_:k2.fits 3=true) (_:∀ H',ZA H H'->Q (.int (((rs.filter (Ua k1 k2)).length:Nat):Int)) H')
abbrev ZKc:List Str:=["_law_rows","_law_low","_law_high","_law_found","_law_row"]
theorem WV:ZC ZKc ["_law_rows","_law_low","_law_high"] (Ze KB):=Zp
inductive Cr(l D:aj)(v1 v2:V)(k1 k2:KT)(rs:List Zz)(H:Hp)(i:Nat)(σ:L2.St)(H':Hp):Prop
 | mk (ys:jf) (x4:jg) (_:σ=[some (.ref l),some v1,some v2,some (.ref D),x4]) (_:ZA H H') (_:H' D=some (.lst ys)) (_:ys.length=((rs.take i).filter (Ua k1 k2)).length)
theorem Dr(F:Zj K "_law_between" "_law_between" KB f fd)(T:YF mg)(DR:ZB P w K mg base 6 "_law_rank" ["_law_spot"] (Yh 5)):ZJ P w K mg base ZW 7 f fd ["_law_rows","_law_low","_law_high"] XY:=by
 refine F.ko WV fun cdv A outer s H vs Q E hr h=>?_;obtain ⟨l,us,rs,v1,v2,k1,k2,rfl,hl,ks,fit,l60,kv1,kv2,fk1,fk2,q⟩:=h;have nd:=WV.nd;refine ⟨_,ZR (Zk 3 nd (Yr ZF))
  (ZR (Vf PassesOwn.never rfl (VE (pv 0)) (Xo 4 nd)
   (ZU (Z5 (PW.pt (ON (Y8 (Bw hr) (Zh DR hr (ZG (pv 1) ZF)) (Zh DR hr (ZG (Zn (r:=Xk K) Zi (pv 4) ZM (fun _ _=>rfl)) ZF)) (YK _)) (Ol (Y8 (KM hr) (Zh DR hr (ZG (Zn (r:=Xk K) Zi (pv 4) ZM (fun _ _=>rfl)) ZF)) (Zh DR hr (ZG (pv 2) ZF)) (YK _)))))
    (ZU (X8 (U0 yC wZ wY QD (pv 3) (ZG (pv 4) ZF)))) Z7)))
  (ZU (Zg (Z4 Xu rfl T.len Xl (ZG (pv 3) ZF))))),?_⟩
 have lr:us.length=rs.length:=by have:=ks.length;rw [<-this];exact zX _
 have d1:=Va k1 3 fk1;have d2:=Va k2 3 fk2;have e1:=Qi k1;have e2:=Qi k2;refine ⟨Z0,fun D nD=>?_⟩;have g:=ZY nD (.lst []);have eD:=ZP (H:=H) (a:=D) (o:=.lst []);generalize upd H D (.lst [])=H1 at g eD ⊢;refine ⟨_,rfl,l,rfl,⟨us,ZL.of (g _ _ hl)⟩,Pb (K:=K) (a:=l) (xs:=us) (Cr l D v1 v2 k1 k2 rs H) ⟨[],_,rfl,g,eD,rfl⟩ (fun i σ H' _ hP=>by obtain ⟨_,_,_,s,_,_⟩:=hP;exact ZL.of (s _ _ hl)) ?_ ?_⟩
 ·rintro i u σ H2 hu ⟨ys,x4,rfl,s2,hD,ly⟩;obtain ⟨a,vk,vv,er,rfl,ea,kk,_⟩:=row_at ks hu;have ff:=(fit _ (zN er)).1;have df:=Va _ 3 ff;have ef:=Qi (rs.getD i rd).1;have ft:=Oc (Ua k1 k2) er;have lt:=uY (Ua k1 k2) (rs.take i);rw [xH] at lt;refine ⟨_,rfl,v1,k1,3,rfl,kv1.mono (ZA.tups s2) _ _,fk1,by lia,fun u1 H3 ku1 s3=>?_⟩
  have s03:=s2.trans s3;refine ⟨_,rfl,a,_,_,vk,rfl,rfl,Zo.of (s03 _ _ ea),rfl,vk,_,3,rfl,kk.mono (ZA.tups s03) _ _,ff,by lia,fun u2 H4 ku2 s4=>?_⟩
  have s04:=s03.trans s4;refine ⟨_,_,ku1.mono (ZA.tups s4) _ _,ku2,OJ _ _,by lia,_,rfl,?_⟩
  rw [OT];have hD4:=s4 _ _ (s3 _ _ hD)
  cases c1:(rs.getD i rd).1.lt k1 with
  | true=>
   refine Zm (Zm ⟨ys,_,rfl,s04,hD4,?_⟩);rw [ft,aO (by unfold Ua;rw [c1];exact zW),yO]
   exact ly
  | false=>
   refine Z2 ⟨_,rfl,a,_,_,vk,rfl,rfl,Zo.of (s04 _ _ ea),rfl,vk,_,3,rfl,kk.mono (ZA.tups s04) _ _,ff,by lia,fun u3 H5 ku3 s5=>?_⟩
   have s05:=s04.trans s5;refine ⟨_,rfl,v2,k2,3,rfl,kv2.mono (ZA.tups s05) _ _,fk2,by lia,fun u4 H6 ku4 s6=>?_⟩
   have s06:=s05.trans s6;refine ⟨_,_,ku3.mono (ZA.tups s6) _ _,ku4,OJ _ _,by lia,_,rfl,?_⟩
   rw [OT];have hD6:=s6 _ _ (s5 _ _ hD4)
   cases c2:(rs.getD i rd).1.lt k2 with
   | false=>
    refine Zm ⟨ys,_,rfl,s06,hD6,?_⟩;rw [ft,aO (by unfold Ua;rw [c2,vL];exact zW),yO]
    exact ly
   | true=>
    refine Z2 ⟨_,rfl,.inl ⟨rfl,_,ZL.of hD6⟩,_,rfl,D,ys,_,rfl,rfl,hD6,nn (by lia),ys++[.ref a],_,rfl,UO s06 nD,ZP,?_⟩
    rw [ft,aP (by unfold Ua;rw [c1,c2];rfl),zU,zU,ly]
    rfl
 ·rintro σ H2 ⟨ys,x4,rfl,s2,hD,ly⟩;rw [yR (by lia)] at ly
  refine ⟨_,rfl,D,ys,rfl,.inl (ZL.of hD),?_⟩;rw [ly];exact q H2 s2
theorem D8{r:Zz}(h:r.fit):(QI r).wide 4=true:=by
 unfold QI;rw [KT.wide,NG];have h1:=MC _ _ h.1;have h2:=MC _ _ h.2;simp [h1,h2]
theorem Ai{gt:List KT}{ts:List ZS}(hw:WF gt ts){rn:Option Nat}(h:∀ i,rn=some i->i<ts.length):(∀ r∈YY ts rn,r.fit)/\((YY ts rn).map (·.1)).Pairwise fun a b=>a.lt b=true:=by
 cases rn with
 | none=>exact ⟨fun r hr=>by simp [YY] at hr,.nil⟩
 | some i=>exact ⟨(hw i _ (XI (h i rfl))).inn,(hw i _ (XI (h i rfl))).up⟩
structure Ud(gt:List KT)(jh ji:aj)(H:Hp)(X:YL)(lk:aj)(c:Nat)(ls:jf)(rn:Option Nat)(l:aj)(us:jf):Prop where
 sh:Zx jh ji H X lk c ls
 wf:WF gt X.ts
 low:∀ i,i<X.ts.length->QU (gd X.ts i)
 few:ls.length<=360000
 rt:∀ i,rn=some i->i<X.ts.length
 hl:H l=some (.lst us)
 llk:l≠lk
 ks:KeysAt H (Zv (YY X.ts rn)) us
theorem Ud.go{gt:List KT}{jh ji:aj}{H H':Hp}{X:YL}{lk:aj}{c:Nat}{ls ls':jf}{rn:Option Nat}{l:aj}{us:jf}(h:Ud gt jh ji H X lk c ls rn l us)(sh:Zx jh ji H' X lk c ls')(few:ls'.length<=360000)(hl:∀ o,H l=some o->H' l=some o)(m:Z1 H H'):Ud gt jh ji H' X lk c ls' rn l us:=
 ⟨sh,h.wf,h.low,few,h.rt,hl _ h.hl,h.llk,h.ks.mono m _ _⟩
theorem Ud.len{gt:List KT}{jh ji:aj}{H:Hp}{X:YL}{lk:aj}{c:Nat}{ls:jf}{rn:Option Nat}{l:aj}{us:jf}(h:Ud gt jh ji H X lk c ls rn l us):us.length=(YY X.ts rn).length/\us.length<=60:=by
 have:=h.ks.length;unfold Zv at this;rw [zX] at this;refine ⟨this.symm,?_⟩
 cases rn with
 | none=>rw [<-this];exact zG _
 | some i=>rw [<-this];exact (h.low i (h.rt i rfl)).2
theorem Ud.same{gt:List KT}{jh ji:aj}{H H':Hp}{X:YL}{lk:aj}{c:Nat}{ls:jf}{rn:Option Nat}{l:aj}{us:jf}(h:Ud gt jh ji H X lk c ls rn l us)(s:ZA H H'):Ud gt jh ji H' X lk c ls rn l us:=h.go (h.sh.same s) h.few (fun o e=>s _ _ e) (ZA.tups s)
theorem Zx.newl{jh ji:aj}{H H1:Hp}{X:YL}{lk D:aj}{c:Nat}{ls ls1 o o':jf}(R0:Zx jh ji H X lk c ls)(R:Zx jh ji H1 X lk c ls1)(nD:H D=vP)(hD:H1 D=some (.lst o)):Zx jh ji (upd H1 D (.lst o')) X lk c ls1:=by
 have s:ZE D H1 (upd H1 D (.lst o')):=(ZE.refl D H1).upd;obtain ⟨⟨dS,hS⟩,hd,_⟩:=id R.sh;refine R.but s ?_ (fun i hi=>?_) (s.tups hD)
 ·rintro (z | z | z)
  ·exact ZQ hD hS (by intro z;cases z) z
  ·exact ZQ hD hd (by intro z;cases z) z
  ·rw [z,R0.sh.looks] at nD;cases nD
 ·obtain ⟨dy,hy⟩:=(R.tw i hi).tw.self;obtain ⟨us',e1,_⟩:=(R0.tw i hi).things;exact ⟨ZQ hy hD,Za (R0.tw i hi).tw.above nD,Za e1 nD⟩
theorem IN(rs:List Zz)(c:Nat):Vu rs (c:Int)=(rs.drop c).take 1:=by
 unfold Vu;rcases zC c rs.length with h | h
 ·rw [aP ⟨by lia,by lia⟩,vW,uX h,List.take_succ_cons,vJ,zV,zT h]
  rfl
 ·rw [aO (by lia),List.drop_eq_nil_of_le h]
  rfl
theorem BD{rs:List Zz}{c:Nat}(h:c<=rs.length):Vu rs ((c:Int) + -1)=(rs.take c).drop (c - 1):=by
 cases c with
 | zero=>
  unfold Vu;rw [aO (by lia)]
  rfl
 | succ n=>
  have e:(((n+1:Nat):Int) + -1)=((n:Nat):Int):=by lia
  rw [e,IN,Nat.add_sub_cancel,List.drop_take,rM]
theorem Hj(k:KT):∀ rs:List Zz,(rs.map (·.1)).Pairwise (fun a b=>a.lt b=true)->rs.filter (fun r=>r.1.lt k)=rs.take (XW (rs.map (·.1)) k)
 | [],_=>rfl
 | r :: rs,h=>by
  obtain ⟨h1,h2⟩:=xL.mp (show (r.1 :: rs.map (·.1)).Pairwise _ from h);have ih:=Hj k rs h2
  cases e:r.1.lt k with
  | true=>
   have e2:XW ((r :: rs).map (·.1)) k=XW (rs.map (·.1)) k+1:=by unfold XW;rw [zF,sH (p:=fun x:KT=>x.lt k) e,zI]
   rw [sH (p:=fun r:Zz=>r.1.lt k) e,e2,List.take_succ_cons,ih]
  | false=>
   have no:∀ q∈rs,q.1.lt k=false:=fun q hq=>by
    cases z:q.1.lt k with
    | false=>rfl
    | true=>rw [lt_trans' _ _ _ (h1 _ (zJ.mpr ⟨q,hq,rfl⟩)) z] at e;cases e
   have e2:XW ((r :: rs).map (·.1)) k=0:=HU fun x hx=>by
    rcases zB.mp (show x∈r.1 :: rs.map (·.1) from hx) with z | z
    ·rw [z];exact e
    ·obtain ⟨q,hq,rfl⟩:=zJ.mp z;exact no q hq
   rw [e2,vJ];refine vS.mpr fun q hq=>?_;rcases zB.mp hq with z | z
   ·rw [z,e];exact zW
   ·rw [no q z];exact zW
theorem At{xs:jf}:U9 xs (some (-1)) none=xs.drop (xs.length - 1):=by
 unfold U9;have e:HT.sIx xs.length 0 (some (-1))=xs.length - 1:=by
  show (if (-1:Int)<0 then ((-1:Int)+(xs.length:Int)).toNat else min (-1:Int).toNat xs.length)=_
  rw [aP (by decide)]
  lia
 rw [e,HT.sIx_none];exact yR (by rw [uL];exact zY _)
structure UD(gt:List KT)(jh ji:aj)(H H':Hp)(X:YL)(lk:aj)(c:Nat)(ls':jf)(rn:Option Nat)(l:aj)(us:jf)(n:Nat):Prop where
 ask:Ud gt jh ji H' X lk c ls' rn l us
 fr:∀ b o,b≠lk->H b=some o->H' b=some o
 le:ls'.length<=n
theorem UD.same{gt:List KT}{jh ji:aj}{H H' H2:Hp}{X:YL}{lk:aj}{c:Nat}{ls':jf}{rn:Option Nat}{l:aj}{us:jf}{n:Nat}(h:UD gt jh ji H H' X lk c ls' rn l us n)(s:ZA H' H2):UD gt jh ji H H2 X lk c ls' rn l us n:=⟨h.ask.same s,fun b o a e=>s b o (h.fr b o a e),h.le⟩
theorem UD.read{gt:List KT}{jh ji:aj}{H H' H2:Hp}{X:YL}{lk:aj}{c:Nat}{ls' ls2:jf}{rn:Option Nat}{l:aj}{us:jf}{n m:Nat}(h:UD gt jh ji H H' X lk c ls' rn l us n)(fr:∀ b o,b≠lk->H' b=some o->H2 b=some o)(R:Zx jh ji H2 X lk c ls2)(l2:ls2.length<=ls'.length+122)(m1:n+122<=m)(m2:m<=360000):UD gt jh ji H H2 X lk c ls2 rn l us m:=
 have:=h.le
 ⟨h.ask.go R (by lia) (fun o e=>fr _ _ h.ask.llk e) (fun b xs e=>fr b _ (ZQ e h.ask.sh.sh.looks) e),fun b o a e=>fr b o a (h.fr b o a e),by lia⟩
theorem UD.clr{gt:List KT}{jh ji:aj}{H H':Hp}{X:YL}{lk D:aj}{c:Nat}{ls ls' o o':jf}{rn:Option Nat}{l:aj}{us:jf}{n:Nat}(h:UD gt jh ji H H' X lk c ls' rn l us n)(A0:Ud gt jh ji H X lk c ls rn l us)(nD:H D=none)(hD:H' D=some (.lst o)):UD gt jh ji H (upd H' D (.lst o')) X lk c ls' rn l us n:=
 have s:ZE D H' (upd H' D (.lst o')):=(ZE.refl D H').upd
 ⟨h.ask.go (A0.sh.newl h.ask.sh nD hD) h.ask.few (fun o e=>s _ _ e (Za A0.hl nD)) (s.tups hD),fun b o a e=>s b o (h.fr b o a e) (Za e nD),h.le⟩
inductive Xw(gt:List KT)(jh ji:aj)(vs:jf)(H:Hp)(Q:VK)(E:XK):Prop
 | mk (X:YL) (lk:aj) (c:Nat) (ls:jf) (rn:Option Nat) (l:aj) (us:jf) (v1 v2:V) (k1 k2:KT) (_:vs=[.ref X.S,YE (Zy rn),.ref l,v1,v2]) (_:Ud gt jh ji H X lk c ls rn l us) (_:ls.length<=350000) (_:ZD H k1 v1) (_:ZD H k2 v2) (_:k1.fits 3=true) (_:k2.fits 3=true)
  (_:∀(H':Hp)(ls':jf),(∀ b o,b≠lk->H b=some o->H' b=some o)->Zx jh ji H' X lk c ls'->ls'.length<=ls.length+1220->Q (.bl true) H')
abbrev ZOm:List Str:=["_law_shelf","_law_root_here","_law_rows","_law_spot","_law_other","_law_lesser","_law_turn","_law_first","_law_last","_law_low","_law_high"]
abbrev O1:List Str:=["_law_shelf","_law_root_here","_law_rows","_law_spot","_law_other"]
theorem V7:ZC ZOm O1 (Ze MZ):=Zp
inductive AtL(gt:List KT)(jh ji:aj)(H:Hp)(X:YL)(lk:aj)(c:Nat)(rn:Option Nat)(l:aj)(us:jf)(v1 v2:V)(k1:KT)(E:aj)(n i:Nat)(σ:L2.St)(H':Hp):Prop
 | mk (es ls':jf) (x6 x7 x8 x9 x10:jg) (_:σ=[some (.ref X.S),some (YE (Zy rn)),some (.ref l),some v1,some v2,some (.ref E),x6,x7,x8,x9,x10]) (_:UD gt jh ji H H' X lk c ls' rn l us (n+610 * i)) (_:H' E=some (.lst es)) (_:KeysAt H' (Zv ((YY X.ts rn).filter fun r=>r.1.lt k1)) es)
inductive AuL(gt:List KT)(jh ji:aj)(H:Hp)(X:YL)(lk:aj)(c:Nat)(rn:Option Nat)(l:aj)(us:jf)(v1 v2:V)(E:aj)(n i:Nat)(σ:L2.St)(H':Hp):Prop
 | mk (ls':jf) (x6 x7 x8 x9 x10:jg) (_:σ=[some (.ref X.S),some (YE (Zy rn)),some (.ref l),some v1,some v2,some (.ref E),x6,x7,x8,x9,x10]) (_:UD gt jh ji H H' X lk c ls' rn l us (n+122 * i))
theorem Ey{gt:List KT}(F0:Zj K "_law_asked" "_law_asked" MZ f fd)(T:YF mg)(DF:Z3 P w K mg base 12 "from_key" ["shelf","root","key"] (Z8 0 gt jh ji CT CK))(DB:Z3 P w K mg base 12 "before_key" ["shelf","root","key"] (Z8 (-1) gt jh ji CT CK))(DM:Z3 P w K mg base 12 "many_between" ["shelf","root","low","high"] (Yn gt jh ji CT CK))(DR:ZB P w K mg base 6 "_law_rank" ["_law_spot"] (Yh 5))(DA:ZB P w K mg base 7 "_law_alike" ["_law_found","_law_due"] (Yc 6))(DL:ZB P w K mg base 8 "_law_rows_alike" ["_law_found","_law_due"] WI)(DW:ZB P w K mg base 7 "_law_between" ["_law_rows","_law_low","_law_high"] XY):
  ZJ P w K mg base ZW 13 f fd O1 (Xw gt jh ji):=by
 refine F0.ko V7 fun cdv A outer s H vs Q E hr h=>?_;obtain ⟨X,lk,c,ls,rn,l,us,v1,v2,k1,k2,rfl,A0,few,kv1,kv2,fk1,fk2,q⟩:=h;have nd:=V7.nd;have hr6:=hr.mono (show 6<=12 by decide)
 have hr7:=hr.mono (show 7<=12 by decide)
 have hr8:=hr.mono (show 8<=12 by decide)
 refine ⟨_,ZR (M4 (i:=5) [3] ["_law_spot"] nd rfl rfl rfl (VE (pv 2)) (fun _ _ _ _ _=>Ki (Y8 (KM hr6) (Zh DR hr6 (ZG (Zn (r:=Xk K) Zi (pv 0) ZM (fun _ _=>rfl)) ZF)) (Zh DR hr6 (ZG (pv 1) ZF)) (YK _))) (fun _ _ _ _ _=>pv 0) ⟨rfl,.inl rfl,rfl,trivial⟩)
  (ZR (Vf PassesOwn.never rfl (Qw rfl T.range (ZG ZM ZF)) (Xo 6 nd)
   (ZR (Zk 7 nd (Ld DF hr (WA (pv 0) (pv 1) (pv 3))))
   (ZR (Zk 8 nd (Ld DB hr (WA (pv 0) (pv 1) (pv 3))))
   (ZR (Z5 (PW.pt (PY (VG (Y9 (Zh DL hr8 (ZG (pv 7) (ZG (N0 Nk (pv 2) (P1 (Z4 Xu rfl T.len Xl (ZG (pv 5) ZF))) (P1 (Zw WP (Z4 Xu rfl T.len Xl (ZG (pv 5) ZF)) ZM))) ZF))))) (Pf (VG (Y9 (Zh DL hr8 (ZG (pv 8) (ZG (N0 Nk (pv 5) (P1 (Py P8 ZM)) Jl) ZF)))))))) (ZU (Zg XV)) Z7)
   (ZR (X8 (M6 yC qU qT IS (pv 7)))
   (ZR (X8 (M6 yC qU qT IS (pv 8)))
   (ZU (Vf PassesOwn.never rfl (VE (Yr (WA (Yq (ZG (pv 3) (ZG (pv 4) ZF))) (Yq (ZG (pv 4) (ZG (pv 3) ZF))) (Yq (ZG (pv 3) (ZG (pv 3) ZF)))))) (Oh rfl (QA (Xo 9 nd) (QA (Xo 10 nd) Ob)))
    (ZU (Z5 (VG (Y9 (Zh DA hr7 (ZG (Ld DM hr (Vd (pv 0) (pv 1) (pv 9) (pv 10))) (ZG (Zh DW hr7 (WA (pv 2) (pv 9) (pv 10))) ZF))))) (ZU (Zg XV)) Z7))))))))))
  (ZU (Zg XV))),?_⟩
 obtain ⟨lu,l60⟩:=A0.len;obtain ⟨rfit,rup⟩:=Ai A0.wf A0.rt;have low:∀ i,i<X.ts.length->(gd X.ts i).h<=60:=fun i hi=>(A0.low i hi).1;have inn:∀{x:Int},Zy rn=some x->inT X.ts x=false->False:=fun{x} ex hx=>by
  have:=Pz A0.rt;rw [ex] at this;rw [show inT X.ts x=true from this] at hx;cases hx
 have nr:∀{δ:Int}{H1:Hp}{ls1:jf}{n:Nat}{Q1:VK},UD gt jh ji H H1 X lk c ls1 rn l us n->n<=360000->(∀(H2:Hp)(D:aj)(jH ls2:jf),(∀ b o,b≠lk->H1 b=some o->H2 b=some o)->Zx jh ji H2 X lk c ls2->ls2.length<=ls1.length+122->H1 D=none->H2 D=some (.lst jH)->KeysAt H2 (Zv (Vu (YY X.ts rn) ((UL X.ts k1 rn:Nat)+δ))) jH->Q1 (.ref D) H2)->Z8 δ gt jh ji CT CK ([.ref X.S,YE (Zy rn),v1]++[]) H1 Q1 E0:=fun{δ H1 ls1 n Q1} r1 hn hq=>by
  have le:=r1.le;have m:Z1 H H1:=fun b xs e=>r1.fr b _ (ZQ e A0.sh.sh.looks) e;refine ⟨X,lk,c,ls1,Zy rn,v1,some k1,rfl,⟨r1.ask.sh,A0.wf,low,by lia,⟨fun _=>False,kv1.mono m _ _,fk1⟩,fun x ex hx=>(inn ex hx).elim,fun _ z=>by cases z⟩,by lia,fun k' rn' ek er jm H2 D jH ls2 fr2 R2 l2 nD hD kD=>?_⟩
  cases ek;have:=Pi er;subst this;exact hq H2 D jH ls2 fr2 R2 l2 nD hD kD
 have mb:∀{H1:Hp}{ls1:jf}{n:Nat}{Q1:VK}{w1 w2:V}{j1 j2:KT},UD gt jh ji H H1 X lk c ls1 rn l us n->n<=360000->ZD H1 j1 w1->ZD H1 j2 w2->j1.fits 3=true->j2.fits 3=true->(∀(H2:Hp)(ls2:jf),(∀ b o,b≠lk->H1 b=some o->H2 b=some o)->Zx jh ji H2 X lk c ls2->ls2.length<=ls1.length+122->Q1 (.int (OG X.ts rn j1 j2)) H2)->Yn gt jh ji CT CK ([.ref X.S,YE (Zy rn),w1,w2]++[]) H1 Q1 E0:=fun{H1 ls1 n Q1 w1 w2 j1 j2} r1 hn kw1 kw2 fj1 fj2 hq=>by
  have le:=r1.le;refine ⟨X,lk,c,ls1,Zy rn,w1,w2,some j1,some j2,fun _=>False,fun _=>False,rfl,r1.ask.sh,A0.wf,low,by lia,⟨kw1,fj1⟩,⟨kw2,fj2⟩,fun x ex hx=>(inn ex hx).elim,fun _ z=>(by rcases z with z | z <;> cases z),fun k' k'' rn' e1 e2 er jm H2 ls2 fr2 R2 l2=>?_⟩
  cases e1;cases e2;have:=Pi er;subst this;exact hq H2 ls2 fr2 R2 l2
 have kr:=A0.ks;have dk:=Va k1 3 fk1;refine ⟨_,rfl,l,rfl,⟨us,ZL.of A0.hl⟩,ML (n:=us.length) (fun i z=>us[i]? = some z) (fun i=>((YY X.ts rn).getD i rd).1.lt k1) (fun E i ys H3=>ZA H H3/\H E=none/\KeysAt H3 (Zv (((YY X.ts rn).take i).filter fun r=>r.1.lt k1)) ys) (XM (by lia))
  (fun E i ys H3 hi hP=>⟨us,us[i],ZL.of (hP.1 _ _ A0.hl),by simp [hi]⟩) (fun E i ys H3 z H4 hi hP hy=>⟨hy.1,hy.2 us (ZL.of (hP.1 _ _ A0.hl))⟩) (fun E ys H3 hP=>⟨us,ZL.of (hP.1 _ _ A0.hl),zY _⟩)
  (fun E hE=>⟨ZY hE _,hE,.nil⟩) (fun E i ys H3 z eE hi hz hP B hB=>?_) (fun E i ys H3 z eE hi hz hk hP B hB=>?_) (fun E i ys H3 eE hi hk hP=>?_) (fun E es H1 hE hP=>?_)⟩
 ·obtain ⟨s3,nE,ly⟩:=hP;obtain ⟨a,vk,vv,er,rfl,ea,kk1,kk2⟩:=row_at kr hz;have ff:=(rfit _ (zN er)).1;have df:=Va _ 3 ff;refine ⟨_,rfl,a,_,_,vk,rfl,rfl,Zo.of (s3 _ _ ea),rfl,vk,_,3,rfl,kk1.mono (ZA.tups s3) _ _,ff,by lia,fun u1 H4 ku1 s4=>?_⟩
  refine ⟨_,rfl,v1,k1,3,rfl,kv1.mono (ZA.tups (s3.trans s4)) _ _,fk1,by lia,fun u2 H5 ku2 s5=>?_⟩
  have d1:=Qi ((YY X.ts rn).getD i rd).1;refine ⟨_,_,ku1.mono (ZA.tups s5) _ _,ku2,OJ _ _,by lia,_,rfl,?_⟩
  rw [OT];exact hB H5 ((s4.trans s5) _ _ eE) ⟨s3.trans (s4.trans s5),nE,ly.mono (ZA.tups (s4.trans s5)) _ _⟩
 ·obtain ⟨s3,nE,ly⟩:=hP;obtain ⟨t,et,kt⟩:=kr.get hz;obtain ⟨a,vk,vv,er,rfl,ea,kk1,kk2⟩:=row_at kr hz;unfold Zv at et;rw [zL,er] at et;cases et;have tE:Z1 H3 (upd H3 E (.lst (ys++[.ref a]))):=(ZE.refl E H3).upd.tups eE;refine ⟨_,rfl,hB _ H3 eE ⟨UO s3 nE,nE,?_⟩⟩;rw [Oc _ er,aP hk,O5];exact (ly.mono tE _ _).append (.cons ((kt.mono (ZA.tups s3) _ _).mono tE _ _) .nil)
 ·obtain ⟨s3,nE,ly⟩:=hP;refine ⟨s3,nE,?_⟩;have er:(YY X.ts rn)[i]? = some ((YY X.ts rn).getD i rd):=by rw [zV,zT (by lia)];rfl
  rw [Oc _ er,aO (by rw [hk];exact zW),yO]
  exact ly
 obtain ⟨s1,nE,kE⟩:=hP;rw [yR (by lia)] at kE
 have Elk:E≠lk:=fun z=>by rw [z,A0.sh.sh.looks] at nE;cases nE
 refine ⟨2,rfl,by decide,by decide,Qu (n:=2) (AtL gt jh ji H X lk c rn l us v1 v2 k1 E ls.length) ⟨es,ls,_,_,_,_,_,rfl,⟨A0.same s1,fun b o _ e=>s1 b o e,by lia⟩,hE,kE⟩ ?_ ?_⟩
 ·rintro i σ H1 hi ⟨es,ls1,x6,x7,x8,x9,x10,rfl,r1,hE,kE⟩;have i2:i<=1:=by lia
  refine ⟨_,rfl,_,rfl,_,rfl,?_⟩;show Z8 0 gt jh ji CT CK _ _ _ _;refine nr r1 (by lia) fun H2 D1 jM ls2 fr2 R2 l2 nD1 hD1 kD1=>?_
  have r2:=r1.read (m:=ls.length+610 * i+122) fr2 R2 l2 (by lia) (by lia)
  have D1lk:D1≠lk:=(Za r1.ask.sh.sh.looks nD1).symm;have m12:Z1 H1 H2:=fun b xs e=>fr2 b _ (ZQ e r1.ask.sh.sh.looks) e;refine ⟨_,rfl,_,rfl,_,rfl,?_⟩;show Z8 (-1) gt jh ji CT CK _ _ _ _;refine nr r2 (by lia) fun H3 D2 jH ls3 fr3 R3 l3 nD2 hD2 kD2=>?_
  have r3:=r2.read (m:=ls.length+610 * i+244) fr3 R3 l3 (by lia) (by lia)
  have D2lk:D2≠lk:=(Za R2.sh.looks nD2).symm;have m23:Z1 H2 H3:=fun b xs e=>fr3 b _ (ZQ e R2.sh.looks) e;have hD13:=fr3 _ _ D1lk hD1;have kD13:=kD1.mono m23 _ _;have D12:D1≠D2:=Za hD1 nD2;have hE3:=fr3 _ _ Elk (fr2 _ _ Elk hE);have kE3:=(kE.mono m12 _ _).mono m23 _ _;have eE:(YY X.ts rn).filter (fun r=>r.1.lt k1)=(YY X.ts rn).take (UL X.ts k1 rn):=by rw [Ni];exact Hj k1 _ rup
  have cl:UL X.ts k1 rn<=(YY X.ts rn).length:=by
   rw [Ni];unfold XW;have:=uY (fun x:KT=>x.lt k1) ((YY X.ts rn).map (·.1));rw [zX] at this;exact this
  have le:es.length=UL X.ts k1 rn:=by
   have:=kE.length;unfold Zv at this;rw [zX,eE,xH] at this
   lia
  refine ⟨_,rfl,_,rfl,_,rfl,E,es,rfl,.inl (ZL.of hE3),_,rfl,_,rfl,E,es,rfl,.inl (ZL.of hE3),_,_,rfl,rfl,_,rfl,l,us,rfl,ZL.of r3.ask.hl,fun q1 nq1=>?_⟩;have cu:U9 us (some ((es.length:Nat):Int)) (some (((es.length:Nat):Int)+((1:Nat):Int)))=(us.drop es.length).take 1:=Hh us es.length 1 (by lia)
  have g4:=ZY nq1 (.lst ((us.drop es.length).take 1));have e4:=ZP (H:=H3) (a:=q1) (o:=.lst ((us.drop es.length).take 1));rw [show (((es.length:Nat):Int)+1)=(((es.length:Nat):Int)+((1:Nat):Int)) from rfl,cu];generalize upd H3 q1 (.lst ((us.drop es.length).take 1))=H4 at g4 e4 ⊢;have k4:KeysAt H4 (Zv (Vu (YY X.ts rn) ((UL X.ts k1 rn:Nat)+0))) ((us.drop es.length).take 1):=by
   rw [Int.add_zero,IN,<-le];have:=((r3.ask.ks.mono (ZA.tups g4) _ _).drop es.length).take 1;unfold Zv at this ⊢;rw [tP,tQ];exact this
  have wd:∀(n:Int),∀ t∈Zv (Vu (YY X.ts rn) n),t.wide 4=true:=fun n t ht=>by
   obtain ⟨r,hr',rfl⟩:=zJ.mp ht;unfold Vu at hr';split at hr'
   ·rename_i hn
    rw [zA.mp hr',zV,zT (show n.toNat<(YY X.ts rn).length by lia)]
    exact D8 (rfit _ (xZ _))
   ·simp at hr'
  have ln:∀ n:Int,(Zv (Vu (YY X.ts rn) n)).length<=100:=fun n=>by
   unfold Zv Vu;split <;> simp
  refine ⟨D1,q1,jM,_,_,_,rfl,g4 _ _ hD13,e4,kD13.mono (ZA.tups g4) _ _,k4,wd _,ln _,fun H5 s5=>?_⟩;rw [eqbL_self];have s35:=g4.trans s5;refine ⟨_,rfl,Zm ⟨_,rfl,_,rfl,1,rfl,_,rfl,E,es,rfl,ZL.of (s35 _ _ hE3),fun q2 nq2=>?_⟩⟩;rw [At];have g6:=ZY nq2 (.lst (es.drop (es.length - 1)));have e6:=ZP (H:=H5) (a:=q2) (o:=.lst (es.drop (es.length - 1)));generalize upd H5 q2 (.lst (es.drop (es.length - 1)))=H6 at g6 e6 ⊢;have s36:=s35.trans g6;have k6:KeysAt H6 (Zv (Vu (YY X.ts rn) ((UL X.ts k1 rn:Nat) + -1))) (es.drop (es.length - 1)):=by
   rw [BD cl];have:=(kE3.mono (ZA.tups s36) _ _).drop (es.length - 1);rw [eE] at this;unfold Zv at this ⊢;rw [tQ,<-le];rw [<-le] at this;exact this
  refine ⟨D2,q2,jH,_,_,_,rfl,s36 _ _ hD2,e6,kD2.mono (ZA.tups s36) _ _,k6,wd _,ln _,fun H7 s7=>?_⟩;rw [eqbL_self];have s37:=s36.trans s7;have r7:=r3.same s37;refine ⟨_,rfl,Zm ?_⟩;have nD10:H D1=none:=Nm r1.ask.sh r1.fr nD1;have nD20:H D2=none:=Nm R2 r2.fr nD2;have hD17:=s37 _ _ hD13;have hD27:=s37 _ _ hD2;refine ⟨_,rfl,.inl ⟨rfl,_,ZL.of hD17⟩,D1,jM,rfl,rfl,hD17,?_⟩;have r8:=r7.clr (o':=[]) A0 nD10 hD17;have hD28:upd H7 D1 (.lst []) D2=some (.lst jH):=by rw [ZV (Ne.symm D12)];exact hD27
  refine ⟨_,rfl,.inl ⟨rfl,_,ZL.of hD28⟩,D2,jH,rfl,rfl,hD28,?_⟩;have r9:=r8.clr (o':=[]) A0 nD20 hD28;have ED1:E≠D1:=Za hE nD1;have ED2:E≠D2:=Za (fr2 _ _ Elk hE) nD2;have hE9:upd (upd H7 D1 (.lst [])) D2 (.lst []) E=some (.lst es):=by rw [ZV ED2,ZV ED1];exact s37 _ _ hE3
  have t89:Z1 H7 (upd (upd H7 D1 (.lst [])) D2 (.lst [])):=fun b xs e=>(ZE.refl D2 _).upd.tups hD28 b xs ((ZE.refl D1 H7).upd.tups hD17 b xs e);have kE9:=(kE3.mono (ZA.tups s37) _ _).mono t89 _ _;generalize upd (upd H7 D1 (.lst [])) D2 (.lst [])=H9 at r9 hE9 kE9 ⊢;have m09:Z1 H H9:=fun b xs e=>r9.fr b _ (ZQ e A0.sh.sh.looks) e;refine ⟨_,rfl,_,rfl,Z0,fun t1 nt1=>⟨_,rfl,_,rfl,Z0,fun t2 nt2=>⟨_,rfl,_,rfl,Z0,fun t3 nt3=>⟨Z0,fun q0 nq0=>?_⟩⟩⟩⟩;have h1:=ZY nt1 (.tup [v1,v2]);have h2:=ZY nt2 (.tup [v2,v1]);have h3:=ZY nt3 (.tup [v1,v1]);have h4:=ZY nq0 (.lst [.ref t1,.ref t2,.ref t3]);have a1:=h4 _ _ (h3 _ _ (h2 _ _ (ZP (H:=H9) (a:=t1) (o:=.tup [v1,v2]))));have a2:=h4 _ _ (h3 _ _ (ZP (H:=upd H9 t1 (.tup [v1,v2])) (a:=t2) (o:=.tup [v2,v1])));have a3:=h4 _ _ (ZP (H:=upd (upd H9 t1 (.tup [v1,v2])) t2 (.tup [v2,v1])) (a:=t3) (o:=.tup [v1,v1]));have a4:=ZP (H:=upd (upd (upd H9 t1 (.tup [v1,v2])) t2 (.tup [v2,v1])) t3 (.tup [v1,v1])) (a:=q0) (o:=.lst [.ref t1,.ref t2,.ref t3]);have s9:=((h1.trans h2).trans h3).trans h4;have q0lk:q0≠lk:=fun z=>by
   rw [z,(((h1.trans h2).trans h3) _ _ r9.ask.sh.sh.looks)] at nq0;cases nq0
  generalize upd (upd (upd (upd H9 t1 (.tup [v1,v2])) t2 (.tup [v2,v1])) t3 (.tup [v1,v1])) q0 (.lst [.ref t1,.ref t2,.ref t3])=H10 at a1 a2 a3 a4 s9 ⊢;have r10:=r9.same s9;have le10:=r10.le;have kk1:=(kv1.mono m09 _ _).mono (ZA.tups s9) _ _;have kk2:=(kv2.mono m09 _ _).mono (ZA.tups s9) _ _;have prs:∀ u∈[V.ref t1,.ref t2,.ref t3],∃ t w1 w2 j1 j2,u=.ref t/\H10 t=some (.tup [w1,w2])/\ZD H10 j1 w1/\ZD H10 j2 w2/\j1.fits 3=true/\j2.fits 3=true:=fun u hu=>by
   simp only [zB,vY,or_false] at hu;rcases hu with rfl | rfl | rfl
   ·exact ⟨t1,v1,v2,k1,k2,rfl,a1,kk1,kk2,fk1,fk2⟩
   ·exact ⟨t2,v2,v1,k2,k1,rfl,a2,kk2,kk1,fk2,fk1⟩
   ·exact ⟨t3,v1,v1,k1,k1,rfl,a3,kk1,kk1,fk1,fk1⟩
  refine ⟨q0,rfl,⟨_,ZL.of a4⟩,Pb (K:=K) (a:=q0) (xs:=[.ref t1,.ref t2,.ref t3]) (AuL gt jh ji H10 X lk c rn l us v1 v2 E (ls.length+610 * i+244)) ⟨_,_,_,_,_,_,rfl,r10.ask,fun b o _ e=>e,by lia⟩ (fun i σ H' _ hP=>by obtain ⟨_,_,_,_,_,_,_,r⟩:=hP;exact ZL.of (r.fr _ _ q0lk a4)) ?_ ?_⟩
  ·rintro j u σ H11 hu ⟨ls11,y6,y7,y8,y9,y10,rfl,r11⟩;have j3:j<3:=(yV.mp hu).1;obtain ⟨t,w1,w2,j1,j2,rfl,ht,kw1,kw2,fj1,fj2⟩:=prs u (zN hu);have m11:Z1 H10 H11:=fun b xs e=>r11.fr b _ (ZQ e r10.ask.sh.sh.looks) e;have l11:=r11.le;have r11':UD gt jh ji H H11 X lk c ls11 rn l us (ls.length+610 * i+244+122 * j):=⟨r11.ask,fun b o n e=>r11.fr b o n (r10.fr b o n e),l11⟩;refine ⟨t,_,rfl,Zo.of (m11 _ _ ht),rfl,_,_,rfl,_,_,rfl,rfl,?_⟩;refine ⟨_,rfl,_,rfl,_,rfl,_,rfl,?_⟩;show Yn gt jh ji CT CK _ _ _ _;refine mb r11' (by lia) (kw1.mono m11 _ _) (kw2.mono m11 _ _) fj1 fj2 fun H12 ls12 fr12 R12 l12=>?_
   have m12':Z1 H11 H12:=fun b xs e=>fr12 b _ (ZQ e r11.ask.sh.sh.looks) e;have r12:=r11.read (m:=ls.length+610 * i+244+122 * (j+1)) fr12 R12 l12 (by lia) (by lia)
   refine ⟨_,rfl,_,rfl,_,rfl,l,us,YY X.ts rn,w1,w2,j1,j2,rfl,r12.ask.hl,r12.ask.ks,rfit,l60,(kw1.mono m11 _ _).mono m12' _ _,(kw2.mono m11 _ _).mono m12' _ _,fj1,fj2,fun H13 s13=>?_⟩;refine ⟨_,_,.int _,.int _,0,rfl,.int _,.int _,rfl,by decide,fun H14 s14=>⟨_,rfl,?_⟩⟩
   rw [ZOB,Uu];exact Zm ⟨ls12,_,_,_,_,_,rfl,r12.same (s13.trans s14)⟩
  ·rintro σ H11 ⟨ls11,y6,y7,y8,y9,y10,rfl,r11⟩;have l11:=r11.le;refine ⟨es,ls11,_,_,_,_,_,rfl,⟨r11.ask,fun b o n e=>r11.fr b o n (r10.fr b o n e),?_⟩,r11.fr _ _ Elk (s9 _ _ hE9),?_⟩
   ·have:[V.ref t1,.ref t2,.ref t3].length=3:=rfl
    lia
   ·exact (kE9.mono (ZA.tups s9) _ _).mono (fun b xs e=>r11.fr b _ (ZQ e r10.ask.sh.sh.looks) e) _ _
 ·rintro σ H1 ⟨es,ls1,x6,x7,x8,x9,x10,rfl,r1,hE,kE⟩;exact q H1 ls1 r1.fr r1.ask.sh r1.le
theorem E5{X:Cx}{e0 e1 e2 e3 e4 e5 e6 e7:Expr}{t0 t1 t2 t3 t4 t5 t6 t7:TE}(g0:PE X e0 t0)(g1:PE X e1 t1)(g2:PE X e2 t2)(g3:PE X e3 t3)(g4:PE X e4 t4)(g5:PE X e5 t5)(g6:PE X e6 t6)(g7:PE X e7 t7)(h:[e0,e1,e2,e3,e4,e5,e6,e7].all PL=true:=by rfl):
  PA X [e0,e1,e2,e3,e4,e5,e6,e7] (Y0 t0 (Y0 t1 (Y0 t2 (Y0 t3 (Y0 t4 (Y0 t5 (Y0 t6 (Y0 t7 V4)))))))):=
 (Zb g0 (Zb g1 (Zb g2 (Zb g3 (Zb g4 (Zb g5 (Zb g6 (Zb g7 ZF (XZ (zP.mp h e7 (by simp)))) (XZ (zP.mp h e6 (by simp)))) (XZ (zP.mp h e5 (by simp)))) (XZ (zP.mp h e4 (by simp)))) (XZ (zP.mp h e3 (by simp)))) (XZ (zP.mp h e2 (by simp)))) (XZ (zP.mp h e1 (by simp)))) (XZ (zP.mp h e0 (by simp))))
theorem GR:(QT "a" 41).length=41:=by decide +kernel
theorem ZPF:Us (yJ "\n")=false:=by decide +kernel
inductive Ut(vs:jf)(H:Hp)(Q:VK)(_:XK):Prop
 | mk (p:aj) (_:vs=[.ref p]) (_:ZI H p) (_:∀(v:V)(H':Hp),UA (fun b=>b=p\/H b≠none) H' none v->ZI H' p->ZE p H H'->Q v H')
theorem ES:ZC ["_law_well_here"] ["_law_well_here"] (Ze MV):=Zp
theorem Am(F:Zj K "_law_bad" "_law_bad" MV f fd)(DP:ZB P w K mg base 1 "_law_pull" ["_law_well_here","_law_many"] Zr):ZJ P w K mg base ZW 2 f fd ["_law_well_here"] Ut:=by
 refine F.ko ES fun cdv A outer s H vs Q E hr h=>?_;obtain ⟨p,rfl,W,q⟩:=h;refine ⟨_,ZU (Zg (Zn (r:=YI K) YO (Yr (E5 XV O0 (Yr (ZG ZM ZF)) (Zw OI ZM ZM) (Zw ZHa Xq ZM) (Yq (Pa ZM ZM ZM ZM ZM)) (Yq (ZG Xq ZF))
  (Yq (ZG (Yq (ZG (Yq (ZG (Yq ZF) ZF)) ZF)) ZF)))) (Zh DP hr (ZG (pv 0) (ZG ZM ZF))) (fun _ _=>rfl))),?_⟩
 refine ⟨Z0,fun a1 n1=>?_⟩;have g1:=ZY n1 (.lst [.int 1]);refine ⟨_,_,rfl,rfl,⟨by decide,by decide,by decide⟩,_,_,rfl,rfl,by decide +kernel,by decide,by decide,Z0,fun a2 n2=>?_⟩
 have g2:=ZY n2 (.tup [.int 1,.int 2,.int 3,.int 4,.int 5]);refine ⟨Z0,fun a3 n3=>?_⟩;have g3:=ZY n3 (.tup [.str (yJ "\n")]);refine ⟨Z0,fun a4 n4=>?_⟩;have g4:=ZY n4 (.tup []);refine ⟨Z0,fun a5 n5=>?_⟩;have g5:=ZY n5 (.tup [.ref a4]);refine ⟨Z0,fun a6 n6=>?_⟩;have g6:=ZY n6 (.tup [.ref a5]);refine ⟨Z0,fun a7 n7=>?_⟩;have g7:=ZY n7 (.tup [.ref a6]);refine ⟨Z0,fun d n8=>?_⟩;have g8:=ZY n8 (.lst [.bl true,.non,.ref a1,.int ((10:Int) ^ (60:Int).toNat),.str (QT "a" 41),.ref a2,.ref a3,.ref a7]);have c7:=g7.trans g8;have c6:=g6.trans c7;have c5:=g5.trans c6;have c4:=g4.trans c5;have c3:=g3.trans c4;have c2:=g2.trans c3;have c1:=g1.trans c2;have b7:=((((((g1.trans g2).trans g3).trans g4).trans g5).trans g6).trans g7);have e1:=c2 _ _ (ZP (a:=a1) (o:=.lst [.int 1]));have e2:=c3 _ _ (ZP (a:=a2) (o:=.tup [.int 1,.int 2,.int 3,.int 4,.int 5]));have e3:=c4 _ _ (ZP (a:=a3) (o:=.tup [.str (yJ "\n")]));have e4:=c5 _ _ (ZP (a:=a4) (o:=.tup []));have e5:=c6 _ _ (ZP (a:=a5) (o:=.tup [.ref a4]));have e6:=c7 _ _ (ZP (a:=a6) (o:=.tup [.ref a5]));have e7:=g8 _ _ (ZP (a:=a7) (o:=.tup [.ref a6]));have dp:d≠p:=UJ (W.same b7) n8;have ap:a1≠p:=UJ W n1;have W1:=W.same c1;have e8:upd (upd (upd (upd (upd (upd (upd (upd H a1 (.lst [.int 1])) a2 (.tup [.int 1,.int 2,.int 3,.int 4,.int 5])) a3 (.tup [.str (yJ "\n")])) a4 (.tup [])) a5 (.tup [.ref a4])) a6 (.tup [.ref a5])) a7 (.tup [.ref a6])) d (.lst [.bl true,.non,.ref a1,.int ((10:Int) ^ (60:Int).toNat),.str (QT "a" 41),.ref a2,.ref a3,.ref a7]) d=some (.lst [.bl true,.non,.ref a1,.int ((10:Int) ^ (60:Int).toNat),.str (QT "a" 41),.ref a2,.ref a3,.ref a7]):=ZP;generalize upd (upd (upd (upd (upd (upd (upd (upd H a1 (.lst [.int 1])) a2 (.tup [.int 1,.int 2,.int 3,.int 4,.int 5])) a3 (.tup [.str (yJ "\n")])) a4 (.tup [])) a5 (.tup [.ref a4])) a6 (.tup [.ref a5])) a7 (.tup [.ref a6])) d (.lst [.bl true,.non,.ref a1,.int ((10:Int) ^ (60:Int).toNat),.str (QT "a" 41),.ref a2,.ref a3,.ref a7])=H1 at *;refine ⟨_,rfl,p,8,rfl,W1,Xi (by decide) (by decide),fun j H2 j0 j1 W2 s2=>?_⟩
 obtain ⟨v,av,mv⟩:=Q7 (xs:=[V.bl true,.non,.ref a1,.int ((10:Int) ^ (60:Int).toNat),.str (QT "a" 41),.ref a2,.ref a3,.ref a7]) j0 j1;have t2:=s2.tupsW W1;refine .inl ⟨d,_,_,v,rfl,rfl,ZL.of (s2 _ _ e8 dp),av,?_⟩;have fin:UA (fun b=>b=p\/H b≠none) H2 none v->Q v H2:=fun h=>q v H2 h W2 ((ZE.of c1).trans s2);refine fin ?_;have hten:(10:Int) ^ 60<=(10:Int) ^ (60:Int).toNat:=by decide +kernel
 clear av e8;generalize (10:Int) ^ (60:Int).toNat=M at mv hten;simp only [zB,vY,or_false] at mv;rcases mv with rfl | rfl | rfl | rfl | rfl | rfl | rfl | rfl
 ·exact ⟨.odd "bool",by rw [Zl];exact .inl ⟨rfl,true,rfl⟩,by rw [TG.neat];trivial,by rw [TG.fits]⟩
 ·exact ⟨.odd "NoneType",by rw [Zl];exact .inr (.inl ⟨rfl,rfl⟩),by rw [TG.neat];trivial,by rw [TG.fits]⟩
 ·exact ⟨.odd "list",by rw [Zl];exact .inr (.inr (.inl ⟨rfl,a1,_,rfl,s2 _ _ e1 ap,fun z=>z.elim ap fun y=>y n1⟩)),by rw [TG.neat];trivial,by rw [TG.fits]⟩
 ·refine ⟨.int M,by rw [Zl],by rw [TG.neat];trivial,?_⟩
  rw [TG.fits];refine aK fun z=>?_;have e:((10:Int) ^ 60)=((10 ^ 60:Nat):Int):=by decide +kernel
  rw [e] at hten;generalize (10 ^ 60:Nat)=T at *
  lia
 ·refine ⟨.str _,by rw [Zl],by rw [TG.neat,GR];decide,?_⟩
  rw [TG.fits];unfold Us;rw [GR];rfl
 ·refine ⟨.tup [.int 1,.int 2,.int 3,.int 4,.int 5],?_,?_,?_⟩
  ·rw [Zl];exact ⟨a2,_,rfl,t2 _ _ e2,by simp [ThsAt,Zl]⟩
  ·simp [TG.neat,neatL]
  ·simp [TG.fits]
 ·refine ⟨.tup [.str (yJ "\n")],?_,?_,?_⟩
  ·rw [Zl];exact ⟨a3,_,rfl,t2 _ _ e3,by simp [ThsAt,Zl]⟩
  ·rw [TG.neat];exact ⟨by decide,by rw [neatL,neatL,TG.neat];exact ⟨by decide +kernel,trivial⟩⟩
  ·rw [TG.fits,gfitsL,TG.fits,ZPF];rfl
 ·refine ⟨.tup [.tup [.tup [.tup []]]],?_,?_,?_⟩
  ·rw [Zl];refine ⟨a7,_,rfl,t2 _ _ e7,?_⟩;rw [ThsAt];refine ⟨_,_,rfl,?_,by rw [ThsAt]⟩
   rw [Zl];refine ⟨a6,_,rfl,t2 _ _ e6,?_⟩;rw [ThsAt];refine ⟨_,_,rfl,?_,by rw [ThsAt]⟩
   rw [Zl];refine ⟨a5,_,rfl,t2 _ _ e5,?_⟩;rw [ThsAt];refine ⟨_,_,rfl,?_,by rw [ThsAt]⟩
   rw [Zl];exact ⟨a4,_,rfl,t2 _ _ e4,by rw [ThsAt]⟩
  ·simp [TG.neat,neatL]
  ·simp [TG.fits,gfitsL]
theorem Mg{a b:V}(h1:Px a=true)(h2:Px b=true):∀ v∈[a,b],Px v=true:=fun v hv=>by
 simp only [zB,vY,or_false] at hv;rcases hv with rfl | rfl <;> assumption
inductive Y6(gt:List KT)(jh ji:aj)(vs:jf)(H:Hp)(Q:VK)(E:XK):Prop
 | mk (p:aj) (X:YL) (lk:aj) (c:Nat) (ls:jf) (rn:Option Nat) (v:V) (k:KT) (_:vs=[.ref p,.ref X.S,YE (Zy rn),v]) (_:ZI H p) (_:Zx jh ji H X lk c ls) (_:WF gt X.ts) (_:∀ i,i<X.ts.length->(gd X.ts i).h<=60) (_:ls.length<=360000) (_:X.ts.length<=900) (_:p≠lk) (_:∀ i:Nat,i<X.ts.length->(X.as.getD i .d).ab≠p/\(X.as.getD i .d).th≠p) (_:∀ i,rn=some i->i<X.ts.length) (_:ZD H k v) (_:k.fits 3=true)
  (_:∀ H',(∀ b o,b≠p->b≠X.S->b≠X.d->H b=some o->H' b=some o)->ZI H' p->Zx jh ji H' X lk (c+1) ls->Q (.bl true) H')
abbrev ZLc:List Str:=["_law_well_here","_law_shelf","_law_root_here","_law_spot","_law_bad_here","_law_gone_here","_law_way"]
abbrev NX:List Str:=["_law_well_here","_law_shelf","_law_root_here","_law_spot"]
theorem WY:ZC ZLc NX (Ze KU):=Zp
inductive RgL(p S:aj)(r v b:V)(g:Int)(H:Hp)(i:Nat)(σ:L2.St)(H':Hp):Prop
 | mk (x6:jg) (_:σ=[some (.ref p),some (.ref S),some r,some v,some b,some (.int g),x6]) (_:ZA H H')
theorem FT{gt:List KT}(F0:Zj K "_law_refuses" "_law_refuses" KU f fd)(T:YF mg)(DB:ZB P w K mg base 2 "_law_bad" ["_law_well_here"] Ut)(DG:ZB P w K mg base 11 "_law_gone" ["_law_well_here","_law_shelf"] (Vl jh ji))(DR:ZB P w K mg base 14 "_law_refusal" Q6 (Xc gt jh ji)):ZJ P w K mg base ZW 15 f fd NX (Y6 gt jh ji):=by
 refine F0.ko WY fun cdv A outer s H vs Q E hr h=>?_;obtain ⟨p,X,lk,c,ls,rn,v,k,rfl,W,R,hw,low,few,t9,plk,own,jm,kv,fk,q⟩:=h;have nd:=WY.nd;have hu:=hr.units0;have hr2:=hr.mono (show 2<=14 by decide)
 have hr11:=hr.mono (show 11<=14 by decide)
 refine ⟨_,ZR (Zk 4 nd (Zh DB hr2 (ZG (pv 0) ZF)))
  (ZR (Zk 5 nd (Zh DG hr11 (ZG (pv 0) (ZG (pv 1) ZF))))
  (ZR (Vf PassesOwn.never rfl (Qw rfl T.range (ZG ZM ZF)) (Xo 6 nd)
   (ZR (Z5 (Y8 (G4 hu) (Zh DR hr (Pa (pv 6) (pv 1) (pv 5) (pv 4) (pv 3))) (Yq (ZG Xq (ZG (pv 5) ZF))) (YK _)) (ZU (Zg XV)) Z7)
   (ZU (Z5 (Y8 (G4 hu) (Zh DR hr (Pa (pv 6) (pv 1) (pv 2) (pv 4) (pv 4))) (Yq (ZG Xq (ZG XV ZF))) (YK _)) (ZU (Zg XV)) Z7))))
  (ZU (Zg (VQ (ZMy hu) (Zh DR hr (Pa ZM (pv 1) (pv 2) (pv 3) (pv 4))) (Yq (ZG Xq (ZG XV ZF))) (YK _)))))),?_⟩
 obtain ⟨pw,hp⟩:=W.some;obtain ⟨⟨dS,hS⟩,hd,hl⟩:=id R.sh;refine ⟨_,rfl,p,rfl,W,fun b H1 hb W1 s1=>?_⟩;have R1:Zx jh ji H1 X lk c ls:=by
  refine R.but s1 ?_ (fun i hi=>⟨?_,own i hi⟩) (s1.tups hp)
  ·rintro (z | z | z)
   ·exact ZQ hp hS (by intro z;cases z) z
   ·exact ZQ hp hd (by intro z;cases z) z
   ·exact plk z
  ·obtain ⟨dy,hy⟩:=(R.tw i hi).tw.self;exact ZQ hy hp
 obtain ⟨pw1,hp1⟩:=W1.some;obtain ⟨⟨dS1,hS1⟩,hd1,_⟩:=id R1.sh;refine ⟨_,rfl,_,rfl,p,X,lk,c,ls,rfl,W1,R1,t9,plk,own,fun H2 g fr2 W2 R2 hg=>?_⟩;have t12:Z1 H1 H2:=fun b xs e=>fr2 b _ (ZQ e hp1) (ZQ e hS1) (ZQ e hd1) e;have kp2:Yp (fun b=>b=p\/H b≠none) H1 H2:=⟨t12,fun a o e n=>fr2 a o (fun z=>n (.inl z)) (fun z=>n (.inr (by rw [z,hS];exact fun y=>nomatch y))) (fun z=>n (.inr (by rw [z,hd];exact fun y=>nomatch y))) e⟩
 have hb2:=hb.mono kp2;have kv2:=(kv.mono (s1.tups hp) _ _).mono t12 _ _;have few2:ls.length<=370000:=by lia
 have ngood:US X.ts (some g)=true->False:=fun z=>by rw [show US X.ts (some g)=inT X.ts g from rfl,hg] at z;cases z
 have inn:∀{x:Int},Zy rn=some x->inT X.ts x=false->False:=fun{x} ex hx=>by
  have:=Pz jm;rw [ex] at this;rw [show inT X.ts x=true from this] at hx;cases hx
 have fin:∀{H3:Hp},ZA H2 H3->Q (.bl true) H3:=fun{H3} s3=>q H3 (fun b o n1 n2 n3 e=>s3 b o (fr2 b o n1 n2 n3 (s1 b o e n1))) (W2.same s3) (R2.same s3);refine ⟨3,rfl,by decide,by decide,Qu (n:=3) (RgL p X.S (YE (Zy rn)) v b g H2) ⟨_,rfl,ZA.refl _⟩ ?_ ?_⟩
 ·rintro i σ H3 hi ⟨x6,rfl,s3⟩;refine ⟨_,rfl,_,rfl,_,rfl,_,rfl,_,rfl,X,lk,c+1,ls,_,some g,b,v,_,fun _=>False,none,some k,rfl,R2.same s3,hw,low,few2,hb2.mono (Yp.same s3),⟨kv2.mono (ZA.tups s3) _ _,fk⟩,fun z=>(ngood z).elim,fun x ex hx H4 t4 s4 e4=>?_,fun z=>(ngood z).elim⟩;cases ex;refine ⟨_,rfl,Z0,fun q5 n5=>⟨t4,q5,_,rfl,rfl,Zo.of (ZY n5 _ _ _ e4),Zo.of ZP,Mg rfl rfl,_,rfl,Zm ?_⟩⟩;have s25:=s3.trans (s4.trans (ZY n5 (.tup [.str "twig",.int g])));generalize upd H4 q5 (.tup [.str "twig",.int g])=H5 at s25 ⊢;refine ⟨_,rfl,_,rfl,_,rfl,_,rfl,_,rfl,X,lk,c+1,ls,_,Zy rn,b,b,_,_,none,none,rfl,R2.same s25,hw,low,few2,hb2.mono (Yp.same s25),hb2.mono (Yp.same s25),fun _=>.inl rfl,fun x ex hx=>(inn ex hx).elim,fun _ H6 t6 s6 e6=>?_⟩;refine ⟨Z0,fun q7 n7=>⟨t6,q7,_,rfl,rfl,Zo.of (ZY n7 _ _ _ e6),Zo.of ZP,Mg rfl rfl,_,rfl,Zm ?_⟩⟩;exact ⟨_,rfl,s25.trans (s6.trans (ZY n7 _))⟩
 ·rintro σ H3 ⟨x6,rfl,s3⟩;refine ⟨_,rfl,_,rfl,_,rfl,_,rfl,X,lk,c+1,ls,2,Zy rn,v,b,fun _=>False,_,some k,none,rfl,R2.same s3,hw,low,few2,⟨kv2.mono (ZA.tups s3) _ _,fk⟩,hb2.mono (Yp.same s3),fun _=>.inr ⟨by decide,by decide,rfl⟩,fun x ex hx=>(inn ex hx).elim,fun _ H6 t6 s6 e6=>?_⟩
  refine ⟨Z0,fun q7 n7=>⟨t6,q7,_,rfl,rfl,Zo.of (ZY n7 _ _ _ e6),Zo.of ZP,Mg rfl rfl,?_⟩⟩;exact fin (s3.trans (s6.trans (ZY n7 _)))
section
variable{jh ji:aj}{H H':Hp}{X:YL}{lk:aj}{c:Nat}{ls:jf}
theorem Zx.off(R:Zx jh ji H X lk c ls){p q T:aj}{o1 o2:jf}{ps:Array ai}(h1:H p=some (.lst o1))(h2:H q=some (.lst o2))(hT:H T=some (.tbl ps))(fr:∀ b o,b≠p->b≠q->b≠T->H b=some o->H' b=some o)(plk:p≠lk)(qlk:q≠lk)(op:∀ i:Nat,i<X.ts.length->(X.as.getD i .d).ab≠p/\(X.as.getD i .d).th≠p)(oq:∀ i:Nat,i<X.ts.length->(X.as.getD i .d).ab≠q/\(X.as.getD i .d).th≠q):Zx jh ji H' X lk c ls:=by
 have go:∀{b:aj}{o:HO},H b=some o->b≠p->b≠q->(∀ ps,o≠.tbl ps)->H' b=some o:=fun{b o} e n1 n2 n3=>fr b o n1 n2 (ZQ e hT (n3 _)) e;have t:Z1 H H':=fun b o e=>go e (ZQ e h1) (ZQ e h2) (by intro _ z;cases z)
 obtain ⟨⟨dS,hS⟩,hd,hl⟩:=id R.sh;refine ⟨⟨⟨dS,go hS (ZQ hS h1) (ZQ hS h2) (by intro _ z;cases z)⟩,go hd (ZQ hd h1) (ZQ hd h2) (by intro _ z;cases z),go hl (Ne.symm plk) (Ne.symm qlk) (by intro _ z;cases z)⟩,R.keys,R.val,fun i hi=>?_,R.own,R.le⟩
 obtain ⟨dx,hx⟩:=(R.tw i hi).tw.self;obtain ⟨us,hu,_⟩:=(R.tw i hi).things;have ha:=(R.tw i hi).tw.above;exact (R.tw i hi).frame t (fun o e=>by rw [hx] at e;cases e;exact go hx (ZQ hx h1) (ZQ hx h2) (by intro _ z;cases z)) (fun o e=>by rw [hu] at e;cases e;exact go hu (op i hi).2 (oq i hi).2 (by intro _ z;cases z)) (fun o e=>by rw [ha] at e;cases e;exact go ha (op i hi).1 (oq i hi).1 (by intro _ z;cases z))
end
structure NR(jh ji:aj)(H0:Hp)(X:YL)(lk L kn T:aj)(t1 t2:WT):Prop where
 nlk:H0 lk=none
 nS:H0 X.S=none
 nd:H0 X.d=none
 nkn:H0 kn=none
 nL:H0 L=none
 Llk:L≠lk
 Lkn:L≠kn
 klk:kn≠lk
 D1:t1.d≠X.d
 D2:t2.d≠X.d
 okn:∀ i:Nat,i<X.ts.length->(X.as.getD i .d).ab≠kn/\(X.as.getD i .d).th≠kn
 wf:WF [] X.ts
 low:∀ i,i<X.ts.length->QU (gd X.ts i)
 len:X.ts.length<=240
structure Vm(jh ji:aj)(H0 H:Hp)(X:YL)(lk:aj)(c:Nat)(ls:jf)(L kn T:aj)(t1 t2:WT)(us:jf)(jI:List KT):Prop where
 sh:Zx jh ji H X lk c ls
 s0:ZE T H0 H
 hL:H L=some (.lst [.ref t1.T,.ref t2.T])
 tr1:Yd [] X.ts H t1
 tr2:Yd [] X.ts H t2
 hk:H kn=some (.lst us)
 ks:KeysAt H jI us
 fit:∀ t∈jI,t.fits 3=true
 tab:Y3 H T qR
theorem Vm.step{jh ji:aj}{H0 H H':Hp}{X:YL}{lk:aj}{c c':Nat}{ls ls':jf}{L kn T:aj}{t1 t2:WT}{us:jf}{jI:List KT}{p:aj}(C:NR jh ji H0 X lk L kn T t1 t2)(j:Vm jh ji H0 H X lk c ls L kn T t1 t2 us jI){o:jf}(hp:H p=some (.lst o))(np:H0 p=none)(Lp:L≠p)(kp:kn≠p)(fr:∀ b o,b≠lk->b≠p->b≠X.S->b≠X.d->b≠T->H b=some o->H' b=some o)(sh:Zx jh ji H' X lk c' ls')(tab:Y3 H' T qR):Vm jh ji H0 H' X lk c' ls' L kn T t1 t2 us jI:=by
 obtain ⟨⟨dS,hS⟩,hd,hl⟩:=id j.sh.sh;obtain ⟨ps,hT,_⟩:=id j.tab;have lst:∀{b:aj}{o:jf},H b=some (.lst o)->b≠lk->b≠p->H' b=some (.lst o):=fun{b o} e n1 n2=>fr b _ n1 n2 (ZQ e hS) (ZQ e hd) (ZQ e hT) e;have t:Z1 H H':=fun b xs e=>fr b _ (ZQ e hl) (ZQ e hp) (ZQ e hS) (ZQ e hd) (ZQ e hT) e;have tr:∀{t:WT},Yd [] X.ts H t->t.d≠X.d->Yd [] X.ts H' t:=fun{tr} h n=>h.go t fun o e=>by
  have e':=h.rcd.hd;rw [e'] at e;cases e;exact fr _ _ (ZQ e' hl) (ZQ e' hp) (ZQ e' hS) n (ZQ e' hT) e'
 exact ⟨sh,fun b o e n=>fr b o (Za e C.nlk) (Za e np) (Za e C.nS) (Za e C.nd) n (j.s0 b o e n),lst j.hL C.Llk Lp,tr j.tr1 C.D1,tr j.tr2 C.D2,lst j.hk C.klk kp,j.ks.mono t _ _,j.fit,tab⟩
theorem Vm.tups{jh ji:aj}{H0 H H':Hp}{X:YL}{lk:aj}{c:Nat}{ls:jf}{L kn T:aj}{t1 t2:WT}{us:jf}{jI:List KT}{p:aj}(j:Vm jh ji H0 H X lk c ls L kn T t1 t2 us jI){o:jf}(hp:H p=some (.lst o))(fr:∀ b o,b≠lk->b≠p->b≠X.S->b≠X.d->b≠T->H b=some o->H' b=some o):Z1 H H':=fun b xs e=>by
 obtain ⟨⟨dS,hS⟩,hd,hl⟩:=id j.sh.sh;obtain ⟨ps,hT,_⟩:=id j.tab;exact fr b _ (ZQ e hl) (ZQ e hp) (ZQ e hS) (ZQ e hd) (ZQ e hT) e
theorem Vm.ext{jh ji:aj}{H0 H H':Hp}{X:YL}{lk:aj}{c:Nat}{ls:jf}{L kn T:aj}{t1 t2:WT}{us:jf}{jI:List KT}{p:aj}(j:Vm jh ji H0 H X lk c ls L kn T t1 t2 us jI){o:jf}(hp:H p=some (.lst o))(fr:∀ b o,b≠lk->b≠p->b≠X.S->b≠X.d->H b=some o->H' b=some o):Y3 H' T qR:=by
 obtain ⟨⟨dS,hS⟩,hd,hl⟩:=id j.sh.sh;exact j.tab.ext ⟨fun b φ e=>fr b _ (ZQ e hl) (ZQ e hp) (ZQ e hS) (ZQ e hd) e,fun b φ e=>fr b _ (ZQ e hl) (ZQ e hp) (ZQ e hS) (ZQ e hd) e⟩
theorem Vm.anyk{jh ji:aj}{H0 H H':Hp}{X:YL}{lk:aj}{c:Nat}{ls:jf}{L kn T:aj}{t1 t2:WT}{us us':jf}{jI kts':List KT}{p:aj}(C:NR jh ji H0 X lk L kn T t1 t2)(j:Vm jh ji H0 H X lk c ls L kn T t1 t2 us jI){o:jf}(hp:H p=some (.lst o))(np:H0 p=none)(Lp:L≠p)(plk:p≠lk)(op:∀ i:Nat,i<X.ts.length->(X.as.getD i .d).ab≠p/\(X.as.getD i .d).th≠p)(fr:∀ b o,b≠p->b≠kn->H b=some o->H' b=some o)(hk:H' kn=some (.lst us'))(ks:KeysAt H' kts' us')(fit:∀ t∈kts',t.fits 3=true):Vm jh ji H0 H' X lk c ls L kn T t1 t2 us' kts':=by
 obtain ⟨ps,hT,_⟩:=id j.tab;have hk0:=j.hk;have t:Z1 H H':=fun b o e=>fr b _ (ZQ e hp) (ZQ e hk0) e;have tr:∀{t:WT},Yd [] X.ts H t->Yd [] X.ts H' t:=fun{tr} h=>h.go t fun o e=>by
  have e6:=h.rcd.hd;exact fr _ _ (ZQ e6 hp) (ZQ e6 hk0) e
 exact ⟨j.sh.off hp hk0 hT (fun b o a1 a2 _ e=>fr b o a1 a2 e) plk C.klk op C.okn,fun b o e nb=>fr b o (Za e np) (Za e C.nkn) (j.s0 b o e nb),fr _ _ Lp C.Lkn j.hL,tr j.tr1,tr j.tr2,hk,ks,fit,j.tab.ext ⟨fun b φ e=>fr b _ (ZQ e hp) (ZQ e hk0) e,fun b φ e=>fr b _ (ZQ e hp) (ZQ e hk0) e⟩⟩
def FS:List Stmt:=Gh ((Xv UV)[3]?)
abbrev HF:List Str:=["_law_script","_law_shelf","_law_trees_here","_law_known_here","_law_k","_law_well_here","_law_root_here","_law_record","_law_spot","_law_other"]
theorem U7:ZC HF ["_law_script"] (Ze UV):=Zp
inductive Wx(T:aj)(K:zZ)(vs:jf)(H:Hp)(Q:VK)(E:XK):Prop
 | mk (a:aj) (ns:List Int) (_:vs=[.ref a]) (_:ZL K H a (ns.map V.int)) (_:ns.length<=63) (_:H T=some (.tbl #[])) (_:∀ H',Q (.bl true) H')
theorem Cv{K:zZ}{H H':Hp}{a T:aj}{xs:jf}{ps:Array ai}(hT:H T=some (.tbl ps))(m:ZE T H H')(h:ZL K H a xs):ZL K H' a xs:=by
 rcases h with (h | ⟨o,h⟩) | h
 ·exact .inl (.inl (m _ _ h (ZQ h hT)))
 ·exact .inl (.inr ⟨o,m _ _ h (ZQ h hT)⟩)
 ·exact .inr h
inductive LaL(jh ji:aj)(H0:Hp)(X:YL)(lk L kn T a:aj)(t1 t2:WT)(i:Nat)(σ:L2.St)(H:Hp):Prop
 | mk (x4 x5 x6 x7 x8 x9:jg) (c:Nat) (ls us:jf) (jI:List KT) (_:σ=[some (.ref a),some (.ref X.S),some (.ref L),some (.ref kn),x4,x5,x6,x7,x8,x9]) (_:Vm jh ji H0 H X lk c ls L kn T t1 t2 us jI) (_:us.length<=120+2 * i) (_:ls.length<=480+2440 * i)
section
variable{cdv:ai}{A:az}{outer:List Env}{s:am}{Hs:Hp}{E:XK}
theorem AD{Tb:aj}(T:YF mg)(hr:ZX 39 (A.deeper (envOfC "law" (Ze UV) s.heap.objs.size f cdv)))(DW:ZB P w K mg base 1 "_law_well" ["_law_script","_law_k"] (WG K))(DX:ZB P w K mg base 2 "_law_root" ["_law_well_here","_law_trees_here"] (Wl []))(DY:ZB P w K mg base 7 "_law_any_key" ["_law_well_here","_law_known_here"] XR)(DO:ZB P w K mg base 10 "_law_rows_of" ["_law_record","_law_root_here"] (XS [] Tb))(DA:ZB P w K mg base 13 "_law_asked" O1 (Xw [] jh ji))(DR:ZB P w K mg base 15 "_law_refuses" NX (Y6 [] jh ji)):
  ∃ t,Xn (X9 ZW P w K mg base HF "law" (Ze UV) f cdv A outer s Hs E).nox FS t/\∀(D0:Yu)(H0 H:Hp)(X:YL)(lk:aj)(c:Nat)(ls:jf)(L kn:aj)(t1 t2:WT)(us:jf)(jI:List KT)(a:aj)(ns:List Int)(n:Int)(x5 x6 x7 x8 x9:jg),
   Vm jh ji H0 H X lk c ls L kn Tb t1 t2 us jI->NR jh ji H0 X lk L kn Tb t1 t2->us.length<=290->ls.length<=340000->ZL K H a (ns.map V.int)->ns.length<=63->0<=n->n<=1000 ->
   (∀(H':Hp)(y5 y6 y7 y8 y9:jg)(ls' us':jf)(kts':List KT),Vm jh ji H0 H' X lk (c+1) ls' L kn Tb t1 t2 us' kts'->us'.length<=us.length+2->ls'.length<=ls.length+2440->D0.nx [some (.ref a),some (.ref X.S),some (.ref L),some (.ref kn),some (.int n),y5,y6,y7,y8,y9] H') ->
    t D0 [some (.ref a),some (.ref X.S),some (.ref L),some (.ref kn),some (.int n),x5,x6,x7,x8,x9] H:=by
 have nd:=U7.nd;have hr1:=hr.mono (show 1<=39 by decide)
 have hr2:=hr.mono (show 2<=39 by decide)
 have hr7:=hr.mono (show 7<=39 by decide)
 have hr10:=hr.mono (show 10<=39 by decide)
 have hr13:=hr.mono (show 13<=39 by decide)
 have hr15:=hr.mono (show 15<=39 by decide)
 refine ⟨_,ZR (Zk 5 nd (Zh DW hr1 (ZG (pv 0) (ZG (pv 4) ZF))))
   (ZR (Pe (Zh DX hr2 (ZG (pv 5) (ZG (pv 2) ZF))) (Oh rfl (QA (Xo 6 nd) (QA (Xo 7 nd) Ob))))
   (ZR (Zk 8 nd (Zh DY hr7 (ZG (pv 5) (ZG (pv 3) ZF))))
   (ZR (Zk 9 nd (Zh DY hr7 (ZG (pv 5) (ZG (pv 3) ZF))))
   (ZR (Z5 (VG (Y9 (Zh DA hr13 (Pa (pv 1) (pv 6) (Zh DO hr10 (ZG (pv 7) (ZG (pv 6) ZF))) (pv 8) (pv 9))))) (ZU (Zg XV)) Z7)
   (ZU (Z5 (PW.pt (PY (VG (Y9 (Zh DA hr13 (Pa (pv 1) O0 (Yr ZF) (pv 8) (pv 9))))) (Pf (VG (Y9 (Zh DR hr15 (Vd (pv 5) (pv 1) (pv 6) (pv 8)))))))) (ZU (Zg XV)) Z7)))))),?_⟩
 intro D0 H0 H X lk c ls L kn t1 t2 us jI a ns n x5 x6 x7 x8 x9 j C l2 few hSq hn n0 n1 fin;refine ⟨_,rfl,_,rfl,a,ns,_,rfl,hSq,hn,n0,n1,fun p H5 np s5 W5=>?_⟩;have Lp:L≠p:=Za j.hL np;have kp:kn≠p:=Za j.hk np;have plk:p≠lk:=(Za j.sh.sh.looks np).symm;obtain ⟨psT,hT,_⟩:=id j.tab;have pT:p≠Tb:=(Za hT np).symm;have np0:H0 p=none:=by
  cases z:H0 p with
  | none=>rfl
  | some o=>rw [j.s0 _ _ z pT] at np;cases np
 have op:∀ i:Nat,i<X.ts.length->(X.as.getD i .d).ab≠p/\(X.as.getD i .d).th≠p:=fun i hi=>by
  obtain ⟨us',e1,_⟩:=(j.sh.tw i hi).things;exact ⟨Za (j.sh.tw i hi).tw.above np,Za e1 np⟩
 refine ⟨_,rfl,_,rfl,X.ts,p,L,t1,t2,rfl,W5,s5 _ _ j.hL,Lp,j.tr1.go (ZA.tups s5) (fun o e=>s5 _ _ e),j.tr2.go (ZA.tups s5) (fun o e=>s5 _ _ e),C.len,fun H6 tt tr rn htr jm s6 W6 htt=>?_⟩;refine ⟨tt,_,rfl,Zo.of htt,rfl,_,_,rfl,_,_,rfl,rfl,?_⟩;have f6:ZA H H6:=fun b o e=>s6 b o (s5 b o e) (Za e np);obtain ⟨pw6,hp6⟩:=W6.some;have j6:Vm jh ji H0 H6 X lk c ls L kn Tb t1 t2 us jI:=⟨j.sh.same f6,fun b o e nb=>f6 b o (j.s0 b o e nb),f6 _ _ j.hL,j.tr1.go (ZA.tups f6) (fun o e=>f6 _ _ e),j.tr2.go (ZA.tups f6) (fun o e=>f6 _ _ e),f6 _ _ j.hk,j.ks.mono (ZA.tups f6) _ _,j.fit,j.tab.ext (VP.same f6)⟩;refine ⟨_,rfl,_,rfl,p,kn,us,jI,rfl,W6,j6.hk,j6.ks,j6.fit,kp,by lia,fun v1 k1 jM kts1 Ha kva fka hka ksa fita lua Wa fra=>?_⟩
 have ja:=j6.anyk C hp6 np0 Lp plk op fra hka ksa fita;obtain ⟨pwa,hpa⟩:=Wa.some;refine ⟨_,rfl,_,rfl,p,kn,jM,kts1,rfl,Wa,hka,ksa,fita,kp,by lia,fun v2 k2 us7 kts7 H7 kv2 fk2 hk7 ks7 fit7 lu7 W7 fr7=>?_⟩
 have j7:=ja.anyk C hpa np0 Lp plk op fr7 hk7 ks7 fit7;have kv1:=kva.mono (fun b o e=>fr7 b _ (ZQ e hpa) (ZQ e hka) e) _ _;obtain ⟨pw7,hp7⟩:=W7.some;have tq:Yd [] X.ts H7 tr:=by rcases htr with z | z <;> rw [z] <;> first | exact j7.tr1 | exact j7.tr2
 have hrn':∀ i,rn=some i->i<X.ts.length:=fun i hi=>tq.rcd.rcd.lt i (jm i hi);have r60:(YY X.ts rn).length<=60:=by
  cases rn with
  | none=>exact zG _
  | some i=>exact (C.low i (hrn' i rfl)).2
 obtain ⟨ps7,hT7,_⟩:=id j7.tab;refine ⟨_,rfl,_,rfl,_,rfl,_,rfl,X.ts,tr.d,tr.kv,tr.F,rn,rfl,j7.tab,tq.rcd,jm,r60,fun H8 D ws fr8 tab8 nD hD kD=>?_⟩;have f8:∀ b o,b≠lk->b≠p->b≠X.S->b≠X.d->b≠Tb->H7 b=some o->H8 b=some o:=fun b o _ _ _ _ nb e=>fr8 b o nb e;have sh8:=j7.sh.off hp7 hk7 hT7 (fun b o _ _ nb e=>fr8 b o nb e) plk C.klk op C.okn;have j8:=j7.step C hp7 np0 Lp kp f8 sh8 tab8;have t78:=j7.tups hp7 f8;have W8:=Od W7 fun o e=>fr8 _ _ pT e;obtain ⟨pw8,hp8⟩:=W8.some;refine ⟨_,rfl,_,rfl,X,lk,c,ls,rn,D,ws,v1,v2,k1,k2,rfl,⟨sh8,C.wf,C.low,by lia,hrn',hD,(Za j7.sh.sh.looks nD).symm,kD⟩,by lia,kv1.mono t78 _ _,kv2.mono t78 _ _,fka,fk2,fun H9 ls9 fr9 R9 l9=>⟨_,rfl,Zm ?_⟩⟩
 have f9:∀ b o,b≠lk->b≠p->b≠X.S->b≠X.d->H8 b=some o->H9 b=some o:=fun b o a1 _ _ _ e=>fr9 b o a1 e;have j9:=j8.step C hp8 np0 Lp kp (fun b o a1 a2 a3 a4 _ e=>f9 b o a1 a2 a3 a4 e) R9 (j8.ext hp8 f9);have t89:=j8.tups hp8 fun b o a1 a2 a3 a4 _ e=>f9 b o a1 a2 a3 a4 e;have W9:=Od W8 fun o e=>fr9 _ _ plk e;obtain ⟨pw9,hp9⟩:=W9.some;refine ⟨_,rfl,Z0,fun e0 ne0=>?_⟩;have g10:=ZY ne0 (.lst []);have e10:=ZP (H:=H9) (a:=e0) (o:=.lst []);generalize upd H9 e0 (.lst [])=H10 at g10 e10 ⊢;have j10:=j9.step C hp9 np0 Lp kp (fun b o _ _ _ _ _ e=>g10 b o e) (R9.same g10) (j9.tab.ext (VP.same g10));have W10:=W9.same g10;obtain ⟨pw10,hp10⟩:=W10.some;have t810:Z1 H7 H10:=fun b o e=>g10 _ _ (t89 b o (t78 b o e));refine ⟨_,rfl,_,rfl,X,lk,c,ls9,none,e0,[],v1,v2,k1,k2,rfl,⟨j10.sh,C.wf,C.low,by lia,fun i e=>(by cases e),e10,(Za R9.sh.looks ne0).symm,.nil⟩,by lia,kv1.mono t810 _ _,kv2.mono t810 _ _,fka,fk2,fun H11 ls11 fr11 R11 l11=>⟨_,rfl,Zm ?_⟩⟩
 have f11:∀ b o,b≠lk->b≠p->b≠X.S->b≠X.d->H10 b=some o->H11 b=some o:=fun b o a1 _ _ _ e=>fr11 b o a1 e;have j11:=j10.step C hp10 np0 Lp kp (fun b o a1 a2 a3 a4 _ e=>f11 b o a1 a2 a3 a4 e) R11 (j10.ext hp10 f11);have t1011:=j10.tups hp10 fun b o a1 a2 a3 a4 _ e=>f11 b o a1 a2 a3 a4 e;have W11:=Od W10 fun o e=>fr11 _ _ plk e;obtain ⟨pw11,hp11⟩:=W11.some;refine ⟨_,rfl,_,rfl,_,rfl,_,rfl,p,X,lk,c,ls11,rn,v1,k1,rfl,W11,R11,C.wf,fun i hi=>(C.low i hi).1,by lia,by have:=C.len;lia,plk,op,hrn',(kv1.mono t810 _ _).mono t1011 _ _,fka,fun H12 fr12 W12 R12=>⟨_,rfl,Zm ?_⟩⟩
 have f12:∀ b o,b≠lk->b≠p->b≠X.S->b≠X.d->H11 b=some o->H12 b=some o:=fun b o _ a2 a3 a4 e=>fr12 b o a2 a3 a4 e;exact fin H12 _ _ _ _ _ ls11 us7 kts7 (j11.step C hp11 np0 Lp kp (fun b o a1 a2 a3 a4 _ e=>f12 b o a1 a2 a3 a4 e) R12 (j11.ext hp11 f12)) (by lia) (by lia)
end
theorem EI{Tb:aj}(F0:Zj K "law" "law" UV f fd)(T:YF mg)(L:XA K mg jh ji)(DI:UP P w K mg base 1 jh ["self"] (Uk jh))(DW:ZB P w K mg base 1 "_law_well" ["_law_script","_law_k"] (WG K))(DT:ZB P w K mg base 12 "_law_trees" ["_law_script","_law_shelf"] (VC [] K jh ji))(DK:ZB P w K mg base 1 "_law_known" ["_law_trees_here"] Wv)(DX:ZB P w K mg base 2 "_law_root" ["_law_well_here","_law_trees_here"] (Wl []))(DY:ZB P w K mg base 7 "_law_any_key" ["_law_well_here","_law_known_here"] XR)(DO:ZB P w K mg base 10 "_law_rows_of" ["_law_record","_law_root_here"] (XS [] Tb))(DA:ZB P w K mg base 13 "_law_asked" O1 (Xw [] jh ji))(DR:ZB P w K mg base 15 "_law_refuses" NX (Y6 [] jh ji)):ZJ P w K mg base ZW 40 f fd ["_law_script"] (Wx Tb K):=by
 refine F0.ko U7 fun cdv A outer s H vs Q E hr h=>?_;obtain ⟨a,ns,rfl,hSq,hn,hTb,k⟩:=h;have nd:=U7.nd;have hr1:=hr.mono (show 1<=39 by decide)
 have hr2:=hr.mono (show 2<=39 by decide)
 have hr12:=hr.mono (show 12<=39 by decide)
 obtain ⟨t,ht,turn⟩:=AD (P:=P) (w:=w) (K:=K) (mg:=mg) (base:=base) (f:=f) (cdv:=cdv) (A:=A) (outer:=outer) (s:=s) (Hs:=H) (E:=E) T hr DW DX DY DO DA DR;refine ⟨_,ZR (Zk 1 nd (ZOQ DI hr2 rfl L.shelf))
  (ZR (Zk 2 nd (Zh DT hr12 (ZG (pv 0) (ZG (pv 1) ZF))))
  (ZR (Zk 3 nd (Zh DK hr1 (ZG (pv 2) ZF)))
  (ZR (Vf PassesOwn.never rfl (MR rfl T.range (ZG ZM (ZG (Z4 (LE rfl) rfl T.max Lj (ZG ZM (ZG (Z4 (JS rfl) rfl T.min HN (ZG (Z4 Xu rfl T.len Xl (ZG (pv 0) ZF)) (ZG ZM ZF))) ZF))) ZF))) (Xo 4 nd) ht)
  (ZU (Zg XV))))),?_⟩
 intro S e nS ne z1;have i1:ZA H (upd (upd H e (.own S)) S (.ins jh e [])):=fun b o q=>by
  rw [ZV (Za q nS),ZV (Za q ne)];exact q
 refine ⟨S,e,rfl,ZP,fun H1 d lk fr1 nd1 nlk1 dl1 R1=>⟨rfl,?_⟩⟩;have s01:ZA H H1:=fun b o q=>fr1 b o (Za q nS) (i1 b o q);have RP:Yf jh ji H1 S d lk [] (fun _=>[]) (fun _=>0) [] [] []:=⟨R1,rfl,fun i hi=>absurd hi (xI _),rfl,fun i hi=>absurd hi (xI _),fun i hi=>absurd hi (xI _),fun i _ hi=>absurd hi (xI _)⟩;refine ⟨_,rfl,_,rfl,H,a,S,d,lk,ns,_,_,rfl,hSq,hn,s01,nS,i1.free nd1,i1.free nlk1,RP,fun H2 Ls ts av ho as kvs ls t1 t2 r l240 l480=>?_⟩;obtain ⟨T1,A1,_,D1⟩:=r.trs t1 (by simp)
 obtain ⟨T2,A2,_,D2⟩:=r.trs t2 (by simp)
 have hL2:H2 Ls=some (.lst [.ref t1.T,.ref t2.T]):=r.hL;have ln1:t1.us.length=t1.rs.length:=by have:=T1.ks.length;unfold Zv at this;rw [zX] at this;exact this.symm
 have ln2:t2.us.length=t2.rs.length:=by have:=T2.ks.length;unfold Zv at this;rw [zX] at this;exact this.symm
 have w1:=T1.len;have w2:=T2.len;refine ⟨_,rfl,Ls,t1.T,t2.T,t1.r,t2.r,_,_,t1.us,t2.us,t1.rs,t2.rs,rfl,hL2,T1.tp,T2.tp,T1.rl,T2.rl,T1.ks,T2.ks,by lia,by lia,fun kn ks H3 s3 nkn hkn kkn=>?_⟩
 have R2:=r.pla.sh;have lkn:ks.length=t1.rs.length+t2.rs.length:=by
  have:=kkn.length;rw [zX,zU] at this;exact this.symm
 have nd0:H d=none:=i1.free nd1;have s02:ZA H H2:=fun b o e=>r.pla.fr b o (fun z=>z) (Za e nS) (Za e nd0) (fun j hj=>absurd hj (xI _)) e;have s03:=s02.trans s3;have C:NR jh ji H ⟨S,d,ts,av,ho,as,kvs⟩ lk Ls kn Tb t1 t2:=⟨i1.free nlk1,nS,nd0,s02.free nkn,r.nL,r.aL.lk,Za hL2 nkn,(Za R2.sh.looks nkn).symm,D1,D2,(P6 R2 nkn hkn).own,r.pla.wf,r.pla.hs,l240⟩;obtain ⟨M,eM,M3,M61⟩:∃ M:Int,(if (if (63:Int)<((ns.map V.int).length:Int) then (63:Int) else ((ns.map V.int).length:Int)) > 5 then (if (63:Int)<((ns.map V.int).length:Int) then (63:Int) else ((ns.map V.int).length:Int)) else 5)=M/\5<=M/\M<=63:=by
  refine ⟨_,rfl,?_,?_⟩
  ·(repeat' split) <;> lia
  ·(repeat' split) <;> lia
 refine ⟨_,rfl,a,ns.map V.int,rfl,.inl (s03.seq hSq),_,_,rfl,_,_,rfl,2,M,congrArg (fun z=>[V.int 2,V.int z]) eM,⟨by lia,by lia,by lia,by lia⟩,?_⟩
 clear eM;have tab0:Y3 H Tb qR:=⟨#[],hTb,trivial,fun pos cv h=>by simp [PySem.codeAmong] at h⟩
 have J0:Vm jh ji H H3 ⟨S,d,ts,av,ho,as,kvs⟩ lk ts.length ls Ls kn Tb t1 t2 ks ((t1.rs++t2.rs).map (·.1)):=⟨(R2.same s3).q,fun b o e _=>s03 b o e,s3 _ _ hL2,⟨ZA.tups s3 _ _ T1.tp,T1.rcd.same s3,T1.rt⟩,⟨ZA.tups s3 _ _ T2.tp,T2.rcd.same s3,T2.rt⟩,hkn,kkn,fun t ht=>by
  obtain ⟨x,hx,rfl⟩:=zJ.mp ht;exact (yT.mp hx).elim (fun z=>(T1.fit x z).1) (fun z=>(T2.fit x z).1),tab0.ext (VP.same s03)⟩
 have l3:ls.length<=480:=l480;generalize hX:(⟨S,d,ts,av,ho,as,kvs⟩:YL)=X at C J0;have eS:X.S=S:=by rw [<-hX]
 refine Qu (lo:=2) (n:=(M - 2).toNat) (LaL jh ji H X lk Ls kn Tb a t1 t2) ⟨_,_,_,_,_,_,_,ls,ks,_,by rw [eS];rfl,J0,by lia,by lia⟩ ?_ ?_
 ·rintro i σ H4 hi ⟨x4,x5,x6,x7,x8,x9,c,ls4,us,jI,rfl,j,lus,lls⟩;exact turn _ H H4 X lk c ls4 Ls kn t1 t2 us jI a ns _ _ _ _ _ _ j C (by lia) (by lia) (Cv hTb j.s0 hSq) hn (by lia) (by lia) fun H' y5 y6 y7 y8 y9 ls' us' kts' j' lu' ll'=>⟨_,_,_,_,_,_,_,ls',us',kts',rfl,j',by lia,by lia⟩
 ·rintro σ H4 ⟨x4,x5,x6,x7,x8,x9,c,ls4,us,jI,rfl,j,lus,lls⟩;exact k H4
end Tw
namespace L2
open PySem PySem.Spec
def xC(K:zZ)(C:aj):Bool:=
 (zE K (.ref C) "__getattribute__" == some (some (.builtin "BaseException.__getattribute__")))&&((zE K (.ref C) "__getattr__" == some none)&&((yW K C (.type "BaseException")==some true)&&((yW K C (.type "object")==some true) &&
 ((zE K (.ref C) "__class__" == some (some (.builtin "object.__class__")))&&((PySem.W.specialIn K (.builtin "object.__class__") "__get__" == some (some (.builtin "getset_descriptor.__get__")))&&(PySem.W.takesIn K (.builtin "object.__class__")==some true))))))
theorem GB{K:zZ}{C:aj}(h:xC K C=true):X0 K C:=by
 unfold xC at h;simp only [zQ,beq_iff_eq] at h;obtain ⟨a,b,c,d,e,f,g⟩:=h;exact ⟨a,b,c,d,e,f,g⟩
def xF(K:zZ)(C fI:aj)(f:Str):Bool:=
 xC K C&&(Kd K C&&((zE K (.ref C) "__init__" == some (some (.ref fI)))&&(wU K (.ref fI)&&(yQ K (.ref C)&&((zE K (.ref C) "__setattr__" == some (some (.builtin "object.__setattr__"))) &&
 ((zE K (.ref C) f==some none)&&(wH K C&&GP K C)))))))
theorem GT{K:zZ}{C fI:aj}{f:Str}(h:xF K C fI f=true):Wu K C fI f:=by
 unfold xF at h;simp only [zQ,beq_iff_eq] at h;obtain ⟨a,b,c,d,e,f,g,i,j⟩:=h;exact ⟨GB a,b,c,d,e,f,g,i,j⟩
def Lh(K:zZ)(cs:List aj)(up:je):Bool:=
 (yU cs.length).all fun k=>xC K (cs.getD k 0)&&((yU cs.length).all (fun j=>yX K (.ref (cs.getD k 0)) (.ref (cs.getD j 0))==some (k==j))&&up.all fun v=>yX K (.ref (cs.getD k 0)) v==some true)
theorem KO{K:zZ}{cs:List aj}{up:je}(h:Lh K cs up=true){k:Nat}(hk:k<cs.length):X0 K (cs.getD k 0)/\(∀ j,j<cs.length->yX K (.ref (cs.getD k 0)) (.ref (cs.getD j 0))=some (k==j))/\∀ v∈up,yX K (.ref (cs.getD k 0)) v=some true:=by
 have h1:=zP.mp h k (yA.mpr hk);simp only [zQ] at h1;exact ⟨GB h1.1,fun j hj=>beq_iff_eq.mp (zP.mp h1.2.1 j (yA.mpr hj)),fun v hv=>beq_iff_eq.mp (zP.mp h1.2.2 v hv)⟩
end L2
namespace Tw
open PySem PySem.Spec L2 PyProof.Rows
variable{P:ao}{w:ay}{K:zZ}{mg:jc}{base:aF}{f:aj}{fd:aq}{jh ji CS CT CH CK CP CB:aj}
abbrev Pd:Stmt:=VH (Zq 6) 0
abbrev PV:Stmt:=VH (Zq 8) 0
theorem CV:ZC ["self","number"] ["self","number"] (Ze Pd):=Zp
theorem BF:ZC ["self","at"] ["self","at"] (Ze PV):=Zp
theorem AJ{C:aj}(F:Zj K "__init__" "NoTwig.__init__" Pd f fd):ZJ P w K mg base ZW 1 f fd ["self","number"] (On K C f "number"):=by
 refine F.ok CV (fun vs H Q E h=>(by obtain ⟨_,_,_,rfl,_⟩:=h;rfl)) (fun cdv A outer s H vs Q E hr h=>?_)
 obtain ⟨c,ea,y,rfl,e,k⟩:=h;exact ⟨_,ZU (Ir (pv 0) (pv 1) rfl),⟨_,rfl,_,rfl,QM,ea,_,_,rfl,e,c,k⟩⟩
theorem FN{C:aj}(F:Zj K "__init__" "NoPlace.__init__" PV f fd):ZJ P w K mg base ZW 1 f fd ["self","at"] (On K C f "at"):=by
 refine F.ok BF (fun vs H Q E h=>(by obtain ⟨_,_,_,rfl,_⟩:=h;rfl)) (fun cdv A outer s H vs Q E hr h=>?_)
 obtain ⟨c,ea,y,rfl,e,k⟩:=h;exact ⟨_,ZU (Ir (pv 0) (pv 1) rfl),⟨_,rfl,_,rfl,QM,ea,_,_,rfl,e,c,k⟩⟩
theorem FL{CB CT CK CP:aj}(h:Lh K [CT,CK,CP] [.type "ValueError"]=true)(b:mg "TwigError" = some (.ref CB))(n1:mg "NoTwig" = some (.ref CT))(n2:mg "NoKey" = some (.ref CK))(n3:mg "NoPlace" = some (.ref CP))(ty:yE K (.ref CB)=some (.type "type"))(mB:yW K CB (.type "BaseException")=some true)(sT:yW K CT (.ref CB)=some true)(sK:yW K CK (.ref CB)=some true)(sP:yW K CP (.ref CB)=some true):Cl K mg CB CT CK CP:=by
 obtain ⟨xT,t1,t2⟩:=KO h (k:=0) (by simp)
 obtain ⟨xK,k1,k2⟩:=KO h (k:=1) (by simp)
 obtain ⟨xP,p1,p2⟩:=KO h (k:=2) (by simp)
 have ne:∀{C D:aj},yX K (.ref C) (.ref D)=some false->yX K (.ref D) (.ref D)=some true->C≠D:=fun{C D} h1 h2 e=>by
  rw [e,h2] at h1;cases h1
 have a1:CT≠CK:=ne (t1 1 (by simp)) (k1 1 (by simp))
 have a2:CT≠CP:=ne (t1 2 (by simp)) (p1 2 (by simp))
 have a3:CK≠CP:=ne (k1 2 (by simp)) (p1 2 (by simp))
 refine ⟨b,n1,n2,n3,ty,mB,fun C hC=>?_,a1,a2,a3⟩;rcases hC with rfl | rfl | rfl
 ·refine ⟨sT,xT,fun D hD=>?_,t2 _ (by simp)⟩
  rcases hD with rfl | rfl | rfl
  ·rw [aM rfl];exact t1 0 (by simp)
  ·rw [aK a1];exact t1 1 (by simp)
  ·rw [aK a2];exact t1 2 (by simp)
 ·refine ⟨sK,xK,fun D hD=>?_,k2 _ (by simp)⟩
  rcases hD with rfl | rfl | rfl
  ·rw [aK (Ne.symm a1)];exact k1 0 (by simp)
  ·rw [aM rfl];exact k1 1 (by simp)
  ·rw [aK a3];exact k1 2 (by simp)
 ·refine ⟨sP,xP,fun D hD=>?_,p2 _ (by simp)⟩
  rcases hD with rfl | rfl | rfl
  ·rw [aK (Ne.symm a2)];exact p1 0 (by simp)
  ·rw [aK (Ne.symm a3)];exact p1 1 (by simp)
  ·rw [aM rfl];exact p1 2 (by simp)
structure YG(K:zZ)(C:aj)(m q:Str)(st:aE)(ps:List Str):Prop where
 ex:∃ f fd,QW K C m f/\Zj K m q st f fd/\Zt K fd ps []
theorem YG.of{P:ao}{w:ay}{K:zZ}{mg:jc}{base:aF}{CX:VS}{C:aj}{m q:Str}{st:aE}{ps:List Str}{k:Nat}{sp:Sp}(L:YG K C m q st ps)(h:∀ f fd,Zj K m q st f fd->ZJ P w K mg base CX k f fd ps sp):ZK P w K mg base CX k C m ps sp:=by
 obtain ⟨f,fd,M,F,b⟩:=L.ex;exact ⟨f,fd,M,h f fd F,b⟩
theorem OH{K:zZ}{C f:aj}{m q:Str}{st:aE}{ps:List Str}{od an:Option aj}{sl:Array (jd)}{oc kV dc pm cd ct:ai}(v:zE K (.ref C) m=some (some (.ref f)))(l:K.lookup f=some ⟨oc,od,.func (yH m q (Vs st) (Xv st) (Ze st) .none kV dc pm an cd ct),sl⟩)(fn:wU K (.ref f)=true)(c:xJ K cd q=true)(k:yQ K (.ref f)=true)(hb:∀ (kV doc pm:ai) (an:Option aj) (cdv ct:ai) (us:je),us.length=ps.length->bindArgs (yH m q (Vs st) (Xv st) (Ze st) .none kV doc pm an cdv ct) ⟨us,[]⟩=pure (ps.zip us):=by first | exact (fun _ _ _ _ _ _ us hl=>match us,hl with | [_],_=>rfl) | exact (fun _ _ _ _ _ _ us hl=>match us,hl with | [_,_],_=>rfl) | exact (fun _ _ _ _ _ _ us hl=>match us,hl with | [_,_,_],_=>rfl) | exact (fun _ _ _ _ _ _ us hl=>match us,hl with | [_,_,_,_],_=>rfl) | exact (fun _ _ _ _ _ _ us hl=>match us,hl with | [_,_,_,_,_],_=>rfl)):YG K C m q st ps:=
 ⟨f,_,⟨v,fn,k⟩,UM (st:=st) l c k,(UM (st:=st) l c k).binds hb⟩
structure Uz(K:zZ)(C:aj)(q:Str)(st:aE)(ps:List Str):Prop where
 ex:∃ f fd,zE K (.ref C) "__init__" = some (some (.ref f))/\wU K (.ref f)=true/\Zj K "__init__" q st f fd/\Zt K fd ps []
theorem OS{K:zZ}{C f:aj}{q:Str}{st:aE}{ps:List Str}{od an:Option aj}{sl:Array (jd)}{oc kV dc pm cd ct:ai}(v:zE K (.ref C) "__init__" = some (some (.ref f)))(l:K.lookup f=some ⟨oc,od,.func (yH "__init__" q (Vs st) (Xv st) (Ze st) .none kV dc pm an cd ct),sl⟩)(fn:wU K (.ref f)=true)(c:xJ K cd q=true)(k:yQ K (.ref f)=true)(hb:∀ (kV doc pm:ai) (an:Option aj) (cdv ct:ai) (us:je),us.length=ps.length->bindArgs (yH "__init__" q (Vs st) (Xv st) (Ze st) .none kV doc pm an cdv ct) ⟨us,[]⟩=pure (ps.zip us):=by first | exact (fun _ _ _ _ _ _ us hl=>match us,hl with | [_],_=>rfl) | exact (fun _ _ _ _ _ _ us hl=>match us,hl with | [_,_],_=>rfl) | exact (fun _ _ _ _ _ _ us hl=>match us,hl with | [_,_,_],_=>rfl) | exact (fun _ _ _ _ _ _ us hl=>match us,hl with | [_,_,_,_],_=>rfl) | exact (fun _ _ _ _ _ _ us hl=>match us,hl with | [_,_,_,_,_],_=>rfl)):Uz K C q st ps:=
 ⟨f,_,v,fn,UM (st:=st) l c k,(UM (st:=st) l c k).binds hb⟩
theorem Ml{K:zZ}{x:Str}{f c P:aj}{oc:ai}{od:Option aj}{fd:aq}{sl:Array (jd)}{oc2:ai}{od2:Option aj}{vs:Array ai}{jG:Array (jd)}(a:zM K ar x=some (some (.ref f)))(l:K.lookup f=some ⟨oc,od,.func fd,sl⟩)(e:fd.code=.ref c)(l2:K.lookup c=some ⟨oc2,od2,.fields vs,jG⟩)(v:vs[11]? = some (.ref P)):xR K x=some (c,P):=by
 unfold xR;rw [a];simp only;rw [l];simp only;rw [e];simp only;rw [l2];simp only;rw [v]
theorem Lg{l:uJ}{w:ay}{K:zZ}{h:aF}{mg:jc}{fa cb0 tb0 f51 f58 CB CK CT CP jh ji jN jP:aj}(X:K.In h)(G:h.Ns ar mg)(hfa:mg "law" = some (.ref fa))(hta:xR K "_law_rows_of" = some (cb0,tb0)){od51 an51 od58 an58:Option aj}{sl51 sl58:Array (jd)}{oc51 kV51 dc51 pm51 cd51 ct51 oc58 kV58 dc58 pm58 cd58 ct58:ai}{t1 t2 t3 t4 t5 t6 t7 t8 t9 t10:Tok}(L1:ZZ K mg "is_key" Ln ["thing"])(L2:ZZ K mg "checked" O8 ["thing"])(L3:ZZ K mg "fits" Nt ["thing","room"])(L4:ZZ K mg "has_few_figures" LY ["number"])(L5:ZZ K mg "is_sign" MO ["sign"])(L6:ZZ K mg "ahead" LT ["one","other"])(L7:ZZ K mg "place_in" Lq ["keys","key"])(L8:ZZ K mg "standing" Na ["key"])(L9:ZZ K mg "checked_rows" Mz ["rows"])(L10:ZZ K mg "own_rows" MY ["rows"])(L11:ZZ K mg "rise" Ms ["keys"])(L12:ZZ K mg "label_of_rows" LL ["rows"])(L13:ZZ K mg "label_over" Lo ["labels"])(L14:ZZ K mg "stand_side_by_side" LD ["label","following"])(L15:ZZ K mg "steps_to" Lk ["shelf","root","key"])(L16:ZZ K mg "check_asked" Li ["shelf","root","key"])(L17:ZZ K mg "place_within" Mw ["shelf","found","key"])(L18:ZZ K mg "branch_at" LN ["found","at"])(L19:ZZ K mg "is_leaf" KR ["found"])(L20:ZZ K mg "nth" KG ["shelf","root","at"])(L21:ZZ K mg "branch_with" Ko ["shelf","branches","at"])(L22:ZZ K mg "place_of" LA ["shelf","root","key"])(L23:ZZ K mg "rows_ahead" LO ["shelf","step"])(L24:ZZ K mg "from_key" Mu ["shelf","root","key"])(L25:ZZ K mg "before_key" M9 ["shelf","root","key"])(L26:ZZ K mg "row_at" Mb ["shelf","root","at"])(L27:ZZ K mg "many_between" Kc ["shelf","root","low","high"])(L28:ZZ K mg "rows_under" Nd ["shelf","root"])(L29:ZZ K mg "is_stem" KL ["twig"])(L30:ZZ K mg "_law_well" LX ["_law_script","_law_k"])(L31:ZZ K mg "_law_pull" M7 ["_law_well_here","_law_many"])(L32:ZZ K mg "_law_great" Kh ["_law_well_here","_law_bound"])(L33:ZZ K mg "_law_text" KJ ["_law_well_here"])(L34:ZZ K mg "_law_key" No ["_law_well_here","_law_room"])(L35:ZZ K mg "_law_rank" Nn ["_law_spot"])(L36:ZZ K mg "_law_sorted" MG ["_law_model"])(L37:ZZ K mg "_law_keys" LU ["_law_well_here","_law_many"])(L38:ZZ K mg "_law_cut" P9 ["_law_well_here","_law_things","_law_few","_law_stem"])(L39:ZZ K mg "_law_plant" QB ["_law_well_here","_law_shelf","_law_rows"])(L40:ZZ K mg "_law_reached" Kb ["_law_shelf","_law_root_here","_law_found"])(L41:ZZ K mg "_law_alike" NE ["_law_found","_law_due"])(L42:ZZ K mg "_law_rows_alike" Mh ["_law_found","_law_due"])(L43:ZZ K mg "_law_value" MS ["_law_well_here"])(L44:ZZ K mg "_law_any_key" Ka ["_law_well_here","_law_known_here"])(L45:ZZ K mg "_law_ground" Lr ["_law_well_here","_law_most"])(L46:ZZ K mg "_law_bad" MV ["_law_well_here"])(L47:ZZ K mg "_law_gone" Ly ["_law_well_here","_law_shelf"])(L48:ZZ K mg "_law_trees" M2 ["_law_script","_law_shelf"])(L49:ZZ K mg "_law_known" LC ["_law_trees_here"])(L50:ZZ K mg "_law_below" LH ["_law_record","_law_root_here"])(a51:zM K ar "_law_rows_of" = some (some (.ref f51)))(l51:K.lookup f51=some ⟨oc51,od51,.func (yH "_law_rows_of" "_law_rows_of" (Vs Qd) (Xv Qd) (Ze Qd) .none kV51 dc51 pm51 an51 cd51 ct51),sl51⟩)(c51:xJ K cd51 "_law_rows_of" = true)(k51:yQ K (.ref f51)=true)(L52:ZZ K mg "_law_root" Kj ["_law_well_here","_law_trees_here"])(L53:ZZ K mg "_law_told" KW ["_law_way","_law_shelf","_law_root_here","_law_one","_law_other"])(L54:ZZ K mg "_law_refusal" ME ["_law_way","_law_shelf","_law_root_here","_law_one","_law_other"])(L55:ZZ K mg "_law_between" KB ["_law_rows","_law_low","_law_high"])(L56:ZZ K mg "_law_asked" MZ ["_law_shelf","_law_root_here","_law_rows","_law_spot","_law_other"])(L57:ZZ K mg "_law_refuses" KU ["_law_well_here","_law_shelf","_law_root_here","_law_spot"])(a58:zM K ar "law" = some (some (.ref f58)))(l58:K.lookup f58=some ⟨oc58,od58,.func (yH "law" "law" (Vs UV) (Xv UV) (Ze UV) .none kV58 dc58 pm58 an58 cd58 ct58),sl58⟩)(c58:xJ K cd58 "law" = true)(k58:yQ K (.ref f58)=true)(z1:zM K ar "isinstance" = some none)(z2:zM K ar "bool" = some none)(z3:zM K ar "int" = some none)(z4:zM K ar "str" = some none)(z5:zM K ar "tuple" = some none)(z6:zM K ar "list" = some none)(z7:zM K ar "len" = some none)(z8:zM K ar "all" = some none)(z9:zM K ar "abs" = some none)(z10:zM K ar "max" = some none)(z11:zM K ar "min" = some none)(z12:zM K ar "range" = some none)(z13:zM K ar "sorted" = some none)(z14:zM K ar "ValueError" = some none)(z15:zM K ar "sum" = some none)(m1_:zM K ar "MOST_SIGNS" = some (some (.int 40 t1)))(m2_:zM K ar "MOST_THINGS" = some (some (.int 4 t2)))(m3_:zM K ar "MOST_DEEP" = some (some (.int 3 t3)))(m4_:zM K ar "MOST_ROWS" = some (some (.int 4 t4)))(m5_:zM K ar "FEWEST_BRANCHES" = some (some (.int 2 t5)))(m6_:zM K ar "MOST_BRANCHES" = some (some (.int 4 t6)))(m7_:zM K ar "HEIGHT" = some (some (.int 0 t7)))(m8_:zM K ar "LEAST" = some (some (.int 1 t8)))(m9_:zM K ar "GREATEST" = some (some (.int 2 t9)))(m10_:zM K ar "MANY" = some (some (.int 3 t10)))(IjS:Uz K jh "Shelf.__init__" MX ["self"])(IjT:Uz K ji "Twig.__init__" M0 ["self","things","tag"]){ocjN kVjN dcjN pmjN cdjN ctjN:ai}{odjN anjN:Option aj}{sljN:Array (jd)}(iljN:K.lookup jN=some ⟨ocjN,odjN,.func (yH "__init__" "NoTwig.__init__" (Vs Pd) (Xv Pd) (Ze Pd) .none kVjN dcjN pmjN anjN cdjN ctjN),sljN⟩)(icjN:xJ K cdjN "NoTwig.__init__" = true)(ikjN:yQ K (.ref jN)=true){ocjP kVjP dcjP pmjP cdjP ctjP:ai}{odjP anjP:Option aj}{sljP:Array (jd)}(iljP:K.lookup jP=some ⟨ocjP,odjP,.func (yH "__init__" "NoPlace.__init__" (Vs PV) (Xv PV) (Ze PV) .none kVjP dcjP pmjP anjP cdjP ctjP),sljP⟩)(icjP:xJ K cdjP "NoPlace.__init__" = true)(ikjP:yQ K (.ref jP)=true)(Mm1:YG K jh "put_leaf" "Shelf.put_leaf" LV ["self","rows"])(Mm2:YG K jh "put_stem" "Shelf.put_stem" LZ ["self","numbers"])(Mm3:YG K jh "put_twig" "Shelf.put_twig" MD ["self","things","label"])(Mm4:YG K jh "holders" "Shelf.holders" MB ["self","number"])(Mm5:YG K jh "outside" "Shelf.outside" LQ ["self","number"])(Mm6:YG K jh "let_go" "Shelf.let_go" Mx ["self","number"])(Mm7:YG K jh "look" "Shelf.look" Mf ["self","number"])(Mm8:YG K jh "label" "Shelf.label" NY ["self","number"])(Mm11:YG K jh "drop_unheld" "Shelf.drop_unheld" KQ ["self","number"])(Mm12:YG K jh "twig_of" "Shelf.twig_of" Ny ["self","number"])(Mm13:YG K jh "labels_of" "Shelf.labels_of" Kp ["self","numbers"])(Mm14:YG K jh "check_held" "Shelf.check_held" LW ["self","numbers"])(Mm15:YG K jh "take_over" "Shelf.take_over" MU ["self","stem","branches"])(xCB:zM K ar "TwigError" = some (some (.ref CB)))(xCK:zM K ar "NoKey" = some (some (.ref CK)))(xCT:zM K ar "NoTwig" = some (some (.ref CT)))(xCP:zM K ar "NoPlace" = some (some (.ref CP)))(xCSh:zM K ar "Shelf" = some (some (.ref jh)))(xCTw:zM K ar "Twig" = some (some (.ref ji)))(vjN:zE K (.ref CT) "__init__" = some (some (.ref jN)))(vjP:zE K (.ref CP) "__init__" = some (some (.ref jP)))(mkCSh:uI K jh=true)(kpCSh:yQ K (.ref jh)=true)(pgCSh:vX K jh Str.empty=true)(hdCSh:wH K jh=true)(poCSh:uC K jh=true)(saCSh:zE K (.ref jh) "__setattr__" = some (some (.builtin "object.__setattr__")))(mkCTw:uI K ji=true)(kpCTw:yQ K (.ref ji)=true)(pgCTw:vX K ji Str.empty=true)(hdCTw:wH K ji=true)(poCTw:uC K ji=true)(saCTw:zE K (.ref ji) "__setattr__" = some (some (.builtin "object.__setattr__")))(na_kept:zE K (.ref jh) "kept" = some none)(na_following:zE K (.ref jh) "following" = some none)(na_looks:zE K (.ref jh) "looks" = some none)(na_things:zE K (.ref ji) "things" = some none)(na_tag:zE K (.ref ji) "tag" = some none)(na_above:zE K (.ref ji) "above" = some none)(na_holds:zE K (.ref ji) "holds" = some none)(tyB:yE K (.ref CB)=some (.type "type"))(mB:yW K CB (.type "BaseException")=some true)(kitx:Lh K [CT,CK,CP] [.type "ValueError"]=true)(wCT:xF K CT jN "number" = true)(tyCT:yE K (.ref CT)=some (.type "type"))(wCP:xF K CP jP "at" = true)(tyCP:yE K (.ref CP)=some (.type "type"))(mBCP:yW K CP (.type "BaseException")=some true)(sbPP:yW K CP (.ref CP)=some true)(sbCT:yW K CT (.ref CB)=some true)(sbCK:yW K CK (.ref CB)=some true)(sbCP:yW K CP (.ref CB)=some true)(exCK:uO K CK Q8 "ValueError.__new__" = true)(kpCK:yQ K (.ref CK)=true)(mBCK:yW K CK (.type "BaseException")=some true)(tyCK:yE K (.ref CK)=some (.type "type")):
  ∃ fd:aq,(∀(s:am)(v:ai),BindsTo s fd ⟨[v],[]⟩ [("_law_script",v)])/\∀ base:aF,K.In base->base.Ns ar mg->wQ base cb0 tb0->base.BuiltinsAt mg tb0->ZJ l.prog w K mg base ZW 40 fa fd ["_law_script"] (Wx tb0 K):=by
 have e:=hfa.symm.trans (yP X G a58);cases e;have T:YF mg:=⟨yF X G z1,yF X G z2,yF X G z3,yF X G z4,yF X G z5,yF X G z6,yF X G z7,yF X G z8,yF X G z9,yF X G z10,yF X G z11,yF X G z12,yF X G z13,yF X G z14,yF X G z15,⟨_,yP X G m1_⟩,⟨_,yP X G m2_⟩,⟨_,yP X G m3_⟩,⟨_,yP X G m4_⟩,⟨_,yP X G m5_⟩,⟨_,yP X G m6_⟩,⟨_,yP X G m7_⟩,⟨_,yP X G m8_⟩,⟨_,yP X G m9_⟩,⟨_,yP X G m10_⟩⟩;refine ⟨yH "law" "law" (Vs UV) (Xv UV) (Ze UV) .none kV58 dc58 pm58 an58 cd58 ct58,fun s v=>.of_eq rfl,fun base kb _ hC hB=>?_⟩;have CLx:Cl K mg CB CT CK CP:=FL kitx (yP X G xCB) (yP X G xCT) (yP X G xCK) (yP X G xCP) tyB mB sbCT sbCK sbCP;have SHx:XA K mg jh ji:=⟨(yP X G xCSh),(yP X G xCTw),⟨pgCSh,hdCSh,poCSh,saCSh⟩,⟨pgCTw,hdCTw,poCTw,saCTw⟩,na_kept,na_following,na_looks,na_things,na_tag,na_above,na_holds⟩;have NTw:XN l.prog w K mg base "NoTwig" CT "number" :=⟨⟨jN,_,GT wCT,AJ (UM (st:=Pd) iljN icjN ikjN),(UM (st:=Pd) iljN icjN ikjN).binds fun _ _ _ _ _ _ us hl=>match us,hl with | [_,_],_=>rfl⟩,(yP X G xCT),tyCT⟩
 have NPl:XN l.prog w K mg base "NoPlace" CP "at" :=⟨⟨jP,_,GT wCP,FN (UM (st:=PV) iljP icjP ikjP),(UM (st:=PV) iljP icjP ikjP).binds fun _ _ _ _ _ _ us hl=>match us,hl with | [_,_],_=>rfl⟩,(yP X G xCP),tyCP⟩
 have XKx:Ii K mg CK:=⟨(yP X G xCK),exCK,kpCK,mBCK,tyCK⟩;have DMS:UP l.prog w K mg base 1 jh ["self"] (Uk jh):=by obtain ⟨f,fd,v,fn,F,b⟩:=IjS.ex;exact ⟨f,fd,⟨mkCSh,v,fn,kpCSh⟩,ZOA F SHx,b⟩
 have DMT:UP l.prog w K mg base 1 ji ["self","things","tag"] (Uf ji):=by obtain ⟨f,fd,v,fn,F,b⟩:=IjT.ex;exact ⟨f,fd,⟨mkCTw,v,fn,kpCTw⟩,ZNw F SHx,b⟩
 have MTo:ZK l.prog w K mg base ZW 1 jh "twig_of" ["self","number"] (YB jh):=Mm12.of fun _ _ F=>B7 F SHx;have MOu:ZK l.prog w K mg base ZW 2 jh "outside" ["self","number"] (WQ jh ji fun _ ho _=>.int ho):=Mm5.of fun _ _ F=>BM F SHx MTo;have MLa:ZK l.prog w K mg base ZW 2 jh "label" ["self","number"] (WQ jh ji fun tg _ _=>tg):=Mm8.of fun _ _ F=>ZK6 F SHx MTo;have MHo:ZK l.prog w K mg base ZW 2 jh "holders" ["self","number"] (WQ jh ji fun _ ho us=>.int ((us.length:Nat)+(ho:Nat):Int)):=Mm4.of fun _ _ F=>Cs F T SHx MTo;have DIs:ZB l.prog w K mg base 1 "is_stem" ["twig"] (Wh ji):=L29.of fun _ _ F=>Cj F T SHx;have MLo:ZK l.prog w K mg base ZW 2 jh "look" ["self","number"] (Vv jh ji):=Mm7.of fun _ _ F=>Al F T SHx MTo DIs;have MLq:=ZMR MLo;have MBq:=Dz MLa;have MPt:ZK l.prog w K mg base ZW 3 jh "put_twig" ["self","things","label"] (Y5 jh ji):=Mm3.of fun _ _ F=>DQ F SHx DMT;have MTk:ZK l.prog w K mg base ZW 2 jh "take_over" ["self","stem","branches"] (XG jh ji):=Mm15.of fun _ _ F=>AU F SHx MTo;have MTd:ZK l.prog w K mg base (XD l.prog w) 3 jh "twig_of" ["self","number"] (Xa jh CT):=Mm12.of fun _ _ F=>BC F SHx NTw;have MLd:ZK l.prog w K mg base (XD l.prog w) 4 jh "label" ["self","number"] (XX jh ji CT):=Mm8.of fun _ _ F=>AM F SHx MTd;have MLs:ZK l.prog w K mg base ZW 3 jh "labels_of" ["self","numbers"] (Yy jh ji):=Mm13.of fun _ _ F=>Dl F SHx MLa;have MCh:ZK l.prog w K mg base ZW 3 jh "check_held" ["self","numbers"] (YJ jh ji):=Mm14.of fun _ _ F=>ZEp F SHx MOu;have MDr:ZK l.prog w K mg base ZW 3 jh "drop_unheld" ["self","number"] (Vg jh ji):=Mm11.of fun _ _ F=>AO F SHx MHo DIs;have MLg:ZK l.prog w K mg base ZW 4 jh "let_go" ["self","number"] (Wp jh ji):=Mm6.of fun _ _ F=>FP F SHx MCh MTo MDr;have DP:ZB l.prog w K mg base 1 "_law_pull" ["_law_well_here","_law_many"] (Zr):=L31.of fun _ _ F=>ZNa F;have DW:ZB l.prog w K mg base 1 "_law_well" ["_law_script","_law_k"] (WG K):=L30.of fun _ _ F=>BE F T;have DG:ZB l.prog w K mg base 2 "_law_great" ["_law_well_here","_law_bound"] (Zr):=L32.of fun _ _ F=>BU F T DP;have DT:ZB l.prog w K mg base 2 "_law_text" ["_law_well_here"] (Xz):=L33.of fun _ _ F=>BO F T DP;have DN:ZB l.prog w K mg base 1 "has_few_figures" ["number"] (V9):=L4.of fun _ _ F=>CL F T;have DSg:ZB l.prog w K mg base 1 "is_sign" ["sign"] (VA):=L5.of fun _ _ F=>EX F;have DIg:ZB l.prog w K mg base 6 "is_key" ["thing"] (XQ):=L1.of fun _ _ F=>ZKh F T (Hu T L3 DN DSg 4);have DIk:=C1 DIg;have DC:ZB l.prog w K mg base 7 "checked" ["thing"] (U3):=L2.of fun _ _ F=>CF F DIk;have DSt:ZB l.prog w K mg base 6 "standing" ["key"] (Vq 5):=Ih T L8 5;have DAh:ZB l.prog w K mg base 7 "ahead" ["one","other"] (Yo):=L6.of fun _ _ F=>Ab F DSt;have DRi:ZB l.prog w K mg base 8 "rise" ["keys"] (VF):=L11.of fun _ _ F=>ZMp F T DAh;have DOw:ZB l.prog w K mg base 8 "own_rows" ["rows"] (Xd):=L10.of fun _ _ F=>AX F DC;have DCr:ZB l.prog w K mg base 9 "checked_rows" ["rows"] (WJ):=L9.of fun _ _ F=>ZJW F T DOw DRi;have DLR:ZB l.prog w K mg base 1 "label_of_rows" ["rows"] (Xh):=L12.of fun _ _ F=>CG F T;have MPg:ZK l.prog w K mg base ZW 10 jh "put_leaf" ["self","rows"] (Yk jh ji):=Mm1.of fun _ _ F=>AC F SHx DCr DLR MPt;have MPl:=F2 MPg;have DSi:ZB l.prog w K mg base 8 "stand_side_by_side" ["label","following"] (Vh):=L14.of fun _ _ F=>ZM8 F T DAh;have DOv:ZB l.prog w K mg base 9 "label_over" ["labels"] (Wj):=L13.of fun _ _ F=>By F T DSi;have MPs:ZK l.prog w K mg base ZW 10 jh "put_stem" ["self","numbers"] (Z9 [] jh ji):=Mm2.of fun _ _ F=>F4 F T SHx MLs DOv MCh MPt MTk;have DPi:ZB l.prog w K mg base 8 "place_in" ["keys","key"] (Wz K):=L7.of fun _ _ F=>ZLP F T DAh;have DIl:ZB l.prog w K mg base 1 "is_leaf" ["found"] (Yb):=L19.of fun _ _ F=>ZIj F;have DBa:ZB l.prog w K mg base 2 "branch_at" ["found","at"] (XF):=L18.of fun _ _ F=>Bt F DIl;have DPw:ZB l.prog w K mg base 9 "place_within" ["shelf","found","key"] (X5 [] jh ji):=L17.of fun _ _ F=>EU F T SHx DIl DPi DAh MBq;have DCd:Z3 l.prog w K mg base 7 "checked" ["thing"] (YN CK):=L2.ofD fun _ _ F=>Ft F kb XKx DIg;have DCa:Z3 l.prog w K mg base 8 "check_asked" ["shelf","root","key"] (YH jh ji CT CK):=L16.ofD fun _ _ F=>Aw F SHx MLd DCd;have DSs:Z3 l.prog w K mg base 10 "steps_to" ["shelf","root","key"] (VD [] jh ji CT CK):=L15.ofD fun _ _ F=>Eu F SHx DCa MLq DPw DBa;have DRu:ZB l.prog w K mg base 3 "rows_under" ["shelf","root"] (Xt jh ji):=L28.of fun _ _ F=>ZK3 F T SHx MBq;have DRd:Z3 l.prog w K mg base 5 "rows_under" ["shelf","root"] (Wn jh ji CT):=L28.ofD fun _ _ F=>ZK4 F T SHx MLd;have DBw:ZB l.prog w K mg base 4 "branch_with" ["shelf","branches","at"] (Xf jh ji):=L21.of fun _ _ F=>EJ F DRu;have DNt:Z3 l.prog w K mg base 6 "nth" ["shelf","root","at"] (Ux [] jh ji CT CP):=L20.ofD fun _ _ F=>CW F SHx NPl DRd MLq DIl DBw;have DRa:ZB l.prog w K mg base 4 "rows_ahead" ["shelf","step"] (Wo [] jh ji):=L23.of fun _ _ F=>ZLL F T DIl DRu;have DPo:Z3 l.prog w K mg base 11 "place_of" ["shelf","root","key"] (YZ [] jh ji CT CK):=L22.ofD fun _ _ F=>Bo F T DSs DRa;have DK:ZB l.prog w K mg base 6 "_law_key" ["_law_well_here","_law_room"] (XC 4):=Jn T L34 DP DG DT 4;have DRk:ZB l.prog w K mg base 6 "_law_rank" ["_law_spot"] (Yh 5):=Jw T L35 5;have DSo:ZB l.prog w K mg base 9 "_law_sorted" ["_law_model"] (X4 w):=L36.of fun _ _ F=>Ck F T DRk;have DKs:ZB l.prog w K mg base 9 "_law_keys" ["_law_well_here","_law_many"] (Ve):=L37.of fun _ _ F=>Bf F T DK DRk;have DCu:ZB l.prog w K mg base 2 "_law_cut" ["_law_well_here","_law_things","_law_few","_law_stem"] (V3):=L38.of fun _ _ F=>CJ F T DP;have DPl:ZB l.prog w K mg base 11 "_law_plant" ["_law_well_here","_law_shelf","_law_rows"] (Wk [] jh ji):=L39.of fun _ _ F=>CY F T SHx DP DCu MPs MPl;have DRe:ZB l.prog w K mg base 3 "_law_reached" ["_law_shelf","_law_root_here","_law_found"] (Xe [] jh ji):=L40.of fun _ _ F=>ZHr F T SHx MLq;have DV:ZB l.prog w K mg base 7 "_law_value" ["_law_well_here"] (Wf):=L43.of fun _ _ F=>Bj F DP DK;have DAk:ZB l.prog w K mg base 7 "_law_any_key" ["_law_well_here","_law_known_here"] (XR):=L44.of fun _ _ F=>Em F T DP DK;have DGr:ZB l.prog w K mg base 10 "_law_ground" ["_law_well_here","_law_most"] (X7 w):=L45.of fun _ _ F=>ZIO F DP DKs DV;have DBd:ZB l.prog w K mg base 2 "_law_bad" ["_law_well_here"] (Ut):=L46.of fun _ _ F=>Am F DP;have DGo:ZB l.prog w K mg base 11 "_law_gone" ["_law_well_here","_law_shelf"] (Vl jh ji):=L47.of fun _ _ F=>ZMv F SHx DP MPg MLg;have DTr:ZB l.prog w K mg base 12 "_law_trees" ["_law_script","_law_shelf"] (VC [] K jh ji):=L48.of fun _ _ F=>ZK2 F T DW DGr DSo DPl DRe;have DKn:ZB l.prog w K mg base 1 "_law_known" ["_law_trees_here"] (Wv):=L49.of fun _ _ F=>CU F;have DAl:ZB l.prog w K mg base 7 "_law_alike" ["_law_found","_law_due"] (Yc 6):=K4 T L41 6;have DRl:ZB l.prog w K mg base 8 "_law_rows_alike" ["_law_found","_law_due"] (WI):=L42.of fun _ _ F=>ZId F T DAl;have DRw:ZB l.prog w K mg base 7 "row_at" ["shelf","root","at"] (Xp [] jh ji):=L26.of fun _ _ F=>Dn F NPl mBCP sbPP DNt;have DFk:Z3 l.prog w K mg base 12 "from_key" ["shelf","root","key"] (Z8 0 [] jh ji CT CK):=L24.ofD fun _ _ F=>Fu F DPo DRw;have DBk:Z3 l.prog w K mg base 12 "before_key" ["shelf","root","key"] (Z8 (-1) [] jh ji CT CK):=L25.ofD fun _ _ F=>ZKB F DPo DRw;have DMb:Z3 l.prog w K mg base 12 "many_between" ["shelf","root","low","high"] (Yn [] jh ji CT CK):=L27.ofD fun _ _ F=>A8 F DCa DCd DAh DPo;have DBl:ZB l.prog w K mg base 1 "_law_below" ["_law_record","_law_root_here"] (Wr []):=L50.of fun _ _ F=>BQ F T;have DRo:ZB l.prog w K mg base 10 "_law_rows_of" ["_law_record","_law_root_here"] (XS [] tb0):=⟨f51,_,AE (UM (st:=Qd) l51 c51 k51) a51 hta hC hB T DBl DRk,(UM (st:=Qd) l51 c51 k51).binds fun _ _ _ _ _ _ us hl=>match us,hl with | [_,_],_=>rfl,k51,yP X G a51⟩
 have DRt:ZB l.prog w K mg base 2 "_law_root" ["_law_well_here","_law_trees_here"] (Wl []):=L52.of fun _ _ F=>Fr F T DP;have DTd:Z3 l.prog w K mg base 13 "_law_told" ["_law_way","_law_shelf","_law_root_here","_law_one","_law_other"] (Vw [] jh ji CT CK):=L53.ofD fun _ _ F=>Bp F DFk DBk DMb;have DRf:ZB l.prog w K mg base 14 "_law_refusal" ["_law_way","_law_shelf","_law_root_here","_law_one","_law_other"] (Xc [] jh ji):=L54.of fun _ _ F=>AZ F T NTw CLx DTd;have DBt:ZB l.prog w K mg base 7 "_law_between" ["_law_rows","_law_low","_law_high"] (XY):=L55.of fun _ _ F=>Dr F T DRk;have DAs:ZB l.prog w K mg base 13 "_law_asked" ["_law_shelf","_law_root_here","_law_rows","_law_spot","_law_other"] (Xw [] jh ji):=L56.of fun _ _ F=>Ey F T DFk DBk DMb DRk DAl DRl DBt;have DRg:ZB l.prog w K mg base 15 "_law_refuses" ["_law_well_here","_law_shelf","_law_root_here","_law_spot"] (Y6 [] jh ji):=L57.of fun _ _ F=>FT F T DBd DGo DRf;exact EI (UM (st:=UV) l58 c58 k58) T SHx DMS DW DTr DKn DRt DAk DRo DAs DRg
theorem OF{o:Option (aj×aj)}{x:aj×aj}(h:o=some x):o.isSome=true:=by rw [h];rfl
theorem CA{l:uJ}{q:ao}{loose:List Str}{XP:(jc)->aF->Prop}{YP:ay->aF->Prop}{d:DefRec}{K:Params->zZ}(hn:l.most=some 63)(hdf:d.params.defaults=[])(hY:∀ (w:ay) (h:aF),YP w h->(K w.params).In h)(hrec:((recsOf q).find? (fun e=>e.name==(("_law_rows_of" : String):Str))).isSome=true)(htab:∀ w:ay,(xR (K w.params) "_law_rows_of").isSome=true)(hnt:∀ w:ay,rY (K w.params)=true)(F:∀ (w:ay) (mg:jc) (fa:aj) (h:aF) (c T:aj),(K w.params).In h->h.Ns ar mg->mg d.name=some (.ref fa)->xR (K w.params) "_law_rows_of" = some (c,T) ->
   ∃ fd:aq,(∀ (s:am) (u:ai),BindsTo s fd ⟨[u],[]⟩ [("_law_script",u)])/\∀ base:aF,(K w.params).In base->base.Ns ar mg->wQ base c T->base.BuiltinsAt mg T->ZJ l.prog w (K w.params) mg base ZW 40 fa fd ["_law_script"] (Wx T (K w.params))):
  tN q loose XP YP l.row.toRowW d [] (fun f vs=>PySem.call f vs):=
 L2.Of (n:=63) (k:=40) (x:= "_law_script") (px:= "_law_rows_of") (sp:=fun T K=>Wx T K) hn (by decide) hdf ⟨rfl,by decide,by decide⟩ hY (Option.some_get hrec).symm (fun w=>⟨_,_,((Option.some_get (htab w)).symm.trans (by rfl))⟩) hnt F (fun _ _ _ a ns hl hT hS=>⟨a,ns,rfl,hS,hl,hT,fun _=>rfl⟩)
end Tw
open PySem PySem.W PyProof.Rows
namespace PySem.W.Fast
def tw10014987706976748174:=0
def tw10052395096754756879:=0
def tw10088162586652742292:=0
def tw10091114214690775780:=0
def tw10109183964087153812:=0
def tw10111892224106742784:=0
def tw10137877802382975678:=0
def tw10218834594071064960:=0
def tw10235742567163318491:=0
def tw10239232377867334806:=0
def tw10288752002998207592:=0
def tw10290422473398917577:=0
def tw10440393064053070679:=0
def tw10490128002412571036:=0
def tw10602691346554648015:=0
def tw10636838190843792253:=0
def tw10693856696730107299:=0
def tw10762042377279086199:=0
def tw10775154086908889908:=0
def tw10975416276380410387:=0
def tw1099641736639078437:=0
def tw11010949076655272726:=0
def tw11016103609004984308:=0
def tw11019393902286514617:=0
def tw11027269404794320971:=0
def tw11041303646089108448:=0
def tw11119421014599141681:=0
def tw11192178731424363295:=0
def tw11295359472431724932:=0
def tw11318490419335962755:=0
def tw11353193128631112775:=0
def tw11423544957626826306:=0
def tw11478742557792795908:=0
def tw11557598216355786159:=0
def tw1160451511784903787:=0
def tw11619208622023175077:=0
def tw11646630989727773121:=0
def tw11655380292213112404:=0
def tw11712036829478585805:=0
def tw1172179225254323438:=0
def tw11740189542408094823:=0
def tw11776678469091942885:=0
def tw1177870374768877488:=0
def tw11786383992948526014:=0
def tw11789283440762369353:=0
def tw11844711931254991422:=0
def tw11865289817151342198:=0
def tw11869750158631296736:=0
def tw11930528656100893497:=0
def tw11961384900448905184:=0
def tw12007427043751183159:=0
def tw12012320162860449512:=0
def tw12012727596572483517:=0
def tw1202285512426790872:=0
def tw12043407172183551225:=0
def tw12064737224658675694:=0
def tw12194381430924257255:=0
def tw12244471857541298536:=0
def tw12249358550932782656:=0
def tw12267200353341883213:=0
def tw12305567704392280213:=0
def tw12308608259921803260:=0
def tw12315530157162349114:=0
def tw12374660797164211470:=0
def tw12376493258078754208:=0
def tw1238799491123274753:=0
def tw12424638883675629675:=0
def tw12462466043580668969:=0
def tw12486577645378789218:=0
def tw12491227856446148974:=0
def tw12537830624737527975:=0
def tw12548421743222639301:=0
def tw126089587685249609:=0
def tw12613743652758105563:=0
def tw12615689961978305559:=0
def tw12850271825883585273:=0
def tw12877857574708702283:=0
def tw12891322300679702784:=0
def tw12891330785817761535:=0
def tw1290742824534864284:=0
def tw12921961352234495765:=0
def tw1293347461251912032:=0
def tw12969212509395088513:=0
def tw1301671295975063796:=0
def tw13095379707716161115:=0
def tw1312476031317874516:=0
def tw13184688803324697701:=0
def tw13192571001878031720:=0
def tw1320414087980003862:=0
def tw13204463753375510897:=0
def tw13216023459537691280:=0
def tw13263912518435060365:=0
def tw13267725593366482523:=0
def tw13328795904539203443:=0
def tw13335974149466592924:=0
def tw13362904654721070915:=0
def tw13458005809783220219:=0
def tw13482694822089196701:=0
def tw13540098572274723528:=0
def tw13594464386728956515:=0
def tw13610706919175434971:=0
def tw13679259925305592034:=0
def tw13746188428050572744:=0
def tw13849461035086663277:=0
def tw13851702326441519784:=0
def tw13870849041930280822:=0
def tw13889592795090056774:=0
def tw13917833582219574600:=0
def tw13924278608321337083:=0
def tw13946684447628367608:=0
def tw13992376103387639177:=0
def tw13996263127986766961:=0
def tw14028367148207880631:=0
def tw14164728419846609062:=0
def tw1420012655732307079:=0
def tw14200813171269468563:=0
def tw14226321473494578249:=0
def tw14234035528557513430:=0
def tw14239610983961709005:=0
def tw14247494804741368595:=0
def tw14273369544389870258:=0
def tw14309948540782762820:=0
def tw14349410073180122007:=0
def tw1435577445711434744:=0
def tw14370920389363457259:=0
def tw14392526265435554234:=0
def tw14440198743030945354:=0
def tw14457474151833119918:=0
def tw14477985059345157157:=0
def tw14567650914851772662:=0
def tw14575930180718908429:=0
def tw14618370137820865564:=0
def tw14641425018506780326:=0
def tw14667165629881637638:=0
def tw14707918126182038479:=0
def tw14754783146316432762:=0
def tw14761775327569644939:=0
def tw14786357427882157702:=0
def tw14787224688667608139:=0
def tw14810643311838172102:=0
def tw14854580156249142713:=0
def tw14925279156956885137:=0
def tw1493692459616148658:=0
def tw14962565432606376265:=0
def tw14977246205402000082:=0
def tw15019361210021344950:=0
def tw15032522328302801994:=0
def tw15045554463080161910:=0
def tw15103186040151539332:=0
def tw15155243072407011047:=0
def tw15161181190245235416:=0
def tw15171017134538923362:=0
def tw15181101078499415442:=0
def tw15190892029703218812:=0
def tw1519360299441445156:=0
def tw15231195503077143097:=0
def tw15238812775043025077:=0
def tw15241638568951114034:=0
def tw15252402641850430104:=0
def tw15294239495813231462:=0
def tw15315864439208465153:=0
def tw15317565989307052925:=0
def tw15321045266901392783:=0
def tw15341543293360476321:=0
def tw15365958866307142911:=0
def tw1537494535798571275:=0
def tw15440873754902165886:=0
def tw15474603827425685478:=0
def tw15481466442690687621:=0
def tw15493297691550910659:=0
def tw15495395922735899357:=0
def tw15513124736338528191:=0
def tw15523604480791307197:=0
def tw15606024026753622545:=0
def tw15640439772308409836:=0
def tw15707882176109864078:=0
def tw15751766448894726620:=0
def tw15790706382926277677:=0
def tw15801133693208945098:=0
def tw15804282789065120926:=0
def tw15819899984225427618:=0
def tw15835851160169808865:=0
def tw15838187508095937862:=0
def tw15847345936338271849:=0
def tw15859459027230826218:=0
def tw15865307557833324576:=0
def tw15891087850976424979:=0
def tw15958771244350201747:=0
def tw15975666536635764756:=0
def tw15984451530964483340:=0
def tw16001334810565548305:=0
def tw16015010392904482177:=0
def tw16028626511661289893:=0
def tw16060460622328485261:=0
def tw16075336968294690976:=0
def tw16128811751796022360:=0
def tw16169097822386721899:=0
def tw16183181242323320336:=0
def tw16205609830435597169:=0
def tw16261753393224158375:=0
def tw16295249289786422328:=0
def tw16355391623069218337:=0
def tw16409146306149523987:=0
def tw1641667477222917975:=0
def tw16420597818745863541:=0
def tw16421247212504873835:=0
def tw16442298452019610600:=0
def tw16463719532550142313:=0
def tw16545390890587583472:=0
def tw16564365306517451167:=0
def tw16574008820491671867:=0
def tw16626224675586668150:=0
def tw16649946520200036455:=0
def tw16698123390467288342:=0
def tw16702722123467702804:=0
def tw16704837963638032684:=0
def tw167078231622397499:=0
def tw1671570543597719379:=0
def tw16743142798555647358:=0
def tw16756459830359927749:=0
def tw1677765764102588792:=0
def tw16779231722872777899:=0
def tw16817962046096394451:=0
def tw16841613526292942783:=0
def tw16950845801218276418:=0
def tw16964494324272722585:=0
def tw17005720043410275936:=0
def tw17007978774295836349:=0
def tw17010839005340172524:=0
def tw17019099830671019860:=0
def tw17023555080467901324:=0
def tw17099560884289872978:=0
def tw17258501952276824422:=0
def tw17284802842391157462:=0
def tw17293664522948701084:=0
def tw17316559256223767340:=0
def tw17361032794915090529:=0
def tw17384617998195326328:=0
def tw1739676326666686600:=0
def tw17491327586189367291:=0
def tw17496039175412717107:=0
def tw17588081456618853007:=0
def tw17599624874649639115:=0
def tw17647921222430745020:=0
def tw17697948078351489393:=0
def tw17715681474942737083:=0
def tw17716326979601417218:=0
def tw1775164020608504399:=0
def tw17755500232423353204:=0
def tw17771024323972402962:=0
def tw17802188204026327233:=0
def tw17804135883915662461:=0
def tw17811151774682994027:=0
def tw17840688077611991374:=0
def tw1787438532311269699:=0
def tw17875442217560744382:=0
def tw17892505035626436145:=0
def tw17948182836905396177:=0
def tw17986691500030691935:=0
def tw18021907998452417286:=0
def tw18042049965892328278:=0
def tw18067727666824302472:=0
def tw18075469967271504332:=0
def tw18188728461732038012:=0
def tw18225236818747355431:=0
def tw1832334901588486550:=0
def tw18326771515102060626:=0
def tw18368751629029909282:=0
def tw18372457901573311639:=0
def tw1845950605394678822:=0
def tw1887397231976625541:=0
def tw1913846430114466492:=0
def tw1962089644101653258:=0
def tw1998427689417536171:=0
def tw2071336084350728318:=0
def tw2102192439335400662:=0
def tw2114011644410905290:=0
def tw2122375221379723186:=0
def tw2135305955831868458:=0
def tw2138972797657453603:=0
def tw214991594027078787:=0
def tw2157240326246113124:=0
def tw2271337691928366249:=0
def tw227434576112775416:=0
def tw2274474996463473288:=0
def tw2293286526890927744:=0
def tw2295343173364011848:=0
def tw2363494260268787433:=0
def tw2383498928301091212:=0
def tw2408109390641989079:=0
def tw2416811333964477068:=0
def tw2423175353377800670:=0
def tw2519678322235712735:=0
def tw252798829052381587:=0
def tw2529740071690799888:=0
def tw2553317814302152983:=0
def tw255474947219000844:=0
def tw2579118912394081453:=0
def tw2593586862872158210:=0
def tw2618720232459327477:=0
def tw2634938767413727166:=0
def tw2661745160935841734:=0
def tw2663404089231749513:=0
def tw2687391463857194407:=0
def tw2690586542300383510:=0
def tw2760396396216801714:=0
def tw276062846578191106:=0
def tw2898197918950100042:=0
def tw2941874005173076254:=0
def tw3022132109228498638:=0
def tw3023665900321853259:=0
def tw3087000655248555260:=0
def tw3101129890076668825:=0
def tw314147166539879133:=0
def tw324698524253941812:=0
def tw3328997264339925212:=0
def tw3338299350692647309:=0
def tw3362809403995439265:=0
def tw3402461835476207849:=0
def tw3408796694715504854:=0
def tw3439367662052158227:=0
def tw3484932472820057850:=0
def tw3643012232868156337:=0
def tw3652074062086786461:=0
def tw3671374681516055278:=0
def tw3704909923414334913:=0
def tw3765766196557375407:=0
def tw3789698130380457455:=0
def tw3805292555265742196:=0
def tw3808065246795724186:=0
def tw3818226056539268382:=0
def tw3838958734485757749:=0
def tw3874486070459781476:=0
def tw3915509473301455050:=0
def tw3981822197667268297:=0
def tw3996390468969204552:=0
def tw4117961213485029799:=0
def tw4131112527733770591:=0
def tw4138242098737547735:=0
def tw4159104355923892100:=0
def tw419869240809491469:=0
def tw4223527960374515267:=0
def tw4248457317708302877:=0
def tw4250684591298749869:=0
def tw4269252141399047522:=0
def tw4295975187713562618:=0
def tw4335679004239265412:=0
def tw4385125130756780656:=0
def tw4423052146690233602:=0
def tw444819486945061684:=0
def tw4452698099986826220:=0
def tw4471564901323132501:=0
def tw4509895966337383080:=0
def tw4523198452841258180:=0
def tw4545518309916879851:=0
def tw4556683450639259870:=0
def tw4571076254098813816:=0
def tw4653612186050149801:=0
def tw4656098436267090885:=0
def tw466399561906963100:=0
def tw4670006927337975647:=0
def tw467940718129677595:=0
def tw4699532305037887005:=0
def tw4713237901206598375:=0
def tw4738972763028184965:=0
def tw4758103203702182573:=0
def tw4781695928282009474:=0
def tw4791608994184253728:=0
def tw4810521256750379977:=0
def tw4826967006845199128:=0
def tw4865774879440309958:=0
def tw4867797555432461826:=0
def tw4879633137085371642:=0
def tw4901678891663288053:=0
def tw4927566873427093980:=0
def tw4979442828759584125:=0
def tw499082327264592475:=0
def tw5042759795110927991:=0
def tw5111791073233538670:=0
def tw5153288297300003482:=0
def tw5188805216973939732:=0
def tw5211445960680495057:=0
def tw5249710830340914582:=0
def tw5255037194602362152:=0
def tw5269285501470147954:=0
def tw529377492256348756:=0
def tw5302645417433010532:=0
def tw5304005922197311426:=0
def tw5319932464150453660:=0
def tw5320479543716565120:=0
def tw535577245647444984:=0
def tw5397582985367495470:=0
def tw5416732922359834579:=0
def tw5469071077218950944:=0
def tw5491292899531136417:=0
def tw5559116122149159214:=0
def tw5608271988931438673:=0
def tw5616996057713448688:=0
def tw5873898838700819007:=0
def tw5877637334680742260:=0
def tw5890947364079244506:=0
def tw5963836409711712071:=0
def tw596770067280894610:=0
def tw6121112893208429635:=0
def tw6128498546821439403:=0
def tw6128955915544812259:=0
def tw6173363770196534795:=0
def tw6237419672063674804:=0
def tw629027511724226806:=0
def tw6334082497121116125:=0
def tw6339196856949513148:=0
def tw6346338229003322064:=0
def tw6351155642605228797:=0
def tw6368591337236414917:=0
def tw6394934825769878566:=0
def tw6396141806610761483:=0
def tw6421431352868264188:=0
def tw6428859268964060045:=0
def tw6465393478311667282:=0
def tw6480010709390050440:=0
def tw6483958282722647388:=0
def tw661053747365916404:=0
def tw6653147875569161344:=0
def tw6687015625605687573:=0
def tw66892527939211841:=0
def tw6690889465641631310:=0
def tw6696886423156410054:=0
def tw6729587642644377985:=0
def tw6831112775974331074:=0
def tw6923433076018661385:=0
def tw697317548847145461:=0
def tw7039568924853496850:=0
def tw7040308585851456299:=0
def tw7045023995150381178:=0
def tw7046906631743878348:=0
def tw7053696471082595523:=0
def tw7063228245797931218:=0
def tw7077240706870597541:=0
def tw7086396619210507501:=0
def tw7203001114846590834:=0
def tw731382261114198231:=0
def tw7352158262135491211:=0
def tw7358548098594758608:=0
def tw7372981565138343654:=0
def tw7389498929874047338:=0
def tw7417875715037299874:=0
def tw7421287805784557244:=0
def tw742508007089936662:=0
def tw7485798006096967317:=0
def tw7519834227000687362:=0
def tw7534956277641081556:=0
def tw7536651167388063786:=0
def tw7570945859131966085:=0
def tw7583151686955391980:=0
def tw7617105670732513981:=0
def tw7662950103954097716:=0
def tw7669472044209936106:=0
def tw7688880699732065978:=0
def tw7713079379613543243:=0
def tw7775406046272538142:=0
def tw781320659990339868:=0
def tw7821363064009636589:=0
def tw7878977562806061814:=0
def tw8012330753071281131:=0
def tw8014154735921190147:=0
def tw8023499891648040904:=0
def tw804040269740226733:=0
def tw8078062812867069539:=0
def tw8086737460328268644:=0
def tw8092874895391269180:=0
def tw8108836817122902205:=0
def tw8113807812125657585:=0
def tw8136816317436389340:=0
def tw8137269073096553965:=0
def tw8158715387921977398:=0
def tw8200462546116030396:=0
def tw824567009994387460:=0
def tw8389076257918588823:=0
def tw8424092436094869042:=0
def tw8515182049500262411:=0
def tw8557521457246661188:=0
def tw8636528805107730284:=0
def tw8665282359741792716:=0
def tw8685272507526482699:=0
def tw8725203399919653722:=0
def tw8751135683260196092:=0
def tw8797773281379075380:=0
def tw8833569257397856576:=0
def tw8841938281282897650:=0
def tw8866293831417225923:=0
def tw8895830376205047322:=0
def tw8907223760020902955:=0
def tw8964089099286723589:=0
def tw8972054878786248109:=0
def tw9067773474455249284:=0
def tw9157460077973996780:=0
def tw9189378262153249163:=0
def tw9222006088655165217:=0
def tw9231747734614829334:=0
def tw926328211267862024:=0
def tw9267473468243572386:=0
def tw9292634052412276178:=0
def tw937517593190508076:=0
def tw9490566453240802935:=0
def tw9491208503159096662:=0
def tw9530992733745642879:=0
def tw9664325112911145591:=0
def tw9664720754276947763:=0
def tw9677957268500577557:=0
def tw9684085806036780910:=0
def tw9696835282198524326:=0
def tw9719048308081277969:=0
def tw9725015525898687336:=0
def tw974732824899919093:=0
def tw9781494955879578933:=0
def tw9945422240646985279:=0
def tw9955315155221513183:=0
def tw9992188935883466530:=0
end PySem.W.Fast
set_option maxRecDepth 100000 in
set_option maxHeartbeats 0 in
theorem PySem.Challenge.cw_twigmap_k34_near_ones_holds : PySem.Challenge.rw_twigmap_k34_near_ones.Holds := by
 w_on;o_law;k_head;(case hw=>w_witness2)
 k_fill
 refine Tw.CA (l:=PySem.Challenge.rw_twigmap_k34_near_ones) rfl rfl (fun w h Y=>PySem.W.km_in_of Y) ?qRec ?qTab ?qNot ?qFun
 case qRec=>first | kernel_rfl | exact rfl
 case qTab=>
  intro w
  first | kernel_rfl | exact Tw.OF (Tw.Ml (by k_is) (by k_is) rfl (by k_is) rfl)
 case qNot=>intro w;kernel_rfl
 case qFun=>
  intro w mg fa h cb tb KX G hmg hta;refine' Tw.Lg KX G hmg hta (Tw.NU KX G ?a1 ?l1 ?c1 ?k1) (Tw.NU KX G ?a2 ?l2 ?c2 ?k2) (Tw.NU KX G ?a3 ?l3 ?c3 ?k3) (Tw.NU KX G ?a4 ?l4 ?c4 ?k4) (Tw.NU KX G ?a5 ?l5 ?c5 ?k5) (Tw.NU KX G ?a6 ?l6 ?c6 ?k6) (Tw.NU KX G ?a7 ?l7 ?c7 ?k7) (Tw.NU KX G ?a8 ?l8 ?c8 ?k8) (Tw.NU KX G ?a9 ?l9 ?c9 ?k9) (Tw.NU KX G ?a10 ?l10 ?c10 ?k10) (Tw.NU KX G ?a11 ?l11 ?c11 ?k11) (Tw.NU KX G ?a12 ?l12 ?c12 ?k12) (Tw.NU KX G ?a13 ?l13 ?c13 ?k13) (Tw.NU KX G ?a14 ?l14 ?c14 ?k14) (Tw.NU KX G ?a15 ?l15 ?c15 ?k15) (Tw.NU KX G ?a16 ?l16 ?c16 ?k16) (Tw.NU KX G ?a17 ?l17 ?c17 ?k17) (Tw.NU KX G ?a18 ?l18 ?c18 ?k18) (Tw.NU KX G ?a19 ?l19 ?c19 ?k19) (Tw.NU KX G ?a20 ?l20 ?c20 ?k20) (Tw.NU KX G ?a21 ?l21 ?c21 ?k21) (Tw.NU KX G ?a22 ?l22 ?c22 ?k22) (Tw.NU KX G ?a23 ?l23 ?c23 ?k23) (Tw.NU KX G ?a24 ?l24 ?c24 ?k24) (Tw.NU KX G ?a25 ?l25 ?c25 ?k25) (Tw.NU KX G ?a26 ?l26 ?c26 ?k26) (Tw.NU KX G ?a27 ?l27 ?c27 ?k27) (Tw.NU KX G ?a28 ?l28 ?c28 ?k28) (Tw.NU KX G ?a29 ?l29 ?c29 ?k29) (Tw.NU KX G ?a30 ?l30 ?c30 ?k30) (Tw.NU KX G ?a31 ?l31 ?c31 ?k31) (Tw.NU KX G ?a32 ?l32 ?c32 ?k32) (Tw.NU KX G ?a33 ?l33 ?c33 ?k33) (Tw.NU KX G ?a34 ?l34 ?c34 ?k34) (Tw.NU KX G ?a35 ?l35 ?c35 ?k35) (Tw.NU KX G ?a36 ?l36 ?c36 ?k36) (Tw.NU KX G ?a37 ?l37 ?c37 ?k37) (Tw.NU KX G ?a38 ?l38 ?c38 ?k38) (Tw.NU KX G ?a39 ?l39 ?c39 ?k39) (Tw.NU KX G ?a40 ?l40 ?c40 ?k40) (Tw.NU KX G ?a41 ?l41 ?c41 ?k41) (Tw.NU KX G ?a42 ?l42 ?c42 ?k42) (Tw.NU KX G ?a43 ?l43 ?c43 ?k43) (Tw.NU KX G ?a44 ?l44 ?c44 ?k44) (Tw.NU KX G ?a45 ?l45 ?c45 ?k45) (Tw.NU KX G ?a46 ?l46 ?c46 ?k46) (Tw.NU KX G ?a47 ?l47 ?c47 ?k47) (Tw.NU KX G ?a48 ?l48 ?c48 ?k48) (Tw.NU KX G ?a49 ?l49 ?c49 ?k49) (Tw.NU KX G ?a50 ?l50 ?c50 ?k50) ?a51 ?l51 ?c51 ?k51 (Tw.NU KX G ?a52 ?l52 ?c52 ?k52) (Tw.NU KX G ?a53 ?l53 ?c53 ?k53) (Tw.NU KX G ?a54 ?l54 ?c54 ?k54) (Tw.NU KX G ?a55 ?l55 ?c55 ?k55) (Tw.NU KX G ?a56 ?l56 ?c56 ?k56) (Tw.NU KX G ?a57 ?l57 ?c57 ?k57) ?a58 ?l58 ?c58 ?k58 ?z1 ?z2 ?z3 ?z4 ?z5 ?z6 ?z7 ?z8 ?z9 ?z10 ?z11 ?z12 ?z13 ?z14 ?z15 ?m1_ ?m2_ ?m3_ ?m4_ ?m5_ ?m6_ ?m7_ ?m8_ ?m9_ ?m10_ (Tw.OS ?vjS ?iljS ?fnjS ?icjS ?ikjS) (Tw.OS ?vjT ?iljT ?fnjT ?icjT ?ikjT) ?iljN ?icjN ?ikjN ?iljP ?icjP ?ikjP (Tw.OH ?vm1 ?ilm1 ?fnm1 ?icm1 ?ikm1) (Tw.OH ?vm2 ?ilm2 ?fnm2 ?icm2 ?ikm2) (Tw.OH ?vm3 ?ilm3 ?fnm3 ?icm3 ?ikm3) (Tw.OH ?vm4 ?ilm4 ?fnm4 ?icm4 ?ikm4) (Tw.OH ?vm5 ?ilm5 ?fnm5 ?icm5 ?ikm5) (Tw.OH ?vm6 ?ilm6 ?fnm6 ?icm6 ?ikm6) (Tw.OH ?vm7 ?ilm7 ?fnm7 ?icm7 ?ikm7) (Tw.OH ?vm8 ?ilm8 ?fnm8 ?icm8 ?ikm8) (Tw.OH ?vm11 ?ilm11 ?fnm11 ?icm11 ?ikm11) (Tw.OH ?vm12 ?ilm12 ?fnm12 ?icm12 ?ikm12) (Tw.OH ?vm13 ?ilm13 ?fnm13 ?icm13 ?ikm13) (Tw.OH ?vm14 ?ilm14 ?fnm14 ?icm14 ?ikm14) (Tw.OH ?vm15 ?ilm15 ?fnm15 ?icm15 ?ikm15) ?xCB ?xCK ?xCT ?xCP ?xCSh ?xCTw ?vjN ?vjP ?mkCSh ?kpCSh ?pgCSh ?hdCSh ?poCSh ?saCSh ?mkCTw ?kpCTw ?pgCTw ?hdCTw ?poCTw ?saCTw ?na_kept ?na_following ?na_looks ?na_things ?na_tag ?na_above ?na_holds ?tyB ?mB ?kitx ?wCT ?tyCT ?wCP ?tyCP ?mBCP ?sbPP ?sbCT ?sbCK ?sbCP ?exCK ?kpCK ?mBCK ?tyCK
  (case xCB=>k_is)
  (case xCK=>k_is)
  (case xCT=>k_is)
  (case xCP=>k_is)
  (case xCSh=>k_is)
  (case xCTw=>k_is)
  (case vjS=>k_is)
  (case vjT=>k_is)
  (case vjN=>k_is)
  (case vjP=>k_is)
  (case vm1=>k_is)
  (case vm2=>k_is)
  (case vm3=>k_is)
  (case vm4=>k_is)
  (case vm5=>k_is)
  (case vm6=>k_is)
  (case vm7=>k_is)
  (case vm8=>k_is)
  (case vm11=>k_is)
  (case vm12=>k_is)
  (case vm13=>k_is)
  (case vm14=>k_is)
  (case vm15=>k_is)
  (case kitx=>kernel_rfl)
  (case wCT=>kernel_rfl)
  (case wCP=>kernel_rfl)
  (case exCK=>k_exc)
  all_goals try k_is
  all_goals try k_is
