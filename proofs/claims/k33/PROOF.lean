import PyProof.Rows.All
import Wide.All
import OpenK.AllK
import Wide.FinOn
import Lean
import PyProof.EqAt
import PyProof.EqKinds
import PyProof.TupleCall
import PyProof.NeKinds
import PyProof.TupleKey
import PyProof.DictFindH
import PyProof.NsDelKeeps
import PyProof.ExcBaseAll.ValueError
import KE.KIsAll
import PyProof.ExcArgsOwn
import PyProof.ExcAttrAll.ValueError
import KE.KSortTup
import KE.KDictList
import PyProof.Rows.SortWalk
import KE.KEqDict
import KE.KLam
import KE.KRevIter
import PyProof.InstStoreFacts
import PyProof.ExcClass3
import PyProof.Rows.SumAny
import PyProof.Rows.StrStep
import PySem.Challenge.RW_twigmap_k33_nth_and_places
set_option Elab.async false
set_option linter.all false
set_option maxRecDepth 100000
set_option maxHeartbeats 8000000
open PySem.W renaming Frag->zAA, findIn->zAV, nsIn->zAY, kitOne->zAZ, keepIn->zAm, mg_of->zAp, mg_none_of->zAq, mroIn->zAr, Looks->zAu, fnOf->zA3, typeIn->zA4, kia_one->zA6, emptyDict->zBE, tabIn->zBK, codeIn->zBL, instObj->zBR, hasDictIn->zBS, CodeHd->zBW, kla_obj->zBb, plainGet->zBg, isFn->zBj, callWith_K->zBs, looks_findIn->zB1, looks_mroIn->zB5, hideAll->zB6, tabObj->zCC, lookIn->zCD, plainOver->zCE, any_some->zCI, cellsFrom_some->zCK, makesIn->zCO, OpenLaw->zCP, plainGet_of->zCa, looks_clsIn->zCb, excIn->zCd, methodObj->zCh, takerIn->zCm, noTabs->zCz, KdlSrc->zC0, InstAt->zC1, WalkO->zDC, looks_typeIn->zDM, hideAll_none->zDN, hideAll_get->zDS, callWith_K0->zDT, tail_of_in->zDW, of_hideAll->zDX
open Nat renaming le_of_ble_eq_true->zAB, le_refl->zAH, lt_of_lt_of_le->zAb, lt_or_ge->zAg, zero_le->zAk, ne_of_lt->zAl, le_trans->zAv, not_lt_zero->zBI, le_of_lt->zBJ, lt_irrefl->zBf, lt_succ_self->zB7, lt_of_le_of_lt->zCH, le_succ->zCQ, ne_of_gt->zCp, le_of_eq->zCq, add_zero->zCr, le_of_not_lt->zC3
open List renaming getD_eq_getElem?_getD->zAC, length_map->zAD, getElem?_eq_getElem->zAE, length_append->zAG, mem_of_getElem?->zAJ, getElem?_eq_some_iff->zAK, mem_cons_of_mem->zAL, size_toArray->zAM, getElem?_map->zAN, all_eq_true->zAO, mem_cons_self->zAQ, mem_singleton->zAR, take_of_length_le->zAS, length_cons->zAW, map_append->zAX, map_cons->zAa, mem_append_right->zAc, mem_append->zAd, mem_cons->zAe, mem_map->zAf, getElem?_append_right->zAh, take_add_one->zAi, append_nil->zAo, getElem?_append_left->zAw, range->zAx, getElem_mem->zAy, mem_append_left->zAz, pairwise_cons->zA7, mem_range->zA8, lookup_cons->zA9, toArray->zBA, filter_append->zBB, take_append_drop->zBG, flatMap_cons->zBM, range'->zBN, filterMap_cons->zBO, length_take->zBQ, nodup_cons->zBU, flatten_cons->zBV, sum_cons->zBX, lookup->zBY, eq_nil_of_length_eq_zero->zBZ, replicate->zBa, find?_cons->zBd, cons_lt_cons_iff->zBe, getElem?_of_mem->zBh, drop_eq_getElem_cons->zBk, not_mem_nil->zBo, flatMap_append->zBq, filter_eq_self->zBr, map_nil->zBu, length_nil->zBv, filter_eq_nil_iff->zBz, nodup_append->zB0, mem_iff_getElem?->zB2, length_singleton->zB3, flatMap_def->zB4, pairwise_append->zB8, not_lt_nil->zB9, mem_filter->zCA, length->zCB, mem_filterMap->zCF, map_map->zCG, append_assoc->zCJ, length_eq_zero_iff->zCM, mem_flatMap->zCR, any_eq_true->zCS, getElem?_set_self->zCT, of_mem_zip->zCU, length_filter_le->zCV, getElem?_eq_none->zCW, eq_nil_or_concat->zCX, concat_eq_append->zCY, all_map->zCZ, getElem?_set_ne->zCc, map_congr_left->zCf, length_pos_iff->zCg, getElem?_inj->zCl, nil_lt_cons->zCs, mem_flatten->zCt, length_drop->zCu, getElem_map->zCv, filter_cons->zCw, ext_getElem->zCx, cons_append->zCy, dropLast_concat_getLast->zC4, sum_append->zC8, sublist_flatten_of_mem->zC9, nil_append->zDA, forIn_cons->zDB, take_zero->zDG, pairwise_iff_getElem->zDH, getLast_eq_getElem->zDO, any_cons->zDP, all_cons->zDQ, Pairwise->zDR, range_succ_eq_map->zDU, take_eq_take_min->zDY, sum_nil->zDZ, pairwise_flatMap->zDa
open Bool renaming false_ne_true->zAF, and_eq_true->zAP, false_eq_true->zBC, false_and->zBl, eq_iff_iff->zBw, true_and->zCN, not_true->zCj, and_false->zDK
open PySem.Heap renaming get?_push_of_some->zAI, lt_size->zAT, get?_push_size->zAU, SameBut->zBD, get?_update_other->zBF, get?_update_self->zBH, get?_none_of_le->zBi, size_push->zDJ
open Option renaming some->zAj, map_eq_some_iff->zAt, map_some->zBT, isSome_iff_exists->zBn, none->zCo, bind_eq_some_iff->zDF
open Array renaming getElem?_eq_getElem->zAn, getElem?_toList->zA5, getElem?_eq_some_iff->zBP, length_toList->zBp, toList_append->zCe, forIn_toList->zCi, size_append->zCk, toList->zDV, mem_toList_iff->zDb
open PySem.F renaming plainAttrs_list->zAs, type_list_append->zA1, slot_list_append->zA2, slot_dict_keyiterator_next->zBm, slot_tuple_hash->zBt, excBase_ValueError->zCn, slot_dict_getitem->zC2, type_list_extend->zC5, store_ValueError->zC6, slot_list_extend->zC7, plain_list_iadd->zDD, slot_dict_iter->zDE, slot_dict_pop->zDL
open PySem.Str renaming ofString->zA0
open Int renaming emod_lt_of_pos->zBc, eq_ofNat_of_zero_le->zBx, emod_nonneg->zBy, toNat_natCast->zCL, fdiv_eq_ediv_of_nonneg->zDI
abbrev ja:=PySem.Value->PySem.Shared->Prop
abbrev jb:=PySem.Str->Option PySem.Value
abbrev jc:=Option PySem.Value
abbrev jd:=List PySem.Value
namespace L2
open PySem PySem.Spec PyProof.Rows
abbrev Zd:=Sum Int Str
def Q4:Zd->Value->Bool
 | .inl k,v=>Value.isInt k v
 | .inr x,v=>Value.isStrOf x v
def HI(w:World):Zd->Int
 | .inl k=>hashInt k
 | .inr x=>hashStr w x
theorem U1:∀{k:Zd}{v:Value},Q4 k v=true->(∃ i t,k=Sum.inl i/\v=Value.int i t)\/(∃ x t,k=Sum.inr x/\v=Value.str x t)
 | .inl i,v,h=>by
  obtain ⟨t,e⟩:=Value.isInt_shape (k:=i) (v:=v) h;exact .inl ⟨i,t,rfl,e⟩
 | .inr x,v,h=>by
  obtain ⟨t,e⟩:=Value.isStrOf_shape (x:=x) (v:=v) h;exact .inr ⟨x,t,rfl,e⟩
theorem Ai(i:Int)(t:Tok):Q4 (.inl i) (.int i t)=true:=by simp [Q4,Value.isInt]
theorem Cz(x:Str)(t:Tok):Q4 (.inr x) (.str x t)=true:=by simp [Q4,Value.isStrOf]
theorem Fu(a b:Int):decide ((Sum.inl a:Zd)=Sum.inl b)=(a==b):=by
 by_cases e:a=b
 ·subst e;simp
 ·have h:¬ (Sum.inl a:Zd)=Sum.inl b:=fun q=>e (Sum.inl.inj q);rw [decide_eq_false h];exact (beq_eq_false_iff_ne.mpr e).symm
theorem G8(a b:Str):decide ((Sum.inr a:Zd)=Sum.inr b)=decide (a=b):=by
 by_cases e:a=b
 ·subst e;simp
 ·have h:¬ (Sum.inr a:Zd)=Sum.inr b:=fun q=>e (Sum.inr.inj q);rw [decide_eq_false h,decide_eq_false e]
theorem ZNZ(a:Int)(b:Str):decide ((Sum.inl a:Zd)=Sum.inr b)=false:=decide_eq_false (fun q=>nomatch q)
theorem Cm(a:Str)(b:Int):decide ((Sum.inr a:Zd)=Sum.inl b)=false:=decide_eq_false (fun q=>nomatch q)
def Vc(prog:Program)(w:World):PySem.KeyKind prog w Zd where
 is:=Q4
 hash:=HI w
 inj:=fun v a b ha hb=>by
  rcases U1 ha with ⟨i,t,rfl,rfl⟩ | ⟨x,t,rfl,rfl⟩
  ·rcases U1 hb with ⟨j,u,rfl,e⟩ | ⟨y,u,rfl,e⟩
   ·injection e with e1 _;rw [e1]
   ·exact nomatch e
  ·rcases U1 hb with ⟨j,u,rfl,e⟩ | ⟨y,u,rfl,e⟩
   ·exact nomatch e
   ·injection e with e1 _;rw [e1]
 byValue:=fun k v h=>by
  rcases U1 h with ⟨i,t,rfl,rfl⟩ | ⟨x,t,rfl,rfl⟩ <;> rfl
 pyHash:=fun hv h=>by
  rcases U1 hv with ⟨i,t,rfl,rfl⟩ | ⟨x,t,rfl,rfl⟩
  ·exact wpAny_pyHash_int h
  ·exact wpAny_pyHash_str h
 eqBool:=fun hu hv h=>by
  rcases U1 hu with ⟨i,t,rfl,rfl⟩ | ⟨x,t,rfl,rfl⟩
  ·rcases U1 hv with ⟨j,u,rfl,rfl⟩ | ⟨y,u,rfl,rfl⟩
   ·rw [Fu] at h;exact wpAny_eqBool_int h
   ·rw [ZNZ] at h;exact SeqAt.EqAt.int_str i t y u _ _ _ _ h
  ·rcases U1 hv with ⟨j,u,rfl,rfl⟩ | ⟨y,u,rfl,rfl⟩
   ·rw [Cm] at h;exact SeqAt.EqAt.str_int x t j u _ _ _ _ h
   ·rw [G8] at h;exact wpAny_eqBool_str h
 «strs» :=fun k x t v h=>by
  rcases U1 h with ⟨i,u,rfl,e⟩ | ⟨y,u,rfl,e⟩
  ·exact nomatch e
  ·injection e with e1 _;subst e1;cases v <;> rfl
theorem D5(prog:Program)(w:World)(i:Int)(t:Tok):(Vc prog w).is (.inl i) (.int i t)=true:=Ai i t
theorem Ap(prog:Program)(w:World)(x:Str)(t:Tok):(Vc prog w).is (.inr x) (.str x t)=true:=Cz x t
inductive V where
 | non | bl (b:Bool) | int (i:Int) | str (x:Str) | byt (b:Array UInt8) | flt (b:UInt64) | ref (a:Addr) | ty (n:String)
 deriving DecidableEq
abbrev je:=List V
abbrev jf:=Option V
def ZS:V->Value->Prop
 | .non,u=>u=Value.none
 | .bl b,u=>u=Value.bool b
 | .int i,u=>∃ t,u=Value.int i t
 | .str x,u=>∃ t,u=Value.str x t
 | .byt b,u=>∃ t,u=Value.bytes b t
 | .flt b,u=>∃ t,u=Value.float b t
 | .ref a,u=>u=Value.ref a
 | .ty n,u=>u=Value.type n
abbrev ZN:je->jd->Prop:=Paired ZS
theorem ZN.length{xs:je}{us:jd}(r:ZN xs us):xs.length=us.length:=Paired.length r
theorem ZN.get:∀{xs:je}{us:jd}{i:Nat}{x:V},ZN xs us->xs[i]? = some x->∃ u,us[i]? = some u/\ZS x u
 | _,_,_,_,.nil,e=>by simp at e
 | _,_,0,_,.cons r _,e=>by simp at e;subst e;exact ⟨_,rfl,r⟩
 | _,_,i+1,x,.cons _ t,e=>by
  obtain ⟨u,h1,h2⟩:=ZN.get (i:=i) (x:=x) t (by simpa using e)
  exact ⟨u,by simpa using h1,h2⟩
theorem ZN.set{x:V}{u:Value}(r:ZS x u):∀{xs:je}{us:jd}(i:Nat),ZN xs us->ZN (xs.set i x) (us.set i u)
 | _,_,_,.nil=>.nil
 | _,_,0,.cons _ t=>.cons r t
 | _,_,i+1,.cons q t=>.cons q (ZN.set r i t)
theorem ZN.append:∀{xs ys:je}{us ws:jd},ZN xs us->ZN ys ws->ZN (xs++ys) (us++ws)
 | _,_,_,_,.nil,s=>s
 | _,_,_,_,.cons r t,s=>.cons r (ZN.append t s)
theorem ZN.take:∀{xs:je}{us:jd}(n:Nat),ZN xs us->ZN (xs.take n) (us.take n)
 | _,_,0,_=>.nil
 | _,_,_+1,.nil=>.nil
 | _,_,n+1,.cons r t=>.cons r (ZN.take n t)
theorem ZN.drop:∀{xs:je}{us:jd}(n:Nat),ZN xs us->ZN (xs.drop n) (us.drop n)
 | _,_,0,r=>r
 | _,_,_+1,.nil=>.nil
 | _,_,n+1,.cons _ t=>ZN.drop n t
def Ye:jf->jc->Prop
 | some v,some u=>ZS v u
 | none,none=>True
 | _,_=>False
def KV{κ:Type}:List (κ×V)->List (κ×Value)->Prop:=Paired fun(p:κ×V)(q:κ×Value)=>p.1=q.1/\ZS p.2 q.2
def kV:Zd->V
 | .inl i=>.int i
 | .inr x=>.str x
inductive HO where
 | lst (xs:je)
 | tup (xs:je)
 | dK (kvs:List (Zd×V)) | dT (kvs:List (List Zd×V))
 | set (S:Int->Bool) (n:Nat)
 | ins (C dx:Addr) (fs:List (Str×V))
 | own (x:Addr)
 | xd (fs:List (Str×V))
 | met (f x:Addr)
 | rng (lo hi:Int)
 | frz (o:Obj) (u:HO)
 | tbl (ps:Array Value)
 | ext (φ:Heap->Prop)
abbrev Hp:=Addr->Option HO
def upd(H:Hp)(a:Addr)(o:HO):Hp:=fun b=>if b=a then some o else H b
theorem ZO{H:Hp}{a:Addr}{o:HO}:upd H a o a=some o:=by unfold upd;rw [if_pos rfl]
theorem ZV{H:Hp}{a b:Addr}{o:HO}(h:b≠a):upd H a o b=H b:=by unfold upd;rw [if_neg h]
theorem NU{H:Hp}{a:Addr}{o u:HO}:upd (upd H a o) a u=upd H a u:=by
 funext b;unfold upd;split <;> rfl
theorem ZT{H:Hp}{a b:Addr}{o u:HO}(h:H a=some o)(h':H b=some u)(d:o≠u:=by intro z;cases z):a≠b:=by
 intro e;subst e;rw [h] at h';exact d (zAj.inj h')
theorem Zb{H:Hp}{a b:Addr}{o:HO}(h:H a=some o)(h':H b=none):a≠b:=by
 intro e;subst e;rw [h] at h';cases h'
section
variable(P:Program)(w:World)
def Zf(H:Hp)(h:Heap)(a:Addr):HO->Prop
 | .lst xs=>xs.length<=sizeLine/\∃(ji:jd)(n:Nat),ZN xs ji/\h.get? a=some { cls:=.type "list",data:=.seq ji.toArray n }
 | .tup xs=>xs.length<=sizeLine/\∃ ji:jd,ZN xs ji/\IsTup h a ji.toArray
 | .dK kvs=>kvs.length<=sizeLine/\(a==sysModules)=false/\∃ vs,KV kvs vs/\h.DictOf (Vc P w) a vs
 | .dT kvs=>kvs.length<=sizeLine/\(a==sysModules)=false/\∃ xs:List (List Zd×Addr×Value),
   Paired (fun(p:List Zd×V)(q:List Zd×Addr×Value)=>p.1=q.1/\H q.2.1=some (.tup (p.1.map kV))/\ZS p.2 q.2.2) kvs xs /\
   ∃ o es ep,h.get? a=some o/\o.ExactDict/\o.data=.dict es ep/\es.toList=xs.map (entryOfKey (tupleKind (Vc P w)))/\(xs.map (·.1)).Nodup
 | .set S n=>h.SetOf (intKind P w) a S n
 | .ins C dx fs=>H dx=some (.own a)/\fs.length<=1000/\dx≠a/\h.get? a=some (zBR C dx) /\
   ∃ mA,h.Ns1 dx mA/\(∀ f,Ye (fs.lookup f) (mA f))/\PySem.Within mA (fs.map (·.1))
 | .own _=>∃ o,h.get? a=some o
 | .xd fs=>∃ mA,h.Ns1 a mA/\∀ f,Ye (fs.lookup f) (mA f)
 | .rng lo hi=>∃ t u v,h.get? a=some { cls:=.type "range",data:=.fields #[.int lo t,.int hi u,.int 1 v] }
 | .frz o u=>h.get? a=some o/\Zf H h a u
 | .tbl ps=>h.get? a=some { cls:=.none,data:=.fields ps }
 | .met f x=>h.get? a=some (zCh (.ref f) (.ref x))
 | .ext φ=>φ h/\(∃ o,h.get? a=some o)/\∀ h1 h2:Heap,φ h1->(∀ o,h1.get? a=some o->h2.get? a=some o)->φ h2
def YX(H:Hp)(h:Heap):Prop:=∀ a o,H a=some o->Zf P w H h a o
end
section
variable{P:Program}{w:World}{H H':Hp}{h h':Heap}{a:Addr}{o:HO}
theorem Zf.lt(x:Zf P w H h a o):a<h.objs.size:=by
 cases o with
 | lst xs=>obtain ⟨_,_,_,_,e⟩:=x;exact zAT e
 | tup xs=>obtain ⟨_,_,_,p⟩:=x;exact p.lt
 | dK kvs=>obtain ⟨_,_,_,_,o,_,_,e,_⟩:=x;exact zAT e
 | dT kvs=>obtain ⟨_,_,_,_,o,_,_,e,_⟩:=x;exact zAT e
 | set S n=>obtain ⟨o,_,_,_,e,_⟩:=x;exact zAT e
 | ins C dx fs=>obtain ⟨_,_,_,e,_⟩:=x;exact zAT e
 | own y=>obtain ⟨_,e⟩:=x;exact zAT e
 | xd fs=>obtain ⟨_,⟨_,_,_,e,_⟩,_⟩:=x;exact zAT e
 | rng lo hi=>obtain ⟨_,_,_,e⟩:=x;exact zAT e
 | frz ob u=>obtain ⟨e,_⟩:=x;exact zAT e
 | tbl ps=>exact zAT (show h.get? a=some _ from x)
 | met f y=>exact zAT (show h.get? a=some _ from x)
 | ext φ=>obtain ⟨_,⟨_,e⟩,_⟩:=x;exact zAT e
theorem Paired.mapP{α β:Type}{F G:α->β->Prop}:∀{l₁:List α}{l₂:List β},Paired F l₁ l₂->(∀ a b,F a b->G a b)->Paired G l₁ l₂
 | _,_,.nil,_=>.nil
 | _,_,.cons r t,f=>.cons (f _ _ r) (Paired.mapP t f)
theorem Zf.stay(x:Zf P w H h a o)(k:∀ b u,(b=a\/H b=some (.own a))->h.get? b=some u->h'.get? b=some u)(ho:∀ b,H b=some (.own a)->H' b=some (.own a))(ht:∀ b xs,H b=some (.tup xs)->H' b=some (.tup xs)):Zf P w H' h' a o:=by
 induction o with
 | lst xs=>obtain ⟨z,ji,n,r,e⟩:=x;exact ⟨z,ji,n,r,k _ _ (.inl rfl) e⟩
 | tup xs=>obtain ⟨z,ji,r,ob,e,c⟩:=x;exact ⟨z,ji,r,ob,k _ _ (.inl rfl) e,c⟩
 | dK kvs=>obtain ⟨z,y,vs,r,ob,es,ep,e,c⟩:=x;exact ⟨z,y,vs,r,ob,es,ep,k _ _ (.inl rfl) e,c⟩
 | dT kvs=>
  obtain ⟨z,y,xs,r,ob,es,ep,e,c⟩:=x;exact ⟨z,y,xs,Paired.mapP r fun p q z=>⟨z.1,ht _ _ z.2.1,z.2.2⟩,ob,es,ep,k _ _ (.inl rfl) e,c⟩
 | set S n=>obtain ⟨ob,es,ep,t,e,c⟩:=x;exact ⟨ob,es,ep,t,k _ _ (.inl rfl) e,c⟩
 | ins C dx fs=>
  obtain ⟨d,z,ne,e,mA,⟨od,es,ep,e2,c⟩,r⟩:=x;exact ⟨ho _ d,z,ne,k _ _ (.inl rfl) e,mA,⟨od,es,ep,k _ _ (.inr d) e2,c⟩,r⟩
 | own y=>obtain ⟨ob,e⟩:=x;exact ⟨ob,k _ _ (.inl rfl) e⟩
 | xd fs=>obtain ⟨mA,⟨od,es,ep,e,c⟩,r⟩:=x;exact ⟨mA,⟨od,es,ep,k _ _ (.inl rfl) e,c⟩,r⟩
 | rng lo hi=>obtain ⟨t,u,v,e⟩:=x;exact ⟨t,u,v,k _ _ (.inl rfl) e⟩
 | frz ob u ih=>obtain ⟨e,q⟩:=x;exact ⟨k _ _ (.inl rfl) e,ih q⟩
 | tbl ps=>
  have e:h.get? a=some { cls:=.none,data:=.fields ps }:=x;show h'.get? a=some { cls:=.none,data:=.fields ps };exact k a _ (.inl rfl) e
 | met f y=>
  have e:h.get? a=some (zCh (.ref f) (.ref y)):=x;show h'.get? a=some (zCh (.ref f) (.ref y));exact k a _ (.inl rfl) e
 | ext φ=>obtain ⟨p,⟨o,e⟩,st⟩:=x;exact ⟨st _ _ p fun o q=>k _ _ (.inl rfl) q,⟨o,k _ _ (.inl rfl) e⟩,st⟩
theorem YX.lt(x:YX P w H h)(e:H a=some o):a<h.objs.size:=(x a o e).lt
theorem YX.fresh(x:YX P w H h)(e:h.objs.size<=a):H a=none:=by
 cases q:H a with
 | none=>rfl
 | some u=>exact absurd (zAb (x.lt q) e) (zBf _)
theorem YX.kept(x:YX P w H h)(k:∀ b u,h.get? b=some u->h'.get? b=some u):YX P w H h':=fun a o e=>
 (x a o e).stay (fun b u _ q=>k b u q) (fun _ q=>q) fun _ _ q=>q
theorem YX.laid(x:YX P w H h)(k:∀ b u,h.get? b=some u->h'.get? b=some u)(hp:h.objs.size<=a)(new:Zf P w (upd H a o) h' a o):YX P w (upd H a o) h':=fun b u e=>by
 have hn:=x.fresh hp;by_cases hb:b=a
 ·subst hb;rw [ZO] at e;cases e;exact new
 ·rw [ZV hb] at e;exact (x b u e).stay (fun c v _ q=>k c v q) (fun c q=>by rw [ZV (Zb q hn)];exact q) fun c xs q=>by rw [ZV (Zb q hn)];exact q
end
def Rd(H:Hp)(a:Addr)(u:HO):Prop:=H a=some u\/∃ o,H a=some (.frz o u)
theorem Rd.of{H:Hp}{a:Addr}{u:HO}(h:H a=some u):Rd H a u:=.inl h
theorem Rd.ok{P:Program}{w:World}{H:Hp}{h:Heap}{a:Addr}{u:HO}(r:Rd H a u)(x:YX P w H h):Zf P w H h a u:=by
 rcases r with r | ⟨o,r⟩
 ·exact x a u r
 ·obtain ⟨_,q⟩:=x a _ r;exact q
def Pi:Option HO->Prop
 | some (.lst _)=>True
 | some (.dK _)=>True
 | some (.dT _)=>True
 | some (.set _ _)=>True
 | some (.ins _ _ _)=>True
 | some (.ext _)=>True
 | _=>False
section
variable{P:Program}{w:World}{H:Hp}{h h':Heap}{x e:Addr}{o':HO}
theorem YX.write(ok:YX P w H h)(mu:Pi (H x))(he:e=x\/H e=some (.own x))(k:∀ b u,b≠e->h.get? b=some u->h'.get? b=some u)(heo:∃ u,h'.get? e=some u)(new:Zf P w (upd H x o') h' x o'):YX P w (upd H x o') h':=fun b u q=>by
 have nown:∀ c y,H c=some (.own y)->c≠x:=fun c y r z=>by subst z;rw [r] at mu;exact mu
 have ntup:∀ c xs,H c=some (.tup xs)->c≠x:=fun c xs r z=>by subst z;rw [r] at mu;exact mu
 by_cases hb:b=x
 ·subst hb;rw [ZO] at q;cases q;exact new
 ·rw [ZV hb] at q;by_cases hbe:b=e
  ·have q':H b=some (.own x):=by
    rcases he with z | z
    ·exact absurd (hbe.trans z) hb
    ·rw [hbe];exact z
   rw [q] at q';cases q';obtain ⟨v,hv⟩:=heo;exact ⟨v,by rw [hbe];exact hv⟩
  ·refine (ok b u q).stay (fun c v hc r=>k c v ?_ r) (fun c r=>by rw [ZV (nown c b r)];exact r) fun c xs r=>by rw [ZV (ntup c xs r)];exact r
   rcases hc with rfl | hc
   ·exact hbe
   ·rintro rfl;rcases he with z | z
    ·exact nown c b hc z
    ·rw [hc] at z;cases z;exact hb rfl
end
structure Un(fs ex:List Addr)(H H':Hp)(h h':Heap):Prop where
 keep:∀ b o,h.get? b=some o->H b=none->b∉fs->b∉ex->h'.get? b=some o
 slot:∀ b o,h.get? b=some o->H b=none->b∈fs->b∉ex->∃ sl,h'.get? b=some { o with slots:=sl }
 free:∀ b o,h.get? b=some o->H b=none->b∉ex->H' b=none
 there:∀ b o,h.get? b=some o->b∉ex->∃ o',h'.get? b=some o'
 tups:∀ b xs,H b=some (.tup xs)->H' b=some (.tup xs)
 frzs:∀ b o u,H b=some (.frz o u)->H' b=some (.frz o u)
 tbls:∀ b ps,H b=some (.tbl ps)->∃ more,H' b=some (.tbl (ps++more))
section
variable{fs fs' ex ex':List Addr}{H H1 H2:Hp}{h h1 h2 h':Heap}{a x e:Addr}{o:HO}
theorem Un.any(u:Un fs ex H H1 h h1){b:Addr}{ob:Obj}(q:h.get? b=some ob)(n:H b=none)(hx:b∉ex):∃ sl,h1.get? b=some { ob with slots:=sl }:=by
 by_cases hb:b∈fs
 ·exact u.slot b ob q n hb hx
 ·exact ⟨ob.slots,u.keep b ob q n hb hx⟩
theorem Un.kept(k:∀ b u,h.get? b=some u->h'.get? b=some u):Un fs ex H H h h':=
 ⟨fun b ob q _ _ _=>k b ob q,fun b ob q _ _ _=>⟨ob.slots,k b ob q⟩,fun _ _ _ n _=>n,fun b ob q _=>⟨ob,k b ob q⟩,fun _ _ q=>q,fun _ _ _ q=>q,fun _ ps q=>⟨#[],by rw [q];simp⟩⟩
theorem Un.refl:Un fs ex H H h h:=Un.kept fun _ _ q=>q
theorem Un.laid(k:∀ b u,h.get? b=some u->h'.get? b=some u)(hp:h.objs.size<=a)(hn:H a=none):Un fs ex H (upd H a o) h h' where
 keep:=fun b u q _ _ _=>k b u q
 slot:=fun b u q _ _ _=>⟨u.slots,k b u q⟩
 free:=fun b u q n _=>by rw [ZV (zAl (zAb (zAT q) hp))];exact n
 there:=fun b u q _=>⟨u,k b u q⟩
 tups:=fun b xs q=>by rw [ZV (Zb q hn)];exact q
 frzs:=fun b u xs q=>by rw [ZV (Zb q hn)];exact q
 tbls:=fun b ps q=>⟨#[],by rw [ZV (Zb q hn),q];simp⟩
theorem Un.write(mu:Pi (H x))(he:e=x\/H e=some (.own x))(k:∀ b u,b≠e->h.get? b=some u->h'.get? b=some u)(heo:∃ u,h'.get? e=some u):Un fs ex H (upd H x o) h h':=by
 have hx:∀ b,H b=none->b≠x:=fun b n z=>by subst z;rw [n] at mu;exact mu
 have hb:∀ b,H b=none->b≠e:=fun b n z=>by
  subst z;rcases he with r | r
  ·exact hx b n r
  ·rw [n] at r;cases r
 have hm:∀ b u,H b=some u->¬ Pi (some u)->b≠x:=fun b u q nm z=>by subst z;rw [q] at mu;exact nm mu
 refine ⟨fun b u q n _ _=>k b u (hb b n) q,fun b u q n _ _=>⟨u.slots,k b u (hb b n) q⟩,fun b u q n _=>by rw [ZV (hx b n)];exact n,fun b u q _=>?_,
  fun b xs q=>by rw [ZV (hm b _ q fun z=>z)];exact q,fun b u xs q=>by rw [ZV (hm b _ q fun z=>z)];exact q,fun b ps q=>⟨#[],by rw [ZV (hm b _ q fun z=>z),q];simp⟩⟩
 by_cases hbe:b=e
 ·subst hbe;exact heo
 ·exact ⟨u,k b u hbe q⟩
end
def NI(h:Heap)(H:Hp):List Addr:=(zAx h.objs.size).filter fun a=>(H a).isSome
def VY(h:Heap)(H:Hp):Heap:=zB6 h (NI h H)
theorem HM(h:Heap)(H:Hp):(VY h H).objs.size=h.objs.size:=PySem.W.hideAll_size _ _
theorem IO{h:Heap}{H:Hp}{b:Addr}{o:Obj}(e:h.get? b=some o)(n:H b=none):(VY h H).get? b=some o:=
 zDS _ e fun hm=>by
  have q:(H b).isSome=true:=(zCA.mp hm).2;rw [n] at q;simp at q
theorem Ht{h:Heap}{H:Hp}{b:Addr}{o:Obj}(e:(VY h H).get? b=some o):h.get? b=some o/\H b=none:=by
 have e':h.get? b=some o:=zDX (NI h H) e;refine ⟨e',?_⟩
 cases q:H b with
 | none=>rfl
 | some x=>
  have hm:b∈NI h H:=zCA.mpr ⟨zA8.mpr (zAT e'),by simp [q]⟩
  have z:(VY h H).get? b=none:=zDN (NI h H) hm;rw [z] at e;cases e
def CM(g h:Heap)(L:Addr):List (Addr×Obj):=(zAx h.objs.size).filterMap fun a=>if a=L\/(g.get? a).isSome=true then none else (h.get? a).map fun o=>(a,o)
def rest(g h:Heap)(L d:Addr):List (Addr×Obj):=(CM g h L).filter fun p=>decide (p.1≠d)
structure Mod(K:zAA)(mg:jb)(base:Heap):Prop where
 kin:K.In base
 glob:base.Ns mainGlobals mg
 blt:∃ mb,base.Ns builtinsNs mb/\∀ x:Str,x ≠ "__name__"->mb x=bootBuiltins x
 nolimit:base.NoLimit
structure Cx where
 prog:Program
 w:World
 K:zAA
 mg:jb
 base:Heap
 A:Around
 N:List Str
 s₀:Shared
 H₀:Hp
 env:Env
 outer:List Env
 stack:List Env
 ex:List Addr
 fn:Str->Bool
 calm:Bool
 pn:List (Addr×Obj)
 xe:ja
def frs(l:List Env):List Addr:=l.filterMap (·.frame)
abbrev Cx.fs(X:Cx):List Addr:=frs X.outer
def NE(sc:Scope)(x:Str):Prop:=sc.names.lookup x=some .local\/sc.names.lookup x=some .cell\/sc.names.lookup x=some .free
def PR(sc:Scope)(x:Str):Prop:=sc.names.lookup x=some .local\/sc.names.lookup x=some .cell
def AZ(env:Env)(h:Heap)(m:jb)(x:Str)(u:Value):Prop:=
 (env.kindOf x=some .local/\m x=some u)\/((env.kindOf x=some .cell\/env.kindOf x=some .free)/\∃ c,env.cells.lookup x=some c/\h.IsCell c (some u))
structure Cx.Ok(X:Cx):Prop where
 mod:Mod X.K X.mg X.base
 kind:X.env.scope.kind=.function
 glob:X.env.globals=mainGlobals
 blt:X.env.builtins=builtinsNs
 above:X.s₀.heap.objs.size<=X.env.locals
 inj:∀ x y c,X.env.cells.lookup x=some c->X.env.cells.lookup y=some c->x=y
 has:∀ x,(X.env.kindOf x=some .cell\/X.env.kindOf x=some .free)->∃ c,X.env.cells.lookup x=some c
 cab:∀ x c,X.fn x=true->X.env.cells.lookup x=some c->X.s₀.heap.objs.size<=c
 hd:X.calm=true->X.A.handled=none
 frames:X.A.frames=some X.stack
 stk:X.stack=X.outer\/(X.stack=X.env :: X.outer/\X.env.frame=some X.env.locals)
 exf:∀ b∈X.ex,b≠X.env.locals/\∀ x c,X.env.cells.lookup x=some c->c≠b
 bs:∀ b o,X.base.get? b=some o->X.s₀.heap.get? b=some o/\X.H₀ b=none
 bsz:X.base.objs.size<=X.s₀.heap.objs.size
 noex:∀ b o,X.base.get? b=some o->b∉X.ex
 exfs:∀ b∈X.ex,b∉X.fs
 funs:X.s₀.heap.FunFrames X.base X.outer
 frf:∀ b∈X.fs,X.H₀ b=none
structure ZH(X:Cx)(pins:List (Addr×Obj))(σ:List (jf))(H:Hp)(s:Shared):Prop where
 ok:X.Ok
 os:s.os=X.s₀.os
 bare:AllBare s.gens
 base:Un X.fs X.ex X.H₀ H X.s₀.heap s.heap
 loc:∃ m,s.heap.Ns X.env.locals m/\∀(i:Nat)(x:Str)(v:V),X.N[i]? = some x->σ[i]? = some (some v)->NE X.env.scope x->∃ u,ZS v u/\AZ X.env s.heap m x u
 cell:∀ x c,X.env.cells.lookup x=some c->∃ v,s.heap.IsCell c v
 free:H X.env.locals=none
 freeC:∀ x c,X.env.cells.lookup x=some c->H c=none
 pin:∀ p∈X.pn++pins,s.heap.get? p.1=some p.2/\H p.1=none/\p.1≠X.env.locals/\p.1∉X.fs/\∀ v,p.2.data≠.cell v
 hok:YX X.prog X.w H s.heap
 len:σ.length=X.N.length
section
variable{X:Cx}{pins:List (Addr×Obj)}{σ:List (jf)}{H H':Hp}{s:Shared}{h':Heap}
theorem Cx.Ok.nofr(ok:X.Ok){b:Addr}{o:Obj}(e:X.base.get? b=some o):b∉X.fs:=fun hb=>by
 have:=(ok.funs.mem hb).1;rw [e] at this;cases this
theorem ZH.bs(I:ZH X pins σ H s):∀ b o,X.base.get? b=some o->s.heap.get? b=some o/\H b=none:=fun b o e=>
 ⟨I.base.keep b o (I.ok.bs b o e).1 (I.ok.bs b o e).2 (I.ok.nofr e) (I.ok.noex b o e),I.base.free b o (I.ok.bs b o e).1 (I.ok.bs b o e).2 (I.ok.noex b o e)⟩
theorem ZH.bk(I:ZH X pins σ H s):∀ b o,X.base.get? b=some o->s.heap.get? b=some o:=fun b o e=>(I.bs b o e).1
theorem ZH.mod(I:ZH X pins σ H s):Mod X.K X.mg X.base:=I.ok.mod
theorem ZH.kIn(I:ZH X pins σ H s):X.K.In s.heap:=I.ok.mod.kin.keeps I.bk
theorem ZH.lt(I:ZH X pins σ H s):X.env.locals<s.heap.objs.size:=let ⟨_,hn,_⟩:=I.loc;hn.lt
theorem ZH.sz(I:ZH X pins σ H s):X.s₀.heap.objs.size<=s.heap.objs.size:=zAv I.ok.above (zBJ I.lt)
theorem ZH.nofs(I:ZH X pins σ H s){a:Addr}(h:s.heap.objs.size<=a):a∉X.fs:=fun hb=>by
 obtain ⟨_,o,ho,_⟩:=I.ok.funs.mem hb;exact absurd (zAb (zAT ho) (zAv I.sz h)) (zBf _)
theorem ZH.cne(I:ZH X pins σ H s):∀ x c,X.env.cells.lookup x=some c->c≠X.env.locals:=fun x c e z=>by
 obtain ⟨v,o,ho,hd⟩:=I.cell x c e;obtain ⟨m,⟨o',es,ep,ho',hd',_⟩,_⟩:=I.loc;rw [z,ho'] at ho;cases ho;rw [hd'] at hd;cases hd
theorem ZH.funs(I:ZH X pins σ H s):s.heap.FunFrames X.base X.outer:=by
 have all:∀(l:List Env),(∀ b∈frs l,b∈X.fs)->X.s₀.heap.FunFrames X.base l->s.heap.FunFrames X.base l:=by
  intro l
  induction l with
  | nil=>intro _ _;trivial
  | cons env r ih=>
   intro hs hl;obtain ⟨hk,⟨L,o,hf,hn,ho,hd⟩,hr⟩:=hl;have hL:L∈X.fs:=hs L (by unfold frs;rw [zBO,hf];exact zAQ)
   obtain ⟨sl,e⟩:=I.base.slot L o ho (I.ok.frf L hL) hL fun z=>I.ok.exfs L z hL;exact ⟨hk,⟨L,_,hf,hn,e,hd⟩,ih (fun b hb=>hs b (by unfold frs;rw [zBO,hf];exact zAL _ hb)) hr⟩
 exact all X.outer (fun _ hb=>hb) I.ok.funs
theorem ZH.stack(I:ZH X pins σ H s):s.heap.FunFrames X.base X.stack:=by
 rcases I.ok.stk with e | ⟨e,hf⟩
 ·rw [e];exact I.funs
 ·rw [e];obtain ⟨m,hn,_⟩:=I.loc;refine .cons (by rw [I.ok.kind];decide) hf hn ?_ I.funs
  exact zBi (zAv I.ok.bsz I.ok.above)
theorem ZH.stkSub(I:ZH X pins σ H s):∀ b∈frs X.stack,b∈X.env.locals :: X.fs:=fun b hb=>by
 rcases I.ok.stk with e | ⟨e,hf⟩
 ·rw [e] at hb;exact zAL _ hb
 ·rw [e] at hb;unfold frs at hb;rw [zBO,hf] at hb;exact hb
theorem ZH.stkFree(I:ZH X pins σ H s):∀ b∈frs X.stack,H b=none:=fun b hb=>by
 rcases zAe.mp (I.stkSub b hb) with e | hb
 ·rw [e];exact I.free
 ·obtain ⟨_,o,ho,_⟩:=I.ok.funs.mem hb;exact I.base.free b o ho (I.ok.frf b hb) fun z=>I.ok.exfs b z hb
theorem ZH.step{g':Array GenState}{t':Nat}{d':Drawn}{ch:List Addr}(I:ZH X pins σ H s)(hch:∀ b∈ch,(b∈X.ex\/X.s₀.heap.objs.size<=b)/\b≠X.env.locals/\(∀ x c,X.env.cells.lookup x=some c->c≠b)/\∀ p∈X.pn++pins,p.1≠b)(keep:∀ b o,b≠X.env.locals->b∉X.fs->b∉ch->s.heap.get? b=some o->H b=none->h'.get? b=some o)(slot:∀ b o,b≠X.env.locals->b∈X.fs->b∉ch->s.heap.get? b=some o->H b=none->∃ sl,h'.get? b=some { o with slots:=sl })(free:∀ b o,b∉ch->s.heap.get? b=some o->H b=none->H' b=none)(there:∀ b o,b∉ch->s.heap.get? b=some o->∃ o',h'.get? b=some o')(tups:∀ b xs,H b=some (.tup xs)->H' b=some (.tup xs))(frzs:∀ b o u,H b=some (.frz o u)->H' b=some (.frz o u))(tbls:∀ b ps,H b=some (.tbl ps)->∃ more,H' b=some (.tbl (ps++more)))(ns:∀ m,s.heap.Ns X.env.locals m->h'.Ns X.env.locals m)(hok:YX X.prog X.w H' h')(hg:AllBare g'):
  ZH X pins σ H' { s with heap:=h',gens:=g',drawn:=d',toks:=t' }:=by
 have neL:∀ b o,X.s₀.heap.get? b=some o->b≠X.env.locals:=fun b o e=>zAl (zAb (zAT e) I.ok.above);have neC:∀ b o,X.s₀.heap.get? b=some o->b∉X.ex->b∉ch:=fun b o e hx hb=>by
  rcases (hch b hb).1 with z | z
  ·exact hx z
  ·exact absurd (zAb (zAT e) z) (zBf _)
 have cellK:∀ x c,X.env.cells.lookup x=some c->∀ v,s.heap.IsCell c v->h'.IsCell c v:=fun x c e v ⟨o,ho,hd⟩=>by
  have nch:c∉ch:=fun z=>(hch c z).2.2.1 x c e rfl;by_cases hc:c∈X.fs
  ·obtain ⟨sl,q⟩:=slot c o (I.cne x c e) hc nch ho (I.freeC x c e);exact ⟨_,q,hd⟩
  ·exact ⟨o,keep c o (I.cne x c e) hc nch ho (I.freeC x c e),hd⟩
 refine ⟨I.ok,I.os,hg,⟨fun b o e n hb hx=>?_,fun b o e n hb hx=>?_,fun b o e n hx=>?_,fun b o e hx=>?_,fun b xs e=>tups b xs (I.base.tups b xs e),fun b o xs e=>frzs b o xs (I.base.frzs b o xs e),fun b ps e=>?_⟩,?_,fun x c e=>?_,?_,fun x c e=>?_,fun p hp=>?_,hok,I.len⟩
 ·exact keep b o (neL b o e) hb (neC b o e hx) (I.base.keep b o e n hb hx) (I.base.free b o e n hx)
 ·obtain ⟨sl,e1⟩:=I.base.slot b o e n hb hx;obtain ⟨sl',e2⟩:=slot b _ (neL b o e) hb (neC b o e hx) e1 (I.base.free b o e n hx);exact ⟨sl',e2⟩
 ·obtain ⟨o',e1⟩:=I.base.there b o e hx;exact free b o' (neC b o e hx) e1 (I.base.free b o e n hx)
 ·obtain ⟨o',e1⟩:=I.base.there b o e hx;exact there b o' (neC b o e hx) e1
 ·obtain ⟨m1,e1⟩:=I.base.tbls b ps e;obtain ⟨m2,e2⟩:=tbls b _ e1;exact ⟨m1++m2,by rw [e2,Array.append_assoc]⟩
 ·obtain ⟨m,hn,hl⟩:=I.loc;refine ⟨m,ns m hn,fun i x v e1 e2 e3=>?_⟩;obtain ⟨u,r,l⟩:=hl i x v e1 e2 e3;refine ⟨u,r,?_⟩;rcases l with l | ⟨k,c,e,z⟩
  ·exact .inl l
  ·exact .inr ⟨k,c,e,cellK x c e _ z⟩
 ·obtain ⟨v,z⟩:=I.cell x c e;exact ⟨v,cellK x c e v z⟩
 ·obtain ⟨m,⟨o,_,_,ho,_⟩,_⟩:=I.loc;exact free _ o (fun z=>(hch _ z).2.1 rfl) ho I.free
 ·obtain ⟨v,o,ho,hd⟩:=I.cell x c e;exact free c o (fun z=>(hch c z).2.2.1 x c e rfl) ho (I.freeC x c e)
 ·obtain ⟨e,n,ne,nf,d⟩:=I.pin p hp;have nch:p.1∉ch:=fun z=>(hch p.1 z).2.2.2 p hp rfl;exact ⟨keep p.1 p.2 ne nf nch e n,free p.1 p.2 nch e n,ne,nf,d⟩
theorem ZH.un{t':Nat}(I:ZH X pins σ H s)(u:Un X.fs [] H H' s.heap h')(hok:YX X.prog X.w H' h'):ZH X pins σ H' { s with heap:=h',toks:=t' }:=by
 obtain ⟨m,⟨o,es,ep,ho,r⟩,_⟩:=id I.loc;obtain ⟨sl,hL⟩:=u.any ho I.free (by simp)
 exact I.step (g':=s.gens) (d':=s.drawn) (ch:=[]) (fun _ z=>nomatch z) (fun b o _ hb _ e n=>u.keep b o e n hb (by simp)) (fun b o _ hb _ e n=>u.slot b o e n hb (by simp)) (fun b o _ e n=>u.free b o e n (by simp)) (fun b o _ e=>u.there b o e (by simp)) u.tups u.frzs u.tbls (fun m' hm=>by
  obtain ⟨o',es',ep',ho',r'⟩:=hm;rw [ho] at ho';cases ho';exact ⟨_,es',ep',hL,r'⟩) hok I.bare
theorem ZH.call{g':Array GenState}{t':Nat}{d':Drawn}{ch:List Addr}(I:ZH X pins σ H s)(u:Un (frs X.stack) ch H H' s.heap h')(hok:YX X.prog X.w H' h')(hg:AllBare g')(hch:∀ b∈ch,(b∈X.ex\/X.s₀.heap.objs.size<=b)/\b≠X.env.locals/\(∀ x c,X.env.cells.lookup x=some c->c≠b)/\∀ p∈X.pn++pins,p.1≠b):
  ZH X pins σ H' { s with heap:=h',gens:=g',drawn:=d',toks:=t' }:=by
 obtain ⟨m,⟨o,es,ep,ho,r⟩,_⟩:=id I.loc;obtain ⟨sl,hL⟩:=u.any ho I.free fun z=>(hch _ z).2.1 rfl;exact I.step (ch:=ch) hch (fun b o hL hb hc e n=>u.keep b o e n (fun z=>(zAe.mp (I.stkSub b z)).elim hL hb) hc) (fun b o _ _ hc e n=>u.any e n hc) (fun b o hc e n=>u.free b o e n hc) (fun b o hc e=>u.there b o e hc) u.tups u.frzs u.tbls (fun m' hm=>by
  obtain ⟨o',es',ep',ho',r'⟩:=hm;rw [ho] at ho';cases ho';exact ⟨_,es',ep',hL,r'⟩) hok hg
theorem ZH.turned{t':Nat}{it:Addr}(I:ZH X pins σ H s)(k:∀ b o,b≠it->s.heap.get? b=some o->h'.get? b=some o)(hn:H it=none)(hL:it≠X.env.locals)(h1:it∈X.ex\/X.s₀.heap.objs.size<=it)(h2:∀ x c,X.env.cells.lookup x=some c->c≠it)(h3:∀ p∈X.pn++pins,p.1≠it):ZH X pins σ H { s with heap:=h',toks:=t' }:=by
 have nit:∀ b u,H b=some u->b≠it:=fun b u e z=>by rw [z,hn] at e;cases e
 refine I.step (g':=s.gens) (d':=s.drawn) (ch:=[it]) (fun b hb=>?_) (fun b o _ _ hc e _=>k b o (fun z=>hc (by simp [z])) e) (fun b o _ _ hc e _=>⟨o.slots,k b o (fun z=>hc (by simp [z])) e⟩) (fun _ _ _ _ n=>n)
  (fun b o hc e=>⟨o,k b o (fun z=>hc (by simp [z])) e⟩) (fun _ _ e=>e) (fun _ _ _ e=>e) (fun b ps e=>⟨#[],by rw [e];simp⟩) (fun m hm=>?_) (fun b u e=>?_) I.bare
 ·have e:b=it:=by simpa using hb
  subst e;exact ⟨h1,hL,h2,h3⟩
 ·obtain ⟨o,es,ep,ho,r⟩:=hm;exact ⟨o,es,ep,k _ o (Ne.symm hL) ho,r⟩
 ·refine (I.hok b u e).stay (fun c v hc q=>k c v ?_ q) (fun _ q=>q) fun _ _ q=>q;rcases hc with z | z
  ·rw [z];exact nit b u e
  ·exact nit c _ z
theorem ZH.tok(I:ZH X pins σ H s)(t:Nat):ZH X pins σ H { s with toks:=t }:=I.un (h':=s.heap) (t':=t) Un.refl I.hok
theorem ZH.kept{t':Nat}(I:ZH X pins σ H s)(k:∀ b u,s.heap.get? b=some u->h'.get? b=some u):ZH X pins σ H { s with heap:=h',toks:=t' }:=I.un (Un.kept k) (I.hok.kept k)
theorem ZH.laid{a:Addr}{o:HO}{t':Nat}(I:ZH X pins σ H s)(k:∀ b u,s.heap.get? b=some u->h'.get? b=some u)(hp:s.heap.objs.size<=a)(new:Zf X.prog X.w (upd H a o) h' a o):
  ZH X pins σ (upd H a o) { s with heap:=h',toks:=t' }:=I.un (Un.laid k hp (I.hok.fresh hp)) (I.hok.laid k hp new)
theorem ZH.write{x e:Addr}{o:HO}{t':Nat}(I:ZH X pins σ H s)(mu:Pi (H x))(he:e=x\/H e=some (.own x))(k:∀ b u,b≠e->s.heap.get? b=some u->h'.get? b=some u)(heo:∃ u,h'.get? e=some u)(new:Zf X.prog X.w (upd H x o) h' x o):ZH X pins σ (upd H x o) { s with heap:=h',toks:=t' }:=I.un (Un.write mu he k heo) (I.hok.write mu he k heo new)
theorem ZH.pins_of{pins':List (Addr×Obj)}(I:ZH X pins σ H s)(h:∀ p∈pins',s.heap.get? p.1=some p.2/\H p.1=none/\p.1≠X.env.locals/\p.1∉X.fs/\∀ v,p.2.data≠.cell v):ZH X pins' σ H s:=
 ⟨I.ok,I.os,I.bare,I.base,I.loc,I.cell,I.free,I.freeC,fun p hp=>(zAd.mp hp).elim (fun z=>I.pin p (zAz _ z)) (h p),I.hok,I.len⟩
theorem Mj{N:List Str}(hN:N.Nodup){i j:Nat}{x:Str}(a:N[i]? = some x)(b:N[j]? = some x):i=j:=by
 obtain ⟨h1,e1⟩:=zAK.mp a;obtain ⟨h2,e2⟩:=zAK.mp b;exact (List.getElem_inj hN).mp (e1.trans e2.symm)
theorem K2{M:Model}{A:Around}{E:ja}{i:Nat}{x:Str}{v:V}{u:Value}{Q:Unit->Shared->Prop}(I:ZH X pins σ H s)(hN:X.N.Nodup)(hi:X.N[i]? = some x)(hx:PR X.env.scope x)(r:ZS v u)(h:∀ s',ZH X pins (σ.set i (some v)) H s'->(∃ a,zBD a s.heap s'.heap/\(a=X.env.locals\/X.env.cells.lookup x=some a))->Q () s')(hf:X.fn x=true\/X.env.scope.names.lookup x=some .local:=by first | exact .inl rfl | exact .inr rfl | assumption):wpAny M A (storeName X.env x u) Q E s:=by
 obtain ⟨m,hn,hl⟩:=id I.loc;have hcls:(X.env.scope.kind==.class || (X.env.scope.kind==.module&&X.env.locals != X.env.globals))=false:=by rw [I.ok.kind];rfl
 have hiσ:i<σ.length:=by rw [I.len];exact (zAK.mp hi).1
 have cne:=I.cne;have tracked:∀{a:Addr}{h':Heap},(∃ o,s.heap.get? a=some o/\H a=none)->zBD a s.heap h'->YX X.prog X.w H h':=fun{a h'} ha hs b ob e=>by
  obtain ⟨_,_,hfree⟩:=ha;refine (I.hok b ob e).stay (fun c w' hc q=>(hs.2 c ?_).trans q) (fun _ q=>q) fun _ _ q=>q;rintro rfl;rcases hc with rfl | hc
  ·rw [hfree] at e;cases e
  ·rw [hfree] at hc;cases hc
 rcases hx with hk | hk
 ·refine wpAny_storeName_local hk hn (fun h' hn' hs=>?_) hcls;obtain ⟨oL,_,_,hoL,_⟩:=id hn;refine h _ ⟨I.ok,I.os,I.bare,⟨fun b o e n hb hx=>?_,fun b o e n hb hx=>?_,I.base.free,fun b o e hx=>?_,I.base.tups,I.base.frzs,I.base.tbls⟩,⟨_,hn',fun j y v' e1 e2 e3=>?_⟩,fun y c e=>?_,I.free,I.freeC,fun p hp=>?_,tracked ⟨oL,hoL,I.free⟩ hs,by simpa using I.len⟩ ⟨_,hs,.inl rfl⟩
  ·exact (hs.2 b (zAl (zAb (zAT e) I.ok.above))).trans (I.base.keep b o e n hb hx)
  ·obtain ⟨sl,e1⟩:=I.base.slot b o e n hb hx;exact ⟨sl,(hs.2 b (zAl (zAb (zAT e) I.ok.above))).trans e1⟩
  ·obtain ⟨o',e1⟩:=I.base.there b o e hx;exact ⟨o',(hs.2 b (zAl (zAb (zAT e) I.ok.above))).trans e1⟩
  ·by_cases hj:j=i
   ·subst hj;rw [hi] at e1;cases e1;rw [zCT hiσ] at e2;cases e2;exact ⟨u,r,.inl ⟨hk,by simp⟩⟩
   ·rw [zCc (Ne.symm hj)] at e2;obtain ⟨u',r',q⟩:=hl j y v' e1 e2 e3;refine ⟨u',r',?_⟩;rcases q with ⟨k,e⟩ | ⟨k,c,e,z⟩
    ·refine .inl ⟨k,?_⟩;have:y≠x:=fun e=>hj (Mj hN e1 (e ▸ hi));simp [this,e]
    ·exact .inr ⟨k,c,e,z.sameBut hs (cne y c e)⟩
  ·obtain ⟨w',z⟩:=I.cell y c e;exact ⟨w',z.sameBut hs (cne y c e)⟩
  ·obtain ⟨e,n,ne,nf,d⟩:=I.pin p hp;exact ⟨(hs.2 p.1 ne).trans e,n,ne,nf,d⟩
 ·have hfn:X.fn x=true:=by
   rcases hf with z | z
   ·exact z
   ·rw [z] at hk;cases hk
  obtain ⟨c,hc⟩:=I.ok.has x (.inl hk);obtain ⟨w',z⟩:=I.cell x c hc;refine wpAny_storeName_cell I.ok.kind hk hc z (fun h' hc' hs=>?_);obtain ⟨oc,hoc,hocd⟩:=id z;refine h { s with heap:=h' } ⟨I.ok,I.os,I.bare,⟨fun b o e n hb hx=>?_,fun b o e n hb hx=>?_,I.base.free,fun b o e hx=>?_,I.base.tups,I.base.frzs,I.base.tbls⟩,⟨m,hn.sameBut hs (Ne.symm (cne x c hc)),fun j y v' e1 e2 e3=>?_⟩,fun y c' e=>?_,I.free,I.freeC,fun p hp=>?_,tracked ⟨oc,hoc,I.freeC x c hc⟩ hs,by simpa using I.len⟩ ⟨c,hs,.inr hc⟩
  ·exact (hs.2 b (zAl (zAb (zAT e) (I.ok.cab x c hfn hc)))).trans (I.base.keep b o e n hb hx)
  ·obtain ⟨sl,e1⟩:=I.base.slot b o e n hb hx;exact ⟨sl,(hs.2 b (zAl (zAb (zAT e) (I.ok.cab x c hfn hc)))).trans e1⟩
  ·obtain ⟨o',e1⟩:=I.base.there b o e hx;exact ⟨o',(hs.2 b (zAl (zAb (zAT e) (I.ok.cab x c hfn hc)))).trans e1⟩
  ·by_cases hj:j=i
   ·subst hj;rw [hi] at e1;cases e1;rw [zCT hiσ] at e2;cases e2;exact ⟨u,r,.inr ⟨.inl hk,c,hc,hc'⟩⟩
   ·rw [zCc (Ne.symm hj)] at e2;obtain ⟨u',r',q⟩:=hl j y v' e1 e2 e3;refine ⟨u',r',?_⟩;rcases q with q | ⟨k,c',e,z'⟩
    ·exact .inl q
    ·refine .inr ⟨k,c',e,z'.sameBut hs ?_⟩;rintro rfl;exact hj (Mj hN e1 (I.ok.inj _ _ _ e hc ▸ hi))
  ·by_cases hcc:c'=c
   ·subst hcc;exact ⟨_,hc'⟩
   ·obtain ⟨w2,z2⟩:=I.cell y c' e;exact ⟨w2,z2.sameBut hs hcc⟩
  ·obtain ⟨e,n,ne,nf,d⟩:=I.pin p hp;refine ⟨(hs.2 p.1 ?_).trans e,n,ne,nf,d⟩;intro q;rw [q,hoc] at e;have q':oc=p.2:=zAj.inj e;exact d w' (by rw [<-q'];exact hocd)
theorem Oa{M:Model}{A:Around}{E:ja}{i:Nat}{x:Str}{v:V}{u:Value}{Q:Unit->Shared->Prop}(I:ZH X pins σ H s)(hN:X.N.Nodup)(hi:X.N[i]? = some x)(hx:PR X.env.scope x)(r:ZS v u)(h:∀ s',ZH X pins (σ.set i (some v)) H s'->Q () s')(hf:X.fn x=true\/X.env.scope.names.lookup x=some .local:=by first | exact .inl rfl | exact .inr rfl | assumption):wpAny M A (storeName X.env x u) Q E s:=
 K2 I hN hi hx r (fun s' I' _=>h s' I') hf
theorem ZH.call'{s':Shared}{ch:List Addr}(I:ZH X pins σ H s)(ho:s'.os=s.os)(u:Un (frs X.stack) ch H H' s.heap s'.heap)(hok:YX X.prog X.w H' s'.heap)(hg:AllBare s'.gens)(hch:∀ b∈ch,(b∈X.ex\/X.s₀.heap.objs.size<=b)/\b≠X.env.locals/\(∀ x c,X.env.cells.lookup x=some c->c≠b)/\∀ p∈X.pn++pins,p.1≠b):ZH X pins σ H' s':=by
 obtain ⟨h',g',d',t',o'⟩:=s';have e:o'=s.os:=ho;subst e;exact I.call (g':=g') (t':=t') (d':=d') u hok hg hch
end
abbrev XK:=Value->Option Addr->Hp->Prop
abbrev St:=List (jf)
abbrev VK:=V->Hp->Prop
abbrev TE:=St->Hp->VK->Prop
abbrev TT:=St->Hp->(Bool->Hp->Prop)->Prop
abbrev TA:=St->Hp->(je->Hp->Prop)->Prop
structure Ym where
 nx:St->Hp->Prop
 rt:VK
 bk:St->Hp->Prop:=fun _ _=>False
 ct:St->Hp->Prop:=fun _ _=>False
abbrev TS:=Ym->St->Hp->Prop
def EP(X:Cx)(pins:List (Addr×Obj))(σ:St)(Q:VK)(u:Value)(s':Shared):Prop:=∃ v H',ZH X pins σ H' s'/\ZS v u/\Q v H'
def TP(X:Cx)(pins:List (Addr×Obj))(σ:St)(Q:Bool->Hp->Prop)(b:Bool)(s':Shared):Prop:=∃ H',ZH X pins σ H' s'/\Q b H'
def AP(X:Cx)(pins:List (Addr×Obj))(σ:St)(Q:je->Hp->Prop)(us:jd)(s':Shared):Prop:=∃ vs H',ZH X pins σ H' s'/\ZN vs us/\Q vs H'
def SP(X:Cx)(pins:List (Addr×Obj))(D:Ym)(f:Flow)(s':Shared):Prop:=
 match f with
 | .next=>∃ σ' H',ZH X pins σ' H' s'/\D.nx σ' H'
 | .brk=>∃ σ' H',ZH X pins σ' H' s'/\D.bk σ' H'
 | .cont=>∃ σ' H',ZH X pins σ' H' s'/\D.ct σ' H'
 | .ret u=>∃ v σ' H',ZH X pins σ' H' s'/\ZS v u/\D.rt v H'
def PE(X:Cx)(e:Expr)(t:TE):Prop:=
 ∀(pins:List (Addr×Obj))(s:Shared)(σ:St)(H:Hp)(Q:VK),ZH X pins σ H s->t σ H Q->wpAny (model X.prog X.w) X.A (eval e X.env) (EP X pins σ Q) X.xe s
def PT(X:Cx)(e:Expr)(t:TT):Prop:=
 ∀(pins:List (Addr×Obj))(s:Shared)(σ:St)(H:Hp)(Q:Bool->Hp->Prop),ZH X pins σ H s->t σ H Q->wpAny (model X.prog X.w) X.A (isTrue e X.env (eval e X.env)) (TP X pins σ Q) X.xe s
def PW(X:Cx)(e:Expr)(t:TT):Prop:=
 ∀(whole:Sem Value)(pins:List (Addr×Obj))(s:Shared)(σ:St)(H:Hp)(Q:Bool->Hp->Prop),ZH X pins σ H s->t σ H Q->wpAny (model X.prog X.w) X.A (isTrue e X.env whole) (TP X pins σ Q) X.xe s
theorem PW.pt{X:Cx}{e:Expr}{t:TT}(h:PW X e t):PT X e t:=h _
def PA(X:Cx)(es:List Expr)(t:TA):Prop:=
 ∀(pos:Pos)(pins:List (Addr×Obj))(s:Shared)(σ:St)(H:Hp)(Q:je->Hp->Prop),ZH X pins σ H s->t σ H Q->wpAny (model X.prog X.w) X.A (spliced (backTo pos (starEach es X.env))) (AP X pins σ Q) X.xe s
def PS(X:Cx)(st:Stmt)(t:TS):Prop:=
 ∀(pins:List (Addr×Obj))(s:Shared)(σ:St)(H:Hp)(D:Ym),ZH X pins σ H s->t D σ H->wpAny (model X.prog X.w) X.A (exec st X.env) (SP X pins D) X.xe s
def X5(X:Cx)(st:List Stmt)(t:TS):Prop:=
 ∀(pins:List (Addr×Obj))(s:Shared)(σ:St)(H:Hp)(D:Ym),ZH X pins σ H s->t D σ H->wpAny (model X.prog X.w) X.A (execs st X.env) (SP X pins D) X.xe s
theorem Zc{α:Type}{t:Sem α}{Q Q':α->Shared->Prop}{M:Model}{A:Around}{E:ja}{s:Shared}(h:wpAny M A t Q E s)(hQ:∀ a s,Q a s->Q' a s):wpAny M A t Q' E s:=wpAny_mono h hQ fun _ _ x=>x
section
variable{X:Cx}
theorem E2{a b:Expr}{ta tb:TE}(ha:PE X a ta)(hb:PE X b tb){pins:List (Addr×Obj)}{s:Shared}{σ:St}{H:Hp}{R:V->V->Hp->Prop}(I:ZH X pins σ H s)(h:ta σ H fun x H1=>tb σ H1 fun y H2=>R x y H2){α:Type}{Q:α->Shared->Prop}{f:Value->Value->Sem α}(hf:∀ v u s2 x y H2,ZH X pins σ H2 s2->ZS x v->ZS y u->R x y H2->wpAny (model X.prog X.w) X.A (f v u) Q X.xe s2):
  wpAny (model X.prog X.w) X.A (eval a X.env) (fun v s₁=>wpAny (model X.prog X.w) X.A (eval b X.env) (fun u s₂=>wpAny (model X.prog X.w) X.A (f v u) Q X.xe s₂) X.xe s₁) X.xe s:=by
 refine Zc (ha pins s σ H _ I h) fun v s1 ⟨x,H1,I1,r1,q1⟩=>?_;refine Zc (hb pins s1 σ H1 _ I1 q1) fun u s2 ⟨y,H2,I2,r2,q2⟩=>?_;exact hf v u s2 x y H2 I2 r1 r2 q2
def OW(i:Nat):TE:=fun σ H Q=>∃ v,σ[i]? = some (some v)/\Q v H
def tC(v:V):TE:=fun _ H Q=>Q v H
theorem Dr{i:Nat}{x:Str}{pos:Pos}(hN:X.N[i]? = some x)(hv:NE X.env.scope x)(hd:(x==("__debug__" : Str))=false:=by decide)(jD:(x==("__classdict__" : Str))=false:=by decide):PE X (.Name x pos) (OW i):=by
 intro pins s σ H Q I h;obtain ⟨v,e,h⟩:=h;obtain ⟨m,hn,hl⟩:=I.loc;obtain ⟨u,r,l⟩:=hl i x v hN e hv;have fin:EP X pins σ Q u s:=⟨v,H,I,r,h⟩;rcases l with ⟨hk,hm⟩ | ⟨hk,c,hc,ju⟩
 ·exact wpAny_Name (wpAny_loadName_local I.ok.kind hk hn hm fin) hd
 ·rcases hk with hk | hk
  ·exact wpAny_Name (wpAny_loadName_cell I.ok.kind hk hc ju fin) hd
  ·exact wpAny_Name (wpAny_loadName_free I.ok.kind hk hc ju fin jD) hd
theorem ZM{i j pos}:PE X (.Constant (.int i) j pos) (tC (.int i)):=fun _ _ _ H _ I h=>wpAny_Constant_int ⟨.int i,H,I.tok _,⟨_,rfl⟩,h⟩
theorem XT{b j pos}:PE X (.Constant (.bool b) j pos) (tC (.bl b)):=fun _ _ _ H _ I h=>Constant_bool ⟨.bl b,H,I,rfl,h⟩
theorem Nf{j pos}:PE X (.Constant .none j pos) (tC .non):=fun _ _ _ H _ I h=>Constant_none ⟨.non,H,I,rfl,h⟩
theorem Xf{x j pos}:PE X (.Constant (.str x) j pos) (tC (.str x)):=fun _ _ _ H _ I h=>Calls.Constant_str ⟨.str x,H,I.tok _,⟨_,rfl⟩,h⟩
def Gl(X:Cx)(x:Str):Prop:=X.env.kindOf x=some .globalImplicit
theorem Qr{E:ja}{pins:List (Addr×Obj)}{s:Shared}{σ:St}{H:Hp}{x:Str}{u:Value}{pos:Pos}{Q:ja}(I:ZH X pins σ H s)(hg:Gl X x)(hm:X.mg x=some u)(h:Q u s)(hd:(x==("__debug__" : Str))=false:=by decide):wpAny (model X.prog X.w) X.A (eval (.Name x pos) X.env) Q E s:=
 Calls.Name_function_global I.ok.kind hg (Calls.loadGlobal_global (by rw [I.ok.glob];exact I.mod.glob.keeps I.bk) hm h) hd
theorem Qy{E:ja}{pins:List (Addr×Obj)}{s:Shared}{σ:St}{H:Hp}{x:Str}{u:Value}{pos:Pos}{Q:ja}(I:ZH X pins σ H s)(hg:Gl X x)(hm:X.mg x=none)(hv:bootBuiltins x=some u)(h:Q u s)(hn:x ≠ "__name__" :=by decide)(hd:(x==("__debug__" : Str))=false:=by decide):wpAny (model X.prog X.w) X.A (eval (.Name x pos) X.env) Q E s:=by
 obtain ⟨mb,h1,h2⟩:=I.mod.blt;exact Calls.Name_function_global I.ok.kind hg (Calls.loadGlobal_builtin (by rw [I.ok.glob];exact I.mod.glob.keeps I.bk) hm (by rw [I.ok.blt];exact h1.keeps I.bk) ((h2 x hn).trans hv) h) hd
theorem WE{x:Str}{v:V}{u:Value}{pos:Pos}(hg:Gl X x)(hm:X.mg x=some u)(r:ZS v u)(hd:(x==("__debug__" : Str))=false:=by decide):PE X (.Name x pos) (tC v):=
 fun _ _ _ H _ I h=>Qr I hg hm ⟨v,H,I,r,h⟩ hd
theorem VC{x:Str}{v:V}{u:Value}{pos:Pos}(hg:Gl X x)(hm:X.mg x=none)(hv:bootBuiltins x=some u)(r:ZS v u)(hn:x ≠ "__name__" :=by decide)(hd:(x==("__debug__" : Str))=false:=by decide):PE X (.Name x pos) (tC v):=
 fun _ _ _ H _ I h=>Qy I hg hm hv ⟨v,H,I,r,h⟩ hn hd
def Eb(ta tb:TE)(k:Int->Int->Hp->Prop):St->Hp->Prop:=fun σ H=>ta σ H fun x H1=>tb σ H1 fun y H2=>∃ i j,x=.int i/\y=.int j/\k i j H2
variable{a b:Expr}{ta tb:TE}{pos:Pos}
def PC(X:Cx)(op:CmpOp)(a b:Expr)(t:TE):Prop:=
 ∀(pins:List (Addr×Obj))(s:Shared)(σ:St)(H:Hp)(Q:VK),ZH X pins σ H s->t σ H Q ->
  wpAny (model X.prog X.w) X.A (eval a X.env) (fun v s₁=>wpAny (model X.prog X.w) X.A (eval b X.env) (fun u s₂=>wpAny (model X.prog X.w) X.A (compareOp op v u) (EP X pins σ Q) X.xe s₂) X.xe s₁) X.xe s
theorem BK(b:Expr){op:CmpOp}(h:op≠.In)(h2:op≠.NotIn):behindInMarks op b=false:=by
 have e1:(op==CmpOp.In)=false:=by cases op <;> first | rfl | exact absurd rfl h
 have e2:(op==CmpOp.NotIn)=false:=by cases op <;> first | rfl | exact absurd rfl h2
 cases b <;> simp [behindInMarks,e1,e2]
def Na(p:Int->Int->Bool)(ta tb:TE):TE:=fun σ H Q=>Eb ta tb (fun i j H2=>Q (.bl (p i j)) H2) σ H
abbrev tLt:TE->TE->TE:=Na fun i j=>decide (i<j)
abbrev tGe:TE->TE->TE:=Na fun i j=>decide (j<=i)
abbrev ER:TE->TE->TE:=Na fun i j=>decide (i=j)
theorem Mt{op:CmpOp}{p:Int->Int->Bool}(ha:PE X a ta)(hb:PE X b tb)(rule:∀ (i j:Int) (t u:Tok) (Q:ja) (s:Shared),Q (.bool (p i j)) s->wpAny (model X.prog X.w) X.A (compareOp op (.int i t) (.int j u)) Q X.xe s):PC X op a b (Na p ta tb):=by
 intro pins s σ H Q I h;refine E2 ha hb I h fun v u s2 x y H2 I2 rx ry q=>?_;obtain ⟨i,j,rfl,rfl,q⟩:=q;obtain ⟨t,rfl⟩:=rx;obtain ⟨t',rfl⟩:=ry;exact rule i j t t' _ s2 ⟨.bl _,H2,I2,rfl,q⟩
theorem Ju(ha:PE X a ta)(hb:PE X b tb):PC X .Lt a b (tLt ta tb):=Mt ha hb fun _ _ _ _ _ _ h=>lt_int h
theorem Gc(ha:PE X a ta)(hb:PE X b tb):PC X .GtE a b (tGe ta tb):=Mt ha hb fun _ _ _ _ _ _ h=>ge_int h
theorem KW(ha:PE X a ta)(hb:PE X b tb):PC X .Eq a b (ER ta tb):=Mt ha hb fun _ _ _ _ _ _ h=>eq_int (by rw [Bool.beq_eq_decide_eq];exact h)
def FX(ta:TE):TE:=fun σ H Q=>ta σ H fun x H1=>Q (.bl (decide (x=.non))) H1
def Au(ta:TE):TE:=fun σ H Q=>ta σ H fun x H1=>Q (.bl (!decide (x=.non))) H1
theorem ZS.none_iff{x:V}{v:Value}(r:ZS x v):(v==Value.none)=decide (x=.non):=by
 cases x with
 | non=>cases r;rfl
 | bl _=>cases r;rfl
 | int _=>obtain ⟨t,rfl⟩:=r;rfl
 | str _=>obtain ⟨t,rfl⟩:=r;rfl
 | byt _=>obtain ⟨t,rfl⟩:=r;rfl
 | flt _=>obtain ⟨t,rfl⟩:=r;rfl
 | ref _=>cases r;rfl
 | ty _=>cases r;rfl
theorem Ip{j pos'}(ha:PE X a ta):PC X .Is a (.Constant .none j pos') (FX ta):=by
 intro pins s σ H Q I h;refine Zc (ha pins s σ H _ I h) fun v s1 ⟨x,H1,I1,r1,q1⟩=>?_;exact Constant_none (is_none_gen ⟨.bl _,H1,I1,by rw [r1.none_iff];rfl,q1⟩)
theorem Nm{j pos'}(ha:PE X a ta):PC X .IsNot a (.Constant .none j pos') (Au ta):=by
 intro pins s σ H Q I h;refine Zc (ha pins s σ H _ I h) fun v s1 ⟨x,H1,I1,r1,q1⟩=>?_;exact Constant_none (isnot_none_gen ⟨.bl _,H1,I1,by rw [r1.none_iff];rfl,q1⟩)
def tB(t:TE):TT:=fun σ H Q=>t σ H fun x H1=>∃ c,x=.bl c/\Q c H1
theorem VT{op:CmpOp}{t:TE}(h:PC X op a b t)(h1:behindInMarks op b=false:=by first | exact BK _ (by decide) (by decide) | rfl):PT X (.Compare a [op] [b] pos) (tB t):=by
 intro pins s σ H Q I hw;refine wpAny_isTrue_Compare1 (Zc (h pins s σ H _ I hw) fun v s1 h1=>Zc h1 fun u s2 h2=>Zc h2 fun c s3 ⟨x,H1,I1,r1,q1⟩=>?_) h1;obtain ⟨d,rfl,q⟩:=q1;cases r1;exact wpAny_truthy_bool ⟨H1,I1,q⟩
theorem XH{e:Expr}{t:TE}(h:PE X e t)(he:∀ whole,isTrue e X.env whole=(do let v<-whole;standAt e.pos;holding [v] (truthy v)):=by intro _;rfl):PT X e (tB t):=by
 intro pins s σ H Q I hw;refine isTrue_plain (Zc (h pins s σ H _ I hw) fun v s1 ⟨x,H1,I1,r1,q1⟩=>?_) (he _);obtain ⟨d,rfl,q⟩:=q1;cases r1;exact wpAny_truthy_bool ⟨H1,I1,q⟩
variable{tA tB':TT}{rest:List Expr}
def ZQM(t u:TT):TT:=fun σ H Q=>t σ H fun c H1=>if c=true then u σ H1 Q else Q false H1
def Bm(t u:TT):TT:=fun σ H Q=>t σ H fun c H1=>if c=true then Q true H1 else u σ H1 Q
def BA(t:TT):TT:=fun σ H Q=>t σ H fun c H1=>Q (!c) H1
theorem NV(ha:PT X a tA):PW X (.BoolOp .And [a] pos) tA:=by
 intro wh pins s σ H Q I h;refine isTrue_and (Zc (ha pins s σ H Q I h) fun c s1 e=>?_)
 cases c with
 | true=>exact isTrue_and_nil e
 | false=>exact e
theorem Pu(ha:PT X a tA):PW X (.BoolOp .Or [a] pos) tA:=by
 intro wh pins s σ H Q I h;refine isTrue_or (Zc (ha pins s σ H Q I h) fun c s1 e=>?_)
 cases c with
 | false=>exact isTrue_or_nil e
 | true=>exact e
theorem O1(ha:PT X a tA)(hb:PW X (.BoolOp .And (b :: rest) pos) tB'):PW X (.BoolOp .And (a :: b :: rest) pos) (ZQM tA tB'):=by
 intro wh pins s σ H Q I h;refine isTrue_and (Zc (ha pins s σ H _ I h) fun c s1 ⟨H1,I1,q1⟩=>?_)
 cases c with
 | true=>exact hb wh pins s1 σ H1 Q I1 q1
 | false=>exact ⟨H1,I1,q1⟩
theorem Pc(ha:PT X a tA)(hb:PW X (.BoolOp .Or (b :: rest) pos) tB'):PW X (.BoolOp .Or (a :: b :: rest) pos) (Bm tA tB'):=by
 intro wh pins s σ H Q I h;refine isTrue_or (Zc (ha pins s σ H _ I h) fun c s1 ⟨H1,I1,q1⟩=>?_)
 cases c with
 | true=>exact ⟨H1,I1,q1⟩
 | false=>exact hb wh pins s1 σ H1 Q I1 q1
theorem Vh(ha:PT X a tA):PT X (.UnaryOp .Not a pos) (BA tA):=by
 intro pins s σ H Q I h;exact isTrue_not (ha pins s σ H (fun c H1=>Q (!c) H1) I h)
def FJ(ta tb:TE):TE:=fun σ H Q=>ta σ H fun x H1=>∃ c,x=.bl c/\if c=true then tb σ H1 Q else Q (.bl false) H1
def Bj(ta:TE):TE:=fun σ H Q=>ta σ H fun x H1=>∃ c,x=.bl c/\Q (.bl (!c)) H1
theorem QM{op}{t:TE}(h:PE X a t):PE X (.BoolOp op [a] pos) t:=fun pins s σ H Q I hw=>BoolOp_one (h pins s σ H Q I hw)
theorem UK(ha:PE X a ta)(hb:PE X (.BoolOp .And (b :: rest) pos) tb):PE X (.BoolOp .And (a :: b :: rest) pos) (FJ ta tb):=by
 intro pins s σ H Q I h;refine BoolOp_and (Zc (ha pins s σ H _ I h) fun v s1 ⟨x,H1,I1,r1,q1⟩=>?_);obtain ⟨c,rfl,q1⟩:=q1;cases r1;refine wpAny_truthy_bool ?_
 cases c with
 | true=>exact hb pins s1 σ H1 Q I1 q1
 | false=>exact ⟨.bl false,H1,I1,rfl,q1⟩
theorem Lg(ha:PE X a ta):PE X (.UnaryOp .Not a pos) (Bj ta):=by
 intro pins s σ H Q I h;refine UnaryOp_ (Zc (ha pins s σ H _ I h) fun v s1 ⟨x,H1,I1,r1,q1⟩=>?_);obtain ⟨c,rfl,q1⟩:=q1;cases r1;exact not_of (wpAny_truthy_bool ⟨.bl (!c),H1,I1,rfl,q1⟩)
end
def ZL(K:zAA)(H:Hp)(a:Addr)(xs:je):Prop:=
 Rd H a (.lst xs) \/
  ∃(o:Obj)(ji:Array Value)(n:Nat),K.lookup a=some o/\o.cls=.type "list" /\ o.dict=none/\o.data=.seq ji n/\ji.size<=sizeLine/\ZN xs ji.toList
def Zn(K:zAA)(H:Hp)(a:Addr)(xs:je):Prop:=
 Rd H a (.tup xs) \/
  ∃(o:Obj)(ji:Array Value)(n:Nat),K.lookup a=some o/\o.cls=.type "tuple" /\ o.data=.seq ji n/\ji.size<=sizeLine/\ZN xs ji.toList
def F8:Value->jf
 | .none=>some .non
 | .bool b=>some (.bl b)
 | .int i _=>some (.int i)
 | .str x _=>some (.str x)
 | .bytes b _=>some (.byt b)
 | .float b _=>some (.flt b)
 | .ref a=>some (.ref a)
 | .type n=>some (.ty n)
 | _=>none
theorem ZS.abs{x:V}{u:Value}(r:ZS x u):F8 u=some x:=by
 cases x with
 | non=>cases r;rfl
 | bl _=>cases r;rfl
 | int _=>obtain ⟨t,rfl⟩:=r;rfl
 | str _=>obtain ⟨t,rfl⟩:=r;rfl
 | byt _=>obtain ⟨t,rfl⟩:=r;rfl
 | flt _=>obtain ⟨t,rfl⟩:=r;rfl
 | ref _=>cases r;rfl
 | ty _=>cases r;rfl
theorem ZS.inj{x y:V}{u:Value}(r:ZS x u)(q:ZS y u):x=y:=zAj.inj (r.abs.symm.trans q.abs)
theorem ZN.inj:∀{xs ys:je}{us:jd},ZN xs us->ZN ys us->xs=ys
 | _,_,_,.nil,.nil=>rfl
 | _,_,_,.cons r t,.cons r' t'=>by rw [r.inj r',ZN.inj t t']
section
variable{X:Cx}{pins:List (Addr×Obj)}{σ:St}{H:Hp}{s:Shared}{a:Addr}{xs ys:je}
theorem ZL.of{K:zAA}(h:H a=some (.lst xs)):ZL K H a xs:=.inl (.inl h)
theorem Zn.of{K:zAA}(h:H a=some (.tup xs)):Zn K H a xs:=.inl (.inl h)
theorem ZH.list(I:ZH X pins σ H s)(h:ZL X.K H a xs):∃ ji:jd,ZN xs ji/\PlainL s.heap a ji.toArray/\xs.length<=sizeLine:=by
 rcases h with h | ⟨o,ji,n,hk,hc,hd,hs,hz,r⟩
 ·obtain ⟨z,ji,n,r,e⟩:=h.ok I.hok;exact ⟨ji,r,⟨_,n,e,rfl,rfl,rfl⟩,z⟩
 ·refine ⟨ji.toList,r,⟨o,n,I.kIn a o hk,hc,hd,by simpa using hs⟩,?_⟩
  have e:=r.length;simp only [zBp] at e
  lia
theorem ZH.tuple(I:ZH X pins σ H s)(h:Zn X.K H a xs):∃ ji:jd,ZN xs ji/\IsTup s.heap a ji.toArray/\xs.length<=sizeLine:=by
 rcases h with h | ⟨o,ji,n,hk,hc,hs,hz,r⟩
 ·obtain ⟨z,ji,r,p⟩:=h.ok I.hok;exact ⟨ji,r,p,z⟩
 ·refine ⟨ji.toList,r,⟨o,I.kIn a o hk,hc,n,by simpa using hs⟩,?_⟩
  have e:=r.length;simp only [zBp] at e
  lia
theorem ZH.list_inj(I:ZH X pins σ H s)(h:ZL X.K H a xs)(h':ZL X.K H a ys):xs=ys:=by
 obtain ⟨ji,r,⟨o,n,e,_,_,d⟩,_⟩:=I.list h;obtain ⟨its',r',⟨o',n',e',_,_,d'⟩,_⟩:=I.list h';rw [e] at e';cases e';rw [d] at d';injection d' with d1 _;have:ji=its':=by simpa using congrArg zDV d1
 subst this;exact r.inj r'
theorem ZH.tuple_inj(I:ZH X pins σ H s)(h:Zn X.K H a xs)(h':Zn X.K H a ys):xs=ys:=by
 obtain ⟨ji,r,⟨o,e,_,n,d⟩,_⟩:=I.tuple h;obtain ⟨its',r',⟨o',e',_,n',d'⟩,_⟩:=I.tuple h';rw [e] at e';cases e';rw [d] at d';injection d' with d1 _;have:ji=its':=by simpa using congrArg zDV d1
 subst this;exact r.inj r'
end
abbrev Cx.wish(X:Cx)(E:ja):Cx:={ X with xe:=E }
abbrev Cx.nox(X:Cx):Cx:=X.wish fun _ _=>False
theorem Cx.Ok.wish{X:Cx}(ok:X.Ok)(E:ja):(X.wish E).Ok:=
 ⟨ok.mod,ok.kind,ok.glob,ok.blt,ok.above,ok.inj,ok.has,ok.cab,ok.hd,ok.frames,ok.stk,ok.exf,ok.bs,ok.bsz,ok.noex,ok.exfs,ok.funs,ok.frf⟩
theorem Cx.Ok.unwish{X:Cx}{E:ja}(ok:(X.wish E).Ok):X.Ok:=
 ⟨ok.mod,ok.kind,ok.glob,ok.blt,ok.above,ok.inj,ok.has,ok.cab,ok.hd,ok.frames,ok.stk,ok.exf,ok.bs,ok.bsz,ok.noex,ok.exfs,ok.funs,ok.frf⟩
section
variable{X:Cx}{pins:List (Addr×Obj)}{σ:St}{H:Hp}{s:Shared}{E:ja}
theorem ZH.wish(I:ZH X pins σ H s)(E:ja):ZH (X.wish E) pins σ H s:=⟨I.ok.wish E,I.os,I.bare,I.base,I.loc,I.cell,I.free,I.freeC,I.pin,I.hok,I.len⟩
theorem ZH.unwish(I:ZH (X.wish E) pins σ H s):ZH X pins σ H s:=⟨I.ok.unwish,I.os,I.bare,I.base,I.loc,I.cell,I.free,I.freeC,I.pin,I.hok,I.len⟩
theorem SP.unwish{D:Ym}{f:Flow}{s':Shared}(h:SP (X.wish E) pins D f s'):SP X pins D f s':=by
 cases f with
 | next=>obtain ⟨σ',H',I,q⟩:=h;exact ⟨σ',H',I.unwish,q⟩
 | brk=>obtain ⟨σ',H',I,q⟩:=h;exact ⟨σ',H',I.unwish,q⟩
 | cont=>obtain ⟨σ',H',I,q⟩:=h;exact ⟨σ',H',I.unwish,q⟩
 | ret u=>obtain ⟨v,σ',H',I,r,q⟩:=h;exact ⟨v,σ',H',I.unwish,r,q⟩
theorem X5.nox{st:List Stmt}{t:TS}(h:X5 X.nox st t):X5 X st t:=fun pins s σ H D I hw=>
 wpAny_mono (h pins s σ H D (I.wish _) hw) (fun _ _ q=>q.unwish) fun _ _ z=>False.elim z
end
section
variable{X:Cx}{st:Stmt}{rest:List Stmt}{t u:TS}{e:Expr}{te:TE}{pos:Pos}
def Da:TS:=fun D σ H=>D.nx σ H
def Cv(t u:TS):TS:=fun D σ H=>t { D with nx:=u D } σ H
theorem Z0:X5 X [] Da:=fun _ _ σ H _ I h=>wpAny_execs_nil ⟨σ,H,I,h⟩
theorem ZQ(h1:PS X st t)(h2:X5 X rest u):X5 X (st :: rest) (Cv t u):=by
 intro pins s σ H D I h;refine wpAny_execs_cons (Zc (h1 pins s σ H { D with nx:=u D } I h) fun f s1 q=>?_)
 cases f with
 | next=>
  obtain ⟨σ',H',I',q⟩:=q;exact h2 pins s1 σ' H' D I' q
 | ret v=>exact q
 | brk=>exact q
 | cont=>exact q
theorem ZU(h1:PS X st t):X5 X [st] t:=by
 intro pins s σ H D I h;refine wpAny_execs_cons (Zc (h1 pins s σ H D I h) fun f s1 q=>?_)
 cases f with
 | next=>exact wpAny_execs_nil q
 | ret v=>exact q
 | brk=>exact q
 | cont=>exact q
theorem ZH.quiet{pins:List (Addr×Obj)}{σ:St}{H:Hp}{s:Shared}(I:ZH X pins σ H s):interactive X.env=false:=by simp [interactive,I.ok.kind]
def ZPV(te:TE):TS:=fun D σ H=>te σ H fun _ H1=>D.nx σ H1
theorem Wx(he:PE X e te)(hs:swapsWith e none pos.line X.env=pure false:=by rfl):PS X (.Expr e pos) (ZPV te):=by
 intro pins s σ H D I h;exact wpAny_Expr_any (Zc (he pins s σ H _ I h) fun v s1 ⟨x,H1,I1,r1,q1⟩=>⟨σ,H1,I1,q1⟩) I.quiet hs
def ME(te:TE):TS:=fun D σ H=>te σ H D.rt
theorem Zg(he:PE X e te):PS X (.Return (some e) pos) (ME te):=by
 intro pins s σ H D I h;exact wpAny_Return_some (Zc (he pins s σ H _ I h) fun v s1 ⟨x,H1,I1,r1,q1⟩=>⟨x,σ,H1,I1,r1,q1⟩)
def AQ(c:TT)(t u:TS):TS:=fun D σ H=>c σ H fun b H1=>if b=true then t D σ H1 else u D σ H1
theorem Zz{c:Expr}{a b:List Stmt}{tc:TT}(hc:PT X c tc)(ha:X5 X a t)(hb:X5 X b u):PS X (.If c a b pos) (AQ tc t u):=by
 intro pins s σ H D I h;refine wpAny_If (Zc (hc pins s σ H _ I h) fun d s1 ⟨H1,I1,q1⟩=>?_)
 cases d with
 | true=>exact ha pins s1 σ H1 D I1 q1
 | false=>exact hb pins s1 σ H1 D I1 q1
def ZON:TS:=fun _ _ _=>False
theorem Qs{sts:List Stmt}:X5 X sts ZON:=fun _ _ _ _ _ _ h=>h.elim
end
abbrev TG:=V->St->Hp->(St->Hp->Prop)->Prop
abbrev Q6:=je->St->Hp->(St->Hp->Prop)->Prop
def PG(X:Cx)(target:Expr)(t:TG):Prop:=
 ∀(pins:List (Addr×Obj))(s:Shared)(σ:St)(H:Hp)(v:V)(u:Value)(Q:St->Hp->Prop),ZH X pins σ H s->ZS v u->t v σ H Q ->
  wpAny (model X.prog X.w) X.A (assign target X.env u) (fun _ s'=>∃ σ' H',ZH X pins σ' H' s'/\Q σ' H') X.xe s
def Oi(X:Cx)(ts:List Expr)(t:Q6):Prop:=
 ∀(pins:List (Addr×Obj))(s:Shared)(σ:St)(H:Hp)(vs:je)(us:jd)(Q:St->Hp->Prop),ZH X pins σ H s->ZN vs us->t vs σ H Q ->
  wpAny (model X.prog X.w) X.A (assignInOrder ((assignEach ts X.env).map (·.2)) us) (fun _ s'=>∃ σ' H',ZH X pins σ' H' s'/\Q σ' H') X.xe s
abbrev Mp:=V->V->V->Hp->(Hp->Prop)->Prop
def Jn(X:Cx)(t:Mp):Prop:=
 ∀(pins:List (Addr×Obj))(s:Shared)(σ:St)(H:Hp)(o i v:V)(ov iv u:Value)(Q:Hp->Prop),ZH X pins σ H s->ZS o ov->ZS i iv->ZS v u->t o i v H Q ->
  wpAny (model X.prog X.w) X.A (setItem ov iv u) (fun _ s'=>∃ H',ZH X pins σ H' s'/\Q H') X.xe s
abbrev NZ:=V->V->Hp->VK->Prop
def LP(X:Cx)(op:Operator)(t:NZ):Prop:=
 ∀(pins:List (Addr×Obj))(s:Shared)(σ:St)(H:Hp)(x y:V)(v u:Value)(Q:VK),ZH X pins σ H s->ZS x v->ZS y u->t x y H Q ->
  wpAny (model X.prog X.w) X.A (inplaceOp op v u) (EP X pins σ Q) X.xe s
section
variable{X:Cx}{pos:Pos}
def Qd(i:Nat):TG:=fun v σ H Q=>Q (σ.set i (some v)) H
theorem LZ{i:Nat}{x:Str}(hN:X.N.Nodup)(hi:X.N[i]? = some x)(hx:PR X.env.scope x)(hf:X.fn x=true\/X.env.scope.names.lookup x=some .local:=by first | exact .inl rfl | exact .inr rfl | assumption):PG X (.Name x pos) (Qd i):=by
 intro pins s σ H v u Q I r h;exact wpAny_assign_Name (Oa I hN hi hx r (fun s' I'=>⟨_,H,I',h⟩) hf)
theorem WT(i:Nat){x:Str}(hN:X.N.Nodup)(hi:X.N[i]? = some x:=by rfl)(hx:PR X.env.scope x:=by exact Or.inl rfl)(hf:X.fn x=true\/X.env.scope.names.lookup x=some .local:=by first | exact .inl rfl | exact .inr rfl | assumption):PG X (.Name x pos) (Qd i):=LZ hN hi hx hf
def ZQH:Q6:=fun vs σ H Q=>vs=[]/\Q σ H
def Df(t:TG)(u:Q6):Q6:=fun vs σ H Q=>∃ v r,vs=v :: r/\t v σ H fun σ' H'=>u r σ' H' Q
theorem NS:Oi X [] ZQH:=by
 intro pins s σ H vs us Q I r h;obtain ⟨e,h⟩:=h;subst e;cases r;exact assignInOrder_nil ⟨σ,H,I,h⟩
theorem QR{e:Expr}{es:List Expr}{t:TG}{u:Q6}(h1:PG X e t)(h2:Oi X es u)(hs:(assignEach (e :: es) X.env).map (·.2)=assign e X.env :: (assignEach es X.env).map (·.2):=by rfl):Oi X (e :: es) (Df t u):=by
 intro pins s σ H vs us Q I r h;obtain ⟨v,vr,e1,h⟩:=h;subst e1
 cases r with
 | cons r rr=>
  rw [hs];refine assignInOrder_cons (Zc (h1 pins s σ H _ _ _ I r h) fun _ s1 ⟨σ1,H1,I1,q1⟩=>?_);exact h2 pins s1 σ1 H1 _ _ Q I1 rr q1
def FZ(K:zAA)(n:Nat)(t:Q6):TG:=fun v σ H Q=>∃ a xs,v=.ref a/\Zn K H a xs/\xs.length=n/\t xs σ H Q
theorem Ot{es:List Expr}{k:Nat}{t:Q6}{n:Nat}(hc:X.calm=true)(h:Oi X es t)(hn:(assignEach es X.env).length=n:=by rfl)(hst:(assignEach es X.env).findIdx? (·.1)=none:=by rfl):PG X (.Tuple es k pos) (FZ X.K n t):=by
 intro pins s σ H v u Q I r hw;obtain ⟨a,xs,e1,hq,hl,hw⟩:=hw;subst e1;cases r;obtain ⟨ji,rv,ht,hz⟩:=I.tuple hq;refine assign_Tuple_tuple (I.ok.hd hc) ht (by simp [hn,<-hl,rv.length]) hst fun h' hx=>?_
 have I1:ZH X pins σ H { s with heap:=h' }:=I.kept (t':=s.toks) fun b o e=>hx b o (zAl (zAT e)) e;exact h pins _ σ H xs _ Q I1 (by simpa using rv) hw
def Ch(to ti:TE)(t:Mp):TG:=fun v σ H Q=>to σ H fun o H1=>ti σ H1 fun i H2=>t o i v H2 fun H3=>Q σ H3
theorem MY{o i:Expr}{to ti:TE}{t:Mp}(ho:PE X o to)(hi:PE X i ti)(hs:Jn X t)(ha:∀ v,assign (.Subscript o i pos) X.env v=(do
   let ov<-holding [v] (eval o X.env)
   let iv<-holding [v,ov] (eval i X.env)
   standAt pos
   holding [v,ov,iv] (setItem ov iv v)
   release [v,ov,iv] []):=by intro _;rfl):PG X (.Subscript o i pos) (Ch to ti t):=by
 intro pins s σ H v u Q I r h;rw [ha];refine wpAny_bind (wpAny_holding (Zc (ho pins s σ H _ I h) fun ov s1 ⟨x,H1,I1,r1,q1⟩=>?_));refine wpAny_bind (wpAny_holding (Zc (hi pins s1 σ H1 _ I1 q1) fun iv s2 ⟨y,H2,I2,r2,q2⟩=>?_));refine wpAny_bind (wpAny_standAt (wpAny_bind (wpAny_holding (Zc (hs pins s2 σ H2 x y v ov iv u _ I2 r1 r2 r q2) fun _ s3 ⟨H3,I3,q3⟩=>?_))));exact wpAny_release ⟨σ,H3,I3,q3⟩
def Np(te:TE)(g:TG):TS:=fun D σ H=>te σ H fun x H1=>g x σ H1 D.nx
theorem Q7{tg e:Expr}{te:TE}{g:TG}(he:PE X e te)(hg:PG X tg g)(hs:swapsWithSole [tg] e pos.line X.env=pure false:=by rfl)(hw:swappedStores [tg] e X.env=pure none:=by rfl)(h1:(assignEach [tg] X.env).map (·.2)=[assign tg X.env]:=by rfl):PS X (.Assign [tg] e pos) (Np te g):=by
 intro pins s σ H D I h;refine wpAny_Assign_stores (Zc (he pins s σ H _ I h) fun v s1 ⟨x,H1,I1,r1,q1⟩=>?_) hs hw;rw [h1];exact Zc (hg pins s1 σ H1 x v _ I1 r1 q1) fun _ s2 q=>q
theorem Bh{i:Nat}{x:Str}{e:Expr}{te:TE}{pos':Pos}(hN:X.N.Nodup)(hi:X.N[i]? = some x)(hx:PR X.env.scope x)(he:PE X e te)(hs:swapsWith e (some (.Name x pos')) pos.line X.env=pure false:=by rfl)(hf:X.fn x=true\/X.env.scope.names.lookup x=some .local:=by first | exact .inl rfl | exact .inr rfl | assumption):
  PS X (.Assign [.Name x pos'] e pos) (Np te (Qd i)):=by
 intro pins s σ H D I h;refine wpAny_Assign_Name (Zc (he pins s σ H _ I h) fun v s1 ⟨y,H1,I1,r1,q1⟩=>?_) hs;exact Oa I1 hN hi hx r1 (fun s2 I2=>⟨_,H1,I2,q1⟩) hf
theorem Zk(i:Nat){x:Str}{e:Expr}{te:TE}{pos':Pos}(hN:X.N.Nodup)(he:PE X e te)(hi:X.N[i]? = some x:=by rfl)(hx:PR X.env.scope x:=by exact Or.inl rfl)(hs:swapsWith e (some (.Name x pos')) pos.line X.env=pure false:=by rfl)(hf:X.fn x=true\/X.env.scope.names.lookup x=some .local:=by first | exact .inl rfl | exact .inr rfl | assumption):
  PS X (.Assign [.Name x pos'] e pos) (Np te (Qd i)):=Bh hN hi hx he hs hf
def ET(i:Nat)(te:TE)(ti:NZ):TS:=fun D σ H=>∃ x,σ[i]? = some (some x)/\te σ H fun y H1=>ti x y H1 fun z H2=>D.nx (σ.set i (some z)) H2
theorem GB{i:Nat}{x:Str}{e:Expr}{te:TE}{op:Operator}{ti:NZ}{pos':Pos}(hN:X.N.Nodup)(hi:X.N[i]? = some x)(hx:PR X.env.scope x)(he:PE X e te)(ho:LP X op ti)(hf:X.fn x=true\/X.env.scope.names.lookup x=some .local:=by first | exact .inl rfl | exact .inr rfl | assumption):
  PS X (.AugAssign (.Name x pos') op e pos) (ET i te ti):=by
 intro pins s σ H D I h;obtain ⟨v,e1,h⟩:=h;obtain ⟨m,hn,hl⟩:=I.loc;have vis:NE X.env.scope x:=by rcases hx with k | k;exact .inl k;exact .inr (.inl k)
 obtain ⟨u,r,l⟩:=hl i x v hi e1 vis;refine wpAny_AugAssign_Name ?_;have go:wpAny (model X.prog X.w) X.A (eval e X.env) (fun w s₂=>wpAny (model X.prog X.w) X.A (inplaceOp op u w) (fun r s₃=>wpAny (model X.prog X.w) X.A (storeName X.env x r) (fun _=>SP X pins D .next) X.xe s₃) X.xe s₂) X.xe s:=by
  refine Zc (he pins s σ H _ I h) fun w s1 ⟨y,H1,I1,r1,q1⟩=>?_;refine Zc (ho pins s1 σ H1 v y u w _ I1 r r1 q1) fun z s2 ⟨zv,H2,I2,r2,q2⟩=>?_;exact Oa I2 hN hi hx r2 (fun s3 I3=>⟨_,H2,I3,q2⟩) hf
 rcases l with ⟨hk,hm⟩ | ⟨hk,c,hc,ju⟩
 ·exact wpAny_loadName_local I.ok.kind hk hn hm go
 ·rcases hk with hk | hk
  ·exact wpAny_loadName_cell I.ok.kind hk hc ju go
  ·rcases hx with k | k
   ·have:X.env.scope.names.lookup x=some .free:=hk;rw [k] at this;cases this
   ·have:X.env.scope.names.lookup x=some .free:=hk;rw [k] at this;cases this
def Jy(f:Int->Int->Int):NZ:=fun x y H Q=>∃ i j,x=.int i/\y=.int j/\Q (.int (f i j)) H
theorem Br:LP X .Add (Jy fun i j=>i+j):=by
 intro pins s σ H x y v u Q I r1 r2 h;obtain ⟨i,j,e1,e2,q⟩:=h;subst e1;subst e2;obtain ⟨t,rfl⟩:=r1;obtain ⟨t',rfl⟩:=r2;exact iadd_int ⟨.int _,H,I.tok _,⟨_,rfl⟩,q⟩
theorem ZOp:LP X .Sub (Jy fun i j=>i - j):=by
 intro pins s σ H x y v u Q I r1 r2 h;obtain ⟨i,j,e1,e2,q⟩:=h;subst e1;subst e2;obtain ⟨t,rfl⟩:=r1;obtain ⟨t',rfl⟩:=r2;exact isub_int ⟨.int _,H,I.tok _,⟨_,rfl⟩,q⟩
def FO(c:TT)(tb:TS):TS:=fun D σ H=>∃ W:Nat->St->Hp->Prop,(∃ m,W m σ H)/\∀ m σ H,W m σ H ->
 c σ H fun b H1=>if b=true then ∃ N:St->Hp->Prop,(∀ σ' H',N σ' H'->∃ m',m'<m/\W m' σ' H')/\tb { D with nx:=N,ct:=N,bk:=D.nx } σ H1 else D.nx σ H1
theorem Ql{c:Expr}{body:List Stmt}{tc:TT}{tb:TS}(hp:PassesOwn (model X.prog X.w) X.A X.env X.xe)(hc:PT X c tc)(hb:X5 X body tb):PS X (.While c body [] pos) (FO tc tb):=by
 intro pins s σ H D I h;obtain ⟨W,⟨m0,w0⟩,turn⟩:=h;refine wpAny_While (codeAny_whileLoop (fun n s'=>∃ σ' H',ZH X pins σ' H' s'/\W n σ' H') ?_ m0 ⟨σ,H,I,w0⟩);rintro n s1 ⟨σ1,H1,I1,w1⟩;refine wpAny_passesOwn hp (Zc (hc pins s1 σ1 H1 _ I1 (turn n σ1 H1 w1)) fun b s2 ⟨H2,I2,q2⟩=>?_)
 cases b with
 | true=>
  obtain ⟨N,hN,q2⟩:=q2;rw [if_pos rfl];refine wpAny_passesOwn hp (Zc (hb pins s2 σ1 H2 _ I2 q2) fun f s3 q3=>?_)
  cases f with
  | next=>
   obtain ⟨σ3,H3,I3,n3⟩:=q3;obtain ⟨m',hm,w3⟩:=hN σ3 H3 n3;exact ⟨m',hm,σ3,H3,I3,w3⟩
  | cont=>
   obtain ⟨σ3,H3,I3,n3⟩:=q3;obtain ⟨m',hm,w3⟩:=hN σ3 H3 n3;exact ⟨m',hm,σ3,H3,I3,w3⟩
  | brk=>exact q3
  | ret v=>exact q3
 | false=>
  rw [if_neg zAF];exact wpAny_execs_nil ⟨σ1,H2,I2,q2⟩
end
structure It where
 go:Nat->Hp->Prop
 yld:Nat->Hp->V->Hp->Prop
 stop:Nat->Hp->Prop
def Ws(X:Cx)(pins:List (Addr×Obj))(H:Hp)(b:Addr):Prop:=
 H b=none/\b≠X.env.locals/\b∉X.fs/\(b∈X.ex\/X.s₀.heap.objs.size<=b)/\(∀ x c,X.env.cells.lookup x=some c->c≠b)/\∀ p∈X.pn++pins,p.1≠b
theorem ZH.fpOk{X:Cx}{pins:List (Addr×Obj)}{σ:St}{H H':Hp}{s:Shared}{b:Addr}(I:ZH X pins σ H s)(hb:s.heap.objs.size<=b)(hn:H' b=none):Ws X pins H' b:=by
 refine ⟨hn,zCp (zAb I.lt hb),I.nofs hb,.inr (zAv I.sz hb),fun x c e z=>?_,fun p hp z=>?_⟩
 ·obtain ⟨v,q⟩:=I.cell x c e;exact absurd (zAb q.lt (by rw [z];exact hb)) (zBf _)
 ·exact absurd (zAb (zAT (I.pin p hp).1) (by rw [z];exact hb)) (zBf _)
structure UA(P:Program)(w:World)(K:zAA)(tg:Expr)(J:It)(fp:List Addr)(it:Addr)(tn:Nat->Heap->Prop):Prop where
 mem:it∈fp
 obj:∀ i h,tn i h->∀ b∈fp,∃ o,h.get? b=some o/\∀ v,o.data≠.cell v
 keep:∀ i h h',tn i h->(∀ b∈fp,∀ o,h.get? b=some o->h'.get? b=some o)->tn i h'
 item:∀(X:Cx),X.prog=P->X.w=w->X.K=K->X.calm=true->∀(i:Nat)(pins:List (Addr×Obj))(s:Shared)(σ:St)(H:Hp)(E:ja),ZH X pins σ H s->(∀ b∈fp,Ws X pins H b)->tn i s.heap->J.go i H ->
  wpAny (model P w) X.A (pyNext (.ref it)) (fun r s1=>∃ u,r=some u /\
   wpAny (model P w) X.A (letOwnedTupleGo tg (.ref it) u) (fun _ s2=>∃ x H',ZH X pins σ H' s2/\ZS x u/\J.yld i H x H'/\tn (i+1) s2.heap/\∀ b∈fp,H' b=none) E s1) E s
 done:∀(X:Cx),X.prog=P->X.w=w->X.K=K->X.calm=true->∀(i:Nat)(pins:List (Addr×Obj))(s:Shared)(σ:St)(H:Hp)(E:ja),ZH X pins σ H s->(∀ b∈fp,Ws X pins H b)->tn i s.heap->J.stop i H ->
  wpAny (model P w) X.A (pyNext (.ref it)) (fun r s1=>r=none/\ZH X pins σ H s1) E s
 self:∀(A:Around)(i:Nat)(s:Shared)(Q:ja)(E:ja),tn i s.heap->Q (.ref it) s->wpAny (model P w) A (pyIter (.ref it)) Q E s
abbrev TI:=St->Hp->(It->Hp->Prop)->Prop
def IF(X:Cx)(pins:List (Addr×Obj))(σ:St)(tg:Expr)(R:It->Hp->Prop)(itv:Value)(s2:Shared):Prop:=
 ∃(it:Addr)(fp:List Addr)(tn:Nat->Heap->Prop)(J:It)(H':Hp),itv=.ref it/\ZH X pins σ H' s2/\UA X.prog X.w X.K tg J fp it tn/\tn 0 s2.heap/\(∀ b∈fp,Ws X pins H' b)/\R J H'
def PI(X:Cx)(tg iter:Expr)(wi:TI):Prop:=
 ∀(pins:List (Addr×Obj))(s:Shared)(σ:St)(H:Hp)(R:It->Hp->Prop),ZH X pins σ H s->wi σ H R ->
  wpAny (model X.prog X.w) X.A (eval iter X.env) (fun v s1=>wpAny (model X.prog X.w) X.A (pyIter v) (IF X pins σ tg R) X.xe s1) X.xe s
theorem Om{M:Model}{A:Around}{E:ja}{s:Shared}{tg:Expr}{it:Addr}{u:Value}{o:Obj}{n:String}{vs:Array Value}{Q:Unit->Shared->Prop}(ho:s.heap.get? it=some o)(hc:o.cls=.type n)(hd:o.data=.fields vs)(hn:["enumerate","zip","dict_itemiterator","dict_reverseitemiterator","odict_iterator","itertools.zip_longest","itertools.pairwise"].contains n=false)(hQ:Q () s):wpAny M A (letOwnedTupleGo tg (.ref it) u) Q E s:=by
 unfold letOwnedTupleGo;cases tg <;> first
  | exact wpAny_pure hQ
  | (cases u <;> first
    | exact wpAny_pure hQ
    | (refine wpAny_bind (wpAny_load ho ?_);rw [hc,hd];show wpAny M A (if (["enumerate","zip","dict_itemiterator","dict_reverseitemiterator","odict_iterator","itertools.zip_longest","itertools.pairwise"].contains n&&vs[0]? == some (rawInt _))=true then _ else _) Q E s;rw [if_neg (by intro h;rw [hn,zBl] at h;cases h)];exact wpAny_pure hQ))
def OB(K:zAA)(a:Addr):It:=
 ⟨fun i H=>∃ xs x,ZL K H a xs/\xs[i]? = some x,fun i H x H'=>H'=H/\∀ xs,ZL K H a xs->xs[i]? = some x,fun i H=>∃ xs,ZL K H a xs/\xs.length<=i⟩
def IQ(K:zAA)(a:Addr):It:=
 ⟨fun i H=>∃ xs x,Zn K H a xs/\xs[i]? = some x,fun i H x H'=>H'=H/\∀ xs,Zn K H a xs->xs[i]? = some x,fun i H=>∃ xs,Zn K H a xs/\xs.length<=i⟩
def PF(lo:Int)(n:Nat):It:=⟨fun i _=>i<n,fun i H x H'=>H'=H/\x=.int (lo+i),fun i _=>n<=i⟩
theorem C7{P:Program}{w:World}{K:zAA}{tg:Expr}(a it:Addr):UA P w K tg (OB K a) [it] it (fun i h=>h.IsListIter it a i) where
 mem:=by simp
 obj:=fun i h st b hb=>by
  have e:b=it:=by simpa using hb
  subst e;obtain ⟨o,e,c,d⟩:=st;exact ⟨o,e,fun v z=>by rw [d] at z;cases z⟩
 keep:=fun i h h' st k=>st.at fun o e=>k it (by simp) o e
 item:=by
  intro X hP hw hK hc i pins s σ H E I hf st hg;subst hP hw hK;obtain ⟨xs,x,hq,hx⟩:=hg;obtain ⟨ji,rv,p,hz⟩:=I.list hq;obtain ⟨u,hu,ru⟩:=rv.get hx;obtain ⟨f0,f1,f2,f3,f4,f5⟩:=hf it (by simp)
  refine wpAny_pyNext_list_item st p.isList (x:=u) (by simpa using hu) fun h' st' sb=>?_
  have I1:ZH X pins σ H { s with heap:=h' }:=I.turned (t':=s.toks) (fun b o hb e=>(sb.2 b hb).trans e) f0 f1 f3 f4 f5;obtain ⟨o,e,c,d⟩:=id st';exact ⟨u,rfl,Om (s:={ s with heap:=h' }) e c d (by decide) ⟨x,H,I1,ru,⟨rfl,fun ys hy=>by rw [I.list_inj hy hq];exact hx⟩,st',fun b hb=>(hf b hb).1⟩⟩
 done:=by
  intro X hP hw hK hc i pins s σ H E I hf st hg;subst hP hw hK;obtain ⟨xs,hq,hx⟩:=hg;obtain ⟨ji,rv,p,hz⟩:=I.list hq;obtain ⟨f0,f1,f2,f3,f4,f5⟩:=hf it (by simp)
  have hl:=rv.length;exact wpAny_pyNext_list_end (I.ok.hd hc) st p.isList (by simp;lia) fun h' eb=>⟨rfl,I.turned (t':=s.toks) (fun b o hb e=>eb b o hb e) f0 f1 f3 f4 f5⟩
 self:=fun _ _ _ _ _ st h=>wpAny_pyIter_listiter st h
theorem C8{P:Program}{w:World}{K:zAA}{tg:Expr}(a it:Addr):UA P w K tg (IQ K a) [it] it (fun i h=>h.IsTupleIter it a i) where
 mem:=by simp
 obj:=fun i h st b hb=>by
  have e:b=it:=by simpa using hb
  subst e;obtain ⟨o,e,c,d⟩:=st;exact ⟨o,e,fun v z=>by rw [d] at z;cases z⟩
 keep:=fun i h h' st k=>st.at fun o e=>k it (by simp) o e
 item:=by
  intro X hP hw hK hc i pins s σ H E I hf st hg;subst hP hw hK;obtain ⟨xs,x,hq,hx⟩:=hg;obtain ⟨ji,rv,p,hz⟩:=I.tuple hq;obtain ⟨u,hu,ru⟩:=rv.get hx;obtain ⟨f0,f1,f2,f3,f4,f5⟩:=hf it (by simp)
  refine wpAny_pyNext_tuple_item st (show s.heap.IsTuple a ji.toArray from p) (x:=u) (by simpa using hu) fun h' st' sb=>?_
  have I1:ZH X pins σ H { s with heap:=h' }:=I.turned (t':=s.toks) (fun b o hb e=>(sb.2 b hb).trans e) f0 f1 f3 f4 f5;obtain ⟨o,e,c,d⟩:=id st';exact ⟨u,rfl,Om (s:={ s with heap:=h' }) e c d (by decide) ⟨x,H,I1,ru,⟨rfl,fun ys hy=>by rw [I.tuple_inj hy hq];exact hx⟩,st',fun b hb=>(hf b hb).1⟩⟩
 done:=by
  intro X hP hw hK hc i pins s σ H E I hf st hg;subst hP hw hK;obtain ⟨xs,hq,hx⟩:=hg;obtain ⟨ji,rv,p,hz⟩:=I.tuple hq;obtain ⟨f0,f1,f2,f3,f4,f5⟩:=hf it (by simp)
  have hl:=rv.length;exact wpAny_pyNext_tuple_end (I.ok.hd hc) st (show s.heap.IsTuple a ji.toArray from p) (by simp;lia) fun h' eb=>⟨rfl,I.turned (t':=s.toks) (fun b o hb e=>eb b o hb e) f0 f1 f3 f4 f5⟩
 self:=fun _ _ _ _ _ st h=>wpAny_pyIter_tupleiter st h
theorem E8{P:Program}{w:World}{K:zAA}{tg:Expr}(it:Addr)(lo:Int)(n:Nat):UA P w K tg (PF lo n) [it] it (fun i h=>IsRangeIter h it (lo+(i:Nat) * 1) ((n:Int) - (i:Nat)) 1) where
 mem:=by simp
 obj:=fun i h st b hb=>by
  have e:b=it:=by simpa using hb
  subst e;exact ⟨_,st,fun v z=>by
   have z':Data.fields _=Data.cell v:=z;cases z'⟩
 keep:=fun i h h' st k=>k it (by simp) _ st
 item:=by
  intro X hP hw hK hc i pins s σ H E I hf st hg;subst hP hw hK;obtain ⟨f0,f1,f2,f3,f4,f5⟩:=hf it (by simp)
  have W:=Walks.range (prog:=X.prog) (w:=X.w) (I.ok.hd hc) it lo 1 n;refine W.item i s _ _ hg st fun v h' tk hv st' kk=>?_;obtain ⟨t,rfl⟩:=hv;have I1:ZH X pins σ H { s with heap:=h',toks:=tk }:=I.turned (fun b o hb e=>kk b o (by simpa using hb) e) f0 f1 f3 f4 f5
  refine ⟨_,rfl,Om (s:={ s with heap:=h',toks:=tk }) (n:= "range_iterator") st' rfl rfl (by decide) ⟨.int (lo+i),H,I1,⟨t,?_⟩,⟨rfl,rfl⟩,st',fun b hb=>(hf b hb).1⟩⟩
  rw [Int.mul_one]
 done:=by
  intro X hP hw hK hc i pins s σ H E I hf st hg;subst hP hw hK;obtain ⟨f0,f1,f2,f3,f4,f5⟩:=hf it (by simp)
  exact wpAny_pyNext_range_end (I.ok.hd hc) st (by have:n<=i:=hg;lia) fun h' eb=>⟨rfl,I.turned (t':=s.toks) (fun b o hb e=>eb b o hb e) f0 f1 f3 f4 f5⟩
 self:=fun _ _ _ _ _ st h=>wpAny_pyIter_rangeiter st h
section
variable{X:Cx}{tg:Expr}
def ZPl(K:zAA)(tl:TE):TI:=fun σ H R=>tl σ H fun x H1=>∃ a,x=.ref a/\(∃ xs,ZL K H1 a xs)/\R (OB K a) H1
def C9(K:zAA)(tl:TE):TI:=fun σ H R=>tl σ H fun x H1=>∃ a,x=.ref a/\(∃ xs,Zn K H1 a xs)/\R (IQ K a) H1
theorem VO{l:Expr}{tl:TE}(hl:PE X l tl):PI X tg l (ZPl X.K tl):=by
 intro pins s σ H R I h;refine Zc (hl pins s σ H _ I h) fun v s1 ⟨x,H1,I1,r1,q1⟩=>?_;obtain ⟨a,e,⟨xs,hq⟩,q⟩:=q1;subst e;cases r1;obtain ⟨ji,rv,p,hz⟩:=I1.list hq;refine wpAny_pyIter_list p.isList ?_;refine ⟨s1.heap.objs.size,[s1.heap.objs.size],_,_,H1,rfl,I1.kept (t':=s1.toks) fun b o e=>zAI _ e,C7 a _,⟨_,zAU _ rfl,rfl,rfl⟩,fun b hb=>?_,q⟩;have e:b=s1.heap.objs.size:=by simpa using hb
 subst e;exact I1.fpOk (zAH _) (I1.hok.fresh (zAH _))
theorem LA{l:Expr}{tl:TE}(hl:PE X l tl):PI X tg l (C9 X.K tl):=by
 intro pins s σ H R I h;refine Zc (hl pins s σ H _ I h) fun v s1 ⟨x,H1,I1,r1,q1⟩=>?_;obtain ⟨a,e,⟨xs,hq⟩,q⟩:=q1;subst e;cases r1;obtain ⟨ji,rv,p,hz⟩:=I1.tuple hq;refine wpAny_pyIter_tuple (show s1.heap.IsTuple a ji.toArray from p) ?_;refine ⟨s1.heap.objs.size,[s1.heap.objs.size],_,_,H1,rfl,I1.kept (t':=s1.toks) fun b o e=>zAI _ e,C8 a _,⟨_,zAU _ rfl,rfl,rfl⟩,fun b hb=>?_,q⟩;have e:b=s1.heap.objs.size:=by simpa using hb
 subst e;exact I1.fpOk (zAH _) (I1.hok.fresh (zAH _))
theorem Kq{pins:List (Addr×Obj)}{σ:St}{H:Hp}{s:Shared}{R:It->Hp->Prop}{E:ja}{lo hi:Int}{t u v:Tok}{tk:Nat}(I:ZH X pins σ H s)(h1 : -(2 ^ 62)<=lo)(h2:lo<2 ^ 62)(h3 : -(2 ^ 62)<=hi)(h4:hi<2 ^ 62)(q:R (PF lo (hi - lo).toNat) H):wpAny (model X.prog X.w) X.A (pyIter (.ref s.heap.objs.size)) (IF X pins σ tg R) E { s with heap:=s.heap.push { cls:=.type "range",data:=.fields #[.int lo t,.int hi u,.int 1 v] },toks:=tk }:=by
 refine wpAny_pyIter_range (IsRange.new ..) (small_one h1 h2 h3 h4) ?_;have I1:ZH X pins σ H { s with heap:=s.heap.push { cls:=.type "range",data:=.fields #[.int lo t,.int hi u,.int 1 v] },toks:=tk }:=I.kept fun b o e=>zAI _ e;refine ⟨(s.heap.push { cls:=.type "range",data:=.fields #[.int lo t,.int hi u,.int 1 v] }).objs.size,[(s.heap.push { cls:=.type "range",data:=.fields #[.int lo t,.int hi u,.int 1 v] }).objs.size],_,_,H,rfl,
  I1.kept (t':=tk) fun b o e=>zAI _ e,E8 _ lo (hi - lo).toNat,?_,fun b hb=>?_,q⟩
 ·have e1:lo+((0:Nat):Int) * 1=lo:=by simp
  have e2:(((hi - lo).toNat:Nat):Int) - ((0:Nat):Int)=Builtin.Range.rangeSize lo hi 1:=by rw [rangeSize_one];split <;> lia
  show IsRangeIter _ _ (lo+((0:Nat):Int) * 1) ((((hi - lo).toNat:Nat):Int) - ((0:Nat):Int)) 1;rw [e1,e2];exact zAU _ rfl
 ·have e:b=(s.heap.push { cls:=.type "range",data:=.fields #[.int lo t,.int hi u,.int 1 v] }).objs.size:=by simpa using hb
  subst e;exact I1.fpOk (zAH _) (I1.hok.fresh (zAH _))
def G4(ta:TA):TI:=fun σ H R=>ta σ H fun vs H1=>∃ j:Int,vs=[.int j] /\ -(2 ^ 62)<=j/\j<2 ^ 62/\R (PF 0 j.toNat) H1
def FM(ta:TA):TI:=fun σ H R=>ta σ H fun vs H1=>∃ i j:Int,vs=[.int i,.int j]/\(-(2 ^ 62)<=i/\i<2 ^ 62 /\ -(2 ^ 62)<=j/\j<2 ^ 62)/\R (PF i (j - i).toNat) H1
theorem Pm{a:Expr}{ta:TA}{p pos:Pos}(hg:Gl X "range")(hm:X.mg "range" = none)(ha:PA X [a] ta)(hs:starEach [a] X.env=[(false,eval a X.env)]:=by rfl):PI X tg (.Call (.Name "range" p) [a] [] pos) (G4 ta):=by
 intro pins s σ H R I h;refine Call_ (Qy I hg hm boot_range (PyProof.Rows.callWith_type1 (Zc (ha pos pins s σ H _ I h) fun us s1 ⟨vs,H1,I1,r1,q1⟩=>?_) hs rfl));obtain ⟨j,e,q1,q2,q⟩:=q1;subst e
 cases r1 with
 | cons r rr=>
  cases rr;obtain ⟨t,rfl⟩:=r;exact call_range_1 (Kq I1 (by lia) (by lia) q1 q2 (by simpa using q))
theorem KK{a b:Expr}{ta:TA}{p pos:Pos}(hg:Gl X "range")(hm:X.mg "range" = none)(ha:PA X [a,b] ta)(hs:starEach [a,b] X.env=[(false,eval a X.env),(false,eval b X.env)]:=by rfl)(hs2:starEach [b] X.env=[(false,eval b X.env)]:=by rfl):
  PI X tg (.Call (.Name "range" p) [a,b] [] pos) (FM ta):=by
 intro pins s σ H R I h;refine Call_ (Qy I hg hm boot_range (PyProof.Rows.callWith_type1 (Zc (ha pos pins s σ H _ I h) fun us s1 ⟨vs,H1,I1,r1,q1⟩=>?_) (by rw [hs,hs2]) (by rw [hs2];rfl)))
 obtain ⟨i,j,e,⟨q1,q2,q3,q4⟩,q⟩:=q1;subst e
 cases r1 with
 | cons r rr=>
  cases rr with
  | cons r' rr=>
   cases rr;obtain ⟨t,rfl⟩:=r;obtain ⟨t',rfl⟩:=r';exact call_range_2 (Kq I1 q1 q2 q3 q4 q)
def Ae(wi:TI)(g:TG)(tb:TS):TS:=fun D σ H=>wi σ H fun J H1=>∃ W:Nat->Nat->St->Hp->Prop,(∃ m,W 0 m σ H1)/\∀ i m σ H,W i m σ H ->
 (J.stop i H/\D.nx σ H)\/(J.go i H/\∃ N:St->Hp->Prop,(∀ σ' H',N σ' H'->∃ m',m'<m/\W (i+1) m' σ' H')/\∀ x H',J.yld i H x H'->g x σ H' fun σ2 H2=>tb { D with nx:=N,ct:=N,bk:=D.nx } σ2 H2)
def P7(fp:List Addr)(h:Heap):List (Addr×Obj):=fp.filterMap fun b=>(h.get? b).map fun o=>(b,o)
theorem Oz{fp:List Addr}{h:Heap}{b:Addr}{o:Obj}(hb:b∈fp)(e:h.get? b=some o):(b,o)∈P7 fp h:=zCF.mpr ⟨b,hb,by rw [e];rfl⟩
theorem FK{fp:List Addr}{h:Heap}{p:Addr×Obj}(hp:p∈P7 fp h):p.1∈fp/\h.get? p.1=some p.2:=by
 obtain ⟨b,hb,e⟩:=zCF.mp hp
 cases q:h.get? b with
 | none=>rw [q] at e;cases e
 | some o=>
  rw [q] at e;have e':(b,o)=p:=zAj.inj e;subst e';exact ⟨hb,q⟩
theorem ZH.pinned{pins:List (Addr×Obj)}{σ:St}{H:Hp}{s:Shared}{fp:List Addr}(I:ZH X pins σ H s)(hf:∀ b∈fp,Ws X pins H b)(ho:∀ b∈fp,∃ o,s.heap.get? b=some o/\∀ v,o.data≠.cell v):ZH X (pins++P7 fp s.heap) σ H s:=
 I.pins_of fun p hp=>(zAd.mp hp).elim (fun z=>I.pin p (zAc _ z)) fun z=>by
  obtain ⟨hb,e⟩:=FK z;obtain ⟨f0,f1,f2,_⟩:=hf p.1 hb;obtain ⟨o,e',d⟩:=ho p.1 hb;rw [e] at e';cases e';exact ⟨e,f0,f1,f2,d⟩
theorem ZH.unpinned{pins pl:List (Addr×Obj)}{σ:St}{H:Hp}{s:Shared}(I:ZH X (pins++pl) σ H s):ZH X pins σ H s:=I.pins_of fun p hp=>I.pin p (zAc _ (zAz _ hp))
theorem Ud{iter:Expr}{body:List Stmt}{wi:TI}{g:TG}{tb:TS}{pos:Pos}(hp:PassesOwn (model X.prog X.w) X.A X.env X.xe)(hc:X.calm=true)(hi:PI X tg iter wi)(hg:PG X tg g)(hb:X5 X body tb)(hs:∀ x,foldedSetIterable iter X.env x=pure x:=by intro _;rfl):PS X (.For tg iter body [] pos) (Ae wi g tb):=by
 intro pins s σ H D I h;refine wpAny_For (Zc (hi pins s σ H _ I h) fun v s1 h1=>Zc h1 fun itv s2 h2=>?_) hs;obtain ⟨it,fp,tn,J,H2,e,I2,T,st2,f2,W,⟨m0,w0⟩,turn⟩:=h2;subst e;have stat:∀{H':Hp},(∀ b∈fp,H' b=none)->∀ b∈fp,Ws X pins H' b:=fun hn b hb=>⟨hn b hb,(f2 b hb).2⟩;refine codeAny_forLoop_any (fun n s'=>∃ i σ' H',ZH X pins σ' H' s'/\tn i s'.heap/\(∀ b∈fp,H' b=none)/\W i n σ' H') ?_ m0 ⟨0,σ,H2,I2,st2,fun b hb=>(f2 b hb).1,w0⟩;rintro n s3 ⟨i,σ3,H3,I3,st3,fr3,w3⟩;rcases turn i n σ3 H3 w3 with ⟨stop,qn⟩ | ⟨go,N,hN,step⟩
 ·refine wpAny_passesOwn hp (Zc (T.done X rfl rfl rfl hc i pins s3 σ3 H3 X.xe I3 (stat fr3) st3 stop) fun r s4 ⟨hr,I4⟩=>?_);subst hr;exact wpAny_execs_nil ⟨σ3,H3,I4,qn⟩
 ·refine wpAny_passesOwn hp (Zc (T.item X rfl rfl rfl hc i pins s3 σ3 H3 X.xe I3 (stat fr3) st3 go) fun r s4 ⟨u,hr,h4⟩=>?_);subst hr;refine wpAny_passesOwn hp (Zc h4 fun _ s5 ⟨x,H5,I5,r5,y5,st5,fr5⟩=>?_);have I5':=I5.pinned (stat fr5) (T.obj _ _ st5);refine wpAny_passesOwn hp (Zc (hg _ s5 σ3 H5 x u _ I5' r5 (step x H5 y5)) fun _ s6 ⟨σ6,H6,I6,q6⟩=>?_);refine wpAny_passesOwn hp (Zc (hb _ s6 σ6 H6 _ I6 q6) fun f s7 q7=>?_);have again:∀{σ7:St}{H7:Hp},ZH X (pins++P7 fp s5.heap) σ7 H7 s7->N σ7 H7->∃ m,m<n/\∃ i σ' H',ZH X pins σ' H' s7/\tn i s7.heap/\(∀ b∈fp,H' b=none)/\W i m σ' H':=fun{σ7 H7} I7 n7=>by
   obtain ⟨m',hm,w7⟩:=hN σ7 H7 n7;refine ⟨m',hm,i+1,σ7,H7,I7.unpinned,T.keep _ _ _ st5 fun b hb o e=>(I7.pin (b,o) (zAc _ (zAc _ (Oz hb e)))).1,fun b hb=>?_,w7⟩;obtain ⟨o,e,d⟩:=T.obj _ _ st5 b hb;exact (I7.pin (b,o) (zAc _ (zAc _ (Oz hb e)))).2.1
  cases f with
  | next=>obtain ⟨σ7,H7,I7,n7⟩:=q7;exact again I7 n7
  | cont=>obtain ⟨σ7,H7,I7,n7⟩:=q7;exact again I7 n7
  | brk=>obtain ⟨σ7,H7,I7,q7⟩:=q7;exact ⟨σ7,H7,I7.unpinned,q7⟩
  | ret v=>obtain ⟨x7,σ7,H7,I7,r7,q7⟩:=q7;exact ⟨x7,σ7,H7,I7.unpinned,r7,q7⟩
end
theorem OD{K:zAA}{a:Addr}{xs:je}{g:TG}{tb:TS}{D:Ym}{σ:St}{H:Hp}(Pv:Nat->St->Hp->Prop)(h0:Pv 0 σ H)(hl:∀ i σ H,i<=xs.length->Pv i σ H->ZL K H a xs)(hs:∀ i x σ H,xs[i]? = some x->Pv i σ H->g x σ H fun σ2 H2=>tb { D with nx:=Pv (i+1),ct:=Pv (i+1),bk:=D.nx } σ2 H2)(hd:∀ σ H,Pv xs.length σ H->D.nx σ H):
  ∃ W:Nat->Nat->St->Hp->Prop,(∃ m,W 0 m σ H)/\∀ i m σ H,W i m σ H ->
   ((OB K a).stop i H/\D.nx σ H)\/((OB K a).go i H/\∃ N:St->Hp->Prop,(∀ σ' H',N σ' H'->∃ m',m'<m/\W (i+1) m' σ' H')/\∀ x H',(OB K a).yld i H x H'->g x σ H' fun σ2 H2=>tb { D with nx:=N,ct:=N,bk:=D.nx } σ2 H2):=by
 refine ⟨fun i m σ H=>m=xs.length - i/\i<=xs.length/\Pv i σ H,⟨xs.length,by simp,zAk _,h0⟩,?_⟩
 rintro i m σ H ⟨rfl,hi,p⟩;have q:=hl i σ H hi p;by_cases hlt:i<xs.length
 ·refine .inr ⟨⟨xs,xs[i],q,by simp [hlt]⟩,Pv (i+1),fun σ' H' p'=>⟨xs.length - (i+1),by lia,rfl,hlt,p'⟩,fun x H' y=>?_⟩
  obtain ⟨e,y⟩:=y;subst e;exact hs i x σ _ (y xs q) p
 ·have e:i=xs.length:=by lia
  subst e;exact .inl ⟨⟨xs,q,zAH _⟩,hd σ H p⟩
theorem PZ{lo:Int}{n:Nat}{g:TG}{tb:TS}{D:Ym}{σ:St}{H:Hp}(Pv:Nat->St->Hp->Prop)(h0:Pv 0 σ H)(hs:∀ i σ H,i<n->Pv i σ H->g (.int (lo+i)) σ H fun σ2 H2=>tb { D with nx:=Pv (i+1),ct:=Pv (i+1),bk:=D.nx } σ2 H2)(hd:∀ σ H,Pv n σ H->D.nx σ H):
  ∃ W:Nat->Nat->St->Hp->Prop,(∃ m,W 0 m σ H)/\∀ i m σ H,W i m σ H ->
   ((PF lo n).stop i H/\D.nx σ H)\/((PF lo n).go i H/\∃ N:St->Hp->Prop,(∀ σ' H',N σ' H'->∃ m',m'<m/\W (i+1) m' σ' H')/\∀ x H',(PF lo n).yld i H x H'->g x σ H' fun σ2 H2=>tb { D with nx:=N,ct:=N,bk:=D.nx } σ2 H2):=by
 refine ⟨fun i m σ H=>m=n - i/\i<=n/\Pv i σ H,⟨n,by simp,zAk _,h0⟩,?_⟩
 rintro i m σ H ⟨rfl,hi,p⟩;by_cases hlt:i<n
 ·refine .inr ⟨hlt,Pv (i+1),fun σ' H' p'=>⟨n - (i+1),by lia,rfl,hlt,p'⟩,fun x H' y=>?_⟩
  obtain ⟨e,y⟩:=y;subst e y;exact hs i σ _ hlt p
 ·have e:i=n:=by lia
  subst e;exact .inl ⟨zAH _,hd σ H p⟩
abbrev R2:=V->V->Hp->VK->Prop
def Yp(X:Cx)(f:Value->Value->Sem Value)(r:R2):Prop:=
 ∀(pins:List (Addr×Obj))(s:Shared)(σ:St)(H:Hp)(x y:V)(v u:Value)(Q:VK),ZH X pins σ H s->ZS x v->ZS y u->r x y H Q ->
  wpAny (model X.prog X.w) X.A (f v u) (EP X pins σ Q) X.xe s
def KU(X:Cx)(f:Value->Sem Value)(r:V->Hp->VK->Prop):Prop:=
 ∀(pins:List (Addr×Obj))(s:Shared)(σ:St)(H:Hp)(x:V)(v:Value)(Q:VK),ZH X pins σ H s->ZS x v->r x H Q ->
  wpAny (model X.prog X.w) X.A (f v) (EP X pins σ Q) X.xe s
def VX(X:Cx)(f:Value)(r:je->Hp->VK->Prop):Prop:=
 ∀(pins:List (Addr×Obj))(s:Shared)(σ:St)(H:Hp)(xs:je)(us:jd)(Q:VK),ZH X pins σ H s->ZN xs us->r xs H Q ->
  wpAny (model X.prog X.w) X.A (call f us) (EP X pins σ Q) X.xe s
def Pd(r:R2)(ta tb:TE):TE:=fun σ H Q=>ta σ H fun x H1=>tb σ H1 fun y H2=>r x y H2 Q
def Dy(r:V->Hp->VK->Prop)(ta:TE):TE:=fun σ H Q=>ta σ H fun x H1=>r x H1 Q
def rI(C:Int->Int->Prop)(g:Int->Int->V):R2:=fun x y H Q=>∃ i j,x=.int i/\y=.int j/\C i j/\Q (g i j) H
def QZ(g:Int->Int->V):R2:=fun x y H Q=>∃ i j,x=.int i/\y=.int j/\Q (g i j) H
def rU(g:Int->V):V->Hp->VK->Prop:=fun x H Q=>∃ i,x=.int i/\Q (g i) H
section
variable{X:Cx}{a b c:Expr}{ta tb tc:TE}{pos:Pos}
theorem Ka(ha:PE X a ta)(hb:PE X b tb){pins:List (Addr×Obj)}{s:Shared}{σ:St}{H:Hp}{R:V->V->Hp->Prop}(I:ZH X pins σ H s)(h:ta σ H fun x H1=>tb σ H1 fun y H2=>R x y H2){Q:ja}{f:Value->Value->Sem Value}(hf:∀ v u s2 x y H2,ZH X pins σ H2 s2->ZS x v->ZS y u->R x y H2->wpAny (model X.prog X.w) X.A (f v u) Q X.xe s2):
  wpAny (model X.prog X.w) X.A (eval a X.env) (fun v s₁=>wpAny (model X.prog X.w) X.A (eval b X.env) (fun u s₂=>wpAny (model X.prog X.w) X.A (f v u) Q X.xe s₂) X.xe s₁) X.xe s:=by
 refine Zc (ha pins s σ H _ I h) fun v s1 ⟨x,H1,I1,r1,q1⟩=>?_;refine Zc (hb pins s1 σ H1 _ I1 q1) fun u s2 ⟨y,H2,I2,r2,q2⟩=>?_;exact hf v u s2 x y H2 I2 r1 r2 q2
theorem Zv{op:Operator}{r:R2}(ho:Yp X (binaryOp op) r)(ha:PE X a ta)(hb:PE X b tb):PE X (.BinOp a op b pos) (Pd r ta tb):=by
 intro pins s σ H Q I h;exact wpAny_BinOp (Ka ha hb I h fun v u s2 x y H2 I2 rx ry q=>ho pins s2 σ H2 x y v u Q I2 rx ry q)
theorem QX{op:UnaryOp}{r:V->Hp->VK->Prop}(ho:KU X (unaryOp op) r)(ha:PE X a ta):PE X (.UnaryOp op a pos) (Dy r ta):=by
 intro pins s σ H Q I h;exact UnaryOp_ (Zc (ha pins s σ H _ I h) fun v s1 ⟨x,H1,I1,r1,q1⟩=>ho pins s1 σ H1 x v Q I1 r1 q1)
theorem ON{f:Value->Value->Sem Value}{C:Int->Int->Prop}{g:Int->Int->Int}(rule:∀ (i j:Int) (t u:Tok) (s:Shared) (Q:ja) (E:ja),C i j->Q (.int (g i j) s.toks) { s with toks:=s.toks+1 }->wpAny (model X.prog X.w) X.A (f (.int i t) (.int j u)) Q E s):
  Yp X f (rI C fun i j=>.int (g i j)):=by
 intro pins s σ H x y v u Q I rx ry h;obtain ⟨i,j,rfl,rfl,hc,q⟩:=h;obtain ⟨t,rfl⟩:=rx;obtain ⟨t',rfl⟩:=ry;exact rule i j t t' s _ _ hc ⟨.int (g i j),H,I.tok _,⟨_,rfl⟩,q⟩
theorem Gn{f:Value->Value->Sem Value}{g:Int->Int->Int}(rule:∀ (i j:Int) (t u:Tok) (s:Shared) (Q:ja) (E:ja),Q (.int (g i j) s.toks) { s with toks:=s.toks+1 }->wpAny (model X.prog X.w) X.A (f (.int i t) (.int j u)) Q E s):
  Yp X f (QZ fun i j=>.int (g i j)):=by
 intro pins s σ H x y v u Q I rx ry h;obtain ⟨i,j,rfl,rfl,q⟩:=h;obtain ⟨t,rfl⟩:=rx;obtain ⟨t',rfl⟩:=ry;exact rule i j t t' s _ _ ⟨.int (g i j),H,I.tok _,⟨_,rfl⟩,q⟩
theorem Oo{f:Value->Value->Sem Value}{g:Int->Int->Bool}(rule:∀ (i j:Int) (t u:Tok) (s:Shared) (Q:ja) (E:ja),Q (.bool (g i j)) s->wpAny (model X.prog X.w) X.A (f (.int i t) (.int j u)) Q E s):
  Yp X f (QZ fun i j=>.bl (g i j)):=by
 intro pins s σ H x y v u Q I rx ry h;obtain ⟨i,j,rfl,rfl,q⟩:=h;obtain ⟨t,rfl⟩:=rx;obtain ⟨t',rfl⟩:=ry;exact rule i j t t' s _ _ ⟨.bl (g i j),H,I,rfl,q⟩
def Gv(i j:Int):Prop:=0<j/\j<1073741824
def ZQX(i j:Int):Prop:=0<=j/\j<=1000000/\i.natAbs<2 ^ 64
def QK(i j:Int):Prop:=(-(2 ^ 64)<i/\i<2 ^ 64)\/(-(2 ^ 64)<j/\j<2 ^ 64)
theorem QK.ok{i j:Int}(h:QK i j):IntMulOk i j:=by
 rcases h with ⟨h1,h2⟩ | ⟨h1,h2⟩
 ·exact .of_left (intBits_le_64 h1 h2)
 ·exact .of_right (intBits_le_64 h1 h2)
theorem WJ:Yp X (binaryOp .Add) (QZ fun i j=>.int (i+j)):=Gn fun _ _ _ _ _ _ _ q=>add_int q
theorem Vo:Yp X (binaryOp .Sub) (QZ fun i j=>.int (i - j)):=Gn fun _ _ _ _ _ _ _ q=>sub_int q
theorem Q3:Yp X (binaryOp .Mult) (rI QK fun i j=>.int (i * j)):=ON fun _ _ _ _ _ _ _ hc q=>mul_int q hc.ok
theorem NR:Yp X (binaryOp .FloorDiv) (rI Gv fun i j=>.int (i / j)):=ON fun i j _ _ _ _ _ hc q=>by
 have h1:(0:Int)<j:=hc.1;have h2:j<1073741824:=hc.2;exact floordiv_int (by lia) (by rw [zDI i (by lia)];exact q) (.inl (PyProof.noPylong_small (by lia)))
theorem Qh:Yp X (binaryOp .Mod) (rI (fun _ j=>0<j) fun i j=>.int (i % j)):=ON fun i j _ _ _ _ _ hc q=>by
 have h1:(0:Int)<j:=hc;exact mod_int' (by lia) (by rw [Int.fmod_eq_emod_of_nonneg i (by lia)];exact q)
theorem PX:Yp X (binaryOp .Pow) (rI ZQX fun i j=>.int (i ^ j.toNat)):=ON fun _ _ _ _ _ _ _ hc q=>pow_int_small hc.1 hc.2.1 hc.2.2 q
theorem Bp{f:Value->Sem Value}{g:Int->Int}(rule:∀ (i:Int) (t:Tok) (s:Shared) (Q:ja) (E:ja),Q (.int (g i) s.toks) { s with toks:=s.toks+1 }->wpAny (model X.prog X.w) X.A (f (.int i t)) Q E s):
  KU X f (rU fun i=>.int (g i)):=by
 intro pins s σ H x v Q I rx h;obtain ⟨i,rfl,q⟩:=h;obtain ⟨t,rfl⟩:=rx;exact rule i t s _ _ ⟨.int (g i),H,I.tok _,⟨_,rfl⟩,q⟩
theorem Qg:KU X (unaryOp .USub) (rU fun i=>.int (-i)):=Bp fun _ _ _ _ _ q=>neg_int q
end
def JA:V->V->Bool
 | .non,.non=>true | .non,.int _=>true | .int _,.non=>true | .non,.bl _=>true | .bl _,.non=>true | .non,.str _=>true | .str _,.non=>true
 | .int _,.int _=>true | .bl _,.bl _=>true | .str _,.str _=>true | .byt _,.byt _=>true
 | .int _,.str _=>true | .str _,.int _=>true | .bl _,.str _=>true | .str _,.bl _=>true
 | _,_=>false
def rEq:R2:=fun x y H Q=>JA x y=true/\Q (.bl (decide (x=y))) H
def CA:R2:=fun x y H Q=>JA x y=true/\Q (.bl (!decide (x=y))) H
theorem He{i j:Int}:decide (V.int i=V.int j)=(i==j):=by
 rw [zBw];simp
theorem Hk{i j:Bool}:decide (V.bl i=V.bl j)=(i==j):=by
 rw [zBw];simp
theorem HP{i j:Str}:decide (V.str i=V.str j)=(i==j):=by
 rw [zBw];simp
theorem Gb{i j:Array UInt8}:decide (V.byt i=V.byt j)=(i.toList==j.toList):=by
 rw [zBw];cases i;cases j;simp
section
variable{X:Cx}{a b c:Expr}{ta tb tc:TE}{pos:Pos}
theorem Yl{pins:List (Addr×Obj)}{σ:St}{H:Hp}{s:Shared}{Q:VK}{k k':Bool}(I:ZH X pins σ H s)(q:Q (.bl k) H)(e:k=k'):EP X pins σ Q (.bool k') s:=by
 subst e;exact ⟨.bl k,H,I,rfl,q⟩
theorem Wy:Yp X (compareOp .Eq) rEq:=by
 intro pins s σ H x y v u Q I rx ry h;obtain ⟨hs,q⟩:=h
 cases x with
 | non=>
  cases rx
  cases y with
  | non=>cases ry;exact PySem.EqNone.eq_none_none (Yl I q (by simp))
  | bl j=>cases ry;exact PySem.EqNone.eq_none_bool (Yl I q (by simp))
  | int j=>obtain ⟨t',rfl⟩:=ry;exact PySem.EqNone.eq_none_int (Yl I q (by simp))
  | str j=>obtain ⟨t',rfl⟩:=ry;exact PySem.EqNone.eq_none_str (Yl I q (by simp))
  | _=>exact absurd (show false=true from hs) zAF
 | bl i=>
  cases rx
  cases y with
  | non=>cases ry;exact PySem.EqNone.eq_bool_none (Yl I q (by simp))
  | bl j=>cases ry;exact eq_bool (Yl I q Hk)
  | str j=>obtain ⟨t',rfl⟩:=ry;exact PySem.EqMixed.eq_bool_str (Yl I q (by simp))
  | _=>exact absurd (show false=true from hs) zAF
 | int i=>
  obtain ⟨t,rfl⟩:=rx
  cases y with
  | non=>cases ry;exact PySem.EqNone.eq_int_none (Yl I q (by simp))
  | int j=>obtain ⟨t',rfl⟩:=ry;exact eq_int (Yl I q He)
  | str j=>obtain ⟨t',rfl⟩:=ry;exact PySem.EqMixed.eq_int_str (Yl I q (by simp))
  | _=>exact absurd (show false=true from hs) zAF
 | str i=>
  obtain ⟨t,rfl⟩:=rx
  cases y with
  | non=>cases ry;exact PySem.EqNone.eq_str_none (Yl I q (by simp))
  | bl j=>cases ry;exact PySem.EqMixed.eq_str_bool (Yl I q (by simp))
  | int j=>obtain ⟨t',rfl⟩:=ry;exact PySem.EqMixed.eq_str_int (Yl I q (by simp))
  | str j=>obtain ⟨t',rfl⟩:=ry;exact eq_str (Yl I q HP)
  | _=>exact absurd (show false=true from hs) zAF
 | byt i=>
  obtain ⟨t,rfl⟩:=rx
  cases y with
  | byt j=>obtain ⟨t',rfl⟩:=ry;exact PySem.W.eq_bytes (Yl I q Gb)
  | _=>exact absurd (show false=true from hs) zAF
 | _=>cases y <;> exact absurd (show false=true from hs) zAF
theorem Eo:Yp X (compareOp .NotEq) CA:=by
 intro pins s σ H x y v u Q I rx ry h;obtain ⟨hs,q⟩:=h
 cases x with
 | non=>
  cases rx
  cases y with
  | non=>cases ry;exact PySem.EqNone.ne_none_none (Yl I q (by simp))
  | bl j=>cases ry;exact PySem.EqNone.ne_none_bool (Yl I q (by simp))
  | int j=>obtain ⟨t',rfl⟩:=ry;exact PySem.EqNone.ne_none_int (Yl I q (by simp))
  | str j=>obtain ⟨t',rfl⟩:=ry;exact PySem.EqNone.ne_none_str (Yl I q (by simp))
  | _=>exact absurd (show false=true from hs) zAF
 | bl i=>
  cases rx
  cases y with
  | non=>cases ry;exact PySem.EqNone.ne_bool_none (Yl I q (by simp))
  | bl j=>cases ry;exact ne_bool (Yl I q (congrArg not Hk))
  | str j=>obtain ⟨t',rfl⟩:=ry;exact PySem.EqMixed.ne_bool_str (Yl I q (by simp))
  | _=>exact absurd (show false=true from hs) zAF
 | int i=>
  obtain ⟨t,rfl⟩:=rx
  cases y with
  | non=>cases ry;exact PySem.EqNone.ne_int_none (Yl I q (by simp))
  | int j=>obtain ⟨t',rfl⟩:=ry;exact ne_int (Yl I q (congrArg not He))
  | str j=>obtain ⟨t',rfl⟩:=ry;exact PySem.EqMixed.ne_int_str (Yl I q (by simp))
  | _=>exact absurd (show false=true from hs) zAF
 | str i=>
  obtain ⟨t,rfl⟩:=rx
  cases y with
  | non=>cases ry;exact PySem.EqNone.ne_str_none (Yl I q (by simp))
  | bl j=>cases ry;exact PySem.EqMixed.ne_str_bool (Yl I q (by simp))
  | int j=>obtain ⟨t',rfl⟩:=ry;exact PySem.EqMixed.ne_str_int (Yl I q (by simp))
  | str j=>obtain ⟨t',rfl⟩:=ry;exact ne_str (Yl I q (congrArg not HP))
  | _=>exact absurd (show false=true from hs) zAF
 | byt i=>
  obtain ⟨t,rfl⟩:=rx
  cases y with
  | byt j=>obtain ⟨t',rfl⟩:=ry;exact PySem.W.ne_bytes (Yl I q (congrArg not Gb))
  | _=>exact absurd (show false=true from hs) zAF
 | _=>cases y <;> exact absurd (show false=true from hs) zAF
theorem PM:Yp X (compareOp .Lt) (QZ fun i j=>.bl (decide (i<j))):=Oo fun _ _ _ _ _ _ _ q=>lt_int q
theorem PY:Yp X (compareOp .LtE) (QZ fun i j=>.bl (decide (i<=j))):=Oo fun _ _ _ _ _ _ _ q=>le_int q
theorem Qb:Yp X (compareOp .Gt) (QZ fun i j=>.bl (decide (j<i))):=Oo fun _ _ _ _ _ _ _ q=>gt_int q
theorem Ez:Yp X (compareOp .GtE) (QZ fun i j=>.bl (decide (j<=i))):=Oo fun _ _ _ _ _ _ _ q=>ge_int q
theorem YE(b:Expr){op:CmpOp}(h:op≠.In:=by decide)(h2:op≠.NotIn:=by decide):behindInMarks op b=false:=by
 have e1:(op==CmpOp.In)=false:=by cases op <;> first | rfl | exact absurd rfl h
 have e2:(op==CmpOp.NotIn)=false:=by cases op <;> first | rfl | exact absurd rfl h2
 cases b <;> simp [behindInMarks,e1,e2]
theorem Wz{op:CmpOp}{r:R2}(ho:Yp X (compareOp op) r)(ha:PE X a ta)(hb:PE X b tb)(hm:behindInMarks op b=false):PE X (.Compare a [op] [b] pos) (Pd r ta tb):=by
 intro pins s σ H Q I h;exact wpAny_Compare1 (Ka ha hb I h fun v u s2 x y H2 I2 rx ry q=>ho pins s2 σ H2 x y v u Q I2 rx ry q) hm
def HZ(t:TE):TT:=fun σ H Q=>t σ H fun x H'=>∃ k,x=.bl k/\Q k H'
theorem Y3{op:CmpOp}{r:R2}(ho:Yp X (compareOp op) r)(ha:PE X a ta)(hb:PE X b tb)(hm:behindInMarks op b=false):PT X (.Compare a [op] [b] pos) (HZ (Pd r ta tb)):=by
 intro pins s σ H Q I h;refine wpAny_isTrue_Compare1 (Zc (ha pins s σ H _ I h) fun v s1 ⟨x,H1,I1,r1,q1⟩=>Zc (hb pins s1 σ H1 _ I1 q1) fun u s2 ⟨y,H2,I2,r2,q2⟩=>
  Zc (ho pins s2 σ H2 x y v u _ I2 r1 r2 q2) fun c s3 ⟨z,H3,I3,r3,k,e,q3⟩=>?_) hm
 subst e;cases r3;exact wpAny_truthy_bool ⟨H3,I3,q3⟩
def GO(r r':R2)(ta tb tc:TE):TE:=fun σ H Q=>ta σ H fun x H1=>tb σ H1 fun y H2=>r x y H2 fun z H3=>∃ k,z=.bl k /\
 (if k=true then tc σ H3 fun w' H4=>r' y w' H4 Q else Q (.bl false) H3)
theorem Ej{op op':CmpOp}{r r':R2}(ho:Yp X (compareOp op) r)(ho':Yp X (compareOp op') r')(ha:PE X a ta)(hb:PE X b tb)(hc:PE X c tc)(hm:lastMarks [op,op'] [b,c]=false:=by with_unfolding_all rfl):PE X (.Compare a [op,op'] [b,c] pos) (GO r r' ta tb tc):=by
 intro pins s σ H Q I h;refine Compare_chain (Zc (ha pins s σ H _ I h) fun v s1 ⟨x,H1,I1,r1,q1⟩=>chain_link (Zc (hb pins s1 σ H1 _ I1 q1) fun u s2 ⟨y,H2,I2,r2,q2⟩=>
  Zc (ho pins s2 σ H2 x y v u _ I2 r1 r2 q2) fun d s3 ⟨z,H3,I3,r3,k,e,q3⟩=>?_)) hm
 subst e;cases r3;refine wpAny_truthy_bool ?_
 cases k with
 | false=>exact ite_ff ⟨.bl false,H3,I3,rfl,q3⟩
 | true=>exact ite_tt (chain_last (Zc (hc pins s3 σ H3 _ I3 q3) fun w' s4 ⟨z',H4,I4,r4,q4⟩=>ho' pins s4 σ H4 y z' u w' Q I4 r2 r4 q4))
theorem Mi{op op':CmpOp}{r r':R2}(ho:Yp X (compareOp op) r)(ho':Yp X (compareOp op') r')(ha:PE X a ta)(hb:PE X b tb)(hc:PE X c tc)(hm:lastMarks [op,op'] [b,c]=false:=by with_unfolding_all rfl):PT X (.Compare a [op,op'] [b,c] pos) (HZ (GO r r' ta tb tc)):=by
 intro pins s σ H Q I h;refine isTrue_chain (Zc (ha pins s σ H _ I h) fun v s1 ⟨x,H1,I1,r1,q1⟩=>test_link (Zc (hb pins s1 σ H1 _ I1 q1) fun u s2 ⟨y,H2,I2,r2,q2⟩=>
  Zc (ho pins s2 σ H2 x y v u _ I2 r1 r2 q2) fun d s3 ⟨z,H3,I3,r3,k,e,q3⟩=>?_)) hm
 subst e;cases r3;refine wpAny_truthy_bool ?_
 cases k with
 | false=>
  obtain ⟨k',e',q'⟩:=q3;cases e';exact ite_ff ⟨H3,I3,q'⟩
 | true=>
  refine ite_tt (test_last (Zc (hc pins s3 σ H3 _ I3 q3) fun w' s4 ⟨z',H4,I4,r4,q4⟩=>Zc (ho' pins s4 σ H4 y z' u w' _ I4 r2 r4 q4) fun d' s5 ⟨z2,H5,I5,r5,k2,e2,q5⟩=>?_));subst e2;cases r5;exact wpAny_truthy_bool ⟨H5,I5,q5⟩
theorem Pq:(sizeLine:Nat)<2 ^ 63:=by rw [sizeLine_eq];decide
theorem Es:Yp X (binaryOp .Add) (fun x y H Q=>∃ i j,x=.str i/\y=.str j/\i.length+j.length<=sizeLine/\Q (.str (i++j)) H):=by
 intro pins s σ H x y v u Q I rx ry h;obtain ⟨i,j,rfl,rfl,hz,q⟩:=h;obtain ⟨t,rfl⟩:=rx;obtain ⟨t',rfl⟩:=ry;exact add_str (fun t' tk=>⟨.str (i++j),H,I.tok _,⟨_,rfl⟩,q⟩) hz
theorem Va{x:V}{us:jd}(r:ZN [x] us):∃ u,us=[u]/\ZS x u:=by
 cases r with
 | cons r1 r2=>cases r2;exact ⟨_,rfl,r1⟩
theorem Oh{x y:V}{us:jd}(r:ZN [x,y] us):∃ u w',us=[u,w']/\ZS x u/\ZS y w':=by
 cases r with
 | cons r1 r2=>
  cases r2 with
  | cons r3 r4=>cases r4;exact ⟨_,_,rfl,r1,r3⟩
theorem KL:VX X (.builtin "abs") (fun xs H Q=>∃ i,xs=[.int i]/\Q (.int (if i<0 then -i else i)) H):=by
 intro pins s σ H xs us Q I r h;obtain ⟨i,rfl,q⟩:=h;obtain ⟨u,rfl,t,rfl⟩:=Va r;exact call_abs_int fun u tk=>⟨.int (if i<0 then -i else i),H,I.tok _,⟨_,rfl⟩,q⟩
theorem MR(hc:X.calm=true):VX X (.builtin "max") (fun xs H Q=>∃ i j,xs=[.int i,.int j]/\Q (.int (if j > i then j else i)) H):=by
 intro pins s σ H xs us Q I r h;obtain ⟨i,j,rfl,q⟩:=h;obtain ⟨u,w',rfl,⟨t,rfl⟩,⟨t',rfl⟩⟩:=Oh r;refine max_two_ints (I.ok.hd hc) fun h' tk k=>⟨_,H,I.kept k,?_,q⟩;by_cases hj:j > i
 ·rw [if_pos hj,if_pos hj];exact ⟨_,rfl⟩
 ·rw [if_neg hj,if_neg hj];exact ⟨_,rfl⟩
theorem Jx(hc:X.calm=true):VX X (.builtin "min") (fun xs H Q=>∃ i j,xs=[.int i,.int j]/\Q (.int (if j<i then j else i)) H):=by
 intro pins s σ H xs us Q I r h;obtain ⟨i,j,rfl,q⟩:=h;obtain ⟨u,w',rfl,⟨t,rfl⟩,⟨t',rfl⟩⟩:=Oh r;refine min_two_ints (I.ok.hd hc) fun h' tk k=>⟨_,H,I.kept k,?_,q⟩;by_cases hj:j<i
 ·rw [if_pos hj,if_pos hj];exact ⟨_,rfl⟩
 ·rw [if_neg hj,if_neg hj];exact ⟨_,rfl⟩
theorem P4:VX X (.type "int") (fun xs H Q=>(∃ i,xs=[.int i]/\Q (.int i) H)\/∃ k,xs=[.bl k]/\Q (.int (if k then 1 else 0)) H):=by
 intro pins s σ H xs us Q I r h;rcases h with ⟨i,rfl,q⟩ | ⟨k,rfl,q⟩
 ·obtain ⟨u,rfl,t,rfl⟩:=Va r;exact call_int_int ⟨.int i,H,I,⟨_,rfl⟩,q⟩
 ·obtain ⟨u,rfl,r1⟩:=Va r;cases r1;exact call_int_bool ⟨.int (if k then 1 else 0),H,I.tok _,⟨_,rfl⟩,q⟩
end
structure Vf(h:Heap)(x dx C:Addr)(mA:jb):Prop where
 obj:h.get? x=some (zBR C dx)
 ns:h.Ns1 dx mA
 ne:dx≠x
theorem J4{h:Heap}{dx:Addr}{mA:jb}(n:h.Ns1 dx mA):∃ od,h.get? dx=some od/\∀ name,zCD name od=some (mA name):=by
 obtain ⟨o,es,ep,ho,hd,hk,_,hm⟩:=n;refine ⟨o,ho,fun name=>?_⟩;have e:=hm name;unfold nsFind findBy at e;rw [<-Array.find?_toList] at e;unfold zCD;rw [hd];dsimp only;split
 ·rename_i y q
  rw [q] at e;exact congrArg some e
 ·rename_i q
  rw [q] at e;have a:es.toList.any (·.refKey)=false:=by
   rw [List.any_eq_false];intro y hy;obtain ⟨z,t,hkey⟩:=hk y (zDb.mp hy);simp [DictEntry.refKey,hkey]
  have a':¬ es.toList.any (·.refKey)=true:=by rw [a];exact zAF
  rw [if_neg a'];exact congrArg some e
theorem Vf.look{h:Heap}{x dx C:Addr}{mA:jb}(I:Vf h x dx C mA):∃ od,zC1 h x (zBR C dx) C (some od)/\∀ name,zCD name od=some (mA name):=
 let ⟨od,ho,hl⟩:=J4 I.ns
 ⟨od,⟨I.obj,rfl,rfl,ho⟩,hl⟩
section
variable{prog:Program}{w:World}{A:Around}{E:ja}{s:Shared}{K:zAA}{x dx C f:Addr}{mA:jb}{name:Str}{v:Value}
theorem Fo{expr:Bool}{Q:ja}(X:K.In s.heap)(I:Vf s.heap x dx C mA)(hg:zBg K C name=true)(hh:zBS K C=true)(ha:zAV K (.ref C) name=some none)(hv:mA name=some v)(hv':PySem.W.handedIn v=true)(h:Q v { s with toks:=s.toks+1 }):
  wpAny (model prog w) A (getAttr (.ref x) name expr) Q E s:=by
 obtain ⟨od,J,hl⟩:=I.look;exact PySem.W.get_value X J (zCa hg).1 (PySem.W.findObj_own hh ha rfl (by rw [hl,hv])) hv' h
theorem AD{pl:Sem Bool}{Q:Value×jd->Shared->Prop}(X:K.In s.heap)(I:Vf s.heap x dx C mA)(hg:zBg K C name=true)(hf:zAV K (.ref C) name=some (some (.ref f)))(ht:zBj K (.ref f)=true)(hv:mA name=none)(h:Q (.ref f,[.ref x]) s):
  wpAny (model prog w) A (getMethod (.ref x) name pl) Q E s:=by
 obtain ⟨od,J,hl⟩:=I.look;exact PySem.W.method_fn X J (zCa hg).1 (zCa hg).2 hf (beq_iff_eq.mp ht) (by show (zCD name od).map (·.isSome)=some false;rw [hl,hv];rfl) h
theorem ZL5{ns:List Str}{Q:Unit->Shared->Prop}(X:K.In s.heap)(I:Vf s.heap x dx C mA)(hs:zAV K (.ref C) "__setattr__" = some (some (.builtin "object.__setattr__")))(hp:zCE K C=true)(ht:zCm K C name=some none)(hh:zBS K C=true)(hw:PySem.Within mA ns)(hsz:ns.length<=sizeLine)(h:∀ h',Vf h' x dx C (fun y=>if y=name then some v else mA y)->zBD dx s.heap h'->Q () { s with heap:=h',toks:=s.toks+2 }):
  wpAny (model prog w) A (setAttr (.ref x) name v) Q E s:=by
 obtain ⟨od,J,hl⟩:=I.look;refine PySem.W.set_plain X J hs (PySem.W.osa_open (s:={ s with toks:=s.toks+1 }) (r:=none) X J hp ht fun b=>?_);obtain ⟨cd,hc,hd'⟩:=zCI hh;have hx:s.heap.get? x=some ⟨.ref C,some dx,.plain,#[]⟩:=I.obj;refine wpAny_bind (wpAny_pure (wpAny_bind (wpAny_bind (wpAny_loadPart hx (wpAny_bind (zAu.here (s:={ s with toks:=s.toks+1 }) (zCb X hc) ?_))))));rw [hd'];refine wpAny_pure (a:=some dx) (wpAny_bind (wpAny_pure (wpAny_bind ?_)));refine wpAny_nsSet1 (s:={ s with toks:=s.toks+1 }) I.ns fun h' hn2 hs2=>?_;obtain ⟨oD,esD,epD,hoD,hdD,hcD⟩:=hn2.count (PySem.Within.cons name v hw);refine wpAny_bind (wpAny_lookBehind hoD (by rw [hdD];exact pastItsLine_dict (zAv hcD (by rw [zAW];lia))) ?_)
 exact wpAny_pure (h _ ⟨(hs2.2 _ (Ne.symm I.ne)).trans I.obj,hn2,I.ne⟩ hs2)
theorem ZKh{R:Result->Shared->Prop}{vs:jd}{kw:List (Str×Value)}(X:K.In s.heap)(hm:zCO K C=true)(hi:zAV K (.ref C) "__init__" = some (some (.ref f)))(hf:zA4 K (.ref f)=some (.type "function"))(h:codeAny (model prog w) (A.under (.builtin "type.__call__" ⟨.ref C :: vs,kw⟩)) (.call (.ref f) ⟨.ref (s.heap.objs.size+1) :: vs,kw⟩) (PySem.W.InitBack (s.heap.objs.size+1) R)
   { s with heap:=(s.heap.push zBE).push (zBR C s.heap.objs.size) }):
  codeAny (model prog w) A (.call (.ref C) ⟨vs,kw⟩) R s:=by
 obtain ⟨hh,g,d,t,os⟩:=s;exact PySem.W.make_core (PySem.W.makes_of X hm) (zB1 X hi) (fun self=>PySem.W.bind_fn X self hf) (.inl rfl) h
end
def XB(f:Str)(v:V):List (Str×V)->List (Str×V)
 | []=>[(f,v)]
 | (g,x) :: r=>if g=f then (g,v) :: r else (g,x) :: XB f v r
theorem HH(f g:Str)(v:V):∀ fs:List (Str×V),(XB f v fs).lookup g=if g=f then some v else fs.lookup g
 | []=>by
  show zBY g [(f,v)]=_;by_cases h:g=f
  ·have hb:(g==f)=true:=beq_iff_eq.mpr h;simp only [zBY,hb,if_pos h]
  ·have hb:(g==f)=false:=beq_eq_false_iff_ne.mpr h;simp only [zBY,hb,if_neg h]
 | (k,x) :: r=>by
  have ih:=HH f g v r;rw [show XB f v ((k,x) :: r)=(if k=f then (k,v) :: r else (k,x) :: XB f v r) from rfl]
  by_cases hk:k=f
  ·rw [if_pos hk];by_cases h:g=k
   ·have hb:(g==k)=true:=beq_iff_eq.mpr h;simp only [zBY,hb,if_pos (h.trans hk)]
   ·have hb:(g==k)=false:=beq_eq_false_iff_ne.mpr h;simp only [zBY,hb,if_neg (fun e:g=f=>h (e.trans hk.symm))]
  ·rw [if_neg hk];by_cases h:g=k
   ·have hb:(g==k)=true:=beq_iff_eq.mpr h;simp only [zBY,hb,if_neg (fun e:g=f=>hk (h.symm.trans e))]
   ·have hb:(g==k)=false:=beq_eq_false_iff_ne.mpr h;simp only [zBY,hb];exact ih
theorem M0(f:Str)(v:V):∀ fs:List (Str×V),f∈(XB f v fs).map (·.1)/\∀ g,g∈fs.map (·.1)->g∈(XB f v fs).map (·.1)
 | []=>⟨by simp [XB],fun g h=>by simp at h⟩
 | (k,x) :: r=>by
  obtain ⟨i1,i2⟩:=M0 f v r;rw [show XB f v ((k,x) :: r)=(if k=f then (k,v) :: r else (k,x) :: XB f v r) from rfl]
  by_cases hk:k=f
  ·rw [if_pos hk];subst hk;exact ⟨by simp,fun g h=>by simpa using h⟩
  ·rw [if_neg hk];refine ⟨?_,fun g h=>?_⟩
   ·rw [zAa];exact zAL _ i1
   ·rw [zAa] at h ⊢;rcases zAe.mp h with e | e
    ·exact zAe.mpr (.inl e)
    ·exact zAL _ (i2 g e)
theorem Hl(f:Str)(v:V):∀ fs:List (Str×V),(XB f v fs).length<=fs.length+1
 | []=>by simp [XB]
 | (k,x) :: r=>by
  have ih:=Hl f v r;rw [show XB f v ((k,x) :: r)=(if k=f then (k,v) :: r else (k,x) :: XB f v r) from rfl]
  by_cases hk:k=f
  ·rw [if_pos hk,zAW,zAW];lia
  ·rw [if_neg hk,zAW,zAW];lia
theorem Ye.some_of{v:V}{o:jc}(r:Ye (some v) o):∃ u,o=some u/\ZS v u:=by
 cases o with
 | none=>exact (show False from r).elim
 | some u=>exact ⟨u,rfl,r⟩
theorem Ye.none_of{o:jc}(r:Ye none o):o=none:=by
 cases o with
 | none=>rfl
 | some u=>exact (show False from r).elim
theorem Kx{v:V}{u:Value}(r:ZS v u):PySem.W.handedIn u=true:=by
 cases v with
 | non=>cases (show u=Value.none from r);rfl
 | bl b=>cases (show u=Value.bool b from r);rfl
 | int i=>obtain ⟨t,e⟩:=(show ∃ t,u=Value.int i t from r);cases e;rfl
 | str x=>obtain ⟨t,e⟩:=(show ∃ t,u=Value.str x t from r);cases e;rfl
 | byt b=>obtain ⟨t,e⟩:=(show ∃ t,u=Value.bytes b t from r);cases e;rfl
 | flt b=>obtain ⟨t,e⟩:=(show ∃ t,u=Value.float b t from r);cases e;rfl
 | ref a=>cases (show u=Value.ref a from r);rfl
 | ty n=>cases (show u=Value.type n from r);rfl
section
variable{P:Program}{w:World}{H H':Hp}{h h':Heap}{a C dx:Addr}{fs fs':List (Str×V)}
theorem O3(hok:YX P w H h)(e:H a=some (.ins C dx fs)):∃ mA,Vf h a dx C mA/\(∀ f,Ye (fs.lookup f) (mA f))/\PySem.Within mA (fs.map (·.1))/\fs.length<=1000/\H dx=some (.own a):=by
 obtain ⟨d,z,ne,ob,mA,n,r,q⟩:=(show Zf P w H h a (.ins C dx fs) from hok a _ e);exact ⟨mA,⟨ob,n,ne⟩,r,q,z,d⟩
end
structure UF(K:zAA)(C:Addr):Prop where
 pg:zBg K C Str.empty=true
 hd:zBS K C=true
 po:zCE K C=true
 sa:zAV K (.ref C) "__setattr__" = some (some (.builtin "object.__setattr__"))
theorem UF.get{K:zAA}{C:Addr}(c:UF K C)(f:Str):zBg K C f=true:=c.pg
def Z1(K:zAA)(C:Addr)(f:Str):Prop:=zAV K (.ref C) f=some none
theorem Z1.taker{K:zAA}{C:Addr}{f:Str}(n:Z1 K C f):zCm K C f=some none:=by
 unfold zCm;rw [show zAV K (.ref C) f=some none from n];rfl
structure QN(K:zAA)(C:Addr)(m:Str)(f:Addr):Prop where
 at_:zAV K (.ref C) m=some (some (.ref f))
 fn:zBj K (.ref f)=true
 kp:zAm K (.ref f)=true
section
variable{X:Cx}{pins:List (Addr×Obj)}{σ:St}{H:Hp}{s:Shared}{a C dx:Addr}{fs:List (Str×V)}{f:Str}{v:V}{A:Around}{E:ja}
theorem Hu{b:Bool}{Q:ja}(I:ZH X pins σ H s)(e:H a=some (.ins C dx fs))(c:UF X.K C)(n:Z1 X.K C f)(l:fs.lookup f=some v)(h:∀ u s',ZH X pins σ H s'->ZS v u->Q u s'):wpAny (model X.prog X.w) A (getAttr (.ref a) f b) Q E s:=by
 obtain ⟨mA,O,r,_,_,_⟩:=O3 I.hok e;obtain ⟨u,hu,ru⟩:=Ye.some_of (v:=v) (o:=mA f) (by rw [<-l];exact r f)
 exact Fo I.kIn O (c.get f) c.hd n hu (Kx ru) (h u _ (I.tok _) ru)
theorem BV{m:Str}{g:Addr}{pl:Sem Bool}{Q:Value×jd->Shared->Prop}(I:ZH X pins σ H s)(e:H a=some (.ins C dx fs))(c:UF X.K C)(k:QN X.K C m g)(l:fs.lookup m=none)(h:Q (.ref g,[.ref a]) s):wpAny (model X.prog X.w) A (getMethod (.ref a) m pl) Q E s:=by
 obtain ⟨mA,O,r,_,_,_⟩:=O3 I.hok e;have hn:mA m=none:=Ye.none_of (by rw [<-l];exact r m)
 exact AD I.kIn O (c.get m) k.at_ k.fn hn h
theorem Gm{y:V}{u:Value}{Q:Unit->Shared->Prop}(I:ZH X pins σ H s)(e:H a=some (.ins C dx fs))(c:UF X.K C)(n:Z1 X.K C f)(hl:fs.length<1000)(ry:ZS y u)(h:∀ s',ZH X pins σ (upd H a (.ins C dx (XB f y fs))) s'->Q () s'):wpAny (model X.prog X.w) A (setAttr (.ref a) f u) Q E s:=by
 obtain ⟨mA,O,r,wi,_,ho⟩:=O3 I.hok e;have hz:(fs.map (·.1)).length<=sizeLine:=by rw [zAD,sizeLine_eq];lia
 refine ZL5 I.kIn O c.sa c.po n.taker c.hd wi hz fun h' O' sb=>h _ ?_;have hd:∃ o,h'.get? dx=some o:=let ⟨o,_,_,e',_⟩:=O'.ns;⟨o,e'⟩;refine I.write (x:=a) (e:=dx) (by rw [e];exact True.intro) (.inr ho) (fun b q hb z=>(sb.2 b hb).trans z) hd ?_
 refine ⟨by rw [ZV O.ne];exact ho,?_,O.ne,O'.obj,_,O'.ns,fun g=>?_,fun g hg=>?_⟩
 ·have:=Hl f y fs;lia
 ·show Ye ((XB f y fs).lookup g) (if g=f then some u else mA g)
  rw [HH];by_cases q:g=f
  ·rw [if_pos q,if_pos q];exact ry
  ·rw [if_neg q,if_neg q];exact r g
 ·by_cases q:g=f
  ·rw [q];exact (M0 f y fs).1
  ·refine (M0 f y fs).2 g (wi g fun z=>hg ?_);show (if g=f then some u else mA g)=none
   rw [if_neg q];exact z
theorem ZH.made(I:ZH X pins σ H s):ZH X pins σ (upd (upd H s.heap.objs.size (.own (s.heap.objs.size+1))) (s.heap.objs.size+1) (.ins C s.heap.objs.size []))
  { s with heap:=(s.heap.push zBE).push (zBR C s.heap.objs.size) }:=by
 have e1:(s.heap.push zBE).get? s.heap.objs.size=some zBE:=zAU s.heap rfl;have e2:((s.heap.push zBE).push (zBR C s.heap.objs.size)).get? (s.heap.objs.size+1)=some (zBR C s.heap.objs.size):=by
  have:=zAU (s.heap.push zBE) (o:=zBR C s.heap.objs.size) rfl
  rwa [zDJ] at this
 have e3:(s.heap.push zBE).Ns s.heap.objs.size (fun _=>none):=⟨zBE,#[],_,e1,rfl,(fun e he=>absurd he (by simp)),fun _=>rfl⟩
 have I1:=I.laid (a:=s.heap.objs.size) (o:=.own (s.heap.objs.size+1)) (h':=s.heap.push zBE) (t':=s.toks) (fun b u q=>zAI _ q) (zAH _) ⟨_,e1⟩;refine I1.laid (a:=s.heap.objs.size+1) (o:=.ins C s.heap.objs.size []) (t':=s.toks) (fun b u q=>zAI _ q) (zCq (zDJ _ _)) ?_;have ne:s.heap.objs.size≠s.heap.objs.size+1:=zAl (zB7 _);refine ⟨by rw [ZV ne,ZO],zAk _,ne,e2,fun _=>none,(Heap.Ns1.of_empty e3).at fun o q=>zAI _ q,fun _=>True.intro,fun y hy=>absurd rfl hy⟩
theorem Hd{prog:Program}{w:World}{env:Env}{e:Expr}{f:Str}{pos:Pos}{s:Shared}{Q:ja}(hb:attributeBase e f env (eval e env)=eval e env)(h:wpAny (model prog w) A (eval e env) (fun o s₁=>wpAny (model prog w) A (getAttr o f true) Q E s₁) E s):wpAny (model prog w) A (eval (.Attribute e f pos) env) Q E s:=
 Attribute_any_ h (by rw [arm_eval_Attribute,hb])
end
def Aq(K:zAA)(ta:TE)(f:Str):TE:=fun σ H Q=>ta σ H fun x H1=>∃ a C dx fs v,x=.ref a/\H1 a=some (.ins C dx fs)/\UF K C/\Z1 K C f/\fs.lookup f=some v/\Q v H1
def Ff(K:zAA)(ta tv:TE)(f:Str):TS:=fun D σ H=>tv σ H fun y H1=>ta σ H1 fun x H2=>∃ a C dx fs,x=.ref a/\H2 a=some (.ins C dx fs)/\UF K C/\Z1 K C f/\fs.length<1000 /\
 D.nx σ (upd H2 a (.ins C dx (XB f y fs)))
def Ir(X:Cx)(op:Operator)(rd:V->V->Hp->VK->Prop):Prop:=
 ∀(pins:List (Addr×Obj))(s:Shared)(σ:St)(H:Hp)(x y:V)(u v:Value)(Q:VK),ZH X pins σ H s->ZS x u->ZS y v->rd x y H Q->wpAny (model X.prog X.w) X.A (inplaceOp op u v) (EP X pins σ Q) X.xe s
def Ah(K:zAA)(ta tv:TE)(rd:V->V->Hp->VK->Prop)(f:Str):TS:=fun D σ H=>ta σ H fun x H1=>∃ a C dx fs v,x=.ref a/\H1 a=some (.ins C dx fs)/\UF K C/\Z1 K C f/\fs.lookup f=some v /\
 tv σ H1 fun y H2=>rd v y H2 fun z H3=>∃ dx' fs',H3 a=some (.ins C dx' fs')/\fs'.length<1000/\D.nx σ (upd H3 a (.ins C dx' (XB f z fs')))
section
variable{X:Cx}{o e value:Expr}{f:Str}{pos pos' tpos:Pos}{ta tv:TE}
theorem VQ(he:PE X e ta)(hb:attributeBase e f X.env (eval e X.env)=eval e X.env):PE X (.Attribute e f pos) (Aq X.K ta f):=by
 intro pins s σ H Q I h;refine Hd hb (Zc (he pins s σ H _ I h) fun u s1 ⟨x,H1,I1,rx,a,C,dx,fs,v,ex,ea,c,n,l,q⟩=>?_);subst ex;obtain rfl:u=Value.ref a:=rx;exact Hu I1 ea c n l fun u' s2 I2 ru=>⟨v,H1,I2,ru,q⟩
theorem Qu(ha:PE X o ta)(hv:PE X value tv)(hs:swapsWith value (some (.Attribute o f pos')) pos.line X.env=pure false):PS X (.Assign [.Attribute o f pos'] value pos) (Ff X.K ta tv f):=by
 intro pins s σ H D I h;refine plainObj_wpAny_Assign_Attribute (Zc (hv pins s σ H _ I h) fun u s1 ⟨y,H1,I1,ry,q⟩=>Zc (ha pins s1 σ H1 _ I1 q) fun ov s2 ⟨x,H2,I2,rx,a,C,dx,fs,ex,ea,c,n,l,q2⟩=>?_) hs;subst ex;obtain rfl:ov=Value.ref a:=rx;exact Gm I2 ea c n l ry fun s3 I3=>⟨σ,_,I3,q2⟩
theorem JM{op:Operator}{rd:V->V->Hp->VK->Prop}(ha:PE X o ta)(hv:PE X value tv)(hop:Ir X op rd):PS X (.AugAssign (.Attribute o f tpos) op value pos) (Ah X.K ta tv rd f):=by
 intro pins s σ H D I h;refine wpAny_AugAssign_AttributeAny (Zc (ha pins s σ H _ I h) fun ov s1 ⟨x,H1,I1,rx,a,C,dx,fs,v,ex,ea,c,n,l,q⟩=>?_);subst ex;obtain rfl:ov=Value.ref a:=rx;refine Hu I1 ea c n l fun u s2 I2 ru=>Zc (hv pins s2 σ H1 _ I2 q) fun w3 s3 ⟨y,H2,I3,ry,q3⟩=>Zc (hop pins s3 σ H2 v y u w3 _ I3 ru ry q3) fun w4 s4 ⟨z,H3,I4,rz,dx',fs',ea',l',q4⟩=>?_;exact Gm I4 ea' c n l' rz fun s5 I5=>⟨σ,_,I5,q4⟩
def Ey:V->V->Hp->VK->Prop:=fun x y H Q=>∃ i j,x=.int i/\y=.int j/\Q (.int (i - j)) H
theorem GI:Ir X .Sub Ey:=by
 rintro pins s σ H x y u v Q I rx ry ⟨i,j,rfl,rfl,q⟩;obtain ⟨t,rfl⟩:=(show ∃ t,u=Value.int i t from rx);obtain ⟨t',rfl⟩:=(show ∃ t',v=Value.int j t' from ry);exact PyProof.Rows.isub_int ⟨.int (i - j),H,I.tok _,⟨_,rfl⟩,q⟩
end
section
variable{X:Cx}{pins:List (Addr×Obj)}{σ:St}{H:Hp}{s:Shared}{A:Around}{E:ja}{Q:ja}{c:Value}{b:Bool}
inductive Yy(K:zAA)(H:Hp):V->Value->Prop where
 | non:Yy K H .non (.type "NoneType")
 | bl (x:Bool):Yy K H (.bl x) (.type "bool")
 | int (i:Int):Yy K H (.int i) (.type "int")
 | str (x:Str):Yy K H (.str x) (.type "str")
 | flt (x:UInt64):Yy K H (.flt x) (.type "float")
 | lst {a:Addr} {xs:je} (e:H a=some (.lst xs)):Yy K H (.ref a) (.type "list")
 | frz {a:Addr} {o:Obj} {xs:je} (e:H a=some (.frz o (.lst xs))):Yy K H (.ref a) (.type "list")
 | tup {a:Addr} {xs:je} (e:H a=some (.tup xs)):Yy K H (.ref a) (.type "tuple")
 | dK {a:Addr} {kvs:List (Zd×V)} (e:H a=some (.dK kvs)):Yy K H (.ref a) (.type "dict")
 | dT {a:Addr} {kvs:List (List Zd×V)} (e:H a=some (.dT kvs)):Yy K H (.ref a) (.type "dict")
 | ins {a C dx:Addr} {fs:List (Str×V)} (e:H a=some (.ins C dx fs)) (cl:UF K C) (ha:zAV K (.ref C) "__class__" = some (some (.builtin "object.__class__")))
   (hn:PySem.W.specialIn K (.builtin "object.__class__") "__get__" = some (some (.builtin "getset_descriptor.__get__"))) (htk:PySem.W.takesIn K (.builtin "object.__class__")=some true)
   (hm:zAr K C (.type "object")=some true):Yy K H (.ref a) (.ref C)
theorem Ba{x:V}{u t:Value}(I:ZH X pins σ H s)(rx:ZS x u)(ty:Yy X.K H x t)(e:zAZ X.K t c=some b)(h:∀ tk,Q (.bool b) { s with toks:=tk }):
  wpAny (model X.prog X.w) A (call (.builtin "isinstance") [u,c]) Q E s:=by
 cases ty with
 | non=>cases (show u=Value.none from rx);exact zA6 PySem.W.kitx_none I.kIn True.intro e (fun z=>nomatch z) h
 | bl y=>cases (show u=Value.bool y from rx);exact zA6 PySem.W.kitx_bool I.kIn True.intro e (fun z=>nomatch z) h
 | int i=>obtain ⟨t,q⟩:=(show ∃ t,u=Value.int i t from rx);cases q;exact zA6 PySem.W.kitx_int I.kIn True.intro e (fun z=>nomatch z) h
 | str y=>obtain ⟨t,q⟩:=(show ∃ t,u=Value.str y t from rx);cases q;exact zA6 PySem.W.kitx_str I.kIn True.intro e (fun z=>nomatch z) h
 | flt y=>obtain ⟨t,q⟩:=(show ∃ t,u=Value.float y t from rx);cases q;exact zA6 PySem.W.kitx_float I.kIn True.intro e (fun z=>nomatch z) h
 | @lst a xs ea=>
  cases (show u=Value.ref a from rx);obtain ⟨_,_,n,_,h1⟩:=(show Zf X.prog X.w H s.heap a (.lst xs) from I.hok a _ ea);exact zA6 PySem.W.kitx_list I.kIn ⟨_,h1,rfl⟩ e (fun z=>nomatch z) h
 | @frz a ob xs ea=>
  cases (show u=Value.ref a from rx);obtain ⟨_,_,_,n,_,h1⟩:=(show Zf X.prog X.w H s.heap a (.frz ob (.lst xs)) from I.hok a _ ea);exact zA6 PySem.W.kitx_list I.kIn ⟨_,h1,rfl⟩ e (fun z=>nomatch z) h
 | @tup a xs ea=>
  cases (show u=Value.ref a from rx);obtain ⟨_,_,_,p⟩:=(show Zf X.prog X.w H s.heap a (.tup xs) from I.hok a _ ea);obtain ⟨o,h1,h2,_⟩:=p;exact zA6 PySem.W.kitx_tuple I.kIn ⟨o,h1,h2⟩ e (fun z=>nomatch z) h
 | @dK a kvs ea=>
  cases (show u=Value.ref a from rx);obtain ⟨_,_,vs,_,p⟩:=(show Zf X.prog X.w H s.heap a (.dK kvs) from I.hok a _ ea);obtain ⟨o,es,ep,h1,h2,_⟩:=p;exact zA6 PySem.W.kitx_dict I.kIn ⟨o,h1,h2.1⟩ e (fun z=>nomatch z) h
 | @dT a kvs ea=>
  cases (show u=Value.ref a from rx);obtain ⟨_,_,xs,_,o,es,ep,h1,h2,_⟩:=(show Zf X.prog X.w H s.heap a (.dT kvs) from I.hok a _ ea);exact zA6 PySem.W.kitx_dict I.kIn ⟨o,h1,h2.1⟩ e (fun z=>nomatch z) h
 | @ins a C dx fs ea cl ha hn htk hm=>
  cases (show u=Value.ref a from rx);obtain ⟨mA,O,_⟩:=O3 I.hok ea;obtain ⟨od,J,_⟩:=O.look;exact zA6 (PySem.W.kitx_own (cl.get _) cl.hd ha hn htk hm) I.kIn J e (fun z=>nomatch z) h
end
structure ZY(k:Nat)(A:Around):Prop where
 hd:A.handled=none
 dp:A.depth+3 * k+5<recursionLimit
 un:A.units+16 * k+200<cLine
theorem ZY.mono{j k:Nat}{A:Around}(r:ZY k A)(h:j<=k):ZY j A:=⟨r.hd,by have:=r.dp;lia,by have:=r.un;lia⟩
theorem ZY.deeper{k:Nat}{A:Around}(r:ZY (k+1) A)(env:Env):ZY k (A.deeper env):=
 ⟨r.hd,by have:=r.dp;show A.depth+1+3 * k+5<_;lia,by have:=r.un;show A.units+3+16 * k+200<_;lia⟩
theorem ZY.in1{k:Nat}{A:Around}(r:ZY (k+1) A):ZY k A.in1:=
 ⟨r.hd,by have:=r.dp;show A.depth+3 * k+5<_;lia,by have:=r.un;show A.units+1+16 * k+200<_;lia⟩
theorem Eg{A:Around}{C:Addr}{us:jd}{kw:List (Str×Value)}:(A.under (.builtin "type.__call__" ⟨.ref C :: us,kw⟩)).depth=A.depth+1:=by
 first | rfl | simp [Around.under,Code.weight,Code.isCreation,Code.isGuard,Code.isCaller,Code.frames,Code.isFrame,guardIds]
theorem Cn{A:Around}{C:Addr}{us:jd}{kw:List (Str×Value)}:(A.under (.builtin "type.__call__" ⟨.ref C :: us,kw⟩)).units=A.units+1:=by
 first | rfl | simp [Around.under,Code.cUnits,Code.frames,Code.isFrame]
theorem ZY.make{k:Nat}{A:Around}(r:ZY (k+1) A)(C:Addr)(us:jd)(kw:List (Str×Value)):ZY k (A.under (.builtin "type.__call__" ⟨.ref C :: us,kw⟩)):=
 ⟨r.hd,by have:=r.dp;rw [Eg];lia,by have:=r.un;rw [Cn];lia⟩
theorem ZY.depth{k:Nat}{A:Around}(r:ZY k A):A.depth<recursionLimit:=by have:=r.dp;lia
theorem ZY.units{k:Nat}{A:Around}(r:ZY k A):A.units+64<cLine:=by have:=r.un;lia
theorem ZY.units0{k:Nat}{A:Around}(r:ZY k A):A.units<cLine:=by have:=r.un;lia
def Vs:TA:=fun _ H Q=>Q [] H
def Yw(ta:TE)(tr:TA):TA:=fun σ H Q=>ta σ H fun x H1=>tr σ H1 fun xs H2=>Q (x :: xs) H2
section
variable{X:Cx}{e:Expr}{es:List Expr}{te:TE}{t:TA}{pos:Pos}
theorem ZG:PA X [] Vs:=fun _ _ _ _ H Q I h=>Calls.spliced_nil ⟨[],H,I,.nil,h⟩
theorem ZZ(ha:PE X e te)(hr:PA X es t)(hs:starEach (e :: es) X.env=(false,eval e X.env) :: starEach es X.env:=by rfl):PA X (e :: es) (Yw te t):=by
 intro pos pins s σ H Q I h;rw [hs];show wpAny _ _ (spliced ((false,eval e X.env) :: backTo pos (starEach es X.env))) _ _ s;refine Calls.spliced_cons (Zc (ha pins s σ H _ I h) fun u s1 ⟨x,H1,I1,r1,q1⟩=>?_);exact Zc (hr pos pins s1 σ H1 _ I1 q1) fun us s2 ⟨xs,H2,I2,r2,q2⟩=>⟨x :: xs,H2,I2,.cons r1 r2,q2⟩
def Ki(t:TA):TE:=fun σ H Q=>t σ H fun xs H1=>xs.length<=sizeLine/\∀ p,H1 p=none->Q (.ref p) (upd H1 p (.tup xs))
def HS(t:TA):TE:=fun σ H Q=>t σ H fun xs H1=>xs.length<=sizeLine/\∀ p,H1 p=none->Q (.ref p) (upd H1 p (.lst xs))
theorem Yq{x1}(h:PA X es t):PE X (.Tuple es x1 pos) (Ki t):=by
 intro pins s σ H Q I hq;refine wpAny_Tuple_spliced (Zc (h pos pins s σ H _ I hq) fun us s1 ⟨xs,H1,I1,r,z,q⟩=>⟨by rw [<-r.length];exact z,?_⟩)
 have hf:H1 s1.heap.objs.size=none:=I1.hok.fresh (zAH _);refine ⟨.ref s1.heap.objs.size,upd H1 s1.heap.objs.size (.tup xs),I1.laid (t':=s1.toks) (fun b u e=>zAI _ e) (zAH _) ?_,rfl,q _ hf⟩;exact ⟨z,us,r,⟨_,zAU _ rfl,rfl,_,rfl⟩⟩
theorem Yn(h:PA X es t):PE X (.List es pos) (HS t):=by
 intro pins s σ H Q I hq;refine wpAny_List_spliced (Zc (h pos pins s σ H _ I hq) fun us s1 ⟨xs,H1,I1,r,z,q⟩=>⟨by rw [<-r.length];exact z,?_⟩)
 have hf:H1 s1.heap.objs.size=none:=I1.hok.fresh (zAH _);refine ⟨.ref s1.heap.objs.size,upd H1 s1.heap.objs.size (.lst xs),I1.laid (t':=s1.toks) (fun b u e=>zAI _ e) (zAH _) ?_,rfl,q _ hf⟩;exact ⟨z,us,0,r,zAU _ rfl⟩
end
abbrev Sp:=je->Hp->VK->XK->Prop
abbrev VN:=List Env->Hp->Shared->XK->ja
structure We(P:Program)(w:World)(K:zAA)(mg:jb)(base:Heap)(A:Around)(outer:List Env)(s:Shared)(H:Hp):Prop where
 frames:A.frames=some outer
 mod:Mod K mg base
 bs:∀ b o,base.get? b=some o->s.heap.get? b=some o/\H b=none
 bsz:base.objs.size<=s.heap.objs.size
 funs:s.heap.FunFrames base outer
 frf:∀ b∈frs outer,H b=none
 hok:YX P w H s.heap
 bare:AllBare s.gens
def CE(outer:List Env)(P:Program)(w:World)(H:Hp)(s:Shared)(Q:VK)(u:Value)(s':Shared):Prop:=
 ∃ v H',s'.os=s.os/\AllBare s'.gens/\Un (frs outer) [] H H' s.heap s'.heap/\YX P w H' s'.heap/\ZS v u/\Q v H'
def CR(CX:VN)(outer:List Env)(P:Program)(w:World)(H:Hp)(s:Shared)(Q:VK)(E:XK)(r:Result)(s':Shared):Prop:=
 match r with
 | .ok (.ret u)=>CE outer P w H s Q u s'
 | .ok _=>False
 | .error e=>CX outer H s E e s'
structure ZK(P:Program)(w:World)(K:zAA)(mg:jb)(base:Heap)(CX:VN)(k:Nat)(f:Addr)(fd:FuncData)(ps:List Str)(sp:Sp):Prop where
 len:∀ vs H Q E,sp vs H Q E->vs.length=ps.length
 run:∀(A:Around)(outer:List Env)(s:Shared)(H:Hp)(args:Args)(us:jd)(vs:je)(Q:VK)(E:XK),ZY k A->We P w K mg base A outer s H->BindsTo s fd args (ps.zip us)->ZN vs us->sp vs H Q E ->
  codeAny (model P w) A (.call (.ref f) args) (CR CX outer P w H s Q E) s
theorem ZK.imp{P:Program}{w:World}{K:zAA}{mg:jb}{base:Heap}{CX:VN}{k:Nat}{f:Addr}{fd:FuncData}{ps:List Str}{sp sp':Sp}(F:ZK P w K mg base CX k f fd ps sp)(h:∀ vs H Q E,sp' vs H Q E->sp vs H Q E):ZK P w K mg base CX k f fd ps sp':=
 ⟨fun vs H Q E q=>F.len vs H Q E (h _ _ _ _ q),fun A outer s H args us vs Q E hr he hb hv hs=>F.run A outer s H args us vs Q E hr he hb hv (h _ _ _ _ hs)⟩
theorem We.make{P:Program}{w:World}{K:zAA}{mg:jb}{base:Heap}{A:Around}{outer:List Env}{s:Shared}{H:Hp}(e:We P w K mg base A outer s H)(C:Addr)(us:jd)(kw:List (Str×Value)):
  We P w K mg base (A.under (.builtin "type.__call__" ⟨.ref C :: us,kw⟩)) outer s H:=⟨by first | exact e.frames | (simpa [Around.under,Code.envs,Code.isFrame,pushEnvs] using e.frames),e.mod,e.bs,e.bsz,e.funs,e.frf,e.hok,e.bare⟩
section
variable{X:Cx}{pins:List (Addr×Obj)}{σ:St}{H:Hp}{s s':Shared}
theorem ZH.env0(I:ZH X pins σ H s):We X.prog X.w X.K X.mg X.base X.A X.stack s H:=
 ⟨I.ok.frames,I.ok.mod,I.bs,zAv I.ok.bsz I.sz,I.stack,I.stkFree,I.hok,I.bare⟩
theorem ZH.after{Q:VK}{u:Value}(I:ZH X pins σ H s)(h:CE X.stack X.prog X.w H s Q u s'):EP X pins σ Q u s':=by
 obtain ⟨v,H',os,bare,un,hok,r,q⟩:=h;obtain ⟨hh,g,d,t,os'⟩:=s';obtain rfl:os'=s.os:=os;exact ⟨v,H',I.call (h':=hh) (g':=g) (d':=d) (t':=t) (ch:=[]) un hok bare (fun b z=>absurd z (by simp)),r,q⟩
end
def OY(sp:Sp)(jH:je)(E:XK)(t:TA):TE:=fun σ H Q=>t σ H fun vs H1=>sp (vs++jH) H1 Q E
def Jl(C:Addr)(m:Str)(sp:Sp)(jH:je)(E:XK)(ta:TE)(t:TA):TE:=fun σ H Q=>ta σ H fun x H1=>∃ a dx fs,x=.ref a/\H1 a=some (.ins C dx fs)/\fs.lookup m=none /\
 t σ H1 fun vs H2=>sp (x :: (vs++jH)) H2 Q E
def Ng(C:Addr)(sp:Sp)(jH:je)(E:XK)(t:TA):TE:=fun σ H Q=>t σ H fun vs H1=>∀ x dx,H1 x=none->H1 dx=none->dx≠x ->
 sp (.ref x :: (vs++jH)) (upd (upd H1 dx (.own x)) x (.ins C dx [])) (fun v H2=>v=.non/\Q (.ref x) H2) E
def Zu(K:zAA)(fd:FuncData)(ps:List Str)(ds:jd):Prop:=
 ∀(s:Shared)(us:jd),K.In s.heap->(us++ds).length=ps.length->BindsTo s fd ⟨us,[]⟩ (ps.zip (us++ds))
theorem Zu.all{K:zAA}{fd:FuncData}{ps:List Str}(h:∀ us:jd,us.length=ps.length->bindArgs fd ⟨us,[]⟩=pure (ps.zip us)):Zu K fd ps []:=fun s us _ hl=>by
 rw [zAo] at hl ⊢;exact .of_eq (h us hl)
def U0(CX:VN)(X:Cx)(E:XK):Prop:=∀(pins:List (Addr×Obj))(σ:St)(H:Hp)(s:Shared)(e:Value)(s':Shared),ZH X pins σ H s->CX X.stack H s E e s'->X.xe e s'
section
variable{X:Cx}{CX:VN}{k:Nat}{f C:Addr}{fd:FuncData}{ps:List Str}{sp:Sp}{jH:je}{ds:jd}{E:XK}{x m:Str}{p pos jr:Pos}{e o:Expr}{es:List Expr}{ta:TE}{t:TA}
theorem Jv{pins:List (Addr×Obj)}{σ:St}{H:Hp}{s:Shared}{Q:VK}{us:jd}{vs:je}(F:ZK X.prog X.w X.K X.mg X.base CX k f fd ps sp)(hr:ZY k X.A)(hb:Zu X.K fd ps ds)(hd:ZN jH ds)(hx:U0 CX X E)(I:ZH X pins σ H s)(r:ZN vs us)(h:sp (vs++jH) H Q E):wpAny (model X.prog X.w) X.A (call (.ref f) us) (EP X pins σ Q) X.xe s:=by
 have r2:ZN (vs++jH) (us++ds):=r.append hd;have hl:(us++ds).length=ps.length:=by rw [<-r2.length];exact F.len _ _ _ _ h
 refine wpAny_call (codeAny_mono (F.run X.A X.stack s H ⟨us,[]⟩ (us++ds) (vs++jH) Q E hr I.env0 (hb s us I.kIn hl) r2 h) fun r s' hq=>?_)
 cases r with
 | error e=>exact hx pins σ H s e s' I hq
 | ok fl=>
  cases fl with
  | ret u=>exact I.after hq
  | next=>exact False.elim hq
  | brk=>exact False.elim hq
  | cont=>exact False.elim hq
theorem MT(F:ZK X.prog X.w X.K X.mg X.base CX k f fd ps sp)(hr:ZY k X.A)(hg:Gl X x)(hm:X.mg x=some (.ref f))(hk:zAm X.K (.ref f)=true)(hb:Zu X.K fd ps ds)(hd:ZN jH ds)(hx:U0 CX X E)(ha:PA X (e :: es) t)(jy:(x==("__debug__" : Str))=false:=by decide)(he:starEach (e :: es) X.env=(false,eval e X.env) :: starEach es X.env:=by rfl)(jv:(backTo pos (starEach es X.env)).any (·.1)=false:=by rfl):
  PE X (.Call (.Name x p) (e :: es) [] pos) (OY sp jH E t):=by
 intro pins s σ H Q I h;refine wpAny_Call_Name_kw (Qr I hg hm ?_ jy);refine zBs (h₀:=X.base) I.ok.mod.kin hk (Zc (ha pos pins s σ H _ I h) fun us s1 ⟨vs,H1,I1,r,q⟩=>⟨I1.kIn,?_⟩) he jv;exact Jv F hr hb hd hx I1 r q
theorem ZMk{pl:Sem Bool}(he:PE X o ta)(c:UF X.K C)(hm:QN X.K C m f)(F:ZK X.prog X.w X.K X.mg X.base CX k f fd ps sp)(hr:ZY k X.A)(hb:Zu X.K fd ps ds)(hd:ZN jH ds)(hx:U0 CX X E)(ha:PA X (e :: es) t)(hst:starEach (e :: es) X.env=(false,eval e X.env) :: starEach es X.env:=by rfl)(jv:(backTo pos (starEach es X.env)).any (·.1)=false:=by rfl)(ht:eval (.Call (.Attribute o m jr) (e :: es) [] pos) X.env=(do
   let ov<-eval o X.env
   standAt jr.atName
   let (f,first)<-holding [ov] (getMethod ov m pl)
   callWith pos f first (backTo pos (starEach (e :: es) X.env)) (backToKw pos (keywordEach [] X.env))):=by rfl):
  PE X (.Call (.Attribute o m jr) (e :: es) [] pos) (Jl C m sp jH E ta t):=by
 intro pins s σ H Q I h;refine PySem.W.methodCall_KW (pl:=pl) (Zc (he pins s σ H _ I h) fun u s1 ⟨x,H1,I1,rx,a,dx,fs,ex,ea,l,q⟩=>?_) ht;subst ex;obtain rfl:u=Value.ref a:=rx;refine BV I1 ea c hm l ?_;refine zBs (first:=[.ref a]) (h₀:=X.base) I.ok.mod.kin hm.kp (Zc (ha pos pins s1 σ H1 _ I1 q) fun us s2 ⟨vs,H2,I2,r,q2⟩=>⟨I2.kIn,?_⟩) hst jv
 exact Jv (us:=.ref a :: us) (vs:=.ref a :: vs) F hr hb hd hx I2 (.cons rfl r) q2
structure Mk(K:zAA)(C f:Addr):Prop where
 makes:zCO K C=true
 init:zAV K (.ref C) "__init__" = some (some (.ref f))
 fn:zBj K (.ref f)=true
 kp:zAm K (.ref C)=true
theorem GQ{pins:List (Addr×Obj)}{σ:St}{H:Hp}{s:Shared}{Q:VK}{us:jd}{vs:je}(M:Mk X.K C f)(F:ZK X.prog X.w X.K X.mg X.base CX k f fd ps sp)(hr:ZY (k+1) X.A)(hb:Zu X.K fd ps ds)(hd:ZN jH ds)(hx:U0 CX X E)(I:ZH X pins σ H s)(r:ZN vs us)(h:∀ x dx,H x=none->H dx=none->dx≠x->sp (.ref x :: (vs++jH)) (upd (upd H dx (.own x)) x (.ins C dx [])) (fun v H2=>v=.non/\Q (.ref x) H2) E):
  wpAny (model X.prog X.w) X.A (call (.ref C) us) (EP X pins σ Q) X.xe s:=by
 have hq:=h (s.heap.objs.size+1) s.heap.objs.size (I.hok.fresh (zCQ _)) (I.hok.fresh (zAH _)) (zAl (zB7 _));have I2:=ZH.made (C:=C) I;have r2:ZN (V.ref (s.heap.objs.size+1) :: (vs++jH)) (Value.ref (s.heap.objs.size+1) :: (us++ds)):=.cons rfl (r.append hd);have hl:(Value.ref (s.heap.objs.size+1) :: us++ds).length=ps.length:=by
  have e:=r2.length;rw [F.len _ _ _ _ hq] at e;exact e.symm
 refine wpAny_call (ZKh (f:=f) I.kIn M.makes M.init (beq_iff_eq.mp M.fn) (codeAny_mono (F.run _ X.stack _ _ ⟨Value.ref (s.heap.objs.size+1) :: us,[]⟩ (Value.ref (s.heap.objs.size+1) :: (us++ds)) _ _ E (hr.make C us [])
  (I2.env0.make C us []) (hb _ (Value.ref (s.heap.objs.size+1) :: us) I2.kIn hl) r2 hq) fun r s' hq'=>?_))
 cases r with
 | error e=>exact hx pins σ _ _ e s' I2 hq'
 | ok fl=>
  cases fl with
  | ret u=>
   obtain ⟨v,H',I3,rv,ev,q3⟩:=I2.after hq';subst ev;exact ⟨rv,⟨V.ref (s.heap.objs.size+1),H',I3,rfl,q3⟩⟩
  | next=>exact False.elim hq'
  | brk=>exact False.elim hq'
  | cont=>exact False.elim hq'
theorem AC(M:Mk X.K C f)(F:ZK X.prog X.w X.K X.mg X.base CX k f fd ps sp)(hr:ZY (k+1) X.A)(hg:Gl X x)(hm:X.mg x=some (.ref C))(hb:Zu X.K fd ps ds)(hd:ZN jH ds)(hx:U0 CX X E)(ha:PA X (e :: es) t)(jy:(x==("__debug__" : Str))=false:=by decide)(he:starEach (e :: es) X.env=(false,eval e X.env) :: starEach es X.env:=by rfl)(jv:(backTo pos (starEach es X.env)).any (·.1)=false:=by rfl):
  PE X (.Call (.Name x p) (e :: es) [] pos) (Ng C sp jH E t):=by
 intro pins s σ H Q I h;refine wpAny_Call_Name_kw (Qr I hg hm ?_ jy);refine zBs (h₀:=X.base) I.ok.mod.kin M.kp (Zc (ha pos pins s σ H _ I h) fun us s1 ⟨vs,H1,I1,r,q⟩=>⟨I1.kIn,?_⟩) he jv;exact GQ M F hr hb hd hx I1 r q
theorem ZJ7(M:Mk X.K C f)(F:ZK X.prog X.w X.K X.mg X.base CX k f fd ps sp)(hr:ZY (k+1) X.A)(hg:Gl X x)(hm:X.mg x=some (.ref C))(hb:Zu X.K fd ps ds)(hd:ZN jH ds)(hx:U0 CX X E)(jy:(x==("__debug__" : Str))=false:=by decide):PE X (.Call (.Name x p) [] [] pos) (Ng C sp jH E Vs):=by
 intro pins s σ H Q I h;refine wpAny_Call_Name_kw (Qr I hg hm ?_ jy);exact zDT I.kIn M.kp (GQ (us:=[]) M F hr hb hd hx I .nil h)
end
def PK(X:Cx)(kws:List Keyword)(t:TA):Prop:=
 ∀(pos:Pos)(pins:List (Addr×Obj))(s:Shared)(σ:St)(H:Hp)(Q:je->Hp->Prop),ZH X pins σ H s->t σ H Q->wpAny (model X.prog X.w) X.A (evalAll ((backToKw pos (keywordEach kws X.env)).map (·.2))) (AP X pins σ Q) X.xe s
section
variable{X:Cx}{CX:VN}{k:Nat}{f C:Addr}{fd:FuncData}{ps ks:List Str}{sp:Sp}{E:XK}{x m:Str}{p pos jr kpos:Pos}{e o:Expr}{es:List Expr}{kws:List Keyword}{te ta:TE}{t tk:TA}{nm:Option Str}
theorem IR:PK X [] Vs:=fun _ _ _ _ H Q I h=>wpAny_evalAll_nil ⟨[],H,I,.nil,h⟩
theorem HC(ha:PE X e te)(hr:PK X kws t):PK X (⟨nm,e,kpos⟩ :: kws) (Yw te t):=by
 intro pos pins s σ H Q I h;show wpAny _ _ (evalAll ((do let v<-eval e X.env;standAt pos;pure v) :: (backToKw pos (keywordEach kws X.env)).map (·.2))) _ _ s
 refine wpAny_evalAll_cons (wpAny_bind (Zc (ha pins s σ H _ I h) fun u s1 ⟨x,H1,I1,r1,q1⟩=>wpAny_bind (wpAny_standAt (wpAny_pure ?_))));exact Zc (hr pos pins s1 σ H1 _ I1 q1) fun us s2 ⟨xs,H2,I2,r2,q2⟩=>⟨x :: xs,H2,I2,.cons r1 r2,q2⟩
variable{g:jd->jd->jd}{gV:je->je->je}
end
structure ZC(N P:List Str)(sc:Scope):Prop where
 kind:sc.kind=.function
 co:sc.isCoroutine=false
 gen:sc.isGenerator=false
 nd:N.Nodup
 pre:N.take P.length=P
 par:∀ x∈P,sc.names.lookup x=some .local\/sc.names.lookup x=some .cell
 nofree:∀ y∈sc.names,y.2≠.free
theorem Zs{N P:List Str}{sc:Scope}(h1:sc.kind=.function:=by rfl)(h2:sc.isCoroutine=false:=by rfl)(h3:sc.isGenerator=false:=by rfl)(h4:N.Nodup:=by decide +kernel)(h5:N.take P.length=P:=by rfl)(h6:∀ x∈P,sc.names.lookup x=some .local\/sc.names.lookup x=some .cell:=by decide +kernel)(h7:∀ y∈sc.names,y.2≠.free:=by decide +kernel):ZC N P sc:=⟨h1,h2,h3,h4,h5,h6,h7⟩
theorem GE{kindOf:Str->Option NameKind}{x:Str}:∀{binds:List (Str×Value)}{m:jb},(∀ v,(x,v)∉binds)->bindL kindOf binds m x=m x
 | [],_,_=>rfl
 | (n,v) :: r,m,h=>by
  unfold bindL;rw [GE fun w hw=>h w (zAL _ hw)];split
  ·have:x≠n:=by rintro rfl;exact h v zAQ
   simp [this]
  ·rfl
theorem Hg{kindOf:Str->Option NameKind}{x:Str}:∀{binds:List (Str×Value)}{m:jb},(∀ v,(x,v)∉binds)->bindC kindOf binds m x=m x
 | [],_,_=>rfl
 | (n,v) :: r,m,h=>by
  unfold bindC;rw [Hg fun w hw=>h w (zAL _ hw)];split
  ·rfl
  ·have:x≠n:=by rintro rfl;exact h v zAQ
   simp [this]
theorem Ih{kindOf:Str->Option NameKind}{x:Str}{v:Value}:∀{P:List Str}{vs:jd}{i:Nat}{m:jb},P.Nodup->P[i]? = some x->vs[i]? = some v->kindOf x=some .local ->
  bindL kindOf (P.zip vs) m x=some v
 | [],_,_,_,_,h,_,_=>by simp at h
 | _ :: _,[],_,_,_,_,h,_=>by simp at h
 | p :: P,w :: vs,0,m,nd,h1,h2,hk=>by
  simp at h1 h2;subst h1;subst h2;show bindL kindOf ((p,w) :: P.zip vs) m p=_;unfold bindL;rw [GE fun v hv=>(zBU.mp nd).1 (zCU hv).1,if_pos hk];simp
 | p :: P,w :: vs,i+1,m,nd,h1,h2,hk=>by
  show bindL kindOf ((p,w) :: P.zip vs) m x=_;unfold bindL;exact Ih (i:=i) (zBU.mp nd).2 (by simpa using h1) (by simpa using h2) hk
theorem IK{kindOf:Str->Option NameKind}{x:Str}{v:Value}:∀{P:List Str}{vs:jd}{i:Nat}{m:jb},P.Nodup->P[i]? = some x->vs[i]? = some v->kindOf x≠some .local ->
  bindC kindOf (P.zip vs) m x=some v
 | [],_,_,_,_,h,_,_=>by simp at h
 | _ :: _,[],_,_,_,_,h,_=>by simp at h
 | p :: P,w :: vs,0,m,nd,h1,h2,hk=>by
  simp at h1 h2;subst h1;subst h2;show bindC kindOf ((p,w) :: P.zip vs) m p=_;unfold bindC;rw [Hg fun v hv=>(zBU.mp nd).1 (zCU hv).1,if_neg hk];simp
 | p :: P,w :: vs,i+1,m,nd,h1,h2,hk=>by
  show bindC kindOf ((p,w) :: P.zip vs) m x=_;unfold bindC;exact IK (i:=i) (zBU.mp nd).2 (by simpa using h1) (by simpa using h2) hk
def UD(N:List Str)(vs:je):St:=vs.map some++zBa (N.length - vs.length) none
def WB(CX:VN)(P:Program)(w:World)(K:zAA)(mg:jb)(base:Heap)(N:List Str)(qual:Str)(scope:Scope)(f:Addr)(cd:Value)(A:Around)(outer:List Env)(s:Shared)(H:Hp)(E:XK):Cx where
 prog:=P
 w:=w
 K:=K
 mg:=mg
 base:=base
 A:=A.deeper (envOfC qual scope s.heap.objs.size f cd)
 N:=N
 s₀:=s
 H₀:=H
 env:=envOfC qual scope s.heap.objs.size f cd
 outer:=outer
 stack:=envOfC qual scope s.heap.objs.size f cd :: outer
 ex:=[]
 calm:=true
 fn:=fun _=>true
 pn:=[]
 xe:=fun e s'=>wpAny (model P w) (A.deeper (envOfC qual scope s.heap.objs.size f cd)) (leaving (envOfC qual scope s.heap.objs.size f cd) e) (fun _ s''=>CX outer H s E e s'') (fun e' s''=>CX outer H s E e' s'') s'
theorem HX{sc:Scope}{n:Nat}{x:Str}(h:sc.names.lookup x=some .cell):∃ c,(cellsFrom n sc.names []).lookup x=some c:=by
 have q:=zCK sc.names n [] (.inl h);exact zBn.mp q
theorem Kk{CX:VN}{P:Program}{w:World}{K:zAA}{mg:jb}{base:Heap}{N ps:List Str}{qual:Str}{scope:Scope}{f:Addr}{cd:Value}{A:Around}{outer:List Env}{s s1:Shared}{H:Hp}{E:XK}{us:jd}{vs:je}(S:ZC N ps scope)(hd:A.handled=none)(e0:We P w K mg base A outer s H)(hl:vs.length=ps.length)(r:ZN vs us)(x:InCallC s s.heap.objs.size (bindL (envOfC qual scope s.heap.objs.size f cd).kindOf (ps.zip us) fun _=>none) (cellsFrom (s.heap.objs.size+1) scope.names []) (bindC (envOfC qual scope s.heap.objs.size f cd).kindOf (ps.zip us) fun _=>none) s1):
  ZH (WB CX P w K mg base N qual scope f cd A outer s H E) [] (UD N vs) H s1:=by
 have jv:ps.length<=N.length:=by have:=congrArg zCB S.pre;rw [zBQ] at this;lia
 obtain ⟨h1,tk,rfl,hk⟩:=x.done;have noA:∀ b:Addr,b∉(WB CX P w K mg base N qual scope f cd A outer s H E).ex:=fun b z=>absurd (show b∈([]:List Addr) from z) (by simp)
 refine ⟨⟨e0.mod,S.kind,rfl,rfl,zAH _,fun y z c h1 h2=>?_,fun y hy=>?_,fun y c _ h=>?_,fun _=>hd,Around.frames_deeper e0.frames,.inr ⟨rfl,rfl⟩,fun b z=>absurd z (noA b),e0.bs,e0.bsz,fun b _ _=>noA b,fun b z=>absurd z (noA b),e0.funs,e0.frf⟩,
  rfl,e0.bare,Un.kept hk,⟨_,x.toInCall.ns,fun i y v h1 h2 h3=>?_⟩,fun y c h=>⟨_,x.cell y c h⟩,e0.hok.fresh (zAH _),fun y c h=>?_,fun p hp=>absurd (show p∈([]:List (Addr×Obj)) from hp) (by simp),e0.hok.kept hk,?_⟩
 ·exact name_of_addr x.apart (PySem.mem_of_lookup h1) (PySem.mem_of_lookup h2)
 ·have hy:scope.names.lookup y=some .cell\/scope.names.lookup y=some .free:=hy;rcases hy with hy | hy
  ·exact HX hy
  ·exact absurd rfl (S.nofree _ (PySem.mem_of_lookup hy))
 ·exact zBJ (x.above y c (PySem.mem_of_lookup h))
 ·have hi:i<vs.length:=by
   unfold UD at h2;by_cases hi:i<vs.length
   ·exact hi
   ·rw [zAh (by simpa using hi)] at h2
    rw [List.getElem?_replicate] at h2;split at h2 <;> cases h2
  have ha:vs[i]? = some v:=by
   unfold UD at h2;rw [zAw (by simpa using hi),zAN] at h2
   cases e:vs[i]? with
   | none=>rw [e] at h2;cases h2
   | some a=>rw [e] at h2;cases h2;rfl
  obtain ⟨u,hu,rv⟩:=r.get ha;have hp:ps[i]? = some y:=by
   rw [<-S.pre,List.getElem?_take_of_lt (by lia)];exact h1
  have ndP:ps.Nodup:=by rw [<-S.pre];exact S.nd.sublist (List.take_sublist _ _)
  refine ⟨u,rv,?_⟩;rcases S.par y (zAJ hp) with k | k
  ·exact .inl ⟨k,Ih ndP hp hu k⟩
  ·obtain ⟨c,e⟩:=HX (n:=s.heap.objs.size+1) k;refine .inr ⟨.inl k,c,e,?_⟩;have q:=x.cell y c e;rw [IK ndP hp hu (by show scope.names.lookup y≠_;rw [k];decide)] at q
   exact q
 ·exact e0.hok.fresh (zBJ (x.above y c (PySem.mem_of_lookup h)))
 ·unfold UD;show _=N.length;rw [zAG,zAD,List.length_replicate]
  lia
theorem Mq{CX:VN}{P:Program}{w:World}{K:zAA}{mg:jb}{base:Heap}{k:Nat}{f:Addr}{name qual:Str}{params:Arguments}{body:List Stmt}{scope:Scope}{dV kV doc pm cdv ct oc:Value}{an od:Option Addr}{jI:Array (jc)}{N ps:List Str}{sp:Sp}(lk:K.lookup f=some ⟨oc,od,.func (zA3 name qual params body scope dV kV doc pm an cdv ct),jI⟩)(jD:zBL K cdv qual=true)(S:ZC N ps scope)(len:∀ vs H Q E,sp vs H Q E->vs.length=ps.length)(jt:∀ (A:Around) (outer:List Env) (s:Shared) (H:Hp) (vs:je) (Q:VK) (E:XK),ZY k (A.deeper (envOfC qual scope s.heap.objs.size f cdv))->sp vs H Q E ->
   ∃ t,X5 (WB CX P w K mg base N qual scope f cdv A outer s H E) body t/\t { nx:=fun _ H'=>Q .non H',rt:=Q } (UD N vs) H):
  ZK P w K mg base CX (k+1) f (zA3 name qual params body scope dV kV doc pm an cdv ct) ps sp:=by
 refine ⟨len,fun A outer s H args us vs Q E hr e0 hb r jE=>?_⟩;have hl:=len _ _ _ _ jE;have KX:K.In s.heap:=e0.mod.kin.keeps fun b o e=>(e0.bs b o e).1;have lim:s.heap.NoLimit:=e0.mod.nolimit.keeps fun b o e=>(e0.bs b o e).1;have jB:∀ y∈ps.zip us,scope.names.lookup y.1=some .local\/(scope.names.lookup y.1=some .cell/\((cellsFrom (s.heap.objs.size+1) scope.names []).lookup y.1).isSome=true):=fun ⟨n,v⟩ hy=>by
  rcases S.par n (zCU hy).1 with q | q
  ·exact .inl q
  ·exact .inr ⟨q,zCK _ _ _ (.inl q)⟩
 refine codeAny_call_function hr.depth (KX _ _ lk) rfl S.co S.gen rfl (PySem.W.codeRec_of KX jD) (hb _ _ _ _ ?_);refine wpAny_newFunctionEnv_cells S.kind jB fun env he s1 x=>?_;subst he;refine ⟨lim.keeps x.toInCall.keep,codeAny_func ?_⟩;obtain ⟨t,ht,hq⟩:=jt A outer s H vs Q E (hr.deeper _) jE;have I:ZH (WB CX P w K mg base N qual scope f cdv A outer s H E) [] (UD N vs) H s1:=Kk S hr.hd e0 hl r x;refine wpAny_mono (ht [] s1 (UD N vs) H _ I hq) (fun fl s' hs=>?_) fun e s' hs=>hs;have fin:∀{σ':St}{H':Hp}{v:V}{u:Value},ZH (WB CX P w K mg base N qual scope f cdv A outer s H E) [] σ' H' s'->ZS v u->Q v H'->CE outer P w H s Q u s':=
  fun{σ' H' v u} J rv q=>⟨v,H',J.os,J.bare,J.base,J.hok,rv,q⟩
 cases fl with
 | ret u=>
  obtain ⟨v,σ',H',J,rv,q⟩:=hs;exact fin J rv q
 | next=>
  obtain ⟨σ',H',J,q⟩:=hs;exact fin (v:=V.non) (u:=Value.none) J rfl q
 | brk=>
  obtain ⟨_,_,_,q⟩:=hs;exact False.elim q
 | cont=>
  obtain ⟨_,_,_,q⟩:=hs;exact False.elim q
section
variable{X:Cx}{x:Str}{p pos:Pos}{e:Expr}{es:List Expr}{t:TA}{id T:String}{r:je->Hp->VK->Prop}
def Jo(r:je->Hp->VK->Prop)(t:TA):TE:=fun σ H Q=>t σ H fun vs H1=>r vs H1 Q
theorem Zy(hc:VX X (.builtin id) r)(hg:Gl X x)(hm:X.mg x=none)(hv:bootBuiltins x=some (.builtin id))(ha:PA X (e :: es) t)(hn:x ≠ "__name__" :=by decide)(jy:(x==("__debug__" : Str))=false:=by decide)(he:starEach (e :: es) X.env=(false,eval e X.env) :: starEach es X.env:=by rfl)(jv:(backTo pos (starEach es X.env)).any (·.1)=false:=by rfl):PE X (.Call (.Name x p) (e :: es) [] pos) (Jo r t):=by
 intro pins s σ H Q I h;refine wpAny_Call_Name_kw (Qy I hg hm hv ?_ hn jy);exact PyProof.Rows.callWith_builtin1 (Zc (ha pos pins s σ H _ I h) fun us s1 ⟨vs,H1,I1,r1,q1⟩=>hc pins s1 σ H1 vs us Q I1 r1 q1) he jv
theorem VP(hc:VX X (.type T) r)(hg:Gl X x)(hm:X.mg x=none)(hv:bootBuiltins x=some (.type T))(ha:PA X (e :: es) t)(hn:x ≠ "__name__" :=by decide)(jy:(x==("__debug__" : Str))=false:=by decide)(he:starEach (e :: es) X.env=(false,eval e X.env) :: starEach es X.env:=by rfl)(jv:(backTo pos (starEach es X.env)).any (·.1)=false:=by rfl):PE X (.Call (.Name x p) (e :: es) [] pos) (Jo r t):=by
 intro pins s σ H Q I h;refine wpAny_Call_Name_kw (Qy I hg hm hv ?_ hn jy);exact PyProof.Rows.callWith_type1 (Zc (ha pos pins s σ H _ I h) fun us s1 ⟨vs,H1,I1,r1,q1⟩=>hc pins s1 σ H1 vs us Q I1 r1 q1) he jv
end
end L2
namespace HT
open PySem PyProof.Rows
theorem rcLt_int(A:Around)(s:Shared)(a:Int)(t:Tok)(c:Int)(u:Tok)(prog:Program)(w:World)(E:ja)(Q:ja)(h:Q (.bool (decide (a<c))) s):
  wpAny (model prog w) A (richCompare .Lt (.int a t) (.int c u)) Q E s:=
 (PyProof.Rows.lt_int h:wpAny (model prog w) A (compareOp .Lt (.int a t) (.int c u)) Q E s)
section
open PySem.SeqAt
open PySem.AutoSeq1 (wpAny_loadPart')
open PySem.MeetsSeq PySem.MeetsSeq2 PySem.MeetsSeq3
end
section
variable{prog:Program}{w:World}{A:Around}{E:ja}{s:Shared}
def sIx(n d:Nat):Option Int->Nat
 | none=>d
 | some v=>if v<0 then (v+(n:Int)).toNat else min v.toNat n
theorem sIx_none(n d:Nat):sIx n d none=d:=rfl
theorem sIx_nat(n d k:Nat):sIx n d (some (k:Int))=min k n:=by
 show (if (k:Int)<0 then ((k:Int)+(n:Int)).toNat else min (k:Int).toNat n)=min k n
 rw [if_neg (by lia),zCL]
end
end HT
namespace L2
open PySem PySem.Spec PyProof.Rows
abbrev TO:=St->Hp->(Option Int->Hp->Prop)->Prop
def PO(X:Cx)(e:Option Expr)(t:TO):Prop:=
 ∀(pins:List (Addr×Obj))(s:Shared)(σ:St)(H:Hp)(Q:Option Int->Hp->Prop),ZH X pins σ H s->t σ H Q ->
  wpAny (model X.prog X.w) X.A (evalPart e X.env) (fun u s'=>∃ o H',ZH X pins σ H' s'/\IsPart u o/\Q o H') X.xe s
def G1:TO:=fun _ H Q=>Q none H
def Et(t:TE):TO:=fun σ H Q=>t σ H fun x H1=>∃ i,x=.int i/\Q (some i) H1
theorem AX{ns:List Int}:∀{us:jd},ZN (ns.map V.int) us->IntsAre us ns:=by
 induction ns with
 | nil=>intro us r;rw [zBu] at r;cases r;exact .nil
 | cons n ns ih=>
  intro us r;rw [zAa] at r
  cases r with
  | cons r1 r2=>
   obtain ⟨t,e⟩:=r1;subst e;exact .cons n t (ih r2)
section
variable{X:Cx}{e:Expr}{te:TE}{lo hi:Option Expr}{tl th:TO}{pos p2:Pos}
theorem Em:PO X none G1:=by
 intro pins s σ H Q I h;rw [evalPart_none];exact wpAny_pure ⟨none,H,I,.none,h⟩
theorem Li(h:PE X e te):PO X (some e) (Et te):=by
 intro pins s σ H Q I hw;rw [evalPart_some];refine Zc (h pins s σ H _ I hw) fun u s1 ⟨x,H1,I1,r1,q1⟩=>?_;obtain ⟨i,rfl,q⟩:=q1;obtain ⟨t,rfl⟩:=r1;exact ⟨some i,H1,I1,.int i t,q⟩
def Hy(X:Cx)(r:V->Option Int->Option Int->Hp->VK->Prop):Prop:=
 ∀(pins:List (Addr×Obj))(s:Shared)(σ:St)(H:Hp)(x:V)(v vl vu:Value)(lo hi:Option Int)(sl:Addr)(Q:VK),ZH X pins σ H s->ZS x v->s.heap.IsSliceOf sl vl vu .none->IsPart vl lo->IsPart vu hi->r x lo hi H Q ->
  ∃ T id,typeLookup (.type T) "__getitem__" = pure (some (.builtin id))/\s.TypeIs v T/\wpAny (model X.prog X.w) X.A (getItem v (.ref sl)) (EP X pins σ Q) X.xe s
def B8(r:V->Option Int->Option Int->Hp->VK->Prop)(te:TE)(tl th:TO):TE:=fun σ H Q=>te σ H fun x H1=>tl σ H1 fun l H2=>th σ H2 fun u H3=>r x l u H3 Q
theorem Kv{r:V->Option Int->Option Int->Hp->VK->Prop}(hr:Hy X r)(he:PE X e te)(hl:PO X lo tl)(hu:PO X hi th):PE X (.Subscript e (.Slice lo hi none p2) pos) (B8 r te tl th):=by
 intro pins s σ H Q I h;refine Subscript_ (Zc (he pins s σ H _ I h) fun v s1 ⟨x,H1,I1,r1,q1⟩=>?_);refine wpAny_Slice (Zc (hl pins s1 σ H1 _ I1 q1) fun vl s2 ⟨l,H2,I2,pl,q2⟩=>Zc (hu pins s2 σ H2 _ I2 q2) fun vu s3 ⟨u,H3,I3,pu,q3⟩=>?_);rw [evalPart_none];refine wpAny_pure ?_;have I4:ZH X pins σ H3 { s3 with heap:=s3.heap.push { cls:=.type "slice",data:=.fields #[vl,vu,.none] } }:=I3.kept (t':=s3.toks) fun b ob q=>zAI _ q;obtain ⟨T,id,hT,ht,hg⟩:=hr pins { s3 with heap:=s3.heap.push { cls:=.type "slice",data:=.fields #[vl,vu,.none] } } σ H3 x v vl vu l u s3.heap.objs.size Q I4 r1 (Heap.IsSliceOf.new ..) pl pu q3;show wpAny (model X.prog X.w) X.A (subscriptTail e (.Slice lo hi none p2) v (.ref s3.heap.objs.size)) (EP X pins σ Q) X.xe { s3 with heap:=s3.heap.push { cls:=.type "slice",data:=.fields #[vl,vu,.none] } };exact tail_any (ops:=[.ref s3.heap.objs.size,v]) ht hT hg (by with_unfolding_all rfl)
def Qt(xs:je)(lo hi:Option Int):je:=(xs.drop (HT.sIx xs.length 0 lo)).take (HT.sIx xs.length xs.length hi - HT.sIx xs.length 0 lo)
theorem ZF8(xs:je)(lo hi:Option Int):(Qt xs lo hi).length<=xs.length:=by
 unfold Qt;rw [zBQ,zCu]
 lia
end
def QJ(n:Nat)(i:Int):Option Nat:=if 0<=i then (if i<n then some i.toNat else none) else if -(n:Int)<=i then some (i+n).toNat else none
def Xq{α:Type}(xs:List α)(i:Int):Option α:=(QJ xs.length i).bind fun j=>xs[j]?
theorem Hi{n:Nat}{i:Int}{j:Nat}(h:QJ n i=some j):seqIndex? i n=some j/\j<n /\ -(n:Int)<=i/\i<n:=by
 unfold QJ at h;by_cases h0:0<=i
 ·rw [if_pos h0] at h;by_cases h1:i<n
  ·rw [if_pos h1] at h;have e:i.toNat=j:=zAj.inj h;exact ⟨by rw [seqIndex_of h0 h1,e],by lia,by lia,h1⟩
  ·rw [if_neg h1] at h;cases h
 ·rw [if_neg h0] at h;by_cases h1 : -(n:Int)<=i
  ·rw [if_pos h1] at h;have e:(i+n).toNat=j:=zAj.inj h;exact ⟨by rw [seqIndex_neg (by lia) h1,e],by lia,h1,by lia⟩
  ·rw [if_neg h1] at h;cases h
theorem Lc{α:Type}{xs:List α}{i:Int}{v:α}(h:Xq xs i=some v):∃ j,seqIndex? i xs.length=some j/\xs[j]? = some v/\j<xs.length /\ -(xs.length:Int)<=i/\i<xs.length:=by
 unfold Xq at h
 cases e:QJ xs.length i with
 | none=>rw [e] at h;cases h
 | some j=>
  rw [e] at h;obtain ⟨h1,h2,h3,h4⟩:=Hi e;exact ⟨j,h1,h,h2,h3,h4⟩
theorem Yz{α:Type}{xs:List α}{j:Nat}{v:α}(h:xs[j]? = some v):Xq xs (j:Int)=some v:=by
 have hj:j<xs.length:=(zAK.mp h).1;have e:QJ xs.length (j:Int)=some j:=by
  unfold QJ;rw [if_pos (by lia),if_pos (by lia)];simp
 unfold Xq;rw [e];exact h
theorem GC{α:Type}(xs:List α)(v:α):Xq (xs++[v]) (-1)=some v:=by
 have hl:(xs++[v]).length=xs.length+1:=by simp
 have e:QJ (xs++[v]).length (-1)=some xs.length:=by
  unfold QJ;rw [hl,if_neg (by decide),if_pos (by lia)]
  congr 1
  lia
 unfold Xq;rw [e];show (xs++[v])[xs.length]? = some v;simp
def Ex(b:Expr):Prop:=∀ o i,subscripted b false o i=operate [o,i] (getItem o i)
def QP(X:Cx)(r:R2):Prop:=
 ∀(value slice:Expr)(pins:List (Addr×Obj))(s:Shared)(σ:St)(H:Hp)(x y:V)(v u:Value)(Q:VK),ZH X pins σ H s->ZS x v->ZS y u->r x y H Q ->
  subscripted slice false v u=operate [v,u] (getItem v u)->wpAny (model X.prog X.w) X.A (subscriptTail value slice v u) (EP X pins σ Q) X.xe s
def IX(X:Cx)(id:String)(r:V->je->Hp->VK->Prop):Prop:=
 ∀(pins:List (Addr×Obj))(s:Shared)(σ:St)(H:Hp)(x:V)(xs:je)(v:Value)(us:jd)(Q:VK),ZH X pins σ H s->ZS x v->ZN xs us->r x xs H Q ->
  wpAny (model X.prog X.w) X.A (call (.builtin id) (v :: us)) (EP X pins σ Q) X.xe s
section
variable{X:Cx}{a b:Expr}{ta tb:TE}{pos:Pos}
theorem QP.or{r r':R2}(h:QP X r)(h':QP X r'):QP X (fun x y H Q=>r x y H Q\/r' x y H Q):=by
 intro value slice pins s σ H x y v u Q I rx ry q hs;rcases q with q | q
 ·exact h value slice pins s σ H x y v u Q I rx ry q hs
 ·exact h' value slice pins s σ H x y v u Q I rx ry q hs
theorem Zl{r:R2}(hr:QP X r)(ha:PE X a ta)(hb:PE X b tb)(hs:Ex b):PE X (.Subscript a b pos) (Pd r ta tb):=by
 intro pins s σ H Q I h;exact Subscript_ (Ka ha hb I h fun v u s2 x y H2 I2 rx ry q=>hr a b pins s2 σ H2 x y v u Q I2 rx ry q (hs _ _))
def Ic(K:zAA):R2:=fun x y H Q=>∃ p xs i v,x=.ref p/\y=.int i/\ZL K H p xs/\Xq xs i=some v/\Q v H
def Xe(K:zAA):R2:=fun x y H Q=>∃ p xs i v,x=.ref p/\y=.int i/\Zn K H p xs/\Xq xs i=some v/\Q v H
def Gj:R2:=fun x y H Q=>∃ z i c,x=.str z/\y=.int i/\z.length<=sizeLine/\Xq z.cps.toList i=some c/\Q (.str ⟨#[c]⟩) H
theorem Zq:QP X (Ic X.K):=by
 intro value slice pins s σ H x y v u Q I rx ry h hs;obtain ⟨p,xs,i,z,rfl,rfl,hq,he,q⟩:=h;cases rx;obtain ⟨t,rfl⟩:=ry;obtain ⟨ji,r,pl,hz⟩:=I.list hq;obtain ⟨j,h1,h2,h3,h4,h5⟩:=Lc he;obtain ⟨w,ew,rw'⟩:=r.get h2;have hl:=r.length;have hn:=Pq;have fin:EP X pins σ Q w s:=⟨z,H,I,rw',q⟩;by_cases h0:0<=i
 ·have hj:i.toNat=j:=by
   rw [seqIndex_of h0 h5] at h1;exact zAj.inj h1
  exact item_listR pl.isList h0 (by lia) (by rw [hj];simpa using ew) fin hs
 ·have hj:(i+(ji.toArray.size:Int)).toNat=j:=by
   rw [seqIndex_neg (by lia) h4] at h1
   rw [zAM,<-hl];exact zAj.inj h1
  exact subscriptTail_builtinR (x:=w) pl.isList.typeIs slot_list_getitem.lookup
   (wpAny_getItem_list_neg (Q:=fun r s'=>r=w/\EP X pins σ Q r s') pl.isList (by lia) (by rw [zAM] <;> lia) (by lia) (by rw [hj];simpa using ew) ⟨rfl,fin⟩) hs
theorem Zi:QP X (Xe X.K):=by
 intro value slice pins s σ H x y v u Q I rx ry h hs;obtain ⟨p,xs,i,z,rfl,rfl,hq,he,q⟩:=h;cases rx;obtain ⟨t,rfl⟩:=ry;obtain ⟨ji,r,pl,hz⟩:=I.tuple hq;obtain ⟨j,h1,h2,h3,h4,h5⟩:=Lc he;obtain ⟨w,ew,rw'⟩:=r.get h2;have hl:=r.length;have hn:=Pq;have fin:EP X pins σ Q w s:=⟨z,H,I,rw',q⟩;exact subscriptTail_builtinR (x:=w) pl.typeIs slot_tuple_getitem.lookup
  (getItem_tuple (j:=j) (Q:=fun r s'=>r=w/\EP X pins σ Q r s') pl (by lia) (by lia) (by rw [zAM,<-hl];exact h1) (by simpa using ew) ⟨rfl,fin⟩) hs
theorem Il:QP X Gj:=by
 intro value slice pins s σ H x y v u Q I rx ry h hs;obtain ⟨z,i,c,rfl,rfl,hz,he,q⟩:=h;obtain ⟨t,rfl⟩:=rx;obtain ⟨t',rfl⟩:=ry;obtain ⟨j,h1,h2,h3,h4,h5⟩:=Lc he;have hl:z.cps.toList.length=z.length:=by simp [Str.length]
 rw [hl] at h1 h4 h5;have hn:=Pq;exact tail_any (typeIs_str s z t) slot_str_getitem.lookup (getItem_str (c:=c) (by
  have e1:decide (i < -(2 ^ 63:Int))=false:=decide_eq_false (by lia)
  have e2:decide (i ≥ 2 ^ 63)=false:=decide_eq_false (by lia)
  rw [e1,e2,Bool.or_false]) (by rw [h1];simpa using h2) ⟨.str ⟨#[c]⟩,H,I.tok _,⟨_,rfl⟩,q⟩) hs
def YB(K:zAA):R2:=fun x y H Q=>Ic K x y H Q\/Xe K x y H Q\/Gj x y H Q
theorem YD:QP X (YB X.K):=Zq.or (Zi.or Il)
theorem C2(ji:jd)(n j:Nat)(u:Value):Obj.mapSeq (·.setIfInBounds j u) { cls:=.type "list",data:=.seq ji.toArray n }={ cls:=.type "list",data:=.seq (ji.set j u).toArray n }:=by
 simp [Obj.mapSeq]
theorem ZH.lst{pins:List (Addr×Obj)}{σ:St}{H:Hp}{s:Shared}{p:Addr}{xs:je}(I:ZH X pins σ H s)(h:H p=some (.lst xs)):
  ∃(ji:jd)(n:Nat),ZN xs ji/\s.heap.get? p=some { cls:=.type "list",data:=.seq ji.toArray n }/\xs.length<=sizeLine:=by
 obtain ⟨z,ji,n,r,e⟩:=I.hok p _ h;exact ⟨ji,n,r,e,z⟩
theorem ZH.lstUpd{pins:List (Addr×Obj)}{σ:St}{H:Hp}{s:Shared}{p:Addr}{xs ys:je}{ji its':jd}{n n':Nat}{f:Obj->Obj}(I:ZH X pins σ H s)(h:H p=some (.lst xs))(ho:s.heap.get? p=some { cls:=.type "list",data:=.seq ji.toArray n })(hf:f { cls:=.type "list",data:=.seq ji.toArray n }={ cls:=.type "list",data:=.seq its'.toArray n' })(r:ZN ys its')(hz:ys.length<=sizeLine)(t:Nat):
  ZH X pins σ (upd H p (.lst ys)) { s with heap:=s.heap.update p f,toks:=t }:=by
 have e:(s.heap.update p f).get? p=some { cls:=.type "list",data:=.seq its'.toArray n' }:=by
  rw [zBH f ho (by rw [hf] <;> rfl),hf]
 refine I.write (x:=p) (e:=p) (by rw [h];trivial) (.inl rfl) (fun b u hb q=>(zBF _ _ (Ne.symm hb)).trans q) ⟨_,e⟩ ?_
 exact ⟨hz,its',n',r,e⟩
def Dc:V->V->V->Hp->(Hp->Prop)->Prop:=fun o i v H Q=>∃ p xs k j,o=.ref p/\i=.int k/\H p=some (.lst xs)/\QJ xs.length k=some j/\Q (upd H p (.lst (xs.set j v)))
theorem LO:Jn X Dc:=by
 intro pins s σ H o i v ov iv u Q I ro ri rv h;obtain ⟨p,xs,k,j,rfl,rfl,hp,hj,q⟩:=h;cases ro;obtain ⟨t,rfl⟩:=ri;obtain ⟨ji,n,r,ho,hz⟩:=I.lst hp;obtain ⟨h1,h2,h3,h4⟩:=Hi hj;have hl:=r.length;have hn:=Pq;have I':ZH X pins σ (upd H p (.lst (xs.set j v))) { s with heap:=s.heap.update p (Obj.mapSeq (·.setIfInBounds j u)) }:=
  I.lstUpd hp ho (C2 ji n j u) (r.set rv j) (by rw [List.length_set];exact hz) s.toks
 by_cases h0:0<=k
 ·have hk:k.toNat=j:=by
   rw [seqIndex_of h0 h4] at h1;exact zAj.inj h1
  exact PySem.W.ki_setAt ho h0 (by lia) (by rw [zAM,<-hl];exact h4) (by rw [hk];exact ⟨_,I',q⟩)
 ·have hk:(k+(ji.toArray.size:Int)).toNat=j:=by
   rw [seqIndex_neg (by lia) h3] at h1
   rw [zAM,<-hl];exact zAj.inj h1
  exact PySem.W.ki_setBack ho (by lia) (by rw [zAM,<-hl];exact h3) (by lia) (by rw [hk];exact ⟨_,I',q⟩)
theorem ZE1(lo hi:Option Int)(n:Nat):(sliceBounds lo hi none n).1=((HT.sIx n 0 lo:Nat):Int)/\(sliceBounds lo hi none n).2.1=((HT.sIx n n hi:Nat):Int)/\(sliceBounds lo hi none n).2.2=1:=by
 refine ⟨?_,?_,rfl⟩
 ·cases lo with
  | none=>simp [sliceBounds,HT.sIx]
  | some i=>
   simp only [sliceBounds,HT.sIx,Option.getD_none,show (1:Int) > 0 by decide,if_true]
   by_cases h:i<0
   ·simp only [h,if_true] <;> lia
   ·simp only [h,if_false] <;> lia
 ·cases hi with
  | none=>simp [sliceBounds,HT.sIx]
  | some i=>
   simp only [sliceBounds,HT.sIx,Option.getD_none,show (1:Int) > 0 by decide,if_true]
   by_cases h:i<0
   ·simp only [h,if_true] <;> lia
   ·simp only [h,if_false] <;> lia
theorem E5(ji:jd)(lo hi:Option Int):slicePick ji.toArray lo hi none=((ji.drop (HT.sIx ji.length 0 lo)).take (HT.sIx ji.length ji.length hi - HT.sIx ji.length 0 lo)).toArray:=by
 obtain ⟨h1,h2,h3⟩:=ZE1 lo hi ji.toArray.size;unfold slicePick;rw [h1,h2,h3];simp only [sliceRange_one,pick_run,zAM] <;> rfl
def BF(K:zAA):V->Option Int->Option Int->Hp->VK->Prop:=fun x lo hi H Q=>∃ a xs,x=.ref a/\ZL K H a xs/\∀ p,H p=none->Q (.ref p) (upd H p (.lst (Qt xs lo hi)))
theorem Hz:Hy X (BF X.K):=by
 intro pins s σ H x v vl vu lo hi sl Q I rx hs pl pu h;obtain ⟨a,xs,rfl,hx,q⟩:=h;cases rx;obtain ⟨ji,r,ht,hz⟩:=I.list hx;have hlen:=r.length;refine ⟨"list",_,slot_list_getitem.lookup,ht.isList.typeIs,?_⟩;refine wpAny_getItem_list_slice ht.isList hs pl pu .none (by simp) ?_ (by rw [zAM] <;> lia)
 rw [E5,<-hlen];refine ⟨.ref s.heap.objs.size,_,I.laid (t':=s.toks) (o:=.lst (Qt xs lo hi)) (fun b ob q=>zAI _ q) (zAH _) ?_,rfl,q _ (I.hok.fresh (zAH _))⟩;exact ⟨zAv (ZF8 xs lo hi) hz,_,0,(r.drop (HT.sIx xs.length 0 lo)).take (HT.sIx xs.length xs.length hi - HT.sIx xs.length 0 lo),zAU _ rfl⟩
theorem Xh:VX X (.builtin "len") (fun xs H Q=>∃ p ys,xs=[.ref p]/\(ZL X.K H p ys\/Zn X.K H p ys)/\Q (.int ys.length) H):=by
 intro pins s σ H xs us Q I r h;obtain ⟨p,ys,rfl,hq,q⟩:=h;obtain ⟨u,rfl,rx⟩:=Va r;cases rx;have hn:=Pq;rcases hq with hq | hq
 ·obtain ⟨ji,r',pl,hz⟩:=I.list hq;have hlen:=r'.length;exact Calls.call_len_list pl.isList (by simp only [zAM] <;> lia) ⟨.int ys.length,H,I.tok _,⟨s.toks+1,by rw [zAM,hlen]⟩,q⟩
 ·obtain ⟨ji,r',pl,hz⟩:=I.tuple hq;have hlen:=r'.length;exact len_tuple pl (by simp only [zAM] <;> lia) ⟨.int ys.length,H,I.tok _,⟨s.toks+1,by rw [zAM,hlen]⟩,q⟩
theorem Gr:VX X (.builtin "len") (fun xs H Q=>∃ z,xs=[.str z]/\z.length<=sizeLine/\Q (.int z.length) H):=by
 intro pins s σ H xs us Q I r h;obtain ⟨z,rfl,hz,q⟩:=h;obtain ⟨u,rfl,t,rfl⟩:=Va r;have hn:=Pq;exact len_str (by lia) ⟨.int z.length,H,I.tok _,⟨_,rfl⟩,q⟩
theorem PD:VX X (.type "list") (fun xs H Q=>∃ p ys,xs=[.ref p]/\(ZL X.K H p ys\/Zn X.K H p ys)/\∀ l,H l=none->Q (.ref l) (upd H l (.lst ys))):=by
 intro pins s σ H xs us Q I r h;obtain ⟨p,ys,rfl,hq,q⟩:=h;obtain ⟨u,rfl,rx⟩:=Va r;cases rx;have fin:∀(ji:jd),ZN ys ji->ys.length<=sizeLine->∀(h':Heap)(c':Nat),(∀ b o',s.heap.get? b=some o'->h'.get? b=some o') ->
   h'.get? s.heap.objs.size=some { cls:=.type "list",dict:=none,data:=.seq ji.toArray c',slots:=#[] }->EP X pins σ Q (.ref s.heap.objs.size) { s with heap:=h' }:=fun ji r' hz h' c' kp e=>
  ⟨.ref s.heap.objs.size,_,I.laid (t':=s.toks) kp (zAH _) (show Zf X.prog X.w _ h' _ (.lst ys) from ⟨hz,ji,c',r',e⟩),rfl,q _ (I.hok.fresh (zAH _))⟩
 rcases hq with hq | hq
 ·obtain ⟨ji,r',pl,hz⟩:=I.list hq;have hlen:=r'.length;obtain ⟨o,ho,hc,n,hd⟩:=pl.isList;exact call_list_seq p (.inl rfl) ho hc hd (fun h' c' kp e=>fin ji r' hz h' c' kp e) (by simp only [zAM] <;> lia)
 ·obtain ⟨ji,r',pl,hz⟩:=I.tuple hq;have hlen:=r'.length;obtain ⟨o,ho,hc,n,hd⟩:=pl;exact call_list_seq p (.inr rfl) ho hc hd (fun h' c' kp e=>fin ji r' hz h' c' kp e) (by simp only [zAM] <;> lia)
theorem NM:VX X (.type "tuple") (fun xs H Q=>∃ p ys,xs=[.ref p]/\((ZL X.K H p ys/\∀ l,H l=none->Q (.ref l) (upd H l (.tup ys)))\/(Zn X.K H p ys/\Q (.ref p) H))):=by
 intro pins s σ H xs us Q I r h;obtain ⟨p,ys,rfl,h⟩:=h;obtain ⟨u,rfl,rx⟩:=Va r;cases rx;rcases h with ⟨hq,q⟩ | ⟨hq,q⟩
 ·obtain ⟨ji,r',pl,hz⟩:=I.list hq;have hlen:=r'.length;refine call_tuple_list pl.isList (fun h' kp=>?_) (by simp only [zAM] <;> lia)
  have I1:ZH X pins σ H { s with heap:=h' }:=I.kept (t':=s.toks) kp;have I2:ZH X pins σ (upd H h'.objs.size (.tup ys)) { s with heap:=h'.push { cls:=.type "tuple",data:=.seq ji.toArray } }:=
   I1.laid (t':=s.toks) (fun b o e=>zAI _ e) (zAH _) (show Zf X.prog X.w _ _ _ (.tup ys) from ⟨hz,ji,r',IsTup.new _ _⟩)
  exact ⟨.ref h'.objs.size,_,I2,rfl,q _ (I1.hok.fresh (zAH _))⟩
 ·obtain ⟨ji,r',pl,hz⟩:=I.tuple hq;exact call_tuple_same pl ⟨.ref p,H,I,rfl,q⟩
def M4(K:zAA)(T:String)(x:V)(H:Hp):Prop:=match x with
 | .str _=>T = "str"
 | .int _=>T = "int"
 | .ref p=>(T = "list" /\ ∃ xs,ZL K H p xs)\/(T = "tuple" /\ ∃ o,K.lookup p=some o/\o.cls=.type "tuple" /\ o.dict=none) \/
   (T = "dict" /\ ((∃ kvs,H p=some (.dK kvs))\/∃ kvs,H p=some (.dT kvs)))\/(T = "set" /\ ∃ S n,H p=some (.set S n))
 | _=>False
theorem JN{pins:List (Addr×Obj)}{σ:St}{H:Hp}{s:Shared}{T:String}{x:V}{v:Value}(I:ZH X pins σ H s)(r:ZS x v)(ty:M4 X.K T x H):
  s.TypeIs v T/\∀ a,v=.ref a->∃ ob,s.heap.get? a=some ob/\ob.dict=none:=by
 cases x with
 | str z=>
  obtain ⟨t,rfl⟩:=r;cases (show T = "str" from ty);exact ⟨typeIs_str s z t,fun _ e=>nomatch e⟩
 | int i=>
  obtain ⟨t,rfl⟩:=r;cases (show T = "int" from ty);exact ⟨typeIs_int s i t,fun _ e=>nomatch e⟩
 | ref p=>
  cases r;rcases ty with ⟨rfl,xs,hq⟩ | ⟨rfl,o,hk,hc,hd⟩ | ⟨rfl,hk⟩ | ⟨rfl,S,n,hk⟩
  ·obtain ⟨ji,_,pl,_⟩:=I.list hq;refine ⟨pl.isList.typeIs,fun a e=>?_⟩;cases e;obtain ⟨o,n,e,c,hd,_⟩:=pl;exact ⟨o,e,hd⟩
  ·refine ⟨⟨o,I.kIn p o hk,hc⟩,fun a e=>?_⟩;cases e;exact ⟨o,I.kIn _ o hk,hd⟩
  ·have z:∃ o,s.heap.get? p=some o/\o.ExactDict:=by
    rcases hk with ⟨kvs,hk⟩ | ⟨kvs,hk⟩
    ·obtain ⟨_,_,_,_,o,_,_,e,ex,_⟩:=I.hok p _ hk;exact ⟨o,e,ex⟩
    ·obtain ⟨_,_,_,_,o,_,_,e,ex,_⟩:=I.hok p _ hk;exact ⟨o,e,ex⟩
   obtain ⟨o,e,ex⟩:=z;refine ⟨⟨o,e,ex.1⟩,fun a e2=>?_⟩;cases e2;exact ⟨o,e,ex.2.1⟩
  ·obtain ⟨o,_,_,_,e,ex,_⟩:=I.hok p _ hk;refine ⟨⟨o,e,ex.1⟩,fun a e2=>?_⟩;cases e2;exact ⟨o,e,ex.2.1⟩
 | _=>exact False.elim ty
def Gu(K:zAA)(T:String)(r:V->je->Hp->VK->Prop)(to:TE):TE:=fun σ H Q=>to σ H fun x H1=>M4 K T x H1/\r x [] H1 Q
def Cs(K:zAA)(T:String)(r:V->je->Hp->VK->Prop)(to:TE)(t:TA):TE:=fun σ H Q=>to σ H fun x H1=>M4 K T x H1/\t σ H1 fun xs H2=>r x xs H2 Q
variable{o e:Expr}{es:List Expr}{to:TE}{t:TA}{name:Str}{jr jj:Pos}{T id:String}{r:V->je->Hp->VK->Prop}
theorem BD(pa:PlainAttrs T)(slot:Slot T name id)(hty:typeOf (.builtin id)=pure (.type "method_descriptor"))(hm:IX X id r)(ho:PE X o to)(jU:attributeBase o name X.env (eval o X.env)=eval o X.env:=by rfl)(jT:(jr.endLine==jj.line)=true:=by rfl):PE X (.Call (.Attribute o name jr) [] [] jj) (Gu X.K T r to):=by
 intro pins s σ H Q I h;refine wpAny_Call_method0_late jU jT (Zc (ho pins s σ H _ I h) fun v s1 ⟨x,H1,I1,r1,ty,q1⟩=>?_);obtain ⟨h1,h2⟩:=JN I1 r1 ty;exact ⟨T,id,pa,slot,hty,h1,h2,Calls.callWith_builtin rfl (PySem.evalArgs_none (hm pins s1 σ H1 x [] v [] Q I1 r1 .nil q1))⟩
theorem QB(pa:PlainAttrs T)(slot:Slot T name id)(hty:typeOf (.builtin id)=pure (.type "method_descriptor"))(hm:IX X id r)(ho:PE X o to)(ha:PA X (e :: es) t)(jU:attributeBase o name X.env (eval o X.env)=eval o X.env:=by rfl)(hfew:((backTo jj (starEach (e :: es) X.env)).all (fun x=>!x.1)&&(backToKw jj (keywordEach [] X.env)).all (fun x=>x.1.isSome)
   && decide ((e :: es).length+([]:List Keyword).length+(if ([]:List Keyword).isEmpty then 0 else 1)<30))=true:=by rfl)(jT:(jr.endLine==jj.line)=true:=by rfl)(hs:starEach (e :: es) X.env=(false,eval e X.env) :: starEach es X.env:=by rfl)(jF:(backTo jj (starEach es X.env)).any (·.1)=false:=by rfl):
  PE X (.Call (.Attribute o name jr) (e :: es) [] jj) (Cs X.K T r to t):=by
 intro pins s σ H Q I h;refine wpAny_Call_method_late jU hfew jT rfl (Zc (ho pins s σ H _ I h) fun v s1 ⟨x,H1,I1,r1,ty,q1⟩=>?_);obtain ⟨h1,h2⟩:=JN I1 r1 ty;refine ⟨T,id,pa,slot,hty,h1,h2,?_⟩;have hA:=ha jj pins s1 σ H1 _ I1 q1;rw [hs] at hA ⊢;refine Calls.callWith_builtin (by show (false || (backTo jj (starEach es X.env)).any (·.1))=false;rw [jF] <;> rfl) (Calls.evalArgs_plain ?_)
 exact Zc hA fun us s2 ⟨vs,H2,I2,r2,q2⟩=>hm pins s2 σ H2 x vs v us Q I2 r1 r2 q2
end
def M2(X:Cx)(id:String)(r:V->je->Hp->VK->Prop):Prop:=
 ∀(pins:List (Addr×Obj))(s:Shared)(σ:St)(H:Hp)(x:V)(xs:je)(v:Value)(us:jd)(Q:VK),ZH X pins σ H s->ZS x v->ZN xs us->r x xs H Q ->
  wpAny (model X.prog X.w) X.A (call (.builtin id) (v :: us)) (EP X pins σ Q) X.xe s
theorem ZN.one:∀{x:V}{us:jd},ZN [x] us->∃ u,us=[u]/\ZS x u
 | _,_,.cons r .nil=>⟨_,rfl,r⟩
theorem ZN.zero:∀{us:jd},ZN [] us->us=[]
 | _,.nil=>rfl
theorem ZN.dropLast{xs:je}{us:jd}(h:ZN xs us):ZN xs.dropLast us.dropLast:=by
 induction h with
 | nil=>exact .nil
 | cons r t ih=>
  cases t with
  | nil=>exact .nil
  | cons q t'=>exact .cons r ih
theorem Cp{α:Type}(l:List α):l.eraseIdx (l.length - 1)=l.dropLast:=by
 induction l with
 | nil=>rfl
 | cons a r ih=>
  cases r with
  | nil=>rfl
  | cons b r=>
   have e:(a :: b :: r).length - 1=((b :: r).length - 1)+1:=by
    have h1:(a :: b :: r).length=r.length+2:=rfl;have h2:(b :: r).length=r.length+1:=rfl
    lia
   rw [e,List.eraseIdx_cons_succ,ih]
   all_goals rfl
section
variable{X:Cx}{pins:List (Addr×Obj)}{σ:St}{H:Hp}{s:Shared}{l b:Addr}{xs ys zs:je}
theorem ZH.lset{ji its':jd}{n:Nat}{f:Array Value->Array Value}{t':Nat}(I:ZH X pins σ H s)(hH:H l=some (.lst xs))(e:s.heap.get? l=some { cls:=.type "list",data:=.seq ji.toArray n })(hf:f ji.toArray=its'.toArray)(hv:ZN ys its')(hz:ys.length<=sizeLine):
  ZH X pins σ (upd H l (.lst ys)) { s with heap:=s.heap.update l (Obj.mapSeq f),toks:=t' }:=by
 have q:=PySem.IsL.update e f;rw [hf] at q;refine I.write (x:=l) (e:=l) (by rw [hH];exact trivial) (.inl rfl) (fun b' u hb hu=>(zBF s.heap (Obj.mapSeq f) (Ne.symm hb)).trans hu) ⟨_,q⟩ ?_
 exact ⟨hz,its',_,hv,q⟩
theorem ZH.lnew{ji:jd}{t':Nat}(I:ZH X pins σ H s)(hv:ZN ys ji)(hz:ys.length<=sizeLine):
  ZH X pins σ (upd H s.heap.objs.size (.lst ys)) { s with heap:=s.heap.push { cls:=.type "list",data:=.seq ji.toArray },toks:=t' }:=
 I.laid (fun _ _ q=>zAI _ q) (zAH _) ⟨hz,ji,0,hv,zAU _ rfl⟩
theorem ZH.fresh(I:ZH X pins σ H s):H s.heap.objs.size=none:=I.hok.fresh (zAH _)
theorem ZH.lstM(I:ZH X pins σ H s)(hH:H l=some (.lst xs)):xs.length<=sizeLine/\∃(ji:jd)(n:Nat),ZN xs ji/\xs.length=ji.length/\s.heap.get? l=some { cls:=.type "list",data:=.seq ji.toArray n }:=by
 obtain ⟨z,ji,n,r,e⟩:=I.hok l _ hH;exact ⟨z,ji,n,r,r.length,e⟩
theorem AK{n:Nat}(h:n<=sizeLine):Builtin.List.listTooLong n=false:=by
 unfold Builtin.List.listTooLong;exact decide_eq_false (by lia)
end
section
variable{X:Cx}
def Al:V->je->Hp->VK->Prop:=fun x vs H Q=>∃ l xs y,x=.ref l/\vs=[y]/\H l=some (.lst xs)/\xs.length<sizeLine/\Q .non (upd H l (.lst (xs++[y])))
theorem QL:M2 X "list.append" Al:=by
 intro pins s σ H x vs v us Q I rx rv h;obtain ⟨l,xs,y,rfl,rfl,hH,hz,q⟩:=h;cases rx;obtain ⟨u,rfl,ru⟩:=rv.one;obtain ⟨z,ji,n,r,hl,e⟩:=I.lstM hH;refine call_meets F.slot_list_append ⟨_,e,rfl⟩ F.entry_list_append (F.args_list_append_2 _ _) (PySem.list_append l ji.toArray n u (by rw [zAM];lia)) ⟨e,?_⟩
 refine ⟨.non,_,I.lset (its':=ji++[u]) hH e (by simp) (r.append (.cons ru .nil)) ?_,rfl,q⟩
 rw [zAG,zB3]
 lia
def FR:V->je->Hp->VK->Prop:=fun x vs H Q=>∃ l xs y,x=.ref l/\vs=[]/\H l=some (.lst xs)/\xs[xs.length - 1]? = some y/\Q y (upd H l (.lst xs.dropLast))
theorem Fd:M2 X "list.pop" FR:=by
 intro pins s σ H x vs v us Q I rx rv h;obtain ⟨l,xs,y,rfl,rfl,hH,hy,q⟩:=h;cases rx;have hus:=rv.zero;subst hus;obtain ⟨z,ji,n,r,hl,e⟩:=I.lstM hH;obtain ⟨u,hu,ru⟩:=r.get hy;have hy':ji.toArray[ji.toArray.size - 1]? = some u:=by
  show ji.toArray[ji.length - 1]? = some u;rw [<-zA5,<-hl];exact hu
 refine call_meets F.slot_list_pop ⟨_,e,rfl⟩ F.entry_list_pop (F.args_list_pop_1 _) (MeetsSeq.list_pop_last l ji.toArray n u hy' (by rw [zAM];lia)) ⟨e,?_⟩
 refine ⟨y,_,I.lset (its':=ji.dropLast) hH e ?_ r.dropLast ?_,ru,q⟩
 ·show ji.toArray.eraseIdxIfInBounds (ji.toArray.size - 1)=ji.dropLast.toArray;rw [zAM,List.eraseIdxIfInBounds_toArray,Cp]
 ·rw [List.length_dropLast]
  lia
def HG:R2:=fun x y H Q=>∃ l b xs zs,x=.ref l/\y=.ref b/\H l=some (.lst xs)/\H b=some (.lst zs)/\xs.length+zs.length<=sizeLine/\∀ p,H p=none->Q (.ref p) (upd H p (.lst (xs++zs)))
theorem O8:Yp X (binaryOp .Add) HG:=by
 intro pins s σ H x y v u Q I rx ry h;obtain ⟨l,b,xs,zs,rfl,rfl,hH,hB,hz,q⟩:=h;cases rx;cases ry;obtain ⟨z,ji,n,r,hl,e⟩:=I.lstM hH;obtain ⟨z2,jn,n2,r2,hl2,e2⟩:=I.lstM hB;refine PySem.P.add_list e e2 ?_ (by rw [zAM,zAM];lia)
 have ea:ji.toArray++jn.toArray=(ji++jn).toArray:=by simp
 rw [ea];exact ⟨.ref _,_,I.lnew (t':=s.toks) (r.append r2) (by rw [zAG];lia),rfl,q _ I.fresh⟩
end
section
variable{prog:Program}{w:World}{A:Around}{E:ja}{s:Shared}
set_option maxRecDepth 100000 in
end
section
variable{X:Cx}
end
end L2
namespace Att
open PySem PySem.W PySem.Calls PyProof.Rows
theorem ZC6{P:Params}{h:Heap}:∀(ns:List Int)(vs:jd),WellAll P h vs (ns.map WData.int)->IntsAre vs ns:=by
 intro ns
 induction ns with
 | nil=>
  intro vs w;rw [zBu] at w;cases w;exact .nil
 | cons n ns ih=>
  intro vs w;rw [zAa] at w
  cases w with
  | cons a b=>
   cases a;exact .cons _ _ (ih _ b)
theorem Az{l:OpenLaw}{n:Nat}(hn:l.most=some n){P:Params}{h:Heap}{args:List WData}{vals:jd}(hpre:l.row.toRowW.claim.pre args=true)(hwl:WellAll P h vals args):
  ∃ a vs ns,vals=[Value.ref a]/\args=[WData.list (ns.map WData.int)]/\h.get? a=some { cls:=.type "list",data:=.seq vs.toArray }/\IntsAre vs ns/\ns.length<=n:=by
 have hsh:WShape.hasAll [] args [.list .int]=true:=(pre_splitW hpre).1;have hc:l.pre.holds [] { args:=args }=true:=(pre_splitW hpre).2;obtain ⟨d,r,rfl,h1,h2⟩:=hasAllW_cons hsh;obtain rfl:=hasAllW_nil h2;obtain ⟨xs,rfl,h3⟩:=hasW_list h1;obtain ⟨ns,rfl⟩:=items_int h3;have hlen:ns.length<=n:=by
  unfold OpenLaw.pre at hc;have h4:(WTm.not (.lt (.lit (.int (n:Int))) (.len (.arg 0)))).holds [] { args:=[.list (ns.map .int)] }=true:=by
   have h4:=(holds_andW hc).1;rw [hn] at h4;exact h4
  have h5:=condW_of h4 (w_not (w_lt w_lit (w_len_list (w_arg rfl))));rw [zAD] at h5;refine zC3 fun q=>?_;have q':(n:Int)<((ns.length:Nat):Int):=by lia
  first
   | (rw [decide_eq_true q'] at h5;exact absurd h5 (by decide))
   | (simp at h5;lia)
 cases hwl with
 | cons w1 w2=>
  cases w2
  cases w1 with
  | list ho hall=>exact ⟨_,_,ns,rfl,rfl,ho,ZC6 ns _ hall,hlen⟩
theorem Ft(l:OpenLaw)(args:List WData):l.row.toRowW.claim.post args (.bool true) args=true:=
 postW_of (r:=l.row.toRowW) (X:=(true==true))
  (show WShape.has [] (.bool true) .bool=true by first | rfl | decide | simp [WShape.has,WShape.arms,WShape.armsAll])
  (show (WTm.eq .res (.lit (.bool true))).value [] { args:=args,res:=some (.bool true),after:=args }=some (.bool (true==true)) from w_eq_bool (w_res rfl) w_lit) rfl
theorem attach_call{l:OpenLaw}{n:Nat}{q:Program}{loose:List Str}{XP:(jb)->Heap->Prop}{YP:World->Heap->Prop}{d:DefRec}(hn:l.most=some n)(hdf:d.params.defaults=[])(call:∀ (w:World) (s₀ s₁:Shared) (mg mb:jb) (fa:Addr) (o:Obj) (pm cd doc:Value) (a:Addr) (vs:jd) (ns:List Int),
   Ground q loose [] XP w s₀ mg mb s₁.heap->YP w s₁.heap ->
   s₁.heap.get? fa=some o->o.data=.func (docDef d.name d.params d.body d.scope pm cd doc)->s₁.heap.CodeRec cd d.name->mg d.name=some (.ref fa) ->
   s₁.heap.get? a=some { cls:=.type "list",data:=.seq vs.toArray }->IntsAre vs ns->ns.length<=n->s₁.gens=#[] ->
   codeAny (model l.prog w) callerA (.call (.ref fa) ⟨[.ref a],[]⟩) (fun r s'=>r=.ok (.ret (.bool true))/\OldK s₁.heap s'.heap/\s'.os=s₁.os/\AllBare s'.gens) s₁):
  WalkO q loose XP YP l.row.toRowW d [] (fun f vs=>PySem.call f vs):=by
 intro w s₀ s₁ mg mb G Y fa o pm cd doc dV kV ho hd jD hD hmg hg args vals as hpre hlay hrd hwl hlo;obtain rfl:dV=.none:=Dflts.none hD hdf;obtain rfl:kV=.none:=Dflts.noKw hD;obtain ⟨a,vs,ns,rfl,rfl,hobj,hints,hlen⟩:=Az hn hpre hwl;refine enter_call (codeAny_mono (call w s₀ s₁ mg mb fa o pm cd doc a vs ns G Y ho (fd_plain hd) jD hmg hobj hints hlen hg) fun r s' hq=>?_);obtain ⟨rfl,h2,h3,h4⟩:=hq;exact ⟨.inl ⟨.bool true,.bool true,[],rfl,fun _=>rfl,.bool true,Ft l _,fun _=>⟨zDR.nil,fun _ hm=>(nomatch hm)⟩⟩,h2,h3,h4⟩
section
variable{prog:Program}{w:World}{A:Around}{E:ja}{s:Shared}{K:Frag}
def ZP1(h:Heap)(L d:Addr):List (Addr×Obj):=(zAx h.objs.size).filterMap fun a=>if a=L\/a=d then none else (h.get? a).map fun o=>(a,o)
end
end Att
namespace L2
open PySem PySem.Spec PyProof.Rows
theorem Nj:∀{vs:jd}{ns:List Int},IntsAre vs ns->ZN (ns.map V.int) vs
 | _,_,.nil=>.nil
 | _,_,.cons n t h=>.cons ⟨t,rfl⟩ (Nj h)
def MP(H:Hp):Prop:=∀ b,H b=none\/∃ o xs,H b=some (.frz o (.lst xs))
theorem ZKK{P:Program}{w:World}{K:zAA}{mg mb:jb}{CX:VN}{k:Nat}{fa a:Addr}{fd:FuncData}{x:Str}{sp:Sp}{s₁:Shared}{vs:jd}{ns:List Int}(KX:K.In s₁.heap)(hns:s₁.heap.Ns mainGlobals mg)(hb:s₁.heap.Ns builtinsNs mb)(hbb:∀ x:Str,x ≠ "__name__"->mb x=bootBuiltins x)(hlim:s₁.heap.NoLimit)(hg:s₁.gens=#[])(ha:s₁.heap.get? a=some { cls:=.type "list",data:=.seq vs.toArray })(hi:IntsAre vs ns)(hl:ns.length<=sizeLine)(hr:ZY k callerA)(F:∀ base:Heap,K.In base->base.Ns mainGlobals mg->ZK P w K mg base CX k fa fd [x] sp)(hbind:∀ (s:Shared) (u:Value),BindsTo s fd ⟨[u],[]⟩ [(x,u)])(jE:∀ H:Hp,MP H->ZL K H a (ns.map V.int)->sp [.ref a] H (fun v _=>v=.bl true) fun _ _ _=>False)(hCX:∀ H e s',CX [] H s₁ (fun _ _ _=>False) e s'->False):
  codeAny (model P w) callerA (.call (.ref fa) ⟨[.ref a],[]⟩) (fun r s'=>r=.ok (.ret (.bool true))/\OldK s₁.heap s'.heap/\s'.os=s₁.os/\AllBare s'.gens) s₁:=by
 have rv:=Nj hi;have lenV:=hi.length;have core:∀ H:Hp,MP H->ZL K H a (ns.map V.int)->YX P w H s₁.heap->(∀ b,H b≠none->b=a)->(H a≠none->K.lookup a=none) ->
   codeAny (model P w) callerA (.call (.ref fa) ⟨[.ref a],[]⟩) (fun r s'=>r=.ok (.ret (.bool true))/\OldK s₁.heap s'.heap/\s'.os=s₁.os/\AllBare s'.gens) s₁:=by
  intro H hO hS hok hA hK;have base_of:∀{b:Addr}{o:Obj},s₁.heap.get? b=some o->H b=none->(VY s₁.heap H).get? b=some o:=fun e n=>IO e n;have noA:∀{b:Addr}{o:Obj}{es:Array DictEntry}{ep:Nat},s₁.heap.get? b=some o->o.data=.dict es ep->H b=none:=fun{b o es ep} e d=>by
   cases q:H b with
   | none=>rfl
   | some u=>
    have e':b=a:=hA b (by rw [q];simp)
    subst e';rw [ha] at e;cases e;have d':Data.seq vs.toArray _=Data.dict es ep:=d;cases d'
  have nsK:∀{b:Addr}{m:jb},s₁.heap.Ns b m->(VY s₁.heap H).Ns b m:=fun{b m} ⟨o,es,ep,e,d,r⟩=>⟨o,es,ep,base_of e (noA e d),d,r⟩;have hKb:K.In (VY s₁.heap H):=fun b o e=>base_of (KX b o e) (by
   cases q:H b with
   | none=>rfl
   | some u=>
    have e':b=a:=hA b (by rw [q];simp)
    subst e';rw [hK (by rw [q];simp)] at e;cases e)
  have hM:Mod K mg (VY s₁.heap H):=⟨hKb,nsK hns,⟨mb,nsK hb,hbb⟩,let ⟨mc,h1,h2⟩:=hlim;⟨mc,nsK h1,h2⟩⟩;have e0:We P w K mg (VY s₁.heap H) callerA [] s₁ H:=⟨rfl,hM,fun b o e=>Ht e,zCq (HM _ _),trivial,fun b hb=>absurd (show b∈([]:List Addr) from hb) (by simp),hok,.of_eq hg⟩
  refine codeAny_mono ((F _ hKb (nsK hns)).run callerA [] s₁ H ⟨[.ref a],[]⟩ [.ref a] [.ref a] _ _ hr e0 (hbind s₁ (.ref a)) (.cons rfl .nil) (jE H hO hS)) fun r s' h=>?_
  cases r with
  | error e=>exact (hCX H e s' h).elim
  | ok fl=>
   cases fl with
   | next=>exact False.elim h
   | brk=>exact False.elim h
   | cont=>exact False.elim h
   | ret u=>
    obtain ⟨v,H',os,bare,un,hok',r',q⟩:=h;have q':v=.bl true:=q;subst q';obtain rfl:u=Value.bool true:=r';refine ⟨rfl,OldK.of_keep fun b o e=>?_,os,bare⟩
    cases q:H b with
    | none=>exact un.keep b o e q (by intro z;exact absurd (show b∈([]:List Addr) from z) (by simp)) (by simp)
    | some u=>
     rcases hO b with z | ⟨ob,xs,z⟩
     ·rw [q] at z;cases z
     ·have z2:=un.frzs b ob _ z;obtain ⟨e1,_⟩:=hok b _ z;obtain ⟨e2,_⟩:=hok' b _ z2;rw [e] at e1;cases e1;exact e2
 cases hk:K.lookup a with
 | some o=>
  have e:=KX a o hk;rw [ha] at e;cases e;refine core (fun _=>none) (fun _=>.inl rfl) (.inr ⟨_,vs.toArray,_,hk,rfl,rfl,rfl,by rw [zAM,lenV];exact hl,by simpa using rv⟩) (fun b u z=>by have z':(none:Option HO)=some u:=z;cases z') (fun b z=>absurd rfl z) fun z=>absurd rfl z
 | none=>
  refine core (fun b=>if b=a then some (.frz { cls:=.type "list",data:=.seq vs.toArray } (.lst (ns.map V.int))) else none) (fun b=>?_) (.inl (.inr ⟨{ cls:=.type "list",data:=.seq vs.toArray },if_pos rfl⟩)) (fun b u z=>?_) (fun b z=>?_) fun _=>hk
  ·by_cases hb:b=a
   ·exact .inr ⟨_,_,if_pos hb⟩
   ·exact .inl (if_neg hb)
  ·by_cases hb:b=a
   ·have z':=(if_pos hb).symm.trans z;cases z';subst hb;exact ⟨ha,by rw [zAD];exact hl,vs,_,rv,ha⟩
   ·have z':=(if_neg hb).symm.trans z;cases z'
  ·by_cases hb:b=a
   ·exact hb
   ·exact absurd (if_neg hb) z
abbrev KOf{K:zAA}{h:Heap}(_:K.In h):zAA:=K
theorem ZPo{l:zCP}{n k:Nat}{q:Program}{loose:List Str}{XP:(jb)->Heap->Prop}{YP:World->Heap->Prop}{d:DefRec}{K:Params->zAA}{CX:World->VN}{sp:World->Sp}{x:Str}(hn:l.most=some n)(hn2:n<=sizeLine)(hdf:d.params.defaults=[])(hr:ZY k callerA)(hY:∀ (w:World) (h:Heap),YP w h->(K w.params).In h)(F:∀ (w:World) (mg:jb) (fa:Addr) (h:Heap),(K w.params).In h->h.Ns mainGlobals mg->mg d.name=some (.ref fa) ->
   ∃ fd:FuncData,(∀ (s:Shared) (u:Value),BindsTo s fd ⟨[u],[]⟩ [(x,u)]) /\
    ∀ base:Heap,(K w.params).In base->base.Ns mainGlobals mg->ZK l.prog w (K w.params) mg base (CX w) k fa fd [x] (sp w))(jE:∀ (w:World) (H:Hp) (a:Addr) (ns:List Int),ns.length<=n->MP H->ZL (K w.params) H a (ns.map V.int)->sp w [.ref a] H (fun v _=>v=.bl true) fun _ _ _=>False)(hCX:∀ (w:World) (H:Hp) (s:Shared) (e:Value) (s':Shared),CX w [] H s (fun _ _ _=>False) e s'->False):
  zDC q loose XP YP l.row.toRowW d [] (fun f vs=>PySem.call f vs):=by
 refine Att.attach_call hn hdf fun w s₀ s₁ mg mb fa o pm cd doc a vs ns G Y ho hd jD hmg hobj hints hlen hg=>?_;have KX:=hY w _ Y;obtain ⟨fd,hb,hF⟩:=F w mg fa _ KX G.T.g hmg;exact ZKK KX G.T.g G.T.b G.T.builtins G.T.nolimit hg hobj hints (zAv hlen hn2) hr hF hb (fun H hO hS=>jE w H a ns hlen hO hS) fun H e s'=>hCX w H s₁ e s'
def VB(s:Stmt)(j:Nat):Stmt:=match s with
 | .ClassDef _ _ _ body _ _ _ _ _ _ _=>body.getD j (.Pass ⟨0,0,0,0⟩)
 | _=>.Pass ⟨0,0,0,0⟩
def Vg(s:Stmt):Arguments:=match s with
 | .FunctionDef _ a _ _ _ _ _ _ _ _=>a
 | _=>{ posonlyargs:=[],args:=[],vararg:=none,kwonlyargs:=[],kw_defaults:=[],kwarg:=none,defaults:=[] }
def WD(s:Stmt):List Stmt:=match s with
 | .FunctionDef _ _ b _ _ _ _ _ _ _=>b
 | _=>[]
def Ze(s:Stmt):Scope:=match s with
 | .FunctionDef _ _ _ _ _ _ sc _ _ _=>sc
 | _=>{ kind:=.function,names:=[],isGenerator:=false,isCoroutine:=false }
abbrev ZW:VN:=fun _ _ _ _ _ _=>False
abbrev E0:XK:=fun _ _ _=>False
theorem XE{X:Cx}:U0 ZW X E0:=fun _ _ _ _ _ _ _ h=>h.elim
structure Zj(K:zAA)(x qual:Str)(st:Stmt)(f:Addr)(fd:FuncData):Prop where
 ex:∃(oc:Value)(od:Option Addr)(kV doc pm:Value)(an:Option Addr)(cdv ct:Value)(jI:Array (jc)),
  fd=zA3 x qual (Vg st) (WD st) (Ze st) .none kV doc pm an cdv ct/\K.lookup f=some ⟨oc,od,.func fd,jI⟩/\zBL K cdv qual=true
 kp:zAm K (.ref f)=true
section
variable{P:Program}{w:World}{K:zAA}{mg:jb}{base:Heap}
theorem Zj.ok{x qual:Str}{st:Stmt}{f:Addr}{fd:FuncData}{N ps:List Str}{k:Nat}{sp:Sp}(F:Zj K x qual st f fd)(S:ZC N ps (Ze st))(len:∀ vs H Q E,sp vs H Q E->vs.length=ps.length)(jt:∀ (cdv:Value) (A:Around) (outer:List Env) (s:Shared) (H:Hp) (vs:je) (Q:VK) (E:XK),ZY k (A.deeper (envOfC qual (Ze st) s.heap.objs.size f cdv))->sp vs H Q E ->
   ∃ t,X5 (WB ZW P w K mg base N qual (Ze st) f cdv A outer s H E).nox (WD st) t/\t { nx:=fun _ H'=>Q .non H',rt:=Q } (UD N vs) H):ZK P w K mg base ZW (k+1) f fd ps sp:=by
 obtain ⟨oc,od,kV,doc,pm,an,cdv,ct,jI,rfl,lk,jD⟩:=F.ex;refine Mq lk jD S len fun A outer s H vs Q E hr jE=>?_;obtain ⟨t,h,q⟩:=jt cdv A outer s H vs Q E hr jE;exact ⟨t,h.nox,q⟩
theorem Zj.binds{x qual:Str}{st:Stmt}{f:Addr}{fd:FuncData}{ps:List Str}(F:Zj K x qual st f fd)(h:∀ (kV doc pm:Value) (an:Option Addr) (cdv ct:Value) (us:jd),us.length=ps.length->bindArgs (zA3 x qual (Vg st) (WD st) (Ze st) .none kV doc pm an cdv ct) ⟨us,[]⟩=pure (ps.zip us)):Zu K fd ps []:=by
 obtain ⟨oc,od,kV,doc,pm,an,cdv,ct,jI,rfl,lk,jD⟩:=F.ex;exact .all (h kV doc pm an cdv ct)
theorem UI{x qual:Str}{st:Stmt}{f:Addr}{oc:Value}{od an:Option Addr}{jI:Array (jc)}{kV doc pm cdv ct:Value}(l:K.lookup f=some ⟨oc,od,.func (zA3 x qual (Vg st) (WD st) (Ze st) .none kV doc pm an cdv ct),jI⟩)(c:zBL K cdv qual=true)(k:zAm K (.ref f)=true):Zj K x qual st f (zA3 x qual (Vg st) (WD st) (Ze st) .none kV doc pm an cdv ct):=⟨⟨oc,od,kV,doc,pm,an,cdv,ct,jI,rfl,l,c⟩,k⟩
end
theorem Pe{A:Around}{k:Nat}(hr:ZY k A):A.units+1<cLine:=zCH (Nat.add_le_add_left (by decide:1<=64) _) hr.units
theorem XG{n:Nat}(h:n<=1000):n<sizeLine:=zCH h (by decide)
section
variable{X:Cx}
theorem pv(i:Nat){x:Str}{pos:Pos}(hN:X.N[i]? = some x:=by rfl)(hv:NE X.env.scope x:=by first | exact Or.inl rfl | exact Or.inr (Or.inl rfl) | exact Or.inr (Or.inr rfl))(hd:(x==("__debug__" : Str))=false:=by decide)(jD:(x==("__classdict__" : Str))=false:=by decide):PE X (.Name x pos) (OW i):=Dr hN hv hd jD
end
theorem Zo{A B:Prop}(h:B):if false=true then A else B:=by
 rw [if_neg zAF];exact h
theorem Zw{A B:Prop}(h:A):if true=true then A else B:=by
 rw [if_pos rfl];exact h
theorem WU{c A B:Prop}[Decidable c](h1:c->A)(h2:¬ c->B):if c then A else B:=by
 by_cases h:c
 ·rw [if_pos h];exact h1 h
 ·rw [if_neg h];exact h2 h
theorem De{c A B:Prop}[Decidable c](hc:c)(h:B):if (!decide c)=true then A else B:=by
 rw [decide_eq_true hc];exact Zo h
def ZB(H H':Hp):Prop:=∀ b o,H b=some o->H' b=some o
theorem ZB.refl(H:Hp):ZB H H:=fun _ _ h=>h
theorem ZB.trans{H H1 H2:Hp}(a:ZB H H1)(b:ZB H1 H2):ZB H H2:=fun c o h=>b c o (a c o h)
theorem ZB.free{H H':Hp}(e:ZB H H'){l:Addr}(h:H' l=zCo):H l=zCo:=by
 cases q:H l with
 | none=>rfl
 | some o=>
  rw [e l o q] at h;cases h
theorem ZB.seq{K:zAA}{H H':Hp}{a:Addr}{xs:je}(e:ZB H H')(h:ZL K H a xs):ZL K H' a xs:=by
 rcases h with (h | ⟨o,h⟩) | h
 ·exact .inl (.inl (e _ _ h))
 ·exact .inl (.inr ⟨o,e _ _ h⟩)
 ·exact .inr h
section
variable{prog:Program}{w:World}{A:Around}{R:Result->Shared->Prop}{s:Shared}
theorem FW{elt target iter:Expr}{ifs:List Expr}{scope:Scope}{pos:Pos}{it acc:Value}{env:Env}(I:Nat->Shared->Prop)(turn:∀ n s,I n s->wpAny (model prog w) A (pyNext it) (fun r s₁=>match r with
   | none=>R (.ok .next) s₁
   | some v=>wpAny (model prog w) A (letOwnedTupleGo target it v) (fun _ s₀=>wpAny (model prog w) A (assign target env v) (fun _ s₂=>
     wpAny (model prog w) A (forIn ifs true fun c r=>if r=true then do let ok<-isTrue c env (eval c env);pure (ForInStep.yield ok) else pure (ForInStep.yield r)) (fun ok s₃=>
      if ok=true then wpAny (model prog w) A (eval elt env) (fun x s₄=>
       wpAny (model prog w) A (call (.builtin "list.append") [acc,x]) (fun _ s₅=>∃ m,m<n/\I m s₅) (notedBy (model prog w) A env fun e s'=>R (.error e) s') s₄) (notedBy (model prog w) A env fun e s'=>R (.error e) s') s₃
      else ∃ m,m<n/\I m s₃) (notedBy (model prog w) A env fun e s'=>R (.error e) s') s₂) (notedBy (model prog w) A env fun e s'=>R (.error e) s') s₀) (notedBy (model prog w) A env fun e s'=>R (.error e) s') s₁) (notedBy (model prog w) A env fun e s'=>R (.error e) s') s)(n:Nat)(h:I n s):
  codeAny (model prog w) A (.compLoop (.ListComp elt [⟨target,iter,ifs,0⟩] scope pos) 0 it acc env) R s:=by
 refine codeAny_loop rfl I (fun n s hI=>?_) n h;show wpAny _ A ((compTurn (.ListComp elt [⟨target,iter,ifs,0⟩] scope pos) 0 it acc env).onRaise (fun x=>do noteFrame x env;theTreesLotGoes x)) _ _ s
 refine wpAny_noted ?_;rw [compTurn_list];refine wpAny_bind (wpAny_standAt (wpAny_bind (wpAny_mono (turn n s hI) (fun r s₁ h₁=>?_) fun _ _ h'=>h')))
 cases r with
 | none=>exact wpAny_pure h₁
 | some v=>
  refine wpAny_bind (wpAny_mono h₁ (fun _ s₀ h₀=>?_) fun _ _ h'=>h');refine wpAny_bind (wpAny_mono h₀ (fun _ s₂ h₂=>wpAny_bind (wpAny_mono h₂ (fun ok s₃ h₃=>?_) fun _ _ h'=>h')) fun _ _ h'=>h')
  cases ok with
  | false=>exact wpAny_pure ⟨rfl,h₃⟩
  | true=>
   exact wpAny_bind (wpAny_bind (wpAny_mono h₃ (fun x s₄ h₄=>wpAny_bind (wpAny_mono h₄ (fun _ s₅ h₅=>wpAny_pure (wpAny_pure ⟨rfl,h₅⟩)) fun _ _ h'=>h')) fun _ _ h'=>h'))
end
def WG(env:Env)(l:List (Str×NameKind)):List (Str×Addr)->List (Str×Addr):=fun cs=>l.foldl (fun cs p=>if p.2==.free then (p.1,(env.cells.lookup p.1).getD 0) :: cs else cs) cs
def OI(env:Env)(l:List (Str×NameKind)):Prop:=∀ p∈l,p.2=.free->∃ c,env.cells.lookup p.1=some c
theorem Jq{env:Env}{scope:Scope}(h:OI env scope.names):closureFor scope env=pure (WG env scope.names []):=by
 have all:∀(l:List (Str×NameKind))(cs:List (Str×Addr)),OI env l->(forIn l cs fun x r=>if (x.2==.free)=true then do let a<-cellOf env x.1;pure (ForInStep.yield ((x.1,a) :: r)) else pure (ForInStep.yield r):Sem (List (Str×Addr)))=pure (WG env l cs):=by
  intro l
  induction l with
  | nil=>intro cs _;rfl
  | cons p r ih=>
   intro cs hf;have e:WG env (p :: r) cs=WG env r (if p.2==.free then (p.1,(env.cells.lookup p.1).getD 0) :: cs else cs):=rfl
   rw [zDB,e]
   cases hk:(p.2==NameKind.free) with
   | true=>
    obtain ⟨c,hc⟩:=hf p zAQ (eq_of_beq hk);have ju:cellOf env p.1=pure c:=by unfold cellOf;rw [hc]
    simp only [if_true,ju,pure_bind];rw [ih _ fun q hq=>hf q (zAL _ hq),hc];rfl
   | false=>
    simp only [zBC,if_false,pure_bind];exact ih _ fun q hq=>hf q (zAL _ hq)
 have:=all scope.names [] h;simpa [closureFor] using this
theorem Iw{env:Env}:∀{l:List (Str×NameKind)}{cs:List (Str×Addr)}{x:Str}{c:Addr},OI env l->(WG env l cs).lookup x=some c->cs.lookup x=some c\/env.cells.lookup x=some c
 | [],_,_,_,_,h=>.inl h
 | p :: r,cs,x,c,hf,h=>by
  have h':(WG env r (if p.2==.free then (p.1,(env.cells.lookup p.1).getD 0) :: cs else cs)).lookup x=some c:=h
  rcases Iw (fun q hq=>hf q (zAL _ hq)) h' with q | q
  ·cases hk:(p.2==NameKind.free) with
   | true=>
    rw [hk,if_pos rfl,zA9] at q
    cases e:x==p.1 with
    | true=>
     rw [e] at q;obtain ⟨d,hd⟩:=hf p zAQ (eq_of_beq hk);refine .inr ?_;rw [eq_of_beq e,hd];rw [hd] at q;exact q
    | false=>
     rw [e] at q;exact .inl q
   | false=>
    rw [hk,if_neg zAF] at q;exact .inl q
  ·exact .inr q
theorem Ji{env:Env}{x:Str}:∀{l:List (Str×NameKind)}{cs:List (Str×Addr)},(cs.lookup x).isSome=true->((WG env l cs).lookup x).isSome=true
 | [],_,h=>h
 | p :: r,cs,h=>by
  show ((WG env r (if p.2==.free then (p.1,(env.cells.lookup p.1).getD 0) :: cs else cs)).lookup x).isSome=true
  refine Ji ?_
  cases hk:(p.2==NameKind.free) with
  | true=>
   rw [if_pos rfl,zA9]
   cases e:x==p.1 with
   | true=>rfl
   | false=>exact h
  | false=>rw [if_neg zAF];exact h
theorem Hw{env:Env}{x:Str}:∀{l:List (Str×NameKind)}{cs:List (Str×Addr)},(x,NameKind.free)∈l->((WG env l cs).lookup x).isSome=true
 | [],_,h=>by cases h
 | p :: r,cs,h=>by
  show ((WG env r (if p.2==.free then (p.1,(env.cells.lookup p.1).getD 0) :: cs else cs)).lookup x).isSome=true
  rcases zAe.mp h with e | h
  ·subst e;refine Ji ?_;show (zBY x ((x,(env.cells.lookup x).getD 0) :: cs)).isSome=true;rw [zA9,beq_self_eq_true];rfl
  ·exact Hw h
def Yv(env:Env)(cl:List (Str×Addr)):Prop:=∀ x c,cl.lookup x=some c->env.cells.lookup x=some c
theorem Yv.get{env:Env}{cl:List (Str×Addr)}{x:Str}{c:Addr}(h:Yv env cl)(e:cl.lookup x=some c):env.cells.lookup x=some c:=h x c e
theorem JX{env:Env}{l:List (Str×NameKind)}(h:OI env l):Yv env (WG env l []):=fun x c e=>by
 rcases Iw h e with q | q
 ·cases q
 ·exact q
theorem JJ{env:Env}:∀{names:List (Str×NameKind)}{x:Str},names.lookup x=some .free ->
  (names.map fun(n,k)=>if (k==NameKind.free&&env.scope.kind==.function&&env.kindOf n==some .cell) then (n,NameKind.cell) else (n,k)).lookup x=some .cell \/
  (names.map fun(n,k)=>if (k==NameKind.free&&env.scope.kind==.function&&env.kindOf n==some .cell) then (n,NameKind.cell) else (n,k)).lookup x=some .free
 | [],_,h=>by simp at h
 | (n,k) :: r,x,h=>by
  rw [zA9] at h;simp only [zAa]
  cases hx:x==n with
  | true=>
   rw [hx] at h;cases h;split
   ·exact .inl (by rw [zA9,hx])
   ·exact .inr (by rw [zA9,hx])
  | false=>
   rw [hx] at h;have ih:=JJ (env:=env) h;split
   ·rw [zA9,hx];exact ih
   ·rw [zA9,hx];exact ih
theorem HV{env:Env}:∀{names:List (Str×NameKind)}{x:Str},(∀ y∈names,y.2≠.cell) ->
  ((names.map fun(n,k)=>if (k==NameKind.free&&env.scope.kind==.function&&env.kindOf n==some .cell) then (n,NameKind.cell) else (n,k)).lookup x=some .cell \/
  (names.map fun(n,k)=>if (k==NameKind.free&&env.scope.kind==.function&&env.kindOf n==some .cell) then (n,NameKind.cell) else (n,k)).lookup x=some .free)->(x,NameKind.free)∈names
 | [],_,_,h=>by simp at h
 | (n,k) :: r,x,hc,h=>by
  have hr:∀ y∈r,y.2≠.cell:=fun y hy=>hc y (zAL _ hy);simp only [zAa] at h
  cases hx:x==n with
  | true=>
   have en:=eq_of_beq hx;subst en;by_cases hk:k=.free
   ·subst hk;exact zAQ
   ·have hb:(k==NameKind.free)=false:=by simpa using hk
    simp only [hb,zBl,zBC,if_false,zA9,beq_self_eq_true] at h;rcases h with h | h
    ·exact absurd (zAj.inj h) (hc _ zAQ)
    ·exact absurd (zAj.inj h) hk
  | false=>
   refine zAL _ (HV (env:=env) hr ?_);split at h
   ·simpa only [zA9,hx] using h
   ·simpa only [zA9,hx] using h
def YC(X:Cx)(scope:Scope):List Nat->List Str->Prop
 | [],[]=>True
 | i :: is,y :: ys=>X.N[i]? = some y/\(X.env.kindOf y=some .cell\/X.env.kindOf y=some .free)/\scope.names.lookup y=some .free/\YC X scope is ys
 | _,_=>False
theorem YC.len{X:Cx}{scope:Scope}:∀{is:List Nat}{ys:List Str},YC X scope is ys->is.length=ys.length
 | [],[],_=>rfl
 | _ :: _,_ :: _,h=>congrArg (· + 1) h.2.2.2.len
theorem YC.get{X:Cx}{scope:Scope}:∀{is:List Nat}{ys:List Str}{j:Nat}{y:Str},YC X scope is ys->ys[j]? = some y ->
  ∃ i,is[j]? = some i/\X.N[i]? = some y/\(X.env.kindOf y=some .cell\/X.env.kindOf y=some .free)/\scope.names.lookup y=some .free
 | [],[],_,_,_,h=>by simp at h
 | i :: _,z :: _,0,y,f,h=>by
  simp at h;subst h;exact ⟨i,rfl,f.1,f.2.1,f.2.2.1⟩
 | _ :: is,_ :: ys,j+1,y,f,h=>by
  obtain ⟨i,e,r⟩:=YC.get (j:=j) f.2.2.2 (by simpa using h)
  exact ⟨i,by simpa using e,r⟩
def WC(X:Cx)(N:List Str)(scope:Scope)(cl:List (Str×Addr))(C:Addr)(s:Shared)(H:Hp)(fp:List Addr)(E:ja):Cx where
 prog:=X.prog
 w:=X.w
 K:=X.K
 mg:=X.mg
 base:=X.base
 A:=X.A
 N:=N
 s₀:=s
 H₀:=H
 env:=compEnvC scope cl C X.env
 outer:=X.stack
 stack:=X.stack
 ex:=fp
 fn:=fun _=>false
 calm:=X.calm
 pn:=[]
 xe:=E
def OP(σ:St)(ix:List Nat)(x:V):St:=some x :: ix.map fun i=>(σ[i]?).join
def Q8(X:Cx)(ifs:List Expr)(tt:TT):Prop:=
 ∀(pins:List (Addr×Obj))(s:Shared)(σ:St)(H:Hp)(Q:Bool->Hp->Prop),ZH X pins σ H s->tt σ H Q ->
  wpAny (model X.prog X.w) X.A (forIn ifs true fun c r=>if r=true then do let ok<-isTrue c X.env (eval c X.env);pure (ForInStep.yield ok) else pure (ForInStep.yield r)) (TP X pins σ Q) X.xe s
def MJ:TT:=fun _ H Q=>Q true H
theorem VU{X:Cx}:Q8 X [] MJ:=fun _ _ _ H _ I h=>wpAny_tests_nil ⟨H,I,h⟩
theorem Nu{X:Cx}{c:Expr}{t:TT}(h:PT X c t):Q8 X [c] t:=fun pins s σ H Q I hw=>wpAny_tests_one (h pins s σ H Q I hw)
def Vj(J:It)(σ:St)(ix:List Nat)(tt:TT)(te:TE)(H1:Hp)(Q:VK):Prop:=
 ∀ D,H1 D=none->∃ W:Nat->Nat->Hp->Prop,(∃ m,W 0 m (upd H1 D (.lst [])))/\∀ i m H,W i m H ->
  (J.stop i H/\Q (.ref D) H)\/(J.go i H/\∀ x H',J.yld i H x H'->tt (OP σ ix x) H' fun c H2=>
   if c=true then te (OP σ ix x) H2 fun y H3=>∃ ys m',H3 D=some (.lst ys)/\ys.length<sizeLine/\m'<m/\W (i+1) m' (upd H3 D (.lst (ys++[y])))
   else ∃ m',m'<m/\W (i+1) m' H2)
def GX(wi:TI)(ix:List Nat)(tt:TT)(te:TE):TE:=fun σ H Q=>wi σ H fun J H1=>Vj J σ ix tt te H1 Q
section
variable{X:Cx}{pins:List (Addr×Obj)}{σ:St}{H:Hp}{s:Shared}
theorem Bx{ix:List Nat}{j:Nat}{v:V}(h:(ix.map fun i=>(σ[i]?).join)[j]? = some (some v)):∃ i,ix[j]? = some i/\σ[i]? = some (some v):=by
 rw [zAN] at h
 cases e:ix[j]? with
 | none=>rw [e] at h;cases h
 | some i=>
  rw [e] at h;have h':(σ[i]?).join=some v:=zAj.inj h;refine ⟨i,rfl,?_⟩
  cases q:σ[i]? with
  | none=>rw [q] at h';cases h'
  | some o=>
   rw [q] at h'
   cases o with
   | none=>cases h'
   | some z=>cases h';rfl
def P6(env:Env)(l:List (Str×NameKind)):Bool:=l.all fun p=>!(p.2==.free) || env.kindOf p.1==some .cell || env.kindOf p.1==some .free
theorem GL{X:Cx}{l:List (Str×NameKind)}(ok:X.Ok)(h:P6 X.env l=true):OI X.env l:=fun p hp hk=>by
 have q:=zAO.mp h p hp;rw [hk] at q;have q':(X.env.kindOf p.1==some .cell || X.env.kindOf p.1==some .free)=true:=by simpa using q
 rcases Bool.or_eq_true_iff.mp q' with q | q
 ·exact ok.has p.1 (.inl (eq_of_beq q))
 ·exact ok.has p.1 (.inr (eq_of_beq q))
def Ps(scope:Scope)(x:Str):Bool:=scope.kind==.function&&scope.names.lookup x==some .local&&scope.names.all (fun p=>!(p.2==.cell))&&scope.names.all (fun p=>!(p.2==.local) || scope.names.lookup p.1==some .local)
structure QE(scope:Scope)(x:Str):Prop where
 kind:scope.kind=.function
 own:scope.names.lookup x=some .local
 cell:∀ y∈scope.names,y.2≠.cell
 names:∀ y∈scope.names,y.2=.local->scope.names.lookup y.1=some .local
theorem NA{scope:Scope}{x:Str}(h:Ps scope x=true):QE scope x:=by
 unfold Ps at h;rw [zAP,zAP,zAP] at h;obtain ⟨⟨⟨h1,h2⟩,h3⟩,h4⟩:=h;refine ⟨eq_of_beq h1,eq_of_beq h2,fun y hy z=>?_,fun y hy z=>?_⟩
 ·have:=zAO.mp h3 y hy;rw [z] at this;cases this
 ·have:=zAO.mp h4 y hy;rw [z] at this;have q:(scope.names.lookup y.1==some NameKind.local)=true:=by simpa using this
  exact eq_of_beq q
theorem Ig{scope:Scope}{env:Env}(ju:∀ y∈scope.names,y.2≠.cell)(y:Str)(h:(relabel scope env).names.lookup y=some .cell\/(relabel scope env).names.lookup y=some .free):∃ c,(WG env scope.names []).lookup y=some c:=
 zBn.mp (Hw (HV ju h))
def IZ(i:Nat)(t:TE):TS:=fun D σ H=>t σ H fun v H1=>D.nx (σ.set i (some v)) H1
end
def NY(xs:List Str)(σ:St)(ix:List Nat):St:=xs.map (fun _=>(none:jf))++ix.map fun i=>(σ[i]?).join
def Nv(J:It)(k:Nat)(g:TG)(σ:St)(ix:List Nat)(tt:TT)(te:TE)(H1:Hp)(Q:VK):Prop:=
 ∀ D,H1 D=none->∃ W:Nat->Nat->Hp->Prop,(∃ m,W 0 m (upd H1 D (.lst [])))/\∀ i m H,W i m H ->
  (J.stop i H/\Q (.ref D) H)\/(J.go i H/\∀ x H',J.yld i H x H'->∀ os:St,os.length=k->g x (os++ix.map fun i=>(σ[i]?).join) H' fun σ6 H6=>(∃ os':St,os'.length=k/\σ6=os'++ix.map fun i=>(σ[i]?).join)/\tt σ6 H6 fun c H2=>
   if c=true then te σ6 H2 fun y H3=>∃ ys m',H3 D=some (.lst ys)/\ys.length<sizeLine/\m'<m/\W (i+1) m' (upd H3 D (.lst (ys++[y])))
   else ∃ m',m'<m/\W (i+1) m' H2)
def HN(k:Nat)(g:TG)(wi:TI)(ix:List Nat)(tt:TT)(te:TE):TE:=fun σ H Q=>wi σ H fun J H1=>Nv J k g σ ix tt te H1 Q
section
variable{X:Cx}{pins:List (Addr×Obj)}{σ:St}{H:Hp}{s:Shared}
theorem EO{xs:List Str}{ys:List Str}{ix:List Nat}{scope:Scope}{cl:List (Str×Addr)}{fp:List Addr}{E:ja}{h₁:Heap}{D C n:Nat}{tk:Nat}{m:jb}(I:ZH X pins σ H s)(hf:∀ b∈fp,Ws X pins H b/\b<s.heap.objs.size)(sub:Yv X.env cl)(jB:scope.kind=.function)(hhas:∀ y,((relabel scope X.env).names.lookup y=some .cell\/(relabel scope X.env).names.lookup y=some .free)->∃ c,cl.lookup y=some c)(fo:YC X scope ix ys)(hD:s.heap.objs.size<=D)(hC:s.heap.objs.size<=C)(hDC:D≠C)(hns:h₁.Ns C m)(k:∀ b o,s.heap.get? b=some o->h₁.get? b=some o)(hd:h₁.get? D=some { cls:=.type "list",data:=.seq ([]:jd).toArray n }):
  ZH (WC X (xs++ys) scope cl C s H fp E) [] (NY xs σ ix) (upd H D (.lst [])) { s with heap:=h₁,toks:=tk }:=by
 have lt_of_cell:∀ y c,cl.lookup y=some c->c<s.heap.objs.size:=fun y c e=>by
  obtain ⟨v,q⟩:=I.cell y c (sub.get e);exact q.lt
 refine ⟨⟨I.ok.mod,jB,I.ok.glob,I.ok.blt,hC,fun y z c h1 h2=>I.ok.inj y z c (sub.get h1) (sub.get h2),hhas,fun y c h _=>absurd h (by simp [WC]),I.ok.hd,I.ok.frames,.inl rfl,fun b hb=>⟨?_,fun y c e=>?_⟩,I.bs,zAv I.ok.bsz I.sz,fun b o e hb=>?_,fun b hb z=>?_,I.stack,I.stkFree⟩,
  rfl,I.bare,Un.laid k hD (I.hok.fresh hD),⟨m,hns,fun j y v e1 e2 e3=>?_⟩,fun y c e=>?_,?_,fun y c e=>?_,fun p hp=>absurd (show p∈([]:List (Addr×Obj)) from hp) (by simp),I.hok.laid k hD ?_,?_⟩
 ·exact zAl (zAb (hf b hb).2 hC)
 ·exact (hf b hb).1.2.2.2.2.1 y c (sub.get e)
 ·obtain ⟨_,_,_,z,_⟩:=(hf b hb).1;rcases z with z | z
  ·exact I.ok.noex b o e z
  ·exact absurd (zAb (zAT (I.ok.bs b o e).1) z) (zBf _)
 ·obtain ⟨_,z1,z2,_⟩:=(hf b hb).1;rcases zAe.mp (I.stkSub b z) with q | q
  ·exact z1 q
  ·exact z2 q
 ·by_cases hj:j<xs.length
  ·exfalso
   have e3:(xs.map (fun _=>(none:jf))++ix.map fun i=>(σ[i]?).join)[j]? = some (some v):=e2;rw [zAw (by rw [zAD];exact hj),zAN,zAE hj] at e3
   cases e3
  ·have e0:(xs++ys)[j]? = some y:=e1;have e1':ys[j - xs.length]? = some y:=by rw [zAh (zC3 hj)] at e0;exact e0
   have e3:(xs.map (fun _=>(none:jf))++ix.map fun i=>(σ[i]?).join)[j]? = some (some v):=e2;have e2':(ix.map fun i=>(σ[i]?).join)[j - xs.length]? = some (some v):=by
    rw [zAh (by rw [zAD];exact zC3 hj),zAD] at e3
    exact e3
   obtain ⟨i,q1,q2⟩:=Bx e2';obtain ⟨i',p1,p2,p3,p4'⟩:=fo.get e1';rw [q1] at p1;cases p1;have p4:(relabel scope X.env).names.lookup y=some .cell\/(relabel scope X.env).names.lookup y=some .free:=JJ p4';obtain ⟨c,p5⟩:=hhas y p4;obtain ⟨m0,hn0,hl⟩:=I.loc;obtain ⟨u,r,l⟩:=hl i y v p2 q2 (.inr p3);refine ⟨u,r,.inr ⟨p4,c,p5,?_⟩⟩;rcases l with ⟨l1,_⟩ | ⟨_,c',l2,l3⟩
   ·rcases p3 with p3 | p3
    ·rw [l1] at p3;cases p3
    ·rw [l1] at p3;cases p3
   ·rw [sub.get p5] at l2;cases l2;obtain ⟨o,ho,hd'⟩:=l3;exact ⟨o,k _ _ ho,hd'⟩
 ·obtain ⟨v,o,ho,hd'⟩:=I.cell y c (sub.get e);exact ⟨v,o,k _ _ ho,hd'⟩
 ·show upd H D (.lst []) C=none;rw [ZV (Ne.symm hDC)];exact I.hok.fresh hC
 ·show upd H D (.lst []) c=none;rw [ZV (zAl (zAb (lt_of_cell y c e) hD))];exact I.freeC y c (sub.get e)
 ·exact ⟨zAk _,[],n,.nil,hd⟩
 ·show (NY xs σ ix).length=(xs++ys).length;unfold NY;rw [zAG,zAD,zAD,fo.len,zAG]
theorem HA{elt iter tg:Expr}{xs:List Str}{g:TG}{ifs:List Expr}{scope:Scope}{cl:List (Str×Addr)}{pos:Pos}{ix:List Nat}{ys:List Str}{tt:TT}{te:TE}{it:Addr}{fp:List Addr}{tn:Nat->Heap->Prop}{J:It}{Q:VK}{E:ja}{RR:Value->Addr->Result->Shared->Prop}(hc:X.calm=true)(hg:∀ C s H fp E,PG (WC X (xs++ys) scope cl C s H fp E) tg g)(ht:∀ C s H fp E,Q8 (WC X (xs++ys) scope cl C s H fp E) ifs tt)(he:∀ C s H fp E,PE (WC X (xs++ys) scope cl C s H fp E) elt te)(sub:Yv X.env cl)(jB:scope.kind=.function)(ju:∀ y∈scope.names,y.2≠.cell)(hhas:∀ y,((relabel scope X.env).names.lookup y=some .cell\/(relabel scope X.env).names.lookup y=some .free)->∃ c,cl.lookup y=some c)(fo:YC X scope ix ys)(I:ZH X pins σ H s)(T:UA X.prog X.w X.K tg J fp it tn)(st:tn 0 s.heap)(hf:∀ b∈fp,Ws X pins H b)(q:Nv J xs.length g σ ix tt te H Q)(jM:∀ D C s' H' m,s.heap.objs.size<=C->ZH X pins σ H' s'->Ws X pins H' C->s'.heap.Ns C m->Q (.ref D) H'->RR (.ref D) C (.ok .next) s'):
  wpAny (model X.prog X.w) X.A (newList []) (fun acc s₃=>wpAny (model X.prog X.w) X.A (newFunctionEnv scope X.env.globals cl [] X.env.qual none .none (some X.env)) (fun cenv s₄=>
   codeAny (model X.prog X.w) X.A (.compStart (.ListComp elt [⟨tg,iter,ifs,0⟩] scope pos) 0 (.ref it) acc { cenv with scope:=relabel scope X.env }) (RR acc cenv.locals) s₄) E s₃) E s:=by
 refine wpAny_newObj_type (wpAny_newFunctionEnv ju (by intro y hy;simp at hy) (fun h₁ hns₁ hsb₁=>?_) jB)
 dsimp only at hns₁ hsb₁ ⊢;generalize hH2:s.heap.push { cls:=.type "list",dict:=none,data:=.seq ([]:jd).toArray }=H2 at hns₁ hsb₁ ⊢;have hC:H2.objs.size=s.heap.objs.size+1:=by rw [<-hH2,zDJ]
 have hDC:s.heap.objs.size≠H2.objs.size:=by rw [hC];exact zAl (zB7 _)
 have hCle:s.heap.objs.size<=H2.objs.size:=by rw [hC];exact zCQ _
 have below:∀ b,b<s.heap.objs.size->b≠H2.objs.size/\b≠s.heap.objs.size:=fun b hb=>⟨by rw [hC];exact zAl (Nat.lt_succ_of_lt hb),zAl hb⟩
 have old:∀ b o,s.heap.get? b=some o->h₁.get? b=some o:=fun b o e=>hsb₁.extBut b o (below b (zAT e)).1 (zAI _ (hH2 ▸ zAI _ e));have hacc:∃ n,h₁.get? s.heap.objs.size=some { cls:=.type "list",data:=.seq ([]:jd).toArray n }:=⟨_,hsb₁.extBut _ _ hDC (zAI _ (hH2 ▸ zAU _ rfl))⟩;obtain ⟨nD,hacc⟩:=hacc;have hf':∀ b∈fp,Ws X pins H b/\b<s.heap.objs.size:=fun b hb=>⟨hf b hb,by obtain ⟨o,e,_⟩:=T.obj 0 _ st b hb;exact zAT e⟩
 have hDn:H s.heap.objs.size=none:=I.hok.fresh (zAH _);obtain ⟨W,⟨m0,w0⟩,turn⟩:=q _ hDn;generalize hE:notedBy (model X.prog X.w) X.A (compEnvC scope cl H2.objs.size X.env) (fun e s'=>RR (.ref s.heap.objs.size) H2.objs.size (.error e) s')=EE;have I0:ZH (WC X (xs++ys) scope cl H2.objs.size s H fp EE) [] (NY xs σ ix) (upd H s.heap.objs.size (.lst [])) { s with heap:=h₁,toks:=s.toks+([]:List (Str×Value)).length }:=
  EO I hf' sub jB hhas fo (zAH _) hCle hDC hns₁ old hacc
 have st1:tn 0 h₁:=T.keep _ _ _ st fun b _ o e=>old b o e;have fr1:∀ b∈fp,upd H s.heap.objs.size (.lst []) b=none:=fun b hb=>by rw [ZV (below b (hf' b hb).2).2];exact (hf b hb).1
 have stat:∀{H':Hp},(∀ b∈fp,H' b=none)->∀ b∈fp,Ws (WC X (xs++ys) scope cl H2.objs.size s H fp EE) [] H' b:=fun hn b hb=>
  ⟨hn b hb,(I0.ok.exf b hb).1,I0.ok.exfs b hb,.inl hb,(I0.ok.exf b hb).2,fun p hp=>absurd (show p∈([]:List (Addr×Obj)) from hp) (by simp)⟩
 have loop:∀ s₃:Shared,s₃={ s with heap:=h₁,toks:=s.toks+([]:List (Str×Value)).length } ->
   codeAny (model X.prog X.w) X.A (.compLoop (.ListComp elt [⟨tg,iter,ifs,0⟩] scope pos) 0 (.ref it) (.ref s.heap.objs.size) (compEnvC scope cl H2.objs.size X.env)) (RR (.ref s.heap.objs.size) H2.objs.size) s₃:=by
  rintro s₃ rfl;refine FW (fun n s'=>∃ i σ' H',ZH (WC X (xs++ys) scope cl H2.objs.size s H fp EE) [] σ' H' s'/\(∃ os:St,os.length=xs.length/\σ'=os++ix.map fun i=>(σ[i]?).join)/\tn i s'.heap/\(∀ b∈fp,H' b=none)/\W i n H') ?_ m0 ⟨0,_,_,I0,⟨_,zAD _,rfl⟩,st1,fr1,w0⟩;rintro n s3 ⟨i,σ3,H3,I3,⟨o3,ho3,hσ3⟩,st3,fr3,w3⟩;rw [hE];rcases turn i n H3 w3 with ⟨stop,qn⟩ | ⟨go,step⟩
  ·refine Zc (T.done (WC X (xs++ys) scope cl H2.objs.size s H fp EE) rfl rfl rfl hc i [] s3 σ3 H3 EE I3 (stat fr3) st3 stop) fun r s4 ⟨hr,I4⟩=>?_;subst hr;obtain ⟨m4,hn4,_⟩:=I4.loc;have Ix:ZH X pins σ H3 s4:=I.call' (s':=s4) (ch:=fp) I4.os I4.base I4.hok I4.bare fun b hb=>by
    obtain ⟨_,z1,_,z3,z4,z5⟩:=hf b hb;exact ⟨z3,z1,z4,z5⟩
   exact jM _ _ s4 H3 m4 hCle Ix (I.fpOk hCle I4.free) hn4 qn
  ·refine Zc (T.item (WC X (xs++ys) scope cl H2.objs.size s H fp EE) rfl rfl rfl hc i [] s3 σ3 H3 EE I3 (stat fr3) st3 go) fun r s4 ⟨u,hr,h4⟩=>?_;subst hr;refine Zc h4 fun _ s5 ⟨xv,H5,I5,r5,y5,st5,fr5⟩=>?_;have I5':=I5.pinned (stat fr5) (T.obj _ _ st5);have again:∀{σ7:St}{H7:Hp}{s7:Shared}{m':Nat},ZH (WC X (xs++ys) scope cl H2.objs.size s H fp EE) ([]++P7 fp s5.heap) σ7 H7 s7->(∃ os:St,os.length=xs.length/\σ7=os++ix.map fun i=>(σ[i]?).join)->m'<n->W (i+1) m' H7 ->
     ∃ m,m<n/\∃ i σ' H',ZH (WC X (xs++ys) scope cl H2.objs.size s H fp EE) [] σ' H' s7/\(∃ os:St,os.length=xs.length/\σ'=os++ix.map fun i=>(σ[i]?).join)/\tn i s7.heap/\(∀ b∈fp,H' b=none)/\W i m H':=fun{σ7 H7 s7 m'} I7 e7 hm w7=>by
    refine ⟨m',hm,i+1,σ7,H7,I7.unpinned,e7,T.keep _ _ _ st5 fun b hb o e=>(I7.pin (b,o) (zAc _ (zAc _ (Oz hb e)))).1,fun b hb=>?_,w7⟩;obtain ⟨o,e,d⟩:=T.obj _ _ st5 b hb;exact (I7.pin (b,o) (zAc _ (zAc _ (Oz hb e)))).2.1
   have stp:=step xv _ y5 o3 ho3;rw [<-hσ3] at stp;refine Zc (hg _ _ _ _ _ _ s5 σ3 H5 xv u _ I5' r5 stp) fun _ s6 ⟨σ6,H6,I6,e6,q6⟩=>?_;refine Zc (ht _ _ _ _ _ _ s6 _ _ _ I6 q6) fun ok s7 ⟨H7,I7,q7⟩=>?_
   cases ok with
   | false=>
    rw [if_neg zAF] at q7 ⊢;obtain ⟨m',hm,w7⟩:=q7;exact again I7 e6 hm w7
   | true=>
    rw [if_pos rfl] at q7 ⊢;refine Zc (he _ _ _ _ _ _ s7 _ _ _ I7 q7) fun y s8 ⟨yv,H8,I8,r8,ys8,m',e8,z8,hm,w8⟩=>?_;refine Zc (QL _ s8 _ H8 (.ref s.heap.objs.size) [yv] (.ref s.heap.objs.size) [y] (fun _ H9=>W (i+1) m' H9) I8 rfl (.cons r8 .nil) ⟨_,ys8,yv,rfl,rfl,e8,z8,w8⟩) fun _ s9 ⟨_,H9,I9,_,w9⟩=>?_;exact again I9 e6 hm w9
 exact codeAny_compStart_list (loop _ rfl) (T.self _ 0 _ _ _ st1 (loop _ rfl))
theorem Dn{elt iter tg:Expr}(xs:List Str)(x:Str){g:TG}{ifs:List Expr}{scope:Scope}{pos:Pos}{wi:TI}{tt:TT}{te:TE}(ix:List Nat)(ys:List Str)(hc:X.calm=true)(hg:∀ C s H fp E,PG (WC X (xs++ys) scope (WG X.env scope.names []) C s H fp E) tg g)(hi:PI X tg iter wi)(ht:∀ C s H fp E,Q8 (WC X (xs++ys) scope (WG X.env scope.names []) C s H fp E) ifs tt)(he:∀ C s H fp E,PE (WC X (xs++ys) scope (WG X.env scope.names []) C s H fp E) elt te)(fo:YC X scope ix ys)(hk:P6 X.env scope.names=true:=by rfl)(hb:Ps scope x=true:=by rfl)(hs:∀ x,foldedSetIterable iter X.env x=pure x:=by intro _;rfl):
  PE X (.ListComp elt [⟨tg,iter,ifs,0⟩] scope pos) (HN xs.length g wi ix tt te):=by
 intro pins s σ H Q I h;have B:=NA hb;have F:=GL I.ok hk;rw [eval_ListComp];refine wpAny_comprehension_free (use:=none) rfl hs (Jq F) B.kind B.names (Zc (hi pins s σ H _ I h) fun v s1 h1=>Zc h1 fun itv s2 h2=>?_);obtain ⟨it,fp,tn,J,H2,e,I2,T,st2,f2,q2⟩:=h2;subst e;refine HA (RR:=fun acc C=>compPost (model X.prog X.w) X.A X.xe none (EP X pins σ Q) acc C) hc hg ht he (JX F) B.kind B.cell (Ig B.cell) fo I2 T st2 f2 q2 ?_;intro D C s' H' m hC Ix fC hn q;refine ⟨m,hn,fun h' sb=>⟨.ref D,H',?_,rfl,q⟩⟩;obtain ⟨f0,f1,_,f3,f4,f5⟩:=fC;exact Ix.turned (t':=s'.toks) (fun b o hb e=>(sb.2 b hb).trans e) f0 f1 f3 f4 f5
theorem FH{elt iter tg:Expr}(xs:List Str)(x:Str){g:TG}{y:Str}{py:Pos}{ifs:List Expr}{scope:Scope}{pos jV:Pos}{wi:TI}{tt:TT}{te:TE}{i:Nat}(ix:List Nat)(ys:List Str)(hN:X.N.Nodup)(hiN:X.N[i]? = some y)(hy:X.env.scope.names.lookup y=some .local)(hc:X.calm=true)(hg:∀ C s H fp E,PG (WC X (xs++ys) scope (WG X.env scope.names []) C s H fp E) tg g)(hi:PI X tg iter wi)(ht:∀ C s H fp E,Q8 (WC X (xs++ys) scope (WG X.env scope.names []) C s H fp E) ifs tt)(he:∀ C s H fp E,PE (WC X (xs++ys) scope (WG X.env scope.names []) C s H fp E) elt te)(fo:YC X scope ix ys)(hsw:swapsWith (.ListComp elt [⟨tg,iter,ifs,0⟩] scope pos) (some (.Name y py)) jV.line X.env=pure true:=by rfl)(hk:P6 X.env scope.names=true:=by rfl)(hb:Ps scope x=true:=by rfl)(hs:∀ x,foldedSetIterable iter X.env x=pure x:=by intro _;rfl):
  PS X (.Assign [.Name y py] (.ListComp elt [⟨tg,iter,ifs,0⟩] scope pos) jV) (IZ i (HN xs.length g wi ix tt te)):=by
 intro pins s σ H D I h;have B:=NA hb;have F:=GL I.ok hk;rw [exec_Assign_Name_used _ _ _ _ hsw];refine wpAny_bind (wpAny_standAt (wpAny_bind ?_));show wpAny _ X.A (do let _<-comprehension (.ListComp elt [⟨tg,iter,ifs,0⟩] scope pos) scope X.env _ (newList []) false (eval iter X.env) (some (assign (.Name y py) X.env))) _ _ s
 refine wpAny_bind (wpAny_mono (wpAny_comprehension_free (use:=some (assign (.Name y py) X.env)) (Q:=fun _ s'=>SP X pins D .next s') rfl hs (Jq F) B.kind B.names
  (Zc (hi pins s σ H _ I h) fun v s1 h1=>Zc h1 fun itv s2 h2=>?_)) (fun _ s' hq=>wpAny_pure (wpAny_pure hq)) fun _ _ e=>e)
 obtain ⟨it,fp,tn,J,H2,e,I2,T,st2,f2,q2⟩:=h2;subst e;refine HA (RR:=fun acc C=>compPost (model X.prog X.w) X.A X.xe (some (assign (.Name y py) X.env)) (fun _ s'=>SP X pins D .next s') acc C) hc hg ht he (JX F) B.kind B.cell (Ig B.cell) fo I2 T st2 f2 q2 ?_;intro Dd C s' H' m hC Ix fC hn q;obtain ⟨f0,f1,_,f3,f4,f5⟩:=fC;show wpAny _ X.A (assign (.Name y py) X.env (.ref Dd)) _ _ _;refine wpAny_assign_Name (K2 Ix hN hiN (.inl hy) (v:=.ref Dd) rfl (fun s3 I3 ⟨a,sb,ha⟩=>?_) (.inr hy));have ne:C≠a:=by
  rcases ha with ha | ha
  ·rw [ha];exact f1
  ·exact fun z=>f4 y a ha z.symm
 refine ⟨m,hn.sameBut sb ne,fun h' sb'=>⟨_,H',?_,q⟩⟩;exact I3.turned (t':=s3.toks) (fun b o hb e=>(sb'.2 b hb).trans e) f0 f1 f3 f4 f5
theorem Vj.toT{J:It}{ix:List Nat}{tt:TT}{te:TE}{Q:VK}(h:Vj J σ ix tt te H Q):Nv J 1 (Qd 0) σ ix tt te H Q:=fun D hD=>by
 obtain ⟨W,h0,hs⟩:=h D hD;refine ⟨W,h0,fun i m H hw=>(hs i m H hw).imp id fun q=>⟨q.1,fun x H' y os ho=>?_⟩⟩
 match os,ho with
 | [_],_=>exact ⟨⟨[some x],rfl,rfl⟩,q.2 x H' y⟩
def BZ(wi:TI):TI:=fun σ H K=>∃ K0:It->Hp->Prop,wi σ H K0/\∀ J H1,K0 J H1->K J H1
theorem PI.more{tg iter:Expr}{wi:TI}(h:PI X tg iter wi):PI X tg iter (BZ wi):=fun pins s σ H R I ⟨K0,hw,f⟩=>
 wpAny_mono (h pins s σ H K0 I hw) (fun _ _ z=>wpAny_mono z (fun _ _ ⟨it,fp,tn,J,H',a,b,c,d,e,r⟩=>⟨it,fp,tn,J,H',a,b,c,d,e,f _ _ r⟩) fun _ _ z=>z) fun _ _ z=>z
theorem VR{elt iter:Expr}{x:Str}{px:Pos}{ifs:List Expr}{scope:Scope}{pos:Pos}{wi:TI}{tt:TT}{te:TE}(ix:List Nat)(ys:List Str)(hc:X.calm=true)(hi:PI X (.Name x px) iter wi)(ht:∀ C s H fp E,Q8 (WC X (x :: ys) scope (WG X.env scope.names []) C s H fp E) ifs tt)(he:∀ C s H fp E,PE (WC X (x :: ys) scope (WG X.env scope.names []) C s H fp E) elt te)(fo:YC X scope ix ys)(hk:P6 X.env scope.names=true:=by rfl)(hb:Ps scope x=true:=by rfl)(jR:(x :: ys).Nodup:=by decide +kernel)(hs:∀ x,foldedSetIterable iter X.env x=pure x:=by intro _;rfl):
  PE X (.ListComp elt [⟨.Name x px,iter,ifs,0⟩] scope pos) (GX wi ix tt te):=by
 intro pins s σ H Q I h;have hl:(relabel scope X.env).names.lookup x=some .local:=lookup_relabel_local (NA hb).own;exact Dn [x] x (g:=Qd 0) ix ys hc (fun _ _ _ _ _=>LZ (i:=0) jR rfl (Or.inl hl) (Or.inr hl)) (PI.more hi) ht he fo hk hb hs pins s σ H Q I ⟨_,h,fun _ _ z=>Vj.toT z⟩
theorem GG{elt iter:Expr}{x y:Str}{px py:Pos}{ifs:List Expr}{scope:Scope}{pos jV:Pos}{wi:TI}{tt:TT}{te:TE}{i:Nat}(ix:List Nat)(ys:List Str)(hN:X.N.Nodup)(hiN:X.N[i]? = some y)(hy:X.env.scope.names.lookup y=some .local)(hc:X.calm=true)(hi:PI X (.Name x px) iter wi)(ht:∀ C s H fp E,Q8 (WC X (x :: ys) scope (WG X.env scope.names []) C s H fp E) ifs tt)(he:∀ C s H fp E,PE (WC X (x :: ys) scope (WG X.env scope.names []) C s H fp E) elt te)(fo:YC X scope ix ys)(hsw:swapsWith (.ListComp elt [⟨.Name x px,iter,ifs,0⟩] scope pos) (some (.Name y py)) jV.line X.env=pure true:=by rfl)(hk:P6 X.env scope.names=true:=by rfl)(hb:Ps scope x=true:=by rfl)(jR:(x :: ys).Nodup:=by decide +kernel)(hs:∀ x,foldedSetIterable iter X.env x=pure x:=by intro _;rfl):
  PS X (.Assign [.Name y py] (.ListComp elt [⟨.Name x px,iter,ifs,0⟩] scope pos) jV) (IZ i (GX wi ix tt te)):=by
 intro pins s σ H D I h;have hl:(relabel scope X.env).names.lookup x=some .local:=lookup_relabel_local (NA hb).own;exact FH [x] x (g:=Qd 0) ix ys hN hiN hy hc (fun _ _ _ _ _=>LZ (i:=0) jR rfl (Or.inl hl) (Or.inr hl)) (PI.more hi) ht he fo hsw hk hb hs pins s σ H D I ⟨_,h,fun _ _ z=>Vj.toT z⟩
end
section
variable{X:Cx}
def ZQV(K:zAA):je->Hp->VK->Prop:=fun xs H Q=>∃ x n t b,xs=[x,.ty n]/\Yy K H x t/\zAZ K t (.type n)=some b/\Q (.bl b) H
theorem VW:VX X (.builtin "isinstance") (ZQV X.K):=by
 intro pins s σ H xs us Q I r h;obtain ⟨x,n,t,b,rfl,ty,e,q⟩:=h;obtain ⟨u,w',rfl,rx,rn⟩:=Oh r;cases (show w'=Value.type n from rn);exact Ba I rx ty e fun tk=>⟨.bl b,H,I.tok tk,rfl,q⟩
theorem Fa{K:zAA}:zAZ K (.type "bool") (.type "bool")=some true:=by kernel_rfl
theorem Lv{K:zAA}:zAZ K (.type "int") (.type "bool")=some false:=by kernel_rfl
theorem ZNS{K:zAA}:zAZ K (.type "str") (.type "bool")=some false:=by kernel_rfl
theorem Ea{K:zAA}:zAZ K (.type "tuple") (.type "bool")=some false:=by kernel_rfl
theorem OQ{K:zAA}:zAZ K (.type "int") (.type "int")=some true:=by kernel_rfl
theorem NX{K:zAA}:zAZ K (.type "str") (.type "int")=some false:=by kernel_rfl
theorem Oq{K:zAA}:zAZ K (.type "tuple") (.type "int")=some false:=by kernel_rfl
theorem kit_is'{K:zAA}:zAZ K (.type "int") (.type "str")=some false:=by kernel_rfl
theorem Py{K:zAA}:zAZ K (.type "str") (.type "str")=some true:=by kernel_rfl
theorem NW{K:zAA}:zAZ K (.type "tuple") (.type "str")=some false:=by kernel_rfl
theorem K4{K:zAA}:zAZ K (.type "int") (.type "tuple")=some false:=by kernel_rfl
theorem Ho{K:zAA}:zAZ K (.type "str") (.type "tuple")=some false:=by kernel_rfl
theorem Md{K:zAA}:zAZ K (.type "tuple") (.type "tuple")=some true:=by kernel_rfl
theorem WM:bootBuiltins "isinstance" = some (.builtin "isinstance"):=by decide +kernel
theorem O2:bootBuiltins "all" = some (.builtin "all"):=by decide +kernel
theorem LX:bootBuiltins "max" = some (.builtin "max"):=by decide +kernel
theorem Kf:bootBuiltins "min" = some (.builtin "min"):=by decide +kernel
theorem KD:bootBuiltins "abs" = some (.builtin "abs"):=by decide +kernel
theorem XY:bootBuiltins "len" = some (.builtin "len"):=by decide +kernel
theorem KB:bootBuiltins "bool" = some (.type "bool"):=by decide +kernel
theorem QA:bootBuiltins "int" = some (.type "int"):=by decide +kernel
theorem OM:bootBuiltins "str" = some (.type "str"):=by decide +kernel
theorem Qw:bootBuiltins "tuple" = some (.type "tuple"):=by decide +kernel
theorem Qi:bootBuiltins "list" = some (.type "list"):=by decide +kernel
theorem HW:Yp X (compareOp .LtE) (fun x y H Q=>∃ i j,x=.str i/\y=.str j/\Q (.bl (!decide (j.cps.toList<i.cps.toList))) H):=by
 intro pins s σ H x y v u Q I rx ry h;obtain ⟨i,j,rfl,rfl,q⟩:=h;obtain ⟨t,rfl⟩:=rx;obtain ⟨t',rfl⟩:=ry;exact PySem.P.le_str (Yl I q (by simp))
theorem FV(hu:X.A.units<cLine):Yp X (compareOp .Eq) (fun x y H Q=>∃ p b xs,x=.ref p/\y=.ref b/\ZL X.K H p xs/\ZL X.K H b []/\Q (.bl xs.isEmpty) H):=by
 intro pins s σ H x y v u Q I rx ry h;obtain ⟨p,b,xs,rfl,rfl,h1,h2,q⟩:=h;cases rx;cases ry;obtain ⟨ji,r1,p1,z1⟩:=I.list h1;obtain ⟨jn,r2,p2,z2⟩:=I.list h2;have l1:=r1.length;have l2:=r2.length;have e2:jn=[]:=zBZ (by rw [<-l2];rfl)
 subst e2
 cases xs with
 | nil=>
  have e1:ji=[]:=zBZ (by rw [<-l1];rfl)
  subst e1;exact PySem.SeqAt.eq_listAt (e:=fun _=>true) p1.isList p2.isList rfl hu (fun j h1 _=>absurd h1 (by simp)) (Yl I q (by simp))
 | cons x r=>exact PySem.SeqAt.eq_list_lengthsAt p1.isList p2.isList (by simp;intro e;subst e;simp at l1) hu (Yl I q rfl)
def D3(i j:Int):Prop:=0<j/\j.natAbs.log2<9000
theorem Db:Yp X (binaryOp .FloorDiv) (rI D3 fun i j=>.int (i / j)):=ON fun i j _ _ _ _ _ hc q=>by
 have h1:(0:Int)<j:=hc.1;exact floordiv_int (by lia) (by rw [zDI i (by lia)];exact q) (.inl (PyProof.noPylong_of_log2 hc.2))
theorem No(hc:X.calm=true):VX X (.builtin "all") (fun xs H Q=>∃(p:Addr)(bs:List Bool),xs=[.ref p]/\ZL X.K H p (bs.map V.bl)/\Q (.bl (bs.all id)) H):=by
 intro pins s σ H xs us Q I r h;obtain ⟨p,bs,rfl,hq,q⟩:=h;obtain ⟨u,rfl,rx⟩:=Va r;cases rx;obtain ⟨ji,rv,pl,hz⟩:=I.list hq;have hl:=rv.length;have hlt:p<s.heap.objs.size:=by obtain ⟨_,e,_⟩:=pl.isList;exact zAT e
 have jq:p≠s.heap.objs.size:=zAl hlt;have hh:=I.ok.hd hc;have tr:∀(i:Nat)(v:Value),ji.toArray[i]? = some v->v=.bool (bs.getD i true):=fun i v hv=>by
  have hv':ji[i]? = some v:=by simpa using hv
  have hi:i<ji.length:=(zAK.mp hv').1;have hb:i<bs.length:=by rw [zAD] at hl;lia
  obtain ⟨u,e1,e2⟩:=rv.get (i:=i) (x:=.bl bs[i]) (by rw [zAN,zAE hb];rfl)
  rw [hv'] at e1;cases e1;rw [show v=Value.bool bs[i] from e2,zAC,zAE hb];rfl
 refine call_all_walk (wpAny_pyIter_list pl.isList ?_);refine ⟨_,_,_,_,_,_,(fun i=>bs.getD i true),rfl,Walks.list (A:=X.A.in1) hh s.heap.objs.size p jq ji.toArray,⟨⟨_,zAU _ rfl,rfl,rfl⟩,pl.isList.push _⟩,fun i v s' Q' E' hP hQ=>?_,fun h' tk hk=>?_⟩
 ·rw [tr i v hP];exact wpAny_truthy_bool hQ
 ·have e:(zAx ji.toArray.size).all (fun i=>bs.getD i true)=bs.all id:=by
   rw [zAM,<-hl,zAD];have e2:bs.all id=((zAx bs.length).map fun i=>bs.getD i true).all id:=by rw [range_getD]
   rw [e2,zCZ];rfl
  rw [e];refine ⟨.bl (bs.all id),H,I.kept (t':=tk) fun b o eb=>hk b o ?_ (zAI _ eb),rfl,q⟩;intro hm;exact absurd (zAT eb) (by rw [zAR.mp hm];exact zBf _)
end
section
variable{prog:Program}{w:World}{A:Around}{R:Result->Shared->Prop}
end
section
variable{X:Cx}
end
def Ga(x:Str):It:=⟨fun i _=>i<x.cps.size,fun i H v H'=>H'=H/\∃ c,x.cps[i]? = some c/\v=.str ⟨#[c]⟩,fun i _=>i=x.cps.size⟩
theorem Hq{P:Program}{w:World}{K:zAA}{tg:Expr}(ty:String)(hty:["enumerate","zip","dict_itemiterator","dict_reverseitemiterator","odict_iterator","itertools.zip_longest","itertools.pairwise"].contains ty=false)(x:Str)(t:Tok)(it:Addr)(W:∀ A:Around,A.handled=none->Walks P w A it [it] [it] x.cps.size (SignAt x) (fun i h=>h.IsStrIter it ty x t i))(self:∀ (A:Around) (i:Nat) (s:Shared) (Q:ja) (E:ja),s.heap.IsStrIter it ty x t i->Q (.ref it) s->wpAny (model P w) A (pyIter (.ref it)) Q E s):
  UA P w K tg (Ga x) [it] it (fun i h=>h.IsStrIter it ty x t i) where
 mem:=by simp
 obj:=fun i h st b hb=>by
  have e:b=it:=by simpa using hb
  subst e;obtain ⟨o,e,c,d⟩:=st;exact ⟨o,e,fun v z=>by rw [d] at z;cases z⟩
 keep:=fun i h h' ⟨o,e,r⟩ k=>⟨o,k it (by simp) o e,r⟩
 item:=by
  intro X hP hw hK hc i pins s σ H E I hf st hg;subst hP hw hK;obtain ⟨f0,f1,f2,f3,f4,f5⟩:=hf it (by simp)
  refine (W X.A (I.ok.hd hc)).item i s _ _ hg st fun v h' tk hv st' kk=>?_;obtain ⟨c,u,hx,rfl⟩:=hv;have I1:ZH X pins σ H { s with heap:=h',toks:=tk }:=I.turned (fun b o hb e=>kk b o (by simpa using hb) e) f0 f1 f3 f4 f5
  obtain ⟨o,e,cl,d⟩:=id st';exact ⟨_,rfl,Om (s:={ s with heap:=h',toks:=tk }) e cl d hty ⟨.str ⟨#[c]⟩,H,I1,⟨u,rfl⟩,⟨rfl,c,hx,rfl⟩,st',fun b hb=>(hf b hb).1⟩⟩
 done:=by
  intro X hP hw hK hc i pins s σ H E I hf st hg;subst hP hw hK;obtain ⟨f0,f1,f2,f3,f4,f5⟩:=hf it (by simp)
  have hi:i=x.cps.size:=hg;subst hi;exact (W X.A (I.ok.hd hc)).done s _ _ st fun h' tk kk=>⟨rfl,I.turned (fun b o hb e=>kk b o (by simpa using hb) e) f0 f1 f3 f4 f5⟩
 self:=self
section
variable{X:Cx}{tg:Expr}
def Dw(tl:TE):TI:=fun σ H R=>tl σ H fun v H1=>∃ x,v=.str x/\R (Ga x) H1
theorem ZNw{l:Expr}{tl:TE}(hl:PE X l tl):PI X tg l (Dw tl):=by
 intro pins s σ H R I h;refine Zc (hl pins s σ H _ I h) fun v s1 ⟨z,H1,I1,r1,x,e,q⟩=>?_;subst e;obtain ⟨t,rfl⟩:=r1;have fp:∀ b∈[s1.heap.objs.size],Ws X pins H1 b:=fun b hb=>by
  rw [zAR.mp hb];exact I1.fpOk (zAH _) (I1.hok.fresh (zAH _))
 cases ha:x.cps.all (· < 128)
 ·exact wpAny_pyIter_wide ha ⟨s1.heap.objs.size,[s1.heap.objs.size],_,_,H1,rfl,I1.kept (t':=s1.toks) fun b o e=>zAI _ e,
   Hq "str_iterator" (by decide) x t _ (fun A hA=>Walks.strWide hA _ x t) (fun A i s Q E st h=>wpAny_pyIter_striter_wide st h),⟨_,zAU _ rfl,rfl,rfl⟩,fp,q⟩
 ·exact wpAny_pyIter_ascii ha ⟨s1.heap.objs.size,[s1.heap.objs.size],_,_,H1,rfl,I1.kept (t':=s1.toks) fun b o e=>zAI _ e,
   Hq "str_ascii_iterator" (by decide) x t _ (fun A hA=>Walks.strAscii hA _ x t) (fun A i s Q E st h=>wpAny_pyIter_striter_ascii st h),⟨_,zAU _ rfl,rfl,rfl⟩,fp,q⟩
end
section
variable{σ:St}{H:Hp}{ix:List Nat}{te:TE}{Q:VK}{K:zAA}
theorem VV{J:It}{n:Nat}(item:Nat->V->Prop)(Pv:Addr->Nat->je->Hp->Prop)(hn:n<sizeLine)(hgo:∀ D i ys H,i<n->Pv D i ys H->J.go i H)(hy:∀ D i ys H x H',i<n->Pv D i ys H->J.yld i H x H'->H'=H/\item i x)(jW:∀ D ys H,Pv D n ys H->J.stop n H)(h0:∀ D,H D=none->Pv D 0 [] (upd H D (.lst [])))(step:∀ D i ys H x,H D=some (.lst ys)->ys.length<=i->i<n->item i x->Pv D i ys H->∀ R:VK,(∀ y H3,H3 D=some (.lst ys)->Pv D (i+1) (ys++[y]) (upd H3 D (.lst (ys++[y])))->R y H3)->te (OP σ ix x) H R)(fin:∀ D ys H,H D=some (.lst ys)->Pv D n ys H->Q (.ref D) H):Vj J σ ix MJ te H Q:=by
 intro D hD;refine ⟨fun i m H=>m=n - i/\i<=n/\∃ ys,H D=some (.lst ys)/\ys.length<=i/\Pv D i ys H,⟨n,rfl,zAk _,[],ZO,zAH _,h0 D hD⟩,?_⟩;rintro i m H ⟨rfl,hi,ys,e,hl,p⟩;by_cases hlt:i<n
 ·refine .inr ⟨hgo D i ys H hlt p,fun x H' y=>?_⟩;obtain ⟨rfl,it⟩:=hy D i ys H x H' hlt p y;unfold MJ;dsimp only;rw [if_pos rfl];refine step D i ys _ x e hl hlt it p _ fun y H3 e3 p3=>?_;exact ⟨ys,n - (i+1),e3,by lia,by lia,rfl,hlt,ys++[y],ZO,by rw [zAG,zB3];lia,p3⟩
 ·have e':i=n:=by lia
  subst e';exact .inl ⟨jW D ys H p,fin D ys H e p⟩
end
end L2
namespace Tw
open PySem
inductive KT where
 | int (i:Int)
 | str (x:Str)
 | tup (l:List KT)
mutual
def KT.depth:KT->Nat
 | .int _=>0
 | .str _=>0
 | .tup l=>1+depthL l
def depthL:List KT->Nat
 | []=>0
 | t :: r=>max t.depth (depthL r)
end
mutual
def KT.size:KT->Nat
 | .int _=>1
 | .str _=>1
 | .tup l=>1+sizeL l
def sizeL:List KT->Nat
 | []=>0
 | t :: r=>t.size+sizeL r
end
def UJ(c:Nat):Bool:=decide (32<=c)&&decide (c<=126)
def Um(x:Str):Bool:=decide (x.length<=40)&&x.cps.toList.all UJ
mutual
def KT.fits:KT->Nat->Bool
 | .int i,_=>decide (i.natAbs<10 ^ 60)
 | .str x,_=>Um x
 | .tup l,r=>decide (0<r)&&(decide (l.length<=4)&&fitsL l (r - 1))
def fitsL:List KT->Nat->Bool
 | [],_=>true
 | t :: l,r=>t.fits r&&fitsL l r
end
theorem Ob(r:Nat):∀ l:List KT,fitsL l r=l.all fun t=>t.fits r
 | []=>by simp [fitsL]
 | t :: l=>by rw [fitsL,zDQ,Ob r l]
mutual
theorem UC:∀(t:KT)(r:Nat),t.fits r=true->t.depth<=r
 | .int _,r,_=>by rw [KT.depth];exact zAk _
 | .str _,r,_=>by rw [KT.depth];exact zAk _
 | .tup l,r,h=>by
  rw [KT.fits,zAP,zAP] at h;obtain ⟨h1,_,h3⟩:=h;have h1':0<r:=of_decide_eq_true h1;have:=fitsL_depth l (r - 1) h3;rw [KT.depth]
  lia
theorem fitsL_depth:∀(l:List KT)(r:Nat),fitsL l r=true->depthL l<=r
 | [],r,_=>by rw [depthL];exact zAk _
 | t :: l,r,h=>by
  rw [fitsL,zAP] at h;have a:=UC t r h.1;have b:=fitsL_depth l r h.2;rw [depthL]
  lia
end
def KT.things:KT->List KT
 | .tup l=>l
 | _=>[]
def below(l:List KT):List KT:=l.flatMap KT.things
end Tw
namespace Tw
open PySem PySem.Spec L2
structure ZA(P:Program)(w:World)(K:zAA)(mg:jb)(base:Heap)(k:Nat)(x:Str)(ps:List Str)(sp:Sp):Prop where
 ex:∃ f fd,ZK P w K mg base ZW k f fd ps sp/\Zu K fd ps []/\zAm K (.ref f)=true/\mg x=some (.ref f)
theorem Zh{X:Cx}{k:Nat}{x:Str}{ps:List Str}{sp:Sp}{e:Expr}{es:List Expr}{t:TA}{p pos:Pos}(D:ZA X.prog X.w X.K X.mg X.base k x ps sp)(hr:ZY k X.A)(ha:PA X (e :: es) t)(hg:Gl X x:=by rfl)(jy:(x==("__debug__" : Str))=false:=by decide)(he:starEach (e :: es) X.env=(false,eval e X.env) :: starEach es X.env:=by rfl)(jv:(backTo pos (starEach es X.env)).any (·.1)=false:=by rfl):
  PE X (.Call (.Name x p) (e :: es) [] pos) (OY sp [] E0 t):=by
 obtain ⟨f,fd,F,b,kp,m⟩:=D.ex;exact MT F hr hg m kp b .nil XE ha jy he jv
mutual
def ZD(H:Hp):KT->V->Prop
 | .int i,v=>v=.int i
 | .str x,v=>v=.str x
 | .tup l,v=>∃ a vs,v=.ref a/\H a=some (.tup vs)/\KeysAt H l vs
def KeysAt(H:Hp):List KT->je->Prop
 | [],vs=>vs=[]
 | t :: l,vs=>∃ v r,vs=v :: r/\ZD H t v/\KeysAt H l r
end
def Z2(H H':Hp):Prop:=∀ b xs,H b=some (.tup xs)->H' b=some (.tup xs)
mutual
theorem ZD.mono{H H':Hp}(m:Z2 H H'):∀(t:KT)(v:V),ZD H t v->ZD H' t v
 | .int _,_,h=>by rw [ZD] at h ⊢;exact h
 | .str _,_,h=>by rw [ZD] at h ⊢;exact h
 | .tup l,_,h=>by
  rw [ZD] at h ⊢;obtain ⟨a,vs,e,h1,h2⟩:=h;exact ⟨a,vs,e,m a vs h1,KeysAt.mono m l vs h2⟩
theorem KeysAt.mono{H H':Hp}(m:Z2 H H'):∀(l:List KT)(vs:je),KeysAt H l vs->KeysAt H' l vs
 | [],_,h=>by rw [KeysAt] at h ⊢;exact h
 | t :: l,_,h=>by
  rw [KeysAt] at h ⊢;obtain ⟨v,r,e,h1,h2⟩:=h;exact ⟨v,r,e,ZD.mono m t v h1,KeysAt.mono m l r h2⟩
end
theorem KeysAt.nil{H:Hp}:KeysAt H [] []:=by rw [KeysAt]
theorem KeysAt.cons{H:Hp}{t:KT}{l:List KT}{v:V}{r:je}(h:ZD H t v)(hr:KeysAt H l r):KeysAt H (t :: l) (v :: r):=by
 rw [KeysAt];exact ⟨v,r,rfl,h,hr⟩
theorem ZD.tup{H:Hp}{a:Addr}{vs:je}{l:List KT}(e:H a=some (.tup vs))(h:KeysAt H l vs):ZD H (.tup l) (.ref a):=by
 rw [ZD];exact ⟨a,vs,rfl,e,h⟩
theorem ZD.int{H:Hp}(i:Int):ZD H (.int i) (.int i):=by rw [ZD]
theorem ZD.str{H:Hp}(x:Str):ZD H (.str x) (.str x):=by rw [ZD]
theorem KeysAt.append{H:Hp}:∀{l m:List KT}{vs ws:je},KeysAt H l vs->KeysAt H m ws->KeysAt H (l++m) (vs++ws)
 | [],m,vs,ws,h,g=>by rw [KeysAt] at h;subst h;exact g
 | t :: l,m,vs,ws,h,g=>by
  rw [KeysAt] at h;obtain ⟨v,r,rfl,h1,h2⟩:=h;exact .cons h1 (h2.append g)
theorem KeysAt.length{H:Hp}:∀{l:List KT}{vs:je},KeysAt H l vs->l.length=vs.length
 | [],vs,h=>by rw [KeysAt] at h;subst h;rfl
 | t :: l,vs,h=>by
  rw [KeysAt] at h;obtain ⟨v,r,rfl,_,h2⟩:=h;rw [zAW,zAW,h2.length]
theorem KeysAt.get{H:Hp}:∀{l:List KT}{vs:je}{i:Nat}{v:V},KeysAt H l vs->vs[i]? = some v->∃ t,l[i]? = some t/\ZD H t v
 | [],vs,i,v,h,e=>by rw [KeysAt] at h;subst h;simp at e
 | t :: l,vs,0,v,h,e=>by
  rw [KeysAt] at h;obtain ⟨v',r,rfl,h1,_⟩:=h;simp at e;subst e;exact ⟨t,rfl,h1⟩
 | t :: l,vs,i+1,v,h,e=>by
  rw [KeysAt] at h;obtain ⟨v',r,rfl,_,h2⟩:=h;obtain ⟨t',e1,e2⟩:=h2.get (i:=i) (by simpa using e)
  exact ⟨t',by simpa using e1,e2⟩
theorem KeysAt.take{H:Hp}:∀{l:List KT}{vs:je}(n:Nat),KeysAt H l vs->KeysAt H (l.take n) (vs.take n)
 | l,vs,0,_=>by simp only [zDG];exact .nil
 | [],vs,n+1,h=>by rw [KeysAt] at h;subst h;exact .nil
 | t :: l,vs,n+1,h=>by
  rw [KeysAt] at h;obtain ⟨v',r,rfl,h1,h2⟩:=h;exact .cons h1 (h2.take n)
theorem KeysAt.drop{H:Hp}:∀{l:List KT}{vs:je}(n:Nat),KeysAt H l vs->KeysAt H (l.drop n) (vs.drop n)
 | l,vs,0,h=>h
 | [],vs,n+1,h=>by rw [KeysAt] at h;subst h;exact .nil
 | t :: l,vs,n+1,h=>by
  rw [KeysAt] at h;obtain ⟨v',r,rfl,h1,h2⟩:=h;exact h2.drop n
def KT.ty:KT->Value
 | .int _=>.type "int"
 | .str _=>.type "str"
 | .tup _=>.type "tuple"
theorem ZD.ty{H:Hp}{K:zAA}{t:KT}{v:V}(h:ZD H t v):Yy K H v t.ty:=by
 cases t with
 | int i=>rw [ZD] at h;subst h;exact .int i
 | str x=>rw [ZD] at h;subst h;exact .str x
 | tup l=>rw [ZD] at h;obtain ⟨a,vs,rfl,e,_⟩:=h;exact .tup e
def ZE(p:Addr)(H H':Hp):Prop:=∀ b o,H b=some o->b≠p->H' b=some o
theorem ZE.refl(p:Addr)(H:Hp):ZE p H H:=fun _ _ h _=>h
theorem ZE.trans{p:Addr}{H H1 H2:Hp}(a:ZE p H H1)(b:ZE p H1 H2):ZE p H H2:=fun c o h n=>b c o (a c o h n) n
theorem ZE.upd{p:Addr}{H H':Hp}{o:HO}(a:ZE p H H'):ZE p H (L2.upd H' p o):=fun c u h n=>by rw [ZV n];exact a c u h n
theorem ZE.of{p:Addr}{H H':Hp}(a:ZB H H'):ZE p H H':=fun c o h _=>a c o h
theorem ZE.tups{p:Addr}{H H':Hp}{xs:je}(a:ZE p H H')(h:H p=some (.lst xs)):Z2 H H':=fun b ys e=>a b _ e (ZT e h)
theorem ZB.tups{H H':Hp}(a:ZB H H'):Z2 H H':=fun b ys e=>a b _ e
theorem ZX{H:Hp}{p:Addr}(h:H p=none)(o:HO):ZB H (L2.upd H p o):=fun b u q=>by rw [ZV (Zb q h)];exact q
structure ZI(H:Hp)(p:Addr):Prop where
 ex:∃ a b c d:Int,H p=some (.lst [.int a,.int b,.int c,.int d])/\0<=a/\a<2147483647/\0<=c/\0<=d
theorem ZI.stay{H H':Hp}{p q:Addr}(w:ZI H p)(s:ZE q H H')(n:p≠q):ZI H' p:=by
 obtain ⟨a,b,c,d,e,r⟩:=w.ex;exact ⟨a,b,c,d,s p _ e n,r⟩
theorem ZI.same{H H':Hp}{p:Addr}(w:ZI H p)(s:ZB H H'):ZI H' p:=by
 obtain ⟨a,b,c,d,e,r⟩:=w.ex;exact ⟨a,b,c,d,s p _ e,r⟩
theorem ZI.some{H:Hp}{p:Addr}(w:ZI H p):∃ xs,H p=zAj (.lst xs):=by
 obtain ⟨a,b,c,d,e,r⟩:=w.ex;exact ⟨_,e⟩
theorem ZE.tupsW{p:Addr}{H H':Hp}(a:ZE p H H')(w:ZI H p):Z2 H H':=by
 obtain ⟨xs,e⟩:=w.some;exact a.tups e
def Ge(m:Int):Prop:=0<m/\m.natAbs.log2<9000
inductive WA(K:zAA)(vs:je)(H:Hp)(Q:VK)(_:XK):Prop
 | mk (a:Addr) (ns:List Int) (k:Int) (_:vs=[.ref a,.int k]) (_:ZL K H a (ns.map V.int)) (_:ns.length<=63) (_:0<=k) (_:k<=1000) (_:∀(p:Addr)(H':Hp),H p=none->ZB H H'->ZI H' p->Q (.ref p) H')
inductive Zp(vs:je)(H:Hp)(Q:VK)(_:XK):Prop
 | mk (p:Addr) (m:Int) (_:vs=[.ref p,.int m]) (_:ZI H p) (_:Ge m) (_:∀(r:Int)(H':Hp),0<=r->r<m->ZI H' p->ZE p H H'->Q (.int r) H')
inductive X7(vs:je)(H:Hp)(Q:VK)(_:XK):Prop
 | mk (p:Addr) (_:vs=[.ref p]) (_:ZI H p) (_:∀(x:Str)(H':Hp),Um x=true->ZI H' p->ZE p H H'->Q (.str x) H')
inductive Y5(n:Nat)(vs:je)(H:Hp)(Q:VK)(_:XK):Prop
 | mk (p:Addr) (r:Nat) (_:vs=[.ref p,.int (r:Int)]) (_:ZI H p) (_:r<n) (_:∀(v:V)(t:KT)(H':Hp),ZD H' t v->t.fits r=true->ZI H' p->ZE p H H'->Q v H')
inductive V1(vs:je)(H:Hp)(Q:VK)(_:XK):Prop
 | mk (i:Int) (_:vs=[.int i]) (_:Q (.bl (decide (i.natAbs<10 ^ 60))) H)
inductive WX(vs:je)(H:Hp)(Q:VK)(_:XK):Prop
 | mk (c:Nat) (_:vs=[.str ⟨#[c]⟩]) (_:Q (.bl (UJ c)) H)
inductive V3(vs:je)(H:Hp)(Q:VK)(_:XK):Prop
 | mk (v:V) (t:KT) (q:Nat) (_:vs=[v]) (_:ZD H t v) (_:t.fits q=true) (_:∀ H',ZB H H'->Q (.bl (t.fits 3)) H')
theorem nn{n:Nat}(h:n<=1000):n<=sizeLine:=zBJ (XG h)
theorem KP{x y:V}{i:Int}(h0:0<=i)(h1:i<2):∃ v,Xq [x,y] i=some v/\(v=x\/v=y):=by
 rcases (show i=0\/i=1 by lia) with e | e
 ·subst e;exact ⟨x,rfl,.inl rfl⟩
 ·subst e;exact ⟨y,rfl,.inr rfl⟩
theorem Q2{α:Type}{xs:List α}{i:Int}(h0:0<=i)(h1:i<(xs.length:Int)):∃ v,Xq xs i=some v/\v∈xs:=by
 have hk:i.toNat<xs.length:=by lia
 have e:i=((i.toNat:Nat):Int):=by lia
 rw [e];exact ⟨xs[i.toNat],Yz (zAE hk),zAy hk⟩
theorem XI{m:Int}(h0:0<m)(h1:m.natAbs<2 ^ 250):Ge m:=by
 refine ⟨h0,?_⟩;have:m.natAbs.log2<250:=(Nat.log2_lt (by lia)).mpr h1
 lia
theorem Pp{i j:Int}(h:V.int i=V.int j):i=j:=by injection h
theorem ZKo(c:Nat):((!decide ([c]<[32])) && !decide ([126]<[c]))=UJ c:=by
 unfold UJ;have a:([c]<[32]) ↔ c<32:=by simp [zBe]
 have b:([126]<[c]) ↔ 126<c:=by simp [zBe]
 rw [zBw];simp only [zAP,Bool.not_eq_true',decide_eq_false_iff_not,decide_eq_true_eq,a,b]
 lia
theorem Bw(i:Int):decide ((if i<0 then -i else i)<10 ^ (60:Int).toNat)=decide (i.natAbs<10 ^ 60):=by
 have e:((10:Int) ^ (60:Int).toNat)=((10 ^ 60:Nat):Int):=by decide +kernel
 rw [e];generalize (10 ^ 60:Nat)=N;apply decide_eq_decide.mpr;split <;> lia
end Tw
namespace Tw
open PySem
mutual
def KT.eqb:KT->KT->Bool
 | .int i,.int j=>i==j
 | .str x,.str y=>x==y
 | .tup l,.tup m=>eqbL l m
 | _,_=>false
def eqbL:List KT->List KT->Bool
 | [],[]=>true
 | a :: l,b :: m=>a.eqb b&&eqbL l m
 | _,_=>false
end
mutual
def KT.plt:KT->KT->Bool
 | .int i,.int j=>decide (i<j)
 | .str x,.str y=>decide (x.cps.toList<y.cps.toList)
 | .tup l,.tup m=>pltL l m
 | _,_=>false
def pltL:List KT->List KT->Bool
 | [],[]=>false
 | [],_ :: _=>true
 | _ :: _,[]=>false
 | a :: l,b :: m=>if a.eqb b=true then pltL l m else a.plt b
end
mutual
def KT.cmp:KT->KT->Bool
 | .int _,.int _=>true
 | .str _,.str _=>true
 | .tup l,.tup m=>cmpL l m
 | _,_=>false
def cmpL:List KT->List KT->Bool
 | [],_=>true
 | _ :: _,[]=>true
 | a :: l,b :: m=>if a.eqb b=true then cmpL l m else a.cmp b
end
def KT.kind:KT->Nat
 | .int _=>0
 | .str _=>1
 | .tup _=>2
mutual
def KT.lt:KT->KT->Bool
 | .int i,.int j=>decide (i<j)
 | .int _,.str _=>true
 | .int _,.tup _=>true
 | .str _,.int _=>false
 | .str x,.str y=>decide (x.cps.toList<y.cps.toList)
 | .str _,.tup _=>true
 | .tup _,.int _=>false
 | .tup _,.str _=>false
 | .tup l,.tup m=>ltL l m
def ltL:List KT->List KT->Bool
 | [],[]=>false
 | [],_ :: _=>true
 | _ :: _,[]=>false
 | a :: l,b :: m=>if a.eqb b=true then ltL l m else a.lt b
end
mutual
def KT.st:KT->KT
 | .int i=>.tup [.int 0,.int i]
 | .str x=>.tup [.int 1,.str x]
 | .tup l=>.tup [.int 2,.tup (stL l)]
def stL:List KT->List KT
 | []=>[]
 | t :: l=>t.st :: stL l
end
theorem Jd:∀ l:List KT,stL l=l.map KT.st
 | []=>by rw [stL];rfl
 | t :: l=>by rw [stL,Jd l];rfl
mutual
theorem U8:∀(a b:KT),a.eqb b=true->a=b
 | .int i,.int j,h=>by rw [KT.eqb] at h;rw [eq_of_beq h]
 | .str x,.str y,h=>by rw [KT.eqb] at h;rw [eq_of_beq h]
 | .tup l,.tup m,h=>by rw [KT.eqb] at h;rw [eqbL_eq l m h]
 | .int _,.str _,h=>by simp [KT.eqb] at h
 | .int _,.tup _,h=>by simp [KT.eqb] at h
 | .str _,.int _,h=>by simp [KT.eqb] at h
 | .str _,.tup _,h=>by simp [KT.eqb] at h
 | .tup _,.int _,h=>by simp [KT.eqb] at h
 | .tup _,.str _,h=>by simp [KT.eqb] at h
theorem eqbL_eq:∀(l m:List KT),eqbL l m=true->l=m
 | [],[],_=>rfl
 | a :: l,b :: m,h=>by
  rw [eqbL,zAP] at h;rw [U8 a b h.1,eqbL_eq l m h.2]
 | [],_ :: _,h=>by simp [eqbL] at h
 | _ :: _,[],h=>by simp [eqbL] at h
end
mutual
theorem UZ:∀ a:KT,a.eqb a=true
 | .int i=>by rw [KT.eqb];exact beq_self_eq_true i
 | .str x=>by rw [KT.eqb];exact beq_self_eq_true x
 | .tup l=>by rw [KT.eqb];exact eqbL_self l
theorem eqbL_self:∀ l:List KT,eqbL l l=true
 | []=>by rw [eqbL]
 | a :: l=>by rw [eqbL,UZ a,eqbL_self l];rfl
end
theorem Y0{a b:KT}:a.eqb b=true ↔ a=b:=⟨U8 a b,fun e=>by rw [e];exact UZ b⟩
mutual
theorem Kn:∀ a b:KT,a.st.eqb b.st=a.eqb b
 | .int i,.int j=>by simp [KT.st,KT.eqb,eqbL]
 | .str x,.str y=>by simp [KT.st,KT.eqb,eqbL]
 | .tup l,.tup m=>by simp [KT.st,KT.eqb,eqbL,eqbL_st l m]
 | .int _,.str _=>by simp [KT.st,KT.eqb,eqbL]
 | .int _,.tup _=>by simp [KT.st,KT.eqb,eqbL]
 | .str _,.int _=>by simp [KT.st,KT.eqb,eqbL]
 | .str _,.tup _=>by simp [KT.st,KT.eqb,eqbL]
 | .tup _,.int _=>by simp [KT.st,KT.eqb,eqbL]
 | .tup _,.str _=>by simp [KT.st,KT.eqb,eqbL]
theorem eqbL_st:∀ l m:List KT,eqbL (stL l) (stL m)=eqbL l m
 | [],[]=>by simp [stL,eqbL]
 | a :: l,b :: m=>by simp [stL,eqbL,Kn a b,eqbL_st l m]
 | [],_ :: _=>by simp [stL,eqbL]
 | _ :: _,[]=>by simp [stL,eqbL]
end
theorem JI:∀ l:List KT,ltL l l=false
 | []=>by rw [ltL]
 | a :: l=>by rw [ltL,UZ a,if_pos rfl,JI l]
theorem JF{l m:List KT}(h:eqbL l m=true):ltL l m=false:=by
 rw [eqbL_eq l m h];exact JI m
mutual
theorem J7:∀ a b:KT,a.st.cmp b.st=true
 | .int i,.int j=>by simp [KT.st,KT.eqb,KT.cmp,cmpL]
 | .str x,.str y=>by simp [KT.st,KT.eqb,KT.cmp,cmpL]
 | .tup l,.tup m=>by simp [KT.st,KT.eqb,KT.cmp,cmpL,cmpL_st l m]
 | .int _,.str _=>by simp [KT.st,KT.eqb,KT.cmp,cmpL]
 | .int _,.tup _=>by simp [KT.st,KT.eqb,KT.cmp,cmpL]
 | .str _,.int _=>by simp [KT.st,KT.eqb,KT.cmp,cmpL]
 | .str _,.tup _=>by simp [KT.st,KT.eqb,KT.cmp,cmpL]
 | .tup _,.int _=>by simp [KT.st,KT.eqb,KT.cmp,cmpL]
 | .tup _,.str _=>by simp [KT.st,KT.eqb,KT.cmp,cmpL]
theorem cmpL_st:∀ l m:List KT,cmpL (stL l) (stL m)=true
 | [],_=>by simp [stL,cmpL]
 | _ :: _,[]=>by simp [stL,cmpL]
 | a :: l,b :: m=>by
  rw [stL,stL,cmpL,cmpL_st l m,J7 a b];split <;> rfl
end
mutual
theorem HB:∀ a b:KT,a.st.plt b.st=a.lt b
 | .int i,.int j=>by
  simp only [KT.st,KT.eqb,KT.plt,pltL,KT.lt,beq_self_eq_true,if_true];by_cases h:i=j
  ·subst h;simp
  ·simp [h]
 | .str x,.str y=>by
  simp only [KT.st,KT.eqb,KT.plt,pltL,KT.lt,beq_self_eq_true,if_true];by_cases h:x=y
  ·subst h;simp
  ·simp [h]
 | .tup l,.tup m=>by
  simp only [KT.st,KT.eqb,KT.plt,pltL,KT.lt,beq_self_eq_true,if_true,eqbL_st,pltL_st l m]
  cases h:eqbL l m with
  | true=>rw [if_pos rfl,JF h]
  | false=>rw [if_neg zAF]
 | .int _,.str _=>by simp [KT.st,KT.eqb,KT.plt,pltL,KT.lt]
 | .int _,.tup _=>by simp [KT.st,KT.eqb,KT.plt,pltL,KT.lt]
 | .str _,.int _=>by simp [KT.st,KT.eqb,KT.plt,pltL,KT.lt]
 | .str _,.tup _=>by simp [KT.st,KT.eqb,KT.plt,pltL,KT.lt]
 | .tup _,.int _=>by simp [KT.st,KT.eqb,KT.plt,pltL,KT.lt]
 | .tup _,.str _=>by simp [KT.st,KT.eqb,KT.plt,pltL,KT.lt]
theorem pltL_st:∀ l m:List KT,pltL (stL l) (stL m)=ltL l m
 | [],[]=>by simp [stL,pltL,ltL]
 | [],_ :: _=>by simp [stL,pltL,ltL]
 | _ :: _,[]=>by simp [stL,pltL,ltL]
 | a :: l,b :: m=>by rw [stL,stL,pltL,ltL,Kn a b,pltL_st l m,HB a b]
end
mutual
theorem GF:∀ t:KT,t.st.depth<=2 * t.depth+1
 | .int i=>by simp [KT.st,KT.depth,depthL]
 | .str x=>by simp [KT.st,KT.depth,depthL]
 | .tup l=>by
  have:=depthL_st l;simp only [KT.st,KT.depth,depthL]
  lia
theorem depthL_st:∀ l:List KT,depthL (stL l)<=2 * depthL l+1
 | []=>by simp [stL,depthL]
 | t :: l=>by
  have a:=GF t;have b:=depthL_st l;rw [stL,depthL,depthL]
  lia
end
theorem G7{x:Str}(h:Um x=true):x.cps.size<=40/\x.cps.toList.all UJ=true:=by
 unfold Um at h;rw [zAP] at h;exact ⟨of_decide_eq_true h.1,h.2⟩
end Tw
namespace Tw
open PySem PySem.Spec L2 PyProof.Rows
mutual
def ZP(h:Heap):KT->Value->Prop
 | .int i,v=>∃ t,v=.int i t
 | .str x,v=>∃ t,v=.str x t
 | .tup l,v=>∃(a:Addr)(ji:jd),v=.ref a/\IsTup h a ji.toArray/\KVals h l ji
def KVals(h:Heap):List KT->jd->Prop
 | [],vs=>vs=[]
 | t :: l,vs=>∃ v r,vs=v :: r/\ZP h t v/\KVals h l r
end
section
variable{X:Cx}{pins:List (Addr×Obj)}{σ:L2.St}{H:Hp}{s:Shared}
mutual
theorem U5(I:ZH X pins σ H s):∀(t:KT)(x:V)(v:Value),ZD H t x->ZS x v->ZP s.heap t v
 | .int i,x,v,h,r=>by
  rw [ZD] at h;subst h;rw [ZP];exact r
 | .str y,x,v,h,r=>by
  rw [ZD] at h;subst h;rw [ZP];exact r
 | .tup l,x,v,h,r=>by
  rw [ZD] at h;obtain ⟨a,vs,rfl,e,hk⟩:=h;obtain ⟨ji,rv,pl,_⟩:=I.tuple (Zn.of e);rw [ZP];exact ⟨a,ji,r,pl,kvals_of I l vs ji hk rv⟩
theorem kvals_of(I:ZH X pins σ H s):∀(l:List KT)(vs:je)(us:jd),KeysAt H l vs->ZN vs us->KVals s.heap l us
 | [],vs,us,h,r=>by
  rw [KeysAt] at h;subst h;rw [KVals];cases r;rfl
 | t :: l,vs,us,h,r=>by
  rw [KeysAt] at h;obtain ⟨v,q,rfl,h1,h2⟩:=h
  cases r with
  | cons r1 r2=>
   rw [KVals];exact ⟨_,_,rfl,U5 I t v _ h1 r1,kvals_of I l q _ h2 r2⟩
end
end
theorem Cj{h:Heap}{a:Addr}{ji its':jd}(x:IsTup h a ji.toArray)(y:IsTup h a its'.toArray):ji=its':=by
 obtain ⟨o,e,_,n,d⟩:=x;obtain ⟨o',e',_,n',d'⟩:=y;rw [e] at e';cases e';rw [d] at d';injection d' with d1 _;simpa using congrArg zDV d1
mutual
theorem ZP.inj{h:Heap}:∀(a b:KT)(v:Value),ZP h a v->ZP h b v->a.eqb b=true
 | .int i,b,v,x,y=>by
  rw [ZP] at x;obtain ⟨t,rfl⟩:=x
  cases b with
  | int j=>rw [ZP] at y;obtain ⟨u,e⟩:=y;injection e with e _;rw [KT.eqb,e];exact beq_self_eq_true j
  | str z=>rw [ZP] at y;obtain ⟨u,e⟩:=y;cases e
  | tup m=>rw [ZP] at y;obtain ⟨_,_,e,_⟩:=y;cases e
 | .str w,b,v,x,y=>by
  rw [ZP] at x;obtain ⟨t,rfl⟩:=x
  cases b with
  | int j=>rw [ZP] at y;obtain ⟨u,e⟩:=y;cases e
  | str z=>rw [ZP] at y;obtain ⟨u,e⟩:=y;injection e with e _;rw [KT.eqb,e];exact beq_self_eq_true z
  | tup m=>rw [ZP] at y;obtain ⟨_,_,e,_⟩:=y;cases e
 | .tup l,b,v,x,y=>by
  rw [ZP] at x;obtain ⟨p,ji,rfl,px,kx⟩:=x
  cases b with
  | int j=>rw [ZP] at y;obtain ⟨u,e⟩:=y;cases e
  | str z=>rw [ZP] at y;obtain ⟨u,e⟩:=y;cases e
  | tup m=>
   rw [ZP] at y;obtain ⟨q,its',e,py,ky⟩:=y;cases e;cases Cj px py;rw [KT.eqb];exact KVals.inj l m ji kx ky
theorem KVals.inj{h:Heap}:∀(l m:List KT)(us:jd),KVals h l us->KVals h m us->eqbL l m=true
 | [],m,us,x,y=>by
  rw [KVals] at x;subst x
  cases m with
  | nil=>rw [eqbL]
  | cons b m=>rw [KVals] at y;obtain ⟨_,_,e,_⟩:=y;cases e
 | a :: l,m,us,x,y=>by
  rw [KVals] at x;obtain ⟨v,r,rfl,x1,x2⟩:=x
  cases m with
  | nil=>rw [KVals] at y;cases y
  | cons b m=>
   rw [KVals] at y;obtain ⟨v',r',e,y1,y2⟩:=y;injection e with e1 e2;subst e1 e2;rw [eqbL,ZP.inj a b v x1 y1,KVals.inj l m r x2 y2];rfl
end
theorem KVals.length{h:Heap}:∀{l:List KT}{us:jd},KVals h l us->l.length=us.length
 | [],us,x=>by rw [KVals] at x;subst x;rfl
 | a :: l,us,x=>by
  rw [KVals] at x;obtain ⟨v,r,rfl,_,x2⟩:=x;rw [zAW,zAW,x2.length]
theorem KVals.get{h:Heap}:∀{l:List KT}{us:jd}{j:Nat}{u:Value},KVals h l us->us[j]? = some u->∃ t,l[j]? = some t/\ZP h t u
 | [],us,j,u,x,e=>by rw [KVals] at x;subst x;simp at e
 | a :: l,us,0,u,x,e=>by
  rw [KVals] at x;obtain ⟨v,r,rfl,x1,_⟩:=x;simp at e;subst e;exact ⟨a,rfl,x1⟩
 | a :: l,us,j+1,u,x,e=>by
  rw [KVals] at x;obtain ⟨v,r,rfl,_,x2⟩:=x;obtain ⟨t,e1,e2⟩:=x2.get (j:=j) (by simpa using e)
  exact ⟨t,by simpa using e1,e2⟩
theorem Qx:∀{l:List KT}{t:KT},t∈l->t.depth<=depthL l
 | [],_,h=>by cases h
 | u :: l,t,h=>by
  rw [depthL];rcases zAe.mp h with e | h
  ·subst e;lia
  ·have:=Qx h;lia
theorem NN:∀(l m:List KT),((zAx (min l.length m.length)).all (fun j=>(l.getD j (.int 0)).eqb (m.getD j (.int 0)))&&l.length==m.length)=eqbL l m
 | [],[]=>by simp [eqbL]
 | [],_ :: _=>by simp [eqbL]
 | _ :: _,[]=>by simp [eqbL]
 | a :: l,b :: m=>by
  have ih:=NN l m;have e:min (a :: l).length (b :: m).length=min l.length m.length+1:=by simp only [zAW];lia
  rw [e,zDU,zDQ,zCZ,eqbL,<-ih,Bool.and_assoc];simp [Function.comp_def]
theorem OR{s:Shared}:∀(n:Nat)(a b:KT)(A:Around)(v u:Value),a.depth<=n->ZP s.heap a v->ZP s.heap b u->A.units+a.depth<cLine->SeqAt.EqAt A s v u (a.eqb b)
 | n,.int i,b,A,v,u,_,x,y,hu=>by
  rw [ZP] at x;obtain ⟨t,rfl⟩:=x;have hu':A.units<cLine:=by lia
  cases b with
  | int j=>rw [ZP] at y;obtain ⟨t',rfl⟩:=y;rw [KT.eqb];exact SeqAt.EqAt.int_int i t j t'
  | str z=>rw [ZP] at y;obtain ⟨t',rfl⟩:=y;rw [show (KT.int i).eqb (.str z)=false by simp [KT.eqb]];exact SeqAt.EqAt.int_str i t z t'
  | tup m=>rw [ZP] at y;obtain ⟨p,ji,rfl,py,_⟩:=y;rw [show (KT.int i).eqb (.tup m)=false by simp [KT.eqb]];exact SeqAt.EqAt.int_tuple i t py hu'
 | n,.str w,b,A,v,u,_,x,y,hu=>by
  rw [ZP] at x;obtain ⟨t,rfl⟩:=x;have hu':A.units<cLine:=by lia
  cases b with
  | int j=>rw [ZP] at y;obtain ⟨t',rfl⟩:=y;rw [show (KT.str w).eqb (.int j)=false by simp [KT.eqb]];exact SeqAt.EqAt.str_int w t j t'
  | str z=>rw [ZP] at y;obtain ⟨t',rfl⟩:=y;rw [KT.eqb];exact SeqAt.EqAt.str_str w t z t'
  | tup m=>rw [ZP] at y;obtain ⟨p,ji,rfl,py,_⟩:=y;rw [show (KT.str w).eqb (.tup m)=false by simp [KT.eqb]];exact SeqAt.EqAt.str_tuple w t py hu'
 | 0,.tup l,b,A,v,u,hn,x,y,hu=>by
  rw [KT.depth] at hn
  lia
 | n+1,.tup l,b,A,v,u,hn,x,y,hu=>by
  have x':=x;rw [ZP] at x;obtain ⟨p,ji,rfl,px,kx⟩:=x;rw [KT.depth] at hn hu;have hu':A.units<cLine:=by lia
  cases b with
  | int j=>rw [ZP] at y;obtain ⟨t',rfl⟩:=y;rw [show (KT.tup l).eqb (.int j)=false by simp [KT.eqb]];exact SeqAt.EqAt.tuple_int j t' px hu'
  | str z=>rw [ZP] at y;obtain ⟨t',rfl⟩:=y;rw [show (KT.tup l).eqb (.str z)=false by simp [KT.eqb]];exact SeqAt.EqAt.tuple_str z t' px hu'
  | tup m=>
   have y':=y;rw [ZP] at y;obtain ⟨q,its',rfl,py,ky⟩:=y;by_cases hpq:p=q
   ·subst hpq;rw [ZP.inj _ _ _ x' y'];exact SeqAt.EqAt.same _
   ·have lx:=kx.length;have ly:=ky.length;have rc:=SeqAt.RcAt.tuples (A:=A) (s:=s) (e:=fun j=>(l.getD j (.int 0)).eqb (m.getD j (.int 0))) px py hu' (fun j h1 h2=>by
     have h1':j<ji.length:=by simpa using h1
     have h2':j<its'.length:=by simpa using h2
     obtain ⟨t1,e1,k1⟩:=kx.get (j:=j) (u:=ji[j]) (by simp [h1'])
     obtain ⟨t2,e2,k2⟩:=ky.get (j:=j) (u:=its'[j]) (by simp [h2'])
     have d1:=Qx (zAJ e1);have g1:l.getD j (.int 0)=t1:=by rw [zAC,e1];rfl
     have g2:m.getD j (.int 0)=t2:=by rw [zAC,e2];rfl
     have:=OR n t1 t2 A.in1 ji[j] its'[j] (by lia) k1 k2 (by show A.units+1+t1.depth<cLine;lia)
     show SeqAt.EqAt A.in1 s _ _ ((l.getD j (.int 0)).eqb (m.getD j (.int 0)));rw [g1,g2];simpa using this)
    have er:((zAx (min ji.toArray.size its'.toArray.size)).all (fun j=>(l.getD j (.int 0)).eqb (m.getD j (.int 0)))&&ji.toArray.size==its'.toArray.size)=(KT.tup l).eqb (.tup m):=by
     rw [zAM,zAM,<-lx,<-ly,KT.eqb];exact NN l m
    rw [er] at rc;exact .of_refs hpq rc
def Je(A:Around)(s:Shared)(v u:Value)(b:Bool):Prop:=
 ∀(prog:Program)(w:World)(E:ja)(Q:ja),Q (.bool b) s->wpAny (model prog w) A (richCompare .Lt v u) Q E s
section
open PySem.SeqAt
open PySem.AutoSeq1 (wpAny_loadPart')
open PySem.MeetsSeq PySem.MeetsSeq2 PySem.MeetsSeq3
theorem Bo(l b:Addr)(items jx:Array Value)(n n2:Nat)(dd dd2:Option Addr)(sl jJ:Array (jc))(ts us:List KT):
  Meets (Builtin.«tuple.__lt__» ⟨[.ref l,.ref b],[]⟩)
   (fun A R s=>s.heap.get? l=some { cls:=.type "tuple",dict:=dd,data:=.seq items n,slots:=sl }/\s.heap.get? b=some { cls:=.type "tuple",dict:=dd2,data:=.seq jx n2,slots:=jJ } /\
    KVals s.heap ts items.toList/\KVals s.heap us jx.toList/\cmpL ts us=true /\
    (∀ x y v u,x∈ts->ZP s.heap x v->ZP s.heap y u->EqAt A.in1 s v u (x.eqb y))/\(∀ x y v u,x∈ts->ZP s.heap x v->ZP s.heap y u->x.cmp y=true->Je A.in1 s v u (x.plt y)) /\
    R (.ok (.ret (.bool (pltL ts us)))) s):=
 .of_wp fun prog w A R s h=>by
  obtain ⟨hp,g,d,tk,os⟩:=s;obtain ⟨hl,hb,hi,hj,hc,hE,hL,h⟩:=h;have f2:=AutoSeq1.sub_tuple_tuple;have z1:items.size=ts.length:=by rw [hi.length];simp
  have z2:jx.size=us.length:=by rw [hj.length];simp
  wp_walk using wpAny_loadPart' hl,wpAny_loadPart' hb,wpAny_forIn_list _ (fun rest b s'=>b.1=none/\s'=⟨hp,g,d,tk,os⟩/\∃(vs ws:jd)(ts' us':List KT),rest=vs.zip ws /\
   KVals hp ts' vs/\KVals hp us' ws/\(∀ x∈ts',x∈ts)/\cmpL ts' us'=true/\ts'.length+jx.size=us'.length+items.size/\R (.ok (.ret (.bool (pltL ts' us')))) ⟨hp,g,d,tk,os⟩) _
  case turn=>
   rintro ⟨y,x⟩ rest b s' ⟨hb',rfl,vs,ws,ts',us',hz,hvi,hwi,hin,hcm,hlen,hR⟩
   cases ts' with
   | nil=>rw [KVals] at hvi;subst hvi;rw [List.zip_nil_left] at hz;cases hz
   | cons a ts'=>
    cases us' with
    | nil=>rw [KVals] at hwi;subst hwi;rw [List.zip_nil_right] at hz;cases hz
    | cons c us'=>
     rw [KVals] at hvi hwi;obtain ⟨v,vr,rfl,ka,hvi'⟩:=hvi;obtain ⟨u,ur,rfl,kc,hwi'⟩:=hwi;rw [List.zip_cons_cons] at hz;injection hz with hyx hrest;injection hyx with hy hx;subst hy hx;rw [pltL] at hR;rw [cmpL] at hcm;simp only [zAW] at hlen;have he:=hE a c y x (hin a zAQ) ka kc;refine wpAny_bind (he prog w _ _ ?_)
     cases hq:a.eqb c with
     | true=>
      rw [hq,if_pos rfl] at hR hcm
      wp_walk
      exact ⟨rfl,rfl,_,_,_,_,hrest,hvi',hwi',fun z hz=>hin z (zAL _ hz),hcm,by lia,hR⟩
     | false=>
      rw [hq,if_neg zAF] at hR hcm;have hri:=hL a c y x (hin a zAQ) ka kc hcm prog w
      wp_walk using hri
      exact ⟨_,rfl,by simpa using hR⟩
  case fin=>
   rintro ⟨b1,b2⟩ s' ⟨hb',rfl,vs,ws,ts',us',hz,hvi,hwi,hin,hcm,hlen,hR⟩;simp only at hb';subst hb';have hv:pltL ts' us'=decide (items.size<jx.size):=by
    cases ts' with
    | nil=>
     cases us' with
     | nil=>
      simp only [zBv] at hlen;rw [pltL];exact (decide_eq_false (by lia)).symm
     | cons c us'=>
      simp only [zBv,zAW] at hlen;rw [pltL];exact (decide_eq_true (by lia)).symm
    | cons a ts'=>
     cases us' with
     | nil=>
      simp only [zBv,zAW] at hlen;rw [pltL];exact (decide_eq_false (by lia)).symm
     | cons c us'=>
      rw [KVals] at hvi hwi;obtain ⟨v,vr,rfl,_,_⟩:=hvi;obtain ⟨u,ur,rfl,_,_⟩:=hwi;rw [List.zip_cons_cons] at hz;cases hz
   rw [hv] at hR
   wp_walk
   exact ⟨_,rfl,by simpa [Builtin.Tuple.tupleCompareSizes] using hR⟩
  case h=>
   exact ⟨rfl,rfl,items.toList,jx.toList,ts,us,rfl,hi,hj,fun _ hx=>hx,hc,by lia,h⟩
end
theorem MI{s:Shared}:∀(n:Nat)(a b:KT)(A:Around)(v u:Value),a.depth<=n->ZP s.heap a v->ZP s.heap b u->a.cmp b=true->A.units+a.depth<cLine->Je A s v u (a.plt b)
 | n,.int i,b,A,v,u,_,x,y,hc,hu=>by
  rw [ZP] at x;obtain ⟨t,rfl⟩:=x
  cases b with
  | int j=>rw [ZP] at y;obtain ⟨t',rfl⟩:=y;rw [KT.plt];exact fun prog w E Q h=>HT.rcLt_int A s i t j t' prog w E Q h
  | str z=>simp [KT.cmp] at hc
  | tup m=>simp [KT.cmp] at hc
 | n,.str w,b,A,v,u,_,x,y,hc,hu=>by
  rw [ZP] at x;obtain ⟨t,rfl⟩:=x
  cases b with
  | int j=>simp [KT.cmp] at hc
  | str z=>rw [ZP] at y;obtain ⟨t',rfl⟩:=y;rw [KT.plt];exact fun prog w' E Q h=>(lt_str h:wpAny (model prog w') A (compareOp .Lt (.str w t) (.str z t')) Q E s)
  | tup m=>simp [KT.cmp] at hc
 | 0,.tup l,b,A,v,u,hn,x,y,hc,hu=>by
  rw [KT.depth] at hn
  lia
 | n+1,.tup l,b,A,v,u,hn,x,y,hc,hu=>by
  rw [ZP] at x;obtain ⟨p,ji,rfl,px,kx⟩:=x;rw [KT.depth] at hn hu;have hu':A.units<cLine:=by lia
  cases b with
  | int j=>simp [KT.cmp] at hc
  | str z=>simp [KT.cmp] at hc
  | tup m=>
   rw [ZP] at y;obtain ⟨q,its',rfl,py,ky⟩:=y;rw [KT.cmp] at hc;rw [KT.plt];intro prog w E Q h;obtain ⟨⟨cls,dd,data,sl⟩,ho,hcl,nn1,hd⟩:=id px;obtain ⟨⟨cls2,dd2,data2,jJ⟩,ho2,hcl2,nn2,hd2⟩:=id py;simp only at hcl hd hcl2 hd2;subst hcl hd hcl2 hd2;refine richCompare_meets_room (op:=.Lt) ⟨_,ho,rfl⟩ ⟨_,ho2,rfl⟩ PySem.F.slot_tuple_lt PySem.F.entry_tuple_lt (PySem.F.args_tuple_lt_2 _ _) (Bo p q ji.toArray its'.toArray nn1 nn2 dd dd2 sl jJ l m)
    ⟨ho,ho2,kx,ky,hc,fun x y v u hx k1 k2=>?_,fun x y v u hx k1 k2 k3=>?_,show Value.bool (pltL l m)≠Value.notImplemented/\Q (.bool (pltL l m)) s from ⟨(fun x=>nomatch x),h⟩⟩ hu'
   ·have d1:=Qx hx;exact OR x.depth x y A.in1 v u (zAH _) k1 k2 (by show A.units+1+x.depth<cLine;lia)
   ·have d1:=Qx hx;exact MI n x y A.in1 v u (by lia) k1 k2 k3 (by show A.units+1+x.depth<cLine;lia)
section
variable{X:Cx}
theorem ZY.key{k:Nat}{A:Around}(r:ZY k A){n:Nat}(h:n<=200):A.units+n<cLine:=by have:=r.un;lia
def CL:R2:=fun x y H Q=>∃ a b,ZD H a x/\ZD H b y/\a.cmp b=true/\a.depth<=200/\Q (.bl (a.plt b)) H
theorem IJ{k:Nat}(hr:ZY k X.A):Yp X (compareOp .Lt) CL:=by
 intro pins s σ H x y v u Q I rx ry h;obtain ⟨a,b,ha,hb,hc,hd,q⟩:=h;exact MI a.depth a b X.A v u (zAH _) (U5 I a x v ha rx) (U5 I b y u hb ry) hc (ZY.key hr hd) X.prog X.w X.xe _ ⟨.bl _,H,I,rfl,q⟩
end
mutual
def Xy(w:World):KT->Int
 | .int i=>hashInt i
 | .str x=>HI w (.inr x)
 | .tup l=>reduceHash (Builtin.Tuple.tupleHashOf (hashL w l))
def hashL(w:World):List KT->List Int
 | []=>[]
 | t :: l=>Xy w t :: hashL w l
end
theorem Hm(w:World):∀(l m:List KT),hashL w (l++m)=hashL w l++hashL w m
 | [],m=>by rw [hashL];rfl
 | t :: l,m=>by rw [zCy,hashL,hashL,Hm w l m];rfl
section
variable{prog:Program}{w:World}
theorem Lh:∀(n:Nat)(t:KT){A:Around}{E:ja}{s:Shared}{v:Value}{Q:Int->Shared->Prop},t.depth<=n->ZP s.heap t v->A.units+t.depth<cLine->(∀ tk,s.toks<=tk->Q (Xy w t) { s with toks:=tk })->wpAny (model prog w) A (pyHash v) Q E s
 | n,.int i,A,E,s,v,Q,_,x,hu,q=>by
  rw [ZP] at x;obtain ⟨t,rfl⟩:=x;rw [Xy] at q;exact wpAny_pyHash_int (q _ (zCQ _))
 | n,.str i,A,E,s,v,Q,_,x,hu,q=>by
  rw [ZP] at x;obtain ⟨t,rfl⟩:=x;rw [Xy] at q;exact wpAny_pyHash_str (q _ (zCQ _))
 | 0,.tup l,A,E,s,v,Q,hn,x,hu,q=>by rw [KT.depth] at hn;lia
 | n+1,.tup l,A,E,s,v,Q,hn,x,hu,q=>by
  rw [KT.depth] at hn hu;rw [ZP] at x;obtain ⟨a,ji,rfl,pt,ks⟩:=x;have hT:=pt.typeIs;obtain ⟨o,ho,hc,nn,hd⟩:=pt;unfold pyHash
  first | unfold pyHashByItsType | skip
  first | refine wpAny_bind (wpAny_cRoomFor_or (.inr (by lia)) ?_) | skip
  refine wpAny_bind (wpAny_specialOf hT zBt.lookup ?_);show wpAny _ _ (if (some (Value.builtin "tuple.__hash__")==some Value.none)=true then _ else _) Q E s
  rw [if_neg (by rw [beq_builtin_none];exact zAF)]
  refine wpAny_bind (wpAny_specialOf hT zBt.lookup ?_);show wpAny _ _ (callSpecialIfBoundUnlessNone? (.ref a) "__hash__" _ >>= _) Q E s;refine wpAny_bind (wpAny_callSpecialIfBoundUnlessNone?_slot hT zBt (wpAny_call_entry zBt hT PySem.F.entry_tuple_hash ?_ (PySem.F.args_tuple_hash_1 _)));show wpAny _ _ (Builtin.Tuple.tupleItemsOf (.ref a) >>= _) _ _ s;refine wpAny_bind (wpAny_tupleItemsOf ho hd (wpAny_bind ?_));rw [<-zCi];refine wpAny_forIn_list _ (fun rest (b:Array Int) s'=>∃ dn lf tk,l=dn++lf/\KVals s.heap lf rest/\b.toList=hashL w dn/\s'={ s with toks:=tk }/\s.toks<=tk) _ ?_ ?_ _ _ ⟨[],l,s.toks,rfl,ks,by rw [hashL],rfl,zAH _⟩
  ·rintro x rest b s' ⟨dn,lf,tk,e0,hl,hb,rfl,htk⟩
   cases lf with
   | nil=>rw [KVals] at hl;cases hl
   | cons t lf=>
    rw [KVals] at hl;obtain ⟨v',r',e,k1,k2⟩:=hl;injection e with e1 e2;subst e1 e2;have hd':t.depth<=depthL l:=by rw [e0];exact Qx (by simp)
    refine wpAny_bind (Lh n t (s:={ s with toks:=tk }) (by lia) k1 (by show A.units+1+_<_;lia) fun tk2 h2=>?_)
    have fin:∃ dn' lf' tk',l=dn'++lf'/\KVals s.heap lf' rest/\(b.push (Xy w t)).toList=hashL w dn'/\({ s with toks:=tk2 }:Shared)={ s with toks:=tk' }/\s.toks<=tk':=
     ⟨dn++[t],lf,tk2,by rw [e0];simp,k2,by rw [Array.toList_push,hb,Hm,hashL,hashL],rfl,zAv htk h2⟩
    first | exact wpAny_pure fin | exact wpAny_bind (wpAny_pure (wpAny_pure fin))
  ·rintro b s' ⟨dn,lf,tk,e0,hl,hb,rfl,htk⟩
   cases lf with
   | cons t lf=>rw [KVals] at hl;obtain ⟨_,_,e,_⟩:=hl;cases e
   | nil=>
    rw [zAo] at e0;subst e0;show wpAny _ _ (retInt (Builtin.Tuple.tupleHashOf b.toList)) _ _ _;rw [hb];refine wpAny_ret_mkInt ?_;show wpAny _ _ (if (decide (-(2:Int) ^ 63<=Builtin.Tuple.tupleHashOf (hashL w l))&&decide (Builtin.Tuple.tupleHashOf (hashL w l)<2 ^ 63))=true then _ else _) Q E _
    have q':=q (tk+1) (by lia)
    rw [Xy] at q';unfold reduceHash at q';split
    ·rename_i hr
     rw [if_pos hr] at q';exact wpAny_pure q'
    ·rename_i hr
     rw [if_neg hr] at q';exact wpAny_bind (wpAny_rule (wpAny_pure q'))
theorem N6:∀(n:Nat)(t:KT){A:Around}{E:ja}{s:Shared}{v:Value}{Q:Bool->Shared->Prop},t.depth<=n->ZP s.heap t v->Q true s->wpAny (model prog w) A (eqIsQuiet n v) Q E s
 | n,.int i,A,E,s,v,Q,_,x,q=>by
  rw [ZP] at x;obtain ⟨t,rfl⟩:=x;rw [eqIsQuiet_byValue n rfl];exact wpAny_pure q
 | n,.str i,A,E,s,v,Q,_,x,q=>by
  rw [ZP] at x;obtain ⟨t,rfl⟩:=x;rw [eqIsQuiet_byValue n rfl];exact wpAny_pure q
 | 0,.tup l,A,E,s,v,Q,hn,x,q=>by rw [KT.depth] at hn;lia
 | n+1,.tup l,A,E,s,v,Q,hn,x,q=>by
  rw [KT.depth] at hn;rw [ZP] at x;obtain ⟨a,ji,rfl,pt,ks⟩:=x;have hT:=pt.typeIs;obtain ⟨o,ho,hc,nn,hd⟩:=pt;unfold eqIsQuiet;refine wpAny_bind (wpAny_specialOf hT PySem.F.slot_tuple_eq.lookup ?_);show wpAny _ _ (isInstance (.ref a) (.type "tuple") >>= _) _ _ s;refine wpAny_bind (wpAny_isInstance hT isSubtype_tuple_tuple ?_);simp only [zCj,zBC,if_false];refine wpAny_bind (wpAny_seqItems ho hd (wpAny_bind ?_));show wpAny _ _ (forIn ji.toArray _ _) _ _ s;rw [<-zCi];refine wpAny_forIn_list _ (fun rest r s'=>r.1=none/\s'=s/\∃ lf,KVals s.heap lf rest/\depthL lf<=n) _ ?_ ?_ _ _ ⟨rfl,rfl,l,ks,by lia⟩
  ·rintro x rest r s' ⟨hr,rfl,lf,hl,hdp⟩
   cases lf with
   | nil=>rw [KVals] at hl;cases hl
   | cons t lf=>
    rw [KVals] at hl;obtain ⟨v',r',e,k1,k2⟩:=hl;injection e with e1 e2;subst e1 e2;rw [depthL] at hdp;refine wpAny_bind (N6 n t (by lia) k1 ?_)
    simp only [zCj,zBC,if_false];exact wpAny_pure ⟨rfl,rfl,lf,k2,by lia⟩
  ·rintro ⟨r1,r2⟩ s' ⟨hr,rfl,_⟩;dsimp only at hr;subst hr;exact wpAny_pure q
end
structure Po(w:World)(h:Heap)(ks:List KT)(es:Array DictEntry):Prop where
 len:es.size=ks.length
 ent:∀(i:Nat)(e:DictEntry),es[i]? = some e->∃ t,ks[i]? = some t/\e.hash=Xy w t/\ZP h t e.key/\t.depth<=3
 nd:ks.Nodup
section
variable{prog:Program}{w:World}{A:Around}{E:ja}{s:Shared}
theorem Po.uniq{h:Heap}{ks:List KT}{es:Array DictEntry}(x:Po w h ks es){i j:Nat}{t:KT}(hi:ks[i]? = some t)(hj:ks[j]? = some t):i=j:=by
 obtain ⟨a,ea⟩:=zAK.mp hi;exact (zCl a x.nd).mp (hi.trans hj.symm)
theorem Po.get{h:Heap}{ks:List KT}{es:Array DictEntry}(x:Po w h ks es){j:Nat}{t:KT}(hj:ks[j]? = some t):∃ e,es[j]? = some e/\e.hash=Xy w t/\ZP h t e.key/\t.depth<=3:=by
 obtain ⟨a,_⟩:=zAK.mp hj;have lt:j<es.size:=by have:=x.len;lia
 have e:es[j]? = some es[j]:=zAn lt;obtain ⟨t',e1,e2,e3,e4⟩:=x.ent j _ e;rw [hj] at e1;cases e1;exact ⟨_,e,e2,e3,e4⟩
theorem KR{v:Value}{stored:jd}{Q:Bool->Shared->Prop}(hv:∃ t,ZP s.heap t v/\t.depth<=8)(hs:∀ u∈stored,∃ t,ZP s.heap t u/\t.depth<=8)(h:Q false s):wpAny (model prog w) A (tableMayTell v stored) Q E s:=by
 unfold tableMayTell;refine wpAny_ite_split (fun _=>wpAny_pure h) (fun _=>?_);obtain ⟨t,kv,dt⟩:=hv;refine wpAny_bind (N6 8 t dt kv ?_);simp only [zCj,zBC,if_false];refine wpAny_bind ?_;refine wpAny_forIn_list _ (fun rest r s'=>s'=s/\r=(none,())/\∀ u∈rest,u∈stored) _ ?_ ?_ _ _ ⟨rfl,rfl,fun _ z=>z⟩
 ·rintro u rest r s' ⟨rfl,rfl,hr⟩;obtain ⟨t2,kv2,dt2⟩:=hs u (hr u (zAQ ..));refine wpAny_bind (N6 8 t2 dt2 kv2 ?_);simp only [zCj,zBC,if_false];exact wpAny_pure ⟨rfl,rfl,fun u hu=>hr u (zAL _ hu)⟩
 ·rintro r s' ⟨rfl,rfl,_⟩;exact wpAny_pure h
theorem ZMF{d:Addr}{o:Obj}{es:Array DictEntry}{ep:Nat}{ks:List KT}{t:KT}{v:Value}{Q:Option Nat->Shared->Prop}(hv:ZP s.heap t v)(dt:t.depth<=3)(hu:A.units+3<cLine)(ho:s.heap.get? d=some o)(hd:o.data=.dict es ep)(x:Po w s.heap ks es)(hno:t∉ks->Q none s)(jO:∀ j,ks[j]? = some t->Q (some j) s):wpAny (model prog w) A (dictFind d v (Xy w t)) Q E s:=by
 have inPl:∀ j,ks[j]? = some t->j∈placesWithHash es.size (fun i=>es[i]?.map (·.hash)) (Xy w t):=fun j hj=>by
  obtain ⟨e,e1,e2,_⟩:=x.get hj;obtain ⟨lt,_⟩:=zBP.mp e1;unfold placesWithHash;rw [zCA,zA8];exact ⟨lt,by show (Option.map _ es[j]? == _)=true;rw [e1,zBT,e2];simp⟩
 have ofPl:∀ i,i∈placesWithHash es.size (fun i=>es[i]?.map (·.hash)) (Xy w t)->∃ e u,es[i]? = some e/\e.hash=Xy w t/\ks[i]? = some u/\ZP s.heap u e.key/\u.depth<=3:=fun i hi=>by
  unfold placesWithHash at hi;rw [zCA,zA8] at hi;have e1:es[i]? = some es[i]:=zAn hi.1;obtain ⟨u,e2,_,e4,e5⟩:=x.ent i _ e1;have:(Option.map (·.hash) es[i]? == some (Xy w t))=true:=hi.2;rw [e1,zBT] at this;exact ⟨_,u,e1,by simpa using this,e2,e4,e5⟩
 have pnd:(placesWithHash es.size (fun i=>es[i]?.map (·.hash)) (Xy w t)).Nodup:=by
  unfold placesWithHash;exact List.nodup_range.filter _
 have eq_at:∀(u:KT)(e:DictEntry),ZP s.heap u e.key->u.depth<=3->SeqAt.EqAt A s e.key v (u.eqb t):=fun u e k1 d1=>OR u.depth u t A e.key v (zAH _) k1 hv (by lia)
 have stored:∀ u∈(placesWithHash es.size (fun i=>es[i]?.map (·.hash)) (Xy w t)).filterMap (fun i=>es[i]?.map (·.key)),∃ t,ZP s.heap t u/\t.depth<=8:=fun u hu=>by
  obtain ⟨i,hi,e⟩:=zCF.mp hu;obtain ⟨en,z,e1,_,_,e4,e5⟩:=ofPl i hi;rw [e1,zBT] at e;cases e;exact ⟨z,e4,by lia⟩
 unfold dictFind
 try with_reducible refine wpAny_holding ?_
 refine wpAny_bind (wpAny_dictEntries ho hd ?_);generalize hP:placesWithHash es.size (fun i=>es[i]?.map (·.hash)) (Xy w t)=pl at inPl ofPl pnd stored;have plain:wpAny (model prog w) A (dictWalkPlain d v (Xy w t) es pl) Q E s:=by
  unfold dictWalkPlain;refine wpAny_bind ?_;refine wpAny_forIn_list _ (fun rest b s'=>s'=s/\b=(none,())/\(∀ i∈rest,i∈pl)/\∀ i∈pl,i∈rest\/ks[i]? ≠ some t) _ ?_ ?_ _ _ ⟨rfl,rfl,fun _ z=>z,fun _ z=>.inl z⟩
  ·rintro i rest b s' ⟨rfl,rfl,h1,h2⟩;obtain ⟨e,u,e1,e2,e3,e4,e5⟩:=ofPl i (h1 i (zAQ ..));rw [e1];dsimp only;rw [e2,if_pos (by simp)]
   refine wpAny_bind (wpAny_dictEpoch ho hd (wpAny_bind (eq_at u e e4 e5 prog w _ _ (wpAny_bind (wpAny_dictEpoch ho hd ?_)))));rw [if_neg (by simp)]
   cases hq:u.eqb t with
   | true=>
    have:u=t:=U8 u t hq;subst this;rw [if_pos rfl];exact wpAny_bind (wpAny_rule (wpAny_pure (wpAny_pure (jO i e3))))
   | false=>
    rw [if_neg zAF];refine wpAny_bind (wpAny_rule (wpAny_pure ⟨rfl,rfl,fun j hj=>h1 j (zAL _ hj),fun j hj=>?_⟩));rcases h2 j hj with z | z
    ·rcases zAe.mp z with z | z
     ·subst z;refine .inr fun z=>?_;rw [e3] at z;cases z;rw [UZ] at hq;cases hq
     ·exact .inl z
    ·exact .inr z
  ·rintro b s' ⟨rfl,rfl,_,h2⟩;refine wpAny_pure (hno fun z=>?_);obtain ⟨j,hj⟩:=zB2.mp z;rcases h2 j (inPl j hj) with q | q
   ·cases q
   ·exact q hj
 have hitLoop:∀(f:Nat->Option (Option Nat)×Option Nat->Sem (ForInStep (Option (Option Nat)×Option Nat)))(g:Option (Option Nat)×Option Nat->Sem (Option Nat)),(∀ r,g (some r,none)=pure r)->(∀ h,g (none,h)=pure h) ->
   (∀ i u e (R:ForInStep (Option (Option Nat)×Option Nat)->Shared->Prop),es[i]? = some e->e.hash=Xy w t->ZP s.heap u e.key->u.depth<=3->u=t->R (.done (some (some i),none)) s->R (.yield (none,some i)) s->wpAny (model prog w) A (f i (none,none)) R E s) ->
   (∀ i u e hit (R:ForInStep (Option (Option Nat)×Option Nat)->Shared->Prop),es[i]? = some e->e.hash=Xy w t->ZP s.heap u e.key->u.depth<=3->u≠t->R (.yield (none,hit)) s->wpAny (model prog w) A (f i (none,hit)) R E s) ->
   wpAny (model prog w) A (forIn pl (none,none) f >>= g) Q E s:=fun f g g1 g2 f1 f2=>by
  refine wpAny_bind ?_;refine wpAny_forIn_list _ (fun rest b s'=>s'=s/\rest.Nodup/\(∀ i∈rest,i∈pl)/\((b=(none,none)/\∀ i∈pl,i∈rest\/ks[i]? ≠ some t)\/∃ j,b=(none,some j)/\ks[j]? = some t/\j∉rest)) _ ?_ ?_ _ _ ⟨rfl,pnd,fun _ z=>z,.inl ⟨rfl,fun _ z=>.inl z⟩⟩
  ·rintro i rest b s' ⟨rfl,nd,h1,h2⟩;obtain ⟨e,u,e1,e2,e3,e4,e5⟩:=ofPl i (h1 i (zAQ ..));have nd':=zBU.mp nd;have h1':∀ j∈rest,j∈pl:=fun j hj=>h1 j (zAL _ hj);by_cases hq:u=t
   ·have e3':=e3;rw [hq] at e3';rcases h2 with ⟨rfl,h2⟩ | ⟨j,rfl,hj,hn⟩
    ·refine f1 i u e _ e1 e2 e4 e5 hq ?_ ?_
     ·show wpAny _ _ (g (some (some i),none)) _ _ _;rw [g1];exact wpAny_pure (jO i e3')
     ·exact ⟨rfl,nd'.2,h1',.inr ⟨i,rfl,e3',nd'.1⟩⟩
    ·have:i=j:=x.uniq e3' hj;exact absurd (this ▸ zAQ ..) hn
   ·rcases h2 with ⟨rfl,h2⟩ | ⟨j,rfl,hj,hn⟩
    ·refine f2 i u e none _ e1 e2 e4 e5 hq ⟨rfl,nd'.2,h1',.inl ⟨rfl,fun j hj=>?_⟩⟩;rcases h2 j hj with z | z
     ·rcases zAe.mp z with z | z
      ·subst z;exact .inr fun z=>hq (by rw [e3] at z;exact zAj.inj z)
      ·exact .inl z
     ·exact .inr z
    ·exact f2 i u e (some j) _ e1 e2 e4 e5 hq ⟨rfl,nd'.2,h1',.inr ⟨j,rfl,hj,fun z=>hn (zAL _ z)⟩⟩
  ·rintro b s' ⟨rfl,_,_,h2⟩;rcases h2 with ⟨rfl,h2⟩ | ⟨j,rfl,hj,hn⟩
   ·rw [g2];refine wpAny_pure (hno fun z=>?_);obtain ⟨j,hj⟩:=zB2.mp z;rcases h2 j (inPl j hj) with q | q
    ·cases q
    ·exact q hj
   ·rw [g2];exact wpAny_pure (jO j hj)
 have vs:(∃ a,v=.ref a)\/(∃ i tk,v=.int i tk)\/∃ y tk,v=.str y tk/\t=.str y:=by
  cases t with
  | int i=>rw [ZP] at hv;obtain ⟨tk,e⟩:=hv;exact .inr (.inl ⟨i,tk,e⟩)
  | str y=>rw [ZP] at hv;obtain ⟨tk,e⟩:=hv;exact .inr (.inr ⟨y,tk,e,rfl⟩)
  | tup l=>rw [ZP] at hv;obtain ⟨a,_,e,_⟩:=hv;exact .inl ⟨a,e⟩
 rcases vs with ⟨a,rfl⟩ | ⟨i,tk,rfl⟩ | ⟨y,tk,rfl,ht⟩
 case' inl=>
  dsimp only;rw [if_neg (by simp [carriedByValue])]
  have hany:¬ (es.any fun e=>e.key==Value.ref a&&e.hash != Xy w t)=true:=by
   rw [<-Array.any_toList,zCS];rintro ⟨e,hin,hc⟩;obtain ⟨j,hj⟩:=zB2.mp hin;rw [zA5] at hj;obtain ⟨u,_,e2,e3,_⟩:=x.ent j e hj;rw [zAP] at hc;rw [eq_of_beq hc.1] at e3;have:u=t:=U8 _ _ (ZP.inj _ _ _ e3 hv);rw [e2,this] at hc;simp at hc
  rw [if_neg hany];refine wpAny_ite_split (fun _=>wpAny_bind (wpAny_pure ?_)) (fun _=>wpAny_bind (KR ⟨t,hv,by lia⟩ stored ?_))
 case' inr.inl=>
  dsimp only;refine wpAny_ite_split (fun _=>plain) (fun _=>?_);refine wpAny_ite_split (fun _=>wpAny_bind (wpAny_pure ?_)) (fun _=>wpAny_bind (KR ⟨t,hv,by lia⟩ stored ?_))
 case' inr.inr=>
  have byStr:wpAny (model prog w) A (foundByValue d (.str y tk) es y) Q E s:=by
   unfold foundByValue
   cases hf:es.findIdx? (fun e=>e.key.isStr y) with
   | none=>
    refine wpAny_pure (hno fun z=>?_);obtain ⟨j,hj⟩:=zB2.mp z;obtain ⟨e,e1,e2,e3,_⟩:=x.get hj;have:=Array.findIdx?_eq_none_iff.mp hf e (Array.mem_of_getElem? e1);rw [ht,ZP] at e3;obtain ⟨tk',ek⟩:=e3;rw [ek] at this;simp [Value.isStr] at this
   | some i=>
    obtain ⟨hlt,hi,_⟩:=Array.findIdx?_eq_some_iff_getElem.mp hf;have e1:es[i]? = some es[i]:=zAn hlt;obtain ⟨u,e2,e3,e4,e5⟩:=x.ent i _ e1;have hut:u=t:=by
     have hs:∃ tk',es[i].key=.str y tk':=by
      cases q:es[i].key with
      | str z tz=>rw [q] at hi;simp [Value.isStr] at hi;exact ⟨tz,by rw [hi]⟩
      | _=>rw [q] at hi;simp [Value.isStr] at hi
     obtain ⟨tk',ek⟩:=hs;have hk:ZP s.heap (.str y) es[i].key:=by rw [ZP];exact ⟨tk',ek⟩
     rw [ht];exact U8 _ _ (ZP.inj _ _ _ e4 hk)
    dsimp only;rw [e1];dsimp only;refine wpAny_bind (wpAny_dictEpoch ho hd (wpAny_bind (eq_at u _ e4 e5 prog w _ _ (wpAny_bind (wpAny_dictEpoch ho hd ?_)))));rw [if_neg (by simp),hut,UZ,if_pos rfl]
    exact wpAny_bind (wpAny_rule (wpAny_pure (jO i (by rw [e2,hut]))))
  dsimp only;refine wpAny_ite_split (fun _=>byStr) (fun _=>?_);refine wpAny_ite_split (fun _=>plain) (fun _=>?_);refine wpAny_ite_split (fun _=>wpAny_bind (wpAny_pure ?_)) (fun _=>wpAny_bind (KR ⟨t,hv,by lia⟩ stored ?_))
 all_goals
  rw [if_neg (by simp)]
  refine hitLoop _ _ (fun r=>rfl) (fun h=>rfl) (fun i u e R e1 e2 e4 e5 hq r1 r2=>?_) (fun i u e hit R e1 e2 e4 e5 hq r1=>?_)
  ·rw [e1];dsimp only;rw [e2,if_pos (by simp)]
   refine wpAny_bind (wpAny_dictEpoch ho hd (wpAny_bind (eq_at u e e4 e5 prog w _ _ (wpAny_bind (wpAny_dictEpoch ho hd ?_)))));rw [if_neg (by simp),hq,UZ,if_pos rfl]
   simp only [Option.isSome_none,zBC,if_false];refine wpAny_bind (wpAny_rule (wpAny_ite_split (fun _=>wpAny_pure r1) (fun _=>wpAny_pure r2)))
  ·rw [e1];dsimp only;rw [e2,if_pos (by simp)]
   refine wpAny_bind (wpAny_dictEpoch ho hd (wpAny_bind (eq_at u e e4 e5 prog w _ _ (wpAny_bind (wpAny_dictEpoch ho hd ?_)))));have hf:u.eqb t=false:=by
    cases q:u.eqb t with
    | false=>rfl
    | true=>exact absurd (U8 _ _ q) hq
   rw [if_neg (by simp),hf,if_neg zAF]
   refine wpAny_bind (wpAny_rule ?_);rw [if_neg (by simp)]
   exact wpAny_pure r1
end
end Tw
namespace L2
open PySem PySem.Spec PyProof.Rows
theorem Zf.there{P:Program}{w:World}{H:Hp}{h:Heap}{a:Addr}:∀{o:HO},Zf P w H h a o->∃ ob,h.get? a=some ob:=by
 intro o x
 induction o with
 | lst xs=>obtain ⟨z,ji,n,r,e⟩:=x;exact ⟨_,e⟩
 | tup xs=>obtain ⟨z,ji,r,ob,e,c⟩:=x;exact ⟨_,e⟩
 | dK kvs=>obtain ⟨z,y,vs,r,ob,es,ep,e,c⟩:=x;exact ⟨_,e⟩
 | dT kvs=>obtain ⟨z,y,xs,r,ob,es,ep,e,c⟩:=x;exact ⟨_,e⟩
 | set S n=>obtain ⟨ob,es,ep,t,e,c⟩:=x;exact ⟨_,e⟩
 | ins C dx fs=>obtain ⟨d,z,ne,e,_⟩:=x;exact ⟨_,e⟩
 | own y=>exact x
 | xd fs=>obtain ⟨mA,⟨od,es,ep,e,c⟩,r⟩:=x;exact ⟨_,e⟩
 | rng lo hi=>obtain ⟨t,u,v,e⟩:=x;exact ⟨_,e⟩
 | frz ob u ih=>exact ⟨_,x.1⟩
 | tbl ps=>exact ⟨_,x⟩
 | met f y=>exact ⟨_,x⟩
 | ext φ=>exact x.2.1
theorem YX.there{P:Program}{w:World}{H:Hp}{h:Heap}{a:Addr}(x:YX P w H h)(n:H a≠none):∃ ob,h.get? a=some ob:=by
 cases e:H a with
 | none=>exact absurd e n
 | some o=>exact Zf.there (x a o e)
theorem YX.keptT{P:Program}{w:World}{H:Hp}{h h':Heap}(x:YX P w H h)(k:∀ b u,h.get? b=some u->H b≠none->h'.get? b=some u):YX P w H h':=fun a o e=>
 (x a o e).stay (fun b u hb q=>k b u q (by
  rcases hb with rfl | hb
  ·rw [e];exact fun z=>nomatch z
  ·rw [hb];exact fun z=>nomatch z)) (fun _ q=>q) fun _ _ q=>q
section
variable{X:Cx}{pins:List (Addr×Obj)}{σ:St}{H H':Hp}{s s':Shared}{E:XK}
theorem ZH.noloc(I:ZH X pins σ H s):X.s₀.heap.get? X.env.locals=none:=zBi I.ok.above
theorem LW(I:ZH X pins σ H s):∀ b∈frs X.stack,∀ o,s.heap.get? b=some o->∀ vs,o.data≠.fields vs:=fun b hb o q vs z=>by
 obtain ⟨_,o',e,d⟩:=I.stack.mem hb;rw [q] at e;cases e;exact d vs z
end
end L2
namespace L2
open PySem PySem.Spec PySem.W PyProof.Rows
def X2(x C:Addr)(h:Heap):Prop:=∃ o,h.get? x=some o/\o.cls=.ref C
theorem X2.ty{x C:Addr}{h:Heap}(I:X2 x C h)(M:Model):Looks M h (typeOf (.ref x)) (.ref C):=by
 obtain ⟨o,e,c⟩:=I;rw [<-c];exact Looks.andThen (Looks.ld e) Looks.now
structure Xx(K:Frag)(C:Addr):Prop where
 ga:findIn K (.ref C) "__getattribute__" = some (some (.builtin "BaseException.__getattribute__"))
 hk:findIn K (.ref C) "__getattr__" = some none
 mB:mroIn K C (.type "BaseException")=some true
 mO:mroIn K C (.type "object")=some true
 ca:findIn K (.ref C) "__class__" = some (some (.builtin "object.__class__"))
 hn:specialIn K (.builtin "object.__class__") "__get__" = some (some (.builtin "getset_descriptor.__get__"))
 tk:takesIn K (.builtin "object.__class__")=some true
section
variable{prog:Program}{w:World}{A:Around}{E:ja}{s:Shared}{K:Frag}{x C:Addr}
theorem ZIp{nv:Value}{Q:Unit->Shared->Prop}(X:K.In s.heap)(I:X2 x C s.heap)(hm:mroIn K C (.type "BaseException")=some true)(hq:Q () s):
  wpAny (model prog w) A (checkBuiltinCall "BaseException.__getattribute__" ⟨[.ref x,nv],[]⟩) Q E s:=by
 obtain ⟨hh,g,d,t,os⟩:=s;have k1:builtinKind "BaseException.__getattribute__" = some .slot:=by decide +kernel
 have k2:splitId "BaseException.__getattribute__" = some ("BaseException","__getattribute__"):=by decide +kernel
 have la:=I.ty (model prog w);have lb:=looks_mroIn (M:=model prog w) X hm;have lc:=F.args_bexc_ga (.ref x) nv;simp only [checkBuiltinCall,k1,k2];refine wpAny_bind ?_;unfold isInstance
 repeat lk
 exact hq
theorem Cw{name:Str}{tk:Tok}{r:Builtin.ObjectAttr.Found}{Q:Fin->Shared->Prop}(X:K.In s.heap)(I:X2 x C s.heap)(fd:Looks (model prog w) s.heap (Builtin.ObjectAttr.find (.ref x) (.ref C) name) r)(h:match r with
   | .value v=>Q (.done (.ret v)) s
   | .bind g a=>wpAny (model prog w) A (call g [a,.ref x,.ref C]) (fun v s'=>Q (.done (.ret v)) s') E s
   | .missing=>False):wpAny (model prog w) A (Builtin.«object.__getattribute__» ⟨[.ref x,.str name tk],[]⟩) Q E s:=by
 obtain ⟨hh,g,d,t,os⟩:=s;have la:=I.ty (model prog w);unfold Builtin.«object.__getattribute__»;refine wpAny_bind (wpAny_pure ?_);refine wpAny_bind (wpAny_pure ?_);refine wpAny_bind (la.at ?_);refine wpAny_bind (fd.at ?_)
 cases r with
 | value v=>exact wpAny_pure h
 | bind g a=>
  show wpAny _ _ (holding [a] (call g [a,.ref x,.ref C]) >>= ret) _ _ _;exact wpAny_bind (wpAny_holding (wpAny_mono h (fun v s' z=>wpAny_pure z) fun _ _ z=>z))
 | missing=>exact h.elim
theorem Hf{name:Str}{r:Builtin.ObjectAttr.Found}{expr fill:Bool}{tk:Tok}{Q:ja}(X:K.In s.heap)(I:X2 x C s.heap)(e:Xx K C)(fd:Looks (model prog w) s.heap (Builtin.ObjectAttr.find (.ref x) (.ref C) name) r)(h:match r with
   | .value v=>handedIn v=true/\Q v s
   | .bind g a=>wpAny (model prog w) A.in1 (call g [a,.ref x,.ref C]) (fun v s'=>handedIn v=true/\Q v s') (fun _ _=>False) s
   | .missing=>False):wpAny (model prog w) A (getAttrBy (.ref x) (.str name tk) fill expr) Q E s:=by
 have FA:=F.excAttr_ValueError;have la:=I.ty (model prog w);have lb:=looks_findIn (M:=model prog w) X e.ga;have lc:=looks_findIn (M:=model prog w) X e.hk;have ne:(Value.builtin "BaseException.__getattribute__" == Value.builtin "object.__getattribute__")=false:=by decide +kernel
 obtain ⟨hh,g,d,t,os⟩:=s;unfold getAttrBy;refine wpAny_holding (wpAny_bind (la.at (wpAny_bind (lb.at ?_))));show wpAny _ _ (if (true&&(Value.builtin "BaseException.__getattribute__" == Value.builtin "object.__getattribute__"))=true then _ else getAttrByItsOwn (.ref x) (.str name tk) (.ref C) (.builtin "BaseException.__getattribute__") fill expr) _ _ _
 rw [ne,if_neg (by decide)]
 unfold getAttrByItsOwn hookBefore;refine wpAny_bind (lc.at ?_);refine wpAny_bind (wpAny_attempt (wpAny_holding ?_));unfold callGetattribute;rw [if_neg (by cases expr <;> decide)]
 unfold boundAndCalled;rw [FA.ga.bind (.ref x)];refine wpAny_bind (wpAny_pure ?_);refine wpAny_call (codeAny_call_builtin FA.ga.plain F.entry_bexc_ga (ZIp X I e.mB (Cw X I fd ?_)))
 cases r with
 | value v=>exact handed_on h.1 h.2
 | bind g a=>exact wpAny_mono h (fun v s' z=>handed_on z.1 z.2) fun _ _ z=>z.elim
 | missing=>exact h.elim
theorem D9{R:Result->Shared->Prop}{tp:Value}(X:K.In s.heap)(I:X2 x C s.heap)(e:Xx K C)(h:R (.ok (.ret (.ref C))) s):
  codeAny (model prog w) A (.call (.builtin "getset_descriptor.__get__") ⟨[.builtin "object.__class__",.ref x,tp],[]⟩) R s:=by
 obtain ⟨hh,gs,dr,tt,oss⟩:=s;have la:=I.ty (model prog w);have lb:=looks_mroIn (M:=model prog w) X e.mO;refine codeAny_call_builtin KF.slot_gs.plain KF.entry_gs ?_;refine KF.slot_gs.check _ _ _ _ _ _ _ _ KF.type_class (KF.args_gs _ _ _) ?_;unfold Builtin.«getset_descriptor.__get__»;unfold Builtin.Getset_descriptor.descrGet;rw [dga_obj];refine wpAny_bind (wpAny_pure ?_);unfold Builtin.Getset_descriptor.descrGetter;unfold Builtin.Getset_descriptor.descrCheckInstance;unfold Builtin.Getset_descriptor.descrNameAndClass;unfold isInstance;simp only [KF.owner_class]
 repeat lk
 refine ⟨Code.quiet_builtin _ (by decide +kernel),?_⟩
 refine codeAny_builtin KF.entry_class ?_;unfold Builtin.«object.__class__»;unfold shownTypeOf
 repeat lk
 exact h
theorem ZKB(X:K.In s.heap)(e:Xx K C)(M:Model):Looks M s.heap (Builtin.ObjectAttr.find (.ref x) (.ref C) "__class__") (.bind (.builtin "getset_descriptor.__get__") (.builtin "object.__class__")):=by
 have la:=looks_findIn (M:=M) X e.ca;have lb:=looks_specialIn (M:=M) X e.hn;have lc:=looks_takesIn (M:=M) X e.tk;refine Looks.andThen la (Looks.andThen lb ?_);exact Looks.andThen (show Looks M s.heap (Builtin.ObjectAttr.dataDescriptor? (some (.builtin "object.__class__")) (some (.builtin "getset_descriptor.__get__"))) (some (_,_)) from Looks.andThen lc Looks.now) (Looks.tag Looks.now)
end
theorem Xx.cls{K:Frag}{C:Addr}(e:Xx K C):∃ cl d cd sl,K.lookup C=some ⟨cl,d,.cls cd,sl⟩:=by
 obtain ⟨cd,h,_⟩:=zDF.mp e.mB;unfold clsIn at h;split at h
 ·rename_i c' d' cd' sl' ho
  exact ⟨c',d',cd',sl',ho⟩
 ·cases h
theorem BB{K:Frag}{x C:Addr}(e:Xx K C):KitX K (.ref x) (.ref C) (X2 x C) where
 ty:=fun M _ _ I=>I.ty M
 it:=fun _ _ X _=>by
  obtain ⟨cl,d,cd,sl,ho⟩:=e.cls;intro A' Q' E' s' k q;unfold isType loadHead;have z:=k _ _ (X _ _ ho);exact wpAny_bind (wpAny_loadPart z (wpAny_pure q))
 ne:=fun h tp dd ji n sl X htp=>by
  obtain ⟨cl,d,cd,sl',ho⟩:=e.cls
  cases q:(Value.ref C==Value.ref tp) with
  | false=>rfl
  | true=>
   have e2:C=tp:=Value.ref.inj (eq_of_beq q);rw [<-e2,X _ _ ho] at htp;cases htp
 ca:=fun{prog w A E Q s} X I k=>by
  unfold getAttr? getAttrBy?;refine wpAny_bind (wpAny_mkText (wpAny_bind (wpAny_attempt ?_)));refine Hf (s:={ s with toks:=s.toks+1 }) X I e (ZKB (s:={ s with toks:=s.toks+1 }) X e _) ?_;exact wpAny_call (D9 (s:={ s with toks:=s.toks+1 }) X I e ⟨rfl,wpAny_pure k⟩)
end L2
namespace L2
open PySem PySem.Spec PyProof.Rows
def Cx.held(X:Cx)(ea:Addr)(E:ja):Cx:={ X with A:=X.A.mark (some (.ref ea)),calm:=false,xe:=E }
section
variable{X:Cx}{pins:List (Addr×Obj)}{σ:St}{H H':Hp}{s s':Shared}{ea:Addr}{E:ja}
theorem ZH.held(I:ZH X pins σ H s)(ea:Addr)(E:ja):ZH (X.held ea E) pins σ H s:=
 ⟨⟨I.ok.mod,I.ok.kind,I.ok.glob,I.ok.blt,I.ok.above,I.ok.inj,I.ok.has,I.ok.cab,fun z=>absurd z zAF,I.ok.frames,I.ok.stk,I.ok.exf,I.ok.bs,I.ok.bsz,I.ok.noex,I.ok.exfs,I.ok.funs,I.ok.frf⟩,
  I.os,I.bare,I.base,I.loc,I.cell,I.free,I.freeC,I.pin,I.hok,I.len⟩
theorem ZH.unheld(ok:X.Ok)(I:ZH (X.held ea E) pins σ H s):ZH X pins σ H s:=⟨ok,I.os,I.bare,I.base,I.loc,I.cell,I.free,I.freeC,I.pin,I.hok,I.len⟩
theorem ZH.track{a:Addr}{o:HO}(I:ZH X pins σ H s)(h0:X.s₀.heap.get? a=none)(hl:a≠X.env.locals)(hc:∀ x c,X.env.cells.lookup x=some c->c≠a)(hp:∀ p∈X.pn++pins,p.1≠a)(hn:H a=none)(new:Zf X.prog X.w (upd H a o) s.heap a o):ZH X pins σ (upd H a o) s:=by
 have nt:∀{b:Addr}{u:HO},H b=some u->b≠a:=fun{b u} e z=>by rw [z,hn] at e;cases e
 refine ⟨I.ok,I.os,I.bare,⟨I.base.keep,I.base.slot,fun b ob q n hx=>?_,I.base.there,fun b xs q=>?_,fun b ob u q=>?_,fun b ps q=>?_⟩,I.loc,I.cell,?_,fun x c e=>?_,fun p hp'=>?_,fun b u e=>?_,I.len⟩
 ·rw [ZV (fun z=>by rw [z,h0] at q;cases q)]
  exact I.base.free b ob q n hx
 ·have e:=I.base.tups b xs q;rw [ZV (nt e)];exact e
 ·have e:=I.base.frzs b ob u q;rw [ZV (nt e)];exact e
 ·obtain ⟨more,e⟩:=I.base.tbls b ps q;exact ⟨more,by rw [ZV (nt e)];exact e⟩
 ·rw [ZV (Ne.symm hl)];exact I.free
 ·rw [ZV (hc x c e)];exact I.freeC x c e
 ·obtain ⟨e,n,r⟩:=I.pin p hp';exact ⟨e,by rw [ZV (hp p hp')];exact n,r⟩
 ·by_cases hb:b=a
  ·subst hb;rw [ZO] at e;cases e;exact new
  ·rw [ZV hb] at e;exact (I.hok b u e).stay (fun _ _ _ q=>q) (fun c q=>by rw [ZV (nt q)];exact q) fun c xs q=>by rw [ZV (nt q)];exact q
theorem ZH.goes{i:Nat}{n:Str}{M:Model}{A:Around}{Q:Unit->Shared->Prop}{pos:Pos}(I:ZH X pins σ H s)(hN:X.N.Nodup)(hi:X.N[i]? = some n)(hx:X.env.scope.names.lookup n=some .local)(h:∀ s',ZH X pins (σ.set i none) H s'->Q () s'):wpAny M A (do bindName X.env n .none;unbindBehindTheSuite X.env n pos) Q E s:=by
 obtain ⟨m,hn,hl⟩:=id I.loc;have hcls:(X.env.scope.kind==.class || (X.env.scope.kind==.module&&X.env.locals != X.env.globals))=false:=by rw [I.ok.kind];rfl
 have hiσ:i<σ.length:=by rw [I.len];exact (zAK.mp hi).1
 refine wpAny_nameGoes_keeps hx hn hcls fun h' v hn' hs=>h _ ?_;obtain ⟨oL,_,_,hoL,_⟩:=id hn;have neL:∀ b o,X.s₀.heap.get? b=some o->b≠X.env.locals:=fun b o e=>zAl (zAb (zAT e) I.ok.above);refine ⟨I.ok,I.os,I.bare,⟨fun b o e n hb hx=>?_,fun b o e n hb hx=>?_,I.base.free,fun b o e hx=>?_,I.base.tups,I.base.frzs,I.base.tbls⟩,⟨_,hn',fun j y v' e1 e2 e3=>?_⟩,fun y c e=>?_,I.free,I.freeC,fun p hp=>?_,fun b ob e=>?_,by simpa using I.len⟩
 ·exact (hs.2 b (neL b o e)).trans (I.base.keep b o e n hb hx)
 ·obtain ⟨sl,e1⟩:=I.base.slot b o e n hb hx;exact ⟨sl,(hs.2 b (neL b o e)).trans e1⟩
 ·obtain ⟨o',e1⟩:=I.base.there b o e hx;exact ⟨o',(hs.2 b (neL b o e)).trans e1⟩
 ·by_cases hj:j=i
  ·subst hj;rw [zCT hiσ] at e2;cases e2
  ·rw [zCc (Ne.symm hj)] at e2;obtain ⟨u',r',q⟩:=hl j y v' e1 e2 e3;refine ⟨u',r',?_⟩;rcases q with ⟨k,e⟩ | ⟨k,c,e,z⟩
   ·refine .inl ⟨k,?_⟩;have:y≠n:=fun e=>hj (Mj hN e1 (e ▸ hi));simp [this,e]
   ·exact .inr ⟨k,c,e,z.sameBut hs (I.cne y c e)⟩
 ·obtain ⟨w',z⟩:=I.cell y c e;exact ⟨w',z.sameBut hs (I.cne y c e)⟩
 ·obtain ⟨e,n,ne,nf,d⟩:=I.pin p hp;exact ⟨(hs.2 p.1 ne).trans e,n,ne,nf,d⟩
 ·refine (I.hok b ob e).stay (fun c w' hc q=>(hs.2 c ?_).trans q) (fun _ q=>q) fun _ _ q=>q;rintro rfl;rcases hc with rfl | hc
  ·rw [I.free] at e;cases e
  ·rw [I.free] at hc;cases hc
end
section
variable{prog:Program}{w:World}{A:Around}{E:ja}{s:Shared}{K:zAA}{x C CB:Addr}
theorem ZFY{b:Bool}{Q:Bool->Shared->Prop}(X:K.In s.heap)(I:X2 x C s.heap)(ht:zA4 K (.ref CB)=some (.type "type"))(hB:zAr K CB (.type "BaseException")=some true)(hC:zAr K C (.ref CB)=some b)(h:Q b s):wpAny (model prog w) A (excMatches (.ref x) (.ref CB)) Q E s:=by
 obtain ⟨hh,g,d,t,os⟩:=s;have L0:=I.ty (model prog w);have L1:=zB5 (M:=model prog w) X hB;have L2:=zB5 (M:=model prog w) X hC;have L3:=zDM (M:=model prog w) X ht;have f:=tc_notTuple;have L4:zAu (model prog w) hh (isType (.ref CB)) true:=by
  obtain ⟨cdD,hcD,_⟩:=zDF.mp hB;unfold PySem.W.clsIn at hcD;split at hcD
  ·rename_i c' d' cd' sl' ho
   intro A' Q' E' s' k q;unfold isType loadHead;exact wpAny_bind (wpAny_loadPart (k _ _ (X _ _ ho)) (wpAny_pure q))
  ·cases hcD
 unfold excMatches isInstance isExcClass;refine wpAny_bind (wpAny_bind (L3.at ?_));rw [f];refine wpAny_pure ?_;rw [if_neg zAF];refine wpAny_bind (wpAny_pure ?_);simp only [zDB,List.forIn_nil]
 cases b with
 | true=>
  repeat (first | lk | wp_step)
  all_goals first | exact h | trace_state
 | false=>
  repeat (first | lk | wp_step)
  all_goals first | exact h | trace_state
end
end L2
namespace Tw
open PySem
inductive TG where
 | int (i:Int)
 | str (x:Str)
 | tup (l:List TG)
 | odd (n:String)
mutual
def TG.fits:TG->Nat->Bool
 | .int i,_=>decide (i.natAbs<10 ^ 60)
 | .str x,_=>Um x
 | .tup l,r=>decide (0<r)&&(decide (l.length<=4)&&gfitsL l (r - 1))
 | .odd _,_=>false
def gfitsL:List TG->Nat->Bool
 | [],_=>true
 | t :: l,r=>t.fits r&&gfitsL l r
end
theorem HD(r:Nat):∀ l:List TG,gfitsL l r=l.all fun t=>t.fits r
 | []=>by simp [gfitsL]
 | t :: l=>by rw [gfitsL,zDQ,HD r l]
mutual
def KT.emb:KT->TG
 | .int i=>.int i
 | .str x=>.str x
 | .tup l=>.tup (embL l)
def embL:List KT->List TG
 | []=>[]
 | t :: l=>t.emb :: embL l
end
theorem Od:∀ l:List KT,embL l=l.map KT.emb
 | []=>by rw [embL];rfl
 | t :: l=>by rw [embL,Od l];rfl
mutual
theorem LN:∀(t:KT)(r:Nat),t.emb.fits r=t.fits r
 | .int i,r=>by rw [KT.emb,TG.fits,KT.fits]
 | .str x,r=>by rw [KT.emb,TG.fits,KT.fits]
 | .tup l,r=>by rw [KT.emb,TG.fits,KT.fits,embL_fits l (r - 1),Od,zAD]
theorem embL_fits:∀(l:List KT)(r:Nat),gfitsL (embL l) r=fitsL l r
 | [],r=>by rw [embL,gfitsL,fitsL]
 | t :: l,r=>by rw [embL,gfitsL,fitsL,LN t r,embL_fits l r]
end
mutual
def TG.neat:TG->Prop
 | .int _=>True
 | .str x=>x.length<=1000
 | .tup l=>l.length<=5/\neatL l
 | .odd _=>True
def neatL:List TG->Prop
 | []=>True
 | t :: l=>t.neat/\neatL l
end
theorem Gf:∀{l:List TG}{t:TG},neatL l->t∈l->t.neat
 | [],_,_,h=>by cases h
 | u :: l,t,h,hm=>by
  rw [neatL] at h;rcases zAe.mp hm with e | e
  ·subst e;exact h.1
  ·exact Gf h.2 e
mutual
theorem LM:∀(t:KT)(r:Nat),t.fits r=true->t.emb.neat
 | .int i,r,h=>by rw [KT.emb,TG.neat];trivial
 | .str x,r,h=>by
  rw [KT.fits] at h;rw [KT.emb,TG.neat];have:=(G7 h).1;exact zAv this (by decide)
 | .tup l,r,h=>by
  rw [KT.fits,zAP,zAP] at h;rw [KT.emb,TG.neat,Od,zAD,<-Od];have:=of_decide_eq_true h.2.1;exact ⟨by lia,embL_neat l (r - 1) h.2.2⟩
theorem embL_neat:∀(l:List KT)(r:Nat),fitsL l r=true->neatL (embL l)
 | [],r,h=>by rw [embL,neatL];trivial
 | t :: l,r,h=>by
  rw [fitsL,zAP] at h;rw [embL,neatL];exact ⟨LM t r h.1,embL_neat l r h.2⟩
end
end Tw
namespace L2
open PySem PySem.Spec PyProof.Rows
section
variable{X:Cx}
theorem ZH.big{pins:List (Addr×Obj)}{σ:St}{H:Hp}{s:Shared}(I:ZH X pins σ H s):sysModules<s.heap.objs.size:=by
 have h:mainGlobals<s.heap.objs.size:=(I.mod.glob.keeps I.bk).lt;exact Nat.lt_trans (by decide) h
theorem Dl{P:Program}{w:World}{H:Hp}(h:Heap)(hb:sysModules<h.objs.size):Zf P w H (h.push { cls:=.type "dict",data:=.dict #[] }) h.objs.size (.dK []):=
 ⟨zAk _,beq_eq_false_iff_ne.mpr (Ne.symm (zAl hb)),[],.nil,Heap.DictOf.new h⟩
def ZOH:TE:=fun _ H Q=>∀ p,H p=none->Q (.ref p) (upd H p (.dK []))
theorem ML{pos:Pos}:PE X (.Dict [] [] pos) ZOH:=fun pins s σ H Q I h=>
 wpAny_Dict_empty ⟨.ref s.heap.objs.size,_,I.laid (a:=s.heap.objs.size) (o:=.dK []) (t':=s.toks) (fun _ _ q=>zAI _ q) (zAH _) (Dl s.heap I.big),rfl,h _ (I.hok.fresh (zAH _))⟩
def QI(x:Str)(n:Int):Str:=⟨(zBa n.toNat x.cps).foldl (· ++ ·) #[]⟩
theorem K5(a:Array Nat):∀(k:Nat)(b:Array Nat),((zBa k a).foldl (· ++ ·) b).size=b.size+k * a.size
 | 0,b=>by simp
 | k+1,b=>by
  rw [List.replicate_succ,List.foldl_cons,K5 a k,zCk,Nat.succ_mul]
  lia
theorem BX:Yp X (binaryOp .Mult) (fun x y H Q=>∃ i n,x=.str i/\y=.int n/\i.length=1/\2<=n/\n<=1000/\Q (.str (QI i n)) H):=by
 intro pins s σ H x y v u Q I rx ry h;obtain ⟨i,n,rfl,rfl,hi,h2,h3,q⟩:=h;obtain ⟨t,rfl⟩:=rx;obtain ⟨t',rfl⟩:=ry;have n1:¬ n<1:=by lia
 have n2:¬ ((n==1 || i.length==0)=true):=by rw [hi];simp;lia
 have sz:(QI i n).length<=sizeLine:=by
  show ((zBa n.toNat i.cps).foldl (· ++ ·) #[]).size<=sizeLine;have e:i.cps.size=1:=hi;rw [K5,e];exact zBJ (XG (by simp;lia))
 refine PySem.P.mul_str ?_ (fun _ _=>?_) (fun _ _=>?_) ?_
 ·rw [decide_eq_false (by lia),decide_eq_false (by lia)];rfl
 ·rw [hi];have:(1:Int)<=(2 ^ 63 - 1) / n:=(Int.le_ediv_iff_mul_le (by lia)).mpr (by lia)
  lia
 ·rw [hi];unfold Builtin.Str.tooLong sizeLine;exact decide_eq_false (by lia)
 ·rw [if_neg n1,if_neg n2];exact ⟨sz,⟨.str (QI i n),H,I.tok _,⟨_,rfl⟩,q⟩⟩
def cV:V->Value
 | .ty n=>.type n
 | .ref a=>.ref a
 | _=>.none
def IA:V->Bool
 | .ty _=>true
 | .ref _=>true
 | _=>false
theorem Bc{c:V}{u:Value}(r:ZS c u)(h:IA c=true):u=cV c:=by
 cases c with
 | ty n=>exact r
 | ref a=>exact r
 | _=>cases h
theorem CQ{K:zAA}{base:Heap}{mg:jb}{x:Str}{C:Addr}{bmB:jd}{newId:String}(kin:K.In base)(hb:mg x=some (.ref C))(q:zCd K C bmB newId=true):OwnCls x C bmB newId mg base:=by
 refine ⟨hb,?_⟩;unfold zCd at q;split at q
 ·rename_i dd cd sl ho
  split at q
  ·rename_i C' bm k0 k1 k2 k3 n k5 hm hs
   rw [zAP,zAP,zAP,zAP,zAP] at q;obtain ⟨⟨⟨⟨⟨q1,q2⟩,q3⟩,q4⟩,q5⟩,q6⟩:=q;cases eq_of_beq q1;cases eq_of_beq q2;have q3':cd.hasDel=false:=by simpa using q3
   have q6':=eq_of_beq q6;obtain ⟨nm,bs,mro,ns,qn,hd,sn,sub,ab,col,del⟩:=cd;dsimp only at hm q3' q5 q6';subst hm q3';have hsl:sl=#[k0,k1,k2,k3,some (.builtin newId),k5]:=by
    obtain ⟨l⟩:=sl;simp only at hs;rw [hs]
   subst hsl;refine ⟨bm,ns,nm,qn,bs,hd,sn,sub,ab,col,dd,k0,k1,k2,k3,k5,base.nsMap ns,kin _ _ ho,?_⟩;exact ⟨.of_isNs (PySem.W.isNs_of_in kin q5),PySem.W.nsMap_none_of_in kin q5 q6',zDW kin q4⟩
  ·cases q
 ·cases q
end
section
variable{κ:Type}[DecidableEq κ]
def YN(kvs:List (κ×V))(k:κ):jf:=(kvs.find? fun kv=>decide (kv.1=k)).map (·.2)
def XF(kvs:List (κ×V))(k:κ)(v:V):List (κ×V):=
 if (kvs.any fun kv=>decide (kv.1=k))=true then kvs.map (fun kv=>if kv.1=k then (kv.1,v) else kv) else kvs++[(k,v)]
def U2(kvs:List (κ×V))(k:κ):List (κ×V):=kvs.filter fun kv=>decide (kv.1≠k)
theorem UW{p:κ×V}{r:List (κ×V)}{k:κ}(e:p.1=k):YN (p :: r) k=some p.2:=by simp [YN,zBd,e]
theorem Ub{p:κ×V}{r:List (κ×V)}{k:κ}(e:¬ p.1=k):YN (p :: r) k=YN r k:=by simp [YN,zBd,e]
theorem Q0(k:κ):∀ kvs:List (κ×V),(kvs.any fun kv=>decide (kv.1=k))=(YN kvs k).isSome
 | []=>rfl
 | p :: r=>by
  rw [zDP];by_cases e:p.1=k
  ·simp only [UW e,decide_eq_true e,Bool.true_or,Option.isSome_some]
  ·rw [Ub e,decide_eq_false e,Bool.false_or];exact Q0 k r
theorem IV(k j:κ)(y:V):∀ kvs:List (κ×V),YN (kvs.map fun kv=>if kv.1=k then (kv.1,y) else kv) j=(YN kvs j).map fun x=>if j=k then y else x
 | []=>rfl
 | p :: r=>by
  have ih:=IV k j y r;rw [zAa];by_cases h:p.1=k
  ·rw [if_pos h];by_cases e:p.1=j
   ·rw [UW (p:=(p.1,y)) e,UW e,zBT,if_pos (e.symm.trans h)]
   ·rw [Ub (p:=(p.1,y)) e,Ub e,ih]
  ·rw [if_neg h];by_cases e:p.1=j
   ·rw [UW (p:=p) e,UW e,zBT,if_neg (fun z=>h (e.trans z))]
   ·rw [Ub (p:=p) e,Ub e,ih]
theorem Ie(k j:κ)(y:V):∀ kvs:List (κ×V),YN kvs k=none->YN (kvs++[(k,y)]) j=if j=k then some y else YN kvs j
 | [],_=>by
  by_cases e:k=j
  ·rw [if_pos e.symm];exact UW (p:=(k,y)) e
  ·rw [if_neg (fun z=>e z.symm)];exact Ub (p:=(k,y)) e
 | p :: r,hn=>by
  rw [zCy];have hk:¬ p.1=k:=fun z=>by rw [UW z] at hn;cases hn
  rw [Ub hk] at hn;have ih:=Ie k j y r hn;by_cases e:p.1=j
  ·rw [UW e,UW e,if_neg (fun z=>hk (e.trans z))]
  ·rw [Ub e,Ub e,ih]
theorem Os(kvs:List (κ×V))(k j:κ)(y:V):YN (XF kvs k y) j=if j=k then some y else YN kvs j:=by
 unfold XF;by_cases a:(kvs.any fun kv=>decide (kv.1=k))=true
 ·rw [if_pos a,IV];rw [Q0] at a;by_cases e:j=k
  ·obtain ⟨x,hx⟩:=zBn.mp a;rw [if_pos e,e,hx,zBT,if_pos rfl]
  ·rw [if_neg e]
   cases YN kvs j with
   | none=>rfl
   | some x=>rw [zBT,if_neg e]
 ·rw [if_neg a];refine Ie k j y kvs ?_;rw [Q0] at a
  cases q:YN kvs k with
  | none=>rfl
  | some x=>rw [q] at a;exact (a rfl).elim
theorem Gk(kvs:List (κ×V))(k:κ)(v:V):(XF kvs k v).length<=kvs.length+1:=by
 unfold XF;split
 ·rw [zAD];lia
 ·rw [zAG,zAW,zBv];lia
theorem Ow{kvs:List (κ×V)}{k:κ}(v:V)(h:YN kvs k=none):XF kvs k v=kvs++[(k,v)]:=by
 unfold XF;rw [Q0,h];exact if_neg (by decide)
theorem Ye.isSome_eq{o:jf}{u:jc}(r:Ye o u):o.isSome=u.isSome:=by
 cases o with
 | none=>cases u with
  | none=>rfl
  | some _=>exact (show False from r).elim
 | some _=>cases u with
  | none=>exact (show False from r).elim
  | some _=>rfl
theorem KV.val{kvs:List (κ×V)}{vs:List (κ×Value)}(r:KV kvs vs)(k:κ):Ye (YN kvs k) (valueAt vs k):=by
 unfold KV at r
 induction r with
 | nil=>exact True.intro
 | @cons p q ps qs h t ih=>
  obtain ⟨h1,h2⟩:=h;by_cases e:p.1=k
  ·have e':q.1=k:=h1.symm.trans e;have b:valueAt (q :: qs) k=some q.2:=by simp [valueAt,zBd,e']
   rw [UW e,b];exact h2
  ·have e':¬ q.1=k:=fun z=>e (h1.trans z);have b:valueAt (q :: qs) k=valueAt qs k:=by simp [valueAt,zBd,e']
   rw [Ub e,b];exact ih
theorem KV.any{kvs:List (κ×V)}{vs:List (κ×Value)}(r:KV kvs vs)(k:κ):(kvs.any fun kv=>decide (kv.1=k))=vs.any fun kv=>decide (kv.1=k):=by
 unfold KV at r
 induction r with
 | nil=>rfl
 | cons h t ih=>rw [zDP,zDP,ih,h.1]
theorem KV.repl{kvs:List (κ×V)}{vs:List (κ×Value)}(r:KV kvs vs)(k:κ){y:V}{u:Value}(ry:ZS y u):
  KV (kvs.map fun kv=>if kv.1=k then (kv.1,y) else kv) (vs.map fun kv=>if kv.1=k then (kv.1,u) else kv):=by
 unfold KV at r ⊢
 induction r with
 | nil=>exact .nil
 | @cons p q ps qs h t ih=>
  rw [zAa,zAa];refine .cons ?_ ih;obtain ⟨h1,h2⟩:=h;by_cases e:p.1=k
  ·rw [if_pos e,if_pos (h1.symm.trans e)];exact ⟨h1,ry⟩
  ·rw [if_neg e,if_neg (fun z=>e (h1.trans z))];exact ⟨h1,h2⟩
theorem KV.put{kvs:List (κ×V)}{vs:List (κ×Value)}(r:KV kvs vs)(k:κ){y:V}{u:Value}(ry:ZS y u):KV (XF kvs k y) (stored vs k u):=by
 unfold XF stored;rw [r.any k];by_cases e:(vs.any fun kv=>decide (kv.1=k))=true
 ·rw [if_pos e,if_pos e];exact r.repl k ry
 ·rw [if_neg e,if_neg e];exact Paired.snoc r ⟨rfl,ry⟩
theorem KV.drop{kvs:List (κ×V)}{vs:List (κ×Value)}(r:KV kvs vs)(k:κ):KV (U2 kvs k) (without vs k):=by
 unfold KV at r ⊢;unfold U2 without
 induction r with
 | nil=>exact .nil
 | @cons p q ps qs h t ih=>
  obtain ⟨h1,h2⟩:=h;rw [zCw,zCw];by_cases e:p.1=k
  ·have a:¬ decide (p.1≠k)=true:=by simp [e]
   have b:¬ decide (q.1≠k)=true:=by simp [h1.symm.trans e]
   rw [if_neg a,if_neg b];exact ih
  ·have e':¬ q.1=k:=fun z=>e (h1.trans z);have a:decide (p.1≠k)=true:=by simp [e]
   have b:decide (q.1≠k)=true:=by simp [e']
   rw [if_pos a,if_pos b];exact .cons ⟨h1,h2⟩ ih
theorem KV.keys{kvs:List (κ×V)}{vs:List (κ×Value)}(r:KV kvs vs):kvs.map (·.1)=vs.map (·.1):=by
 unfold KV at r
 induction r with
 | nil=>rfl
 | cons h t ih=>rw [zAa,zAa,ih,h.1]
theorem KV.length{kvs:List (κ×V)}{vs:List (κ×Value)}(r:KV kvs vs):kvs.length=vs.length:=Paired.length r
theorem B6(kvs:List (κ×V))(k:κ):(U2 kvs k).length<=kvs.length:=zCV _ _
end
theorem P9{P:Program}{w:World}{k:Zd}{u:Value}(r:ZS (kV k) u):(Vc P w).is k u=true:=by
 cases k with
 | inl i=>obtain ⟨t,e⟩:=(show ∃ t,u=Value.int i t from r);subst e;exact D5 P w i t
 | inr x=>obtain ⟨t,e⟩:=(show ∃ t,u=Value.str x t from r);subst e;exact Ap P w x t
theorem JW{P:Program}{w:World}:∀{ks:List Zd}{us:jd},ZN (ks.map kV) us->ItemsAre (Vc P w) ks us
 | [],_,r=>by rw [zBu] at r;cases r;exact .nil
 | k :: ks,_,r=>by
  rw [zAa] at r
  cases r with
  | cons h t=>exact .cons (P9 h) (JW t)
abbrev KT(H:Hp):List (List Zd×V)->List (List Zd×Addr×Value)->Prop:=Paired fun p q=>p.1=q.1/\H q.2.1=some (.tup (p.1.map kV))/\ZS p.2 q.2.2
theorem KT.val{H:Hp}{kvs:List (List Zd×V)}{xs:List (List Zd×Addr×Value)}(r:KT H kvs xs)(k:List Zd):Ye (YN kvs k) ((atKey xs k).map (·.2)):=by
 induction r with
 | nil=>exact True.intro
 | @cons p q ps qs h t ih=>
  obtain ⟨h1,_,h2⟩:=h;by_cases e:p.1=k
  ·have e':q.1=k:=h1.symm.trans e;have b:atKey (q :: qs) k=some q.2:=by simp [atKey,zBd,e']
   rw [UW e,b];exact h2
  ·have e':¬ q.1=k:=fun z=>e (h1.trans z);have b:atKey (q :: qs) k=atKey qs k:=by simp [atKey,zBd,e']
   rw [Ub e,b];exact ih
theorem KT.repl{H:Hp}{kvs:List (List Zd×V)}{xs:List (List Zd×Addr×Value)}(r:KT H kvs xs)(k:List Zd){y:V}{u:Value}(ry:ZS y u):
  KT H (kvs.map fun kv=>if kv.1=k then (kv.1,y) else kv) (xs.map (putAt k u)):=by
 induction r with
 | nil=>exact .nil
 | @cons p q ps qs h t ih=>
  rw [zAa,zAa];refine .cons ?_ ih;obtain ⟨h1,h2,h3⟩:=h;unfold putAt;by_cases e:p.1=k
  ·rw [if_pos e,if_pos (h1.symm.trans e)];exact ⟨h1,h2,ry⟩
  ·rw [if_neg e,if_neg (fun z=>e (h1.trans z))];exact ⟨h1,h2,h3⟩
theorem KT.put{H:Hp}{kvs:List (List Zd×V)}{xs:List (List Zd×Addr×Value)}(r:KT H kvs xs)(k:List Zd){b:Addr}{y:V}{u:Value}(hb:H b=some (.tup (k.map kV)))(ry:ZS y u):
  KT H (XF kvs k y) (storedH xs k b u):=by
 have e:(kvs.any fun kv=>decide (kv.1=k))=(atKey xs k).isSome:=by
  rw [Q0,(r.val k).isSome_eq,Option.isSome_map]
 unfold XF storedH;rw [e];by_cases q:(atKey xs k).isSome=true
 ·rw [if_pos q,if_pos q];exact r.repl k ry
 ·rw [if_neg q,if_neg q];exact Paired.snoc r ⟨rfl,hb,ry⟩
theorem KT.keeps{H H':Hp}{kvs:List (List Zd×V)}{xs:List (List Zd×Addr×Value)}(r:KT H kvs xs)(ht:∀ b ys,H b=some (.tup ys)->H' b=some (.tup ys)):KT H' kvs xs:=
 Paired.mapP r fun _ _ z=>⟨z.1,ht _ _ z.2.1,z.2.2⟩
section
variable{P:Program}{w:World}{H:Hp}{h:Heap}{a:Addr}
theorem JL{u:HO}(ok:YX P w H h)(e:Rd H a u):Zf P w H h a u:=e.ok ok
theorem Pb{kvs:List (Zd×V)}(ok:YX P w H h)(e:Rd H a (.dK kvs)):kvs.length<=sizeLine/\(a==sysModules)=false/\∃ vs,KV kvs vs/\h.DictOf (Vc P w) a vs:=
 show Zf P w H h a (.dK kvs) from JL ok e
theorem OE{kvs:List (Zd×V)}(ok:YX P w H h)(e:H a=some (.dK kvs)):kvs.length<=sizeLine/\(a==sysModules)=false/\∃ vs,KV kvs vs/\h.DictOf (Vc P w) a vs:=Pb ok (.inl e)
theorem Oc{ks:List Zd}(ok:YX P w H h)(e:H a=some (.tup (ks.map kV))):(tupleKind (Vc P w)).is h ks a:=by
 obtain ⟨_,ji,r,o,h1,h2,n,h3⟩:=(show Zf P w H h a (.tup (ks.map kV)) from ok a _ e);exact ⟨o,ji.toArray,n,h1,h2,h3,by simpa using JW r⟩
theorem OU{kvs:List (List Zd×V)}(ok:YX P w H h)(e:Rd H a (.dT kvs)):kvs.length<=sizeLine/\(a==sysModules)=false /\
  ∃ xs,KT H kvs xs/\h.DictOfH (tupleKind (Vc P w)) a xs:=by
 obtain ⟨z,y,xs,r,o,es,ep,h1,h2,h3,h4,h5⟩:=(show Zf P w H h a (.dT kvs) from JL ok e);refine ⟨z,y,xs,r,o,es,ep,h1,h2,h3,h4,fun x hx=>?_,h5⟩;have all:∀{l:List (List Zd×V)}{m:List (List Zd×Addr×Value)},KT H l m->∀ x∈m,(tupleKind (Vc P w)).is h x.1 x.2.1:=by
  intro l m q
  induction q with
  | nil=>intro x hx;exact nomatch hx
  | @cons p q ps qs hq t ih=>
   intro x hx;rcases zAe.mp hx with e | hx
   ·subst e;exact Oc ok (by rw [<-hq.1];exact hq.2.1)
   ·exact ih x hx
 exact all r x hx
theorem Fp{kvs:List (List Zd×V)}(ok:YX P w H h)(e:H a=some (.dT kvs)):kvs.length<=sizeLine/\(a==sysModules)=false /\
  ∃ xs,KT H kvs xs/\h.DictOfH (tupleKind (Vc P w)) a xs:=OU ok (.inl e)
end
def YZ(H:Hp)(a:Addr)(y:V)(r:jf):Prop:=
 (∃ kvs k,Rd H a (.dK kvs)/\y=kV k/\r=YN kvs k)\/∃ kvs k b,Rd H a (.dT kvs)/\y=.ref b/\H b=some (.tup (k.map kV))/\r=YN kvs k
def UB(H:Hp)(a:Addr)(y v:V)(H':Hp):Prop:=
 (∃ kvs k,H a=some (.dK kvs)/\y=kV k/\kvs.length<sizeLine/\H'=upd H a (.dK (XF kvs k v))) \/
 ∃ kvs k b,H a=some (.dT kvs)/\y=.ref b/\H b=some (.tup (k.map kV))/\kvs.length<sizeLine/\H'=upd H a (.dT (XF kvs k v))
theorem YZ.k{H:Hp}{a:Addr}{kvs:List (Zd×V)}{k:Zd}(e:H a=some (.dK kvs)):YZ H a (kV k) (YN kvs k):=.inl ⟨kvs,k,.inl e,rfl,rfl⟩
theorem UB.k{H:Hp}{a:Addr}{kvs:List (Zd×V)}{k:Zd}{v:V}(e:H a=some (.dK kvs))(hl:kvs.length<sizeLine):UB H a (kV k) v (upd H a (.dK (XF kvs k v))):=.inl ⟨kvs,k,e,rfl,hl,rfl⟩
section
variable{X:Cx}{pins:List (Addr×Obj)}{σ:St}{H:Hp}{s:Shared}{a:Addr}{y v:V}{u r:Value}{o:jf}{A:Around}{E:ja}
theorem CW{Q:ja}(hu:A.units+1<cLine)(I:ZH X pins σ H s)(g:YZ H a y (some v))(ry:ZS y u)(h:∀ w' s',ZH X pins σ H s'->ZS v w'->Q w' s'):
  wpAny (model X.prog X.w) A (getItem (.ref a) u) Q E s:=by
 rcases g with ⟨kvs,k,e,ey,l⟩ | ⟨kvs,k,b,e,ey,eb,l⟩
 ·subst ey;obtain ⟨z,hd,vs,rel,dd⟩:=Pb I.hok e;obtain ⟨w',hw,rw'⟩:=Ye.some_of (v:=v) (o:=valueAt vs k) (by rw [l];exact rel.val k)
  exact wpAny_getItem_of (P9 ry) dd.mapOf hw (h w' _ (I.tok _) rw')
 ·subst ey;cases (show u=Value.ref b from ry);obtain ⟨z,hd,xs,rel,dd⟩:=OU I.hok e;obtain ⟨w',hw,rw'⟩:=Ye.some_of (v:=v) (o:=(atKey xs k).map (·.2)) (by rw [l];exact rel.val k)
  obtain ⟨p,hp,hp2⟩:=zAt.mp hw;refine wpAny_getItem_heap (tupleKind_room_in1 hu) (Oc I.hok eb) dd hp ?_;rw [hp2];exact h w' _ (I.tok _) rw'
theorem ZL9{Q:ja}(hu:A.units+1<cLine)(I:ZH X pins σ H s)(g:YZ H a y o)(ry:ZS y u)(h:∀ s',ZH X pins σ H s'->Q (.bool (!o.isSome)) s'):
  wpAny (model X.prog X.w) A (compareOp .NotIn u (.ref a)) Q E s:=by
 rcases g with ⟨kvs,k,e,ey,l⟩ | ⟨kvs,k,b,e,ey,eb,l⟩
 ·subst ey;obtain ⟨z,hd,vs,rel,dd⟩:=Pb I.hok e;refine wpAny_notIn_of (P9 ry) hd dd.mapOf ?_;rw [<-(rel.val k).isSome_eq,<-l];exact h _ (I.tok _)
 ·subst ey;cases (show u=Value.ref b from ry);obtain ⟨z,hd,xs,rel,dd⟩:=OU I.hok e;refine wpAny_notIn_heap (tupleKind_room_in1 hu) (Oc I.hok eb) hd dd ?_;have q:=(rel.val k).isSome_eq;rw [Option.isSome_map] at q;rw [<-q,<-l];exact h _ (I.tok _)
theorem Og{h':Heap}{t':Nat}{ob:HO}(I:ZH X pins σ H s)(mu:Pi (H a))(hs:zBD a s.heap h')(he:∃ q,h'.get? a=some q)(new:Zf X.prog X.w (upd H a ob) h' a ob):
  ZH X pins σ (upd H a ob) { s with heap:=h',toks:=t' }:=
 I.write (x:=a) (e:=a) mu (.inl rfl) (fun b q hb z=>(hs.2 b hb).trans z) he new
theorem JC{P:Program}{w:World}{H':Hp}{h':Heap}{kvs:List (Zd×V)}{vs:List (Zd×Value)}(z:kvs.length<=sizeLine)(hd:(a==sysModules)=false)(rel:KV kvs vs)(dd:h'.DictOf (Vc P w) a vs):
  Zf P w H' h' a (.dK kvs):=⟨z,hd,vs,rel,dd⟩
theorem ZIQ{H':Hp}{Q:Unit->Shared->Prop}(hu:A.units+1<cLine)(I:ZH X pins σ H s)(g:UB H a y v H')(ry:ZS y u)(rv:ZS v r)(h:∀ s',ZH X pins σ H' s'->Q () s'):
  wpAny (model X.prog X.w) A (setItem (.ref a) u r) Q E s:=by
 rcases g with ⟨kvs,k,e,ey,l,eH⟩ | ⟨kvs,k,b,e,ey,eb,l,eH⟩
 ·subst ey eH;obtain ⟨z,hd,vs,rel,dd⟩:=OE I.hok e;have hz:vs.length<=sizeLine:=by rw [<-rel.length];exact z
  have hl:(XF kvs k v).length<=sizeLine:=by have:=Gk kvs k v;lia
  refine wpAny_setItem_pairs (hsz:=hz) (P9 ry) dd fun h' dd' hs=>h _ ?_;have he:∃ q,h'.get? a=some q:=let ⟨q,_,_,hq,_⟩:=dd';⟨q,hq⟩;exact Og I (by rw [e];exact True.intro) hs he (JC hl hd (rel.put k rv) dd')
 ·subst ey eH;cases (show u=Value.ref b from ry);obtain ⟨z,hd,xs,rel,dd⟩:=Fp I.hok e;have hz:xs.length<=sizeLine:=by rw [<-Paired.length rel];exact z
  have hl:(XF kvs k v).length<=sizeLine:=by have:=Gk kvs k v;lia
  refine wpAny_setItem_heap (hsz:=hz) (tupleKind_room_in1 hu) (Oc I.hok eb) dd fun h' dd' hs=>h _ ?_;obtain ⟨q,es,ep,hq,h2,h3,h4,_,h5⟩:=dd';refine Og I (by rw [e];exact True.intro) hs ⟨q,hq⟩ ⟨hl,hd,_,(rel.put k eb rv).keeps fun c ys ec=>?_,q,es,ep,hq,h2,h3,h4,h5⟩
  rw [ZV (ZT ec e (fun z=>nomatch z))];exact ec
end
section
variable{X:Cx}{pins:List (Addr×Obj)}{σ:St}{H:Hp}{s:Shared}{a:Addr}{kvs:List (Zd×V)}{k:Zd}{u:Value}{A:Around}{E:ja}
theorem C3{v:V}{more:jd}{Q:ja}(I:ZH X pins σ H s)(e:H a=some (.dK kvs))(ry:ZS (kV k) u)(l:YN kvs k=some v)(hm:more=[]\/∃ x,more=[x])(h:∀ w' s',ZH X pins σ (upd H a (.dK (U2 kvs k))) s'->ZS v w'->Q w' s'):wpAny (model X.prog X.w) A (call (.builtin "dict.pop") (.ref a :: u :: more)) Q E s:=by
 obtain ⟨z,hd,vs,rel,dd⟩:=OE I.hok e;obtain ⟨w',hw,rw'⟩:=Ye.some_of (v:=v) (o:=valueAt vs k) (by rw [<-l];exact rel.val k)
 have hp:(keyPart u).isSome=true:=by
  cases k with
  | inl i=>obtain ⟨t,q⟩:=(show ∃ t,u=Value.int i t from ry);subst q;rfl
  | inr x=>obtain ⟨t,q⟩:=(show ∃ t,u=Value.str x t from ry);subst q;rfl
 have ha:argsOk "dict.pop" ⟨.ref a :: u :: more,[]⟩:=by
  rcases hm with q | ⟨x,q⟩
  ·subst q;exact PySem.F.args_dict_pop_2 _ _
  ·subst q;exact PySem.F.args_dict_pop_3 _ _ _
 refine call_meetsIn zDL dd.typeIs PySem.F.entry_dict_pop ha (meets_dict_pop_there (Vc X.prog X.w) a (P9 ry) more hm hp)
  ⟨vs,w',dd,by rw [<-rel.length];exact z,hw,fun h' dd' hs=>h w' _ ?_ rw'⟩
 have he:∃ q,h'.get? a=some q:=let ⟨q,_,_,hq,_⟩:=dd';⟨q,hq⟩;exact Og I (by rw [e];exact True.intro) hs he (JC (zAv (B6 kvs k) z) hd (rel.drop k) dd')
theorem G6{Q:ja}(I:ZH X pins σ H s)(e:Rd H a (.dK kvs))(h:∀ t s',ZH X pins σ H s'->Q (.int kvs.length t) s'):wpAny (model X.prog X.w) A (call (.builtin "len") [.ref a]) Q E s:=by
 obtain ⟨z,hd,vs,rel,dd⟩:=Pb I.hok e;refine call_len_dict hd dd (by rw [<-rel.length];rw [sizeLine_eq] at z;lia) ?_
 rw [<-rel.length];exact h _ _ (I.tok _)
end
def O7(i:Expr):Prop:=∀ ov iv,subscripted i false ov iv=operate [ov,iv] (getItem ov iv)
theorem Kt{prog:Program}{w:World}{A:Around}{E:ja}{s:Shared}{env:Env}{value slice:Expr}{pos:Pos}{T id:String}{Q:ja}(hl:typeLookup (.type T) "__getitem__" = pure (some (.builtin id)))(hs:O7 slice)(h:wpAny (model prog w) A (eval value env) (fun o s₁=>wpAny (model prog w) A (eval slice env) (fun i s₂=>s₂.TypeIs o T/\wpAny (model prog w) A (getItem o i) Q E s₂) E s₁) E s):
  wpAny (model prog w) A (eval (.Subscript value slice pos) env) Q E s:=by
 refine Subscript_ (wpAny_mono h (fun o s₁ h₁=>wpAny_mono h₁ (fun i s₂ h₂=>?_) fun _ _ x=>x) fun _ _ x=>x);obtain ⟨hT,h₂⟩:=h₂;unfold subscriptTail;refine wpAny_bind ?_;rw [getitemInPython_of_ne hT.not_modules];refine wpAny_bind (wpAny_specialOf hT hl ?_);have fin:wpAny (model prog w) A (subscripted slice false o i) (fun r s₃=>wpAny (model prog w) A (letTemporaryGo value o r >>= fun _=>pure r) Q E s₃) E s₂:=by
  rw [hs o i];exact wpAny_operating (wpAny_mono h₂ (fun r s₃ h₃=>wpAny_bind (wpAny_letTemporaryGo (wpAny_pure h₃))) fun _ _ x=>x)
 first
  | exact wpAny_pure (wpAny_bind fin)
  | exact wpAny_bind (wpAny_pure (wpAny_bind fin))
  | exact wpAny_bind fin
theorem B1{X:Cx}{pins:List (Addr×Obj)}{σ:St}{H:Hp}{s:Shared}{a:Addr}{y:V}{o:jf}(I:ZH X pins σ H s)(g:YZ H a y o):s.TypeIs (.ref a) "dict" :=by
 rcases g with ⟨kvs,k,e,_,_⟩ | ⟨kvs,k,b,e,_,_,_⟩
 ·obtain ⟨_,_,vs,_,dd⟩:=Pb I.hok e;exact dd.typeIs
 ·obtain ⟨_,_,xs,_,dd⟩:=OU I.hok e;exact dd.typeIs
def AV(td ty:TE):TE:=fun σ H Q=>td σ H fun x H1=>ty σ H1 fun y H2=>∃ a v,x=.ref a/\YZ H2 a y (some v)/\Q v H2
def ZMb(ty td:TE):TE:=fun σ H Q=>ty σ H fun y H1=>td σ H1 fun x H2=>∃ a o,x=.ref a/\YZ H2 a y o/\Q (.bl (!o.isSome)) H2
def C6(td ty tv:TE):TS:=fun D σ H=>tv σ H fun v H1=>td σ H1 fun x H2=>ty σ H2 fun y H3=>∃ a H4,x=.ref a/\UB H3 a y v H4/\D.nx σ H4
section
variable{X:Cx}{o i e value:Expr}{pos pos' tpos:Pos}{td ty tv:TE}
theorem P0(hu:X.A.units+1<cLine)(ho:PE X o td)(hi:PE X i ty)(hs:O7 i):PE X (.Subscript o i pos) (AV td ty):=by
 intro pins s σ H Q I h;refine Kt zC2.lookup hs (Zc (ho pins s σ H _ I h) fun u s1 ⟨x,H1,I1,rx,q1⟩=>Zc (hi pins s1 σ H1 _ I1 q1) fun iv s2 ⟨y,H2,I2,ry,a,v,ex,g,q2⟩=>?_);subst ex;obtain rfl:u=Value.ref a:=rx;exact ⟨B1 I2 g,CW hu I2 g ry fun w' s3 I3 rw'=>⟨v,H2,I3,rw',q2⟩⟩
theorem Ms(hu:X.A.units+1<cLine)(hi:PE X i ty)(ho:PE X o td):PC X .NotIn i o (ZMb ty td):=by
 intro pins s σ H Q I h;refine Zc (hi pins s σ H _ I h) fun iv s1 ⟨y,H1,I1,ry,q1⟩=>Zc (ho pins s1 σ H1 _ I1 q1) fun u s2 ⟨x,H2,I2,rx,a,ov,ex,g,q2⟩=>?_;subst ex;obtain rfl:u=Value.ref a:=rx;exact ZL9 hu I2 g ry fun s3 I3=>⟨.bl (!ov.isSome),H2,I3,rfl,q2⟩
theorem JB(hu:X.A.units+1<cLine)(ho:PE X o td)(hi:PE X i ty)(hv:PE X value tv)(hs:swapsWith value (some (.Subscript o i pos')) pos.line X.env=pure false):
  PS X (.Assign [.Subscript o i pos'] value pos) (C6 td ty tv):=by
 intro pins s σ H D I h;refine wpAny_Assign_Subscript (Zc (hv pins s σ H _ I h) fun r s1 ⟨v,H1,I1,rv,q1⟩=>Zc (ho pins s1 σ H1 _ I1 q1) fun u s2 ⟨x,H2,I2,rx,q2⟩=>Zc (hi pins s2 σ H2 _ I2 q2) fun iv s3 ⟨y,H3,I3,ry,a,H4,ex,g,q3⟩=>?_) hs;subst ex;obtain rfl:u=Value.ref a:=rx;exact ZIQ hu I3 g ry rv fun s4 I4=>⟨σ,H4,I4,q3⟩
end
section
variable{X:Cx}{pos:Pos}
end
structure M1(X:Cx)(o:Expr)(m:Str)(jr:Pos)(e:Expr)(jj:Pos):Prop where
 base:attributeBase o m X.env (eval o X.env)=eval o X.env
 few:((backTo jj (starEach [e] X.env)).all (fun x=>!x.1)&&(backToKw jj (keywordEach [] X.env)).all (fun x=>x.1.isSome)
  && decide (([e]:List Expr).length+([]:List Keyword).length+(if ([]:List Keyword).isEmpty then 0 else 1)<30))=true
 line:(jr.endLine==jj.line)=true
 trees:backTo jj (starEach [e] X.env)=[(false,eval e X.env)]
def Kr(H:Hp)(a:Addr):Prop:=(∃ kvs,Rd H a (.dK kvs))\/∃ kvs,Rd H a (.dT kvs)
theorem BP{X:Cx}{pins:List (Addr×Obj)}{σ:St}{H:Hp}{s:Shared}{a:Addr}(I:ZH X pins σ H s)(d:Kr H a):
  s.TypeIs (.ref a) "dict" /\ (∀ b,Value.ref a=.ref b->∃ ob,s.heap.get? b=some ob/\ob.dict=none)/\(a==sysModules)=false:=by
 rcases d with ⟨kvs,e⟩ | ⟨kvs,e⟩
 ·obtain ⟨_,hd,vs,_,dd⟩:=Pb I.hok e;refine ⟨dd.typeIs,fun b q=>?_,hd⟩;cases q;obtain ⟨ob,_,_,h1,h2,_⟩:=dd;exact ⟨ob,h1,h2.2.1⟩
 ·obtain ⟨_,hd,xs,_,dd⟩:=OU I.hok e;refine ⟨dd.typeIs,fun b q=>?_,hd⟩;cases q;obtain ⟨ob,_,_,h1,h2,_⟩:=dd;exact ⟨ob,h1,h2.2.1⟩
section
variable{X:Cx}{pins:List (Addr×Obj)}{σ:St}{H:Hp}{s:Shared}{a:Addr}{y d:V}{u r:Value}{o:jf}{A:Around}{E:ja}
end
def ZOb(td ty:TE):TE:=fun σ H Q=>td σ H fun x H1=>∃ a,x=.ref a/\Kr H1 a/\ty σ H1 fun y H2=>∃ kvs k v,H2 a=some (.dK kvs)/\y=kV k/\YN kvs k=some v/\Q v (upd H2 a (.dK (U2 kvs k)))
section
variable{X:Cx}{o e f:Expr}{jr jj:Pos}{td ty tx:TE}
theorem ZK3(ho:PE X o td)(he:PE X e ty)(m:M1 X o "pop" jr e jj):PE X (.Call (.Attribute o "pop" jr) [e] [] jj) (ZOb td ty):=by
 intro pins s σ H Q I h;refine wpAny_Call_method m.base m.few m.line PySem.F.plainAttrs_dict zDL PySem.F.type_dict_pop (Zc (ho pins s σ H _ I h) fun u s1 ⟨x,H1,I1,rx,a,ex,d,q1⟩=>?_);subst ex;obtain rfl:u=Value.ref a:=rx;obtain ⟨t1,t2,_⟩:=BP I1 d;refine ⟨t1,t2,?_⟩;rw [m.trees];refine Calls.callWith_builtin rfl (Calls.evalArgs_plain (Calls.spliced_cons (Zc (he pins s1 σ H1 _ I1 q1) fun iv s2 ⟨y,H2,I2,ry,kvs,k,v,ea,ey,l,q2⟩=>Calls.spliced_nil ?_)));subst ey;exact C3 I2 ea ry l (.inl rfl) fun w' s3 I3 rw'=>⟨v,_,I3,rw',q2⟩
end
section
variable{X:Cx}{pins:List (Addr×Obj)}{σ:St}{H:Hp}{s:Shared}{a:Addr}{kvs:List (Zd×V)}{A:Around}{E:ja}
end
section
variable{X:Cx}{pins:List (Addr×Obj)}{σ:St}{H:Hp}{s:Shared}{a:Addr}{y:V}{u:Value}{A:Around}{E:ja}
end
section
variable{X:Cx}
theorem BI:VX X (.builtin "len") (fun xs H Q=>∃ a kvs,xs=[V.ref a]/\H a=some (.dK kvs)/\Q (.int kvs.length) H):=by
 intro pins s σ H xs us Q I r h;obtain ⟨a,kvs,rfl,ha,q⟩:=h;obtain ⟨u,rfl,ru⟩:=Va r;cases ru;exact G6 I (.inl ha) fun t s' I'=>⟨.int kvs.length,H,I',⟨t,rfl⟩,q⟩
end
section
variable{κ:Type}[DecidableEq κ]
theorem El{kvs:List (κ×V)}{k:κ}(h:YN kvs k=none):¬ k∈kvs.map (·.1):=by
 intro m;obtain ⟨p,hp,e⟩:=zAf.mp m;have q:(kvs.any fun kv=>decide (kv.1=k))=true:=zCS.mpr ⟨p,hp,decide_eq_true e⟩;rw [Q0,h] at q;exact absurd q (by simp)
theorem Jw{kvs:List (κ×V)}{k:κ}{v:V}(h:YN kvs k=some v):k∈kvs.map (·.1):=by
 have q:(kvs.any fun kv=>decide (kv.1=k))=true:=by
  rw [Q0,h]
  all_goals rfl
 obtain ⟨p,hp,e⟩:=zCS.mp q;exact zAf.mpr ⟨p,hp,of_decide_eq_true e⟩
end
end L2
namespace Tw
open PySem PySem.Spec L2 PyProof.Rows
def Pl(d:Addr)(es:Array DictEntry):HO:=.ext fun h=>(d==sysModules)=false/\es.size<=sizeLine/\∃ o ep,h.get? d=some o/\o.ExactDict/\o.data=.dict es ep
abbrev Pn(w:World)(x:KT×V×V)(e:DictEntry):Prop:=e.hash=Xy w x.1/\ZS x.2.1 e.key/\ZS x.2.2 e.val
structure YJ(w:World)(H:Hp)(d:Addr)(xs:List (KT×V×V)):Prop where
 ex:∃ es,H d=some (Pl d es)/\Paired (Pn w) xs es.toList
 key:∀ x∈xs,ZD H x.1 x.2.1/\x.1.depth<=3
 nd:(xs.map (·.1)).Nodup
theorem Gd{P:Program}{w:World}{H:Hp}{h:Heap}{d:Addr}{es:Array DictEntry}(h1:(d==sysModules)=false)(h2:es.size<=sizeLine)(h3:∃ o ep,h.get? d=some o/\o.ExactDict/\o.data=.dict es ep):Zf P w H h d (Pl d es):=by
 refine ⟨⟨h1,h2,h3⟩,?_,?_⟩
 ·obtain ⟨o,ep,g,_⟩:=h3;exact ⟨o,g⟩
 ·rintro a b ⟨q1,q2,o,ep,g,r⟩ k;exact ⟨q1,q2,o,ep,k o g,r⟩
theorem Ph{α β:Type}{F:α->β->Prop}:∀{l:List α}{m:List β}{i:Nat}{b:β},Paired F l m->m[i]? = some b->∃ a,l[i]? = some a/\F a b
 | _,_,_,_,.nil,e=>by simp at e
 | _,_,0,_,.cons r _,e=>by simp at e;subst e;exact ⟨_,rfl,r⟩
 | _,_,i+1,b,.cons _ t,e=>by
  obtain ⟨a,h1,h2⟩:=Ph (i:=i) (b:=b) t (by simpa using e)
  exact ⟨a,by simpa using h1,h2⟩
theorem Mm{α β:Type}{F:α->β->Prop}:∀{l:List α}{m:List β},l.length=m.length->(∀(i:Nat) a b,l[i]? = some a->m[i]? = some b->F a b)->Paired F l m
 | [],[],_,_=>.nil
 | [],_ :: _,h,_=>by simp at h
 | _ :: _,[],h,_=>by simp at h
 | a :: l,b :: m,h,f=>.cons (f 0 a b rfl rfl) (Mm (by simpa using h) fun i x y hx hy=>f (i+1) x y (by simpa using hx) (by simpa using hy))
theorem Pg{α β:Type}{F:α->β->Prop}{a:α}{b:β}(h:F a b):∀{l:List α}{m:List β},Paired F l m->Paired F (l++[a]) (m++[b])
 | _,_,.nil=>.cons h .nil
 | _,_,.cons r t=>.cons r (Pg h t)
def Qa(xs:List (KT×V×V))(t:KT):jf:=(xs.find? fun x=>x.1.eqb t).map (·.2.2)
def Pk(t:KT)(v:V)(x:KT×V×V):KT×V×V:=if x.1.eqb t=true then (x.1,x.2.1,v) else x
def UL(xs:List (KT×V×V))(t:KT)(y v:V):List (KT×V×V):=if (xs.any fun x=>x.1.eqb t)=true then xs.map (Pk t v) else xs++[(t,y,v)]
theorem Xm{xs:List (KT×V×V)}{t:KT}:(xs.any fun x=>x.1.eqb t)=true ↔ t∈xs.map (·.1):=by
 rw [zCS,zAf];constructor
 ·rintro ⟨x,hx,e⟩;exact ⟨x,hx,U8 _ _ e⟩
 ·rintro ⟨x,hx,e⟩;exact ⟨x,hx,by rw [e];exact UZ _⟩
theorem LQ(t:KT)(v:V)(x:KT×V×V):(Pk t v x).1=x.1/\(Pk t v x).2.1=x.2.1:=by
 unfold Pk;split <;> exact ⟨rfl,rfl⟩
theorem MZ(xs:List (KT×V×V))(t:KT)(y v:V):(UL xs t y v).map (·.1)=if (xs.any fun x=>x.1.eqb t)=true then xs.map (·.1) else xs.map (·.1)++[t]:=by
 unfold UL;split
 ·rw [zCG];exact zCf fun x _=>(LQ t v x).1
 ·rw [zAX];rfl
theorem Ca(xs:List (KT×V×V))(t:KT)(y v:V):(UL xs t y v).length<=xs.length+1:=by
 have:=congrArg zCB (MZ xs t y v);rw [zAD] at this;rw [this];split
 ·rw [zAD];lia
 ·rw [zAG,zAD];simp
theorem JP{xs:List (KT×V×V)}(nd:(xs.map (·.1)).Nodup){j:Nat}{x:KT×V×V}(e:xs[j]? = some x):Qa xs x.1=some x.2.2:=by
 induction xs generalizing j with
 | nil=>simp at e
 | cons z xs ih=>
  rw [zAa,zBU] at nd
  cases j with
  | zero=>
   simp at e;subst e;simp [Qa,UZ]
  | succ j=>
   have e':xs[j]? = some x:=by simpa using e
   have jq:z.1.eqb x.1=false:=by
    cases q:z.1.eqb x.1 with
    | false=>rfl
    | true=>exact absurd (zAf.mpr ⟨x,zAJ e',(U8 _ _ q).symm⟩) nd.1
   have:=ih nd.2 e';simpa [Qa,zBd,jq] using this
theorem ZIS{xs:List (KT×V×V)}{t:KT}(h:t∉xs.map (·.1)):Qa xs t=none:=by
 unfold Qa;rw [Option.map_eq_none_iff,List.find?_eq_none];intro x hx z;exact h (zAf.mpr ⟨x,hx,U8 _ _ z⟩)
theorem YJ.same{w:World}{H H':Hp}{d:Addr}{xs:List (KT×V×V)}(x:YJ w H d xs)(s:ZB H H'):YJ w H' d xs:=by
 obtain ⟨es,h1,h2⟩:=x.ex;exact ⟨⟨es,s _ _ h1,h2⟩,fun z hz=>⟨(x.key z hz).1.mono (ZB.tups s),(x.key z hz).2⟩,x.nd⟩
theorem YJ.but{w:World}{H H':Hp}{d p:Addr}{xs:List (KT×V×V)}(x:YJ w H d xs)(s:ZE p H H')(t:Z2 H H')(n:d≠p):YJ w H' d xs:=by
 obtain ⟨es,h1,h2⟩:=x.ex;exact ⟨⟨es,s _ _ h1 n,h2⟩,fun z hz=>⟨(x.key z hz).1.mono t,(x.key z hz).2⟩,x.nd⟩
section
variable{X:Cx}{pins:List (Addr×Obj)}{σ:L2.St}{H:Hp}{s:Shared}{A:Around}{E:ja}
theorem YJ.es{d:Addr}{xs:List (KT×V×V)}{es:Array DictEntry}(I:ZH X pins σ H s)(x:YJ X.w H d xs)(r:Paired (Pn X.w) xs es.toList):Po X.w s.heap (xs.map (·.1)) es:=by
 refine ⟨by have:=Paired.length r;simpa using this.symm,fun i e he=>?_,x.nd⟩
 rw [<-zA5] at he;obtain ⟨z,e1,e2,e3,e4⟩:=Ph r he;have hz:=x.key z (zAJ e1);exact ⟨z.1,by rw [zAN,e1];rfl,e2,U5 I _ _ _ hz.1 e3,hz.2⟩
theorem IU{d:Addr}{xs:List (KT×V×V)}{es:Array DictEntry}{o:Obj}{ep:Nat}{t:KT}{y:V}{u:Value}{Q:Option Nat->Shared->Prop}(I:ZH X pins σ H s)(x:YJ X.w H d xs)(r:Paired (Pn X.w) xs es.toList)(ho:s.heap.get? d=some o)(hd:o.data=.dict es ep)(hy:ZD H t y)(dt:t.depth<=3)(ry:ZS y u)(hu:A.units+3<cLine)(hno:t∉xs.map (·.1)->Q none s)(jO:∀ j z e,xs[j]? = some z->z.1=t->es[j]? = some e->Pn X.w z e->Q (some j) s):wpAny (model X.prog X.w) A (dictFind d u (Xy X.w t)) Q E s:=by
 refine ZMF (U5 I t y u hy ry) dt hu ho hd (x.es I r) hno fun j hj=>?_;rw [zAN] at hj;obtain ⟨z,e1,e2⟩:=zAt.mp hj;have lt:j<es.size:=by
  have:=Paired.length r;obtain ⟨a,_⟩:=zAK.mp e1;simp at this
  lia
 have e3:es[j]? = some es[j]:=zAn lt;obtain ⟨z',e4,e5⟩:=Ph r (by rw [zA5];exact e3)
 rw [e1] at e4;cases e4;exact jO j z _ e1 e2 e3 e5
theorem Ab{d:Addr}{xs:List (KT×V×V)}{t:KT}{y v:V}{u r:Value}{Q:Unit->Shared->Prop}(hu:A.units+4<cLine)(I:ZH X pins σ H s)(x:YJ X.w H d xs)(hl:xs.length<1000)(hy:ZD H t y)(dt:t.depth<=3)(ry:ZS y u)(rv:ZS v r)(h:∀ s' H',ZH X pins σ H' s'->ZE d H H'->YJ X.w H' d (UL xs t y v)->Q () s'):wpAny (model X.prog X.w) A (setItem (.ref d) u r) Q E s:=by
 obtain ⟨es,hH,rel⟩:=x.ex;obtain ⟨⟨hsys,hsz,o,ep,ho,hx,hd⟩,_⟩:=I.hok d _ hH;have len:es.size=xs.length:=by have:=Paired.length rel;simpa using this.symm
 have hT:s.TypeIs (.ref d) "dict" :=⟨o,ho,hx.1⟩;unfold setItem
 try with_reducible refine wpAny_holding ?_
 refine wpAny_bind (wpAny_sequenceKey hT (by decide) ?_)
 refine wpAny_bind (wpAny_callSpecial?_slot (name:=zA0 "__setitem__") hT slot_dict_setitem (wpAny_call_entry slot_dict_setitem hT entry_dict_setitem ?_ (args_dict_setitem _ _ _)));show wpAny _ _ (Builtin.Dict.notOrdered "__setitem__" ⟨[.ref d,u,r],[]⟩ >>= _) _ _ s;refine wpAny_bind (wpAny_notOrdered_dict hT ?_);show wpAny _ _ (dictSet d u r >>= _) _ _ s;refine wpAny_bind ?_;unfold dictSet
 try with_reducible refine wpAny_holding ?_
 refine wpAny_bind (Lh t.depth t (zAH _) (U5 I t y u hy ry) (by show A.units+1+_<_;lia) fun tk htk=>?_)
 unfold dictSetHashed
 try with_reducible refine wpAny_holding ?_
 have I1:ZH X pins σ H { s with toks:=tk }:=I.tok tk;have mu:Pi (H d):=by rw [hH];exact True.intro
 have tups:∀ es',Z2 H (upd H d (Pl d es')):=fun es' b ws e=>by rw [ZV (ZT e hH)];exact e
 have fin:∀(es':Array DictEntry)(h':Heap),es'.size<=sizeLine->zBD d s.heap h'->(∃ o ep,h'.get? d=some o/\o.ExactDict/\o.data=.dict es' ep)->Paired (Pn X.w) (UL xs t y v) es'.toList->Q () { s with heap:=h',toks:=tk }:=fun es' h' hz hs hob hp=>by
  refine h _ (upd H d (Pl d es')) (Og I mu hs (by obtain ⟨o,_,g,_⟩:=hob;exact ⟨o,g⟩) (Gd hsys hz hob)) (fun b o e n=>by rw [ZV n];exact e) ⟨⟨es',ZO,hp⟩,fun z hz=>?_,?_⟩
  ·unfold UL at hz;split at hz
   ·obtain ⟨z',hz',rfl⟩:=zAf.mp hz;rw [(LQ t v z').1,(LQ t v z').2];exact ⟨(x.key z' hz').1.mono (tups es'),(x.key z' hz').2⟩
   ·rcases zAd.mp hz with q | q
    ·exact ⟨(x.key z q).1.mono (tups es'),(x.key z q).2⟩
    ·rw [zAR.mp q];exact ⟨hy.mono (tups es'),dt⟩
  ·rw [MZ];split
   ·exact x.nd
   ·rename_i hn
    rw [zB0];exact ⟨x.nd,by simp,fun a ha b hb=>by rw [zAR.mp hb];exact fun z=>hn (Xm.mpr (z ▸ ha))⟩
 refine wpAny_bind (IU (A:=A.in1) I1 x rel ho hd hy dt ry (by show A.units+1+3<_;lia) (fun hn=>?_) fun j z e e1 e2 e3 e4=>?_)
 ·have hn':¬ (xs.any fun x=>x.1.eqb t)=true:=fun q=>hn (Xm.mp q);refine wpAny_bind (wpAny_rule (wpAny_updateDictKeys (s:={ s with toks:=tk }) (hz:=hsz) ho hd ?_));refine wpAny_pure ⟨.none,rfl,wpAny_pure (fin (es.push ⟨Xy X.w t,u,r⟩) _ (by rw [Array.size_push,len];exact zBJ (XG (by lia))) (zBD.update ..) ⟨_,ep+1,zBH _ ho (Obj.isFreed_of_dict (Obj.data_mapDictKeys hd _)),hx.mapDictKeys _,Obj.data_mapDictKeys hd _⟩ ?_)⟩
  unfold UL;rw [if_neg hn',Array.toList_push];exact Pg ⟨rfl,ry,rv⟩ rel
 ·have hn':(xs.any fun x=>x.1.eqb t)=true:=Xm.mpr (zAf.mpr ⟨z,zAJ e1,e2⟩);refine wpAny_bind (wpAny_rule (wpAny_bind (wpAny_updateDict (s:={ s with toks:=tk }) ho hd (wpAny_point ?_))));refine wpAny_pure ⟨.none,rfl,wpAny_pure (fin (es.modify j fun e=>{ e with val:=r }) _ (by rw [Array.size_modify];exact hsz) (zBD.update ..) ⟨_,ep,zBH _ ho (Obj.isFreed_of_dict (Obj.data_mapDict hd _)),hx.mapDict _,Obj.data_mapDict hd _⟩ ?_)⟩
  unfold UL;rw [if_pos hn'];have lm:(es.modify j fun e=>{ e with val:=r }).toList.length=es.size:=by rw [zBp];exact Array.size_modify
  refine Mm (by rw [lm,zAD,len]) fun i a b ha hb=>?_
  rw [zAN] at ha;obtain ⟨a',ea,rfl⟩:=zAt.mp ha;rw [zA5,Array.getElem?_modify] at hb;have hes:es[i]? = some (es[i]'(by obtain ⟨l1,_⟩:=zAK.mp ea;lia)):=zAn _
  obtain ⟨a2,ea2,r1,r2,r3⟩:=Ph rel (by rw [zA5];exact hes)
  rw [ea] at ea2;cases ea2;rw [hes] at hb;by_cases jA:j=i
  ·subst jA;rw [if_pos rfl,zBT] at hb;cases hb;rw [e1] at ea;cases ea;unfold Pk;rw [e2,UZ,if_pos rfl];rw [e2] at r1;exact ⟨r1,r2,rv⟩
  ·rw [if_neg jA] at hb;cases hb;have jq:a'.1.eqb t=false:=by
    cases q:a'.1.eqb t with
    | false=>rfl
    | true=>
     have q1:(xs.map (·.1))[i]? = some t:=by rw [zAN,ea];exact congrArg some (U8 _ _ q)
     have q2:(xs.map (·.1))[j]? = some t:=by rw [zAN,e1];exact congrArg some e2
     obtain ⟨l1,_⟩:=zAK.mp q2;exact absurd ((zCl l1 x.nd).mp (q2.trans q1.symm)) jA
   unfold Pk;rw [jq,if_neg zAF];exact ⟨r1,r2,r3⟩
end
end Tw
namespace Srt
open PySem PySem.W PyProof.Rows
structure Uw(lt:Nat->Nat->Bool):Prop where
 asym:∀ i j,lt i j=true->lt j i=false
 trans:∀ i j k,lt j i=false->lt k j=false->lt k i=false
def gt(p:Array Nat)(i:Nat):Nat:=p.getD i 0
theorem Qv(p:Array Nat)(i:Nat):gt p i=(p[i]?).getD 0:=by unfold gt;rw [Array.getD_eq_getD_getElem?]
theorem Op{p:Array Nat}{i j:Nat}(hj:j<=p.size)(k:Nat):gt (kas_rev p i j) k=if i<=k/\k<j then gt p (i+j - 1 - k) else gt p k:=by
 rw [Qv,Qv,Qv];unfold kas_rev;rw [getElem?_mirror_all hj];split <;> rfl
theorem Gz{p:Array Nat}{k l:Nat}(hk:k<p.size)(hl:l<=k)(x:Nat):gt (bubble p k (k - l)) x=if x=l then gt p k else if l<x/\x<=k then gt p (x - 1) else gt p x:=by
 rw [Qv,Qv,Qv,Qv,getElem?_bubble hk (k - l) (by lia)]
 have e:k - (k - l)=l:=by lia
 rw [e];split
 ·rfl
 ·split <;> rfl
def PB(n:Nat)(p:Array Nat):Prop:=p.Perm (zBA (zAx n))
theorem PB.size{n:Nat}{p:Array Nat}(h:PB n p):p.size=n:=by rw [h.size_eq];simp
theorem PB.lt{n:Nat}{p:Array Nat}(h:PB n p){i:Nat}(hi:i<n):gt p i<n:=by
 have hs:=h.size;rw [Qv,zAn (by lia)]
 have:p[i]'(by lia)∈(zBA (zAx n)):=h.mem_iff.mp (Array.getElem_mem _)
 simpa using this
theorem PB.rev{n:Nat}{p:Array Nat}(h:PB n p)(i j:Nat):PB n (kas_rev p i j):=(mirror_perm _ _ _ _).trans h
theorem PB.bub{n:Nat}{p:Array Nat}(h:PB n p)(i j:Nat):PB n (bubble p i j):=(bubble_perm _ _ _).trans h
section
variable{lt:Nat->Nat->Bool}{n:Nat}{cmp:Nat->Nat->(Bool->Shared->Prop)->Shared->Prop}{s:Shared}
def U4(lt:Nat->Nat->Bool)(p:Array Nat)(k:Nat):Prop:=∀ i j,i<=j->j<k->lt (gt p j) (gt p i)=false
def QF(lt:Nat->Nat->Bool)(p:Array Nat)(k:Nat):Prop:=∀ i j,i<=j->j<k->lt (gt p i) (gt p j)=false
theorem Uw.irr(O:Uw lt)(i:Nat):lt i i=false:=by
 cases h:lt i i with
 | false=>rfl
 | true=>exact absurd (O.asym i i h) (by rw [h];decide)
def Qm(lt:Nat->Nat->Bool)(n:Nat)(cmp:Nat->Nat->(Bool->Shared->Prop)->Shared->Prop)(s:Shared):Prop:=∀ i j,i<n->j<n->∀ C:Bool->Shared->Prop,C (lt i j) s->cmp i j C s
theorem LV(O:Uw lt)(hc:Qm lt n cmp s){p:Array Nat}(hp:PB n p):∀(f m N:Nat)(Q:Nat->Shared->Prop),f+m=N->N<=n->1<=m->U4 lt p m ->
  (∀ m',m<=m'->m'<=N->U4 lt p m'->(m'=N\/lt (gt p m') (gt p (m' - 1))=true)->Q m' s)->(kas_asc p f m).kasWp cmp Q s
 | 0,m,N,Q,h1,h2,h3,hs,hq=>hq m (zAH _) (by lia) hs (.inl (by lia))
 | f+1,m,N,Q,h1,h2,h3,hs,hq=>by
  refine hc _ _ (hp.lt (i:=m) (by lia)) (hp.lt (i:=m - 1) (by lia)) _ ?_
  show (if lt (gt p m) (gt p (m - 1))=true then KasT.ret m else kas_asc p f (m+1)).kasWp cmp Q s
  cases hl:lt (gt p m) (gt p (m - 1)) with
  | true=>rw [if_pos rfl];exact hq m (zAH _) (by lia) hs (.inr hl)
  | false=>
   rw [if_neg zAF];refine LV O hc hp f (m+1) N Q (by lia) h2 (by lia) (fun i j jA hj=>?_) fun m' g1 g2 g3 g4=>hq m' (by lia) g2 g3 g4
   rcases zAg j m with h | h
   ·exact hs i j jA h
   ·have ej:j=m:=by lia
    subst ej;rcases zAg i j with h' | h'
    ·exact O.trans _ _ _ (hs i (j - 1) (by lia) (by lia)) hl
    ·have:i=j:=by lia
     rw [this];exact O.irr _
def Lo(lt:Nat->Nat->Bool)(p:Array Nat)(m q:Nat):Prop:=q+1<=m/\∀ i j,m - (q+1)<=i->i<m->m - (q+1)<=j->j<m->lt (gt p i) (gt p j)=false
theorem Km(O:Uw lt){p:Array Nat}{m q:Nat}(hm:m<=p.size)(hf:Lo lt p m q)(hn:QF lt p m):QF lt (kas_rev p (m - (q+1)) m) m:=by
 obtain ⟨h1,h2⟩:=hf;have g (k:Nat):=Op (p:=p) (i:=m - (q+1)) hm k;intro i j jA hj;rw [g i,g j];split
 ·rename_i c1
  rw [if_pos ⟨by lia,by lia⟩]
  exact h2 _ _ (by lia) (by lia) (by lia) (by lia)
 ·rename_i c1
  split
  ·exact hn _ _ (by lia) (by lia)
  ·exact hn _ _ jA hj
theorem O4(O:Uw lt)(hc:Qm lt n cmp s):∀(f:Nat)(p:Array Nat)(m q N:Nat)(Q:Array Nat×Nat×Nat->Shared->Prop),PB n p->f+m=N->N<=n->QF lt p m->Lo lt p m q ->
  (∀ p' m' q',PB n p'->m<=m'->m'<=N->QF lt p' m'->Lo lt p' m' q'->Q (p',m',q') s)->(kas_desc f p m q).kasWp cmp Q s
 | 0,p,m,q,N,Q,hp,h1,h2,hn,hf,hq=>hq p m q hp (zAH _) (by lia) hn hf
 | f+1,p,m,q,N,Q,hp,h1,h2,hn,hf,hq=>by
  have hf1:=hf.1;have hs:=hp.size;refine hc _ _ (hp.lt (i:=m) (by lia)) (hp.lt (i:=m - 1) (by lia)) _ ?_
  show (if lt (gt p m) (gt p (m - 1))=true then (if q > 0 then kas_desc f (kas_rev p (m - (q+1)) m) (m+1) 0 else kas_desc f p (m+1) 0) else .ask (p.getD (m - 1) 0) (p.getD m 0) fun d=>if d=true then .ret (p,m,q) else kas_desc f p (m+1) (q+1):KasT _).kasWp cmp Q s
  have more:∀ p':Array Nat,PB n p'->QF lt p' m->gt p' m=gt p m->lt (gt p m) (gt p (m - 1))=true->(∀ i,i<m->lt (gt p' i) (gt p (m - 1))=false)->QF lt p' (m+1):=fun p' _ hn' e hl hb i j jA hj=>by
   rcases zAg j m with h | h
   ·exact hn' i j jA h
   ·have ej:j=m:=by lia
    subst ej;rcases zAg i j with h' | h'
    ·rw [e];exact O.trans _ _ _ (O.asym _ _ hl) (hb i h')
    ·have:i=j:=by lia
     rw [this];exact O.irr _
  cases hl:lt (gt p m) (gt p (m - 1)) with
  | true=>
   rw [if_pos rfl];split
   ·have hn':=Km O (by lia) hf hn
    have g (k:Nat):=Op (p:=p) (i:=m - (q+1)) (j:=m) (by lia) k
    refine O4 O hc f _ (m+1) 0 N Q (hp.rev _ _) (by lia) h2 (more _ (hp.rev _ _) hn' (by rw [g m,if_neg (by lia)]) hl fun i hi=>?_) ⟨by lia,fun i j a1 a2 a3 a4=>?_⟩ fun p' m' q' b1 b2 b3 b4 b5=>hq p' m' q' b1 (by lia) b3 b4 b5
    ·rw [g i];split
     ·exact hf.2 _ _ (by lia) (by lia) (by lia) (by lia)
     ·exact hn _ _ (by lia) (by lia)
    ·have:i=j:=by lia
     rw [this];exact O.irr _
   ·refine O4 O hc f _ (m+1) 0 N Q hp (by lia) h2 (more _ hp hn rfl hl fun i hi=>hn _ _ (by lia) (by lia)) ⟨by lia,fun i j a1 a2 a3 a4=>?_⟩ fun p' m' q' b1 b2 b3 b4 b5=>hq p' m' q' b1 (by lia) b3 b4 b5
    have:i=j:=by lia
    rw [this];exact O.irr _
  | false=>
   rw [if_neg zAF];refine hc _ _ (hp.lt (i:=m - 1) (by lia)) (hp.lt (i:=m) (by lia)) _ ?_
   show (if lt (gt p (m - 1)) (gt p m)=true then KasT.ret (p,m,q) else kas_desc f p (m+1) (q+1)).kasWp cmp Q s
   cases hd:lt (gt p (m - 1)) (gt p m) with
   | true=>rw [if_pos rfl];exact hq p m q hp (zAH _) (by lia) hn hf
   | false=>
    rw [if_neg zAF];refine O4 O hc f _ (m+1) (q+1) N Q hp (by lia) h2 (fun i j jA hj=>?_) ⟨by lia,fun i j a1 a2 a3 a4=>?_⟩ fun p' m' q' b1 b2 b3 b4 b5=>hq p' m' q' b1 (by lia) b3 b4 b5
    ·rcases zAg j m with h | h
     ·exact hn i j jA h
     ·have ej:j=m:=by lia
      subst ej;rcases zAg i j with h' | h'
      ·exact O.trans _ _ _ hd (hn i (j - 1) (by lia) (by lia))
      ·have:i=j:=by lia
       rw [this];exact O.irr _
    ·rcases zAg i m with h | h
     ·rcases zAg j m with h' | h'
      ·exact hf.2 i j (by lia) h (by lia) h'
      ·have ej:j=m:=by lia
       subst ej;exact O.trans _ _ _ hd (hf.2 i (j - 1) (by lia) h (by lia) (by lia))
     ·have ei:i=m:=by lia
      subst ei;rcases zAg j i with h' | h'
      ·exact O.trans _ _ _ (hf.2 (i - 1) j (by lia) (by lia) (by lia) h') hl
      ·have:i=j:=by lia
       rw [this];exact O.irr _
theorem Am{p:Array Nat}{m:Nat}(hm:m<=p.size)(hn:QF lt p m):U4 lt (kas_rev p 0 m) m:=fun i j jA hj=>by
 have g (k:Nat):=Op (p:=p) (i:=0) hm k;rw [g i,g j,if_pos ⟨by lia,by lia⟩,if_pos ⟨by lia,by lia⟩]
 exact hn _ _ (by lia) (by lia)
theorem JY(O:Uw lt)(hc:Qm lt n cmp s){p:Array Nat}(hp:PB n p){m N:Nat}{Q:Nat×Array Nat->Shared->Prop}(h1:1<=m)(h2:m<=N)(h3:N<=n)(hn:QF lt p m)(hq:∀ m' p',PB n p'->1<=m'->m'<=N->U4 lt p' m'->Q (m',p') s):(kas_tail3 m N p).kasWp cmp Q s:=by
 unfold kas_tail3;rw [KasT.kasWp_bind];exact LV O hc (hp.rev 0 m) (N - m) m N _ (by lia) h3 h1 (Am (by have:=hp.size;lia) hn) fun m' g1 g2 g3 _=>hq m' _ (hp.rev 0 m) (by lia) g2 g3
theorem Gg(O:Uw lt)(hc:Qm lt n cmp s){p:Array Nat}(hp:PB n p){m N:Nat}{Q:Nat×Array Nat->Shared->Prop}(h2:m+1<=N)(h3:N<=n)(hn:QF lt p (m+1))(hq:∀ m' p',PB n p'->1<=m'->m'<=N->U4 lt p' m'->Q (m',p') s):(kas_descPart m N p).kasWp cmp Q s:=by
 unfold kas_descPart;rw [KasT.kasWp_bind];refine O4 O hc (N - (m+1)) p (m+1) 0 N _ hp (by lia) h3 hn ⟨by lia,fun i j a1 a2 a3 a4=>?_⟩ fun p' m' q' b1 b2 b3 b4 b5=>?_
 ·have:i=j:=by lia
  rw [this];exact O.irr _
 ·have hs:=b1.size;show (if q' > 0 then kas_tail3 m' N (kas_rev p' (m' - (q'+1)) m') else kas_tail3 m' N p').kasWp cmp Q s
  split
  ·exact JY O hc (b1.rev _ _) (by lia) b3 h3 (Km O (by lia) b5 b4) hq
  ·exact JY O hc b1 (by lia) b3 h3 b4 hq
theorem ZK6(O:Uw lt)(hc:Qm lt n cmp s){p:Array Nat}(hp:PB n p){Q:Nat×Array Nat->Shared->Prop}(h1:1<=n)(hq:∀ m' p',PB n p'->1<=m'->m'<=n->U4 lt p' m'->Q (m',p') s):(kas_count n p).kasWp cmp Q s:=by
 unfold kas_count;rw [KasT.kasWp_bind];have hs:=hp.size;refine LV O hc hp (n - 1) 1 n _ (by lia) (zAH _) (zAH _) (fun i j jA hj=>?_) fun m g1 g2 g3 g4=>?_
 ·have:i=j:=by lia
  rw [this];exact O.irr _
 ·split
  ·exact hq m p hp g1 g2 g3
  ·rename_i jq
   have hm:m<n:=by have:m≠n:=fun e=>jq (by rw [e];simp);lia
   have hl:lt (gt p m) (gt p (m - 1))=true:=by
    rcases g4 with g4 | g4
    ·lia
    ·exact g4
   split
   ·rename_i hgt
    refine hc _ _ (hp.lt (i:=0) (by lia)) (hp.lt (i:=m - 1) (by lia)) _ ?_
    show (if lt (gt p 0) (gt p (m - 1))=true then KasT.ret (m,p) else kas_descPart m n (kas_rev p 0 m)).kasWp cmp Q s
    cases h0:lt (gt p 0) (gt p (m - 1)) with
    | true=>rw [if_pos rfl];exact hq m p hp g1 g2 g3
    | false=>
     rw [if_neg zAF];have al:∀ i j,i<m->j<m->lt (gt p i) (gt p j)=false:=fun i j hi hj=>
      O.trans _ _ _ (g3 j (m - 1) (by lia) (by lia)) (O.trans _ _ _ h0 (g3 0 i (by lia) hi))
     have g (k:Nat):=Op (p:=p) (i:=0) (j:=m) (by lia) k
     refine Gg O hc (hp.rev 0 m) (by lia) (zAH _) (fun i j jA hj=>?_) hq
     rw [g i,g j];rcases zAg j m with h | h
     ·rw [if_pos ⟨by lia,by lia⟩,if_pos ⟨by lia,by lia⟩]
      exact al _ _ (by lia) (by lia)
     ·have ej:j=m:=by lia
      subst ej;rcases zAg i j with h' | h'
      ·rw [if_pos ⟨by lia,h'⟩,if_neg (by lia)]
       exact O.trans _ _ _ (O.asym _ _ hl) (al _ _ (by lia) (by lia))
      ·have:i=j:=by lia
       rw [this,if_neg (by lia)];exact O.irr _
   ·have em:m=1:=by lia
    subst em;refine Gg O hc hp (by lia) (zAH _) (fun i j jA hj=>?_) hq
    rcases zAg i j with h' | h'
    ·have ei:i=0:=by lia
     have ej:j=1:=by lia
     subst ei ej;exact O.asym _ _ hl
    ·have:i=j:=by lia
     rw [this];exact O.irr _
theorem MW(O:Uw lt)(hc:Qm lt n cmp s){p:Array Nat}(hp:PB n p){k:Nat}(hk:k<n)(hs:U4 lt p k):∀(f l r:Nat)(Q:Nat->Shared->Prop),l<=r->r<=k->r - l<=f->(∀ i,i<l->lt (gt p k) (gt p i)=false)->(∀ i,r<=i->i<k->lt (gt p k) (gt p i)=true) ->
  (∀ l',l'<=k->(∀ i,i<l'->lt (gt p k) (gt p i)=false)->(∀ i,l'<=i->i<k->lt (gt p k) (gt p i)=true)->Q l' s)->(kas_place p k f l r).kasWp cmp Q s
 | 0,l,r,Q,h1,h2,h3,a,b,hq=>hq l (by lia) a fun i hi=>b i (by lia)
 | f+1,l,r,Q,h1,h2,h3,a,b,hq=>by
  unfold kas_place;split
  ·exact hq l (by lia) a fun i hi=>b i (by lia)
  ·rename_i hlr
   refine hc _ _ (hp.lt (i:=k) hk) (hp.lt (i:=(l+r) / 2) (by lia)) _ ?_
   show (if lt (gt p k) (gt p ((l+r) / 2))=true then kas_place p k f l ((l+r) / 2) else kas_place p k f ((l+r) / 2+1) r).kasWp cmp Q s
   cases hl:lt (gt p k) (gt p ((l+r) / 2)) with
   | true=>
    rw [if_pos rfl];refine MW O hc hp hk hs f l ((l+r) / 2) Q (by lia) (by lia) (by lia) a (fun i hi hik=>?_) hq
    cases h:lt (gt p k) (gt p i) with
    | true=>rfl
    | false=>
     have:=O.trans _ _ _ (hs ((l+r) / 2) i hi hik) h;rw [hl] at this;cases this
   | false=>
    rw [if_neg zAF];refine MW O hc hp hk hs f ((l+r) / 2+1) r Q (by lia) h2 (by lia) (fun i hi=>?_) b hq
    exact O.trans _ _ _ (hs i ((l+r) / 2) (by lia) (by lia)) hl
theorem Iq(O:Uw lt)(hc:Qm lt n cmp s):∀(f:Nat)(p:Array Nat)(k:Nat)(Q:Array Nat->Shared->Prop),PB n p->f+k=n->1<=k->U4 lt p k->(∀ p',PB n p'->U4 lt p' n->Q p' s)->(kas_bin f p k).kasWp cmp Q s
 | 0,p,k,Q,hp,h1,h2,hs,hq=>hq p hp (by rw [<-h1,Nat.zero_add];exact hs)
 | f+1,p,k,Q,hp,h1,h2,hs,hq=>by
  unfold kas_bin;rw [KasT.kasWp_bind];have hz:=hp.size;refine MW O hc hp (by lia) hs k 0 k _ (zAk _) (zAH _) (by lia) (fun i hi=>absurd hi (by lia)) (fun i hi hk=>absurd hk (by lia)) fun l hl a b=>?_
  have g (x:Nat):=Gz (p:=p) (k:=k) (l:=l) (by lia) hl x
  refine Iq O hc f _ (k+1) Q (hp.bub _ _) (by lia) (by lia) (fun i j jA hj=>?_) hq
  rw [g i,g j];by_cases e1:i=l
  ·rw [if_pos e1];by_cases e2:j=l
   ·rw [if_pos e2];exact O.irr _
   ·rw [if_neg e2,if_pos ⟨by lia,by lia⟩]
    exact O.asym _ _ (b (j - 1) (by lia) (by lia))
  ·rw [if_neg e1];by_cases e2:j=l
   ·rw [if_pos e2,if_neg (by lia)]
    exact a i (by lia)
   ·rw [if_neg e2];by_cases c1:l<i/\i<=k
    ·rw [if_pos c1,if_pos ⟨by lia,by lia⟩]
     exact hs _ _ (by lia) (by lia)
    ·rw [if_neg c1];by_cases c2:l<j/\j<=k
     ·rw [if_pos c2];exact hs _ _ (by lia) (by lia)
     ·rw [if_neg c2];exact hs _ _ jA (by lia)
theorem sort_ok(O:Uw lt)(hc:Qm lt n cmp s)(h1:1<=n){Q:Array Nat->Shared->Prop}(hq:∀ p,PB n p->U4 lt p n->Q p s):(kas_sort n).kasWp cmp Q s:=by
 unfold kas_sort;rw [KasT.kasWp_bind];refine ZK6 O hc (p:=zBA (zAx n)) (Array.Perm.refl _) h1 fun m p hp g1 g2 g3=>?_;show (if m<n then kas_bin (n - max m 1) p (max m 1) else .ret p:KasT _).kasWp cmp Q s
 split
 ·have e:max m 1=m:=by lia
  rw [e];exact Iq O hc (n - m) p m Q hp (by lia) g1 g3 hq
 ·have e:m=n:=by lia
  subst e;exact hq p hp g3
end
end Srt
namespace Tw
open PySem
theorem IY:∀(l m:List Nat),l<m->¬ m<l
 | [],[],h,_=>absurd h (zB9 _)
 | [],_ :: _,_,h=>absurd h (zB9 _)
 | _ :: _,[],h,_=>absurd h (zB9 _)
 | a :: l,b :: m,h,h'=>by
  rw [zBe] at h h';rcases h with h | ⟨rfl,h⟩
  ·rcases h' with h' | ⟨rfl,h'⟩
   ·lia
   ·lia
  ·rcases h' with h' | ⟨_,h'⟩
   ·lia
   ·exact IY l m h h'
theorem Jt:∀(l m:List Nat),¬ l<m->¬ m<l->l=m
 | [],[],_,_=>rfl
 | [],_ :: _,h,_=>absurd (zCs _ _) h
 | _ :: _,[],_,h=>absurd (zCs _ _) h
 | a :: l,b :: m,h,h'=>by
  rw [zBe] at h h';have e:a=b:=by
   rcases Nat.lt_trichotomy a b with c | c | c
   ·exact absurd (.inl c) h
   ·exact c
   ·exact absurd (.inl c) h'
  subst e;rw [Jt l m (fun z=>h (.inr ⟨rfl,z⟩)) fun z=>h' (.inr ⟨rfl,z⟩)]
theorem Gp:∀(l m k:List Nat),l<m->m<k->l<k
 | _,_,[],_,h=>absurd h (zB9 _)
 | [],_,_ :: _,_,_=>zCs _ _
 | _ :: _,[],_,h,_=>absurd h (zB9 _)
 | a :: l,b :: m,c :: k,h,h'=>by
  rw [zBe] at h h' ⊢;rcases h with h | ⟨rfl,h⟩
  ·rcases h' with h' | ⟨rfl,h'⟩
   ·exact .inl (Nat.lt_trans h h')
   ·exact .inl h
  ·rcases h' with h' | ⟨rfl,h'⟩
   ·exact .inl h'
   ·exact .inr ⟨rfl,Gp l m k h h'⟩
theorem eqb_comm'(a b:KT):a.eqb b=b.eqb a:=by
 rw [zBw,Y0,Y0];exact eq_comm
mutual
theorem Qn:∀(a b:KT),a.lt b=true->b.lt a=false
 | .int i,.int j,h=>by rw [KT.lt] at h ⊢;have:=of_decide_eq_true h;exact decide_eq_false (by lia)
 | .int _,.str _,_=>by rw [KT.lt]
 | .int _,.tup _,_=>by rw [KT.lt]
 | .str _,.int _,h=>by rw [KT.lt] at h;cases h
 | .str x,.str y,h=>by rw [KT.lt] at h ⊢;exact decide_eq_false (IY _ _ (of_decide_eq_true h))
 | .str _,.tup _,_=>by rw [KT.lt]
 | .tup _,.int _,h=>by rw [KT.lt] at h;cases h
 | .tup _,.str _,h=>by rw [KT.lt] at h;cases h
 | .tup l,.tup m,h=>by rw [KT.lt] at h ⊢;exact ltL_asym l m h
theorem ltL_asym:∀(l m:List KT),ltL l m=true->ltL m l=false
 | [],[],h=>by rw [ltL] at h;cases h
 | [],_ :: _,_=>by rw [ltL]
 | _ :: _,[],h=>by rw [ltL] at h;cases h
 | a :: l,b :: m,h=>by
  rw [ltL] at h ⊢;rw [eqb_comm' b a]
  cases e:a.eqb b with
  | true=>rw [e,if_pos rfl] at h;rw [if_pos rfl];exact ltL_asym l m h
  | false=>rw [e,if_neg zAF] at h;rw [if_neg zAF];exact Qn a b h
end
mutual
theorem NO:∀(a b:KT),a.lt b=false->b.lt a=false->a=b
 | .int i,.int j,h,h'=>by rw [KT.lt] at h h';have:=of_decide_eq_false h;have:=of_decide_eq_false h';rw [show i=j by lia]
 | .int _,.str _,h,_=>by rw [KT.lt] at h;cases h
 | .int _,.tup _,h,_=>by rw [KT.lt] at h;cases h
 | .str _,.int _,_,h=>by rw [KT.lt] at h;cases h
 | .str x,.str y,h,h'=>by
  rw [KT.lt] at h h';have e:=Jt _ _ (of_decide_eq_false h) (of_decide_eq_false h');obtain ⟨⟨x⟩⟩:=x;obtain ⟨⟨y⟩⟩:=y;dsimp only at e;rw [e]
 | .str _,.tup _,h,_=>by rw [KT.lt] at h;cases h
 | .tup _,.int _,_,h=>by rw [KT.lt] at h;cases h
 | .tup _,.str _,_,h=>by rw [KT.lt] at h;cases h
 | .tup l,.tup m,h,h'=>by rw [KT.lt] at h h';rw [ltL_total l m h h']
theorem ltL_total:∀(l m:List KT),ltL l m=false->ltL m l=false->l=m
 | [],[],_,_=>rfl
 | [],_ :: _,h,_=>by rw [ltL] at h;cases h
 | _ :: _,[],_,h=>by rw [ltL] at h;cases h
 | a :: l,b :: m,h,h'=>by
  rw [ltL] at h h';rw [eqb_comm' b a] at h'
  cases e:a.eqb b with
  | true=>rw [e,if_pos rfl] at h h';rw [Y0.mp e,ltL_total l m h h']
  | false=>
   rw [e,if_neg zAF] at h h';have:=NO a b h h';rw [this,UZ] at e;cases e
end
theorem Ur(a:KT):a.lt a=false:=by
 cases h:a.lt a with
 | false=>rfl
 | true=>have:=Qn a a h;rw [h] at this;cases this
mutual
theorem lt_trans':∀(a b c:KT),a.lt b=true->b.lt c=true->a.lt c=true
 | .int i,.int j,.int k,h,h'=>by rw [KT.lt] at h h' ⊢;have:=of_decide_eq_true h;have:=of_decide_eq_true h';exact decide_eq_true (by lia)
 | .int _,_,.str _,_,_=>by rw [KT.lt]
 | .int _,_,.tup _,_,_=>by rw [KT.lt]
 | .str _,_,.tup _,_,_=>by rw [KT.lt]
 | .int _,.str _,.int _,_,h=>by rw [KT.lt] at h;cases h
 | .int _,.tup _,.int _,_,h=>by rw [KT.lt] at h;cases h
 | .str _,.int _,_,h,_=>by rw [KT.lt] at h;cases h
 | .str x,.str y,.str z,h,h'=>by rw [KT.lt] at h h' ⊢;exact decide_eq_true (Gp _ _ _ (of_decide_eq_true h) (of_decide_eq_true h'))
 | .str _,.str _,.int _,_,h=>by rw [KT.lt] at h;cases h
 | .str _,.tup _,.str _,_,h=>by rw [KT.lt] at h;cases h
 | .str _,.tup _,.int _,_,h=>by rw [KT.lt] at h;cases h
 | .tup _,.int _,_,h,_=>by rw [KT.lt] at h;cases h
 | .tup _,.str _,_,h,_=>by rw [KT.lt] at h;cases h
 | .tup l,.tup m,.tup k,h,h'=>by rw [KT.lt] at h h' ⊢;exact ltL_trans l m k h h'
 | .tup _,.tup _,.int _,_,h=>by rw [KT.lt] at h;cases h
 | .tup _,.tup _,.str _,_,h=>by rw [KT.lt] at h;cases h
theorem ltL_trans:∀(l m k:List KT),ltL l m=true->ltL m k=true->ltL l k=true
 | _,[],[],_,h=>by rw [ltL] at h;cases h
 | _,_ :: _,[],_,h=>by rw [ltL] at h;cases h
 | [],_,_ :: _,_,_=>by rw [ltL]
 | _ :: _,[],_ :: _,h,_=>by rw [ltL] at h;cases h
 | a :: l,b :: m,c :: k,h,h'=>by
  rw [ltL] at h h' ⊢
  cases e:a.eqb b with
  | true=>
   rw [e,if_pos rfl] at h;have ab:=Y0.mp e;subst ab
   cases e2:a.eqb c with
   | true=>rw [e2,if_pos rfl] at h';rw [if_pos rfl];exact ltL_trans l m k h h'
   | false=>rw [e2,if_neg zAF] at h';rw [if_neg zAF];exact h'
  | false=>
   rw [e,if_neg zAF] at h
   cases e2:b.eqb c with
   | true=>
    have bc:=Y0.mp e2;subst bc;rw [e,if_neg zAF];exact h
   | false=>
    rw [e2,if_neg zAF] at h';have ac:=lt_trans' a b c h h'
    cases e3:a.eqb c with
    | true=>
     have:=Y0.mp e3;subst this;rw [Ur] at ac;cases ac
    | false=>rw [if_neg zAF];exact ac
end
theorem le_trans'{a b c:KT}(h1:b.lt a=false)(h2:c.lt b=false):c.lt a=false:=by
 cases h:c.lt a with
 | false=>rfl
 | true=>
  cases h3:a.lt b with
  | true=>rw [lt_trans' c a b h h3] at h2;cases h2
  | false=>rw [NO a b h3 h1,h2] at h;cases h
theorem HF{a b c:KT}(h1:b.lt a=false)(h2:b.lt c=true):a.lt c=true:=by
 cases h:a.lt c with
 | true=>rfl
 | false=>rw [le_trans' h h1] at h2;cases h2
end Tw
namespace Tw
open PySem PySem.Spec L2 PyProof.Rows
structure Kg(g:KT->KT):Prop where
 plt:∀ t u,(g t).plt (g u)=t.lt u
 cmp:∀ t u,(g t).cmp (g u)=true
 shape:∃ n:Nat,∀ t,∃(k:Int)(r:List KT),g t=.tup (.int k :: r)/\r.length=n
def Pa(g:KT->KT)(h:Heap)(t:KT)(v:Value):Prop:=ZP h (g t) v
section
variable{prog:Program}{w:World}{A:Around}{E:ja}{s:Shared}{g:KT->KT}
theorem Hr:∀{l m:List KT}{vs us:jd}{i:Nat}{Q:Bool->Shared->Prop},l.length=m.length->KVals s.heap l vs->KVals s.heap m us->cmpL l m=true->A.units+depthL l<cLine->Q (pltL l m) s->PySem.W.KatLex prog w A true false Q (vs.zip us) (i+1) s
 | [],m,vs,us,i,Q,hl,x,y,_,_,h=>by
  rw [KVals] at x;subst x
  cases m with
  | nil=>rw [pltL] at h;exact PySem.W.kat_nil h
  | cons _ _=>simp at hl
 | a :: l,m,vs,us,i,Q,hl,x,y,hc,hu,h=>by
  cases m with
  | nil=>simp at hl
  | cons b m=>
   rw [KVals] at x y;obtain ⟨v,r,rfl,x1,x2⟩:=x;obtain ⟨v',r',rfl,y1,y2⟩:=y;rw [depthL] at hu;rw [pltL] at h;rw [cmpL] at hc;refine PySem.W.kat_cons (OR a.depth a b A v v' (zAH _) x1 y1 (by lia) prog w _ _ ?_)
   refine PySem.W.kat_go (fun e=>PySem.W.kat_yes ?_) (fun e=>PySem.W.kat_no ?_)
   ·rw [e,if_pos rfl] at h hc;exact Hr (by simpa using hl) x2 y2 hc (by lia) h
   ·rw [e,if_neg zAF] at h hc;exact PySem.W.kat_one v v' (MI a.depth a b A v v' (zAH _) x1 y1 hc (by lia) prog w _ _ h)
theorem DJ(hg:Kg g){t u:KT}{x y:Value}{Q:Bool->Shared->Prop}(hx:Pa g s.heap t x)(hy:Pa g s.heap u y)(hu:A.units+(g t).depth<cLine)(h:Q (t.lt u) s):wpAny (model prog w) A (keyLt' (tuples' true) x y) Q E s:=by
 obtain ⟨n,sh⟩:=hg.shape;obtain ⟨k,r,ea,la⟩:=sh t;obtain ⟨m,q,ec,lc⟩:=sh u;have hp:=hg.plt t u;have hc:=hg.cmp t u;unfold Pa at hx hy;rw [ea] at hp hc hx hu;rw [ec] at hp hc hy;rw [ZP] at hx hy;obtain ⟨a,ji,rfl,⟨⟨cl,dd,da',sl⟩,ho,hcl,n1,hd⟩,kx⟩:=hx;obtain ⟨c,jn,rfl,⟨⟨cl2,dd2,da2,jJ⟩,ho2,hcl2,n2,hd2⟩,ky⟩:=hy;have l1:=kx.length;have l2:=ky.length;rw [KVals] at kx ky;obtain ⟨v1,r1,rfl,k1,kx⟩:=kx;obtain ⟨v2,r2,rfl,k2,ky⟩:=ky;rw [ZP] at k1 k2;obtain ⟨tk,rfl⟩:=k1;obtain ⟨tm,rfl⟩:=k2;rw [KT.plt,pltL] at hp;rw [KT.cmp,cmpL] at hc;rw [KT.depth,depthL] at hu;refine PySem.W.kat_lt ho hd ho2 hd2 ?_;have hfin:decide ((Value.int k tk :: r1).toArray.size<(Value.int m tm :: r2).toArray.size)=false:=by
  simp only [zAW] at l1 l2;simp only [zAM,zAW,decide_eq_false_iff_not]
  lia
 rw [hfin];show PySem.W.KatLex prog w A true false Q ((.int k tk,.int m tm) :: r1.zip r2) 0 s;refine PySem.W.kat_cons (SeqAt.EqAt.int_int k tk m tm prog w _ _ ?_);refine PySem.W.kat_go (fun e=>PySem.W.kat_yes ?_) (fun e=>PySem.W.kat_no ?_)
 ·have e1:(KT.int k).eqb (KT.int m)=true:=by rw [KT.eqb];exact e
  rw [e1,if_pos rfl] at hp hc;refine Hr (by rw [la,lc]) kx ky hc (by lia) ?_
  rw [hp];exact h
 ·have e1:(KT.int k).eqb (KT.int m)=false:=by rw [KT.eqb];exact e
  rw [e1,if_neg zAF,KT.plt] at hp;refine oneLt_int ?_;rw [hp];exact h
end
def Yj(g:KT->KT)(h:Heap):List KT->jd->Prop
 | [],[]=>True
 | t :: ts,v :: vs=>Pa g h t v/\Yj g h ts vs
 | _,_=>False
theorem Yj.len{g:KT->KT}{h:Heap}:∀{ts:List KT}{vs:jd},Yj g h ts vs->ts.length=vs.length
 | [],[],_=>rfl
 | _ :: _,_ :: _,x=>congrArg (· + 1) x.2.len
 | [],_ :: _,x=>x.elim
 | _ :: _,[],x=>x.elim
theorem Yj.get{g:KT->KT}{h:Heap}:∀{ts:List KT}{vs:jd},Yj g h ts vs->∀ i,i<vs.length->Pa g h (ts.getD i (.int 0)) (vs.getD i Value.none)
 | _ :: _,_ :: _,x,0,_=>x.1
 | _ :: _,_ :: _,x,i+1,hi=>x.2.get i (by simpa using hi)
 | [],[],_,_,hi=>absurd hi (by simp)
 | [],_ :: _,x,_,_=>x.elim
 | _ :: _,[],x,_,_=>x.elim
theorem Yj.firsts{g:KT->KT}(hg:Kg g){h:Heap}:∀{ts:List KT}{vs:jd},Yj g h ts vs->∃ fs,PySem.W.KatTups h vs fs/\fs.length=vs.length/\∀ v∈fs,∃ k t,v=Value.int k t
 | [],[],_=>⟨[],.nil,rfl,fun v hv=>absurd hv (by simp)⟩
 | t :: ts,v :: vs,x=>by
  obtain ⟨fs,h1,h2,h3⟩:=Yj.firsts hg x.2;obtain ⟨_,sh⟩:=hg.shape;obtain ⟨k,r,ea,_⟩:=sh t;have x1:=x.1;unfold Pa at x1;rw [ea,ZP] at x1;obtain ⟨a,ji,rfl,⟨o,ho,hc,n,hd⟩,kx⟩:=x1;rw [KVals] at kx;obtain ⟨v1,r1,rfl,k1,kx⟩:=kx;rw [ZP] at k1;obtain ⟨tk,rfl⟩:=k1;refine ⟨.int k tk :: fs,.cons ho hc hd rfl h1,by simp [h2],fun v hv=>?_⟩
  rcases zAe.mp hv with rfl | hv
  ·exact ⟨k,tk,rfl⟩
  ·exact h3 v hv
 | [],_ :: _,x=>x.elim
 | _ :: _,[],x=>x.elim
section
variable{prog:Program}{w:World}{A:Around}{E:ja}{s:Shared}{g:KT->KT}
theorem Ek(hg:Kg g){ts:List KT}{ks:jd}{Q:PyProof.Rows.SortKind->Shared->Prop}(hl:0<ks.length)(h:Yj g s.heap ts ks)(hq:Q (tuples' true) s):wpAny (model prog w) A (keyKind' ks.toArray) Q E s:=by
 obtain ⟨fs,h1,h2,h3⟩:=h.firsts hg;refine PySem.W.kat_kind (T:=.type "int") h1 (by lia) (fun v hv=>?_) (by decide) hq
 obtain ⟨k,t,rfl⟩:=h3 v hv;exact zAu.of_pure rfl
theorem FT(hg:Kg g){ts:List KT}{ks vs:jd}{Q:SortSt->Shared->Prop}(hl:ks.length=vs.length)(h2:2<=vs.length)(h64:vs.length<64)(h:Yj g s.heap ts ks)(hu:∀ t∈ts,A.units+(g t).depth<cLine)(hq:∀ (p:Array Nat) (st':SortSt),Srt.PB vs.length p->(∀ i j,i<=j->j<vs.length->(ts.getD (p.getD j 0) (.int 0)).lt (ts.getD (p.getD i 0) (.int 0))=false)->arrOf st'=p.map (PySem.W.kas_item (ks.toArray.zip vs.toArray))->failedOf st'=none->Q st' s):
  wpAny (model prog w) A ((sortRuns').run (SortSt.mk' (tuples' true) (ks.toArray.zip vs.toArray) #[] 7 none)) (fun r s'=>Q r.2 s') E s:=by
 have hln:=h.len;refine PySem.W.kat_run (G:=fun p s'=>s'=s/\Srt.PB vs.length p/\∀ i j,i<=j->j<vs.length->(ts.getD (p.getD j 0) (.int 0)).lt (ts.getD (p.getD i 0) (.int 0))=false) hl h2 h64 (fun p st' s' a1 a2 a3 a4=>?_) ?_
 ·obtain ⟨rfl,b1,b2⟩:=a4;exact hq p st' b1 b2 a2 a3
 ·refine Srt.sort_ok (lt:=fun i j=>(ts.getD i (.int 0)).lt (ts.getD j (.int 0))) ⟨fun i j=>Qn _ _,fun i j k=>le_trans'⟩ (fun i j hi hj C hC=>?_) (by lia) fun p b1 b2=>⟨rfl,b1,fun i j jA hj=>b2 i j jA hj⟩
  unfold PySem.W.kas_ask;refine DJ hg (h.get i (by lia)) (h.get j (by lia)) (hu _ ?_) hC
  have hi':i<ts.length:=by lia
  rw [zAC,zAE hi'];exact zAy _
end
inductive UG(g:KT->KT)(vs:je)(H:Hp)(Q:VK)(_:XK):Prop
 | mk (v:V) (t:KT) (_:vs=[v]) (_:ZD H t v) (_:t.fits 3=true) (_:∀(v':V)(H':Hp),ZD H' (g t) v'->ZB H H'->Q v' H')
theorem HK{g:KT->KT}{X:Cx}{pins:List (Addr×Obj)}{σ:L2.St}{H:Hp}{s:Shared}(I:ZH X pins σ H s):∀{ts:List KT}{kvs:je}{ks:jd},KeysAt H (ts.map g) kvs->ZN kvs ks->Yj g s.heap ts ks
 | [],kvs,ks,h,r=>by
  rw [zBu,KeysAt] at h;subst h;cases r;trivial
 | t :: ts,kvs,ks,h,r=>by
  rw [zAa,KeysAt] at h;obtain ⟨v,kr,rfl,h1,h2⟩:=h
  cases r with
  | cons ra rb=>exact ⟨U5 I _ _ _ h1 ra,HK I h2 rb⟩
section
variable{X:Cx}{pins:List (Addr×Obj)}{σ:L2.St}
theorem GK{H:Hp}{s:Shared}{b:Addr}(I:ZH X pins σ H s)(h:s.heap.objs.size<=b):b∉frs X.stack:=fun z=>by
 obtain ⟨_,o,e,_⟩:=I.stack.mem z;exact absurd (zAT e) (Nat.not_lt.mpr h)
theorem IM{g:KT->KT}{IT:Hp->KT->V->Prop}{sp:Sp}{x0:Str}{k:Nat}{f D kS:Addr}{fd:FuncData}{oD:Obj}{H0:Hp}{A:Around}{E:ja}{body:Value->PUnit->Sem (ForInStep PUnit)}{all:List KT}(hI:∀ (H H':Hp) (t:KT) (u:V),ZB H H'->IT H t u->IT H' t u)(hS:∀ (H:Hp) (u:V) (t:KT) (Q:VK),ZB H0 H->IT H t u->(∀ (v':V) (H':Hp),ZD H' (g t) v'->ZB H H'->Q v' H')->sp [u] H Q E0)(F:ZK X.prog X.w X.K X.mg X.base ZW k f fd [x0] sp)(hb:Zu X.K fd [x0] [])(hr:ZY k A)(hA:A.frames=X.A.frames)(nD:D∉frs X.stack)(nS:kS∉frs X.stack)(hDS:D≠kS)(hD0:H0 D=none)(jt:∀ x (s:Shared) (R:Shared->Prop),wpAny (model X.prog X.w) A (call (.ref f) [x]) (fun kv s'=>∃ (ks:jd) (e:Nat),ks.length<64/\s'.heap.get? kS=some (seqObj "list" ks.toArray e)/\R { s' with heap:=s'.heap.update kS (Obj.mapSeq (·.push kv)) }) (fun _ _=>False) s ->
   wpAny (model X.prog X.w) A (body x ⟨⟩) (fun r s'=>r=.yield ⟨⟩/\R s') E s):
  ∀(r:jd)(rU:je)(rT dT:List KT)(H:Hp)(s:Shared)(ks:jd)(kvs:je)(e:Nat),all=dT++rT->all.length<64->ZH X pins σ H s->ZB H0 H->Ws X pins H kS->H D=none->ZN rU r->Paired (IT H) rT rU ->
   s.heap.get? D=some oD->s.heap.get? kS=some (seqObj "list" ks.toArray e)->KeysAt H (dT.map g) kvs->ZN kvs ks ->
   wpAny (model X.prog X.w) A (forIn r PUnit.unit body) (fun _ s'=>∃(H':Hp)(ks':jd)(kvs':je)(e':Nat),ZH X pins σ H' s'/\ZB H0 H'/\Ws X pins H' kS/\H' D=none/\s'.heap.get? D=some oD/\s'.heap.get? kS=some (seqObj "list" ks'.toArray e')/\KeysAt H' (all.map g) kvs'/\ZN kvs' ks') E s
 | [],rU,rT,dT,H,s,ks,kvs,e,ha,hl,I,s0,fp,hD,r,hk,oo,os,hks,rk=>by
  cases r;cases hk;rw [zAo] at ha;subst ha;rw [List.forIn_nil];exact wpAny_pure ⟨H,ks,kvs,e,I,s0,fp,hD,oo,os,hks,rk⟩
 | x :: r,rU,rT,dT,H,s,ks,kvs,e,ha,hl,I,s0,fp,hD,rr,hk,oo,os,hks,rk=>by
  cases rr with
  | cons ra rb=>
  rename_i u ur
  cases hk with
  | cons hk1 hk2=>
  rename_i t rT
  rw [zDB];have hlen:ks.length=dT.length:=by
   have a:=hks.length;have b:=rk.length;rw [zAD] at a
   lia
  have hlall:dT.length+(rT.length+1)<64:=by rw [ha,zAG,zAW] at hl;lia
  refine wpAny_bind (Zc (jt x s (fun s'=>∃(H':Hp)(ks':jd)(kvs':je)(e':Nat),ZH X pins σ H' s'/\ZB H0 H'/\ZB H H'/\Ws X pins H' kS/\H' D=none/\s'.heap.get? D=some oD/\s'.heap.get? kS=some (seqObj "list" ks'.toArray e')/\KeysAt H' ((dT++[t]).map g) kvs'/\ZN kvs' ks') ?_) fun q s' hq=>?_)
  ·have env:We X.prog X.w X.K X.mg X.base A X.stack s H:=⟨by rw [hA];exact I.ok.frames,I.env0.mod,I.env0.bs,I.env0.bsz,I.env0.funs,I.env0.frf,I.env0.hok,I.env0.bare⟩
   have jE:sp [u] H (fun v' H'=>ZD H' (g t) v'/\ZB H H') E0:=hS H u t _ s0 hk1 fun v' H' a b=>⟨a,b⟩;have r2:ZN [u] [x]:=.cons ra .nil;refine wpAny_call (codeAny_mono (F.run A X.stack s H ⟨[x],[]⟩ [x] [u] _ E0 hr env (hb s [x] I.kIn rfl) r2 jE) fun rr s' hq=>?_)
   cases rr with
   | error ev=>exact hq.elim
   | ok fl=>
    cases fl with
    | next=>exact False.elim hq
    | brk=>exact False.elim hq
    | cont=>exact False.elim hq
    | ret kv=>
     obtain ⟨v',H',os',bare,un,hok,rv,kt,sm⟩:=hq;have J:ZH X pins σ H' s':=I.call' os' un hok bare (fun b hb=>absurd hb (by simp))
     have oo':=un.keep D oD oo hD nD (by simp)
     have oS':=un.keep kS _ os fp.1 nS (by simp)
     have hS':H' kS=none:=un.free kS _ os fp.1 (by simp)
     have hD':H' D=none:=un.free D _ oo hD (by simp)
     refine ⟨ks,e,by lia,oS',?_⟩
     have fp':Ws X pins H' kS:=⟨hS',fp.2⟩;have ea:(zBA ks).push kv=zBA (ks++[kv]):=by simp
     obtain ⟨c2,hc2⟩:∃ c2,(s'.heap.update kS (Obj.mapSeq (·.push kv))).get? kS=some (seqObj "list" (zBA (ks++[kv])) c2):=⟨_,by rw [<-ea];exact get?_update_seq oS' (·.push kv)⟩
     have sb:=zBD.update s'.heap kS (Obj.mapSeq (·.push kv));have J2:ZH X pins σ H' { s' with heap:=s'.heap.update kS (Obj.mapSeq (·.push kv)) }:=J.turned (t':=s'.toks) (it:=kS) (fun b o n q=>(sb.2 b n).trans q) fp'.1 fp'.2.1 fp'.2.2.2.1 fp'.2.2.2.2.1 fp'.2.2.2.2.2;refine ⟨H',ks++[kv],kvs++[v'],c2,J2,s0.trans sm,sm,fp',hD',(sb.2 D hDS).trans oo',hc2,?_,rk.append (.cons rv .nil)⟩;rw [zAX];exact (hks.mono (ZB.tups sm) _ _).append (.cons kt .nil)
  ·obtain ⟨rfl,H',ks',kvs',e',J,s0',sm,fp',hD',oo',os',hks',rk'⟩:=hq;show wpAny (model X.prog X.w) A (forIn r PUnit.unit body) _ E s';exact IM hI hS F hb hr hA nD nS hDS hD0 jt r _ rT (dT++[t]) H' s' ks' kvs' e' (by rw [ha];simp) hl J s0' fp' hD' rb (Paired.mapP (G:=IT H') hk2 fun _ _ z=>hI _ _ _ _ sm z) oo' os' hks' rk'
end
section
variable{X:Cx}{pins:List (Addr×Obj)}{σ:L2.St}{H:Hp}{s:Shared}
theorem Bs{a:Addr}{o:HO}(I:ZH X pins σ H s)(h0:X.s₀.heap.get? a=none)(hl:a≠X.env.locals)(hc:∀ x c,X.env.cells.lookup x=some c->c≠a)(hp:∀ p∈X.pn++pins,p.1≠a)(hn:H a=none)(new:Zf X.prog X.w (upd H a o) s.heap a o):ZH X pins σ (upd H a o) s:=by
 have nt:∀{b:Addr}{u:HO},H b=some u->b≠a:=fun{b u} e z=>by rw [z,hn] at e;cases e
 refine ⟨I.ok,I.os,I.bare,⟨I.base.keep,I.base.slot,fun b ob q n hx=>?_,I.base.there,fun b xs q=>?_,fun b ob u q=>?_,fun b ps q=>?_⟩,I.loc,I.cell,?_,fun x c e=>?_,fun p hp'=>?_,fun b u e=>?_,I.len⟩
 ·rw [ZV (fun z=>by rw [z,h0] at q;cases q)];exact I.base.free b ob q n hx
 ·have e:=I.base.tups b xs q;rw [ZV (nt e)];exact e
 ·have e:=I.base.frzs b ob u q;rw [ZV (nt e)];exact e
 ·obtain ⟨more,e⟩:=I.base.tbls b ps q;exact ⟨more,by rw [ZV (nt e)];exact e⟩
 ·rw [ZV (Ne.symm hl)];exact I.free
 ·rw [ZV (hc x c e)];exact I.freeC x c e
 ·obtain ⟨e,n,r⟩:=I.pin p hp';exact ⟨e,by rw [ZV (hp p hp')];exact n,r⟩
 ·by_cases hb:b=a
  ·subst hb;rw [ZO] at e;cases e;exact new
  ·rw [ZV hb] at e;exact (I.hok b u e).stay (fun _ _ _ q=>q) (fun c q=>by rw [ZV (nt q)];exact q) fun c xs q=>by rw [ZV (nt q)];exact q
theorem ZN.getD{us:je}{ji:jd}(r:ZN us ji){i:Nat}(h:i<us.length):ZS (us.getD i .non) (ji.getD i Value.none):=by
 have hl:=r.length;obtain ⟨u,e1,e2⟩:=r.get (i:=i) (x:=us[i]) (by simp [h])
 rw [zAC,zAC,e1,zAE h];exact e2
theorem Jg{us:je}{ji:jd}(r:ZN us ji):∀(l:List Nat),(∀ i∈l,i<us.length)->ZN (l.map fun i=>us.getD i .non) (l.map fun i=>ji.getD i Value.none)
 | [],_=>.nil
 | i :: l,h=>.cons (ZN.getD r (h i zAQ)) (Jg r l fun j hj=>h j (zAL _ hj))
theorem JU{F:KT->V->Prop}{ts:List KT}{us:je}(hk:Paired F ts us):∀(l:List Nat),(∀ i∈l,i<us.length)->Paired F (l.map fun i=>ts.getD i (.int 0)) (l.map fun i=>us.getD i .non)
 | [],_=>.nil
 | i :: l,h=>by
  have hi:=h i zAQ;obtain ⟨t,et,kt⟩:=Ph hk (i:=i) (b:=us[i]) (by simp [hi])
  refine .cons (show F (ts.getD i (.int 0)) (us.getD i .non) from ?_) (JU hk l fun j hj=>h j (zAL _ hj));rw [zAC,zAC,et,zAE hi];exact kt
theorem range_getD{α:Type}(l:List α)(d:α):(zAx l.length).map (fun i=>l.getD i d)=l:=by
 apply zCx
 ·simp
 ·intro i h1 h2;simp [h2]
theorem GD{g:KT->KT}{IT:Hp->KT->V->Prop}{sp:Sp}(hg:Kg g)(dg:∀ t,(g t).depth<=2 * t.depth+2){x0:Str}{k:Nat}{f:Addr}{lv:Value}{fd:FuncData}{us:je}{ts:List KT}{Q:VK}(hr:ZY (k+2) X.A)(F:ZK X.prog X.w X.K X.mg X.base ZW k f fd [x0] sp)(hb:Zu X.K fd [x0] [])(I0:ZH X pins σ H s)(hI:∀ (H H':Hp) (t:KT) (u:V),ZB H H'->IT H t u->IT H' t u)(hS:∀ (H':Hp) (u:V) (t:KT) (Q:VK),ZB H H'->IT H' t u->(∀ (v':V) (H2:Hp),ZD H2 (g t) v'->ZB H' H2->Q v' H2)->sp [u] H' Q E0)(hk:Paired (IT H) ts us)(hf:∀ t∈ts,t.fits 3=true)(h64:us.length<64)(hcol:∀ (Q':jd->Shared->Prop),(∀ (s1:Shared) (ji:jd),ZH X pins σ H s1->ZN us ji->Q' ji s1)->wpAny (model X.prog X.w) X.A.in1 (collect lv) Q' X.xe s)(q:∀ (D:Addr) (ws:je) (rs:List KT) (H':Hp),ZB H H'->H D=none->H' D=some (.lst ws)->Paired (IT H') rs ws->rs.Perm ts->rs.Pairwise (fun a b=>b.lt a=false)->Q (.ref D) H'):
  wpAny (model X.prog X.w) X.A (call (.builtin "sorted") [lv] [(zA0 "key",.ref f)]) (EP X pins σ Q) X.xe s:=by
 have hkl:=Paired.length hk;have hr6:ZY k X.A.in1.in1:=(ZY.in1 (k:=k+1) hr).in1;refine call_function_entry_kw kind_sorted plain_sorted entry_sorted (ksk_s1 _ _) ?_;unfold Builtin.«sorted»;refine wpAny_bind (m:=checkCount "sorted" 1 1 _) (wpAny_pure ?_);refine wpAny_bind (hcol _ fun s ji I rv=>?_);have hlen:=rv.length;refine wpAny_bind (wpAny_newList ?_ (by rw [sizeLine_eq];lia))
 obtain ⟨h1,eh1⟩:∃ h1,s.heap.push (seqObj "list" ji.toArray 0)=h1:=⟨_,rfl⟩;have hoL:h1.get? s.heap.objs.size=some (seqObj "list" ji.toArray 0):=by rw [<-eh1];exact zAU _ rfl
 have keep:∀ b o,s.heap.get? b=some o->h1.get? b=some o:=fun b o z=>by rw [<-eh1];exact zAI _ z
 have hs1:h1.objs.size=s.heap.objs.size+1:=by rw [<-eh1,size_push']
 obtain ⟨D,eD⟩:∃ D,s.heap.objs.size=D:=⟨_,rfl⟩;rw [eD] at hoL;have hDs:s.heap.objs.size<=D:=by lia
 have hHD:H D=none:=I.hok.fresh hDs;have fD:Ws X pins H D:=I.fpOk hDs hHD;have nD:D∉frs X.stack:=GK I hDs;have h0D:X.s₀.heap.get? D=none:=zBi (zAv I.sz hDs);have I1:ZH X pins σ H { s with heap:=h1 }:=I.kept (t':=s.toks) keep;show wpAny _ _ _ _ _ { s with heap:=s.heap.push (seqObj "list" ji.toArray 0) };rw [eh1,eD];refine wpAny_bind (wpAny_holding (wpAny_call_entry_kw slot_list_sort ⟨_,hoL,rfl⟩ entry_list_sort ?body (ksk_l1 _ _)));rw [ksk_t1];unfold ksk_tree;refine wpAny_bind (listItems_at hoL rfl ?_);refine wpAny_bind (listUpdate_at hoL rfl ?_ (by rw [zAM,sizeLine_eq];lia) (zAk _))
 have sb1:=zBD.update h1 D (Obj.mapSeq fun _=>(#[]:Array Value));obtain ⟨e1,ho1⟩:∃ e1,(h1.update D (Obj.mapSeq fun _=>(#[]:Array Value))).get? D=some (seqObj "list" #[] e1):=⟨_,get?_update_seq hoL fun _=>#[]⟩;obtain ⟨h2,eh2⟩:∃ h2,h1.update D (Obj.mapSeq fun _=>(#[]:Array Value))=h2:=⟨_,rfl⟩;rw [eh2] at ho1 sb1;show wpAny _ _ _ _ _ { s with heap:=h1.update D (Obj.mapSeq fun _=>(#[]:Array Value)) };rw [eh2];have I2:ZH X pins σ H { s with heap:=h2 }:=ZH.turned (s:={ s with heap:=h1 }) (t':=s.toks) (it:=D) I1 (fun b o n z=>(sb1.2 b n).trans z) fD.1 fD.2.1 fD.2.2.2.1 fD.2.2.2.2.1 fD.2.2.2.2.2;refine wpAny_bind (seqEpoch_at ho1 rfl ?_);refine wpAny_bind (wpAny_newTuple ?_ (by show ji.length<=_;rw [sizeLine_eq];lia))
 refine wpAny_bind (wpAny_newList ?_ (zAk _));refine wpAny_holding ?_;have hs2:h2.objs.size=s.heap.objs.size+1:=by rw [<-eh2,Heap.size_update,hs1]
 obtain ⟨h3,eh3⟩:∃ h3,(h2.push (seqObj "tuple" ji.toArray 0)).push (seqObj "list" #[] 0)=h3:=⟨_,rfl⟩;have ekS:(h2.push (seqObj "tuple" ji.toArray 0)).objs.size=s.heap.objs.size+2:=by rw [size_push',hs2]
 have keep3:∀ b o,h2.get? b=some o->h3.get? b=some o:=fun b o z=>by rw [<-eh3];exact zAI _ (zAI _ z)
 have hoS:h3.get? (s.heap.objs.size+2)=some (seqObj "list" (zBA []) 0):=by rw [<-eh3,<-ekS];exact zAU _ rfl
 obtain ⟨kS,ekS2⟩:∃ kS,s.heap.objs.size+2=kS:=⟨_,rfl⟩;rw [ekS2] at hoS ekS;have hSs:s.heap.objs.size<=kS:=by lia
 have hDk0:D≠kS:=by lia
 have hHS:H kS=none:=I.hok.fresh hSs;have fS:Ws X pins H kS:=I.fpOk hSs hHS;have nS:kS∉frs X.stack:=GK I hSs;have I3:ZH X pins σ H { s with heap:=h3 }:=I2.kept (t':=s.toks) keep3;show wpAny _ _ (ksk_rest D (.ref f) false ji.toArray e1 (.ref (h2.push (seqObj "tuple" ji.toArray 0)).objs.size)) _ _ { s with heap:=(h2.push (seqObj "tuple" ji.toArray 0)).push (seqObj "list" #[] 0) };rw [eh3,ekS];have fin:∀(H':Hp)(s':Shared)(ks:jd)(kvs:je)(e:Nat),ZH X pins σ H' s'->ZB H H'->Ws X pins H' kS->H' D=none->s'.heap.get? D=some (seqObj "list" #[] e1)->s'.heap.get? kS=some (seqObj "list" ks.toArray e)->KeysAt H' (ts.map g) kvs->ZN kvs ks ->
   wpAny (model X.prog X.w) X.A.in1.in1 (ksk_end D false ji.toArray e1 (.ref kS) ks.toArray) (fun fin s'=>∃ v,fin=.done (.ret v)/\wpAny (model X.prog X.w) X.A.in1 (ret (.ref D)) (fun fin s'=>∃ v,fin=.done (.ret v)/\EP X pins σ Q v s') X.xe s') X.xe s':=by
  intro H' s' ks kvs e J sm fp hD' oo os hks rk;have hkl2:ks.length=ji.length:=by
   have a:=hks.length;have b:=rk.length;rw [zAD] at a
   lia
  have sv:Yj g s'.heap ts ks:=HK J hks rk;have tail:∀(st:SortSt)(p:Array Nat),Srt.PB ji.length p->(∀ i j,i<=j->j<ji.length->(ts.getD (p.getD j 0) (.int 0)).lt (ts.getD (p.getD i 0) (.int 0))=false)->(arrOf st).map (·.2)=zBA (p.toList.map fun i=>ji.getD i Value.none)->failedOf st=none ->
    wpAny (model X.prog X.w) X.A.in1.in1 (ksk_tail D false e1 (.ref kS) st) (fun fin s'=>∃ v,fin=.done (.ret v)/\wpAny (model X.prog X.w) X.A.in1 (ret (.ref D)) (fun fin s'=>∃ v,fin=.done (.ret v)/\EP X pins σ Q v s') X.xe s') X.xe s':=by
   intro st p hp hs hout hfail;have hps:=hp.size;have hmem:∀ i∈p.toList,i<us.length:=fun i hi=>by
    have:i∈(zBA (zAx ji.length)):=hp.mem_iff.mp (zDb.mp hi);have:=(zA8.mp (by simpa using this):i<ji.length)
    lia
   have jv:p.toList.length=ji.length:=by rw [zBp,hps]
   have s1:=zBD.update s'.heap kS (Obj.mapSeq fun _=>(#[]:Array Value));have hDk:D≠kS:=by lia
   have oD1:=(s1.2 D hDk).trans oo;have s2:=zBD.update (s'.heap.update kS (Obj.mapSeq fun _=>(#[]:Array Value))) D (Obj.mapSeq fun _=>zBA (p.toList.map fun i=>ji.getD i Value.none));obtain ⟨c2,hc2⟩:∃ c2,((s'.heap.update kS (Obj.mapSeq fun _=>(#[]:Array Value))).update D (Obj.mapSeq fun _=>zBA (p.toList.map fun i=>ji.getD i Value.none))).get? D=some (seqObj "list" (zBA (p.toList.map fun i=>ji.getD i Value.none)) c2):=⟨_,get?_update_seq oD1 fun _=>zBA (p.toList.map fun i=>ji.getD i Value.none)⟩;unfold ksk_tail;dsimp only;rw [hout,if_neg zAF];refine wpAny_bind (listUpdate_at os rfl ?_ (by rw [zAM,sizeLine_eq];lia) (zAk _))
   refine wpAny_bind (wpAny_letGo ?_);refine wpAny_bind (seqEpoch_at oD1 rfl ?_);refine wpAny_bind (listUpdate_at oD1 rfl ?_ (zAk _) (by rw [zAM,zAD,jv,sizeLine_eq];lia))
   rw [hfail];simp only [bne_self_eq_false,zBC,if_false];have J1:ZH X pins σ H' { s' with heap:=s'.heap.update kS (Obj.mapSeq fun _=>(#[]:Array Value)) }:=J.turned (t':=s'.toks) (it:=kS) (fun b o n z=>(s1.2 b n).trans z) fp.1 fp.2.1 fp.2.2.2.1 fp.2.2.2.2.1 fp.2.2.2.2.2;have J2:ZH X pins σ H' { s' with heap:=(s'.heap.update kS (Obj.mapSeq fun _=>(#[]:Array Value))).update D (Obj.mapSeq fun _=>zBA (p.toList.map fun i=>ji.getD i Value.none)) }:=ZH.turned (s:={ s' with heap:=s'.heap.update kS (Obj.mapSeq fun _=>(#[]:Array Value)) }) (t':=s'.toks) (it:=D) J1 (fun b o n z=>(s2.2 b n).trans z) hD' fD.2.1 fD.2.2.2.1 fD.2.2.2.2.1 fD.2.2.2.2.2;have J3:=Bs (a:=D) (o:=.lst (p.toList.map fun i=>us.getD i .non)) J2 h0D fD.2.1 fD.2.2.2.2.1 fD.2.2.2.2.2 hD' ⟨by rw [zAD,jv,sizeLine_eq];lia,_,c2,Jg rv _ hmem,hc2⟩
   have g:=ZX hD' (.lst (p.toList.map fun i=>us.getD i .non));refine wpAny_pure ⟨.none,rfl,wpAny_pure ⟨_,rfl,.ref D,_,J3,rfl,q D _ (p.toList.map fun i=>ts.getD i (.int 0)) _ (sm.trans g) hHD ZO (JU (Paired.mapP (G:=IT _) hk fun _ _ z=>hI _ _ _ _ (sm.trans g) z) _ hmem) ?_ ?_⟩⟩
   ·have hpp:p.toList.Perm (zAx ji.length):=by simpa using Array.perm_iff_toList_perm.mp hp
    have:=hpp.map (fun i=>ts.getD i (KT.int 0));rw [show ji.length=ts.length by lia,range_getD] at this
    exact this
   ·rw [zDH];intro i j hi hj jA;rw [zAD,jv] at hi hj;simp only [zCv];have:=hs i j (zBJ jA) hj;have e (x:Nat) (hx:x<ji.length):p.getD x 0=p.toList[x]'(by lia):=by simp [Array.getD,hps,hx]
    rw [e i hi,e j hj] at this;exact this
  unfold ksk_end;dsimp only;rw [if_neg zAF,if_neg zAF];by_cases h2:ji.length<2
  ·rw [if_pos (by rw [zAM];exact h2),if_pos (by rw [zAM];exact h2)]
   refine wpAny_bind (wpAny_pure (wpAny_bind (wpAny_pure ?_)));refine tail _ (zBA (zAx ji.length)) (Array.Perm.refl _) (fun i j jA hj=>?_) ?_ rfl
   ·have:i=j:=by lia
    rw [this];exact Ur _
   ·show ((ks.toArray.zip ji.toArray).map (·.2))=_;apply Array.toList_inj.mp;rw [Array.toList_map,ksk_zip];simp only [List.toList_toArray];rw [range_getD,List.map_snd_zip (by lia)]
  ·rw [if_neg (by rw [zAM];exact h2),if_neg (by rw [zAM];exact h2)]
   refine wpAny_bind (Ek hg (by lia) sv ?_)
   refine wpAny_bind (Zc (FT hg (Q:=fun st' s''=>s''=s'/\∃ p:Array Nat,Srt.PB ji.length p/\(∀ i j,i<=j->j<ji.length->(ts.getD (p.getD j 0) (.int 0)).lt (ts.getD (p.getD i 0) (.int 0))=false)/\arrOf st'=p.map (PySem.W.kas_item (ks.toArray.zip ji.toArray))/\failedOf st'=none)
    hkl2 (by lia) (by lia) sv (fun t ht=>?_) fun p st' b1 b2 b3 b4=>⟨rfl,p,b1,b2,b3,b4⟩) fun r s'' hr'=>?_)
   ·have a:=hr6.un;have d1:=dg t;have d2:=UC t 3 (hf t ht)
    lia
   ·obtain ⟨⟨⟩,st'⟩:=r;obtain ⟨rfl,p,b1,b2,b3,b4⟩:=hr';exact tail st' p b1 b2 (PySem.W.kat_snds hkl2 b3) b4
 unfold ksk_rest;refine wpAny_bind (wpAny_rule ?_)
 first
  | rw [List.forIn_toArray]
  | (rw [<-zCi];simp only [List.toList_toArray])
 refine wpAny_bind (Zc (IM (all:=ts) (H0:=H) (D:=D) (kS:=kS) hI hS F hb hr6 rfl nD nS hDk0 hHD (fun x s4 R hx=>?_) ji us ts [] H { s with heap:=h3 } [] [] 0 rfl (by lia) I3 (ZB.refl H) fS hHD rv hk (keep3 _ _ ho1) hoS .nil .nil) fun _ s4 h4=>?_)
 ·refine wpAny_bind (wpAny_attempt (wpAny_mono hx (fun kv s5 h5=>?_) fun _ _ z=>z.elim));obtain ⟨ks,e,l64,o5,R5⟩:=h5
  try dsimp only
  refine wpAny_bind (listUpdate_at o5 rfl ?_ (by rw [zAM,sizeLine_eq];lia) (zAv (zCq (Array.size_push ..)) (by rw [zAM,sizeLine_eq];lia)))
  exact wpAny_pure ⟨rfl,R5⟩
 ·obtain ⟨H',ks,kvs,e,J,sm,fp,hD',oo,os,hks,rk⟩:=h4
  try dsimp only
  exact wpAny_bind (listItems_at os rfl (fin H' s4 ks kvs e J sm fp hD' oo os hks rk))
theorem Jz{H:Hp}:∀{ts:List KT}{us:je},KeysAt H ts us->(∀ t∈ts,t.fits 3=true)->Paired (fun t u=>ZD H t u/\t.fits 3=true) ts us
 | [],us,h,_=>by rw [KeysAt] at h;subst h;exact .nil
 | t :: ts,us,h,hf=>by
  rw [KeysAt] at h;obtain ⟨v,r,rfl,h1,h2⟩:=h;exact .cons ⟨h1,hf t zAQ⟩ (Jz h2 fun t ht=>hf t (zAL _ ht))
theorem GY{H:Hp}{G:KT->Prop}:∀{ts:List KT}{us:je},Paired (fun t u=>ZD H t u/\G t) ts us->KeysAt H ts us
 | _,_,.nil=>.nil
 | _,_,.cons h r=>.cons h.1 (GY r)
theorem Bd{g:KT->KT}(hg:Kg g)(dg:∀ t,(g t).depth<=2 * t.depth+2){x0:Str}{k:Nat}{f:Addr}{lv:Value}{fd:FuncData}{us:je}{ts:List KT}{Q:VK}(hr:ZY (k+2) X.A)(F:ZK X.prog X.w X.K X.mg X.base ZW k f fd [x0] (UG g))(hb:Zu X.K fd [x0] [])(I0:ZH X pins σ H s)(hk:KeysAt H ts us)(hf:∀ t∈ts,t.fits 3=true)(h64:us.length<64)(hcol:∀ (Q':jd->Shared->Prop),(∀ (s1:Shared) (ji:jd),ZH X pins σ H s1->ZN us ji->Q' ji s1)->wpAny (model X.prog X.w) X.A.in1 (collect lv) Q' X.xe s)(q:∀ (D:Addr) (ws:je) (rs:List KT) (H':Hp),ZB H H'->H D=none->H' D=some (.lst ws)->KeysAt H' rs ws->rs.Perm ts->rs.Pairwise (fun a b=>b.lt a=false)->Q (.ref D) H'):
  wpAny (model X.prog X.w) X.A (call (.builtin "sorted") [lv] [(zA0 "key",.ref f)]) (EP X pins σ Q) X.xe s:=
 GD (IT:=fun H t u=>ZD H t u/\t.fits 3=true) hg dg hr F hb I0 (fun _ _ _ _ sm h=>⟨h.1.mono (ZB.tups sm) _ _,h.2⟩) (fun H' u t Q _ h k=>⟨u,t,rfl,h.1,h.2,k⟩) (Jz hk hf) hf h64 hcol fun D ws rs H' s' nD hD hp pm up=>q D ws rs H' s' nD hD (GY hp) pm up
end
end Tw
namespace L2
open PySem PySem.Spec PyProof.Rows
section
variable{prog:Program}{w:World}{A:Around}{E:ja}{s:Shared}{T:String}{r d:Addr}{n:Nat}{P:Nat->Value->Prop}{OK:Heap->Prop}
theorem EF{R:Result->Shared->Prop}(K:zC0 prog w T r d n P OK)(hh:A.handled=none)(hok:OK s.heap)(S:Addr)(hSr:S≠r)(hSd:S≠d)(c₀:Nat)(hS:s.heap.get? S=some { cls:=.type "list",data:=.seq #[] c₀ })(hR:∀ h' tk acc' c',(∀ b o,b≠S->s.heap.get? b=some o->h'.get? b=some o)->h'.get? S=some { cls:=.type "list",dict:=none,data:=.seq acc' c',slots:=#[] }->ItemsOf P acc' n->R (.ok (.ret (.ref S))) { s with heap:=h',toks:=tk })(hn:n<=sizeLine):
  codeAny (model prog w) A (.builtin "list.__iadd__" ⟨[.ref S,.ref r],[]⟩) R s:=by
 refine codeAny_builtin PySem.F.entry_list_iadd ?_;rw [Around.under_plainId zDD _];exact PySem.W.kdl_extend (R:=R) K hh hok S hSr hSd (.ref S) c₀ hS hR hn
theorem CU{Q:jd->Shared->Prop}(K:zC0 prog w T r d n P OK)(hh:A.handled=none)(hok:OK s.heap)(hn:n<=sizeLine)(hQ:∀ h' tk acc,(∀ b o,s.heap.get? b=some o->h'.get? b=some o)->s.heap.objs.size<h'.objs.size->ItemsOf P acc n->Q acc.toList { s with heap:=h',toks:=tk }):wpAny (model prog w) A (collect (.ref r)) Q E s:=by
 have hlt:=K.there _ hok;unfold collect;refine wpAny_bind (wpAny_runValue (codeAny_builtin PySem.F.entry_proto_collect ?_));rw [Around.under_plainId PySem.F.plain_proto_collect _];show wpAny _ A.in1 (newList [] >>= fun l=>again (.builtin "list.__iadd__" ⟨[l,.ref r],[]⟩)) _ _ s;refine wpAny_bind (wpAny_newObj_type ?_);have hS:(s.heap.push { cls:=.type "list",data:=.seq ([]:jd).toArray }).get? s.heap.objs.size=some { cls:=.type "list",data:=.seq #[] 0 }:=zAU _ rfl;refine wpAny_pure ⟨plainId_quiet zDD _,EF (s:={ s with heap:=s.heap.push { cls:=.type "list",data:=.seq ([]:jd).toArray } }) K hh (K.keep _ _ hok fun b _ o e=>zAI _ e) s.heap.objs.size (zCp hlt.1) (zCp hlt.2) _ hS (fun h' tk acc' c' hk hS' hacc=>?_) hn⟩;show wpAny _ A (load s.heap.objs.size >>= _) _ _ _;refine wpAny_bind (wpAny_load hS' ?_);exact wpAny_pure (hQ h' tk acc' (fun b o e=>hk b o (zAl (zAT e)) (zAI _ e)) (zAT hS') hacc)
end
section
variable{X:Cx}
theorem ZJw:∀{kvs:List (Zd×V)}{vs:List (Zd×Value)}{ns:List Int},KV kvs vs->kvs.map (·.1)=ns.map Sum.inl->∀ acc:jd,acc.length=vs.length->(∀(i:Nat)(v:Value),acc[i]? = some v->∃(k:Zd)(x:Value),vs[i]? = some (k,x)/\Q4 k v=true)->IntsAre acc ns:=by
 intro kvs vs ns h e acc hl hv;have ek:=KV.keys h;rw [e] at ek;clear e h
 induction vs generalizing ns acc with
 | nil=>
  cases acc with
  | nil=>
   cases ns with
   | nil=>exact .nil
   | cons _ _=>simp at ek
  | cons _ _=>simp at hl
 | cons q r ih=>
  cases acc with
  | nil=>simp at hl
  | cons a acc=>
   cases ns with
   | nil=>simp at ek
   | cons n ns=>
    simp only [zAa,List.cons.injEq] at ek;obtain ⟨k,x,e1,e2⟩:=hv 0 a rfl;simp only [List.getElem?_cons_zero,zAj.injEq] at e1;subst e1;have ek1:Sum.inl n=k:=ek.1;subst ek1;obtain ⟨i,t,z1,z2⟩ | ⟨i,t,z1,z2⟩:=U1 e2
    ·cases z1;subst z2;exact .cons _ _ (ih acc (by simpa using hl) (fun i v hi=>by simpa using hv (i+1) v (by simpa using hi)) ek.2)
    ·cases z1
theorem ZEm:∀{vs:jd}{ns:List Int},IntsAre vs ns->ZN (ns.map V.int) vs:=fun h=>Nj h
end
end L2
namespace Tw
open PySem PySem.Spec L2 PyProof.Rows
def Wc(d:Addr)(es:Array DictEntry)(ep:Nat)(h:Heap):Prop:=∃ o,h.get? d=some o/\o.ExactDict/\o.data=.dict es ep
section
variable{prog:Program}{w:World}{A:Around}{E:ja}{s:Shared}{d:Addr}{es:Array DictEntry}{ep:Nat}
theorem Wc.type(x:Wc d es ep s.heap):s.TypeIs (.ref d) "dict" :=let ⟨o,g,hx,_⟩:=x;⟨o,g,hx.1⟩
theorem Wc.at{h h':Heap}(x:Wc d es ep h)(k:∀ o,h.get? d=some o->h'.get? d=some o):Wc d es ep h':=let ⟨o,g,r⟩:=x;⟨o,k o g,r⟩
theorem Bk{Q:ja}(hd:(d==sysModules)=false)(x:Wc d es ep s.heap)(hQ:Q (.ref s.heap.objs.size) { s with heap:=s.heap.push { cls:=.type "dict_keyiterator",data:=.fields #[.ref d,.int 0 0,.int es.size 0,.int ep 0] } }):
  wpAny (model prog w) A (pyIter (.ref d)) Q E s:=by
 have hT:=x.type;obtain ⟨o,ho,hx,hdat⟩:=x;refine wpAny_pyIter_slot hT zDE (wpAny_call_entry zDE hT PySem.F.entry_dict_iter ?_ (PySem.F.args_dict_iter_1 _));unfold Builtin.«dict.__iter__»;refine wpAny_bind ?_;unfold Builtin.Dict.dictSlotNone;refine wpAny_bind (wpAny_notOrdered_dict hT (wpAny_pure ?_));show wpAny _ _ (Builtin.Dict.showsAll d >>= _) _ _ s;unfold Builtin.Dict.showsAll;rw [if_neg (by rw [hd];exact zAF)]
 refine wpAny_bind (wpAny_pure (wpAny_bind (wpAny_dictEntries ho hdat (wpAny_bind (wpAny_dictEpoch ho hdat ?_)))));exact wpAny_bind (wpAny_newObj_type (wpAny_pure ⟨_,rfl,"dict_keyiterator",_,⟨_,zAU _ rfl,rfl⟩,zBm.lookup,hQ⟩))
theorem Hv{it:Addr}{i:Nat}{Q:jc->Shared->Prop}(hh:A.handled=none)(hit:s.heap.IsKeyIter it d i es.size ep)(x:Wc d es ep s.heap)(hQ:∀ e h',es[i]? = some e->h'.IsKeyIter it d (i+1) es.size ep->zBD it s.heap h'->Q (some e.key) { s with heap:=h' })(hN:∀ h',es[i]? = none->Heap.ExtBut it s.heap h'->Q none { s with heap:=h' }):wpAny (model prog w) A (pyNext (.ref it)) Q E s:=by
 obtain ⟨o,ho,hc,hd⟩:=id hit;obtain ⟨od,hod,hxd,hdd⟩:=x;unfold pyNext;refine wpAny_bind (wpAny_attempt (wpAny_callSpecial?_slot (name:=zA0 "__next__") hit.typeIs zBm (wpAny_call_entry zBm hit.typeIs PySem.F.entry_dict_keyiterator_next ?_ (PySem.F.args_dict_keyiterator_next_1 _))));refine wpAny_bind (wpAny_pure (wpAny_bind (wpAny_bind ?_)))
 first | refine wpAny_bind (wpAny_typeNameOfWhole_keyiter hit.typeIs (wpAny_pure ?_)) | refine wpAny_bind (wpAny_typeNameOf_keyiter hit.typeIs (wpAny_pure ?_))
 refine wpAny_bind (wpAny_fieldsOf ho hd ?_);have hown:Builtin.Dict_items.ownsTuple "dict_keyiterator" = false:=by decide
 simp only [hown,zBC,if_false];show wpAny _ _ (if (Value.ref d==Value.none)=true then _ else _) _ _ s
 rw [if_neg (show ¬ ((Value.ref d==Value.none)=true) from zAF)];refine wpAny_bind (wpAny_pure (wpAny_bind (wpAny_dictEntries hod hdd ?_)));rw [if_neg (by simp)]
 refine wpAny_bind (wpAny_pure (wpAny_bind (wpAny_dictEpoch hod hdd ?_)));rw [if_neg (by simp)]
 refine wpAny_pure ?_;simp only [show ¬ ((i:Int)<0) from by lia,if_false,zCL]
 cases he:es[i]? with
 | some e=>
  refine wpAny_bind ?_
  first | refine wpAny_bind (wpAny_typeNameOfWhole_keyiter hit.typeIs (wpAny_pure ?_)) | refine wpAny_bind (wpAny_typeNameOf_keyiter hit.typeIs (wpAny_pure ?_))
  refine wpAny_bind (wpAny_isOneOf_keyiter hit.typeIs ?_);show wpAny _ _ (setField (.ref it) 1 (rawInt ((i:Int)+1)) >>= _) _ _ s;refine wpAny_bind (wpAny_setField ho hd (by simp) ?_)
  have hit':(s.heap.update it (Obj.mapFields (·.setIfInBounds 1 (rawInt ((i:Int)+1))))).IsKeyIter it d (i+1) es.size ep:=
   ⟨_,zBH _ ho (Obj.isFreed_of_fields (Obj.data_mapFields hd _)),(Obj.cls_mapFields ..).trans hc,by rw [Obj.data_mapFields hd];simp [rawInt]⟩
  refine wpAny_bind (wpAny_holding (wpAny_bind (wpAny_isOneOf_keyiter (s:={ s with heap:=s.heap.update it (Obj.mapFields (·.setIfInBounds 1 (rawInt ((i:Int)+1)))) }) hit'.typeIs ?_)));show wpAny _ _ (pure e.key) _ _ _;exact wpAny_pure (wpAny_pure ⟨_,rfl,wpAny_pure (hQ e _ he hit' (zBD.update ..))⟩)
 | none=>
  refine wpAny_bind ?_
  first | refine wpAny_bind (wpAny_typeNameOfWhole_keyiter hit.typeIs (wpAny_pure ?_)) | refine wpAny_bind (wpAny_typeNameOf_keyiter hit.typeIs (wpAny_pure ?_))
  show wpAny _ _ (setField (.ref it) 0 .none >>= _) _ _ s;refine wpAny_bind (wpAny_setField ho hd (by simp) ?_)
  show wpAny _ _ (newExc (.type "StopIteration") [] >>= _) _ _ _;refine wpAny_bind ?_;simp only [newExc,newTuple];refine wpAny_bind (wpAny_newObj_type ?_ (by size_fits))
  refine wpAny_bind (m:=firstArgMember _ _) (wpAny_of_eq (a:=Value.none) (by first | rfl | (simp only [firstArgMember];rfl)) (wpAny_newObj_type ?_ (by size_fits)))
  simp only [raiseNew];refine wpAny_bind (wpAny_handled ?_);rw [show A.in1.handled=none from hh];refine wpAny_bind (wpAny_pure (wpAny_throw ?_));refine wpAny_bind (wpAny_isInstance (T:= "StopIteration") (b:=true) ⟨_,zAU _ rfl,rfl⟩ isSubtype_stop ?_);exact wpAny_pure (hN _ he (((zBD.update ..).extBut.push _).push _))
theorem G5(hh:A.handled=none)(I:Addr)(jq:d≠I):Walks prog w A I [I,d] [I] es.size (fun i v=>(es[i]?).map (·.key)=some v) (fun i h=>h.IsKeyIter I d i es.size ep/\Wc d es ep h) where
 sub:=fun b hb=>by simp at hb;simp [hb]
 frame:=fun _ _ _ st hk=>⟨st.1.at fun o e=>hk I (by simp) o e,st.2.at fun o e=>hk d (by simp) o e⟩
 item:=fun i s Q E hi st hQ=>by
  refine Hv hh st.1 st.2 (fun e h' he hit' sb=>?_) (fun h' he=>by rw [zAn hi] at he;cases he)
  exact hQ e.key h' s.toks (by rw [he];rfl) ⟨hit',st.2.at fun o z=>(sb.2 d jq).trans z⟩ fun b o hb e=>(sb.2 b (fun h=>hb (by simp [h]))).trans e
 done:=fun s Q E st hQ=>by
  refine Hv hh st.1 st.2 (fun e h' he=>by rw [Array.getElem?_eq_none (zAH _)] at he;cases he) (fun h' _ ex=>?_)
  exact hQ h' s.toks fun b o hb e=>ex b o (fun h=>hb (by simp [h])) e
 self:=fun _ _ _ _ st hQ=>wpAny_pyIter_keyiter st.1 hQ
theorem ZMV(lo:(d==sysModules)=false):zC0 prog w "dict" d d es.size (fun i v=>(es[i]?).map (·.key)=some v) (Wc d es ep) where
 type:=fun _ x=>x.type
 there:=fun _ x=>by obtain ⟨o,g,_⟩:=x;exact ⟨zAT g,zAT g⟩
 keep:=fun _ _ x hk=>x.at fun o e=>hk d (.inl rfl) o e
 notList:=by decide
 notTuple:=by decide
 hint:=fun _ _ _ _ x hq=>PySem.W.kdl_hint_dict x.type hq
 iter:=fun _ s hh x=>⟨_,_,(fun _ _ hq=>Bk lo x hq),G5 hh _ (by obtain ⟨o,g,_⟩:=x;exact zAl (zAT g)),⟨⟨_,zAU _ rfl,rfl,rfl⟩,x.at fun o e=>zAI _ e⟩⟩
end
section
variable{X:Cx}{pins:List (Addr×Obj)}{σ:L2.St}{H:Hp}{s:Shared}{A:Around}{E:ja}
theorem Dm{w:World}{xs:List (KT×V×V)}{es:Array DictEntry}{acc:Array Value}(r:Paired (Pn w) xs es.toList)(h:ItemsOf (fun i v=>(es[i]?).map (·.key)=some v) acc es.size):ZN (xs.map (·.2.1)) acc.toList:=by
 have ln:=Paired.length r;have l2:acc.toList.length=es.size:=by have:=h.1;simpa using this
 refine Mm (by rw [zAD,l2,ln];simp) fun i a b ha hb=>?_
 rw [zAN] at ha;obtain ⟨z,ez,rfl⟩:=zAt.mp ha;rw [zA5] at hb;have:=h.2 i b hb;obtain ⟨e,ee,rfl⟩:=zAt.mp this;obtain ⟨z',e1,e2⟩:=Ph r (by rw [zA5];exact ee)
 rw [ez] at e1;cases e1;exact e2.2.1
theorem As{d:Addr}{xs:List (KT×V×V)}{Q:jd->Shared->Prop}(hh:A.handled=none)(I:ZH X pins σ H s)(x:YJ X.w H d xs)(hQ:∀ (s1:Shared) (ji:jd),ZH X pins σ H s1->ZN (xs.map (·.2.1)) ji->Q ji s1):wpAny (model X.prog X.w) A (collect (.ref d)) Q E s:=by
 obtain ⟨es,hH,rel⟩:=x.ex;obtain ⟨⟨hsys,hsz,o,ep,ho,hx,hd⟩,_⟩:=I.hok d _ hH;refine CU (ZMV (ep:=ep) hsys) hh ⟨o,ho,hx,hd⟩ hsz fun h' tk acc k1 _ hacc=>?_;exact hQ _ acc.toList (I.kept (t':=tk) k1) (Dm rel hacc)
end
section
variable{X:Cx}
theorem Jm:bootBuiltins "sorted" = some (.builtin "sorted"):=by decide +kernel
def ZOx:TE:=fun _ H Q=>∀(p:Addr)(H':Hp),H p=none->ZE p H H'->ZB H H'->YJ X.w H' p []->Q (.ref p) H'
theorem GJ{pos:Pos}:PE X (.Dict [] [] pos) (ZOx (X:=X)):=fun pins s σ H Q I h=>by
 have hn:=I.hok.fresh (zAH s.heap.objs.size);refine wpAny_Dict_empty ⟨.ref s.heap.objs.size,_,I.laid (a:=s.heap.objs.size) (o:=Pl s.heap.objs.size #[]) (t':=s.toks) (fun _ _ q=>zAI _ q) (zAH _) (Gd (beq_eq_false_iff_ne.mpr (Ne.symm (zAl I.big))) (zAk _) ⟨_,0,zAU _ rfl,⟨rfl,rfl,rfl⟩,rfl⟩),rfl,?_⟩;exact h _ _ hn (fun b o e n=>by rw [ZV n];exact e) (ZX hn _) ⟨⟨#[],ZO,.nil⟩,fun z hz=>by simp at hz,.nil⟩
def Dv(w:World)(td ty tv:TE):TS:=fun D σ H=>tv σ H fun v H1=>td σ H1 fun x H2=>ty σ H2 fun y H3=>∃(a:Addr)(xs:List (KT×V×V))(t:KT),x=.ref a/\YJ w H3 a xs/\xs.length<1000/\ZD H3 t y/\t.depth<=3/\∀ H4,ZE a H3 H4->YJ w H4 a (UL xs t y v)->D.nx σ H4
theorem Hj{o i value:Expr}{pos pos':Pos}{td ty tv:TE}(hu:X.A.units+4<cLine)(ho:PE X o td)(hi:PE X i ty)(hv:PE X value tv)(hs:swapsWith value (some (.Subscript o i pos')) pos.line X.env=pure false):
  PS X (.Assign [.Subscript o i pos'] value pos) (Dv X.w td ty tv):=by
 intro pins s σ H D I h;refine wpAny_Assign_Subscript (Zc (hv pins s σ H _ I h) fun r s1 ⟨v,H1,I1,rv,q1⟩=>Zc (ho pins s1 σ H1 _ I1 q1) fun u s2 ⟨x,H2,I2,rx,q2⟩=>Zc (hi pins s2 σ H2 _ I2 q2) fun iv s3 ⟨y,H3,I3,ry,a,xs,t,ex,dk,lx,ky,dt,q3⟩=>?_) hs;subst ex;obtain rfl:u=Value.ref a:=rx;exact Ab hu I3 dk lx ky dt ry rv fun s4 H4 I4 sx dk4=>⟨σ,H4,I4,q3 H4 sx dk4⟩
def ZPF(ts:List KT)(H1:Hp)(Q:VK):Prop:=∀(D:Addr)(ws:je)(rs:List KT)(H':Hp),ZB H1 H'->H1 D=none->H' D=some (.lst ws)->KeysAt H' rs ws->rs.Perm ts->rs.Pairwise (fun a b=>b.lt a=false)->Q (.ref D) H'
def ZOo(w:World)(t:TA):TE:=fun σ H Q=>t σ H fun vs H1=>∃(d:Addr)(xs:List (KT×V×V)),vs=[.ref d]/\YJ w H1 d xs/\(∀ x∈xs,x.1.fits 3=true)/\xs.length<64/\ZPF (xs.map (·.1)) H1 Q
theorem JS{g:KT->KT}(hg:Kg g)(dg:∀ t,(g t).depth<=2 * t.depth+2){k:Nat}{p pos kp p2:Pos}{e:Expr}{x x0:Str}{t:TA}(DS:ZA X.prog X.w X.K X.mg X.base k x [x0] (UG g))(hr:ZY (k+2) X.A)(hgl:Gl X "sorted")(hm:X.mg "sorted" = none)(hgx:Gl X x)(ha:PA X [e] t)(hdx:(x==("__debug__" : Str))=false:=by decide)(he:backTo pos (starEach [e] X.env)=(false,eval e X.env) :: backTo pos (starEach [] X.env):=by rfl)(jF:(backTo pos (starEach [e] X.env)).any (·.1)=false:=by rfl):
  PE X (.Call (.Name "sorted" p) [e] [⟨some (zA0 "key"),.Name x p2,kp⟩] pos) (ZOo X.w t):=by
 intro pins s σ H Q I h;obtain ⟨f,fd,F,b,kp',m⟩:=DS.ex;refine wpAny_Call_Name_kw (Qy I hgl hm Jm (callWith_kw (Zc (ha pos pins s σ H _ I h) fun us s1 ⟨vs,H1,I1,r,d,xs,e1,dk,hf,h64,q⟩=>?_) he jF));have pk:PK X [⟨some (zA0 "key"),.Name x p2,kp⟩] (Yw (tC (.ref f)) Vs):=HC (WE (v:=.ref f) (pos:=p2) hgx m rfl hdx) IR;refine Zc (pk pos pins s1 σ H1 (fun zs H2=>zs=[.ref f]/\H2=H1) I1 ⟨rfl,rfl⟩) fun zs s2 ⟨zv,H2,I2,rz,ez,eH⟩=>?_;subst e1 ez eH;obtain ⟨u,rfl,ru⟩:=Va r;obtain ⟨u2,rfl,ru2⟩:=Va rz;cases ru;cases ru2;have ka:KeysAt H2 (xs.map (·.1)) (xs.map (·.2.1)):=by
  have:=dk.key;clear q h64 hf dk
  induction xs with
  | nil=>exact .nil
  | cons z xs ih=>exact .cons (this z (zAQ ..)).1 (ih fun z hz=>this z (zAL _ hz))
 exact Bd hg dg hr F b I2 ka (fun t ht=>by obtain ⟨z,hz,rfl⟩:=zAf.mp ht;exact hf z hz) (by rw [zAD];exact h64) (fun Q' hq=>As hr.hd I2 dk hq) q
end
end Tw
namespace L2
open PySem PySem.Spec PyProof.Rows
section
variable{X:Cx}
end
section
variable{prog:Program}{w:World}{A:Around}{E:ja}{s:Shared}
end
section
variable{X:Cx}{pins:List (Addr×Obj)}{σ:St}{H:Hp}{s:Shared}
def Bf:je->Hp->VK->Prop:=fun xs H Q=>∃(a:Addr)(kvs:List (Zd×V))(ns:List Int),xs=[.ref a]/\H a=some (.dK kvs)/\kvs.map (·.1)=ns.map Sum.inl/\ns.length<1000/\∀ p,H p=none->Q (.ref p) (upd H p (.lst (ns.map V.int)))
theorem BC(hc:X.calm=true):VX X (.type "list") Bf:=by
 intro pins s σ H xs us Q I r h;obtain ⟨a,kvs,ns,rfl,ha,hk,hs,q⟩:=h;obtain ⟨u,rfl,ru⟩:=Va r;cases ru;obtain ⟨z,lo,vs,kv,hD⟩:=OE I.hok ha;have ln:ns.length=kvs.length:=by have:=congrArg zCB hk;simpa using this.symm
 have lv:=KV.length kv;obtain ⟨ep,hA⟩:=hD.dictAt;refine PySem.W.kdl_call (PySem.W.kdl_dict (knd:=Vc X.prog X.w) (kvs:=vs) (ep:=ep) lo) (I.ok.hd hc) hA (by lia) fun h' tk acc c k1 hg hacc=>?_
 have hI:IntsAre acc.toList ns:=ZJw kv hk acc.toList (by rw [zBp];exact hacc.1) fun i v e=>hacc.2 i v (by rw [<-zA5];exact e)
 exact ⟨.ref s.heap.objs.size,_,I.laid (a:=s.heap.objs.size) (o:=.lst (ns.map V.int)) (t':=tk) k1 (zAH _) ⟨by rw [zAD];exact zBJ (XG (zBJ hs)),acc.toList,c,ZEm hI,by rw [Array.toArray_toList];exact hg⟩,rfl,q _ (I.hok.fresh (zAH _))⟩
end
end L2
namespace Tw
open PySem PySem.Spec L2 PyProof.Rows
def QO:jf->jc->Prop
 | some v,some r=>ZS v r
 | none,none=>True
 | _,_=>False
mutual
theorem ZP.keep{h h':Heap}(k:∀ b o,h.get? b=some o->h'.get? b=some o):∀(t:KT)(v:Value),ZP h t v->ZP h' t v
 | .int i,v,x=>by rw [ZP] at x ⊢;exact x
 | .str i,v,x=>by rw [ZP] at x ⊢;exact x
 | .tup l,v,x=>by
  rw [ZP] at x ⊢;obtain ⟨a,ji,e,⟨o,g,r⟩,e2⟩:=x;exact ⟨a,ji,e,⟨o,k _ _ g,r⟩,KVals.keep k l ji e2⟩
theorem KVals.keep{h h':Heap}(k:∀ b o,h.get? b=some o->h'.get? b=some o):∀(l:List KT)(vs:jd),KVals h l vs->KVals h' l vs
 | [],vs,x=>by rw [KVals] at x ⊢;exact x
 | t :: l,vs,x=>by
  rw [KVals] at x ⊢;obtain ⟨v,r,e,e1,e2⟩:=x;exact ⟨v,r,e,ZP.keep k t v e1,KVals.keep k l r e2⟩
end
section
variable{X:Cx}{pins:List (Addr×Obj)}{σ:L2.St}{H:Hp}{s:Shared}{A:Around}{E:ja}
theorem JK{d:Addr}{xs:List (KT×V×V)}(I:ZH X pins σ H s)(x:YJ X.w H d xs):(d==sysModules)=false/\s.TypeIs (.ref d) "dict" /\ ∀ b,Value.ref d=.ref b->∃ ob,s.heap.get? b=some ob/\ob.dict=none:=by
 obtain ⟨es,hH,rel⟩:=x.ex;obtain ⟨⟨hsys,hsz,o,ep,ho,hx,hd⟩,_⟩:=I.hok d _ hH;refine ⟨hsys,⟨o,ho,hx.1⟩,fun b q=>?_⟩;cases q;exact ⟨o,ho,hx.2.1⟩
theorem ZIH{d:Addr}{xs:List (KT×V×V)}{t:KT}{y:V}{u:Value}{Q:jc->Shared->Prop}(hu:A.units+4<cLine)(I:ZH X pins σ H s)(x:YJ X.w H d xs)(hy:ZD H t y)(dt:t.depth<=3)(ry:ZS y u)(h:∀ s' r,ZH X pins σ H s'->(∀ b ob,s.heap.get? b=some ob->s'.heap.get? b=some ob)->QO (Qa xs t) r->Q r s'):wpAny (model X.prog X.w) A (dictGet d u) Q E s:=by
 obtain ⟨es,hH,rel⟩:=x.ex;obtain ⟨⟨hsys,hsz,o,ep,ho,hx,hd⟩,_⟩:=I.hok d _ hH;unfold dictGet
 try with_reducible refine wpAny_holding ?_
 refine wpAny_bind (Lh t.depth t (zAH _) (U5 I t y u hy ry) (by lia) fun tk htk=>?_)
 have I1:ZH X pins σ H { s with toks:=tk }:=I.tok tk;refine wpAny_bind (IU (A:=A) I1 x rel ho hd hy dt ry (by lia) (fun hn=>?_) fun j z e e1 e2 e3 e4=>?_)
 ·refine wpAny_pure (h _ none I1 (fun _ _ e=>e) ?_);rw [ZIS hn];trivial
 ·refine wpAny_bind (wpAny_dictEntries (s:={ s with toks:=tk }) ho hd ?_);rw [e3];refine wpAny_pure (h _ (some e.val) I1 (fun _ _ e=>e) ?_);rw [<-e2,JP x.nd e1];exact e4.2.2
theorem Cd{d:Addr}{xs:List (KT×V×V)}{t:KT}{y v:V}{u:Value}{Q:ja}(hu:A.units+5<cLine)(I:ZH X pins σ H s)(x:YJ X.w H d xs)(hy:ZD H t y)(dt:t.depth<=3)(ry:ZS y u)(hv:Qa xs t=some v)(h:∀ w' s',ZH X pins σ H s'->ZS v w'->Q w' s'):wpAny (model X.prog X.w) A (getItem (.ref d) u) Q E s:=by
 obtain ⟨hsys,hT,_⟩:=JK I x;unfold getItem
 try with_reducible refine wpAny_holding ?_
 refine wpAny_bind (wpAny_sequenceKey hT (by decide) ?_)
 refine wpAny_bind (wpAny_callSpecial?_slot (name:=zA0 "__getitem__") hT slot_dict_getitem (wpAny_call_entry slot_dict_getitem hT entry_dict_getitem ?_ (args_dict_getitem _ _)));show wpAny _ _ (dictGet d u >>= _) _ _ s;refine wpAny_bind (ZIH (by show A.units+1+4<_;lia) I x hy dt ry fun s' r I' _ ro=>?_)
 rw [hv] at ro
 cases r with
 | none=>exact ro.elim
 | some r=>exact wpAny_pure ⟨r,rfl,wpAny_pure (h r s' I' ro)⟩
end
section
variable{X:Cx}{o i e f:Expr}{pos jr jj:Pos}{td ty tx:TE}
def Iv(w:World)(td ty:TE):TE:=fun σ H Q=>td σ H fun x H1=>ty σ H1 fun y H2=>∃(a:Addr)(xs:List (KT×V×V))(t:KT)(v:V),x=.ref a/\YJ w H2 a xs/\ZD H2 t y/\t.depth<=3/\Qa xs t=some v/\Q v H2
theorem C4(hu:X.A.units+5<cLine)(ho:PE X o td)(hi:PE X i ty)(hs:O7 i):PE X (.Subscript o i pos) (Iv X.w td ty):=by
 intro pins s σ H Q I h;refine Kt zC2.lookup hs (Zc (ho pins s σ H _ I h) fun u s1 ⟨x,H1,I1,rx,q1⟩=>Zc (hi pins s1 σ H1 _ I1 q1) fun iv s2 ⟨y,H2,I2,ry,a,xs,t,v,ex,dk,ky,dt,hv,q2⟩=>?_);subst ex;obtain rfl:u=Value.ref a:=rx;exact ⟨(JK I2 dk).2.1,Cd hu I2 dk ky dt ry hv fun w' s3 I3 rw'=>⟨v,H2,I3,rw',q2⟩⟩
end
section
variable{prog:Program}{w:World}{A:Around}{E:ja}{s:Shared}
end
theorem Paired.ixR{α β:Type}{F:α->β->Prop}:∀{l:List α}{m:List β}{i:Nat}{u:β},Paired F l m->m[i]? = some u->∃ r,l[i]? = some r/\F r u
 | _,_,_,_,.nil,e=>by simp at e
 | _,_,0,_,.cons r _,e=>by simp at e;subst e;exact ⟨_,rfl,r⟩
 | _,_,i+1,u,.cons _ t,e=>by
  obtain ⟨r,h1,h2⟩:=Paired.ixR (i:=i) (u:=u) t (by simpa using e)
  exact ⟨r,by simpa using h1,h2⟩
section
variable{X:Cx}{pins:List (Addr×Obj)}{σ:L2.St}{H:Hp}{s0 s:Shared}{A:Around}
end
section
variable{X:Cx}
end
end Tw
namespace Tw
open PySem PySem.Spec L2
def V7(N:Addr->Prop)(H:Hp)(n:String)(v:V):Prop:=
 (n = "bool" /\ ∃ b,v=.bl b)\/(n = "NoneType" /\ v=.non)\/(n = "list" /\ ∃ a xs,v=.ref a/\H a=some (.lst xs)/\¬ N a)\/(n = "dict" /\ ∃ a kvs,v=.ref a/\H a=some (.dK kvs)/\¬ N a)
mutual
def Zm(N:Addr->Prop)(H:Hp):TG->V->Prop
 | .int i,v=>v=.int i
 | .str x,v=>v=.str x
 | .tup l,v=>∃ a vs,v=.ref a/\H a=some (.tup vs)/\ThsAt N H l vs
 | .odd n,v=>V7 N H n v
def ThsAt(N:Addr->Prop)(H:Hp):List TG->je->Prop
 | [],vs=>vs=[]
 | t :: l,vs=>∃ v r,vs=v :: r/\Zm N H t v/\ThsAt N H l r
end
structure XS(N:Addr->Prop)(H H':Hp):Prop where
 tup:Z2 H H'
 rest:∀ b o,H b=some o->¬ N b->H' b=some o
theorem XS.same{N:Addr->Prop}{H H':Hp}(s:ZB H H'):XS N H H':=⟨ZB.tups s,fun b o e _=>s b o e⟩
mutual
theorem Zm.mono{N:Addr->Prop}{H H':Hp}(m:XS N H H'):∀(t:TG)(v:V),Zm N H t v->Zm N H' t v
 | .int _,_,h=>by rw [Zm] at h ⊢;exact h
 | .str _,_,h=>by rw [Zm] at h ⊢;exact h
 | .tup l,_,h=>by
  rw [Zm] at h ⊢;obtain ⟨a,vs,e,h1,h2⟩:=h;exact ⟨a,vs,e,m.tup a vs h1,ThsAt.mono m l vs h2⟩
 | .odd n,_,h=>by
  rw [Zm] at h ⊢;rcases h with h | h | ⟨e,a,xs,e1,e2,e3⟩ | ⟨e,a,xs,e1,e2,e3⟩
  ·exact .inl h
  ·exact .inr (.inl h)
  ·exact .inr (.inr (.inl ⟨e,a,xs,e1,m.rest _ _ e2 e3,e3⟩))
  ·exact .inr (.inr (.inr ⟨e,a,xs,e1,m.rest _ _ e2 e3,e3⟩))
theorem ThsAt.mono{N:Addr->Prop}{H H':Hp}(m:XS N H H'):∀(l:List TG)(vs:je),ThsAt N H l vs->ThsAt N H' l vs
 | [],_,h=>by rw [ThsAt] at h ⊢;exact h
 | t :: l,_,h=>by
  rw [ThsAt] at h ⊢;obtain ⟨v,r,e,h1,h2⟩:=h;exact ⟨v,r,e,Zm.mono m t v h1,ThsAt.mono m l r h2⟩
end
mutual
theorem Zm.less{N N':Addr->Prop}{H:Hp}(m:∀ b,N' b->N b):∀(t:TG)(v:V),Zm N H t v->Zm N' H t v
 | .int _,_,h=>by rw [Zm] at h ⊢;exact h
 | .str _,_,h=>by rw [Zm] at h ⊢;exact h
 | .tup l,_,h=>by
  rw [Zm] at h ⊢;obtain ⟨a,vs,e,h1,h2⟩:=h;exact ⟨a,vs,e,h1,ThsAt.less m l vs h2⟩
 | .odd n,_,h=>by
  rw [Zm] at h ⊢;rcases h with h | h | ⟨e,a,xs,e1,e2,e3⟩ | ⟨e,a,xs,e1,e2,e3⟩
  ·exact .inl h
  ·exact .inr (.inl h)
  ·exact .inr (.inr (.inl ⟨e,a,xs,e1,e2,fun z=>e3 (m a z)⟩))
  ·exact .inr (.inr (.inr ⟨e,a,xs,e1,e2,fun z=>e3 (m a z)⟩))
theorem ThsAt.less{N N':Addr->Prop}{H:Hp}(m:∀ b,N' b->N b):∀(l:List TG)(vs:je),ThsAt N H l vs->ThsAt N' H l vs
 | [],_,h=>by rw [ThsAt] at h ⊢;exact h
 | t :: l,_,h=>by
  rw [ThsAt] at h ⊢;obtain ⟨v,r,e,h1,h2⟩:=h;exact ⟨v,r,e,Zm.less m t v h1,ThsAt.less m l r h2⟩
end
theorem ThsAt.length{N:Addr->Prop}{H:Hp}:∀{l:List TG}{vs:je},ThsAt N H l vs->l.length=vs.length
 | [],vs,h=>by rw [ThsAt] at h;subst h;rfl
 | t :: l,vs,h=>by
  rw [ThsAt] at h;obtain ⟨v,r,rfl,_,h2⟩:=h;rw [zAW,zAW,h2.length]
theorem ThsAt.get{N:Addr->Prop}{H:Hp}:∀{l:List TG}{vs:je}{i:Nat}{v:V},ThsAt N H l vs->vs[i]? = some v->∃ t,l[i]? = some t/\Zm N H t v
 | [],vs,i,v,h,e=>by rw [ThsAt] at h;subst h;simp at e
 | t :: l,vs,0,v,h,e=>by
  rw [ThsAt] at h;obtain ⟨v',r,rfl,h1,_⟩:=h;simp at e;subst e;exact ⟨t,rfl,h1⟩
 | t :: l,vs,i+1,v,h,e=>by
  rw [ThsAt] at h;obtain ⟨v',r,rfl,_,h2⟩:=h;obtain ⟨t',e1,e2⟩:=h2.get (i:=i) (by simpa using e)
  exact ⟨t',by simpa using e1,e2⟩
mutual
theorem Ny{N:Addr->Prop}{H:Hp}:∀(t:KT)(v:V),ZD H t v->Zm N H t.emb v
 | .int i,v,h=>by rw [ZD] at h;rw [KT.emb,Zm];exact h
 | .str x,v,h=>by rw [ZD] at h;rw [KT.emb,Zm];exact h
 | .tup l,v,h=>by
  rw [ZD] at h;obtain ⟨a,vs,e,h1,h2⟩:=h;rw [KT.emb,Zm];exact ⟨a,vs,e,h1,ths_keys l vs h2⟩
theorem ths_keys{N:Addr->Prop}{H:Hp}:∀(l:List KT)(vs:je),KeysAt H l vs->ThsAt N H (embL l) vs
 | [],vs,h=>by rw [KeysAt] at h;rw [embL,ThsAt];exact h
 | t :: l,vs,h=>by
  rw [KeysAt] at h;obtain ⟨v,r,e,h1,h2⟩:=h;rw [embL,ThsAt];exact ⟨v,r,e,Ny t v h1,ths_keys l r h2⟩
end
theorem V7.ty{K:zAA}{N:Addr->Prop}{H:Hp}{n:String}{v:V}(h:V7 N H n v):Yy K H v (.type n):=by
 rcases h with ⟨rfl,b,rfl⟩ | ⟨rfl,rfl⟩ | ⟨rfl,a,xs,rfl,e,_⟩ | ⟨rfl,a,xs,rfl,e,_⟩
 ·exact .bl b
 ·exact .non
 ·exact .lst e
 ·exact .dK e
theorem Aj{K:zAA}{N:Addr->Prop}{H:Hp}{n:String}{v:V}(h:V7 N H n v):
  ∃ b,zAZ K (.type n) (.type "bool")=some b/\(b=false->zAZ K (.type n) (.type "int")=some false/\zAZ K (.type n) (.type "str")=some false/\zAZ K (.type n) (.type "tuple")=some false):=by
 rcases h with ⟨rfl,_⟩ | ⟨rfl,_⟩ | ⟨rfl,_⟩ | ⟨rfl,_⟩
 ·exact ⟨true,Fa,fun z=>absurd z (by decide)⟩
 ·exact ⟨false,by kernel_rfl,fun _=>⟨by kernel_rfl,by kernel_rfl,by kernel_rfl⟩⟩
 ·exact ⟨false,by kernel_rfl,fun _=>⟨by kernel_rfl,by kernel_rfl,by kernel_rfl⟩⟩
 ·exact ⟨false,by kernel_rfl,fun _=>⟨by kernel_rfl,by kernel_rfl,by kernel_rfl⟩⟩
end Tw
namespace L2
open PySem PySem.Spec PyProof.Rows
abbrev UE(a:Addr)(o:Obj):HO:=.ext fun h=>h.get? a=some o
theorem Lr{P:Program}{w:World}{H:Hp}{h:Heap}{a:Addr}{o:Obj}(e:h.get? a=some o):Zf P w H h a (UE a o):=⟨e,⟨o,e⟩,fun _ _ e1 k=>k o e1⟩
theorem YX.obj{P:Program}{w:World}{H:Hp}{h:Heap}{a:Addr}{o:Obj}(x:YX P w H h)(e:H a=some (UE a o)):h.get? a=some o:=(x a _ e).1
section
variable{P:Program}{w:World}{H H2:Hp}{h h':Heap}{cs fs ex:List Addr}
end
def O6(o:Obj)(q:Str):Prop:=∃ vs t,o.data=.fields vs/\vs[1]? = some (.str q t)
section
variable{P:Program}{w:World}{K:zAA}{mg:jb}{base:Heap}
end
def ZOy(H:Hp)(q:Str)(ps:Array Value):Prop:=TriplesOk ps.toList/\∀ pos cv,PySem.codeAmong pos ps.toList=some cv->∃ c' co,cv=.ref c'/\H c'=some (UE c' co)/\O6 co q
def Yt(H:Hp)(P:Addr)(q:Str):Prop:=∃ ps,H P=some (.tbl ps)/\ZOy H q ps
theorem IH{a b:Int}{t u:Tok}{c:Value}:∀(l:jd),TriplesOk l->TriplesOk (l++[.int a t,.int b u,c])
 | [],_=>trivial
 | .int _ _ :: .int _ _ :: _ :: r,h=>IH r h
theorem Iy{pos:Pos}{a b:Int}{t u:Tok}{c cv:Value}:∀(l:jd),TriplesOk l->PySem.codeAmong pos (l++[.int a t,.int b u,c])=some cv->PySem.codeAmong pos l=some cv\/cv=c
 | [],_,h=>by
  unfold PySem.codeAmong at h;simp only [zDA] at h;split at h
  ·cases h;exact .inr rfl
  ·simp [PySem.codeAmong] at h
 | .int i _ :: .int j _ :: d :: r,hT,h=>by
  simp only [zCy] at h;unfold PySem.codeAmong at h ⊢;split at h
  ·rename_i q
   rw [if_pos q];exact .inl h
  ·rename_i q
   rw [if_neg q];exact Iy r hT h
def CY(P:Addr)(params:Arguments)(body:Expr)(scope:Scope)(qual:Str)(cl:List (Str×Addr)):TE:=fun _ H Q=>
 Yt H P qual/\∀(H1:Hp)(f c':Addr)(co:Obj)(pm ctv:Value),O6 co qual->H1 f=some (UE f (zBb "<lambda>" qual params body scope cl pm c' ctv))->H1 c'=some (UE c' co) ->
  (∀ b o,b≠P->H b=some o->H1 b=some o)->Yt H1 P qual->(∀ b,b=f\/b=c'\/b=P\/H1 b=H b)->Q (.ref f) H1
theorem Ev{X:Cx}{P c:Addr}{params:Arguments}{body:Expr}{scope:Scope}{cl:List (Str×Addr)}{pos:Pos}(hcode:X.env.code=.ref c)(C:zBW X.base c P)(hb:X.base.BuiltinsAt X.mg P)(hdef:defaultsOf params X.env=([],[]))(hcl:closureFor scope X.env=pure cl):PE X (.Lambda params body scope pos) (CY P params body scope (X.env.qual ++ "<lambda>") cl):=by
 intro pins s σ H Q I h;obtain ⟨⟨ps,hP,hT,hA⟩,h⟩:=h;have gP:s.heap.get? P=some (zCC ps):=I.hok P _ hP;have nb:∀{b o},X.base.get? b=some o->b≠P:=fun{b o} e z=>by
  have:=(I.bs b o e).2;rw [z,hP] at this;cases this
 have hgP:mainGlobals≠P:=by
  obtain ⟨o,es,ep,e,_⟩:=I.mod.glob;exact nb e
 have hg:s.heap.Ns mainGlobals X.mg:=I.mod.glob.keeps I.bk;have hb':s.heap.BuiltinsAt X.mg P:=by
  obtain ⟨bm,o,b1,b2,b3,b4,b5,r⟩:=hb;exact ⟨bm,o,b1,b2,b3,b4,I.bk _ _ b5,r⟩
 refine PySem.W.kla_eval hdef ?_
 cases hf:PySem.codeAmong pos ps.toList with
 | none=>
  refine PySem.W.kla_makeFunction hcl I.ok.glob hg hcode (C.keeps I.bk) gP hT hf hgP hb' fun c' ctv h' tk hx hge hlt hrec htb=>?_;obtain ⟨c₂,co,vs,t,e2,hoc,hd,hv⟩:=hrec;cases e2;have kp:∀ b o,b≠P->s.heap.get? b=some o->(h'.push (zBb "<lambda>" (X.env.qual ++ "<lambda>") params body scope cl ((X.mg "__name__").getD .none) c' ctv)).get? b=some o:=fun b o n e=>zAI _ (hx b o n e);have sz:s.heap.objs.size<=h'.objs.size:=zBJ (zCH hge hlt);have nc:H c'=none:=I.hok.fresh hge;have nf:H h'.objs.size=none:=I.hok.fresh sz;have cP:c'≠P:=fun z=>by rw [z,hP] at nc;cases nc
  have fP:h'.objs.size≠P:=fun z=>by rw [z,hP] at nf;cases nf
  have fc:h'.objs.size≠c':=zCp hlt
  let ps':Array Value:=ps++#[rawInt pos.line,rawInt pos.col,.ref c']
  let fo:Obj:=zBb "<lambda>" (X.env.qual ++ "<lambda>") params body scope cl ((X.mg "__name__").getD .none) c' ctv
  let H1:Hp:=upd (upd (upd H P (.tbl ps')) c' (UE c' co)) h'.objs.size (UE h'.objs.size fo)
  have e1:H1 h'.objs.size=some (UE h'.objs.size fo):=ZO;have e2:H1 c'=some (UE c' co):=by show upd _ _ _ _=_;rw [ZV fc.symm];exact ZO
  have e3:H1 P=some (.tbl ps'):=by show upd _ _ _ _=_;rw [ZV fP.symm,ZV cP.symm];exact ZO
  have e4:∀ b,b≠P->b≠c'->b≠h'.objs.size->H1 b=H b:=fun b n1 n2 n3=>by show upd _ _ _ _=_;rw [ZV n3,ZV n2,ZV n1]
  have e5:∀ b o,b≠P->H b=some o->H1 b=some o:=fun b o n e=>by
   rw [e4 b n (Zb e nc) (Zb e nf)];exact e
  have gc:(h'.push fo).get? c'=some co:=zAI _ hoc;have gf:(h'.push fo).get? h'.objs.size=some fo:=zAU _ rfl;have gP':(h'.push fo).get? P=some (zCC ps'):=zAI _ htb;have hok:YX X.prog X.w H1 (h'.push fo):=fun b u e=>by
   by_cases z1:b=h'.objs.size
   ·subst z1;rw [e1] at e;cases e;exact Lr gf
   by_cases z2:b=c'
   ·subst z2;rw [e2] at e;cases e;exact Lr gc
   by_cases z3:b=P
   ·subst z3;rw [e3] at e;cases e;exact gP'
   rw [e4 b z3 z2 z1] at e;refine (I.hok b u e).stay (fun a ob ha q=>kp a ob ?_ q) (fun a q=>e5 a _ ?_ q) fun a xs q=>e5 a _ ?_ q
   ·rcases ha with rfl | ha
    ·exact z3
    ·intro z;rw [z,hP] at ha;cases ha
   ·intro z;rw [z,hP] at q;cases q
   ·intro z;rw [z,hP] at q;cases q
  have un:Un X.fs [] H H1 s.heap (h'.push fo):=by
   have neP:∀ b,H b=none->b≠P:=fun b n z=>by rw [z,hP] at n;cases n
   refine ⟨fun b o q n _ _=>kp b o (neP b n) q,fun b o q n _ _=>⟨o.slots,kp b o (neP b n) q⟩,fun b o q n _=>?_,fun b o q _=>?_,fun b xs q=>e5 b _ ?_ q,fun b o u q=>e5 b _ ?_ q,fun b qs q=>?_⟩
   ·rw [e4 b (neP b n) (zAl (zAb (zAT q) hge)) (zAl (zAb (zAT q) sz))];exact n
   ·by_cases z:b=P
    ·exact ⟨_,by rw [z];exact gP'⟩
    ·exact ⟨o,kp b o z q⟩
   ·intro z;rw [z,hP] at q;cases q
   ·intro z;rw [z,hP] at q;cases q
   ·by_cases z:b=P
    ·subst z;rw [hP] at q;cases q;exact ⟨_,e3⟩
    ·exact ⟨#[],by rw [e5 b _ z q];simp⟩
  refine ⟨.ref h'.objs.size,H1,I.un (t':=tk) un hok,rfl,h H1 h'.objs.size c' co _ ctv ⟨vs,t,hd,hv⟩ e1 e2 e5 ⟨ps',e3,?_,fun pos2 cv ha=>?_⟩ fun b=>?_⟩
  ·show TriplesOk (ps++#[rawInt pos.line,rawInt pos.col,.ref c']).toList;rw [zCe];exact IH _ hT
  ·have ha':PySem.codeAmong pos2 (ps.toList++[rawInt pos.line,rawInt pos.col,.ref c'])=some cv:=by
    have:ps'.toList=ps.toList++[rawInt pos.line,rawInt pos.col,.ref c']:=by show (ps++#[rawInt pos.line,rawInt pos.col,.ref c']).toList=_;rw [zCe]
    rw [<-this];exact ha
   rcases Iy _ hT ha' with z | z
   ·obtain ⟨d,do',y1,y2,y3⟩:=hA pos2 cv z
    exact ⟨d,do',y1,e5 _ _ (fun z=>by rw [z,hP] at y2;cases y2) y2,y3⟩
   ·exact ⟨c',co,z,e2,vs,t,hd,hv⟩
  ·by_cases z1:b=h'.objs.size
   ·exact .inl z1
   by_cases z2:b=c'
   ·exact .inr (.inl z2)
   by_cases z3:b=P
   ·exact .inr (.inr (.inl z3))
   exact .inr (.inr (.inr (e4 b z3 z2 z1)))
 | some cv=>
  obtain ⟨c',co,rfl,hc',hco⟩:=hA pos cv hf;refine PySem.W.kla_makeFunctionHit hcl I.ok.glob hg hcode (C.keeps I.bk) gP hT hf hb' fun ctv h' tk hk hsz=>?_;have nf:H h'.objs.size=none:=I.hok.fresh hsz;have e5:∀ b o,H b=some o->upd H h'.objs.size (UE h'.objs.size (zBb "<lambda>" (X.env.qual ++ "<lambda>") params body scope cl ((X.mg "__name__").getD .none) c' ctv)) b=some o:=fun b o e=>by rw [ZV (Zb e nf)];exact e
  refine ⟨.ref h'.objs.size,_,I.laid (t':=tk) (a:=h'.objs.size) (o:=UE h'.objs.size (zBb "<lambda>" (X.env.qual ++ "<lambda>") params body scope cl ((X.mg "__name__").getD .none) c' ctv)) (fun b o e=>zAI _ (hk b o e)) hsz (Lr (zAU _ rfl)),rfl,
   h _ h'.objs.size c' co _ ctv hco ZO (e5 _ _ hc') (fun b o _ e=>e5 b o e) ⟨ps,e5 _ _ hP,hT,fun pos2 cv ha=>?_⟩ fun b=>?_⟩
  ·obtain ⟨d,do',y1,y2,y3⟩:=hA pos2 cv ha
   exact ⟨d,do',y1,e5 _ _ y2,y3⟩
  ·by_cases z:b=h'.objs.size
   ·exact .inl z
   ·exact .inr (.inr (.inr (ZV z)))
theorem ZKd{K:zAA}{x qual:Str}{st:Stmt}{f c P:Addr}{fd:FuncData}(F:Zj K x qual st f fd)(hf:zAY K mainGlobals x=some (some (.ref f)))(ht:zBK K x=some (c,P)):fd.code=.ref c:=by
 obtain ⟨oc,od,kV,doc,pm,an,cdv,ct,jI,rfl,lk,jD⟩:=F.ex;unfold zBK at ht;rw [hf] at ht;simp only at ht;rw [lk] at ht;simp only at ht;show cdv=.ref c
 cases cdv with
 | ref c2=>
  simp only at ht;split at ht
  ·split at ht
   ·cases ht;rfl
   ·cases ht
  ·cases ht
 | _=>cases ht
theorem Zj.okC{P:Program}{w:World}{K:zAA}{mg:jb}{base:Heap}{x qual:Str}{st:Stmt}{f c T:Addr}{fd:FuncData}{N ps:List Str}{k:Nat}{sp:Sp}(F:Zj K x qual st f fd)(hf:zAY K mainGlobals x=some (some (.ref f)))(ht:zBK K x=some (c,T))(S:ZC N ps (Ze st))(len:∀ vs H Q E,sp vs H Q E->vs.length=ps.length)(jt:∀ (A:Around) (outer:List Env) (s:Shared) (H:Hp) (vs:je) (Q:VK) (E:XK),ZY k (A.deeper (envOfC qual (Ze st) s.heap.objs.size f (.ref c)))->sp vs H Q E ->
   ∃ t,X5 (WB ZW P w K mg base N qual (Ze st) f (.ref c) A outer s H E) (WD st) t/\t { nx:=fun _ H'=>Q .non H',rt:=Q } (UD N vs) H):ZK P w K mg base ZW (k+1) f fd ps sp:=by
 have e:=ZKd F hf ht;obtain ⟨oc,od,kV,doc,pm,an,cdv,ct,jI,rfl,lk,jD⟩:=F.ex;have e':cdv=.ref c:=e;subst e';exact Mq lk jD S len fun A outer s H vs Q E hr jE=>jt A outer s H vs Q E hr jE
theorem Dk{P:Program}{w:World}{K:zAA}{mg mb:jb}{k:Nat}{fa a c T:Addr}{fd:FuncData}{x:Str}{sp:Sp}{s₁:Shared}{vs:jd}{ns:List Int}(KX:K.In s₁.heap)(hns:s₁.heap.Ns mainGlobals mg)(hb:s₁.heap.Ns builtinsNs mb)(hbb:∀ x:Str,x ≠ "__name__"->mb x=bootBuiltins x)(hlim:s₁.heap.NoLimit)(hg:s₁.gens=#[])(hbm:∃ bm ob,mg "__builtins__" = some (.ref bm)/\bm≠builtinsNs/\s₁.heap.get? bm=some ob/\ob.cls=.type "module" /\ ob.dict=some builtinsNs/\ob.data=.plain)(hC:zBW s₁.heap c T)(hT:s₁.heap.get? T=some (zCC #[]))(noT:zCz K=true)(ha:s₁.heap.get? a=some { cls:=.type "list",data:=.seq vs.toArray })(hi:IntsAre vs ns)(hl:ns.length<=sizeLine)(hr:ZY k callerA)(F:∀ base:Heap,K.In base->base.Ns mainGlobals mg->zBW base c T->base.BuiltinsAt mg T->ZK P w K mg base ZW k fa fd [x] sp)(hbind:∀ (s:Shared) (u:Value),BindsTo s fd ⟨[u],[]⟩ [(x,u)])(jE:∀ H:Hp,H T=some (.tbl #[])->ZL K H a (ns.map V.int)->sp [.ref a] H (fun v _=>v=.bl true) fun _ _ _=>False):
  codeAny (model P w) callerA (.call (.ref fa) ⟨[.ref a],[]⟩) (fun r s'=>r=.ok (.ret (.bool true))/\OldK s₁.heap s'.heap/\s'.os=s₁.os/\AllBare s'.gens) s₁:=by
 have rv:=Nj hi;have lenV:=hi.length;have aT:a≠T:=fun z=>by rw [z,hT] at ha;cases ha
 have core:∀ H:Hp,H T=some (.tbl #[])->ZL K H a (ns.map V.int)->YX P w H s₁.heap->(∀ b,H b≠none->b=a\/b=T)->(H a≠none->K.lookup a=none/\∃ o xs,H a=some (.frz o (.lst xs))) ->
   codeAny (model P w) callerA (.call (.ref fa) ⟨[.ref a],[]⟩) (fun r s'=>r=.ok (.ret (.bool true))/\OldK s₁.heap s'.heap/\s'.os=s₁.os/\AllBare s'.gens) s₁:=by
  intro H hO hS hok hA hK;have base_of:∀{b:Addr}{o:Obj},s₁.heap.get? b=some o->H b=none->(VY s₁.heap H).get? b=some o:=fun e n=>IO e n;have noA:∀{b:Addr}{o:Obj},s₁.heap.get? b=some o->(∀ ji n,o.data≠.seq ji n)->(∀ v,o≠zCC v)->H b=none:=fun{b o} e d1 d2=>by
   cases q:H b with
   | none=>rfl
   | some u=>
    rcases hA b (by rw [q];simp) with e' | e'
    ·subst e';rw [ha] at e;cases e;exact absurd rfl (d1 _ _)
    ·subst e';rw [hT] at e;cases e;exact absurd rfl (d2 _)
  have nsK:∀{b:Addr}{m:jb},s₁.heap.Ns b m->(VY s₁.heap H).Ns b m:=fun{b m} ⟨o,es,ep,e,d,r⟩=>⟨o,es,ep,base_of e (noA e (fun _ _ z=>by rw [d] at z;cases z) (fun _ z=>by rw [z] at d;cases d)),d,r⟩
  have hKb:K.In (VY s₁.heap H):=fun b o e=>base_of (KX b o e) (by
   cases q:H b with
   | none=>rfl
   | some u=>
    rcases hA b (by rw [q];simp) with e' | e'
    ·subst e';rw [(hK (by rw [q];simp)).1] at e;cases e
    ·subst e';have e2:=KX _ _ e;rw [hT] at e2;cases e2;have h2:=zAO.mp noT _ (PySem.W.mem_of_lookupK e);exact absurd (show false=true from h2) zAF)
  have hM:Mod K mg (VY s₁.heap H):=⟨hKb,nsK hns,⟨mb,nsK hb,hbb⟩,let ⟨mc,h1,h2⟩:=hlim;⟨mc,nsK h1,h2⟩⟩;have hCb:zBW (VY s₁.heap H) c T:=by
   obtain ⟨o,vs,file,tf,flags,tg,inF,text,tt,e1,e2,e3,r⟩:=hC;exact ⟨o,vs,file,tf,flags,tg,inF,text,tt,base_of e1 (noA e1 (fun _ _ z=>by rw [e3] at z;cases z) (fun _ z=>by rw [z] at e2;cases e2)),e2,e3,r⟩
  have hBb:(VY s₁.heap H).BuiltinsAt mg T:=by
   obtain ⟨bm,ob,b1,b2,b3,b4,b5,b6⟩:=hbm;refine ⟨bm,ob,b1,b2,fun z=>?_,fun z=>?_,base_of b3 (noA b3 (fun _ _ z=>by rw [b6] at z;cases z) (fun _ z=>by rw [z] at b4;cases b4)),b4,b5,b6⟩
   ·obtain ⟨o,es,ep,e,d,_⟩:=hns;rw [z,e] at b3;cases b3;rw [d] at b6;cases b6
   ·rw [z,hT] at b3;cases b3;cases b4
  have e0:We P w K mg (VY s₁.heap H) callerA [] s₁ H:=⟨rfl,hM,fun b o e=>Ht e,zCq (HM _ _),trivial,fun b hb=>absurd (show b∈([]:List Addr) from hb) (by simp),hok,.of_eq hg⟩
  refine codeAny_mono ((F _ hKb (nsK hns) hCb hBb).run callerA [] s₁ H ⟨[.ref a],[]⟩ [.ref a] [.ref a] _ _ hr e0 (hbind s₁ (.ref a)) (.cons rfl .nil) (jE H hO hS)) fun r s' h=>?_
  cases r with
  | error e=>exact h.elim
  | ok fl=>
   cases fl with
   | next=>exact False.elim h
   | brk=>exact False.elim h
   | cont=>exact False.elim h
   | ret u=>
    obtain ⟨v,H',os,bare,un,hok',r',q⟩:=h;have q':v=.bl true:=q;subst q';obtain rfl:u=Value.bool true:=r';obtain ⟨more,hT'⟩:=un.tbls T #[] hO;have gT':s'.heap.get? T=some (zCC (#[]++more)):=hok' T _ hT';have keep:∀ b o,b≠T->s₁.heap.get? b=some o->s'.heap.get? b=some o:=fun b o n e=>by
     cases q:H b with
     | none=>exact un.keep b o e q (by intro z;exact absurd (show b∈([]:List Addr) from z) (by simp)) (by simp)
     | some u=>
      have e':b=a:=(hA b (by rw [q];simp)).resolve_right n
      subst e';obtain ⟨_,ob,xs,z⟩:=hK (by rw [q];simp)
      have z2:=un.frzs b ob _ z;obtain ⟨e1,_⟩:=hok b _ z;obtain ⟨e2,_⟩:=hok' b _ z2;rw [e] at e1;cases e1;exact e2
    refine ⟨rfl,⟨fun b o e=>?_,fun b o e=>?_⟩,os,bare⟩
    ·by_cases z:b=T
     ·subst z;rw [hT] at e;cases e;exact .inr (.inl ⟨(hC.tab hT).isCodeTable,rfl,#[],more,rfl,gT'⟩)
     ·exact .inl (keep b o z e)
    ·by_cases z:b=T
     ·subst z;exact ⟨_,gT'⟩
     ·exact ⟨o,keep b o z e⟩
 cases hk:K.lookup a with
 | some o=>
  have e:=KX a o hk;rw [ha] at e;cases e;refine core (fun b=>if b=T then some (.tbl #[]) else none) (if_pos rfl) (.inr ⟨_,vs.toArray,_,hk,rfl,rfl,rfl,by rw [zAM,lenV];exact hl,by simpa using rv⟩) (fun b u z=>?_) (fun b z=>?_) fun z=>absurd (if_neg aT) z
  ·by_cases hb:b=T
   ·have z':=(if_pos hb).symm.trans z;cases z';subst hb;exact hT
   ·have z':=(if_neg hb).symm.trans z;cases z'
  ·by_cases hb:b=T
   ·exact .inr hb
   ·exact absurd (if_neg hb) z
 | none=>
  refine core (fun b=>if b=T then some (.tbl #[]) else if b=a then some (.frz { cls:=.type "list",data:=.seq vs.toArray } (.lst (ns.map V.int))) else none) (if_pos rfl) (.inl (.inr ⟨{ cls:=.type "list",data:=.seq vs.toArray },(if_neg aT).trans (if_pos rfl)⟩)) (fun b u z=>?_) (fun b z=>?_) fun _=>⟨hk,_,_,(if_neg aT).trans (if_pos rfl)⟩
  ·by_cases hb:b=T
   ·have z':=(if_pos hb).symm.trans z;cases z';subst hb;exact hT
   ·have z:=(if_neg hb).symm.trans z;by_cases hb:b=a
    ·have z':=(if_pos hb).symm.trans z;cases z';subst hb;exact ⟨ha,by rw [zAD];exact hl,vs,_,rv,ha⟩
    ·have z':=(if_neg hb).symm.trans z;cases z'
  ·by_cases hb:b=T
   ·exact .inr hb
   ·by_cases hb2:b=a
    ·exact .inl hb2
    ·exact absurd ((if_neg hb).trans (if_neg hb2)) z
theorem P2{l:zCP}{n k:Nat}{q:Program}{loose:List Str}{XP:(jb)->Heap->Prop}{YP:World->Heap->Prop}{d d':DefRec}{K:Params->zAA}{sp:Addr->zAA->Sp}{x px:Str}(hn:l.most=some n)(hn2:n<=sizeLine)(hdf:d.params.defaults=[])(hr:ZY k callerA)(hY:∀ (w:World) (h:Heap),YP w h->(K w.params).In h)(hrec:(recsOf q).find? (fun e=>e.name==px)=some d')(htab:∀ w:World,∃ c T,zBK (K w.params) px=some (c,T))(hnt:∀ w:World,zCz (K w.params)=true)(F:∀ (w:World) (mg:jb) (fa:Addr) (h:Heap) (c T:Addr),(K w.params).In h->h.Ns mainGlobals mg->mg d.name=some (.ref fa)->zBK (K w.params) px=some (c,T) ->
   ∃ fd:FuncData,(∀ (s:Shared) (u:Value),BindsTo s fd ⟨[u],[]⟩ [(x,u)]) /\
    ∀ base:Heap,(K w.params).In base->base.Ns mainGlobals mg->zBW base c T->base.BuiltinsAt mg T->ZK l.prog w (K w.params) mg base ZW k fa fd [x] (sp T (K w.params)))(jE:∀ (w:World) (T:Addr) (H:Hp) (a:Addr) (ns:List Int),ns.length<=n->H T=some (.tbl #[])->ZL (K w.params) H a (ns.map V.int)->sp T (K w.params) [.ref a] H (fun v _=>v=.bl true) fun _ _ _=>False):
  zDC q loose XP YP l.row.toRowW d [] (fun f vs=>PySem.call f vs):=by
 refine Att.attach_call hn hdf fun w s₀ s₁ mg mb fa o pm cd doc a vs ns G Y ho hd jD hmg hobj hints hlen hg=>?_;have KX:=hY w _ Y;obtain ⟨c,T,ht⟩:=htab w;obtain ⟨hC,hT⟩:=PySem.W.tab_of G.T KX hrec ht;obtain ⟨fd,hb,hF⟩:=F w mg fa _ c T KX G.T.g hmg ht;exact Dk KX G.T.g G.T.b G.T.builtins G.T.nolimit hg G.T.bmain hC hT (hnt w) hobj hints (zAv hlen hn2) hr hF hb (fun H hO hS=>jE w T H a ns hlen hO hS)
section
variable{P:Program}{w:World}{K:zAA}{mg:jb}{base:Heap}
end
section
variable{X:Cx}
end
def WY(H H':Hp):Prop:=(∀ b φ,H b=some (.ext φ)->H' b=some (.ext φ))/\∀ b ps,H b=some (.tbl ps)->H' b=some (.tbl ps)
theorem WY.same{H H':Hp}(s:ZB H H'):WY H H':=⟨fun b _ e=>s b _ e,fun b _ e=>s b _ e⟩
theorem Yt.ext{H H':Hp}{T:Addr}{q:Str}(h:Yt H T q)(e:WY H H'):Yt H' T q:=by
 obtain ⟨ps,h1,h2,h3⟩:=h;refine ⟨ps,e.2 _ _ h1,h2,fun pos cv hc=>?_⟩;obtain ⟨c',co,y1,y2,y3⟩:=h3 pos cv hc;exact ⟨c',co,y1,e.1 _ _ y2,y3⟩
section
variable{cs:List Addr}{HL Hc H' H3:Hp}
end
section
variable{prog:Program}{w:World}{A:Around}{E:ja}{s:Shared}
end
section
variable{X:Cx}
end
section
variable{P:Program}{w:World}{K:zAA}{mg:jb}{base:Heap}
end
theorem M8{P:Program}{w:World}{K:zAA}{mg:jb}{base:Heap}{CX:VN}{N:List Str}{qual:Str}{scope:Scope}{f:Addr}{cdv:Value}{A:Around}{outer:List Env}{s:Shared}{H:Hp}{E:XK}:
  PassesOwn (model (WB CX P w K mg base N qual scope f cdv A outer s H E).prog (WB CX P w K mg base N qual scope f cdv A outer s H E).w) (WB CX P w K mg base N qual scope f cdv A outer s H E).A (WB CX P w K mg base N qual scope f cdv A outer s H E).env (WB CX P w K mg base N qual scope f cdv A outer s H E).xe:=by
 show PassesOwn (model P w) (A.deeper (envOfC qual scope s.heap.objs.size f cdv)) (envOfC qual scope s.heap.objs.size f cdv) _
 passes_own
def PQ:Expr->Bool
 | .Starred _ _=>false
 | _=>true
theorem Xb{e:Expr}{es:List Expr}{env:Env}(h:PQ e=true):starEach (e :: es) env=(false,eval e env) :: starEach es env:=by
 cases e <;> first | rfl | cases h
theorem ZF{X:Cx}{e:Expr}{es:List Expr}{te:TE}{t:TA}(ha:PE X e te)(hr:PA X es t)(h:PQ e=true:=by rfl):PA X (e :: es) (Yw te t):=ZZ ha hr (Xb h)
theorem Vu{X:Cx}{e0 e1 e2:Expr}{t0 t1 t2:TE}(g0:PE X e0 t0)(g1:PE X e1 t1)(g2:PE X e2 t2)(h:[e0,e1,e2].all PQ=true:=by rfl):PA X [e0,e1,e2] (Yw t0 (Yw t1 (Yw t2 Vs))):=
 (ZZ g0 (ZZ g1 (ZZ g2 ZG (Xb (zAO.mp h e2 (by simp)))) (Xb (zAO.mp h e1 (by simp)))) (Xb (zAO.mp h e0 (by simp))))
theorem Vd{X:Cx}{e0 e1 e2 e3:Expr}{t0 t1 t2 t3:TE}(g0:PE X e0 t0)(g1:PE X e1 t1)(g2:PE X e2 t2)(g3:PE X e3 t3)(h:[e0,e1,e2,e3].all PQ=true:=by rfl):PA X [e0,e1,e2,e3] (Yw t0 (Yw t1 (Yw t2 (Yw t3 Vs)))):=
 (ZZ g0 (ZZ g1 (ZZ g2 (ZZ g3 ZG (Xb (zAO.mp h e3 (by simp)))) (Xb (zAO.mp h e2 (by simp)))) (Xb (zAO.mp h e1 (by simp)))) (Xb (zAO.mp h e0 (by simp))))
theorem QV{X:Cx}{e0 e1 e2 e3 e4:Expr}{t0 t1 t2 t3 t4:TE}(g0:PE X e0 t0)(g1:PE X e1 t1)(g2:PE X e2 t2)(g3:PE X e3 t3)(g4:PE X e4 t4)(h:[e0,e1,e2,e3,e4].all PQ=true:=by rfl):PA X [e0,e1,e2,e3,e4] (Yw t0 (Yw t1 (Yw t2 (Yw t3 (Yw t4 Vs))))):=
 (ZZ g0 (ZZ g1 (ZZ g2 (ZZ g3 (ZZ g4 ZG (Xb (zAO.mp h e4 (by simp)))) (Xb (zAO.mp h e3 (by simp)))) (Xb (zAO.mp h e2 (by simp)))) (Xb (zAO.mp h e1 (by simp)))) (Xb (zAO.mp h e0 (by simp))))
theorem pa6{X:Cx}{e0 e1 e2 e3 e4 e5:Expr}{t0 t1 t2 t3 t4 t5:TE}(g0:PE X e0 t0)(g1:PE X e1 t1)(g2:PE X e2 t2)(g3:PE X e3 t3)(g4:PE X e4 t4)(g5:PE X e5 t5)(h:[e0,e1,e2,e3,e4,e5].all PQ=true:=by rfl):PA X [e0,e1,e2,e3,e4,e5] (Yw t0 (Yw t1 (Yw t2 (Yw t3 (Yw t4 (Yw t5 Vs)))))):=
 (ZZ g0 (ZZ g1 (ZZ g2 (ZZ g3 (ZZ g4 (ZZ g5 ZG (Xb (zAO.mp h e5 (by simp)))) (Xb (zAO.mp h e4 (by simp)))) (Xb (zAO.mp h e3 (by simp)))) (Xb (zAO.mp h e2 (by simp)))) (Xb (zAO.mp h e1 (by simp)))) (Xb (zAO.mp h e0 (by simp))))
end L2
namespace Tw
open PySem PySem.Spec L2
end Tw
namespace L2
open PySem PySem.Spec PyProof.Rows
def VJ(g:Array Value->Prop)(x C:Addr)(od:Option Addr)(h:Heap):Prop:=∃ o vs,h.get? x=some o/\o.cls=.ref C/\o.data=.fields vs/\o.dict=od/\g vs
def U3:Array Value->Prop:=fun vs=>vs[1]? = some .none
def WQ:Array Value->Prop:=fun _=>True
def XO(g:Array Value->Prop)(x C:Addr)(od:Option Addr):HO:=.ext (VJ g x C od)
theorem VJ.is{g:Array Value->Prop}{x C:Addr}{od:Option Addr}{h:Heap}(e:VJ g x C od h):X2 x C h:=let ⟨o,_,a,b,_⟩:=e;⟨o,a,b⟩
theorem KI{P:Program}{w:World}{H:Hp}{h:Heap}{g:Array Value->Prop}{x C:Addr}{od:Option Addr}(e:VJ g x C od h):Zf P w H h x (XO g x C od):=by
 obtain ⟨o,vs,a,b,c,d⟩:=id e;exact ⟨e,⟨o,a⟩,fun h1 h2 ⟨o1,vs1,a1,b1,c1,d1⟩ k=>⟨o1,vs1,k o1 a1,b1,c1,d1⟩⟩
abbrev PJ:jd:=[.type "ValueError",.type "Exception",.type "BaseException",.type "object"]
def MU:jd->Bool
 | .ref _ :: r=>MU r
 | l=>l==PJ
theorem JT(self:Value):∀{l:jd},MU l=true->PySem.refuseLoop self "__setattr__" l=pure ()
 | .ref c :: r,e=>(refuseLoop_ref _ _ _ _).trans (JT self (l:=r) e)
 | .type n :: r,e=>by rw [show (Value.type n :: r)=PJ from beq_iff_eq.mp e];exact zC6.passes self
 | [],e=>by cases e
 | .none :: r,e | .bool _ :: r,e | .int _ _ :: r,e | .str _ _ :: r,e | .bytes _ _ :: r,e | .float _ _ :: r,e | .builtin _ :: r,e=>by cases (beq_iff_eq.mp e)
def GA(K:zAA)(C:Addr):Bool:=(PySem.W.clsIn K C).any fun cd=>MU cd.mro
def KG(K:zAA)(C:Addr):Bool:=
 match K.lookup C with
 | some ⟨.type t,_,.cls cd,sl⟩=>
  (match sl.toList,cd.mro with
  | [_,_,_,_,some (.builtin made),_],.ref D :: up=>t == "type" && (D==C&&(made == "ValueError.__new__" && (PySem.W.tailIn K PJ up && !cd.hasDel)))
  | _,_=>false)
 | _=>false
structure Wr(K:zAA)(C fI:Addr)(f:Str):Prop where
 exc:Xx K C
 made:KG K C=true
 init:zAV K (.ref C) "__init__" = some (some (.ref fI))
 fn:zBj K (.ref fI)=true
 kp:zAm K (.ref C)=true
 sa:zAV K (.ref C) "__setattr__" = some (some (.builtin "object.__setattr__"))
 no:zAV K (.ref C) f=some none
 hd:zBS K C=true
 over:GA K C=true
section
variable{g:Array Value->Prop}{X:Cx}{pins:List (Addr×Obj)}{σ:St}{H:Hp}{s:Shared}{a C fI:Addr}{f:Str}{v:V}{A:Around}{E:ja}
theorem En{y:V}{u:Value}{Q:Unit->Shared->Prop}(I:ZH X pins σ H s)(e:H a=some (XO g a C none))(c:Wr X.K C fI f)(ry:ZS y u)(h:∀ dx s',H dx=none->dx≠a->ZH X pins σ (upd (upd H dx (.xd [(f,y)])) a (XO g a C (some dx))) s'->Q () s'):wpAny (model X.prog X.w) A (setAttr (.ref a) f u) Q E s:=by
 obtain ⟨o,vs,hx,hc,hda,hdi,hgv⟩:=(I.hok a _ e).1;obtain ⟨oc,od,oda,jI⟩:=o;dsimp only at hc hda hdi;subst hc hda hdi;have J:zC1 s.heap a ⟨.ref C,none,.fields vs,jI⟩ C none:=⟨hx,rfl,rfl,True.intro⟩;refine PySem.W.set_plain I.kIn J c.sa ?_;have SF:=zC6;obtain ⟨cd,jD,ho⟩:=zCI c.over;have sub:zAu (model X.prog X.w) s.heap (isInstance (.ref a) (.type "object")) true:=J.type.andThen (zB5 I.kIn c.exc.mO);refine codeAny_call_builtin SF.slot.plain SF.entry (@PySem.W.check_slot (model X.prog X.w) _ _ { s with toks:=s.toks+1 } "object.__setattr__" "object" "__setattr__" (.ref a) [.str f s.toks,u] [] _ SF.kind SF.split sub (SF.args (.ref a) (.str f s.toks) u) ?_);have hm:zAu (model X.prog X.w) s.heap (mroOf (.ref C)) cd.mro:=(zCb I.kIn jD).andThen .now;rw [PySem.W.osa_eq,PySem.refuse_eq];refine wpAny_bind (wpAny_bind (zAu.here (s:={ s with toks:=s.toks+1 }) J.type (wpAny_bind (zAu.here (s:={ s with toks:=s.toks+1 }) hm ?_))));rw [JT _ ho];refine wpAny_pure (wpAny_bind (zAu.here (s:={ s with toks:=s.toks+1 }) J.type (wpAny_bind (zAu.here (s:={ s with toks:=s.toks+1 }) (zB1 I.kIn c.no) (wpAny_bind (wpAny_pure ?_))))));obtain ⟨cd2,hcd2,hd2⟩:=zCI c.hd;refine wpAny_bind (wpAny_pure (wpAny_bind (wpAny_bind (wpAny_loadPart hx (wpAny_bind (zAu.here (s:={ s with toks:=s.toks+1 }) (zCb I.kIn hcd2) ?_))))));rw [hd2];dsimp only;have hsz:s.heap.get? s.heap.objs.size=none:=zBi (zAH _);have hda:a≠s.heap.objs.size:=zAl (zAT hx);have hHd:H s.heap.objs.size=none:=I.hok.fresh (zAH _);rw [if_neg (by simp),if_neg (by simp [typeHasDict])]
 have hx1:=zAI { cls:=.type "dict",data:=.dict #[] } hx;refine wpAny_bind (wpAny_alloc' (wpAny_bind (wpAny_update' hx1 (wpAny_pure ?_))));generalize eh:((s.heap.push { cls:=.type "dict",data:=.dict #[] }).update a fun o=>{ cls:=o.cls,dict:=some s.heap.objs.size,data:=o.data,slots:=o.slots })=h2;have ga:h2.get? a=some ⟨.ref C,some s.heap.objs.size,.fields vs,jI⟩:=by
  rw [<-eh];exact zBH _ hx1 rfl
 have gd:h2.get? s.heap.objs.size=some { cls:=.type "dict",data:=.dict #[] }:=by
  rw [<-eh];exact (Heap.get?_update_ne _ _ _ _ hda.symm).trans (Heap.get?_push_at rfl rfl)
 have go:∀ b o,b≠a->s.heap.get? b=some o->h2.get? b=some o:=fun b o n q=>by
  rw [<-eh];exact (Heap.get?_update_ne _ _ _ _ n).trans (zAI _ q)
 have jR:h2.Ns s.heap.objs.size (fun _=>none):=⟨_,#[],_,gd,rfl,fun e he=>absurd he (by simp),fun _=>rfl⟩
 show wpAny _ _ (Builtin.ObjectAttr.storeInDict s.heap.objs.size (.str f s.toks) f u) _ _ _;unfold Builtin.ObjectAttr.storeInDict Builtin.ObjectAttr.newKeyGuard;refine wpAny_bind (wpAny_pure (wpAny_bind (wpAny_nsSet1 (Heap.Ns1.of_empty jR) fun h' hn' hs=>?_)));obtain ⟨oD,esD,epD,hoD,hdD,hcD⟩:=hn'.count (Within.cons f u Within.nil);refine wpAny_bind (wpAny_lookBehind hoD (by rw [hdD];exact pastItsLine_dict (zAv hcD (by rw [zAW,zBv,sizeLine_eq];lia))) ?_)
 have ga':h'.get? a=some ⟨.ref C,some s.heap.objs.size,.fields vs,jI⟩:=(hs.2 a hda).trans ga;have go':∀ b o,b≠a->s.heap.get? b=some o->h'.get? b=some o:=fun b o n q=>(hs.2 b (zAl (zAT q))).trans (go b o n q);have nt:∀{b:Addr}{o:HO},H b=some o->b≠s.heap.objs.size:=fun{b o} q z=>by rw [z,hHd] at q;cases q
 have na:∀{b:Addr},H b=none->b≠a:=fun{b} q z=>by rw [z,e] at q;cases q
 refine wpAny_pure (h s.heap.objs.size _ hHd hda.symm (I.call' (s':={ s with heap:=h',toks:=_ }) (ch:=[]) rfl ⟨fun b o q n _ _=>go' b o (na n) q,fun b o q n _ _=>⟨o.slots,go' b o (na n) q⟩,fun b o q n _=>?_,fun b o q _=>?_,fun b xs q=>?_,fun b o u q=>?_,fun b ps q=>?_⟩ (fun b ob q=>?_) I.bare (fun b hb=>absurd hb (by simp))))
 ·rw [ZV (na n),ZV (zAl (zAT q))];exact n
 ·by_cases z:b=a
  ·rw [z];exact ⟨_,ga'⟩
  ·exact ⟨o,go' b o z q⟩
 ·rw [ZV (fun z=>by rw [z,e] at q;cases q),ZV (nt q)];exact q
 ·rw [ZV (fun z=>by rw [z,e] at q;cases q),ZV (nt q)];exact q
 ·exact ⟨#[],by rw [ZV (fun z=>by rw [z,e] at q;cases q),ZV (nt q),q];simp⟩
 ·by_cases z:b=a
  ·rw [z,ZO] at q;cases q;rw [z];exact KI ⟨_,_,ga',rfl,rfl,rfl,hgv⟩
  ·rw [ZV z] at q;by_cases z2:b=s.heap.objs.size
   ·rw [z2,ZO] at q;cases q;rw [z2];refine ⟨_,hn',fun g=>?_⟩;show Ye (zBY g [(f,y)]) (if g=f then some u else none)
    by_cases hg:g=f
    ·rw [hg,if_pos rfl];simp only [zBY,beq_self_eq_true];exact ry
    ·rw [if_neg hg];simp only [zBY,beq_eq_false_iff_ne.mpr hg];exact True.intro
   ·rw [ZV z2] at q;have oc:∀{c:Addr},H c=some (.own b)->c≠a:=fun{c} hc z=>by rw [z,e] at hc;cases hc
    refine (I.hok b ob q).stay (fun c u hc r=>go' c u ?_ r) (fun c hc=>?_) (fun c xs hc=>?_)
    ·rcases hc with rfl | hc
     ·exact z
     ·exact oc hc
    ·rw [ZV (oc hc),ZV (nt hc)];exact hc
    ·rw [ZV (fun z=>by rw [z,e] at hc;cases hc),ZV (nt hc)];exact hc
theorem F9{b:Bool}{dx:Addr}{fs:List (Str×V)}{Q:ja}(I:ZH X pins σ H s)(e:H a=some (XO g a C (some dx)))(d:H dx=some (.xd fs))(c:Wr X.K C fI f)(l:fs.lookup f=some v)(h:∀ u s',ZH X pins σ H s'->ZS v u->Q u s'):wpAny (model X.prog X.w) A (getAttr (.ref a) f b) Q E s:=by
 obtain ⟨o,vs,hx,hc,hda,hdi,hgv⟩:=id (I.hok a _ e).1;obtain ⟨mA,hns,hrel⟩:=I.hok dx _ d;obtain ⟨u,hu,ru⟩:=Ye.some_of (v:=v) (o:=mA f) (by rw [<-l];exact hrel f)
 obtain ⟨od,hod,hlk⟩:=J4 hns;have J:zC1 s.heap a o C (some od):=⟨hx,hc,by unfold PySem.W.notCls;rw [hda],by rw [hdi];exact hod⟩
 obtain ⟨cd,jD,hhd⟩:=zCI c.hd;have L:zAu (model X.prog X.w) s.heap (Builtin.ObjectAttr.inOwnDict f (.ref a)) (some u):=PySem.W.looks_own I.kIn J jD (by unfold PySem.W.ownOf;rw [hhd,if_pos rfl];show zCD f od=_;rw [hlk,hu])
 have F:zAu (model X.prog X.w) s.heap (Builtin.ObjectAttr.find (.ref a) (.ref C) f) (.value u):=by
  refine zAu.andThen (zB1 I.kIn c.no) (zAu.andThen .now (zAu.andThen .now ?_));exact zAu.andThen L (zAu.tag zAu.now)
 refine wpAny_bind (wpAny_mkText ?_);refine Hf (s:={ s with toks:=s.toks+1 }) I.kIn (I.hok a _ e).1.is c.exc F ⟨Kx ru,h u _ (I.tok _) ru⟩
end
section
variable{prog:Program}{w:World}{A:Around}{E:ja}{s:Shared}{K:zAA}{C fI:Addr}{f:Str}
abbrev QU(h:Heap)(C:Addr)(us:jd):Heap:=(h.push { cls:=.type "tuple",data:=.seq us.toArray }).push { cls:=.ref C,data:=.fields #[.ref h.objs.size,.none,.none,.none,.bool false,.none] }
theorem AF{us:jd}{Q:ja}(X:K.In s.heap)(c:Wr K C fI f)(hus:us.length<=sizeLine)(h:wpAny (model prog w) (A.under (.builtin "type.__call__" ⟨.ref C :: us,[]⟩)) (call (.ref fI) (.ref (s.heap.objs.size+1) :: us)) (fun r s'=>r=.none/\Q (.ref (s.heap.objs.size+1)) s') E { s with heap:=QU s.heap C us }):
  wpAny (model prog w) A (call (.ref C) us) Q E s:=by
 obtain ⟨hh,g,d,t,os⟩:=s;have n:=c.made;unfold KG at n;split at n
 next tt dd cd sl ho=>
  split at n
  next k0 k1 k2 k3 made k5 D up hs hm=>
   simp only [zAP,beq_iff_eq,Bool.not_eq_true'] at n;obtain ⟨rfl,rfl,rfl,ht,hdel⟩:=n;obtain ⟨nm,bs,mro,ns,qn,hd,sn,sub,ab,col,del⟩:=cd;dsimp only at hm hdel;subst hm hdel;obtain ⟨sll⟩:=sl;dsimp only at hs;subst hs;have hC:hh.get? D=some (excClassObj nm qn D ns bs up hd sn sub ab col dd k0 k1 k2 k3 k5 "ValueError.__new__"):=X _ _ ho;have T:OwnTail hh PJ up:=zDW X ht;have FB:=zCn;have f1:=tc_lookup;have f2:=tc_bind (.ref D);have hT:(⟨hh,g,d,t,os⟩:Shared).TypeIs (.ref D) "type" :=⟨_,hC,rfl⟩;refine wpAny_call (codeAny_of_tree (show wpAny _ _ (callAny (.ref D) _) _ _ _ from ?_))
   repeat (any_goals (first | assumption | with_reducible refine wpAny_loadPart_at hC ?_ | wp_step))
   refine ⟨rfl,codeAny_call_builtin_at (Code.quiet_builtin _ (by decide +kernel)) entry_typeCall (wpAny_check_type_call_sub hC ?_)⟩
   repeat (first | with_reducible refine wpAny_loadPart_at hC ?_ | with_reducible refine wpAny_madeBy_exc hC ?_ | wp_step)
   refine codeAny_call_builtin_code (Code.quiet_builtin _ FB.quiet) (wpAny_check_new_subU FB FB.hasB T hC (codeAny_exc_new_subU FB FB.hasB FB T hC ?_ hus));show wpAny _ _ _ _ _ _;have e1:(QU hh D us).get? (hh.objs.size+1)=some { cls:=.ref D,data:=.fields #[.ref hh.objs.size,.none,.none,.none,.bool false,.none] }:=by heap_get
   have kk:∀ b o,hh.get? b=some o->(QU hh D us).get? b=some o:=fun b o q=>zAI _ (zAI _ q);have hC1:=kk _ _ hC;have hin:(Value.ref D :: up).contains (.ref D)=true:=by simp
   unfold isInstance;show wpAny _ _ _ _ _ ⟨QU hh D us,g,d,t,os⟩
   repeat (first | with_reducible refine wpAny_loadPart_at e1 ?_ | wp_step)
   refine wpAny_isSubtype_exc (C:=D) (h:=QU hh D us) hC1 ?_;rw [hin]
   repeat wp_step
   have X1:K.In (QU hh D us):=fun b o q=>kk b o (X b o q);show wpAny _ _ (typeLookup (.ref D) _) _ _ _;refine (zB1 X1 c.init).at ?_;refine wpAny_holding (wpAny_bind ((PySem.W.bind_fn X1 _ (beq_iff_eq.mp c.fn)).at ?_));refine wpAny_bind (wpAny_mono h (fun r s' hr=>?_) fun _ _ z=>z);obtain ⟨rfl,hQ⟩:=hr
   wp_walk
   exact hQ
  next=>cases n
 next=>cases n
end
def OT(H:Hp)(ea C:Addr):Prop:=∃ φ,H ea=some (.ext φ)/\∀ h,φ h->X2 ea C h
theorem My{g:Array Value->Prop}{H:Hp}{ea C:Addr}{od:Option Addr}(e:H ea=some (XO g ea C od)):OT H ea C:=⟨_,e,fun _ h=>h.is⟩
def OV(K:zAA):je->Hp->VK->Prop:=fun xs H Q=>∃ ea C c b,xs=[.ref ea,c]/\OT H ea C/\Xx K C/\IA c=true/\zAZ K (.ref C) (cV c)=some b/\Q (.bl b) H
def ZO8(K:zAA)(ta tv:TE)(f:Str):TS:=fun D σ H=>tv σ H fun y H1=>ta σ H1 fun x H2=>∃ g a C fI,x=.ref a/\H2 a=some (XO g a C none)/\Wr K C fI f/\∀ dx,H2 dx=none->dx≠a->D.nx σ (upd (upd H2 dx (.xd [(f,y)])) a (XO g a C (some dx)))
def Kw(K:zAA)(ta:TE)(f:Str):TE:=fun σ H Q=>ta σ H fun x H1=>∃ g a C dx fs v fI,x=.ref a/\H1 a=some (XO g a C (some dx))/\H1 dx=some (.xd fs)/\Wr K C fI f/\fs.lookup f=some v/\Q v H1
def OX(K:zAA)(C fI:Addr)(f:Str):Sp:=fun vs H Q _=>Wr K C fI f/\∃ ea y,vs=[.ref ea,y]/\H ea=some (XO U3 ea C none)/\∀ dx,H dx=none->dx≠ea->Q .non (upd (upd H dx (.xd [(f,y)])) ea (XO U3 ea C (some dx)))
section
variable{X:Cx}
theorem O9:VX X (.builtin "isinstance") (OV X.K):=by
 intro pins s σ H xs us Q I r h;obtain ⟨ea,C,c,b,rfl,⟨φ,e,of⟩,EC,hc,hk,q⟩:=h;obtain ⟨u,w',rfl,ru,rw'⟩:=Oh r;cases (show u=Value.ref ea from ru);rw [Bc rw' hc];exact zA6 (BB EC) I.kIn (of _ (I.hok ea _ e).1) hk (fun z=>nomatch z) fun tk=>⟨.bl b,H,I.tok tk,rfl,q⟩
variable{C fI:Addr}{f:Str}{e o value:Expr}{es:List Expr}{ta tv:TE}{t:TA}{pos pos' p:Pos}{x:Str}
theorem IG(ha:PE X o ta)(hv:PE X value tv)(hs:swapsWith value (some (.Attribute o f pos')) pos.line X.env=pure false):PS X (.Assign [.Attribute o f pos'] value pos) (ZO8 X.K ta tv f):=by
 intro pins s σ H D I h;refine plainObj_wpAny_Assign_Attribute (Zc (hv pins s σ H _ I h) fun u s1 ⟨y,H1,I1,ry,q⟩=>Zc (ha pins s1 σ H1 _ I1 q) fun ov s2 ⟨x,H2,I2,rx,g,a,C,fI,ex,ea,c,q2⟩=>?_) hs;subst ex;obtain rfl:ov=Value.ref a:=rx;exact En I2 ea c ry fun dx s' hd hn I3=>⟨σ,_,I3,q2 dx hd hn⟩
theorem ZM1(he:PE X e ta)(hb:attributeBase e f X.env (eval e X.env)=eval e X.env):PE X (.Attribute e f pos) (Kw X.K ta f):=by
 intro pins s σ H Q I h;refine Hd hb (Zc (he pins s σ H _ I h) fun u s1 ⟨x,H1,I1,rx,g,a,C,dx,fs,v,fI,ex,ea,ed,c,l,q⟩=>?_);subst ex;obtain rfl:u=Value.ref a:=rx;exact F9 I1 ea ed c l fun u s' I2 ru=>⟨v,H1,I2,ru,q⟩
theorem ZH.newx{pins:List (Addr×Obj)}{σ:St}{H:Hp}{s:Shared}{h':Heap}{ea:Addr}(I:ZH X pins σ H s)(keeps:∀ b o,s.heap.get? b=some o->h'.get? b=some o)(n:s.heap.get? ea=none)(hx:VJ U3 ea C none h'):ZH X pins σ (upd H ea (XO U3 ea C none)) { s with heap:=h' }:=by
 have hn:H ea=none:=by
  cases z:H ea with
  | none=>rfl
  | some o=>
   obtain ⟨o',q⟩:=I.hok.there (a:=ea) (by rw [z];exact fun y=>nomatch y)
   rw [n] at q;cases q
 have nt:∀{b:Addr}{o:HO},H b=some o->b≠ea:=fun{b o} q z=>by rw [z,hn] at q;cases q
 refine I.call' (s':={ s with heap:=h' }) (ch:=[]) rfl ⟨fun b o q _ _ _=>keeps b o q,fun b o q _ _ _=>⟨o.slots,keeps b o q⟩,fun b o q z _=>?_,fun b o q _=>⟨o,keeps b o q⟩,fun b xs q=>?_,fun b o u q=>?_,fun b ps q=>⟨#[],?_⟩⟩ (fun b ob q=>?_) I.bare (fun b hb=>absurd hb (by simp))
 ·rw [ZV (fun y=>by rw [y,n] at q;cases q)];exact z
 ·rw [ZV (nt q)];exact q
 ·rw [ZV (nt q)];exact q
 ·rw [ZV (nt q),q];simp
 ·by_cases z:b=ea
  ·rw [z,ZO] at q;cases q;rw [z];exact KI hx
  ·rw [ZV z] at q;exact (I.hok b ob q).stay (fun c u _ r=>keeps c u r) (fun c hc=>by rw [ZV (nt hc)];exact hc) (fun c xs hc=>by rw [ZV (nt hc)];exact hc)
end
theorem Ag(f:Array Value->Array Value)(o:Obj):(Obj.mapFields f o).dict=o.dict:=by
 obtain ⟨c,d,da,sl⟩:=o;cases da <;> rfl
def Fy(h B:Heap)(e:Addr)(cls:Value)(od:Option Addr)(fl:Value):Prop:=
 ∃ oe vs T oT ts,(h.get? e=some oe/\oe.cls=cls/\oe.dict=od/\oe.data=.fields vs/\vs[1]? = some (.ref T))/\B.get? T=none/\T≠e/\h.get? T=some oT/\oT.data=.fields ts/\ts[3]? = some fl
def VS(B:Heap)(l:List Env)(e:Addr)(cls:Value)(od:Option Addr)(fl:Value)(h:Heap):Prop:=B.StaysIn h/\B.get? e=none/\h.FunFrames B l/\Fy h B e cls od fl
theorem VS.at{B h:Heap}{l:List Env}{e C:Addr}{od:Option Addr}{fl:Value}(x:VS B l e (.ref C) od fl h):VJ WQ e C od h:=by
 obtain ⟨_,_,_,oe,vs,T,oT,ts,⟨a,b,c,d,_⟩,_⟩:=x;exact ⟨oe,vs,a,b,d,c,trivial⟩
section
variable{M:Model}{A:Around}{E:ja}{s:Shared}{B:Heap}{env:Env}{outer l:List Env}{L e:Addr}{cls:Value}{od:Option Addr}{Q:Unit->Shared->Prop}
theorem Ia{oe:Obj}{vs:Array Value}{first:Value}{nx:Bool}(fr:A.frames=some (env :: outer))(ff:s.heap.FunFrames B (env :: outer))(eL:env.frame=some L)(ge:s.heap.get? e=some oe)(sb:B.StaysIn s.heap)(eB:B.get? e=none)(dd:oe.data=.fields vs)(two:1<vs.size)(h:∀ h',VS B (env :: outer) e oe.cls oe.dict (rawInt L) h'->s.heap.UpToSlots h'->Q () { s with heap:=h' }):
  wpAny M A (frameOf env >>= fun a=>entryPlaceOf L nx >>= fun pl=>EntryCells.newEntry first a .none (rawInt L) .none pl >>= fun b=>setField (.ref e) 1 b) Q E s:=by
 have en:e∉(env :: outer).filterMap (·.frame):=fun z=>by
  obtain ⟨_,o,g1,g2⟩:=ff.mem z;rw [ge] at g1;cases g1;exact g2 vs dd
 refine wpAny_bind (wpAny_frameOf_fun fr ff eL fun h1 k1=>wpAny_bind (wpAny_entryPlaceOf fun pl kp=>?_));unfold EntryCells.newEntry newFields;refine wpAny_bind (wpAny_newObj_type ?_ (kp.sizeOk5 _ _ _ _ _));have t3:([first,Value.ref L,.none,rawInt L,.none]++(if pl.isEmpty then zBa 6 Value.none else pl)).toArray[3]? = some (rawInt L):=by
  first | (simp;done) | (rcases kp with rfl | ⟨_,_,_,_,_,_,_,rfl⟩ <;> simp)
 generalize ([first,Value.ref L,.none,rawInt L,.none]++(if pl.isEmpty then zBa 6 Value.none else pl)).toArray=ts at t3 ⊢;have g1:h1.get? e=some oe:=(k1.2.1 e en).trans ge;have sb1:B.StaysIn h1:=fun b o q=>(k1.2.1 b fun z=>by rw [(ff.mem z).1] at q;cases q).trans (sb b o q)
 have eT:h1.objs.size≠e:=fun z=>zBf _ (by have:=zAT g1;rw [<-z] at this;exact this)
 have g2:=zAI (h:=h1) ({ cls:=.type "traceback",dict:=none,data:=.fields ts }:Obj) g1;have d3:=Obj.data_mapFields dd (·.setIfInBounds 1 (Value.ref h1.objs.size));have g3:=zBH (Obj.mapFields (·.setIfInBounds 1 (Value.ref h1.objs.size))) g2 (Obj.isFreed_of_fields d3);have gT:=(zBF (h1.push ({ cls:=.type "traceback",dict:=none,data:=.fields ts }:Obj)) (Obj.mapFields (·.setIfInBounds 1 (Value.ref h1.objs.size))) eT.symm).trans (zAU h1 rfl);have stay:∀ b o,b≠e->h1.get? b=some o->((h1.push ({ cls:=.type "traceback",dict:=none,data:=.fields ts }:Obj)).update e (Obj.mapFields (·.setIfInBounds 1 (Value.ref h1.objs.size)))).get? b=some o:=fun b o n q=>
  (zBF _ _ n.symm).trans (zAI _ q)
 have notE:∀ b o,s.heap.get? b=some o->(∀ ws,o.data≠.fields ws)->b≠e:=fun b o q nf z=>by
  rw [z,ge] at q;cases q;exact nf vs dd
 refine wpAny_setField g2 dd two (h _ ⟨fun b o q=>stay b o (fun z=>by rw [z,eB] at q;cases q) (sb1 b o q),eB,ff.of_keeps fun b o q nf=>?_,_,_,h1.objs.size,_,_,⟨g3,Obj.cls_mapFields _ _,Ag _ _,d3,by simp [two]⟩,sb1.fresh,eT,gT,rfl,t3⟩ fun b o q nf=>?_)
 ·obtain ⟨sl,z⟩:=k1.2.2 b o q;exact ⟨_,stay b _ (notE b o q nf) z,rfl⟩
 ·obtain ⟨sl,z⟩:=k1.2.2 b o q;exact ⟨sl,stay b _ (notE b o q nf) z⟩
theorem Oy{fl:Value}(x:VS B l e cls od fl s.heap)(h:∀ h',VS B l e cls od .none h'->s.heap.UpToSlots h'->Q () { s with heap:=h' }):wpAny M A (setFlight (.ref e) none) Q E s:=by
 obtain ⟨sb,eB,ff,oe,vs,T,oT,ts,⟨ge,c1,c2,dd,v1⟩,TB,Te,gT,dT,t3⟩:=x;have n3:3<ts.size:=(zBP.mp t3).1;have far:∀ b,b≠T->(s.heap.update T (Obj.mapFields (·.setIfInBounds 3 ((none:Option Addr).elim Value.none fun f=>rawInt f)))).get? b=s.heap.get? b:=fun b n=>zBF _ _ n.symm;have notT:∀ b o,s.heap.get? b=some o->(∀ ws,o.data≠.fields ws)->b≠T:=fun b o q nf z=>by
  rw [z,gT] at q;cases q;exact nf ts dT
 unfold setFlight;refine wpAny_bind (wpAny_field ge dd v1 ?_);rw [if_pos (show (Value.ref T != Value.none)=true by simp)]
 refine wpAny_setField gT dT n3 (h _ ⟨fun b o q=>(far b fun z=>by rw [z,TB] at q;cases q).trans (sb b o q),eB,ff.of_keeps fun b o q nf=>⟨o,(far b (notT b o q nf)).trans q,rfl⟩,?_⟩ fun b o q nf=>⟨o.slots,(far b (notT b o q nf)).trans q⟩)
 exact ⟨oe,vs,T,_,_,⟨(far e Te.symm).trans ge,c1,c2,dd,v1⟩,TB,Te,zBH _ gT (Obj.isFreed_of_fields (Obj.data_mapFields dT _)),Obj.data_mapFields dT _,by simp [n3]⟩
theorem Bi{oe:Obj}{vs:Array Value}(fr:A.frames=some (env :: outer))(ff:s.heap.FunFrames B (env :: outer))(eL:env.frame=some L)(ge:s.heap.get? e=some oe)(sb:B.StaysIn s.heap)(eB:B.get? e=none)(dd:oe.data=.fields vs)(v1:vs[1]? = some .none)(h:∀ h',VS B (env :: outer) e oe.cls oe.dict (rawInt L) h'->s.heap.UpToSlots h'->Q () { s with heap:=h' }):wpAny M A (noteFrame (.ref e) env) Q E s:=by
 unfold noteFrame;simp only [eL];refine wpAny_bind (wpAny_field ge dd v1 ?_);rw [if_neg (by decide)]
 exact Ia fr ff eL ge sb eB dd (zBP.mp v1).1 h
theorem Ik(fr:A.frames=some (env :: outer))(eL:env.frame=some L)(x:VS B (env :: outer) e cls od .none s.heap)(h:∀ h',VS B (env :: outer) e cls od (rawInt L) h'->s.heap.UpToSlots h'->Q () { s with heap:=h' }):
  wpAny M A (noteFrame (.ref e) env) Q E s:=by
 obtain ⟨sb,eB,ff,oe,vs,T,oT,ts,⟨ge,c1,c2,dd,v1⟩,TB,Te,gT,dT,t3⟩:=x;subst c1 c2;have n3:3<ts.size:=(zBP.mp t3).1;have far:∀ b,b≠T->(s.heap.update T (Obj.mapFields (·.setIfInBounds 3 Value.none))).get? b=s.heap.get? b:=fun b n=>zBF _ _ n.symm;have notT:∀ b o,s.heap.get? b=some o->(∀ ws,o.data≠.fields ws)->b≠T:=fun b o q nf z=>by
  rw [z,gT] at q;cases q;exact nf ts dT
 unfold noteFrame;simp only [eL];refine wpAny_bind (wpAny_field ge dd v1 ?_);rw [if_pos (show (Value.ref T != Value.none)=true by simp)]
 refine wpAny_bind (wpAny_field gT dT t3 ?_);rw [if_neg (show ¬ ((Value.none==rawInt L)=true) by simp [rawInt])]
 refine wpAny_bind (wpAny_setField gT dT n3 ?_);refine Ia (s:={ s with heap:=_ }) fr (ff.of_keeps fun b o q nf=>⟨o,(far b (notT b o q nf)).trans q,rfl⟩) eL ((far e Te.symm).trans ge) (fun b o q=>(far b fun z=>by rw [z,TB] at q;cases q).trans (sb b o q)) eB dd (zBP.mp v1).1 fun h' f' u'=>h h' f' fun b o q nf=>?_
 exact u' b o ((far b (notT b o q nf)).trans q) nf
theorem VS.less{fl:Value}{h:Heap}(x:VS B (env :: outer) e cls od fl h):VS B outer e cls od fl h:=by
 obtain ⟨a,b,⟨_,_,c⟩,d⟩:=x;exact ⟨a,b,c,d⟩
theorem Du(fr:A.frames=some (env :: outer))(eL:env.frame=some L)(x:VS B (env :: outer) e cls od .none s.heap)(h:∀ h',VS B outer e cls od .none h'->s.heap.UpToSlots h'->Q () { s with heap:=h' }):wpAny M A (leaving env (.ref e)) Q E s:=by
 unfold leaving;exact wpAny_bind (Ik fr eL x fun h1 f1 u1=>Oy (s:={ s with heap:=h1 }) f1 fun h2 f2 u2=>h h2 f2.less (u1.trans u2))
theorem A9{oe:Obj}{vs:Array Value}(fr:A.frames=some (env :: outer))(ff:s.heap.FunFrames B (env :: outer))(eL:env.frame=some L)(ge:s.heap.get? e=some oe)(sb:B.StaysIn s.heap)(eB:B.get? e=none)(dd:oe.data=.fields vs)(v1:vs[1]? = some .none)(h:∀ h',VS B outer e oe.cls oe.dict .none h'->s.heap.UpToSlots h'->Q () { s with heap:=h' }):wpAny M A (leaving env (.ref e)) Q E s:=by
 unfold leaving;exact wpAny_bind (Bi fr ff eL ge sb eB dd v1 fun h1 f1 u1=>Oy (s:={ s with heap:=h1 }) f1 fun h2 f2 u2=>h h2 f2.less (u1.trans u2))
end
theorem Jk{prog:Program}{w:World}{A:Around}{E:ja}{s:Shared}{env:Env}{K:zAA}{C:Addr}{x:Sem Value}{Q:Flow->Shared->Prop}(hh:A.handled=none)(mB:zAr K C (.type "BaseException")=some true)(ht:zA4 K (.ref C)=some (.type "type"))(h:wpAny (model prog w) A x (fun v s1=>∃ e od,v=.ref e/\K.In s1.heap/\VJ U3 e C od s1.heap/\E (.ref e) s1) E s):wpAny (model prog w) A (raiseStmt env (some x) none) Q E s:=by
 unfold raiseStmt;refine wpAny_bind (wpAny_mono h (fun v s1 h1=>?_) fun _ _ z=>z);obtain ⟨e,od,rfl,KX,⟨⟨oc,od',oda,jI⟩,vs,ge,c1,c2,c3,v1⟩,hE⟩:=h1;dsimp only at c1 c2 c3;subst c1 c2 c3;obtain ⟨hp,g,d,tk,os⟩:=s1;have L0:zAu (model prog w) hp (typeOf (.ref e)) (.ref C):=X2.ty ⟨_,ge,rfl⟩ _;have L1:=zB5 (M:=model prog w) KX mB;have L3:=zDM (M:=model prog w) KX ht;have ge':hp.get? e=some ⟨.ref C,od',.fields vs,jI⟩:=ge;unfold excFromValue isExcClass isInstance isType raisedInstance setFlight
 repeat (first | with_reducible refine wpAny_loadPart_at ge' ?_ | with_reducible refine L1.at ?_ | with_reducible refine L0.at ?_ | with_reducible refine L3.at ?_ | wp_step)
 rw [show vs[1]? = some Value.none from v1]
 repeat wp_step
 all_goals first | exact wpAny_raiseNew_none hh hE | trace_state
structure Ue(P:Program)(w:World)(outer:List Env)(H:Hp)(s:Shared)(ea:Addr)(cls:Value)(od:Option Addr)(H':Hp)(s':Shared):Prop where
 ex:∃ B:Heap,VS B outer ea cls od .none s'.heap/\(∀ b o,s'.heap.get? b=some o->H' b≠none->B.get? b=some o)/\(∀ b o,s.heap.get? b=some o->H b=none->b∉frs outer->B.get? b=some o)/\(∀ b o,s.heap.get? b=some o->b∉frs outer->∃ o',B.get? b=some o')
 os:s'.os=s.os
 bare:AllBare s'.gens
 un:Un (frs outer) [] H H' s.heap s'.heap
 hok:YX P w H' s'.heap
 new:s.heap.get? ea=none
 free:H' ea=none
def Xi(P:Program)(w:World):VN:=fun outer H s E e s'=>∃ ea cls od H',e=.ref ea/\Ue P w outer H s ea cls od H' s'/\E cls od H'
structure V4(X:Cx)(E:XK):Prop where
 stack:X.stack=X.env :: X.outer
 frame:X.env.frame=some X.env.locals
 ex:X.ex=[]
 calm:X.calm=true
 xe:∀ e s',wpAny (model X.prog X.w) X.A (leaving X.env e) (fun _ s''=>Xi X.prog X.w X.outer X.H₀ X.s₀ E e s'') (fun e' s''=>Xi X.prog X.w X.outer X.H₀ X.s₀ E e' s'') s'->X.xe e s'
theorem UP{P:Program}{w:World}{K:zAA}{mg:jb}{base:Heap}{N:List Str}{qual:Str}{scope:Scope}{f:Addr}{cdv:Value}{A:Around}{outer:List Env}{s:Shared}{H:Hp}{E:XK}:
  V4 (WB (Xi P w) P w K mg base N qual scope f cdv A outer s H E) E:=⟨rfl,rfl,rfl,rfl,fun _ _ h=>h⟩
section
variable{X:Cx}{pins:List (Addr×Obj)}{σ:St}{H H':Hp}{s s':Shared}{E:XK}
theorem V4.frs(F:V4 X E):frs X.stack=X.env.locals :: X.fs:=by
 rw [F.stack];show List.filterMap _ (X.env :: X.outer)=_;rw [zBO,F.frame];rfl
theorem V4.off(F:V4 X E)(I:ZH X pins σ H s){b:Addr}{o:Obj}(q:X.s₀.heap.get? b=some o)(n:b∉L2.frs X.outer):b∉L2.frs X.stack:=fun z=>by
 rw [F.frs] at z;rcases zAe.mp z with z | z
 ·rw [z,I.noloc] at q;cases q
 ·exact n z
theorem V4.on(F:V4 X E){b:Addr}(n:b∈L2.frs X.outer):b∈L2.frs X.stack:=by
 rw [F.frs];exact zAL _ n
theorem ZN9{B h3:Heap}{ea:Addr}(F:V4 X E)(J:ZH X pins σ H s)(st:B.StaysIn h3)(inB:∀ b o,b≠ea->s.heap.get? b=some o->b∉L2.frs X.stack->B.get? b=some o)(sm:s.heap.UpToSlots h3)(new:X.s₀.heap.get? ea=none):
  Un (L2.frs X.outer) [] X.H₀ H X.s₀.heap h3:=by
 have bb:=J.base;rw [F.ex] at bb;have ne:∀{b:Addr}{o:Obj},X.s₀.heap.get? b=some o->b≠ea:=fun q z=>by rw [z,new] at q;cases q
 have nf:∀{b:Addr}{o:Obj},b∈L2.frs X.stack->s.heap.get? b=some o->∀ vs,o.data≠.fields vs:=fun hb q=>LW J _ hb _ q;refine ⟨fun b o q n hb _=>st b o (inB b o (ne q) (bb.keep b o q n hb (by simp)) (F.off J q hb)),fun b o q n hb _=>?_,bb.free,fun b o q _=>?_,bb.tups,bb.frzs,bb.tbls⟩
 ·obtain ⟨sl,e1⟩:=bb.slot b o q n hb (by simp)
  obtain ⟨jJ,e2⟩:=sm b _ e1 (nf (F.on hb) e1);exact ⟨jJ,e2⟩
 ·obtain ⟨o',q'⟩:=bb.there b o q (by simp)
  by_cases hb:b∈L2.frs X.stack
  ·obtain ⟨sl,e1⟩:=sm b o' q' (nf hb q');exact ⟨_,e1⟩
  ·exact ⟨o',st b o' (inB b o' (ne q) q' hb)⟩
theorem ZH.untrack{a:Addr}{φ:Heap->Prop}(I:ZH X pins σ (upd H a (.ext φ)) s)(hn:H a=none):ZH X pins σ H s:=by
 have nt:∀{b:Addr}{u:HO},H b=some u->b≠a:=fun{b u} e z=>by rw [z,hn] at e;cases e
 have dn:∀{b:Addr},upd H a (.ext φ) b=none->H b=none:=fun{b} e=>by
  by_cases z:b=a
  ·rw [z];exact hn
  ·rw [ZV z] at e;exact e
 have dt:∀{b:Addr}{u:HO},upd H a (.ext φ) b=some u->(∀ ψ,u≠.ext ψ)->H b=some u:=fun{b u} e k=>by
  by_cases z:b=a
  ·rw [z,ZO] at e;exact absurd (zAj.inj e).symm (k φ)
  ·rw [ZV z] at e;exact e
 refine ⟨I.ok,I.os,I.bare,⟨I.base.keep,I.base.slot,fun b ob q n hx=>dn (I.base.free b ob q n hx),I.base.there,fun b xs q=>dt (I.base.tups b xs q) (fun _ z=>nomatch z),fun b ob u q=>dt (I.base.frzs b ob u q) (fun _ z=>nomatch z),fun b ps q=>?_⟩,I.loc,I.cell,dn I.free,fun x c e=>dn (I.freeC x c e),fun p hp'=>?_,fun b u e=>?_,I.len⟩
 ·obtain ⟨more,e⟩:=I.base.tbls b ps q;exact ⟨more,dt e (fun _ z=>nomatch z)⟩
 ·obtain ⟨e,n,r⟩:=I.pin p hp';exact ⟨e,dn n,r⟩
 ·have e2:upd H a (.ext φ) b=some u:=by rw [ZV (nt e)];exact e
  exact (I.hok b u e2).stay (fun _ _ _ q=>q) (fun c q=>dt q (fun _ z=>nomatch z)) fun c xs q=>dt q (fun _ z=>nomatch z)
theorem HQ{ea C:Addr}{od:Option Addr}(F:V4 X E)(J:ZH X pins σ H s)(new:X.s₀.heap.get? ea=none)(hn:H ea=none)(hx:VJ U3 ea C od s.heap)(hE:E (.ref C) od H):X.xe (.ref ea) s:=by
 obtain ⟨oe,vs,ge,c1,c2,c3,v1⟩:=hx;have fr:X.A.frames=some (X.env :: X.outer):=by rw [J.ok.frames,F.stack]
 have ff:s.heap.FunFrames (zB6 s.heap (ea :: L2.frs X.stack)) (X.env :: X.outer):=by
  have:=PySem.W.funFrames_hide (as:=ea :: L2.frs X.stack) J.stack (fun env he a ha=>zAL _ (zCF.mpr ⟨env,he,ha⟩));rw [F.stack] at this ⊢;exact this
 have inB:∀ b o,b≠ea->s.heap.get? b=some o->b∉L2.frs X.stack->(zB6 s.heap (ea :: L2.frs X.stack)).get? b=some o:=fun b o n q hb=>zDS _ q (fun z=>by
  rcases zAe.mp z with z | z
  ·exact n z
  ·exact hb z)
 have inT:∀ b o,s.heap.get? b=some o->H b≠none->(zB6 s.heap (ea :: L2.frs X.stack)).get? b=some o:=fun b o q n=>inB b o (fun z=>n (by rw [z];exact hn)) q fun z=>n (J.stkFree b z)
 have eB:(zB6 s.heap (ea :: L2.frs X.stack)).get? ea=none:=zDN _ (by simp)
 refine F.xe _ _ (A9 fr ff F.frame ge (fun b o q=>zDX _ q) eB c2 v1 fun h3 fl sm=>?_);rw [c1,c3] at fl;refine ⟨ea,_,od,H,rfl,⟨⟨_,fl,fun b o q n=>?_,fun b o q n hb=>?_,fun b o q hb=>?_⟩,J.os,J.bare,ZN9 F J fl.1 inB sm new,J.hok.keptT fun b o q n=>fl.1 b o (inT b o q n),new,hn⟩,hE⟩
 ·obtain ⟨o',q'⟩:=J.hok.there n;have q2:=fl.1 b o' (inT b o' q' n);have q3:h3.get? b=some o:=q;rw [q2] at q3;rw [<-zAj.inj q3];exact inT b o' q' n
 ·have bb:=J.base;rw [F.ex] at bb;exact inB b o (fun z=>by rw [z,new] at q;cases q) (bb.keep b o q n hb (by simp)) (F.off J q hb)
 ·obtain ⟨o',q'⟩:=J.base.there b o q (by rw [F.ex];simp)
  exact ⟨o',inB b o' (fun z=>by rw [z,new] at q;cases q) q' (F.off J q hb)⟩
theorem Of{E1:XK}(F:V4 X E)(hE:∀ cls o H,E1 cls o H->E cls o H):U0 (Xi X.prog X.w) X E1:=by
 intro pins σ H s e s' I h;obtain ⟨ea,cls,od,H',rfl,W,q⟩:=h;obtain ⟨B,fl,inT,inB,inA⟩:=W.ex;have fr:X.A.frames=some (X.env :: X.outer):=by rw [I.ok.frames,F.stack]
 refine F.xe _ _ (Du fr F.frame (by rw [<-F.stack];exact fl) fun h2 fl2 sm=>?_)
 have bb:=I.base;rw [F.ex] at bb;have nf:∀{b:Addr}{o:Obj},b∈L2.frs X.stack->s.heap.get? b=some o->∀ vs,o.data≠.fields vs:=fun hb q=>LW I _ hb _ q;have toB:∀ b o,X.s₀.heap.get? b=some o->X.H₀ b=none->b∉L2.frs X.outer->B.get? b=some o:=fun b o q n hb=>inB b o (bb.keep b o q n hb (by simp)) (bb.free b o q n (by simp)) (F.off I q hb)
 have jJ:∀ b o,s.heap.get? b=some o->b∈L2.frs X.stack->∃ sl,h2.get? b=some { o with slots:=sl }:=fun b o q hb=>by
  obtain ⟨sl,e1⟩:=W.un.slot b o q (I.stkFree b hb) hb (by simp)
  obtain ⟨jJ,e2⟩:=sm b _ e1 (fun vs z=>nf hb q vs z);exact ⟨jJ,e2⟩
 have u:Un (L2.frs X.outer) [] X.H₀ H' X.s₀.heap h2:=by
  refine ⟨fun b o q n hb _=>fl2.1 b o (toB b o q n hb),fun b o q n hb _=>?_,fun b o q n _=>?_,fun b o q _=>?_,fun b xs q=>W.un.tups b xs (bb.tups b xs q),fun b o u q=>W.un.frzs b o u (bb.frzs b o u q),fun b ps q=>?_⟩
  ·obtain ⟨sl,e1⟩:=bb.slot b o q n hb (by simp)
   obtain ⟨sl3,e3⟩:=jJ b _ e1 (F.on hb);exact ⟨sl3,e3⟩
  ·obtain ⟨o',q'⟩:=bb.there b o q (by simp)
   exact W.un.free b o' q' (bb.free b o q n (by simp)) (by simp)
  ·obtain ⟨o',q'⟩:=bb.there b o q (by simp)
   by_cases hb:b∈L2.frs X.stack
   ·obtain ⟨sl,e1⟩:=jJ b o' q' hb;exact ⟨_,e1⟩
   ·obtain ⟨o2,e2⟩:=inA b o' q' hb;exact ⟨o2,fl2.1 b o2 e2⟩
  ·obtain ⟨m1,e1⟩:=bb.tbls b ps q;obtain ⟨m2,e2⟩:=W.un.tbls b _ e1;exact ⟨m1++m2,by rw [e2,Array.append_assoc]⟩
 refine ⟨ea,cls,od,H',rfl,⟨⟨B,fl2,fun b o q2 n=>?_,toB,fun b o q2 hb=>?_⟩,W.os.trans I.os,W.bare,u,W.hok.keptT fun b o q2 n=>fl2.1 b o (inT b o q2 n),?_,W.free⟩,hE _ _ _ q⟩
 ·obtain ⟨o',q'⟩:=W.hok.there n;have q3:=fl2.1 b o' (inT b o' q' n);have q4:h2.get? b=some o:=q2;rw [q3] at q4;rw [<-zAj.inj q4];exact inT b o' q' n
 ·obtain ⟨o',q'⟩:=bb.there b o q2 (by simp)
  exact inA b o' q' (F.off I q2 hb)
 ·cases z:X.s₀.heap.get? ea with
  | none=>rfl
  | some o=>
   obtain ⟨o',q'⟩:=bb.there ea o z (by simp)
   rw [W.new] at q';cases q'
def GR(C:Addr)(f:Str)(E:XK)(t:TA):TS:=fun _ σ H=>t σ H fun vs H1=>∃ y,vs=[y]/\∀ dx,H1 dx=none->E (.ref C) (some dx) (upd H1 dx (.xd [(f,y)]))
theorem AU{k:Nat}{C fI:Addr}{f x:Str}{fd:FuncData}{ps:List Str}{e:Expr}{es:List Expr}{t:TA}{p jj pos:Pos}(F:V4 X E)(c:Wr X.K C fI f)(ht:zA4 X.K (.ref C)=some (.type "type"))(FI:ZK X.prog X.w X.K X.mg X.base ZW k fI fd ps (OX X.K C fI f))(hr:ZY (k+1) X.A)(hg:Gl X x)(hm:X.mg x=some (.ref C))(hb:Zu X.K fd ps [])(ha:PA X (e :: es) t)(jy:(x==("__debug__" : Str))=false:=by decide)(he:starEach (e :: es) X.env=(false,eval e X.env) :: starEach es X.env:=by rfl)(jv:(backTo jj (starEach es X.env)).any (·.1)=false:=by rfl):
  PS X (.Raise (some (.Call (.Name x p) (e :: es) [] jj)) none pos) (GR C f E t):=by
 intro pins s σ H D I h;have hh:=I.ok.hd F.calm;rw [arm_exec_Raise];refine wpAny_bind (wpAny_standAt ?_);refine Jk hh c.exc.mB ht (wpAny_bind (wpAny_mono ?_ (fun v s3 h3=>wpAny_bind (wpAny_standAt (wpAny_pure h3))) fun _ _ z=>z));refine wpAny_Call_Name_kw (Qr I hg hm ?_ jy);refine zBs (h₀:=X.base) I.ok.mod.kin c.kp (Zc (ha jj pins s σ H _ I h) fun us s1 ⟨vs,H1,I1,r,y,ey,q⟩=>⟨I1.kIn,?_⟩) he jv;subst ey;obtain ⟨u,rfl,ry⟩:∃ u,us=[u]/\ZS y u:=by
  cases r with
  | cons ry r0=>cases r0;exact ⟨_,rfl,ry⟩
 refine AF I1.kIn c (by show 1<=sizeLine;rw [sizeLine_eq];lia) ?_
 have kk:∀ b o,s1.heap.get? b=some o->(QU s1.heap C [u]).get? b=some o:=fun b o q=>zAI _ (zAI _ q);have e1:(QU s1.heap C [u]).get? (s1.heap.objs.size+1)=some { cls:=.ref C,data:=.fields #[.ref s1.heap.objs.size,.none,.none,.none,.bool false,.none] }:=by heap_get
 have e0:s1.heap.get? (s1.heap.objs.size+1)=none:=zBi (zCQ _);have h0:H1 (s1.heap.objs.size+1)=none:=I1.hok.fresh (zCQ _);have new0:X.s₀.heap.get? (s1.heap.objs.size+1)=none:=by
  cases z:X.s₀.heap.get? (s1.heap.objs.size+1) with
  | none=>rfl
  | some o=>
   obtain ⟨o',q'⟩:=I1.base.there _ o z (by rw [F.ex];simp)
   rw [e0] at q';cases q'
 have J:=I1.newx (C:=C) (ea:=s1.heap.objs.size+1) (h':=QU s1.heap C [u]) kk e0 ⟨_,_,e1,rfl,rfl,rfl,rfl⟩;generalize hea:s1.heap.objs.size+1=ea at *;have r2:ZN [V.ref ea,y] [Value.ref ea,u]:=.cons rfl (.cons ry .nil);have jE:OX X.K C fI f [V.ref ea,y] (upd H1 ea (XO U3 ea C none)) (fun v H2=>v=.non/\∃ dx,H2=upd (upd H1 dx (.xd [(f,y)])) ea (XO U3 ea C (some dx))/\H1 dx=none/\dx≠ea) E0:=by
  refine ⟨c,_,y,rfl,ZO,fun dx hd jq=>⟨rfl,dx,?_,?_,jq⟩⟩
  ·funext b
   by_cases z:b=ea
   ·rw [z,ZO,ZO]
   ·rw [ZV z,ZV z];by_cases z2:b=dx
    ·rw [z2,ZO,ZO]
    ·rw [ZV z2,ZV z2,ZV z]
  ·rw [ZV jq] at hd;exact hd
 have hl:([Value.ref ea,u]++([]:jd)).length=ps.length:=by
  have e:=r2.length;rw [FI.len _ _ _ _ jE] at e;exact e.symm
 refine wpAny_call (codeAny_mono (FI.run _ X.stack _ _ ⟨[Value.ref ea,u],[]⟩ _ _ _ E0 (hr.make C [u] []) (J.env0.make C [u] []) (hb _ [Value.ref ea,u] J.kIn hl) r2 jE) fun r s' hq'=>?_)
 cases r with
 | error e=>exact (XE pins σ _ _ e s' J hq')
 | ok fl=>
  cases fl with
  | ret u2=>
   obtain ⟨v,H',I3,rv,ev,dx,eH,nd,ne⟩:=J.after hq';subst ev eH;refine ⟨rv,ea,some dx,rfl,I3.kIn,(I3.hok ea _ ZO).1,?_⟩;have hn:upd H1 dx (.xd [(f,y)]) ea=none:=by rw [ZV (Ne.symm ne)];exact h0
   exact HQ F (I3.untrack hn) new0 hn (I3.hok ea _ ZO).1 (q dx nd)
  | next=>exact False.elim hq'
  | brk=>exact False.elim hq'
  | cont=>exact False.elim hq'
end
def K3(K:zAA)(CB:Addr)(i:Nat)(ts:TS)(D:Ym)(σ:St):XK:=fun cls od H2=>∃ C,cls=.ref C/\zAr K C (.ref CB)=some true/\∀ ea,H2 ea=none ->
 ts { nx:=fun σ' H'=>D.nx (σ'.set i none) H',rt:=D.rt,bk:=fun σ' H'=>D.bk (σ'.set i none) H',ct:=fun σ' H'=>D.ct (σ'.set i none) H' } (σ.set i (some (.ref ea))) (upd H2 ea (XO WQ ea C od))
theorem JR{X:Cx}{pins:List (Addr×Obj)}{σ:St}{H H':Hp}{s s':Shared}{ea:Addr}{od:Option Addr}{B h2:Heap}{cls:Value}(I:ZH X pins σ H s)(W:Ue X.prog X.w X.stack H s ea cls od H' s')(inT:∀ b o,s'.heap.get? b=some o->H' b≠none->B.get? b=some o)(inB:∀ b o,s.heap.get? b=some o->H b=none->b∉frs X.stack->B.get? b=some o)(inA:∀ b o,s.heap.get? b=some o->b∉frs X.stack->∃ o',B.get? b=some o')(st:B.StaysIn h2)(sm:s'.heap.UpToSlots h2):
  ZH X pins σ H' { s' with heap:=h2 }:=by
 have jJ:∀ b o,s.heap.get? b=some o->b∈frs X.stack->∃ sl,h2.get? b=some { o with slots:=sl }:=fun b o q hb=>by
  obtain ⟨sl,e1⟩:=W.un.slot b o q (I.stkFree b hb) hb (by simp)
  obtain ⟨jJ,e2⟩:=sm b _ e1 (fun vs z=>LW I b hb o q vs z);exact ⟨jJ,e2⟩
 refine I.call' (s':={ s' with heap:=h2 }) W.os ⟨fun b o q n hb _=>st b o (inB b o q n hb),fun b o q n hb _=>jJ b o q hb,W.un.free,fun b o q _=>?_,W.un.tups,W.un.frzs,W.un.tbls⟩ (W.hok.keptT fun b o q n=>st b o (inT b o q n)) W.bare (fun b hb=>absurd hb (by simp))
 by_cases hb:b∈frs X.stack
 ·obtain ⟨sl,e1⟩:=jJ b o q hb;exact ⟨_,e1⟩
 ·obtain ⟨o',e1⟩:=inA b o q hb;exact ⟨o',st b o' e1⟩
section
variable{P:Program}{w:World}{K:zAA}{mg:jb}{base:Heap}
theorem Zj.okD{x qual:Str}{st:Stmt}{f:Addr}{fd:FuncData}{N ps:List Str}{k:Nat}{sp:Sp}(F:Zj K x qual st f fd)(S:ZC N ps (Ze st))(len:∀ vs H Q E,sp vs H Q E->vs.length=ps.length)(jt:∀ (cdv:Value) (A:Around) (outer:List Env) (s:Shared) (H:Hp) (vs:je) (Q:VK) (E:XK),ZY k (A.deeper (envOfC qual (Ze st) s.heap.objs.size f cdv))->sp vs H Q E ->
   ∃ t,X5 (WB (Xi P w) P w K mg base N qual (Ze st) f cdv A outer s H E) (WD st) t/\t { nx:=fun _ H'=>Q .non H',rt:=Q } (UD N vs) H):ZK P w K mg base (Xi P w) (k+1) f fd ps sp:=by
 obtain ⟨oc,od,kV,doc,pm,an,cdv,ct,jI,rfl,lk,jD⟩:=F.ex;exact Mq lk jD S len fun A outer s H vs Q E hr jE=>jt cdv A outer s H vs Q E hr jE
end
section
variable{X:Cx}
theorem LB(hu:X.A.units<cLine):Yp X (compareOp .NotEq) (fun x y H Q=>∃ p b xs,x=.ref p/\y=.ref b/\ZL X.K H p xs/\ZL X.K H b []/\Q (.bl (!xs.isEmpty)) H):=by
 intro pins s σ H x y v u Q I rx ry h;obtain ⟨p,b,xs,rfl,rfl,h1,h2,q⟩:=h;cases rx;cases ry;obtain ⟨ji,r1,p1,z1⟩:=I.list h1;obtain ⟨jn,r2,p2,z2⟩:=I.list h2;have l1:=r1.length;have l2:=r2.length;have e2:jn=[]:=zBZ (by rw [<-l2];rfl)
 subst e2
 cases xs with
 | nil=>
  have e1:ji=[]:=zBZ (by rw [<-l1];rfl)
  subst e1;exact PySem.SeqAt.RcNeAt.lists (e:=fun _=>true) p1.isList p2.isList rfl hu (fun j h1 _=>absurd h1 (by simp)) X.prog X.w X.xe _ (Yl I q (by simp))
 | cons x r=>exact PySem.SeqAt.RcNeAt.lists_lengths p1.isList p2.isList (by simp;intro e;subst e;simp at l1) hu X.prog X.w X.xe _ (Yl I q rfl)
end
end L2
namespace Tw
open PySem PySem.Spec L2
def Zt(i:Nat):Stmt:=PySem.Challenge.pw_twigmap_k33_nth_and_places.main.body.getD i (.Pass ⟨0,0,0,0⟩)
abbrev La:Stmt:=Zt 13
abbrev NK:Stmt:=Zt 14
abbrev NL:Stmt:=Zt 15
abbrev Ly:Stmt:=Zt 16
abbrev Nw:Stmt:=Zt 17
abbrev Lu:Stmt:=Zt 18
abbrev LT:Stmt:=Zt 19
abbrev Oj:Stmt:=Zt 20
abbrev Mf:Stmt:=Zt 30
abbrev Ll:Stmt:=Zt 31
abbrev MX:Stmt:=Zt 32
abbrev Nz:Stmt:=Zt 33
abbrev KS:Stmt:=Zt 34
abbrev Lq:Stmt:=Zt 35
abbrev Me:Stmt:=Zt 37
abbrev MB:Stmt:=Zt 38
abbrev LS:Stmt:=Zt 39
abbrev Mv:Stmt:=Zt 40
abbrev Lx:Stmt:=Zt 41
abbrev LY:Stmt:=Zt 43
abbrev Lw:Stmt:=Zt 44
abbrev Mu:Stmt:=Zt 45
abbrev Ml:Stmt:=Zt 46
abbrev O5:Stmt:=Zt 47
abbrev MD:Stmt:=Zt 50
abbrev M6:Stmt:=Zt 52
abbrev KC:Stmt:=Zt 53
abbrev M7:Stmt:=Zt 54
abbrev Mn:Stmt:=Zt 55
abbrev NH:Stmt:=Zt 56
abbrev Nl:Stmt:=Zt 57
abbrev N8:Stmt:=Zt 58
abbrev MG:Stmt:=Zt 59
abbrev OC:Stmt:=Zt 60
abbrev U9:Stmt:=Zt 61
abbrev Mx:Stmt:=Zt 62
abbrev Ni:Stmt:=Zt 63
abbrev LH:Stmt:=Zt 65
abbrev LI:Stmt:=Zt 66
abbrev KJ:Stmt:=Zt 67
abbrev LU:Stmt:=Zt 68
abbrev Mo:Stmt:=Zt 69
abbrev Nr:Stmt:=Zt 70
abbrev N4:Stmt:=Zt 71
abbrev MF:Stmt:=Zt 72
abbrev QH:Stmt:=Zt 73
abbrev KH:Stmt:=Zt 74
abbrev Mw:Stmt:=Zt 75
abbrev Ma:Stmt:=Zt 76
abbrev MM:Stmt:=Zt 77
abbrev Nq:Stmt:=Zt 78
abbrev M5:Stmt:=Zt 79
abbrev Lk:Stmt:=Zt 80
abbrev V2:Stmt:=Zt 81
structure YG(mg:jb):Prop where
 isi:mg "isinstance" = none
 bool:mg "bool" = none
 int:mg "int" = none
 str:mg "str" = none
 tuple:mg "tuple" = none
 list:mg "list" = none
 len:mg "len" = none
 all:mg "all" = none
 abs:mg "abs" = none
 max:mg "max" = none
 min:mg "min" = none
 range:mg "range" = none
 sorted:mg "sorted" = none
 ValueError:mg "ValueError" = none
 sum:mg "sum" = none
 signs:∃ t,mg "MOST_SIGNS" = some (.int 40 t)
 things:∃ t,mg "MOST_THINGS" = some (.int 4 t)
 deep:∃ t,mg "MOST_DEEP" = some (.int 3 t)
 rows:∃ t,mg "MOST_ROWS" = some (.int 4 t)
 few:∃ t,mg "FEWEST_BRANCHES" = some (.int 2 t)
 most:∃ t,mg "MOST_BRANCHES" = some (.int 4 t)
 height:∃ t,mg "HEIGHT" = some (.int 0 t)
 least:∃ t,mg "LEAST" = some (.int 1 t)
 greatest:∃ t,mg "GREATEST" = some (.int 2 t)
 many:∃ t,mg "MANY" = some (.int 3 t)
section
variable{P:Program}{w:World}{K:zAA}{mg:jb}{base:Heap}{f:Addr}{fd:FuncData}
theorem UV:ZC ["_law_well_here","_law_many","_law_found","_law_first","_law_second"] ["_law_well_here","_law_many"] (Ze KC):=Zs
theorem F2(F:Zj K "_law_pull" "_law_pull" KC f fd):ZK P w K mg base ZW 1 f fd ["_law_well_here","_law_many"] Zp:=by
 refine F.ok UV (fun vs H Q E h=>?_) (fun cdv A outer s H vs Q E hr h=>?_)
 ·obtain ⟨p,m,rfl,_⟩:=h;rfl
 obtain ⟨p,m,rfl,W,⟨hm,hlog⟩,k⟩:=h;obtain ⟨a,b,c,d,hw,ha0,ha1,hc,hd⟩:=W.ex;have nd:=UV.nd;refine ⟨_,ZQ (Zz (Y3 Wy (Zl Zq (pv 0) ZM (fun _ _=>rfl)) ZM (YE _)) (ZU (Zg ZM)) Z0)
  (ZQ (Q7 (Zv Vo (Zl Zq (pv 0) ZM (fun _ _=>rfl)) ZM) (MY (pv 0) ZM LO))
  (ZQ (Zz (Y3 Qb (Zl Zq (pv 0) ZM (fun _ _=>rfl)) ZM (YE _))
   (ZQ (Zk 2 nd (Zv Qh (Zl Zq (pv 0) ZM (fun _ _=>rfl)) (pv 1)))
   (ZQ (Q7 (Zv Db (Zl Zq (pv 0) ZM (fun _ _=>rfl)) (pv 1)) (MY (pv 0) ZM LO))
   (ZU (Zg (pv 2))))) Z0)
  (ZQ (Q7 (Zv WJ (Zl Zq (pv 0) ZM (fun _ _=>rfl)) ZM) (MY (pv 0) ZM LO))
  (ZQ (Zk 3 nd (Zv Qh (Zv Q3 (Zv WJ (Zl Zq (pv 0) ZM (fun _ _=>rfl)) ZM) (Zv WJ ZM (Zv Q3 ZM (Zl Zq (pv 0) ZM (fun _ _=>rfl))))) ZM))
  (ZQ (Zk 4 nd (Zv Qh (Zv Q3 (Zv WJ (Zv NR (pv 3) ZM) ZM) (Zv WJ (Zv Qh (pv 3) ZM) ZM)) ZM))
  (ZU (Zg (Zv Qh (Zv NR (pv 4) ZM) (pv 1))))))))),?_⟩
 refine ⟨_,rfl,p,_,_,_,rfl,rfl,ZL.of hw,rfl,rfl,_,rfl,?_⟩;refine WU (fun _=>?_) (fun c0=>?_)
 ·exact k 0 H (Int.le_refl 0) hm W (ZE.refl p H)
 have d0:d≠0:=fun e=>c0 (decide_eq_true (by rw [e]))
 refine ⟨_,rfl,p,_,_,_,rfl,rfl,ZL.of hw,rfl,_,_,rfl,rfl,_,rfl,p,_,_,_,rfl,rfl,hw,rfl,?_⟩;refine ⟨_,rfl,p,_,_,_,rfl,rfl,ZL.of ZO,rfl,_,_,rfl,rfl,_,rfl,?_⟩;refine WU (fun c1=>?_) (fun c1=>?_)
 ·refine ⟨_,rfl,p,_,_,_,rfl,rfl,ZL.of ZO,rfl,_,rfl,_,_,rfl,rfl,hm,?_⟩;refine ⟨_,rfl,p,_,_,_,rfl,rfl,ZL.of ZO,rfl,_,rfl,_,_,rfl,rfl,⟨hm,hlog⟩,_,rfl,p,_,_,_,rfl,rfl,ZO,rfl,?_⟩;refine ⟨_,rfl,?_⟩;refine k (c % m) _ (zBy _ (by omega)) (zBc _ hm) ⟨a,b,c / m,d - 1,ZO,ha0,ha1,Int.ediv_nonneg hc (by omega),by omega⟩ (ZE.refl p H).upd.upd
 ·refine ⟨_,rfl,p,_,_,_,rfl,rfl,ZL.of ZO,rfl,_,_,rfl,rfl,_,rfl,p,_,_,_,rfl,rfl,ZO,rfl,?_⟩;refine ⟨_,rfl,p,_,_,_,rfl,rfl,ZL.of ZO,rfl,_,_,rfl,rfl,_,rfl,p,_,_,_,rfl,rfl,ZL.of ZO,rfl,_,_,rfl,rfl,.inl ⟨by decide,by decide⟩,_,_,rfl,rfl,_,_,rfl,rfl,.inl ⟨by omega,by omega⟩,_,_,rfl,rfl,(by show (0:Int)<2147483629;decide),?_⟩
  generalize hx:(a+1) * (48271+7919 * (b+1)) % 2147483629=x;have x0:0<=x:=by rw [<-hx];exact zBy _ (by decide)
  have x1:x<2147483629:=by rw [<-hx];exact zBc _ (by decide)
  refine ⟨_,rfl,_,_,rfl,rfl,⟨by decide,by decide⟩,_,_,rfl,rfl,_,rfl,_,_,rfl,rfl,(by show (0:Int)<1009;decide),_,_,rfl,rfl,_,_,rfl,rfl,.inl ⟨by omega,by omega⟩,_,_,rfl,rfl,(by show (0:Int)<1000000007;decide),?_⟩
  refine ⟨_,rfl,_,_,rfl,rfl,⟨by decide,by decide⟩,_,rfl,_,_,rfl,rfl,hm,?_⟩
  exact k _ _ (zBy _ (by omega)) (zBc _ hm) ⟨a,b+1,c,d - 1,ZO,ha0,ha1,hc,by omega⟩ (ZE.refl p H).upd.upd
theorem V6:ZC ["_law_well_here","_law_bound","_law_found","_law_j"] ["_law_well_here","_law_bound"] (Ze M7):=Zs
theorem BN(F:Zj K "_law_great" "_law_great" M7 f fd)(T:YG mg)(DP:ZA P w K mg base 1 "_law_pull" ["_law_well_here","_law_many"] Zp):ZK P w K mg base ZW 2 f fd ["_law_well_here","_law_bound"] Zp:=by
 refine F.ok V6 (fun vs H Q E h=>?_) (fun cdv A outer s H vs Q E hr h=>?_)
 ·obtain ⟨p,m,rfl,_⟩:=h;rfl
 obtain ⟨p,m,rfl,W,hm,k⟩:=h;obtain ⟨a,b,c,d,hw,_⟩:=W.ex;have nd:=V6.nd;refine ⟨_,ZQ (Zz (Y3 Qb (Zl Zq (pv 0) ZM (fun _ _=>rfl)) ZM (YE _)) (ZU (Zg (Zh DP hr (ZZ (pv 0) (ZZ (pv 1) ZG))))) Z0)
  (ZQ (Zk 2 nd ZM)
  (ZQ (Ud PassesOwn.never rfl (Pm rfl T.range (ZZ ZM ZG)) (WT 3 nd)
   (ZU (Zk 2 nd (Zv WJ (Zv Q3 (pv 2) ZM) (Zh DP hr (ZZ (pv 0) (ZZ ZM ZG)))))))
  (ZU (Zg (Zv Qh (pv 2) (pv 1)))))),?_⟩
 refine ⟨_,rfl,p,_,_,_,rfl,rfl,ZL.of hw,rfl,_,_,rfl,rfl,_,rfl,?_⟩;refine WU (fun _=>?_) (fun _=>?_)
 ·exact ⟨_,rfl,_,rfl,p,m,rfl,W,hm,k⟩
 refine ⟨8,rfl,by decide,by decide,PZ (n:=8) (fun i σ H2=>∃(z:Int)(j:jf),σ=[some (.ref p),some (.int m),some (.int z),j]/\ZI H2 p/\ZE p H H2) ⟨0,none,rfl,W,ZE.refl p H⟩ ?_ ?_⟩
 ·rintro i σ H2 hi ⟨z,j,rfl,W2,s2⟩;refine ⟨_,rfl,_,_,rfl,rfl,.inr ⟨by decide,by decide⟩,_,rfl,p,62500000,rfl,W2,XI (by decide) (by decide),fun r H3 _ _ W3 s3=>?_⟩
  exact ⟨_,_,rfl,rfl,_,_,rfl,W3,s2.trans s3⟩
 ·rintro σ H2 ⟨z,j,rfl,W2,s2⟩;refine ⟨_,rfl,_,rfl,_,_,rfl,rfl,hm.1,?_⟩;exact k _ _ (zBy _ (by have:=hm.1;omega)) (zBc _ hm.1) W2 s2
end
def YS:Str:= " \"\\~!#$&'()*+,-./0123456789:;<=>?@ABCDEFGHIJKLMNOPQRSTUVWXYZ[]^_`abcdefghijklmnopqrstuvwxyz{|}"
theorem ZI4:YS.cps.toList.length=94:=by decide +kernel
theorem ID:YS.length=94:=by decide +kernel
theorem F3:YS.cps.toList.all UJ=true:=by decide +kernel
theorem GW{i:Int}(h0:0<=i)(h1:i<94):∃ c,Xq YS.cps.toList i=some c/\UJ c=true:=by
 obtain ⟨c,e,m⟩:=Q2 (xs:=YS.cps.toList) h0 (by rw [ZI4];exact h1)
 exact ⟨c,e,zAO.mp F3 c m⟩
def Xr(x:Str)(i:Nat):Prop:=x.cps.size<=i/\x.cps.toList.all UJ=true
theorem Xr.ok{x:Str}{i:Nat}(h:Xr x i)(hi:i<=40):Um x=true:=by
 unfold Um;rw [zAP];exact ⟨decide_eq_true (zAv h.1 hi),h.2⟩
theorem Xr.more{x:Str}{i c:Nat}(h:Xr x i)(hc:UJ c=true):Xr (x++(⟨#[c]⟩:Str)) (i+1):=by
 have e:(x++(⟨#[c]⟩:Str)).cps=x.cps++#[c]:=rfl;refine ⟨?_,?_⟩
 ·rw [e,zCk];exact Nat.succ_le_succ h.1
 ·rw [e,zCe,List.all_append,h.2];simp [hc]
section
variable{P:Program}{w:World}{K:zAA}{mg:jb}{base:Heap}{f:Addr}{fd:FuncData}
abbrev EM:List Str:=["_law_well_here","_law_signs","_law_text_here","_law_few","_law_j","_law_sign"]
theorem US:ZC EM ["_law_well_here"] (Ze Mn):=Zs
theorem ZM8(F:Zj K "_law_text" "_law_text" Mn f fd)(T:YG mg)(DP:ZA P w K mg base 1 "_law_pull" ["_law_well_here","_law_many"] Zp):ZK P w K mg base ZW 2 f fd ["_law_well_here"] X7:=by
 refine F.ok US (fun vs H Q E h=>?_) (fun cdv A outer s H vs Q E hr h=>?_)
 ·obtain ⟨p,rfl,_⟩:=h;rfl
 obtain ⟨p,rfl,W,k⟩:=h;have nd:=US.nd;refine ⟨_,ZQ (Zk 1 nd Xf) (ZQ (Zk 2 nd Xf)
  (ZQ (Zk 3 nd (Zh DP hr (ZZ (pv 0) (ZZ ZM ZG))))
  (ZQ (Ud PassesOwn.never rfl (Pm rfl T.range (ZZ (Zh DP hr (ZZ (pv 0) (ZZ (Zl Zq (Yn (ZZ ZM (ZZ ZM ZG))) (Zh DP hr (ZZ (pv 0) (ZZ ZM ZG))) (fun _ _=>rfl)) ZG))) ZG)) (WT 4 nd)
   (ZQ (Zk 5 nd Xf)
   (ZQ (Zz (Pc (Y3 Qb (pv 3) ZM (YE _)) (Pu (Y3 Wy (Zh DP hr (ZZ (pv 0) (ZZ ZM ZG))) ZM (YE _)))).pt
    (ZU (Zk 5 nd (Zl Il (pv 1) (Zh DP hr (ZZ (pv 0) (ZZ (Zl Zq (Yn (ZZ ZM (ZZ ZM ZG))) (Zv NR (pv 3) ZM) (fun _ _=>rfl)) ZG))) (fun _ _=>rfl)))) Z0)
   (ZU (Zk 2 nd (Zv Es (pv 2) (pv 5)))))))
  (ZU (Zg (pv 2)))))),?_⟩
 refine ⟨_,rfl,p,3,rfl,W,XI (by decide) (by decide),fun pl H1 pl0 pl1 W1 s1=>?_⟩
 refine ⟨_,rfl,(by show 2<=sizeLine;decide),fun l hl=>?_⟩
 have W1':ZI (upd H1 l (.lst [.int 4,.int 41])) p:=W1.same (ZX hl _);refine ⟨_,rfl,p,2,rfl,W1',XI (by decide) (by decide),fun r H2 r0 r1 W2 s2=>?_⟩
 have npl:l≠p:=by
  obtain ⟨xs,e⟩:=W1.some;exact (Zb e hl).symm
 have hl2:H2 l=some (.lst [.int 4,.int 41]):=s2 l _ ZO npl;obtain ⟨v,hv,hv'⟩:=KP (x:=V.int 4) (y:=V.int 41) r0 r1;have hb:∃ z:Int,v=.int z/\0<z/\z<=41:=by
  rcases hv' with e | e
  ·exact ⟨4,e,by decide,by decide⟩
  ·exact ⟨41,e,by decide,by decide⟩
 obtain ⟨z,rfl,z0,z1⟩:=hb;refine ⟨l,_,_,_,rfl,rfl,ZL.of hl2,hv,p,z,rfl,W2,XI z0 (by omega),fun n H3 n0 n1 W3 s3=>?_⟩
 have sA:ZE p H H3:=(s1.trans (ZE.of (ZX hl _))).trans (s2.trans s3);refine ⟨n,rfl,by omega,by omega,PZ (n:=n.toNat) (fun i σ H4=>∃(x:Str)(j g:jf),σ=[some (.ref p),some (.str YS),some (.str x),some (.int pl),j,g]/\Xr x i/\ZI H4 p/\ZE p H H4)
  ⟨"",none,none,rfl,⟨by decide,by decide⟩,W3,sA⟩ ?_ ?_⟩
 ·rintro i σ H4 hi ⟨x,j,g,rfl,hx,W4,s4⟩;have fin:∀(c:Nat)(H5:Hp),UJ c=true->ZI H5 p->ZE p H H5->∃(y:Str)(j g:jf),[some (V.ref p),some (.str YS),some (.str (x++(⟨#[c]⟩:Str))),some (.int pl),some (.int (0+(i:Int))),some (.str ⟨#[c]⟩)]=[some (.ref p),some (.str YS),some (.str y),some (.int pl),j,g]/\Xr y (i+1)/\ZI H5 p/\ZE p H H5:=
   fun c H5 hc W5 s5=>⟨_,_,_,rfl,hx.more hc,W5,s5⟩
  have hlen:∀ c:Nat,x.length+(⟨#[c]⟩:Str).length<=sizeLine:=fun c=>by
   have h1:x.length<=i:=hx.1;have h2:(⟨#[c]⟩:Str).length=1:=rfl;rw [h2];exact nn (by omega)
  have yes:∀ H5,ZI H5 p->ZE p H H5->∃(v:Int),0<v/\v<=94/\Xq [V.int 94,V.int 5] (pl / 2)=some (.int v):=fun H5 _ _=>by
   obtain ⟨v,e,h⟩:=KP (x:=V.int 94) (y:=V.int 5) (i:=pl / 2) (by omega) (by omega)
   rcases h with rfl | rfl
   ·exact ⟨94,by decide,by decide,e⟩
   ·exact ⟨5,by decide,by decide,e⟩
  refine ⟨_,rfl,_,_,rfl,rfl,_,rfl,?_⟩;refine WU (fun _=>?_) (fun _=>?_)
  ·refine Zw ?_;refine ⟨_,rfl,_,rfl,(by show 2<=sizeLine;decide),fun l2 hl2=>?_⟩
   obtain ⟨v,v0,v1,ev⟩:=yes H4 W4 s4;refine ⟨_,rfl,_,_,rfl,rfl,⟨by decide,by decide⟩,l2,_,_,_,rfl,rfl,ZL.of ZO,ev,p,v,rfl,W4.same (ZX hl2 _),XI v0 (by omega),fun u H5 u0 u1 W5 s5=>?_⟩
   obtain ⟨c,ec,hc⟩:=GW u0 (by omega)
   refine ⟨YS,_,c,rfl,rfl,(by rw [ID];exact nn (by decide)),ec,?_⟩
   exact ⟨_,rfl,_,rfl,_,_,rfl,rfl,hlen c,fin c H5 hc W5 ((s4.trans (ZE.of (ZX hl2 _))).trans s5)⟩
  ·refine ⟨_,rfl,p,8,rfl,W4,XI (by decide) (by decide),fun y H6 _ _ W6 s6=>⟨rfl,_,rfl,?_⟩⟩
   refine WU (fun _=>?_) (fun _=>?_)
   ·refine ⟨_,rfl,_,rfl,(by show 2<=sizeLine;decide),fun l2 hl2=>?_⟩
    obtain ⟨v,v0,v1,ev⟩:=yes H6 W6 (s4.trans s6);refine ⟨_,rfl,_,_,rfl,rfl,⟨by decide,by decide⟩,l2,_,_,_,rfl,rfl,ZL.of ZO,ev,p,v,rfl,W6.same (ZX hl2 _),XI v0 (by omega),fun u H5 u0 u1 W5 s5=>?_⟩
    obtain ⟨c,ec,hc⟩:=GW u0 (by omega)
    refine ⟨YS,_,c,rfl,rfl,(by rw [ID];exact nn (by decide)),ec,?_⟩
    exact ⟨_,rfl,_,rfl,_,_,rfl,rfl,hlen c,fin c H5 hc W5 (((s4.trans s6).trans (ZE.of (ZX hl2 _))).trans s5)⟩
   ·exact ⟨_,rfl,_,rfl,_,_,rfl,rfl,hlen 97,fin 97 H6 (by decide) W6 (s4.trans s6)⟩
 ·rintro σ H4 ⟨x,j,g,rfl,hx,W4,s4⟩;exact ⟨_,rfl,k x H4 (hx.ok (by omega)) W4 s4⟩
theorem QW:ZC ["_law_well_here","_law_room","_law_way"] ["_law_well_here","_law_room"] (Ze NH):=Zs
theorem An{k:Nat}:ZK P w K mg base ZW k f fd ["_law_well_here","_law_room"] (Y5 0):=by
 have no:∀ vs H Q E,¬ Y5 0 vs H Q E:=fun vs H Q E h=>by
  obtain ⟨p,r,_,_,h1,_⟩:=h;omega
 exact ⟨fun vs H Q E h=>absurd h (no vs H Q E),fun A outer s H args us vs Q E _ _ _ _ h=>absurd h (no vs H Q E)⟩
theorem ZNz{n:Nat}(F:Zj K "_law_key" "_law_key" NH f fd)(T:YG mg)(DP:ZA P w K mg base 1 "_law_pull" ["_law_well_here","_law_many"] Zp)(DG:ZA P w K mg base 2 "_law_great" ["_law_well_here","_law_bound"] Zp)(DT:ZA P w K mg base 2 "_law_text" ["_law_well_here"] X7)(DK:ZA P w K mg base (n+2) "_law_key" ["_law_well_here","_law_room"] (Y5 n)):ZK P w K mg base ZW (n+3) f fd ["_law_well_here","_law_room"] (Y5 (n+1)):=by
 refine F.ok QW (fun vs H Q E h=>?_) (fun cdv A outer s H vs Q E hr h=>?_)
 ·obtain ⟨p,r,rfl,_⟩:=h;rfl
 obtain ⟨p,r,rfl,W,hn,k⟩:=h;have nd:=QW.nd;have hr1:=hr.mono (show 1<=n+2 by omega)
 have hr2:=hr.mono (show 2<=n+2 by omega)
 refine ⟨_,ZQ (Zk 2 nd (Zh DP hr1 (ZZ (pv 0) (ZZ ZM ZG))))
  (ZQ (Zz (Y3 PM (pv 2) ZM (YE _)) (ZU (Zg (Zv Vo (Zh DP hr1 (ZZ (pv 0) (ZZ ZM ZG))) ZM))) Z0)
  (ZQ (Zz (Y3 Wy (pv 2) ZM (YE _)) (ZU (Zg (Zv WJ (Zv Vo (Zh DG hr2 (ZZ (pv 0) (ZZ (Zv Vo (Zv Q3 ZM (Zv PX ZM ZM)) ZM) ZG))) (Zv PX ZM ZM)) ZM))) Z0)
  (ZQ (Zz (Pc (Y3 PM (pv 2) ZM (YE _)) (Pu (Y3 Wy (pv 1) ZM (YE _)))).pt (ZU (Zg (Zh DT hr2 (ZZ (pv 0) ZG)))) Z0)
  (ZU (Zg (VP NM rfl T.tuple Qw (ZZ (VR [0,1] ["_law_well_here","_law_room"] rfl (Pm rfl T.range (ZZ (Zh DP hr1 (ZZ (pv 0) (ZZ ZM ZG))) ZG)) (fun _ _ _ _ _=>VU)
   (fun _ _ _ _ _=>Zh DK hr (ZZ (pv 1) (ZZ (Zv Vo (pv 2) ZM) ZG))) ⟨rfl,.inl rfl,rfl,rfl,.inl rfl,rfl,trivial⟩) ZG))))))),?_⟩
 refine ⟨_,rfl,p,8,rfl,W,XI (by decide) (by decide),fun y H1 y0 y1 W1 s1=>?_⟩
 refine ⟨_,rfl,_,_,rfl,rfl,_,rfl,?_⟩;refine WU (fun _=>?_) (fun c1=>?_)
 ·refine ⟨_,rfl,p,41,rfl,W1,XI (by decide) (by decide),fun u H2 u0 u1 W2 s2=>⟨_,_,rfl,rfl,?_⟩⟩
  refine k (.int (u - 20)) (.int (u - 20)) H2 (ZD.int _) ?_ W2 (s1.trans s2);rw [KT.fits];have e:(10:Nat) ^ 60 > 1000:=by decide
  exact decide_eq_true (by omega)
 refine ⟨_,rfl,rfl,_,rfl,?_⟩;refine WU (fun _=>?_) (fun c2=>?_)
 ·refine ⟨_,rfl,_,_,rfl,rfl,⟨by decide,by decide,by decide⟩,_,_,rfl,rfl,.inl ⟨by decide,by decide⟩,_,_,rfl,rfl,p,_,rfl,W1,XI (by decide +kernel) (by decide +kernel),fun u H2 u0 u1 W2 s2=>?_⟩
  refine ⟨_,_,rfl,rfl,⟨by decide,by decide,by decide⟩,_,_,rfl,rfl,_,_,rfl,rfl,?_⟩
  refine k _ (.int _) H2 (ZD.int _) ?_ W2 (s1.trans s2);have e:((10:Int) ^ (60:Int).toNat)=((10 ^ 60:Nat):Int):=by decide +kernel
  rw [e] at u1;rw [KT.fits,e];generalize (10 ^ 60:Nat)=N at *;exact decide_eq_true (by omega)
 have txt:X7 ([.ref p]++[]) H1 Q E0:=⟨p,rfl,W1,fun x H2 hx W2 s2=>k (.str x) (.str x) H2 (ZD.str x) (by rw [KT.fits];exact hx) W2 (s1.trans s2)⟩
 refine ⟨_,rfl,_,_,rfl,rfl,_,rfl,?_⟩;refine WU (fun _=>?_) (fun _=>?_)
 ·exact Zw ⟨_,rfl,txt⟩
 refine ⟨_,rfl,rfl,_,rfl,?_⟩;refine WU (fun _=>?_) (fun c3=>?_)
 ·exact ⟨_,rfl,txt⟩
 have r0:r≠0:=fun e=>c3 (decide_eq_true (by rw [e];rfl))
 refine ⟨_,rfl,p,5,rfl,W1,XI (by decide) (by decide),fun u H2 u0 u1 W2 s2=>⟨u,rfl,by omega,by omega,?_⟩⟩
 have sB:ZE p H H2:=s1.trans s2;refine VV (n:=u.toNat) (fun i x=>x=.int (0+(i:Int))) (fun D i ys H3=>ZI H3 p/\ZE p H H3/\D≠p/\H D=none/\∃ ts,KeysAt H3 ts ys/\ts.length=i/\fitsL ts (r - 1)=true) (XG (by omega))
  (fun D i ys H3 hi _=>hi) (fun D i ys H3 x H4 hi _ hy=>hy) (fun D ys H3 _=>zAH _) (fun D hD=>?_) (fun D i ys H3 x eD hl hi hx hP R hR=>?_) (fun D ys H3 eD hP=>?_)
 ·have nD:D≠p:=by
   obtain ⟨xs,e⟩:=W2.some;exact (Zb e hD).symm
  have nH:H D=none:=by
   cases e:H D with
   | none=>rfl
   | some o=>rw [sB D o e nD] at hD;cases hD
  exact ⟨W2.same (ZX hD _),sB.trans (ZE.of (ZX hD _)),nD,nH,[],.nil,rfl,by rw [fitsL]⟩
 ·obtain ⟨W3,s3,nD,nH,ts,hk,hlen,hf⟩:=hP;have er:(r:Int) - 1=((r - 1:Nat):Int):=by omega
  refine ⟨_,rfl,_,rfl,_,_,rfl,rfl,p,r - 1,congrArg (fun z=>[V.ref p,V.int z]) er,W3,by omega,fun v t H4 hv ht W4 s4=>?_⟩
  have eD4:=s4 D _ eD nD;have sD:ZE D H4 (upd H4 D (.lst (ys++[v]))):=(ZE.refl D H4).upd;have tD:Z2 H4 (upd H4 D (.lst (ys++[v]))):=sD.tups eD4;refine hR v H4 eD4 ⟨W4.stay sD nD.symm,fun b o e n=>?_,nD,nH,ts++[t],((KeysAt.mono (s4.tupsW W3) _ _ hk).append (.cons hv .nil)).mono tD _ _,by simp [hlen],?_⟩
  ·rw [ZV (Zb e nH)];exact (s3.trans s4) b o e n
  ·rw [Ob] at hf ⊢;rw [List.all_append,hf];simp [ht]
 ·obtain ⟨W3,s3,nD,nH,ts,hk,hlen,hf⟩:=hP;refine ⟨D,ys,rfl,.inl ⟨ZL.of eD,fun l hl=>?_⟩⟩;have sl:=ZX hl (.tup ys);refine k (.ref l) (.tup ts) _ (.tup ZO (hk.mono (ZB.tups sl) _ _)) ?_ (W3.same sl) (s3.trans (ZE.of sl));rw [KT.fits,hf,Bool.and_true,zAP];exact ⟨decide_eq_true (by omega),decide_eq_true (by omega)⟩
abbrev AH:List Str:=["_law_script","_law_k","_law_left","_law_cell","_law_digits"]
theorem UR:ZC AH ["_law_script","_law_k"] (Ze M6):=Zs
theorem Fv(F:Zj K "_law_well" "_law_well" M6 f fd)(T:YG mg):ZK P w K mg base ZW 1 f fd ["_law_script","_law_k"] (WA K):=by
 refine F.ok UR (fun vs H Q E h=>?_) (fun cdv A outer s H vs Q E hr h=>?_)
 ·obtain ⟨a,ns,k,rfl,_⟩:=h;rfl
 obtain ⟨a,ns,k,rfl,hS,hn,k0,k1,q⟩:=h;have nd:=UR.nd;refine ⟨_,ZQ (Zk 2 nd (Zl Zq (Yn (ZZ ZM (ZZ ZM ZG))) (VP P4 rfl T.int QA (ZZ (Wz Wy (pv 1) ZM (YE _)) ZG)) (fun _ _=>rfl)))
  (ZQ (Zk 3 nd (Zl Zq (Zv O8 (VP PD rfl T.list Qi (ZZ (pv 0) ZG)) (Yn (ZZ ZM ZG))) (Zv Qh (pv 1) (Zy (MR rfl) rfl T.max LX (ZZ ZM (ZZ (Zy Xh rfl T.len XY (ZZ (pv 0) ZG)) ZG)))) (fun _ _=>rfl)))
  (ZQ (Zk 4 nd (Zv Q3 (Zy KL rfl T.abs KD (ZZ (pv 3) ZG)) (VP P4 rfl T.int QA (ZZ (UK (Wz Ez (Zy KL rfl T.abs KD (ZZ (pv 3) ZG)) (Zv PX ZM ZM) (YE _)) (QM (Wz PM (pv 1) (Zy Xh rfl T.len XY (ZZ (pv 0) ZG)) (YE _)))) ZG))))
  (ZU (Zg (Yn (ZZ (Zv Qh (pv 3) ZM) (ZZ (Zv Q3 ZM (pv 1)) (ZZ (pv 4) (ZZ (pv 2) ZG))))))))),?_⟩
 refine ⟨(by show 2<=sizeLine;decide),fun l1 hl1=>?_⟩
 have g1:=ZX hl1 (.lst [V.int 240,V.int 2400]);refine ⟨_,rfl,rfl,.inr ⟨_,rfl,?_⟩⟩;obtain ⟨lv,elv,hlv⟩:∃ z:Int,Xq [V.int 240,V.int 2400] (if decide (V.int k=V.int 0)=true then 1 else 0)=some (.int z)/\0<=z:=by
  split
  ·exact ⟨2400,rfl,by decide⟩
  ·exact ⟨240,rfl,by decide⟩
 refine ⟨l1,_,_,_,rfl,rfl,ZL.of ZO,elv,?_⟩;refine ⟨_,rfl,a,_,rfl,.inl (g1.seq hS),fun l2 hl2=>?_⟩;have g2:=g1.trans (ZX hl2 (.lst (ns.map V.int)));refine ⟨(by show 1<=sizeLine;decide),fun l3 hl3=>?_⟩
 have g3:=g2.trans (ZX hl3 (.lst [V.int 0]));have n23:l2≠l3:=Zb ZO hl3;refine ⟨l2,l3,_,_,rfl,rfl,(by rw [ZV n23];exact ZO),ZO,(by rw [zAD];exact nn (by show ns.length+1<=1000;omega)),fun l4 hl4=>?_⟩
 have g4:=g3.trans (ZX hl4 (.lst (ns.map V.int++[V.int 0])));refine ⟨_,rfl,_,rfl,a,_,rfl,.inl (g4.seq hS),_,_,rfl,?_⟩;have hlm:(ns.map V.int).length=ns.length:=zAD _;generalize hM:(if (((ns.map V.int).length:Nat):Int) > 1 then (((ns.map V.int).length:Nat):Int) else 1)=M
 have M1:1<=M/\M<=(ns.length:Int)+1:=by
  rw [hlm] at hM;rw [<-hM];split <;> omega
 refine ⟨_,_,rfl,rfl,by omega,?_⟩
 have i0:0<=k % M:=zBy _ (by omega)
 have i1:k % M<M:=zBc _ (by omega)
 obtain ⟨cv,ecv,mcv⟩:=Q2 (xs:=ns.map V.int++[V.int 0]) i0 (by rw [zAG,zAD,zB3];omega)
 obtain ⟨cell,rfl⟩:∃ z:Int,cv=.int z:=by
  rcases zAd.mp mcv with m | m
  ·obtain ⟨z,_,e⟩:=zAf.mp m;exact ⟨z,e.symm⟩
  ·exact ⟨0,zAR.mp m⟩
 refine ⟨l4,_,_,_,rfl,rfl,ZL.of ZO,ecv,?_⟩;have dig:∀ b:Bool,0<=(if cell<0 then -cell else cell) * (if b=true then 1 else 0):=fun b=>by
  cases b
  ·simp
  ·simp;split <;> omega
 have cm:∀(x:Int)(b:Bool),QK x (if b=true then 1 else 0):=fun x b=>.inr (by cases b <;> exact ⟨by decide,by decide⟩)
 have done:∀(z:Int)(H5:Hp),0<=z->ZB H H5->∀ l5,H5 l5=none->Q (.ref l5) (upd H5 l5 (.lst [.int (cell % 2147483647),.int (1000 * k),.int z,.int lv])):=fun z H5 z0 s5 l5 hl5=>
  q l5 _ (s5.free hl5) (s5.trans (ZX hl5 _)) ⟨_,_,_,_,ZO,zBy _ (by decide),zBc _ (by decide),z0,hlv⟩
 refine ⟨_,rfl,_,rfl,_,rfl,_,rfl,_,_,rfl,rfl,⟨by decide,by decide,by decide⟩,_,_,rfl,rfl,_,rfl,?_⟩
 refine WU (fun _=>?_) (fun _=>?_)
 ·refine ⟨_,rfl,_,rfl,a,_,rfl,.inl (g4.seq hS),_,_,rfl,rfl,.inr ⟨_,rfl,_,_,rfl,rfl,cm _ _,?_⟩⟩;refine ⟨_,rfl,_,_,rfl,rfl,(by show (0:Int)<2147483647;decide),_,rfl,_,_,rfl,rfl,.inl ⟨by decide,by decide⟩,_,rfl,_,rfl,(by show 4<=sizeLine;decide),fun l5 hl5=>?_⟩
  exact done _ _ (dig _) g4 l5 hl5
 ·refine .inr ⟨_,rfl,_,_,rfl,rfl,cm _ false,?_⟩;refine ⟨_,rfl,_,_,rfl,rfl,(by show (0:Int)<2147483647;decide),_,rfl,_,_,rfl,rfl,.inl ⟨by decide,by decide⟩,_,rfl,_,rfl,(by show 4<=sizeLine;decide),fun l5 hl5=>?_⟩
  exact done _ _ (dig false) g4 l5 hl5
theorem AW:ZC ["number"] ["number"] (Ze Ly):=Zs
theorem Aw(F:Zj K "has_few_figures" "has_few_figures" Ly f fd)(T:YG mg):ZK P w K mg base ZW 1 f fd ["number"] V1:=by
 refine F.ok AW (fun vs H Q E h=>?_) (fun cdv A outer s H vs Q E hr h=>?_)
 ·obtain ⟨i,rfl,_⟩:=h;rfl
 obtain ⟨i,rfl,q⟩:=h;refine ⟨_,ZU (Zg (Wz PM (Zy KL rfl T.abs KD (ZZ (pv 0) ZG)) (Zv PX ZM ZM) (YE _))),?_⟩;refine ⟨_,rfl,_,rfl,_,_,rfl,rfl,⟨by decide,by decide,by decide⟩,_,_,rfl,rfl,?_⟩
 have e:=Bw i;rw [<-e] at q;exact q
theorem AB:ZC ["sign"] ["sign"] (Ze Nw):=Zs
theorem ZM6(F:Zj K "is_sign" "is_sign" Nw f fd):ZK P w K mg base ZW 1 f fd ["sign"] WX:=by
 refine F.ok AB (fun vs H Q E h=>?_) (fun cdv A outer s H vs Q E hr h=>?_)
 ·obtain ⟨c,rfl,_⟩:=h;rfl
 obtain ⟨c,rfl,q⟩:=h;refine ⟨_,ZU (Zg (Ej HW HW Xf (pv 0) Xf)),?_⟩;have e1:(zA0 " ").cps.toList=[32]:=by decide +kernel
 have e2:(zA0 "~").cps.toList=[126]:=by decide +kernel
 have e:=ZKo c;refine ⟨_,rfl,_,_,rfl,rfl,_,rfl,?_⟩;refine WU (fun h1=>?_) (fun h1=>?_)
 ·refine ⟨_,_,rfl,rfl,?_⟩;have h1':(!decide ([c]<[32]))=true:=by rw [<-e1];exact h1
  rw [h1',zCN] at e;rw [<-e,<-e2] at q;exact q
 ·have h1':(!decide ([c]<[32]))=false:=by rw [<-e1];exact Bool.eq_false_iff.mpr h1
  rw [h1',zBl] at e;rw [<-e] at q;exact q
end
structure Za(K:zAA)(mg:jb)(x:Str)(st:Stmt)(ps:List Str):Prop where
 ex:∃ f fd,Zj K x x st f fd/\Zu K fd ps []/\mg x=some (.ref f)
theorem Za.of{P:Program}{w:World}{K:zAA}{mg:jb}{base:Heap}{x:Str}{st:Stmt}{ps:List Str}{k:Nat}{sp:Sp}(L:Za K mg x st ps)(h:∀ f fd,Zj K x x st f fd->ZK P w K mg base ZW k f fd ps sp):ZA P w K mg base k x ps sp:=by
 obtain ⟨f,fd,F,b,m⟩:=L.ex;exact ⟨f,fd,h f fd F,b,F.kp,m⟩
theorem NC{K:zAA}{h:Heap}{mg:jb}{x:Str}{st:Stmt}{ps:List Str}{f:Addr}{od an:Option Addr}{sl:Array (jc)}{oc kV dc pm cd ct:Value}(X:K.In h)(G:h.Ns mainGlobals mg)(a:zAY K mainGlobals x=some (some (.ref f)))(l:K.lookup f=some ⟨oc,od,.func (zA3 x x (Vg st) (WD st) (Ze st) .none kV dc pm an cd ct),sl⟩)(c:zBL K cd x=true)(k:zAm K (.ref f)=true)(hb:∀ (kV doc pm:Value) (an:Option Addr) (cdv ct:Value) (us:jd),us.length=ps.length->bindArgs (zA3 x x (Vg st) (WD st) (Ze st) .none kV doc pm an cdv ct) ⟨us,[]⟩=pure (ps.zip us):=by first | exact (fun _ _ _ _ _ _ us hl=>match us,hl with | [_],_=>rfl) | exact (fun _ _ _ _ _ _ us hl=>match us,hl with | [_,_],_=>rfl) | exact (fun _ _ _ _ _ _ us hl=>match us,hl with | [_,_,_],_=>rfl) | exact (fun _ _ _ _ _ _ us hl=>match us,hl with | [_,_,_,_],_=>rfl) | exact (fun _ _ _ _ _ _ us hl=>match us,hl with | [_,_,_,_,_],_=>rfl)):Za K mg x st ps:=
 ⟨f,_,UI (st:=st) l c k,(UI (st:=st) l c k).binds hb,zAp X G a⟩
section
variable{P:Program}{w:World}{K:zAA}{mg:jb}{base:Heap}
theorem Gi(T:YG mg)(L:Za K mg "_law_key" NH ["_law_well_here","_law_room"])(DP:ZA P w K mg base 1 "_law_pull" ["_law_well_here","_law_many"] Zp)(DG:ZA P w K mg base 2 "_law_great" ["_law_well_here","_law_bound"] Zp)(DT:ZA P w K mg base 2 "_law_text" ["_law_well_here"] X7):∀ n:Nat,ZA P w K mg base (n+2) "_law_key" ["_law_well_here","_law_room"] (Y5 n)
 | 0=>L.of fun _ _ _=>An
 | n+1=>L.of fun _ _ F=>ZNz F T DP DG DT (Gi T L DP DG DT n)
end
inductive Xl(n:Nat)(vs:je)(H:Hp)(Q:VK)(_:XK):Prop
 | mk (v:V) (t:TG) (N:Addr->Prop) (r:Nat) (_:vs=[v,.int (r:Int)]) (_:Zm N H t v) (_:t.neat) (_:r<n) (_:∀ H',ZB H H'->Q (.bl (t.fits r)) H')
inductive XL(vs:je)(H:Hp)(Q:VK)(_:XK):Prop
 | mk (v:V) (t:TG) (N:Addr->Prop) (_:vs=[v]) (_:Zm N H t v) (_:t.neat) (_:∀ H',ZB H H'->Q (.bl (t.fits 3)) H')
section
variable{P:Program}{w:World}{K:zAA}{mg:jb}{base:Heap}{f:Addr}{fd:FuncData}
theorem Ct{sp:Sp}{k:Nat}{ps:List Str}(no:∀ vs H Q E,¬ sp vs H Q E):ZK P w K mg base ZW k f fd ps sp:=
 ⟨fun vs H Q E h=>absurd h (no vs H Q E),fun A outer s H args us vs Q E _ _ _ _ h=>absurd h (no vs H Q E)⟩
theorem ZOP:ZC ["thing","room"] ["thing","room"] (Ze NL):=Zs
theorem Co{n:Nat}(F:Zj K "fits" "fits" NL f fd)(T:YG mg)(DW:ZA P w K mg base 1 "has_few_figures" ["number"] V1)(DS:ZA P w K mg base 1 "is_sign" ["sign"] WX)(DF:ZA P w K mg base (n+1) "fits" ["thing","room"] (Xl n)):ZK P w K mg base ZW (n+2) f fd ["thing","room"] (Xl (n+1)):=by
 refine F.ok ZOP (fun vs H Q E h=>?_) (fun cdv A outer s H vs Q E hr h=>?_)
 ·obtain ⟨v,t,N,r,rfl,_⟩:=h;rfl
 obtain ⟨v,t,N,r,rfl,hv,hq,hn,k⟩:=h;have hr1:=hr.mono (show 1<=n+1 by lia)
 obtain ⟨t1,m1⟩:=T.signs;obtain ⟨t2,m2⟩:=T.things;refine ⟨_,ZQ (Zz (XH (Zy VW rfl T.isi WM (ZZ (pv 0) (ZZ (VC (v:=.ty "bool") rfl T.bool KB rfl) ZG)))) (ZU (Zg XT)) Z0)
  (ZQ (Zz (XH (Zy VW rfl T.isi WM (ZZ (pv 0) (ZZ (VC (v:=.ty "int") rfl T.int QA rfl) ZG)))) (ZU (Zg (Zh DW hr1 (ZZ (pv 0) ZG)))) Z0)
  (ZQ (Zz (XH (Zy VW rfl T.isi WM (ZZ (pv 0) (ZZ (VC (v:=.ty "str") rfl T.str OM rfl) ZG))))
   (ZU (Zg (UK (Wz PY (Zy Gr rfl T.len XY (ZZ (pv 0) ZG)) (WE (v:=.int 40) rfl m1 ⟨_,rfl⟩) (YE _))
    (QM (Zy (No rfl) rfl T.all O2 (ZZ (VR [] [] rfl (ZNw (pv 0)) (fun _ _ _ _ _=>VU) (fun _ _ _ _ _=>Zh DS hr1 (ZZ (pv 0) ZG)) trivial) ZG)))))) Z0)
  (ZQ (Zz (XH (Zy VW rfl T.isi WM (ZZ (pv 0) (ZZ (VC (v:=.ty "tuple") rfl T.tuple Qw rfl) ZG))))
   (ZU (Zg (UK (Wz Qb (pv 1) ZM (YE _)) (UK (Wz PY (Zy Xh rfl T.len XY (ZZ (pv 0) ZG)) (WE (v:=.int 4) rfl m2 ⟨_,rfl⟩) (YE _))
    (QM (Zy (No rfl) rfl T.all O2 (ZZ (VR [1] ["room"] rfl (LA (pv 0)) (fun _ _ _ _ _=>VU) (fun _ _ _ _ _=>Zh DF hr (ZZ (pv 0) (ZZ (Zv Vo (pv 1) ZM) ZG))) ⟨rfl,.inl rfl,rfl,trivial⟩) ZG))))))) Z0)
  (ZU (Zg XT))))),?_⟩
 cases t with
 | int i=>
  have ev:v=.int i:=by rw [Zm] at hv;exact hv
  subst ev;refine ⟨_,rfl,_,_,_,_,rfl,.int i,Lv,_,rfl,Zo ?_⟩;refine ⟨_,rfl,_,_,_,_,rfl,.int i,OQ,_,rfl,Zw ?_⟩;have kk:=k H (ZB.refl H);rw [TG.fits] at kk;exact ⟨_,rfl,i,rfl,kk⟩
 | str x=>
  have ev:v=.str x:=by rw [Zm] at hv;exact hv
  subst ev;have hlen:x.length<=1000:=by rw [TG.neat] at hq;exact hq
  refine ⟨_,rfl,_,_,_,_,rfl,.str x,ZNS,_,rfl,Zo ?_⟩;refine ⟨_,rfl,_,_,_,_,rfl,.str x,NX,_,rfl,Zo ?_⟩;refine ⟨_,rfl,_,_,_,_,rfl,.str x,Py,_,rfl,Zw ?_⟩;refine ⟨_,rfl,x,rfl,nn hlen,_,_,rfl,rfl,_,rfl,?_⟩;refine WU (fun c=>?_) (fun c=>?_)
  ·have c40:x.length<=40:=by have:=of_decide_eq_true c;lia
   refine ⟨_,rfl,x,rfl,?_⟩;have hsz:x.cps.size<=40:=c40;refine VV (n:=x.cps.size) (fun i z=>∃ c,x.cps[i]? = some c/\z=.str ⟨#[c]⟩) (fun D i ys H3=>ZB H H3/\H D=none/\ys=((x.cps.toList.take i).map UJ).map V.bl) (XG (by lia))
    (fun D i ys H3 hi _=>hi) (fun D i ys H3 z H4 hi _ hy=>hy) (fun D ys H3 _=>rfl) (fun D hD=>⟨ZX hD _,hD,rfl⟩) (fun D i ys H3 z eD hl hi hz hP R hR=>?_) (fun D ys H3 eD hP=>?_)
   ·obtain ⟨c,hc,rfl⟩:=hz;obtain ⟨s3,nD,rfl⟩:=hP;refine ⟨_,rfl,c,rfl,?_⟩;refine hR _ H3 eD ⟨fun b o e=>by rw [ZV (Zb e nD)];exact s3 b o e,nD,?_⟩
    have hc':x.cps.toList[i]? = some c:=by simpa using hc
    rw [zAi,hc'];simp
   ·obtain ⟨s3,nD,rfl⟩:=hP;refine ⟨D,_,rfl,ZL.of eD,?_⟩;have kk:=k H3 s3;have et:(x.cps.toList.take x.cps.size)=x.cps.toList:=zAS (by simp)
    have ea:(x.cps.toList.map UJ).all id=(TG.str x).fits r:=by
     rw [TG.fits,zCZ];unfold Um;rw [decide_eq_true c40,zCN];rfl
    rw [et,ea];exact kk
  ·have c40:¬ x.length<=40:=fun z=>c (decide_eq_true (by lia))
   have kk:=k H (ZB.refl H);rw [TG.fits] at kk;unfold Um at kk;rw [decide_eq_false c40,zBl] at kk;exact kk
 | tup l=>
  rw [Zm] at hv;obtain ⟨a,vs,rfl,ea,hvs⟩:=hv;have hl:=hvs.length;rw [TG.neat] at hq;obtain ⟨hq1,hq2⟩:=hq;have ty:Yy K H (.ref a) (.type "tuple"):=.tup ea;refine ⟨_,rfl,_,_,_,_,rfl,ty,Ea,_,rfl,Zo ?_⟩;refine ⟨_,rfl,_,_,_,_,rfl,ty,Oq,_,rfl,Zo ?_⟩;refine ⟨_,rfl,_,_,_,_,rfl,ty,NW,_,rfl,Zo ?_⟩;refine ⟨_,rfl,_,_,_,_,rfl,ty,Md,_,rfl,Zw ?_⟩;refine ⟨_,rfl,_,_,rfl,rfl,_,rfl,?_⟩;refine WU (fun c1=>?_) (fun c1=>?_)
  ·have r0:0<r:=by
    have:=of_decide_eq_true c1
    lia
   refine ⟨_,rfl,a,vs,rfl,.inr (Zn.of ea),_,_,rfl,rfl,_,rfl,?_⟩;refine WU (fun c2=>?_) (fun c2=>?_)
   ·have l4:l.length<=4:=by
     have:=of_decide_eq_true c2
     lia
    refine ⟨_,rfl,a,rfl,⟨vs,Zn.of ea⟩,?_⟩;refine VV (n:=vs.length) (fun i z=>vs[i]? = some z) (fun D i ys H3=>ZB H H3/\H D=none/\ys=((l.take i).map fun t=>t.fits (r - 1)).map V.bl) (XG (by lia))
     (fun D i ys H3 hi hP=>⟨vs,vs[i],Zn.of (hP.1 _ _ ea),by simp [hi]⟩) (fun D i ys H3 z H4 hi hP hy=>⟨hy.1,hy.2 vs (Zn.of (hP.1 _ _ ea))⟩) (fun D ys H3 hP=>⟨vs,Zn.of (hP.1 _ _ ea),zAH _⟩)
     (fun D hD=>⟨ZX hD _,hD,rfl⟩) (fun D i ys H3 z eD hl' hi hz hP R hR=>?_) (fun D ys H3 eD hP=>?_)
    ·obtain ⟨s3,nD,rfl⟩:=hP;obtain ⟨t,et,kt⟩:=hvs.get hz;have er:(r:Int) - 1=((r - 1:Nat):Int):=by lia
     refine ⟨_,rfl,_,rfl,_,_,rfl,rfl,z,t,N,r - 1,congrArg (fun y=>[z,V.int y]) er,kt.mono (XS.same s3) _ _,Gf hq2 (zAJ et),by lia,fun H4 s4=>?_⟩
     refine hR _ H4 (s4 D _ eD) ⟨fun b o e=>by rw [ZV (Zb e nD)];exact s4 b o (s3 b o e),nD,?_⟩
     rw [zAi,et];simp
    ·obtain ⟨s3,nD,rfl⟩:=hP;refine ⟨D,_,rfl,ZL.of eD,?_⟩;have kk:=k H3 s3;rw [TG.fits,decide_eq_true r0,zCN,decide_eq_true l4,zCN,HD] at kk;have et:l.take vs.length=l:=zAS (by lia)
     rw [et,zCZ];exact kk
   ·have l4:¬ l.length<=4:=fun z=>c2 (decide_eq_true (by lia))
    have kk:=k H (ZB.refl H);rw [TG.fits,decide_eq_false l4,zBl,zDK] at kk;exact kk
  ·have r0:¬ 0<r:=fun z=>c1 (decide_eq_true (by lia))
   have kk:=k H (ZB.refl H);rw [TG.fits,decide_eq_false r0,zBl] at kk;exact kk
 | odd n'=>
  rw [Zm] at hv;have ty:Yy K H v (.type n'):=hv.ty;obtain ⟨b,kb,kr⟩:=Aj (K:=K) hv;have kk:=k H (ZB.refl H);rw [TG.fits] at kk
  cases b with
  | true=>exact ⟨_,rfl,_,_,_,_,rfl,ty,kb,_,rfl,Zw kk⟩
  | false=>
   obtain ⟨k1,k2,k3⟩:=kr rfl;refine ⟨_,rfl,_,_,_,_,rfl,ty,kb,_,rfl,Zo ?_⟩;refine ⟨_,rfl,_,_,_,_,rfl,ty,k1,_,rfl,Zo ?_⟩;refine ⟨_,rfl,_,_,_,_,rfl,ty,k2,_,rfl,Zo ?_⟩;refine ⟨_,rfl,_,_,_,_,rfl,ty,k3,_,rfl,Zo ?_⟩;exact kk
theorem JG(T:YG mg)(L:Za K mg "fits" NL ["thing","room"])(DW:ZA P w K mg base 1 "has_few_figures" ["number"] V1)(DS:ZA P w K mg base 1 "is_sign" ["sign"] WX):∀ n:Nat,ZA P w K mg base (n+1) "fits" ["thing","room"] (Xl n)
 | 0=>L.of fun _ _ _=>Ct fun vs H Q E h=>by obtain ⟨v,t,N,r,_,_,_,h1,_⟩:=h;lia
 | n+1=>L.of fun _ _ F=>Co F T DW DS (JG T L DW DS n)
theorem Fc:ZC ["thing"] ["thing"] (Ze La):=Zs
theorem A8(F:Zj K "is_key" "is_key" La f fd)(T:YG mg)(DF:ZA P w K mg base 5 "fits" ["thing","room"] (Xl 4)):ZK P w K mg base ZW 6 f fd ["thing"] XL:=by
 refine F.ok Fc (fun vs H Q E h=>?_) (fun cdv A outer s H vs Q E hr h=>?_)
 ·obtain ⟨v,t,N,rfl,_⟩:=h;rfl
 obtain ⟨v,t,N,rfl,hv,hq,k⟩:=h;obtain ⟨t1,m1⟩:=T.deep;refine ⟨_,ZU (Zg (Zh DF hr (ZZ (pv 0) (ZZ (WE (v:=.int 3) rfl m1 ⟨_,rfl⟩) ZG)))),?_⟩;exact ⟨_,rfl,v,t,N,3,rfl,hv,hq,by decide,k⟩
end
inductive Vn(n:Nat)(vs:je)(H:Hp)(Q:VK)(_:XK):Prop
 | mk (v:V) (t:KT) (q:Nat) (_:vs=[v]) (_:ZD H t v) (_:t.fits q=true) (_:t.depth<n) (_:∀(v':V)(H':Hp),ZD H' t.st v'->ZB H H'->Q v' H')
inductive Y2(vs:je)(H:Hp)(Q:VK)(_:XK):Prop
 | mk (v u:V) (a b:KT) (_:vs=[v,u]) (_:ZD H a v) (_:ZD H b u) (_:a.fits 3=true) (_:b.fits 3=true) (_:∀ H',ZB H H'->Q (.bl (a.lt b)) H')
section
variable{P:Program}{w:World}{K:zAA}{mg:jb}{base:Heap}{f:Addr}{fd:FuncData}
theorem EN:ZC ["key"] ["key"] (Ze Oj):=Zs
theorem G3{k:Nat}:ZK P w K mg base ZW k f fd ["key"] (Vn 0):=by
 have no:∀ vs H Q E,¬ Vn 0 vs H Q E:=fun vs H Q E h=>by
  obtain ⟨v,t,q,_,_,_,h1,_⟩:=h
  lia
 exact ⟨fun vs H Q E h=>absurd h (no vs H Q E),fun A outer s H args us vs Q E _ _ _ _ h=>absurd h (no vs H Q E)⟩
theorem B5{n:Nat}(F:Zj K "standing" "standing" Oj f fd)(T:YG mg)(DS:ZA P w K mg base (n+1) "standing" ["key"] (Vn n)):ZK P w K mg base ZW (n+2) f fd ["key"] (Vn (n+1)):=by
 refine F.ok EN (fun vs H Q E h=>?_) (fun cdv A outer s H vs Q E hr h=>?_)
 ·obtain ⟨v,t,q,rfl,_⟩:=h;rfl
 obtain ⟨v,t,q,rfl,hv,hq,hn,k⟩:=h;refine ⟨_,ZQ (Zz (XH (Zy VW rfl T.isi WM (ZZ (pv 0) (ZZ (VC (v:=.ty "int") rfl T.int QA rfl) ZG)))) (ZU (Zg (Yq (ZZ ZM (ZZ (pv 0) ZG))))) Z0)
  (ZQ (Zz (XH (Zy VW rfl T.isi WM (ZZ (pv 0) (ZZ (VC (v:=.ty "str") rfl T.str OM rfl) ZG)))) (ZU (Zg (Yq (ZZ ZM (ZZ (pv 0) ZG))))) Z0)
  (ZU (Zg (Yq (ZZ ZM (ZZ (VP NM rfl T.tuple Qw (ZZ (VR [] [] rfl (LA (pv 0)) (fun _ _ _ _ _=>VU) (fun _ _ _ _ _=>Zh DS hr (ZZ (pv 0) ZG)) trivial) ZG)) ZG)))))),?_⟩
 cases t with
 | int i=>
  have ev:v=.int i:=by rw [ZD] at hv;exact hv
  subst ev;refine ⟨_,rfl,_,_,_,_,rfl,hv.ty,OQ,_,rfl,Zw ?_⟩;refine ⟨_,rfl,(by show 2<=sizeLine;decide),fun p hp=>?_⟩
  refine k _ _ ?_ (ZX hp _);rw [KT.st];exact .tup ZO (.cons (.int 0) (.cons (.int i) .nil))
 | str x=>
  have ev:v=.str x:=by rw [ZD] at hv;exact hv
  subst ev;refine ⟨_,rfl,_,_,_,_,rfl,hv.ty,NX,_,rfl,Zo ?_⟩;refine ⟨_,rfl,_,_,_,_,rfl,hv.ty,Py,_,rfl,Zw ?_⟩;refine ⟨_,rfl,(by show 2<=sizeLine;decide),fun p hp=>?_⟩
  refine k _ _ ?_ (ZX hp _);rw [KT.st];exact .tup ZO (.cons (.int 1) (.cons (.str x) .nil))
 | tup l=>
  have hv':=hv;rw [ZD] at hv';obtain ⟨a,vs,rfl,ea,hvs⟩:=hv';have hl:=hvs.length;rw [KT.fits,zAP,zAP] at hq;obtain ⟨hq0,hq1,hq2⟩:=hq;have hl4:l.length<=4:=of_decide_eq_true hq1;rw [KT.depth] at hn;refine ⟨_,rfl,_,_,_,_,rfl,hv.ty,Oq,_,rfl,Zo ?_⟩;refine ⟨_,rfl,_,_,_,_,rfl,hv.ty,NW,_,rfl,Zo ?_⟩;refine ⟨_,rfl,a,rfl,⟨vs,Zn.of ea⟩,?_⟩;refine VV (n:=vs.length) (fun i z=>vs[i]? = some z) (fun D i ys H3=>ZB H H3/\H D=none/\KeysAt H3 ((l.take i).map KT.st) ys) (XG (by lia))
   (fun D i ys H3 hi hP=>⟨vs,vs[i],Zn.of (hP.1 _ _ ea),by simp [hi]⟩) (fun D i ys H3 z H4 hi hP hy=>⟨hy.1,hy.2 vs (Zn.of (hP.1 _ _ ea))⟩) (fun D ys H3 hP=>⟨vs,Zn.of (hP.1 _ _ ea),zAH _⟩)
   (fun D hD=>⟨ZX hD _,hD,.nil⟩) (fun D i ys H3 z eD hl' hi hz hP R hR=>?_) (fun D ys H3 eD hP=>?_)
  ·obtain ⟨s3,nD,hys⟩:=hP;obtain ⟨t,et,kt⟩:=hvs.get hz;have mt:=zAJ et;have htq:t.fits (q - 1)=true:=by
    rw [Ob] at hq2;exact zAO.mp hq2 t mt
   have hdt:=Qx mt;refine ⟨_,rfl,z,t,q - 1,rfl,kt.mono (ZB.tups s3) _ _,htq,by lia,fun v' H4 k4 s4=>?_⟩
   have eD4:=s4 D _ eD;have tD:Z2 H4 (upd H4 D (.lst (ys++[v']))):=(ZE.refl D H4).upd.tups eD4;refine hR v' H4 eD4 ⟨fun b o e=>by rw [ZV (Zb e nD)];exact s4 b o (s3 b o e),nD,?_⟩
   rw [zAi,et,zAX];exact ((hys.mono (ZB.tups s4) _ _).append (.cons k4 .nil)).mono tD _ _
  ·obtain ⟨s3,nD,hys⟩:=hP;have et:l.take vs.length=l:=zAS (by lia)
   rw [et] at hys;have hyl:=hys.length;rw [zAD] at hyl;refine ⟨D,ys,rfl,.inl ⟨ZL.of eD,fun p1 hp1=>?_⟩⟩;have g1:=ZX hp1 (.tup ys);refine ⟨(by show 2<=sizeLine;decide),fun p2 hp2=>?_⟩
   have g2:=ZX hp2 (.tup [.int 2,.ref p1]);refine k _ _ ?_ ((s3.trans g1).trans g2);rw [KT.st,Jd];exact .tup ZO (.cons (.int 2) (.cons (.tup (g2 _ _ ZO) (hys.mono (ZB.tups (g1.trans g2)) _ _)) .nil))
theorem HE(T:YG mg)(L:Za K mg "standing" Oj ["key"]):∀ n:Nat,ZA P w K mg base (n+1) "standing" ["key"] (Vn n)
 | 0=>L.of fun _ _ _=>G3
 | n+1=>L.of fun _ _ F=>B5 F T (HE T L n)
theorem Ed:ZC ["one","other"] ["one","other"] (Ze Lu):=Zs
theorem E3(F:Zj K "ahead" "ahead" Lu f fd)(DS:ZA P w K mg base 6 "standing" ["key"] (Vn 5)):ZK P w K mg base ZW 7 f fd ["one","other"] Y2:=by
 refine F.ok Ed (fun vs H Q E h=>?_) (fun cdv A outer s H vs Q E hr h=>?_)
 ·obtain ⟨v,u,a,b,rfl,_⟩:=h;rfl
 obtain ⟨v,u,a,b,rfl,ha,hb,fa,fb,k⟩:=h;refine ⟨_,ZU (Zg (Wz (IJ hr) (Zh DS hr (ZZ (pv 0) ZG)) (Zh DS hr (ZZ (pv 1) ZG)) (YE _))),?_⟩;have da:=UC a 3 fa;have db:=UC b 3 fb;have ds:=GF a;refine ⟨_,rfl,v,a,3,rfl,ha,fa,by lia,fun v1 H1 k1 s1=>?_⟩
 refine ⟨_,rfl,u,b,3,rfl,hb.mono (ZB.tups s1) _ _,fb,by lia,fun v2 H2 k2 s2=>?_⟩
 refine ⟨a.st,b.st,k1.mono (ZB.tups s2) _ _,k2,J7 a b,by lia,?_⟩
 rw [HB];exact k H2 (s1.trans s2)
end
mutual
def KT.wide:KT->Nat->Bool
 | .int _,_=>true
 | .str _,_=>true
 | .tup l,r=>decide (0<r)&&(decide (l.length<=100)&&wideL l (r - 1))
def wideL:List KT->Nat->Bool
 | [],_=>true
 | t :: l,r=>t.wide r&&wideL l r
end
theorem Nx:∀(l:List KT)(r:Nat),wideL l r=l.all (·.wide r)
 | [],r=>by rw [wideL];rfl
 | t :: l,r=>by rw [wideL,Nx l r];rfl
mutual
theorem Ln:∀(t:KT)(r:Nat),t.fits r=true->t.wide r=true
 | .int _,_,_=>by rw [KT.wide]
 | .str _,_,_=>by rw [KT.wide]
 | .tup l,r,h=>by
  rw [KT.fits,zAP,zAP] at h;rw [KT.wide,zAP,zAP];have:=of_decide_eq_true h.2.1;exact ⟨h.1,decide_eq_true (by lia),wideL_of l (r - 1) h.2.2⟩
theorem wideL_of:∀(l:List KT)(r:Nat),fitsL l r=true->wideL l r=true
 | [],_,_=>by rw [wideL]
 | t :: l,r,h=>by
  rw [fitsL,zAP] at h;rw [wideL,zAP];exact ⟨Ln t r h.1,wideL_of l r h.2⟩
end
section
variable{P:Program}{w:World}{K:zAA}{mg:jb}{base:Heap}{f:Addr}{fd:FuncData}
theorem Gh{sp:Sp}{k:Nat}{ps:List Str}(no:∀ vs H Q E,¬ sp vs H Q E):ZK P w K mg base ZW k f fd ps sp:=
 ⟨fun vs H Q E h=>absurd h (no vs H Q E),fun A outer s H args us vs Q E _ _ _ _ h=>absurd h (no vs H Q E)⟩
theorem AJ:ZC ["_law_found","_law_due"] ["_law_found","_law_due"] (Ze Ni):=Zs
end
mutual
def KT.rk:KT->KT
 | .int i=>.tup [.int 0,.int i,.str "",.tup []]
 | .str x=>.tup [.int 1,.int 0,.str x,.tup []]
 | .tup l=>.tup [.int 2,.int 0,.str "",.tup (rkL l)]
def rkL:List KT->List KT
 | []=>[]
 | t :: l=>t.rk :: rkL l
end
theorem Kj:∀ l:List KT,rkL l=l.map KT.rk
 | []=>by rw [rkL];rfl
 | t :: l=>by rw [rkL,Kj l];rfl
mutual
theorem IE:∀ a b:KT,a.rk.eqb b.rk=a.eqb b
 | .int i,.int j=>by simp [KT.rk,KT.eqb,eqbL]
 | .str x,.str y=>by simp [KT.rk,KT.eqb,eqbL]
 | .tup l,.tup m=>by simp [KT.rk,KT.eqb,eqbL,eqbL_rk l m]
 | .int _,.str _=>by simp [KT.rk,KT.eqb,eqbL]
 | .int _,.tup _=>by simp [KT.rk,KT.eqb,eqbL]
 | .str _,.int _=>by simp [KT.rk,KT.eqb,eqbL]
 | .str _,.tup _=>by simp [KT.rk,KT.eqb,eqbL]
 | .tup _,.int _=>by simp [KT.rk,KT.eqb,eqbL]
 | .tup _,.str _=>by simp [KT.rk,KT.eqb,eqbL]
theorem eqbL_rk:∀ l m:List KT,eqbL (rkL l) (rkL m)=eqbL l m
 | [],[]=>by simp [rkL,eqbL]
 | a :: l,b :: m=>by simp [rkL,eqbL,IE a b,eqbL_rk l m]
 | [],_ :: _=>by simp [rkL,eqbL]
 | _ :: _,[]=>by simp [rkL,eqbL]
end
mutual
theorem Mg:∀ a b:KT,a.rk.cmp b.rk=true
 | .int i,.int j=>by simp [KT.rk,KT.eqb,KT.cmp,cmpL,eqbL]
 | .str x,.str y=>by simp [KT.rk,KT.eqb,KT.cmp,cmpL,eqbL]
 | .tup l,.tup m=>by simp [KT.rk,KT.eqb,KT.cmp,cmpL,cmpL_rk l m]
 | .int _,.str _=>by simp [KT.rk,KT.eqb,KT.cmp,cmpL]
 | .int _,.tup _=>by simp [KT.rk,KT.eqb,KT.cmp,cmpL]
 | .str _,.int _=>by simp [KT.rk,KT.eqb,KT.cmp,cmpL]
 | .str _,.tup _=>by simp [KT.rk,KT.eqb,KT.cmp,cmpL]
 | .tup _,.int _=>by simp [KT.rk,KT.eqb,KT.cmp,cmpL]
 | .tup _,.str _=>by simp [KT.rk,KT.eqb,KT.cmp,cmpL]
theorem cmpL_rk:∀ l m:List KT,cmpL (rkL l) (rkL m)=true
 | [],_=>by simp [rkL,cmpL]
 | _ :: _,[]=>by simp [rkL,cmpL]
 | a :: l,b :: m=>by
  rw [rkL,rkL,cmpL,cmpL_rk l m,Mg a b];split <;> rfl
end
mutual
theorem Lj:∀ a b:KT,a.rk.plt b.rk=a.lt b
 | .int i,.int j=>by
  simp only [KT.rk,KT.eqb,KT.plt,pltL,eqbL,KT.lt,beq_self_eq_true,if_true];by_cases h:i=j
  ·subst h;simp
  ·simp [h]
 | .str x,.str y=>by
  simp only [KT.rk,KT.eqb,KT.plt,pltL,eqbL,KT.lt,beq_self_eq_true,if_true];by_cases h:x=y
  ·subst h;simp
  ·simp [h]
 | .tup l,.tup m=>by
  simp only [KT.rk,KT.eqb,KT.plt,pltL,KT.lt,beq_self_eq_true,if_true,eqbL_rk,pltL_rk l m]
  cases h:eqbL l m with
  | true=>rw [if_pos rfl,JF h]
  | false=>rw [if_neg zAF]
 | .int _,.str _=>by simp [KT.rk,KT.eqb,KT.plt,pltL,KT.lt]
 | .int _,.tup _=>by simp [KT.rk,KT.eqb,KT.plt,pltL,KT.lt]
 | .str _,.int _=>by simp [KT.rk,KT.eqb,KT.plt,pltL,KT.lt]
 | .str _,.tup _=>by simp [KT.rk,KT.eqb,KT.plt,pltL,KT.lt]
 | .tup _,.int _=>by simp [KT.rk,KT.eqb,KT.plt,pltL,KT.lt]
 | .tup _,.str _=>by simp [KT.rk,KT.eqb,KT.plt,pltL,KT.lt]
theorem pltL_rk:∀ l m:List KT,pltL (rkL l) (rkL m)=ltL l m
 | [],[]=>by simp [rkL,pltL,ltL]
 | [],_ :: _=>by simp [rkL,pltL,ltL]
 | _ :: _,[]=>by simp [rkL,pltL,ltL]
 | a :: l,b :: m=>by rw [rkL,rkL,pltL,ltL,IE a b,pltL_rk l m,Lj a b]
end
mutual
theorem Pz:∀ t:KT,t.rk.depth<=2 * t.depth+2
 | .int i=>by simp [KT.rk,KT.depth,depthL]
 | .str x=>by simp [KT.rk,KT.depth,depthL]
 | .tup l=>by
  have:=depthL_rk l;simp only [KT.rk,KT.depth,depthL]
  lia
theorem depthL_rk:∀ l:List KT,depthL (rkL l)<=2 * depthL l+2
 | []=>by simp [rkL,depthL]
 | t :: l=>by
  have a:=Pz t;have b:=depthL_rk l;rw [rkL,depthL,depthL]
  lia
end
section
variable{P:Program}{w:World}{K:zAA}{mg:jb}{base:Heap}{f:Addr}{fd:FuncData}
inductive Yx(n:Nat)(vs:je)(H:Hp)(Q:VK)(_:XK):Prop
 | mk (v:V) (t:KT) (q:Nat) (_:vs=[v]) (_:ZD H t v) (_:t.fits q=true) (_:t.depth<n) (_:∀(v':V)(H':Hp),ZD H' t.rk v'->ZB H H'->Q v' H')
theorem EA:ZC ["_law_spot"] ["_law_spot"] (Ze Nl):=Zs
theorem ZM5{n:Nat}(F:Zj K "_law_rank" "_law_rank" Nl f fd)(T:YG mg)(DS:ZA P w K mg base (n+1) "_law_rank" ["_law_spot"] (Yx n)):ZK P w K mg base ZW (n+2) f fd ["_law_spot"] (Yx (n+1)):=by
 refine F.ok EA (fun vs H Q E h=>(by obtain ⟨_,_,_,rfl,_⟩:=h;rfl)) (fun cdv A outer s H vs Q E hr h=>?_)
 obtain ⟨v,t,q,rfl,hv,hq,hn,k⟩:=h;refine ⟨_,ZQ (Zz (XH (Zy VW rfl T.isi WM (ZF (pv 0) (ZF (VC (v:=.ty "int") rfl T.int QA rfl) ZG)))) (ZU (Zg (Yq (Vd ZM (pv 0) Xf (Yq ZG))))) Z0)
  (ZQ (Zz (XH (Zy VW rfl T.isi WM (ZF (pv 0) (ZF (VC (v:=.ty "str") rfl T.str OM rfl) ZG)))) (ZU (Zg (Yq (Vd ZM ZM (pv 0) (Yq ZG))))) Z0)
  (ZU (Zg (Yq (Vd ZM ZM Xf (VP NM rfl T.tuple Qw (ZF (VR [] [] rfl (LA (pv 0)) (fun _ _ _ _ _=>VU) (fun _ _ _ _ _=>Zh DS hr (ZF (pv 0) ZG)) trivial) ZG))))))),?_⟩
 cases t with
 | int i=>
  have ev:v=.int i:=by rw [ZD] at hv;exact hv
  subst ev;refine ⟨_,rfl,_,_,_,_,rfl,hv.ty,OQ,_,rfl,Zw ?_⟩;refine ⟨_,rfl,(by show 0<=sizeLine;decide),fun p0 h0=>⟨(by show 4<=sizeLine;decide),fun p hp=>?_⟩⟩
  have g0:=ZX h0 (.tup []);have g1:=ZX hp (.tup [.int 0,.int i,.str "",.ref p0]);refine k _ _ ?_ (g0.trans g1);rw [KT.rk];exact .tup ZO (.cons (.int 0) (.cons (.int i) (.cons (.str _) (.cons (.tup (g1 _ _ ZO) .nil) .nil))))
 | str x=>
  have ev:v=.str x:=by rw [ZD] at hv;exact hv
  subst ev;refine ⟨_,rfl,_,_,_,_,rfl,hv.ty,NX,_,rfl,Zo ?_⟩;refine ⟨_,rfl,_,_,_,_,rfl,hv.ty,Py,_,rfl,Zw ?_⟩;refine ⟨_,rfl,(by show 0<=sizeLine;decide),fun p0 h0=>⟨(by show 4<=sizeLine;decide),fun p hp=>?_⟩⟩
  have g0:=ZX h0 (.tup []);have g1:=ZX hp (.tup [.int 1,.int 0,.str x,.ref p0]);refine k _ _ ?_ (g0.trans g1);rw [KT.rk];exact .tup ZO (.cons (.int 1) (.cons (.int 0) (.cons (.str x) (.cons (.tup (g1 _ _ ZO) .nil) .nil))))
 | tup l=>
  have hv':=hv;rw [ZD] at hv';obtain ⟨a,vs,rfl,ea,hvs⟩:=hv';have hl:=hvs.length;rw [KT.fits,zAP,zAP] at hq;obtain ⟨hq0,hq1,hq2⟩:=hq;have hl4:l.length<=4:=of_decide_eq_true hq1;rw [KT.depth] at hn;refine ⟨_,rfl,_,_,_,_,rfl,hv.ty,Oq,_,rfl,Zo ?_⟩;refine ⟨_,rfl,_,_,_,_,rfl,hv.ty,NW,_,rfl,Zo ?_⟩;refine ⟨_,rfl,a,rfl,⟨vs,Zn.of ea⟩,?_⟩;refine VV (n:=vs.length) (fun i z=>vs[i]? = some z) (fun D i ys H3=>ZB H H3/\H D=none/\KeysAt H3 ((l.take i).map KT.rk) ys) (XG (by lia))
   (fun D i ys H3 hi hP=>⟨vs,vs[i],Zn.of (hP.1 _ _ ea),by simp [hi]⟩) (fun D i ys H3 z H4 hi hP hy=>⟨hy.1,hy.2 vs (Zn.of (hP.1 _ _ ea))⟩) (fun D ys H3 hP=>⟨vs,Zn.of (hP.1 _ _ ea),zAH _⟩)
   (fun D hD=>⟨ZX hD _,hD,.nil⟩) (fun D i ys H3 z eD hl' hi hz hP R hR=>?_) (fun D ys H3 eD hP=>?_)
  ·obtain ⟨s3,nD,hys⟩:=hP;obtain ⟨t,et,kt⟩:=hvs.get hz;have mt:=zAJ et;have htq:t.fits (q - 1)=true:=by
    rw [Ob] at hq2;exact zAO.mp hq2 t mt
   have hdt:=Qx mt;refine ⟨_,rfl,z,t,q - 1,rfl,kt.mono (ZB.tups s3) _ _,htq,by lia,fun v' H4 k4 s4=>?_⟩
   have eD4:=s4 D _ eD;have tD:Z2 H4 (upd H4 D (.lst (ys++[v']))):=(ZE.refl D H4).upd.tups eD4;refine hR v' H4 eD4 ⟨fun b o e=>by rw [ZV (Zb e nD)];exact s4 b o (s3 b o e),nD,?_⟩
   rw [zAi,et,zAX];exact ((hys.mono (ZB.tups s4) _ _).append (.cons k4 .nil)).mono tD _ _
  ·obtain ⟨s3,nD,hys⟩:=hP;have et:l.take vs.length=l:=zAS (by lia)
   rw [et] at hys;have hyl:=hys.length;rw [zAD] at hyl;refine ⟨D,ys,rfl,.inl ⟨ZL.of eD,fun p1 hp1=>?_⟩⟩;have g1:=ZX hp1 (.tup ys);refine ⟨(by show 4<=sizeLine;decide),fun p2 hp2=>?_⟩
   have g2:=ZX hp2 (.tup [.int 2,.int 0,.str "",.ref p1]);refine k _ _ ?_ ((s3.trans g1).trans g2);rw [KT.rk,Kj];exact .tup ZO (.cons (.int 2) (.cons (.int 0) (.cons (.str _) (.cons (.tup (g2 _ _ ZO) (hys.mono (ZB.tups (g1.trans g2)) _ _)) .nil))))
theorem IL(T:YG mg)(L:Za K mg "_law_rank" Nl ["_law_spot"]):∀ n:Nat,ZA P w K mg base (n+1) "_law_rank" ["_law_spot"] (Yx n)
 | 0=>L.of fun _ _ _=>Gh fun vs H Q E h=>by obtain ⟨v,t,q,_,_,_,h1,_⟩:=h;lia
 | n+1=>L.of fun _ _ F=>ZM5 F T (IL T L n)
end
end Tw
namespace Tw
open PySem PySem.Spec L2 PyProof.Rows
theorem Nt:Kg KT.rk:=⟨Lj,Mg,3,fun t=>by cases t <;> (rw [KT.rk];exact ⟨_,_,rfl,rfl⟩)⟩
def Yg(ts:List KT):Prop:=ts.Pairwise fun a b=>a.lt b=true
theorem JD{rs:List KT}(nd:rs.Nodup)(h:rs.Pairwise fun a b=>b.lt a=false):Yg rs:=by
 induction rs with
 | nil=>exact .nil
 | cons a rs ih=>
  rw [zBU] at nd;rw [zA7] at h;refine zA7.mpr ⟨fun b hb=>?_,ih nd.2 h.2⟩
  cases q:a.lt b with
  | true=>rfl
  | false=>
   have e:=NO a b q (h.1 b hb);exact absurd (e ▸ hb) nd.1
theorem KZ{k:Nat}{A:Around}(r:ZY k A):A.units+4<cLine:=by have:=r.un;lia
theorem Ou{p D:Addr}{H H':Hp}(s:ZE p H H')(w:ZI H' p)(n:H' D=none):H D=none:=by
 cases e:H D with
 | none=>rfl
 | some o=>
  by_cases h:D=p
  ·subst h;obtain ⟨xs,e'⟩:=w.some;rw [n] at e';cases e'
  ·rw [s D o e h] at n;cases n
section
variable{P:Program}{w:World}{K:zAA}{mg:jb}{base:Heap}{f:Addr}{fd:FuncData}
inductive Vb(vs:je)(H:Hp)(Q:VK)(_:XK):Prop
 | mk (p:Addr) (n:Nat) (_:vs=[.ref p,.int (n:Int)]) (_:ZI H p) (_:n<64) (_:∀(D:Addr)(ws:je)(ts:List KT)(H':Hp),H D=none->H' D=some (.lst ws)->KeysAt H' ts ws->(∀ t∈ts,t.fits 3=true)->Yg ts->ts.length<=n->ZI H' p->ZE p H H'->Q (.ref D) H')
theorem Uc:ZC ["_law_well_here","_law_many","_law_found","_law_j"] ["_law_well_here","_law_many"] (Ze MG):=Zs
theorem ZMa(F:Zj K "_law_keys" "_law_keys" MG f fd)(T:YG mg)(DK:ZA P w K mg base 6 "_law_key" ["_law_well_here","_law_room"] (Y5 4))(DR:ZA P w K mg base 6 "_law_rank" ["_law_spot"] (Yx 5)):
  ZK P w K mg base ZW 9 f fd ["_law_well_here","_law_many"] Vb:=by
 refine F.ok Uc (fun vs H Q E h=>(by obtain ⟨_,_,rfl,_⟩:=h;rfl)) (fun cdv A outer s H vs Q E hr h=>?_)
 obtain ⟨p,n,rfl,hw,hn,k⟩:=h;have nd:=Uc.nd;have hr6:=hr.mono (show 6<=8 by lia)
 have DS:ZA P w K mg base 6 "_law_rank" ["_law_spot"] (UG KT.rk):=by
  obtain ⟨g,gd,FG,b,kp,m⟩:=DR.ex;exact ⟨g,gd,FG.imp fun vs H Q E h=>by
   obtain ⟨v,t,e,a,c,d⟩:=h;have:=UC t 3 c;exact ⟨v,t,3,e,a,c,by lia,d⟩,b,kp,m⟩
 refine ⟨_,ZQ (Zk 2 nd GJ)
  (ZQ (Ud PassesOwn.never rfl (Pm rfl T.range (ZF (pv 1) ZG)) (WT 3 nd)
   (ZU (Hj (KZ hr) (pv 2) (Zh DK hr6 (ZF (pv 0) (ZF ZM ZG))) XT rfl)))
  (ZU (Zg (JS Nt Pz DS hr rfl T.sorted rfl (ZF (pv 2) ZG))))),?_⟩
 intro fa H1 nfa _ s1 dk1;obtain ⟨xsw,hxw⟩:=hw.some;have hpf:p≠fa:=Zb hxw nfa;refine ⟨_,rfl,(n:Int),rfl,by lia,by lia,PZ (n:=(n:Int).toNat) (fun i σ H'=>∃(xs:List (KT×V×V))(o:jf),σ=[some (.ref p),some (.int (n:Int)),some (.ref fa),o]/\YJ w H' fa xs/\xs.length<=i/\(∀ x∈xs,x.1.fits 3=true)/\ZI H' p/\ZE p H H')
  ⟨[],none,rfl,dk1,zAH _,fun x hx=>by simp at hx,hw.same s1,ZE.of s1⟩ (fun i σ H' hi hP=>?_) (fun σ H' hP=>?_)⟩
 ·obtain ⟨xs,o,rfl,dk,lx,fx,hw',sx⟩:=hP;refine ⟨_,rfl,_,rfl,p,3,rfl,hw',by lia,fun v t H3 kv ft hw3 sx3=>?_⟩
  have tu:=sx3.tupsW hw';refine ⟨fa,xs,t,rfl,dk.but sx3 tu (Ne.symm hpf),by lia,kv,UC t 3 ft,fun H4 sx4 dk4=>⟨_,_,rfl,dk4,by have:=Ca xs t v (.bl true);lia,fun x hx=>?_,hw3.stay sx4 hpf,fun b ob e nb=>?_⟩⟩
  ·have:x.1∈(UL xs t v (.bl true)).map (·.1):=List.mem_map_of_mem hx;rw [MZ] at this;split at this
   ·obtain ⟨z,hz,e⟩:=zAf.mp this;rw [<-e];exact fx z hz
   ·rcases zAd.mp this with q | q
    ·obtain ⟨z,hz,e⟩:=zAf.mp q;rw [<-e];exact fx z hz
    ·rw [zAR.mp q];exact ft
  ·exact sx4 b ob (sx3 b ob (sx b ob e nb) nb) (Zb e nfa)
 ·obtain ⟨xs,o,rfl,dk,lx,fx,hw',sx⟩:=hP;refine ⟨_,rfl,fa,xs,rfl,dk,fx,by lia,fun D ws rs H5 s5 nD hD ka pm pw=>?_⟩
  have lr:=pm.length_eq;rw [zAD] at lr;refine k D ws rs H5 (Ou sx hw' nD) hD ka (fun t ht=>?_) (JD (pm.nodup_iff.mpr dk.nd) pw) (by lia) (hw'.same s5) (sx.trans (ZE.of s5))
  obtain ⟨z,hz,e⟩:=zAf.mp (pm.mem_iff.mp ht);rw [<-e];exact fx z hz
end
section
open PySem.SeqAt
open PySem.AutoSeq1 (wpAny_loadPart')
open PySem.MeetsSeq PySem.MeetsSeq2 PySem.MeetsSeq3
end
section
variable{X:Cx}
end
inductive Yr(n:Nat)(vs:je)(H:Hp)(Q:VK)(_:XK):Prop
 | mk (v u:V) (t m:KT) (r:Nat) (_:vs=[v,u]) (_:ZD H t v) (_:ZD H m u) (_:m.wide r=true) (_:r<n) (_:∀ H',ZB H H'->Q (.bl (t.eqb m)) H')
theorem Ci{l m:List KT}(h:l.length≠m.length):eqbL l m=false:=by
 rw [<-NN,show (l.length==m.length)=false by simp [h],zDK]
theorem CO{l m:List KT}(h:l.length=m.length):((zAx m.length).map fun j=>(l.getD j (.int 0)).eqb (m.getD j (.int 0))).all id=eqbL l m:=by
 rw [<-NN,h,Nat.min_self,zCZ];simp
section
variable{P:Program}{w:World}{K:zAA}{mg:jb}{base:Heap}{f:Addr}{fd:FuncData}
theorem Gy{n:Nat}(F:Zj K "_law_alike" "_law_alike" Ni f fd)(T:YG mg)(DA:ZA P w K mg base (n+1) "_law_alike" ["_law_found","_law_due"] (Yr n)):
  ZK P w K mg base ZW (n+2) f fd ["_law_found","_law_due"] (Yr (n+1)):=by
 refine F.ok AJ (fun vs H Q E h=>?_) (fun cdv A outer s H vs Q E hr h=>?_)
 ·obtain ⟨v,u,t,m,r,rfl,_⟩:=h;rfl
 obtain ⟨v,u,t,m,r,rfl,hv,hu,hf,hn,k⟩:=h;refine ⟨_,ZQ (Zz (XH (Zy VW rfl T.isi WM (ZZ (pv 1) (ZZ (VC (v:=.ty "tuple") rfl T.tuple Qw rfl) ZG))))
   (ZQ (Zz (PW.pt (Pc (Vh (XH (Zy VW rfl T.isi WM (ZZ (pv 0) (ZZ (VC (v:=.ty "tuple") rfl T.tuple Qw rfl) ZG)))))
    (Pu (Y3 Eo (Zy Xh rfl T.len XY (ZZ (pv 0) ZG)) (Zy Xh rfl T.len XY (ZZ (pv 1) ZG)) (YE _))))) (ZU (Zg XT)) Z0)
   (ZU (Zg (Zy (No rfl) rfl T.all O2 (ZZ (VR [0,1] ["_law_found","_law_due"] rfl (Pm rfl T.range (ZZ (Zy Xh rfl T.len XY (ZZ (pv 1) ZG)) ZG)) (fun _ _ _ _ _=>VU)
    (fun _ _ _ _ _=>Zh DA hr (ZZ (Zl (r:=YB K) YD (pv 1) (pv 0) (fun _ _=>rfl)) (ZZ (Zl (r:=YB K) YD (pv 2) (pv 0) (fun _ _=>rfl)) ZG))) ⟨rfl,.inl rfl,rfl,rfl,.inl rfl,rfl,trivial⟩) ZG))))) Z0)
  (ZQ (Zz (XH (Zy VW rfl T.isi WM (ZZ (pv 1) (ZZ (VC (v:=.ty "str") rfl T.str OM rfl) ZG))))
   (ZU (Zg (UK (Zy VW rfl T.isi WM (ZZ (pv 0) (ZZ (VC (v:=.ty "str") rfl T.str OM rfl) ZG))) (QM (Wz Wy (pv 0) (pv 1) (YE _)))))) Z0)
  (ZU (Zg (UK (Zy VW rfl T.isi WM (ZZ (pv 0) (ZZ (VC (v:=.ty "int") rfl T.int QA rfl) ZG)))
   (UK (Lg (Zy VW rfl T.isi WM (ZZ (pv 0) (ZZ (VC (v:=.ty "bool") rfl T.bool KB rfl) ZG)))) (QM (Wz Wy (pv 0) (pv 1) (YE _)))))))),?_⟩
 have kk:=k H (ZB.refl H)
 cases m with
 | int j=>
  have eu:u=.int j:=by rw [ZD] at hu;exact hu
  subst eu;refine ⟨_,rfl,_,_,_,_,rfl,.int j,K4,_,rfl,Zo ?_⟩;refine ⟨_,rfl,_,_,_,_,rfl,.int j,kit_is',_,rfl,Zo ?_⟩
  cases t with
  | int i=>
   have ev:v=.int i:=by rw [ZD] at hv;exact hv
   subst ev;refine ⟨_,rfl,_,_,_,_,rfl,.int i,OQ,_,rfl,Zw ?_⟩;refine ⟨_,rfl,_,_,_,_,rfl,.int i,Lv,_,rfl,_,rfl,Zw ?_⟩;refine ⟨_,rfl,_,rfl,rfl,?_⟩;rw [KT.eqb] at kk;have e:decide (V.int i=V.int j)=(i==j):=by
    by_cases z:i=j
    ·subst z;simp
    ·simp [z]
   rw [e];exact kk
  | str x=>
   rw [show (KT.str x).eqb (.int j)=false by simp [KT.eqb]] at kk
   exact ⟨_,rfl,_,_,_,_,rfl,hv.ty,NX,_,rfl,Zo kk⟩
  | tup l=>
   rw [show (KT.tup l).eqb (.int j)=false by simp [KT.eqb]] at kk
   exact ⟨_,rfl,_,_,_,_,rfl,hv.ty,Oq,_,rfl,Zo kk⟩
 | str y=>
  have eu:u=.str y:=by rw [ZD] at hu;exact hu
  subst eu;refine ⟨_,rfl,_,_,_,_,rfl,.str y,Ho,_,rfl,Zo ?_⟩;refine ⟨_,rfl,_,_,_,_,rfl,.str y,Py,_,rfl,Zw ?_⟩
  cases t with
  | int i=>
   rw [show (KT.int i).eqb (.str y)=false by simp [KT.eqb]] at kk
   exact ⟨_,rfl,_,_,_,_,rfl,hv.ty,kit_is',_,rfl,Zo kk⟩
  | str x=>
   have ev:v=.str x:=by rw [ZD] at hv;exact hv
   subst ev;refine ⟨_,rfl,_,_,_,_,rfl,.str x,Py,_,rfl,Zw ?_⟩;refine ⟨_,rfl,_,rfl,rfl,?_⟩;rw [KT.eqb] at kk;have e:decide (V.str x=V.str y)=(x==y):=by
    by_cases z:x=y
    ·subst z;simp
    ·simp [z]
   rw [e];exact kk
  | tup l=>
   rw [show (KT.tup l).eqb (.str y)=false by simp [KT.eqb]] at kk
   exact ⟨_,rfl,_,_,_,_,rfl,hv.ty,NW,_,rfl,Zo kk⟩
 | tup m=>
  have tu:=hu.ty (K:=K);rw [ZD] at hu;obtain ⟨b,us,rfl,eb,hus⟩:=hu;have hl2:=hus.length;rw [KT.wide,zAP,zAP] at hf;obtain ⟨f0,f1,f2⟩:=hf;have r0:=of_decide_eq_true f0;have l4:=of_decide_eq_true f1;refine ⟨_,rfl,_,_,_,_,rfl,tu,Md,_,rfl,Zw ?_⟩
  cases t with
  | int i=>
   rw [show (KT.int i).eqb (.tup m)=false by simp [KT.eqb]] at kk
   exact ⟨_,rfl,_,_,_,_,rfl,hv.ty,K4,_,rfl,Zw (Zw kk)⟩
  | str x=>
   rw [show (KT.str x).eqb (.tup m)=false by simp [KT.eqb]] at kk
   exact ⟨_,rfl,_,_,_,_,rfl,hv.ty,Ho,_,rfl,Zw (Zw kk)⟩
  | tup l=>
  have tv:=hv.ty (K:=K);rw [ZD] at hv;obtain ⟨a,vs,rfl,ea,hvs⟩:=hv;have hl:=hvs.length;rw [KT.eqb] at k kk;refine ⟨_,rfl,_,_,_,_,rfl,tv,Md,_,rfl,Zo ?_⟩;refine ⟨_,rfl,a,vs,rfl,.inr (Zn.of ea),_,rfl,b,us,rfl,.inr (Zn.of eb),rfl,_,rfl,?_⟩;by_cases luv:vs.length=us.length
  ·refine De (by rw [luv]) ?_
   refine ⟨_,rfl,b,us,rfl,.inr (Zn.of eb),_,rfl,by lia,by lia,?_⟩
   rw [zCL];refine VV (n:=us.length) (fun i x=>x=.int (0+(i:Int))) (fun D i ys H3=>ZB H H3/\H D=none/\ys=((zAx i).map fun j=>(l.getD j (.int 0)).eqb (m.getD j (.int 0))).map V.bl) (XG (by lia))
    (fun D i ys H3 hi _=>hi) (fun D i ys H3 x H4 hi _ hy=>hy) (fun D ys H3 _=>zAH _) (fun D hD=>⟨ZX hD _,hD,rfl⟩) (fun D i ys H3 x eD hl' hi hx hP R hR=>?_) (fun D ys H3 eD hP=>?_)
   ·subst hx;obtain ⟨s3,nD,rfl⟩:=hP;have hi':i<vs.length:=by lia
    have hiv:vs[i]? = some vs[i]:=by simp [hi']
    have hiu:us[i]? = some us[i]:=by simp [hi]
    obtain ⟨t,et,kt⟩:=hvs.get hiv;obtain ⟨t',et',kt'⟩:=hus.get hiu;have ft:t'.wide (r - 1)=true:=by rw [Nx] at f2;exact zAO.mp f2 t' (zAJ et')
    have av:Xq vs (0+(i:Int))=some vs[i]:=by rw [Int.zero_add];exact Yz hiv
    have au:Xq us (0+(i:Int))=some us[i]:=by rw [Int.zero_add];exact Yz hiu
    refine ⟨_,rfl,_,rfl,.inr (.inl ⟨a,vs,_,_,rfl,rfl,Zn.of (s3 _ _ ea),av,_,rfl,_,rfl,.inr (.inl ⟨b,us,_,_,rfl,rfl,Zn.of (s3 _ _ eb),au,vs[i],us[i],t,t',r - 1,rfl,kt.mono (ZB.tups s3) _ _,kt'.mono (ZB.tups s3) _ _,ft,by lia,fun H4 s4=>?_⟩)⟩)⟩
    refine hR _ H4 (s4 D _ eD) ⟨fun b o e=>by rw [ZV (Zb e nD)];exact s4 b o (s3 b o e),nD,?_⟩
    rw [List.range_succ,zAX,zAX]
    congr 1
    show [V.bl (t.eqb t')]=[V.bl ((l.getD i (.int 0)).eqb (m.getD i (.int 0)))];rw [zAC,zAC,et,et'];rfl
   ·obtain ⟨s3,nD,rfl⟩:=hP;refine ⟨D,_,rfl,ZL.of eD,?_⟩;rw [<-hl2,CO (by lia)]
    exact k H3 s3
  ·rw [Ci (by lia)] at kk
   rw [decide_eq_false (fun z=>luv (by have:=Pp z;lia))]
   exact Zw kk
theorem K7(T:YG mg)(L:Za K mg "_law_alike" Ni ["_law_found","_law_due"]):∀ n:Nat,ZA P w K mg base (n+1) "_law_alike" ["_law_found","_law_due"] (Yr n)
 | 0=>L.of fun _ _ _=>Gh fun vs H Q E h=>by obtain ⟨v,u,t,m,r,_,_,_,_,h1,_⟩:=h;lia
 | n+1=>L.of fun _ _ F=>Gy F T (K7 T L n)
end
theorem V5{H:Hp}{p q:Addr}(W:ZI H p)(h:H q=none):q≠p:=fun z=>by
 obtain ⟨xs,e⟩:=W.some;rw [z,e] at h;cases h
section
variable{P:Program}{w:World}{K:zAA}{mg:jb}{base:Heap}{f:Addr}{fd:FuncData}
inductive Wf(vs:je)(H:Hp)(Q:VK)(_:XK):Prop
 | mk (p:Addr) (_:vs=[.ref p]) (_:ZI H p) (_:∀(v:V)(t:KT)(H':Hp),ZD H' t v->t.fits 3=true->ZI H' p->ZE p H H'->Q v H')
theorem BT:ZC ["_law_well_here"] ["_law_well_here"] (Ze LH):=Zs
theorem ZK5(F:Zj K "_law_value" "_law_value" LH f fd)(DP:ZA P w K mg base 1 "_law_pull" ["_law_well_here","_law_many"] Zp)(DK:ZA P w K mg base 6 "_law_key" ["_law_well_here","_law_room"] (Y5 4)):ZK P w K mg base ZW 7 f fd ["_law_well_here"] Wf:=by
 refine F.ok BT (fun vs H Q E h=>(by obtain ⟨_,rfl,_⟩:=h;rfl)) (fun cdv A outer s H vs Q E hr h=>?_)
 obtain ⟨p,rfl,W,q⟩:=h;have hr1:=hr.mono (show 1<=6 by decide)
 refine ⟨_,ZQ (Zz (Y3 Wy (Zh DP hr1 (ZF (pv 0) (ZF ZM ZG))) ZM (YE _)) (ZU (Zg (Zh DK hr (ZF (pv 0) (ZF ZM ZG))))) Z0)
  (ZU (Zg (Zl (r:=YB K) YD (Yn (pa6 ZM ZM Xf (Yq (ZF ZM ZG)) Xf (Yq ZG))) (Zh DP hr1 (ZF (pv 0) (ZF ZM ZG))) (fun _ _=>rfl)))),?_⟩
 refine ⟨_,rfl,p,3,rfl,W,XI (by decide) (by decide),fun w0 H1 w00 w01 W1 s1=>⟨rfl,_,rfl,?_⟩⟩
 refine WU (fun c=>?_) (fun c=>?_)
 ·exact ⟨_,rfl,p,3,rfl,W1,by decide,fun v t H3 hv ht W3 s3=>q v t H3 hv ht W3 (s1.trans s3)⟩
 refine ⟨nn (zAB rfl),fun t1 n1=>?_⟩;have g1:=ZX n1 (.tup [.int 1]);refine ⟨nn (zAB rfl),fun t2 n2=>?_⟩;have g2:=ZX n2 (.tup []);refine ⟨nn (zAB rfl),fun d nd'=>?_⟩;have g3:=ZX nd' (.lst [.int 0,.int 1,.str "1",.ref t1,.str "",.ref t2]);have gA:ZB H1 _:=(g1.trans g2).trans g3;have nd2:d≠p:=V5 (W1.same (g1.trans g2)) nd';refine ⟨_,rfl,p,6,rfl,W1.same gA,XI (by decide) (by decide),fun r H3 r0 r1 W3 s3=>?_⟩
 have tA:=s3.tupsW (W1.same gA);have sA:ZE p H H3:=(s1.trans (ZE.of gA)).trans s3;have k1:ZD H3 (.tup [.int 1]) (.ref t1):=.tup (tA _ _ (g3 _ _ (g2 _ _ ZO))) (.cons (.int 1) .nil);have k2:ZD H3 (.tup []) (.ref t2):=.tup (tA _ _ (g3 _ _ ZO)) .nil;have eL:H3 d=some (.lst [.int 0,.int 1,.str "1",.ref t1,.str "",.ref t2]):=s3 d _ ZO nd2;obtain ⟨v,av,mv⟩:=Q2 (xs:=[V.int 0,.int 1,.str "1",.ref t1,.str "",.ref t2]) r0 r1;refine .inl ⟨d,_,_,v,rfl,rfl,ZL.of eL,av,?_⟩;simp only [zAe,zBo,or_false] at mv;rcases mv with rfl | rfl | rfl | rfl | rfl | rfl
 ·exact q _ _ H3 (.int 0) (by decide +kernel) W3 sA
 ·exact q _ _ H3 (.int 1) (by decide +kernel) W3 sA
 ·exact q _ _ H3 (.str _) (by decide +kernel) W3 sA
 ·exact q _ _ H3 k1 (by decide +kernel) W3 sA
 ·exact q _ _ H3 (.str _) (by decide +kernel) W3 sA
 ·exact q _ _ H3 k2 (by decide +kernel) W3 sA
end
end Tw
namespace L2
open PySem PySem.Spec PyProof.Rows
section
variable{X:Cx}
theorem LG(hc:X.calm=true):VX X (.builtin "sum") (fun xs H Q=>∃(p:Addr)(ns:List Int),xs=[.ref p]/\ZL X.K H p (ns.map V.int)/\Q (.int ns.sum) H):=by
 intro pins s σ H xs us Q I r h;obtain ⟨p,ns,rfl,hq,q⟩:=h;obtain ⟨u,rfl,ru⟩:=Va r;cases ru;obtain ⟨ji,rv,pl,hz⟩:=I.list hq;have hi:=AX rv;obtain ⟨ys,e⟩:=hi.allInts.items;have hl:=pl.isList;rw [e] at hl;have en:ys.toList.map (·.1)=ns:=by
  rw [<-nums_intItems,<-e];exact hi.numsOf
 refine sum_intListG (I.ok.hd hc) hl fun h' tk t' hk=>⟨.int ns.sum,H,I.kept (t':=tk) hk,⟨t',?_⟩,q⟩;rw [preSum_eq,zAS (by simp),en]
end
end L2
namespace Tw
open PySem PySem.Spec L2 PyProof.Rows
theorem LK:bootBuiltins "sum" = some (.builtin "sum"):=by decide +kernel
structure YT where
 h:Int
 lo:KT
 hi:KT
 m:Int
def YT.d:YT:=⟨0,.int 0,.int 0,0⟩
def YT.kt(L:YT):KT:=.tup [.int L.h,L.lo,L.hi,.int L.m]
def Ys(H:Hp)(L:YT)(u:V):Prop:=∃ a jK jL,u=.ref a/\H a=some (.tup [.int L.h,jK,jL,.int L.m])/\ZD H L.lo jK/\ZD H L.hi jL
theorem Ys.mono{H H':Hp}{L:YT}{u:V}(x:Ys H L u)(m:Z2 H H'):Ys H' L u:=by
 obtain ⟨a,jK,jL,e,e1,k1,k2⟩:=x;exact ⟨a,jK,jL,e,m _ _ e1,k1.mono m _ _,k2.mono m _ _⟩
def Yb(H:Hp)(ls:List YT)(us:je):Prop:=us.length=ls.length/\∀ i u,us[i]? = some u->Ys H (ls.getD i .d) u
theorem Yb.mono{H H':Hp}{ls:List YT}{us:je}(x:Yb H ls us)(m:Z2 H H'):Yb H' ls us:=⟨x.1,fun i u e=>(x.2 i u e).mono m⟩
def YT.fit(L:YT):Prop:=L.lo.fits 3=true/\L.hi.fits 3=true
def Uu(a b:YT):Bool:=(a.h==b.h)&&a.hi.lt b.lo
def NJ(ls:List YT):Bool:=(zAx (ls.length - 1)).all fun j=>Uu (ls.getD j .d) (ls.getD (j+1) .d)
def over(ls:List YT):Option YT:=if 2<=ls.length/\ls.length<=4/\NJ ls=true then some ⟨(ls.getD 0 .d).h+1,(ls.getD 0 .d).lo,(ls.getD (ls.length - 1) .d).hi,(ls.map YT.m).sum⟩ else none
theorem Bv{ls:List YT}(h2:2<=ls.length)(h4:ls.length<=4)(h:∀ j,j<ls.length - 1->Uu (ls.getD j .d) (ls.getD (j+1) .d)=true):over ls=some ⟨(ls.getD 0 .d).h+1,(ls.getD 0 .d).lo,(ls.getD (ls.length - 1) .d).hi,(ls.map YT.m).sum⟩:=
 if_pos ⟨h2,h4,zAO.mpr fun j hj=>h j (zA8.mp hj)⟩
section
variable{P:Program}{w:World}{K:zAA}{mg:jb}{base:Heap}{f:Addr}{fd:FuncData}
inductive VZ(vs:je)(H:Hp)(Q:VK)(_:XK):Prop
 | mk (v u:V) (a b:YT) (_:vs=[v,u]) (_:Ys H a v) (_:Ys H b u) (_:a.fit) (_:b.fit) (_:∀ H',ZB H H'->Q (.bl (Uu a b)) H')
theorem B4:ZC ["label","following"] ["label","following"] (Ze Lq):=Zs
theorem Be(F:Zj K "stand_side_by_side" "stand_side_by_side" Lq f fd)(T:YG mg)(DA:ZA P w K mg base 7 "ahead" ["one","other"] Y2):ZK P w K mg base ZW 8 f fd ["label","following"] VZ:=by
 refine F.ok B4 (fun vs H Q E h=>(by obtain ⟨_,_,_,_,rfl,_⟩:=h;rfl)) (fun cdv A outer s H vs Q E hr h=>?_)
 obtain ⟨v,u,a,b,rfl,ha,hb,fa,fb,k⟩:=h;obtain ⟨t0,m0⟩:=T.height;obtain ⟨t1,m1⟩:=T.least;obtain ⟨t2,m2⟩:=T.greatest;obtain ⟨pa,alo,ahi,rfl,ea,ka1,ka2⟩:=ha;obtain ⟨pb,blo,bhi,rfl,eb,kb1,kb2⟩:=hb;refine ⟨_,ZU (Zg (UK (Wz Wy (Zl (r:=YB K) YD (pv 0) (WE (v:=.int 0) rfl m0 ⟨_,rfl⟩) (fun _ _=>rfl)) (Zl (r:=YB K) YD (pv 1) (WE (v:=.int 0) rfl m0 ⟨_,rfl⟩) (fun _ _=>rfl)) (YE _))
  (QM (Zh DA hr (ZF (Zl (r:=YB K) YD (pv 0) (WE (v:=.int 2) rfl m2 ⟨_,rfl⟩) (fun _ _=>rfl)) (ZF (Zl (r:=YB K) YD (pv 1) (WE (v:=.int 1) rfl m1 ⟨_,rfl⟩) (fun _ _=>rfl)) ZG)))))),?_⟩
 refine ⟨_,rfl,.inr (.inl ⟨pa,_,_,.int a.h,rfl,rfl,Zn.of ea,rfl,?_⟩)⟩;refine ⟨_,rfl,.inr (.inl ⟨pb,_,_,.int b.h,rfl,rfl,Zn.of eb,rfl,rfl,_,rfl,?_⟩)⟩;by_cases hh:a.h=b.h
 ·rw [decide_eq_true (by rw [hh])]
  refine Zw ?_;refine ⟨_,rfl,.inr (.inl ⟨pa,_,_,ahi,rfl,rfl,Zn.of ea,rfl,?_⟩)⟩;refine ⟨_,rfl,.inr (.inl ⟨pb,_,_,blo,rfl,rfl,Zn.of eb,rfl,ahi,blo,a.hi,b.lo,rfl,ka2,kb1,fa.2,fb.1,fun H' s'=>?_⟩)⟩;have e:a.hi.lt b.lo=Uu a b:=by unfold Uu;rw [hh,beq_self_eq_true,zCN]
  rw [e];exact k H' s'
 ·rw [decide_eq_false (fun z=>hh (Pp z))];refine Zo ?_;have e:false=Uu a b:=by unfold Uu;rw [beq_eq_false_iff_ne.mpr hh,zBl]
  rw [e];exact k H (ZB.refl H)
end
section
variable{P:Program}{w:World}{K:zAA}{mg:jb}{base:Heap}{f:Addr}{fd:FuncData}{jg jh CS CT CH:Addr}
theorem GT{n:Int}(h:n.natAbs<10 ^ 60)(r:Nat):(KT.int n).fits r=true:=by rw [KT.fits];exact decide_eq_true h
theorem Ol{H:Hp}{L:YT}{u:V}(h:ZD H L.kt u):Ys H L u:=by
 unfold YT.kt at h;rw [ZD] at h;obtain ⟨a,vs,rfl,ea,ks⟩:=h;rw [KeysAt] at ks;obtain ⟨v1,r1,rfl,k1,ks⟩:=ks;rw [KeysAt] at ks;obtain ⟨v2,r2,rfl,k2,ks⟩:=ks;rw [KeysAt] at ks;obtain ⟨v3,r3,rfl,k3,ks⟩:=ks;rw [KeysAt] at ks;obtain ⟨v4,r4,rfl,k4,ks⟩:=ks;rw [KeysAt] at ks;subst ks;rw [ZD] at k1 k4;subst k1 k4;exact ⟨a,v2,v3,rfl,ea,k2,k3⟩
theorem ZPA:YT.d.fit:=⟨GT (n:=0) (by decide) 3,GT (n:=0) (by decide) 3⟩
def IN(H:Hp)(ks:List KT)(us:je):Prop:=us.length=ks.length/\∀ i u,us[i]? = some u->∃ a vk vv,u=.ref a/\H a=some (.tup [vk,vv])/\ZD H (ks.getD i (.int 0)) vk
def Nk(ks:List KT):KT:=.tup [.int 0,ks.getD 0 (.int 0),ks.getD (ks.length - 1) (.int 0),.int ks.length]
theorem Bt{us:je}{u:V}(h:us[us.length - 1]? = some u):Xq us (-1)=some u:=by
 have jq:us≠[]:=fun z=>by rw [z] at h;simp at h
 have e:us=us.dropLast++[u]:=by
  have hg:us.getLast jq=u:=by
   rw [zDO];exact (zAK.mp h).2
  rw [<-hg,zC4]
 rw [e];exact GC _ _
inductive XV(vs:je)(H:Hp)(Q:VK)(_:XK):Prop
 | mk (l:Addr) (us:je) (ks:List KT) (_:vs=[.ref l]) (_:H l=some (.lst us)) (_:IN H ks us) (_:0<us.length) (_:∀(H':Hp)(v:V),ZB H H'->ZD H' (Nk ks) v->Q v H')
theorem Cy:ZC ["rows"] ["rows"] (Ze Nz):=Zs
theorem Cb(F:Zj K "label_of_rows" "label_of_rows" Nz f fd)(T:YG mg):ZK P w K mg base ZW 1 f fd ["rows"] XV:=by
 refine F.ok Cy (fun vs H Q E h=>(by obtain ⟨_,_,_,rfl,_⟩:=h;rfl)) (fun cdv A outer s H vs Q E hr h=>?_)
 obtain ⟨l,us,ks,rfl,hl,hk,h0,k⟩:=h;refine ⟨_,ZU (Zg (Yq (Vd ZM (Zl (r:=YB K) YD (Zl (r:=YB K) YD (pv 0) ZM (fun _ _=>rfl)) ZM (fun _ _=>rfl))
  (Zl (r:=YB K) YD (Zl (r:=YB K) YD (pv 0) (QX Qg ZM) (fun _ _=>rfl)) ZM (fun _ _=>rfl)) (Zy Xh rfl T.len XY (ZF (pv 0) ZG))))),?_⟩
 have u0:us[0]? = some us[0]:=zAE h0;have u1:us[us.length - 1]? = some (us[us.length - 1]'(by lia)):=zAE (by lia)
 obtain ⟨a,ak,av,ea,ta,ka⟩:=hk.2 0 _ u0;obtain ⟨b,bk,bv,eb,tb,kb⟩:=hk.2 _ _ u1;rw [ea] at u0;rw [eb] at u1;refine ⟨_,rfl,.inl ⟨l,us,_,.ref a,rfl,rfl,ZL.of hl,Yz (j:=0) u0,.inr (.inl ⟨a,_,_,ak,rfl,rfl,Zn.of ta,rfl,?_⟩)⟩⟩;refine ⟨_,rfl,1,rfl,.inl ⟨l,us,_,.ref b,rfl,rfl,ZL.of hl,Bt u1,.inr (.inl ⟨b,_,_,bk,rfl,rfl,Zn.of tb,rfl,?_⟩)⟩⟩;refine ⟨_,rfl,l,us,rfl,.inl (ZL.of hl),nn (zAB rfl),fun p hp=>?_⟩;have g:=ZX hp (.tup [.int 0,ak,bk,.int us.length]);refine k _ _ g ?_;unfold Nk;rw [<-hk.1];exact .tup ZO (.cons (.int _) (.cons (ka.mono (ZB.tups g) _ _) (.cons (kb.mono (ZB.tups g) _ _) (.cons (.int _) .nil))))
abbrev Z5:=KT×KT
def Ul(r:Z5):KT:=.tup [r.1,r.2]
def Z6(rs:List Z5):List KT:=rs.map Ul
def Z5.fit(r:Z5):Prop:=r.1.fits 3=true/\r.2.fits 3=true
structure ZR where
 h:Nat
 rows:List Z5
 bs:List Nat
def ZR.d:ZR:=⟨0,[],[]⟩
def gd(ts:List ZR)(i:Nat):ZR:=ts.getD i .d
theorem XD{ts:List ZR}{i:Nat}(h:i<ts.length):ts[i]? = some (gd ts i):=by
 unfold gd;rw [zAC,zAE h];rfl
structure Xt(gt:List KT)(ts:List ZR)(i:Nat)(t:ZR):Prop where
 ne:t.rows≠[]
 up:(t.rows.map (·.1)).Pairwise fun a b=>a.lt b=true
 inn:∀ r∈t.rows,r.fit
 leaf:t.h=0->t.bs=[]/\t.rows.length<=4
 stem:t.h≠0->2<=t.bs.length/\t.bs.length<=4/\(∀ b∈t.bs,b<i/\(gd ts b).h+1=t.h)/\t.rows=t.bs.flatMap fun b=>(gd ts b).rows
def WF(gt:List KT)(ts:List ZR):Prop:=∀ i t,ts[i]? = some t->Xt gt ts i t
def kindOf(t:ZR):Str:=if t.h=0 then "leaf" else "stem"
theorem UQ{H H':Hp}{a:Addr}{o:HO}(s:ZB H H')(n:H a=none):ZB H (upd H' a o):=fun b u e=>by rw [ZV (Zb e n)];exact s b u e
abbrev iN(l:List Nat):je:=l.map fun b=>V.int (b:Nat)
theorem LE(a b:List Z5):Z6 (a++b)=Z6 a++Z6 b:=zAX
def rd:Z5:=(.int 0,.int 0)
def YM(t:ZR):YT:=⟨t.h,(t.rows.getD 0 rd).1,(t.rows.getD (t.rows.length - 1) rd).1,t.rows.length⟩
theorem Qp{H:Hp}{rs:List Z5}{us:je}{i:Nat}{u:V}(h:KeysAt H (Z6 rs) us)(e:us[i]? = some u):∃ a vk vv,rs[i]? = some (rs.getD i rd)/\u=.ref a/\H a=some (.tup [vk,vv])/\ZD H (rs.getD i rd).1 vk/\ZD H (rs.getD i rd).2 vv:=by
 obtain ⟨t,et,kt⟩:=h.get e;unfold Z6 at et;rw [zAN] at et;obtain ⟨r,er,rfl⟩:=zAt.mp et;have eg:rs.getD i rd=r:=by rw [zAC,er];rfl
 unfold Ul at kt;rw [ZD] at kt;obtain ⟨a,vs,rfl,ha,hk⟩:=kt;rw [KeysAt] at hk;obtain ⟨v1,r1,rfl,k1,hk⟩:=hk;rw [KeysAt] at hk;obtain ⟨v2,r2,rfl,k2,hk⟩:=hk;rw [KeysAt] at hk;subst hk;rw [eg];exact ⟨a,v1,v2,er,rfl,ha,k1,k2⟩
theorem Yb.snoc{H:Hp}{ls:List YT}{us:je}{L:YT}{u:V}(h:Yb H ls us)(hu:Ys H L u):Yb H (ls++[L]) (us++[u]):=by
 refine ⟨by rw [zAG,zAG,h.1];rfl,fun i w e=>?_⟩
 rcases zAg i us.length with hi | hi
 ·rw [zAw hi] at e;have:=h.2 i w e;rw [zAC] at this ⊢;rw [zAw (by rw [<-h.1];exact hi)]
  exact this
 ·rw [zAh hi] at e;have hi0:i - us.length=0:=by
   rcases Nat.eq_zero_or_pos (i - us.length) with z | z
   ·exact z
   ·rw [zCW (by simp;lia)] at e;cases e
  rw [hi0] at e;simp at e;subst e;have ei:i=ls.length:=by have:=h.1;lia
  rw [zAC,ei];simp;exact hu
def inT(ts:List ZR)(x:Int):Bool:=decide (0<=x/\x<(ts.length:Int))
def LL(ls:List YT):Prop:=∀ j,j+1<ls.length->(ls.getD (j+1) .d).h=(ls.getD 0 .d).h/\(ls.getD j .d).hi.lt (ls.getD (j+1) .d).lo=true
theorem Uk{ls:List YT}:LL ls ↔ NJ ls=true:=by
 unfold LL NJ Uu;rw [zAO];constructor
 ·intro h j hj;have hj':j<ls.length - 1:=zA8.mp hj;obtain ⟨a,b⟩:=h j (by lia)
  rw [zAP];refine ⟨?_,b⟩;rw [beq_iff_eq,a]
  cases j with
  | zero=>rfl
  | succ j=>exact (h j (by lia)).1
 ·intro h;have hh:∀ j,j<ls.length->(ls.getD j .d).h=(ls.getD 0 .d).h:=fun j=>by
   induction j with
   | zero=>intro _;rfl
   | succ j ih=>
    intro hj;have:=h j (zA8.mpr (by lia))
    rw [zAP,beq_iff_eq] at this;rw [<-this.1];exact ih (by lia)
  intro j hj;have:=h j (zA8.mpr (by lia))
  rw [zAP] at this;exact ⟨hh (j+1) hj,this.2⟩
theorem Hh{gt:List KT}{ts:List ZR}{i:Nat}{t:ZR}(h:Xt gt ts i t):(YM t).fit:=by
 have hp:0<t.rows.length:=zCg.mpr h.ne;have m0:t.rows.getD 0 rd∈t.rows:=by rw [zAC,zAE hp];exact zAy _
 have m1:t.rows.getD (t.rows.length - 1) rd∈t.rows:=by rw [zAC,zAE (show t.rows.length - 1<t.rows.length by lia)];exact zAy _
 exact ⟨(h.inn _ m0).1,(h.inn _ m1).1⟩
def Y6(ts:List ZR)(bs:List Nat):List YT:=bs.map fun b=>YM (gd ts b)
structure ZJ(P:Program)(w:World)(K:zAA)(mg:jb)(base:Heap)(CX:VN)(k:Nat)(C:Addr)(m:Str)(ps:List Str)(sp:Sp):Prop where
 ex:∃ f fd,QN K C m f/\ZK P w K mg base CX k f fd ps sp/\Zu K fd ps []
theorem XR{X:Cx}{CX:VN}{k:Nat}{C:Addr}{m:Str}{ps:List Str}{sp:Sp}{E:XK}{o e:Expr}{es:List Expr}{ta:TE}{t:TA}{pos jr:Pos}{pl:Sem Bool}(he:PE X o ta)(c:UF X.K C)(D:ZJ X.prog X.w X.K X.mg X.base CX k C m ps sp)(hr:ZY k X.A)(hx:U0 CX X E)(ha:PA X (e :: es) t)(hst:starEach (e :: es) X.env=(false,eval e X.env) :: starEach es X.env:=by rfl)(jv:(backTo pos (starEach es X.env)).any (·.1)=false:=by rfl)(ht:eval (.Call (.Attribute o m jr) (e :: es) [] pos) X.env=(do
   let ov<-eval o X.env
   standAt jr.atName
   let (f,first)<-holding [ov] (getMethod ov m pl)
   callWith pos f first (backTo pos (starEach (e :: es) X.env)) (backToKw pos (keywordEach [] X.env))):=by rfl):
  PE X (.Call (.Attribute o m jr) (e :: es) [] pos) (Jl C m sp [] E ta t):=by
 obtain ⟨f,fd,M,F,b⟩:=D.ex;exact ZMk he c M F hr b .nil hx ha hst jv ht
abbrev KA:Stmt:=VB (Zt 29) 0
abbrev Mr:Stmt:=VB (Zt 49) 0
abbrev Mb:Stmt:=VB (Zt 49) 1
abbrev KM:Stmt:=VB (Zt 49) 3
abbrev Lm:Stmt:=VB (Zt 49) 7
abbrev MC:Stmt:=VB (Zt 49) 8
abbrev Kc:Stmt:=VB (Zt 49) 12
abbrev NG:Stmt:=VB (Zt 49) 13
abbrev OZ:Stmt:=VB (Zt 49) 18
structure Y7(K:zAA)(mg:jb)(jg jh:Addr):Prop where
 shelf:mg "Shelf" = some (.ref jg)
 twig:mg "Twig" = some (.ref jh)
 cS:UF K jg
 cT:UF K jh
 nk:Z1 K jg "kept"
 nf:Z1 K jg "following"
 nl:Z1 K jg "looks"
 nth:Z1 K jh "things"
 ntg:Z1 K jh "tag"
 nab:Z1 K jh "above"
 nho:Z1 K jh "holds"
abbrev Qo(d lk:Addr)(n:Nat):List (Str×V):=[("kept",.ref d),("following",.int n),("looks",.ref lk)]
abbrev UO(th tg:V)(ab:Addr)(ho:Nat):List (Str×V):=[("things",th),("tag",tg),("above",.ref ab),("holds",.int ho)]
structure Y4(jg:Addr)(H:Hp)(S d lk:Addr)(n:Nat)(kvs:List (Zd×V))(ls:je):Prop where
 self:∃ dx,H S=some (.ins jg dx (Qo d lk n))
 kept:H d=some (.dK kvs)
 looks:H lk=some (.lst ls)
structure Xs(jh:Addr)(H:Hp)(x:Addr)(th tg:V)(ab:Addr)(ho:Nat)(us:je):Prop where
 self:∃ dx,H x=some (.ins jh dx (UO th tg ab ho))
 above:H ab=some (.lst us)
theorem Y4.same{jg:Addr}{H H':Hp}{S d lk:Addr}{n:Nat}{kvs:List (Zd×V)}{ls:je}(h:Y4 jg H S d lk n kvs ls)(s:ZB H H'):Y4 jg H' S d lk n kvs ls:=by
 obtain ⟨⟨dx,e⟩,h2,h3⟩:=h;exact ⟨⟨dx,s _ _ e⟩,s _ _ h2,s _ _ h3⟩
theorem Xs.same{jh:Addr}{H H':Hp}{x:Addr}{th tg:V}{ab:Addr}{ho:Nat}{us:je}(h:Xs jh H x th tg ab ho us)(s:ZB H H'):Xs jh H' x th tg ab ho us:=by
 obtain ⟨⟨dx,e⟩,h2⟩:=h;exact ⟨⟨dx,s _ _ e⟩,s _ _ h2⟩
inductive Ux(jh:Addr)(vs:je)(H:Hp)(Q:VK)(_:XK):Prop
 | mk (x dx:Addr) (th tg:V) (_:vs=[.ref x,th,tg]) (_:H x=some (.ins jh dx [])) (_:∀(H':Hp)(ab:Addr),(∀ b o,b≠x->H b=some o->H' b=some o)->H ab=none->Xs jh H' x th tg ab 1 []->Q .non H')
theorem Aa:ZC ["self","things","tag"] ["self","things","tag"] (Ze KA):=Zs
theorem EU(F:Zj K "__init__" "Twig.__init__" KA f fd)(L:Y7 K mg jg jh):ZK P w K mg base ZW 1 f fd ["self","things","tag"] (Ux jh):=by
 refine F.ok Aa (fun vs H Q E h=>(by obtain ⟨_,_,_,_,rfl,_⟩:=h;rfl)) (fun cdv A outer s H vs Q E hr h=>?_)
 obtain ⟨x,dx,th,tg,rfl,hx,k⟩:=h;refine ⟨_,ZQ (Qu (pv 0) (pv 1) rfl) (ZQ (Qu (pv 0) (pv 2) rfl) (ZQ (Qu (pv 0) (Yn ZG) rfl) (ZU (Qu (pv 0) ZM rfl)))),?_⟩;refine ⟨_,rfl,_,rfl,x,jh,dx,_,rfl,hx,L.cT,L.nth,zAB rfl,?_⟩;refine ⟨_,rfl,_,rfl,x,jh,dx,_,rfl,ZO,L.cT,L.ntg,zAB rfl,?_⟩;refine ⟨nn (zAB rfl),fun ab hab=>?_⟩;rw [NU] at hab ⊢;have xab:x≠ab:=fun z=>by rw [<-z,ZO] at hab;cases hab
 have nab:H ab=none:=by rw [ZV (Ne.symm xab)] at hab;exact hab
 refine ⟨_,rfl,x,jh,dx,_,rfl,(by rw [ZV xab];exact ZO),L.cT,L.nab,zAB rfl,?_⟩
 refine ⟨_,rfl,x,jh,dx,_,rfl,ZO,L.cT,L.nho,zAB rfl,?_⟩;refine k _ ab (fun b o n e=>?_) nab ⟨⟨dx,ZO⟩,?_⟩
 ·rw [NU,ZV n,ZV (Zb e nab),ZV n];exact e
 ·rw [NU,ZV (Ne.symm xab)];exact ZO
inductive Up(jg:Addr)(vs:je)(H:Hp)(Q:VK)(_:XK):Prop
 | mk (x dx:Addr) (_:vs=[.ref x]) (_:H x=some (.ins jg dx [])) (_:∀(H':Hp)(d lk:Addr),(∀ b o,b≠x->H b=some o->H' b=some o)->H d=none->H lk=none->d≠lk->Y4 jg H' x d lk 0 [] []->Q .non H')
theorem Bu:ZC ["self"] ["self"] (Ze Mr):=Zs
theorem Ac(F:Zj K "__init__" "Shelf.__init__" Mr f fd)(L:Y7 K mg jg jh):ZK P w K mg base ZW 1 f fd ["self"] (Up jg):=by
 refine F.ok Bu (fun vs H Q E h=>(by obtain ⟨_,_,rfl,_⟩:=h;rfl)) (fun cdv A outer s H vs Q E hr h=>?_)
 obtain ⟨x,dx,rfl,hx,k⟩:=h;refine ⟨_,ZQ (Qu (pv 0) ML rfl) (ZQ (Qu (pv 0) ZM rfl) (ZU (Qu (pv 0) (Yn ZG) rfl))),?_⟩;intro d hd;have xd:x≠d:=Zb hx hd;refine ⟨_,rfl,x,jg,dx,_,rfl,(by rw [ZV xd];exact hx),L.cS,L.nk,zAB rfl,?_⟩
 refine ⟨_,rfl,x,jg,dx,_,rfl,ZO,L.cS,L.nf,zAB rfl,?_⟩;refine ⟨nn (zAB rfl),fun lk hlk=>?_⟩;rw [NU] at hlk ⊢;have xl:x≠lk:=fun z=>by rw [<-z,ZO] at hlk;cases hlk
 have hlk1:upd H d (.dK []) lk=none:=by rw [ZV (Ne.symm xl)] at hlk;exact hlk
 have dl:d≠lk:=fun z=>by rw [<-z,ZO] at hlk1;cases hlk1
 have nlk:H lk=none:=by rw [ZV (Ne.symm dl)] at hlk1;exact hlk1
 refine ⟨_,rfl,x,jg,dx,_,rfl,(by rw [ZV xl];exact ZO),L.cS,L.nl,zAB rfl,?_⟩
 refine k _ d lk (fun b o n e=>?_) hd nlk dl ⟨⟨dx,ZO⟩,?_,?_⟩
 ·rw [ZV n,ZV (Zb e nlk),ZV n,ZV (Zb e hd)];exact e
 ·rw [ZV (Ne.symm xd),ZV dl,ZV (Ne.symm xd)];exact ZO
 ·rw [ZV (Ne.symm xl)];exact ZO
inductive Z7(jg:Addr)(vs:je)(H:Hp)(Q:VK)(_:XK):Prop
 | mk (S d lk:Addr) (n:Nat) (kvs:List (Zd×V)) (ls:je) (i:Int) (tw:V) (_:vs=[.ref S,.int i]) (_:Y4 jg H S d lk n kvs ls) (_:YN kvs (.inl i)=some tw) (_:Q tw H)
theorem IS:ZC ["self","number"] ["self","number"] (Ze OZ):=Zs
theorem Fm(F:Zj K "twig_of" "Shelf.twig_of" OZ f fd)(L:Y7 K mg jg jh):ZK P w K mg base ZW 1 f fd ["self","number"] (Z7 jg):=by
 refine F.ok IS (fun vs H Q E h=>(by obtain ⟨_,_,_,_,_,_,_,_,rfl,_⟩:=h;rfl)) (fun cdv A outer s H vs Q E hr h=>?_)
 obtain ⟨S,d,lk,n,kvs,ls,i,tw,rfl,⟨⟨dx,hS⟩,hd,hl⟩,hv,k⟩:=h;have hu:=Pe hr;refine ⟨_,ZQ (Zz (VT (Ms hu (pv 1) (VQ (pv 0) rfl))) Qs Z0) (ZU (Zg (P0 hu (VQ (pv 0) rfl) (pv 1) (fun _ _=>rfl)))),?_⟩;have hg:YZ H d (.int i) (some tw):=hv ▸ YZ.k (k:=Sum.inl i) hd;refine ⟨_,rfl,_,rfl,S,jg,dx,_,.ref d,rfl,hS,L.cS,L.nk,rfl,d,some tw,rfl,hg,_,rfl,Zo ?_⟩;exact ⟨_,rfl,S,jg,dx,_,.ref d,rfl,hS,L.cS,L.nk,rfl,_,rfl,d,tw,rfl,hg,k⟩
structure V9(P:Program)(w:World)(K:zAA)(mg:jb)(base:Heap)(k:Nat)(C:Addr)(ps:List Str)(sp:Sp):Prop where
 ex:∃ f fd,Mk K C f/\ZK P w K mg base ZW k f fd ps sp/\Zu K fd ps []
structure VF(jg jh:Addr)(H:Hp)(S d lk:Addr)(n:Nat)(kvs:List (Zd×V))(ls:je)(i:Int)(x:Addr)(th tg:V)(ab:Addr)(ho:Nat)(us:je):Prop where
 sh:Y4 jg H S d lk n kvs ls
 val:YN kvs (.inl i)=some (.ref x)
 tw:Xs jh H x th tg ab ho us
theorem VF.same{jg jh:Addr}{H H':Hp}{S d lk:Addr}{n:Nat}{kvs:List (Zd×V)}{ls:je}{i:Int}{x:Addr}{th tg:V}{ab:Addr}{ho:Nat}{us:je}(h:VF jg jh H S d lk n kvs ls i x th tg ab ho us)(s:ZB H H'):VF jg jh H' S d lk n kvs ls i x th tg ab ho us:=⟨h.sh.same s,h.val,h.tw.same s⟩
inductive WI(jg jh:Addr)(res:V->Nat->je->V)(vs:je)(H:Hp)(Q:VK)(_:XK):Prop
 | mk (S d lk:Addr) (n:Nat) (kvs:List (Zd×V)) (ls:je) (i:Int) (x:Addr) (th tg:V) (ab:Addr) (ho:Nat) (us:je) (_:vs=[.ref S,.int i]) (_:VF jg jh H S d lk n kvs ls i x th tg ab ho us) (_:Q (res tg ho us) H)
theorem ZIG:ZC ["self","number"] ["self","number"] (Ze MC):=Zs
theorem Fi(F:Zj K "outside" "Shelf.outside" MC f fd)(L:Y7 K mg jg jh)(DT:ZJ P w K mg base ZW 1 jg "twig_of" ["self","number"] (Z7 jg)):ZK P w K mg base ZW 2 f fd ["self","number"] (WI jg jh fun _ ho _=>.int ho):=by
 refine F.ok ZIG (fun vs H Q E h=>(by obtain ⟨_,_,_,_,_,_,_,_,_,_,_,_,_,rfl,_⟩:=h;rfl)) (fun cdv A outer s H vs Q E hr h=>?_)
 obtain ⟨S,d,lk,n,kvs,ls,i,x,th,tg,ab,ho,us,rfl,R,k⟩:=h;refine ⟨_,ZU (Zg (VQ (XR (E:=E0) (pv 0) L.cS DT hr XE (ZF (pv 1) ZG)) rfl)),?_⟩;obtain ⟨dx,hS⟩:=R.sh.self;obtain ⟨dt,hx⟩:=R.tw.self;exact ⟨_,rfl,S,dx,_,rfl,hS,rfl,_,rfl,S,d,lk,n,kvs,ls,i,.ref x,rfl,R.sh,R.val,x,jh,dt,_,.int ho,rfl,hx,L.cT,L.nho,rfl,k⟩
theorem J9:ZC ["self","number"] ["self","number"] (Ze NG):=Zs
theorem ED(F:Zj K "label" "Shelf.label" NG f fd)(L:Y7 K mg jg jh)(DT:ZJ P w K mg base ZW 1 jg "twig_of" ["self","number"] (Z7 jg)):ZK P w K mg base ZW 2 f fd ["self","number"] (WI jg jh fun tg _ _=>tg):=by
 refine F.ok J9 (fun vs H Q E h=>(by obtain ⟨_,_,_,_,_,_,_,_,_,_,_,_,_,rfl,_⟩:=h;rfl)) (fun cdv A outer s H vs Q E hr h=>?_)
 obtain ⟨S,d,lk,n,kvs,ls,i,x,th,tg,ab,ho,us,rfl,R,k⟩:=h;refine ⟨_,ZU (Zg (VQ (XR (E:=E0) (pv 0) L.cS DT hr XE (ZF (pv 1) ZG)) rfl)),?_⟩;obtain ⟨dx,hS⟩:=R.sh.self;obtain ⟨dt,hx⟩:=R.tw.self;exact ⟨_,rfl,S,dx,_,rfl,hS,rfl,_,rfl,S,d,lk,n,kvs,ls,i,.ref x,rfl,R.sh,R.val,x,jh,dt,_,tg,rfl,hx,L.cT,L.ntg,rfl,k⟩
theorem WL:ZC ["self","number","twig"] ["self","number"] (Ze Lm):=Zs
theorem Dt(F:Zj K "holders" "Shelf.holders" Lm f fd)(T:YG mg)(L:Y7 K mg jg jh)(DT:ZJ P w K mg base ZW 1 jg "twig_of" ["self","number"] (Z7 jg)):ZK P w K mg base ZW 2 f fd ["self","number"] (WI jg jh fun _ ho us=>.int ((us.length:Nat)+(ho:Nat):Int)):=by
 refine F.ok WL (fun vs H Q E h=>(by obtain ⟨_,_,_,_,_,_,_,_,_,_,_,_,_,rfl,_⟩:=h;rfl)) (fun cdv A outer s H vs Q E hr h=>?_)
 obtain ⟨S,d,lk,n,kvs,ls,i,x,th,tg,ab,ho,us,rfl,R,k⟩:=h;have nd:=WL.nd;refine ⟨_,ZQ (Zk 2 nd (XR (E:=E0) (pv 0) L.cS DT hr XE (ZF (pv 1) ZG))) (ZU (Zg (Zv WJ (Zy Xh rfl T.len XY (ZF (VQ (pv 2) rfl) ZG)) (VQ (pv 2) rfl)))),?_⟩;obtain ⟨dx,hS⟩:=R.sh.self;obtain ⟨dt,hx⟩:=R.tw.self;refine ⟨_,rfl,S,dx,_,rfl,hS,rfl,_,rfl,S,d,lk,n,kvs,ls,i,.ref x,rfl,R.sh,R.val,?_⟩;exact ⟨_,rfl,x,jh,dt,_,.ref ab,rfl,hx,L.cT,L.nab,rfl,ab,us,rfl,.inl (ZL.of R.tw.above),_,rfl,x,jh,dt,_,.int ho,rfl,hx,L.cT,L.nho,rfl,_,_,rfl,rfl,k⟩
inductive Wt(jh:Addr)(vs:je)(H:Hp)(Q:VK)(_:XK):Prop
 | mk (x:Addr) (th:V) (tg ab:Addr) (ho:Nat) (us:je) (h:Int) (xs:je) (_:vs=[.ref x]) (_:Xs jh H x th (.ref tg) ab ho us) (_:H tg=some (.tup (.int h :: xs))) (_:Q (.bl (decide (h > 0))) H)
theorem Fs:ZC ["twig"] ["twig"] (Ze MD):=Zs
theorem ZNO(F:Zj K "is_stem" "is_stem" MD f fd)(T:YG mg)(L:Y7 K mg jg jh):ZK P w K mg base ZW 1 f fd ["twig"] (Wt jh):=by
 refine F.ok Fs (fun vs H Q E h=>(by obtain ⟨_,_,_,_,_,_,_,_,rfl,_⟩:=h;rfl)) (fun cdv A outer s H vs Q E hr h=>?_)
 obtain ⟨x,th,tg,ab,ho,us,hh,xs,rfl,W,ht,k⟩:=h;obtain ⟨t0,m0⟩:=T.height;obtain ⟨dt,hx⟩:=W.self;refine ⟨_,ZU (Zg (Wz Qb (Zl (r:=YB K) YD (VQ (pv 0) rfl) (WE (v:=.int 0) rfl m0 ⟨_,rfl⟩) (fun _ _=>rfl)) ZM (YE _))),?_⟩;exact ⟨_,rfl,x,jh,dt,_,.ref tg,rfl,hx,L.cT,L.ntg,rfl,.inr (.inl ⟨tg,_,_,.int hh,rfl,rfl,Zn.of ht,Yz (j:=0) rfl,_,_,rfl,rfl,k⟩)⟩
theorem FD{n:Nat}(h:n<=40000):n<sizeLine:=zCH h (by decide)
inductive Ve(jg jh:Addr)(vs:je)(H:Hp)(Q:VK)(_:XK):Prop
 | mk (S d lk:Addr) (n:Nat) (kvs:List (Zd×V)) (ls:je) (i:Int) (x tl tg ab:Addr) (ho:Nat) (as us xs:je) (h:Int) (_:vs=[.ref S,.int i]) (_:VF jg jh H S d lk n kvs ls i x (.ref tl) (.ref tg) ab ho as) (_:H tl=some (.lst us)) (_:H tg=some (.tup (.int h :: xs))) (_:lk≠tl) (_:lk≠ab) (_:ls.length<=39000) (_:∀(H':Hp)(l' t:Addr),(∀ b o,b≠lk->H b=some o->H' b=some o)->H' lk=some (.lst (ls++[.int i]))->H l'=none->H' l'=some (.lst us)->H' t=some (.tup [.str (if h > 0 then "stem" else "leaf"),.ref l'])->Q (.ref t) H')
theorem UT:ZC ["self","number","twig"] ["self","number"] (Ze Kc):=Zs
theorem ZL7(F:Zj K "look" "Shelf.look" Kc f fd)(T:YG mg)(L:Y7 K mg jg jh)(DT:ZJ P w K mg base ZW 1 jg "twig_of" ["self","number"] (Z7 jg))(DS:ZA P w K mg base 1 "is_stem" ["twig"] (Wt jh)):ZK P w K mg base ZW 2 f fd ["self","number"] (Ve jg jh):=by
 refine F.ok UT (fun vs H Q E h=>(by obtain ⟨_,_,_,_,_,_,_,_,_,_,_,_,_,_,_,_,rfl,_⟩:=h;rfl)) (fun cdv A outer s H vs Q E hr h=>?_)
 obtain ⟨S,d,lk,n,kvs,ls,i,x,tl,tg,ab,ho,as,us,xs,hh,rfl,R,htl,htg,ltl,lab,l900,k⟩:=h;have nd:=UT.nd;refine ⟨_,ZQ (Zk 2 nd (XR (E:=E0) (pv 0) L.cS DT hr XE (ZF (pv 1) ZG)))
  (ZQ (Wx (QB zAs zA2 zA1 QL (VQ (pv 0) rfl) (ZF (pv 1) ZG)))
  (ZQ (Zz (XH (Zh DS hr (ZF (pv 2) ZG))) (ZU (Zg (Yq (ZF Xf (ZF (VP PD rfl T.list Qi (ZF (VQ (pv 2) rfl) ZG)) ZG))))) Z0)
  (ZU (Zg (Yq (ZF Xf (ZF (VP PD rfl T.list Qi (ZF (VQ (pv 2) rfl) ZG)) ZG))))))),?_⟩
 obtain ⟨dx,hS⟩:=R.sh.self;obtain ⟨dt,hx⟩:=R.tw.self;refine ⟨_,rfl,S,dx,_,rfl,hS,rfl,_,rfl,S,d,lk,n,kvs,ls,i,.ref x,rfl,R.sh,R.val,?_⟩;have hlk:=R.sh.looks;refine ⟨_,rfl,S,jg,dx,_,.ref lk,rfl,hS,L.cS,L.nl,rfl,.inl ⟨rfl,_,ZL.of hlk⟩,_,rfl,lk,ls,.int i,rfl,rfl,hlk,FD (by lia),?_⟩
 have ke:∀ b o,b≠lk->H b=some o->upd H lk (.lst (ls++[.int i])) b=some o:=fun b o n e=>by rw [ZV n];exact e
 have xlk:x≠lk:=ZT hx hlk;have tglk:tg≠lk:=ZT htg hlk;have hx1:=ke _ _ xlk hx;have htg1:=ke _ _ tglk htg;have hab1:=ke _ _ (Ne.symm lab) R.tw.above;have htl1:=ke _ _ (Ne.symm ltl) htl;have hlk1:upd H lk (.lst (ls++[.int i])) lk=some (.lst (ls++[.int i])):=ZO;have fin:∀(w:Str)(l' t:Addr),upd H lk (.lst (ls++[.int i])) l'=none->upd (upd H lk (.lst (ls++[.int i]))) l' (.lst us) t=none->w=(if hh > 0 then ("stem" : Str) else "leaf")->Q (.ref t) (upd (upd (upd H lk (.lst (ls++[.int i]))) l' (.lst us)) t (.tup [.str w,.ref l'])):=fun w l' t hl' ht ew=>by
  have g1:=ZX hl' (.lst us);have g2:=ZX ht (.tup [.str w,.ref l']);have g:=g1.trans g2;have nl':H l'=none:=by
   cases z:H l' with
   | none=>rfl
   | some o=>
    have:l'≠lk:=fun y=>by rw [y,ZO] at hl';cases hl'
    rw [ZV this,z] at hl';cases hl'
  refine k _ l' t (fun b o n e=>g _ _ (ke b o n e)) (g _ _ hlk1) nl' (g2 _ _ ZO) ?_;rw [ZO,ew]
 refine ⟨_,rfl,x,.ref tl,tg,ab,ho,as,hh,xs,rfl,⟨⟨dt,hx1⟩,hab1⟩,htg1,_,rfl,?_⟩;by_cases hp:hh > 0
 ·rw [decide_eq_true hp];refine Zw ⟨_,rfl,x,jh,dt,_,.ref tl,rfl,hx1,L.cT,L.nth,rfl,tl,us,rfl,.inl (ZL.of htl1),fun l' hl'=>⟨nn (zAB rfl),fun t ht=>?_⟩⟩;exact fin _ l' t hl' ht (by rw [if_pos hp])
 ·rw [decide_eq_false hp];refine Zo ⟨_,rfl,x,jh,dt,_,.ref tl,rfl,hx1,L.cT,L.nth,rfl,tl,us,rfl,.inl (ZL.of htl1),fun l' hl'=>⟨nn (zAB rfl),fun t ht=>?_⟩⟩;exact fin _ l' t hl' ht (by rw [if_neg hp])
structure XN(P:Program)(w:World)(K:zAA)(mg:jb)(base:Heap)(nm:Str)(C:Addr)(fl:Str):Prop where
 ex:∃ fI fd,Wr K C fI fl/\ZK P w K mg base ZW 1 fI fd ["self",fl] (OX K C fI fl)/\Zu K fd ["self",fl] []
 at_:mg nm=some (.ref C)
 ty:zA4 K (.ref C)=some (.type "type")
theorem Ke{X:Cx}{E:XK}{nm fl:Str}{C:Addr}{e:Expr}{es:List Expr}{t:TA}{p jj pos:Pos}(F:V4 X E)(N:XN X.prog X.w X.K X.mg X.base nm C fl)(hr:ZY 2 X.A)(ha:PA X (e :: es) t)(hg:Gl X nm)(jy:(nm==("__debug__" : Str))=false:=by decide)(he:starEach (e :: es) X.env=(false,eval e X.env) :: starEach es X.env:=by rfl)(jv:(backTo jj (starEach es X.env)).any (·.1)=false:=by rfl):PS X (.Raise (some (.Call (.Name nm p) (e :: es) [] jj)) none pos) (GR C fl E t):=by
 obtain ⟨fI,fd,c,G,b⟩:=N.ex;exact AU F c N.ty G hr hg N.at_ b ha jy he jv
def QQ(C:Addr)(x:Int)(E:XK)(H:Hp):Prop:=∀ dx H',ZB H H'->H' dx=some (.xd [("number",.int x)])->E (.ref C) (some dx) H'
theorem QQ.go{C:Addr}{x:Int}{E:XK}{H H1:Hp}(r:QQ C x E H)(s:ZB H H1){dx:Addr}(h:H1 dx=none):E (.ref C) (some dx) (upd H1 dx (.xd [("number",.int x)])):=r dx _ (s.trans (ZX h _)) ZO
inductive XW(jg CT:Addr)(vs:je)(H:Hp)(Q:VK)(E:XK):Prop
 | mk (S d lk:Addr) (n:Nat) (kvs:List (Zd×V)) (ls:je) (x:Int) (_:vs=[.ref S,.int x]) (_:Y4 jg H S d lk n kvs ls) (_:∀ tw,YN kvs (.inl x)=some tw->Q tw H) (_:YN kvs (.inl x)=none->QQ CT x E H)
theorem EB{CT:Addr}(F:Zj K "twig_of" "Shelf.twig_of" OZ f fd)(L:Y7 K mg jg jh)(N:XN P w K mg base "NoTwig" CT "number"):ZK P w K mg base (Xi P w) 3 f fd ["self","number"] (XW jg CT):=by
 refine F.okD IS (fun vs H Q E h=>(by obtain ⟨_,_,_,_,_,_,_,rfl,_⟩:=h;rfl)) (fun cdv A outer s H vs Q E hr h=>?_)
 obtain ⟨S,d,lk,n,kvs,ls,x,rfl,⟨⟨dx,hS⟩,hd,hl⟩,k1,k2⟩:=h;have hu:=Pe hr;refine ⟨_,ZQ (Zz (VT (Ms hu (pv 1) (VQ (pv 0) rfl))) (ZU (Ke UP N hr (ZF (pv 1) ZG) rfl)) Z0) (ZU (Zg (P0 hu (VQ (pv 0) rfl) (pv 1) (fun _ _=>rfl)))),?_⟩
 cases hv:YN kvs (.inl x) with
 | none=>
  have hg:YZ H d (.int x) none:=hv ▸ YZ.k (k:=Sum.inl x) hd;refine ⟨_,rfl,_,rfl,S,jg,dx,_,.ref d,rfl,hS,L.cS,L.nk,rfl,d,none,rfl,hg,_,rfl,Zw ?_⟩;exact ⟨_,rfl,_,rfl,fun dd hdd=>(k2 hv).go (ZB.refl H) hdd⟩
 | some tw=>
  have hg:YZ H d (.int x) (some tw):=hv ▸ YZ.k (k:=Sum.inl x) hd;refine ⟨_,rfl,_,rfl,S,jg,dx,_,.ref d,rfl,hS,L.cS,L.nk,rfl,d,some tw,rfl,hg,_,rfl,Zo ?_⟩;exact ⟨_,rfl,S,jg,dx,_,.ref d,rfl,hS,L.cS,L.nk,rfl,_,rfl,d,tw,rfl,hg,k1 tw hv⟩
inductive XU(jg jh CT:Addr)(vs:je)(H:Hp)(Q:VK)(E:XK):Prop
 | mk (S d lk:Addr) (n:Nat) (kvs:List (Zd×V)) (ls:je) (x:Int) (_:vs=[.ref S,.int x]) (_:Y4 jg H S d lk n kvs ls) (_:∀ tw,YN kvs (.inl x)=some tw->∃(a:Addr)(th tg:V)(ab:Addr)(ho:Nat)(us:je),tw=.ref a/\Xs jh H a th tg ab ho us/\Q tg H) (_:YN kvs (.inl x)=none->QQ CT x E H)
theorem FY{CT:Addr}(F:Zj K "label" "Shelf.label" NG f fd)(L:Y7 K mg jg jh)(DT:ZJ P w K mg base (Xi P w) 3 jg "twig_of" ["self","number"] (XW jg CT)):ZK P w K mg base (Xi P w) 4 f fd ["self","number"] (XU jg jh CT):=by
 refine F.okD J9 (fun vs H Q E h=>(by obtain ⟨_,_,_,_,_,_,_,rfl,_⟩:=h;rfl)) (fun cdv A outer s H vs Q E hr h=>?_)
 obtain ⟨S,d,lk,n,kvs,ls,x,rfl,R,k1,k2⟩:=h;refine ⟨_,ZU (Zg (VQ (XR (E:=E) (pv 0) L.cS DT hr (Of UP fun _ _ _ h=>h) (ZF (pv 1) ZG)) rfl)),?_⟩;obtain ⟨dx,hS⟩:=R.self;refine ⟨_,rfl,S,dx,_,rfl,hS,rfl,_,rfl,S,d,lk,n,kvs,ls,x,rfl,R,fun tw hv=>?_,k2⟩;obtain ⟨a,th,tg,ab,ho,us,rfl,W,q⟩:=k1 tw hv;obtain ⟨dt,hx⟩:=W.self;exact ⟨a,jh,dt,_,tg,rfl,hx,L.cT,L.ntg,rfl,q⟩
structure YA where
 x:Addr
 th:Addr
 tg:Addr
 ab:Addr
def YA.d:YA:=⟨0,0,0,0⟩
structure Qf(jh:Addr)(H:Hp)(ts:List ZR)(av:Nat->List Nat)(ho:Nat->Nat)(i:Nat)(a:YA):Prop where
 tw:Xs jh H a.x (.ref a.th) (.ref a.tg) a.ab (ho i) (iN (av i))
 things:∃ us,H a.th=some (.lst us)/\((gd ts i).h=0->KeysAt H (Z6 (gd ts i).rows) us)/\((gd ts i).h≠0->us=iN (gd ts i).bs)
 tag:Ys H (YM (gd ts i)) (.ref a.tg)
theorem Qf.same{jh:Addr}{H H':Hp}{ts:List ZR}{av:Nat->List Nat}{ho:Nat->Nat}{i:Nat}{a:YA}(h:Qf jh H ts av ho i a)(s:ZB H H'):Qf jh H' ts av ho i a:=by
 obtain ⟨us,e1,e2,e3⟩:=h.things;exact ⟨h.tw.same s,⟨us,s _ _ e1,fun z=>(e2 z).mono (ZB.tups s) _ _,e3⟩,h.tag.mono (ZB.tups s)⟩
structure YY(jg jh:Addr)(H:Hp)(S d lk:Addr)(ts:List ZR)(av:Nat->List Nat)(ho:Nat->Nat)(as:List YA)(kvs:List (Zd×V))(ls:je):Prop where
 sh:Y4 jg H S d lk ts.length kvs ls
 keys:kvs.map (·.1)=(zAx ts.length).map (fun i:Nat=>(Sum.inl (i:Int):Zd))
 val:∀ i:Nat,i<ts.length->YN kvs (Sum.inl (i:Int))=some (.ref (as.getD i .d).x)
 len:as.length=ts.length
 tw:∀ i:Nat,i<ts.length->Qf jh H ts av ho i (as.getD i .d)
 own:∀ i:Nat,i<ts.length->(as.getD i .d).x≠S/\(as.getD i .d).ab≠lk/\(as.getD i .d).th≠lk/\(as.getD i .d).ab≠(as.getD i .d).th
 two:∀ i j:Nat,i<ts.length->j<ts.length->i≠j->(as.getD i .d).x≠(as.getD j .d).x/\(as.getD i .d).ab≠(as.getD j .d).ab/\(as.getD i .d).ab≠(as.getD j .d).th/\(as.getD i .d).th≠(as.getD j .d).th
theorem YY.same{jg jh:Addr}{H H':Hp}{S d lk:Addr}{ts:List ZR}{av:Nat->List Nat}{ho:Nat->Nat}{as:List YA}{kvs:List (Zd×V)}{ls:je}(h:YY jg jh H S d lk ts av ho as kvs ls)(s:ZB H H'):YY jg jh H' S d lk ts av ho as kvs ls:=
 ⟨h.sh.same s,h.keys,h.val,h.len,fun i hi=>(h.tw i hi).same s,h.own,h.two⟩
theorem Qf.frame{jh:Addr}{H H':Hp}{ts:List ZR}{av:Nat->List Nat}{ho:Nat->Nat}{i:Nat}{a:YA}(h:Qf jh H ts av ho i a)(m:Z2 H H')(kx:∀ o,H a.x=some o->H' a.x=some o)(kt:∀ o,H a.th=some o->H' a.th=some o)(ka:∀ o,H a.ab=some o->H' a.ab=some o):Qf jh H' ts av ho i a:=by
 obtain ⟨us,e1,e2,e3⟩:=h.things;obtain ⟨dx,e4⟩:=h.tw.self;exact ⟨⟨⟨dx,kx _ e4⟩,ka _ h.tw.above⟩,⟨us,kt _ e1,fun z=>(e2 z).mono m _ _,e3⟩,h.tag.mono m⟩
theorem YY.none{jg jh:Addr}{H:Hp}{S d lk:Addr}{ts:List ZR}{av:Nat->List Nat}{ho:Nat->Nat}{as:List YA}{kvs:List (Zd×V)}{ls:je}(h:YY jg jh H S d lk ts av ho as kvs ls){x:Int}(hx:inT ts x=false):YN kvs (Sum.inl x)=zCo:=by
 cases z:YN kvs (Sum.inl x) with
 | none=>rfl
 | some v=>
  have:=Jw z;rw [h.keys] at this;obtain ⟨i,hi,ei⟩:=zAf.mp this;have e1:=Sum.inl.inj ei;have e2:=zA8.mp hi;unfold inT at hx;have:=of_decide_eq_false hx
  lia
theorem OA{ts:List ZR}{x:Int}(h:inT ts x=true):∃ i:Nat,x=(i:Int)/\i<ts.length:=by
 unfold inT at h;have:=of_decide_eq_true h;exact ⟨x.toNat,by lia,by lia⟩
def OH(av:Nat->List Nat)(b st:Nat):Nat->List Nat:=fun i=>if i=b then av i++[st] else av i
def P1(ho:Nat->Nat)(b:Nat):Nat->Nat:=fun i=>if i=b then ho i - 1 else ho i
theorem YY.touch{jg jh:Addr}{H H':Hp}{S d lk:Addr}{ts:List ZR}{av:Nat->List Nat}{ho:Nat->Nat}{as:List YA}{kvs:List (Zd×V)}{ls:je}(R:YY jg jh H S d lk ts av ho as kvs ls){b st:Nat}(hb:b<ts.length)(hx:∃ dx,H' (as.getD b .d).x=some (.ins jh dx (UO (.ref (as.getD b .d).th) (.ref (as.getD b .d).tg) (as.getD b .d).ab (ho b - 1))))(ha:H' (as.getD b .d).ab=some (.lst (iN (av b++[st]))))(k:∀ c o,c≠(as.getD b .d).x->c≠(as.getD b .d).ab->H c=some o->H' c=some o):YY jg jh H' S d lk ts (OH av b st) (P1 ho b) as kvs ls:=by
 obtain ⟨⟨dS,hS⟩,hd,hl⟩:=R.sh;have Wb:=R.tw b hb;obtain ⟨dx0,hx0⟩:=Wb.tw.self;have hab:=Wb.tw.above;obtain ⟨us,e1,e2,e3⟩:=Wb.things;have m:Z2 H H':=fun c xs e=>k c _ (ZT e hx0) (ZT e hab) e;refine ⟨⟨⟨dS,k _ _ (R.own b hb).1.symm (ZT hS hab) hS⟩,k _ _ (ZT hd hx0) (ZT hd hab) hd,k _ _ (ZT hl hx0) (R.own b hb).2.1.symm hl⟩,R.keys,R.val,R.len,fun i hi=>?_,R.own,R.two⟩;by_cases z:i=b
 ·subst z;have ea:OH av i st i=av i++[st]:=if_pos rfl;have eh:P1 ho i i=ho i - 1:=if_pos rfl;refine ⟨⟨?_,?_⟩,⟨us,k _ _ (ZT e1 hx0) (R.own i hi).2.2.2.symm e1,fun z=>(e2 z).mono m _ _,e3⟩,Wb.tag.mono m⟩
  ·rw [eh];exact hx
  ·rw [ea];exact ha
 ·have ea:OH av b st i=av i:=if_neg z;have eh:P1 ho b i=ho i:=if_neg z;have Wi:=R.tw i hi;obtain ⟨t1,t2,t3,t4⟩:=R.two i b hi hb z;obtain ⟨s1,s2,s3,s4⟩:=R.two b i hb hi (Ne.symm z);obtain ⟨dx1,hx1⟩:=Wi.tw.self;obtain ⟨vs,f1,_⟩:=Wi.things;have G:=Wi.frame m (fun o e=>k _ _ t1 (by have:=hx1.symm.trans e;exact ZT hx1 hab) e) (fun o e=>k _ _ (ZT f1 hx0) s3.symm e) (fun o e=>k _ _ (ZT Wi.tw.above hx0) t2 e)
  refine ⟨?_,G.things,G.tag⟩;rw [ea,eh];exact G.tw
def Us(bs:List Nat)(st:Nat)(av:Nat->List Nat):Nat->List Nat:=fun i=>if i∈bs then av i++[st] else av i
def Uq(bs:List Nat)(ho:Nat->Nat):Nat->Nat:=fun i=>if i∈bs then ho i - 1 else ho i
theorem G9{bs:List Nat}{b st:Nat}{av:Nat->List Nat}(h:b∉bs):OH (Us bs st av) b st=Us (bs++[b]) st av:=by
 funext i
 unfold OH Us;by_cases z:i=b
 ·subst z;rw [if_pos rfl,if_neg h,if_pos (by simp)]
 ·rw [if_neg z];by_cases y:i∈bs
  ·rw [if_pos y,if_pos (by simp [y])]
  ·rw [if_neg y,if_neg (by simp [y,z])]
theorem ZKc{bs:List Nat}{b:Nat}{ho:Nat->Nat}(h:b∉bs):P1 (Uq bs ho) b=Uq (bs++[b]) ho:=by
 funext i
 unfold P1 Uq;by_cases z:i=b
 ·subst z;rw [if_pos rfl,if_neg h,if_pos (by simp)]
 ·rw [if_neg z];by_cases y:i∈bs
  ·rw [if_pos y,if_pos (by simp [y])]
  ·rw [if_neg y,if_neg (by simp [y,z])]
abbrev MN:Stmt:=VB (Zt 49) 21
inductive Y9(jg jh:Addr)(vs:je)(H:Hp)(Q:VK)(_:XK):Prop
 | mk (S d lk l:Addr) (ts:List ZR) (av:Nat->List Nat) (ho:Nat->Nat) (as:List YA) (kvs:List (Zd×V)) (ls:je) (bs:List Nat) (st:Nat) (_:vs=[.ref S,.int st,.ref l]) (_:YY jg jh H S d lk ts av ho as kvs ls) (_:H l=some (.lst (iN bs))) (_:bs.Nodup) (_:∀ b∈bs,b<ts.length/\1<=ho b/\(av b).length<=900) (_:∀ b:Nat,b<ts.length->l≠(as.getD b .d).ab) (_:∀ H':Hp,(∀ c o,(∀ b:Nat,b<ts.length->c≠(as.getD b .d).x/\c≠(as.getD b .d).ab)->H c=some o->H' c=some o)->(∀ c,H' c=none->H c=none)->YY jg jh H' S d lk ts (Us bs st av) (Uq bs ho) as kvs ls->Q .non H')
abbrev G2:List Str:=["self","stem","branches","branch","twig"]
theorem Xz:ZC G2 ["self","stem","branches"] (Ze MN):=Zs
theorem Ee(F:Zj K "take_over" "Shelf.take_over" MN f fd)(L:Y7 K mg jg jh)(DT:ZJ P w K mg base ZW 1 jg "twig_of" ["self","number"] (Z7 jg)):ZK P w K mg base ZW 2 f fd ["self","stem","branches"] (Y9 jg jh):=by
 refine F.ok Xz (fun vs H Q E h=>(by obtain ⟨_,_,_,_,_,_,_,_,_,_,_,_,rfl,_⟩:=h;rfl)) (fun cdv A outer s H vs Q E hr h=>?_)
 obtain ⟨S,d,lk,l,ts,av,ho,as,kvs,ls,bs,st,rfl,R,hl,jR,hb,hla,k⟩:=h;have nd:=Xz.nd;refine ⟨_,ZU (Ud PassesOwn.never rfl (VO (pv 2)) (WT 3 nd)
  (ZQ (Zk 4 nd (XR (E:=E0) (pv 0) L.cS DT hr XE (ZF (pv 3) ZG)))
  (ZQ (JM (pv 4) ZM GI)
  (ZU (Wx (QB zAs zA2 zA1 QL (VQ (pv 4) rfl) (ZF (pv 1) ZG))))))),?_⟩
 refine ⟨_,rfl,l,rfl,⟨_,ZL.of hl⟩,OD (K:=K) (a:=l) (xs:=iN bs) (fun i σ H2=>∃ x y:jf,σ=[some (.ref S),some (.int st),some (.ref l),x,y]/\(∀ c o,(∀ b:Nat,b<ts.length->c≠(as.getD b .d).x/\c≠(as.getD b .d).ab)->H c=some o->H2 c=some o)/\(∀ c,H2 c=none->H c=none)/\YY jg jh H2 S d lk ts (Us (bs.take i) st av) (Uq (bs.take i) ho) as kvs ls)
  ⟨_,_,rfl,fun c o _ e=>e,fun c e=>e,(by
   have e1:Us [] st av=av:=funext fun i=>if_neg (by simp)
   have e2:Uq [] ho=ho:=funext fun i=>if_neg (by simp)
   rw [show bs.take 0=[] from rfl,e1,e2];exact R)⟩ ?_ ?_ ?_⟩
 ·rintro i σ H2 _ ⟨x,y,rfl,k2,_,R2⟩;refine ZL.of (k2 _ _ (fun b hb=>⟨?_,hla b hb⟩) hl);obtain ⟨dx,hx⟩:=(R.tw b hb).tw.self;exact ZT hl hx
 ·rintro i u σ H2 hu2 ⟨x,y,rfl,k2,k3,R2⟩;unfold iN at hu2;rw [zAN] at hu2;obtain ⟨b,eb,rfl⟩:=zAt.mp hu2;obtain ⟨hbl,hb1,hb9⟩:=hb b (zAJ eb);have hnb:b∉bs.take i:=fun z=>by
   have hs:bs=bs.take i++b :: bs.drop (i+1):=by
    have hi:=(zAK.mp eb);obtain ⟨hi,e⟩:=hi;rw [<-e,<-zBk hi,zBG]
   rw [hs,zB0] at jR;exact jR.2.2 b z b (by simp) rfl
  have eho:Uq (bs.take i) ho b=ho b:=if_neg hnb;have eav:Us (bs.take i) st av b=av b:=if_neg hnb;obtain ⟨dS,hS⟩:=R2.sh.self;have Wb:=R2.tw b hbl;obtain ⟨dt,hx⟩:=Wb.tw.self;have hab:=Wb.tw.above;rw [eho] at hx;rw [eav] at hab;refine ⟨_,rfl,S,dS,_,rfl,hS,rfl,_,rfl,S,d,lk,ts.length,kvs,ls,(b:Int),.ref (as.getD b .d).x,rfl,R2.sh,R2.val b hbl,?_⟩;refine ⟨_,rfl,(as.getD b .d).x,jh,dt,_,.int (ho b:Nat),rfl,hx,L.cT,L.nho,rfl,_,_,rfl,rfl,dt,_,hx,zAB rfl,?_⟩;have eh:((ho b:Nat):Int) - 1=((ho b - 1:Nat):Int):=by lia
  have hx3:upd H2 (as.getD b .d).x (.ins jh dt (XB "holds" (.int (((ho b:Nat):Int) - 1)) (UO (.ref (as.getD b .d).th) (.ref (as.getD b .d).tg) (as.getD b .d).ab (ho b)))) (as.getD b .d).x=some (.ins jh dt (UO (.ref (as.getD b .d).th) (.ref (as.getD b .d).tg) (as.getD b .d).ab (ho b - 1))):=by rw [ZO,eh];rfl
  have xab:(as.getD b .d).ab≠(as.getD b .d).x:=ZT hab hx;have hab3:upd H2 (as.getD b .d).x (.ins jh dt (XB "holds" (.int (((ho b:Nat):Int) - 1)) (UO (.ref (as.getD b .d).th) (.ref (as.getD b .d).tg) (as.getD b .d).ab (ho b)))) (as.getD b .d).ab=some (.lst (iN (av b))):=by rw [ZV xab];exact hab
  have ke3:∀ c o,c≠(as.getD b .d).x->H2 c=some o->upd H2 (as.getD b .d).x (.ins jh dt (XB "holds" (.int (((ho b:Nat):Int) - 1)) (UO (.ref (as.getD b .d).th) (.ref (as.getD b .d).tg) (as.getD b .d).ab (ho b)))) c=some o:=fun c o n e=>by rw [ZV n];exact e
  have no3:∀ c,upd H2 (as.getD b .d).x (.ins jh dt (XB "holds" (.int (((ho b:Nat):Int) - 1)) (UO (.ref (as.getD b .d).th) (.ref (as.getD b .d).tg) (as.getD b .d).ab (ho b)))) c=none->H2 c=none:=fun c e=>by
   by_cases z:c=(as.getD b .d).x
   ·rw [z,ZO] at e;cases e
   ·rw [ZV z] at e;exact e
  generalize upd H2 (as.getD b .d).x (.ins jh dt (XB "holds" (.int (((ho b:Nat):Int) - 1)) (UO (.ref (as.getD b .d).th) (.ref (as.getD b .d).tg) (as.getD b .d).ab (ho b))))=H3 at hx3 hab3 ke3 no3 ⊢;refine ⟨_,rfl,(as.getD b .d).x,jh,dt,_,.ref (as.getD b .d).ab,rfl,hx3,L.cT,L.nab,rfl,.inl ⟨rfl,_,ZL.of hab3⟩,_,rfl,(as.getD b .d).ab,_,.int st,rfl,rfl,hab3,XG (by rw [show (iN (av b)).length=(av b).length from zAD _];lia),?_⟩
  have et:bs.take (i+1)=bs.take i++[b]:=by rw [zAi,eb];rfl
  refine ⟨_,_,rfl,fun c o hc e=>?_,fun c e=>?_,?_⟩
  ·obtain ⟨n1,n2⟩:=hc b hbl;rw [ZV n2];exact ke3 _ _ n1 (k2 c o hc e)
  ·by_cases z:c=(as.getD b .d).ab
   ·rw [z,ZO] at e;cases e
   ·rw [ZV z] at e;exact k3 c (no3 c e)
  ·rw [et,<-G9 hnb,<-ZKc hnb];refine R2.touch hbl ⟨dt,?_⟩ ?_ fun c o n1 n2 e=>?_
   ·rw [ZV (Ne.symm xab),eho];exact hx3
   ·rw [ZO,eav];simp [iN]
   ·rw [ZV n2];exact ke3 _ _ n1 e
 ·rintro σ H2 ⟨x,y,rfl,k2,k3,R2⟩;rw [show (iN bs).length=bs.length from zAD _,zAS (zAH _)] at R2;exact k H2 k2 k3 R2
theorem AM{X:Cx}{k:Nat}{C:Addr}{x:Str}{ps:List Str}{sp:Sp}{e:Expr}{es:List Expr}{t:TA}{p pos:Pos}(D:V9 X.prog X.w X.K X.mg X.base k C ps sp)(hr:ZY (k+1) X.A)(hg:Gl X x)(hm:X.mg x=some (.ref C))(ha:PA X (e :: es) t)(jy:(x==("__debug__" : Str))=false:=by decide)(he:starEach (e :: es) X.env=(false,eval e X.env) :: starEach es X.env:=by rfl)(jv:(backTo pos (starEach es X.env)).any (·.1)=false:=by rfl):
  PE X (.Call (.Name x p) (e :: es) [] pos) (Ng C sp [] E0 t):=by
 obtain ⟨f,fd,M,F,b⟩:=D.ex;exact AC M F hr hg hm b .nil XE ha jy he jv
theorem Ds{X:Cx}{k:Nat}{C:Addr}{x:Str}{ps:List Str}{sp:Sp}{p pos:Pos}(D:V9 X.prog X.w X.K X.mg X.base k C ps sp)(hr:ZY (k+1) X.A)(hg:Gl X x)(hm:X.mg x=some (.ref C))(jy:(x==("__debug__" : Str))=false:=by decide):PE X (.Call (.Name x p) [] [] pos) (Ng C sp [] E0 Vs):=by
 obtain ⟨f,fd,M,F,b⟩:=D.ex;exact ZJ7 M F hr hg hm b .nil XE jy
def Uz(n:Nat)(av:Nat->List Nat):Nat->List Nat:=fun i=>if i=n then [] else av i
def Ua(n:Nat)(ho:Nat->Nat):Nat->Nat:=fun i=>if i=n then 1 else ho i
theorem P5{ts:List ZR}{t:ZR}{i:Nat}(h:i<ts.length):gd (ts++[t]) i=gd ts i:=by
 unfold gd;rw [zAC,zAw h,<-zAC]
theorem Mz{ts:List ZR}{t:ZR}:gd (ts++[t]) ts.length=t:=by
 unfold gd;rw [zAC,zAh (zAH _)];simp
theorem Mh{as:List YA}{a:YA}{i:Nat}(h:i<as.length):(as++[a]).getD i .d=as.getD i .d:=by
 rw [zAC,zAw h,<-zAC]
theorem Ld{as:List YA}{a:YA}:(as++[a]).getD as.length .d=a:=by
 rw [zAC,zAh (zAH _)];simp
theorem Jr{jg jh:Addr}{H H':Hp}{S d lk:Addr}{ts:List ZR}{av:Nat->List Nat}{ho:Nat->Nat}{as:List YA}{kvs:List (Zd×V)}{ls:je}(R:YY jg jh H S d lk ts av ho as kvs ls){t:ZR}{x th tg ab:Addr}(fr:∀ b o,b≠S->b≠d->H b=some o->H' b=some o)(nx:H x=none)(nth:H th=none)(nab:H ab=none)(abth:ab≠th)(R':Y4 jg H' S d lk (ts.length+1) (XF kvs (.inl (ts.length:Int)) (.ref x)) ls)(W:Xs jh H' x (.ref th) (.ref tg) ab 1 [])(hth:∃ us,H' th=some (.lst us)/\(t.h=0->KeysAt H' (Z6 t.rows) us)/\(t.h≠0->us=iN t.bs))(htg:Ys H' (YM t) (.ref tg)):
  YY jg jh H' S d lk (ts++[t]) (Uz ts.length av) (Ua ts.length ho) (as++[⟨x,th,tg,ab⟩]) (XF kvs (.inl (ts.length:Int)) (.ref x)) ls:=by
 obtain ⟨⟨dS,hS⟩,hd,hl⟩:=R.sh;have m:Z2 H H':=fun c xs e=>fr c _ (ZT e hS) (ZT e hd) e;have en:(ts++[t]).length=ts.length+1:=by simp
 have nv:YN kvs (Sum.inl (ts.length:Int))=none:=R.none (by unfold inT;exact decide_eq_false (by lia))
 have lt_or:∀ i,i<(ts++[t]).length->i<ts.length\/i=ts.length:=fun i hi=>by rw [en] at hi;lia
 have el:as.length=ts.length:=R.len;have aL:∀ i,i<ts.length->(as++[(⟨x,th,tg,ab⟩:YA)]).getD i .d=as.getD i .d:=fun i hi=>Mh (by lia)
 have aN:(as++[(⟨x,th,tg,ab⟩:YA)]).getD ts.length .d=⟨x,th,tg,ab⟩:=by rw [<-el];exact Ld
 have old:∀ i,i<ts.length->∃ dx us o,H (as.getD i .d).x=some (.ins jh dx us)/\H (as.getD i .d).th=some (.lst o)/\H (as.getD i .d).ab=some (.lst (iN (av i))):=fun i hi=>by
  obtain ⟨dx,e1⟩:=(R.tw i hi).tw.self;obtain ⟨us,e2,_⟩:=(R.tw i hi).things;exact ⟨dx,_,us,e1,e2,(R.tw i hi).tw.above⟩
 have nS:x≠S:=(Zb hS nx).symm;have ablk:ab≠lk:=(Zb hl nab).symm;have thlk:th≠lk:=(Zb hl nth).symm;refine ⟨by rw [en];exact R',?_,fun i hi=>?_,by simp [el],fun i hi=>?_,fun i hi=>?_,fun i j hi hj jA=>?_⟩
 ·rw [Ow _ nv,zAX,R.keys,en,List.range_succ,zAX];rfl
 ·rw [Os];rcases lt_or i hi with c | rfl
  ·rw [if_neg (fun z=>by have:=Sum.inl.inj z;lia),aL i c]
   exact R.val i c
  ·rw [if_pos rfl,aN]
 ·rcases lt_or i hi with c | rfl
  ·have Wi:=R.tw i c;obtain ⟨dx,us,o,e1,e2,e3⟩:=old i c;have ni:i≠ts.length:=by lia
   have G:=Wi.frame m (fun o' e=>fr _ _ (R.own i c).1 (ZT e1 hd) e) (fun o' e=>fr _ _ (ZT e2 hS) (ZT e2 hd) e) (fun o' e=>fr _ _ (ZT e3 hS) (ZT e3 hd) e);rw [aL i c];refine ⟨?_,?_,?_⟩
   ·rw [show Uz ts.length av i=av i from if_neg ni,show Ua ts.length ho i=ho i from if_neg ni];exact G.tw
   ·rw [P5 c];exact G.things
   ·rw [P5 c];exact G.tag
  ·rw [aN];refine ⟨?_,?_,?_⟩
   ·rw [show Uz ts.length av ts.length=[] from if_pos rfl,show Ua ts.length ho ts.length=1 from if_pos rfl];exact W
   ·rw [Mz];exact hth
   ·rw [Mz];exact htg
 ·rcases lt_or i hi with c | rfl
  ·rw [aL i c];exact R.own i c
  ·rw [aN];exact ⟨nS,ablk,thlk,abth⟩
 ·rcases lt_or i hi with c | rfl
  ·rw [aL i c];rcases lt_or j hj with c2 | rfl
   ·rw [aL j c2];exact R.two i j c c2 jA
   ·rw [aN];obtain ⟨dx,us,o,e1,e2,e3⟩:=old i c;exact ⟨Zb e1 nx,Zb e3 nab,Zb e3 nth,Zb e2 nth⟩
  ·rw [aN];rcases lt_or j hj with c2 | rfl
   ·rw [aL j c2];obtain ⟨dx,us,o,e1,e2,e3⟩:=old j c2;exact ⟨(Zb e1 nx).symm,(Zb e3 nab).symm,(Zb e2 nab).symm,(Zb e2 nth).symm⟩
   ·exact absurd rfl jA
inductive Y1(jg jh:Addr)(vs:je)(H:Hp)(Q:VK)(_:XK):Prop
 | mk (S d lk:Addr) (n:Nat) (kvs:List (Zd×V)) (ls:je) (th tg:V) (_:vs=[.ref S,th,tg]) (_:Y4 jg H S d lk n kvs ls) (_:kvs.length<=900) (_:∀(H':Hp)(x ab:Addr),H x=none->H ab=none->(∀ b o,b≠S->b≠d->H b=some o->H' b=some o)->Y4 jg H' S d lk (n+1) (XF kvs (.inl (n:Int)) (.ref x)) ls->Xs jh H' x th tg ab 1 []->Q (.int (n:Int)) H')
theorem WO:ZC ["self","things","label","number"] ["self","things","label"] (Ze KM):=Zs
theorem ZHQ(F:Zj K "put_twig" "Shelf.put_twig" KM f fd)(L:Y7 K mg jg jh)(DM:V9 P w K mg base 1 jh ["self","things","tag"] (Ux jh)):ZK P w K mg base ZW 3 f fd ["self","things","label"] (Y1 jg jh):=by
 refine F.ok WO (fun vs H Q E h=>(by obtain ⟨_,_,_,_,_,_,_,_,rfl,_⟩:=h;rfl)) (fun cdv A outer s H vs Q E hr h=>?_)
 obtain ⟨S,d,lk,n,kvs,ls,th,tg,rfl,R,l100,k⟩:=h;have nd:=WO.nd;have hu:=Pe hr;refine ⟨_,ZQ (Zk 3 nd (VQ (pv 0) rfl)) (ZQ (Qu (pv 0) (Zv WJ (pv 3) ZM) rfl)
  (ZQ (JB hu (VQ (pv 0) rfl) (pv 3) (AM DM hr rfl L.twig (ZF (pv 1) (ZF (pv 2) ZG))) rfl) (ZU (Zg (pv 3))))),?_⟩
 obtain ⟨⟨dx,hS⟩,hd,hl⟩:=R;have Sd:S≠d:=ZT hS hd;have Sl:S≠lk:=ZT hS hl;have dl:d≠lk:=ZT hd hl;refine ⟨_,rfl,S,jg,dx,_,.int n,rfl,hS,L.cS,L.nf,rfl,?_⟩;refine ⟨_,rfl,_,_,rfl,rfl,_,rfl,S,jg,dx,_,rfl,hS,L.cS,L.nf,zAB rfl,?_⟩;have hS1:upd H S (.ins jg dx (XB "following" (.int ((n:Int)+1)) (Qo d lk n))) S=some (.ins jg dx (Qo d lk (n+1))):=ZO;have hd1:upd H S (.ins jg dx (XB "following" (.int ((n:Int)+1)) (Qo d lk n))) d=some (.dK kvs):=by rw [ZV (Ne.symm Sd)];exact hd
 have hl1:upd H S (.ins jg dx (XB "following" (.int ((n:Int)+1)) (Qo d lk n))) lk=some (.lst ls):=by rw [ZV (Ne.symm Sl)];exact hl
 have ke1:∀ b o,b≠S->H b=some o->upd H S (.ins jg dx (XB "following" (.int ((n:Int)+1)) (Qo d lk n))) b=some o:=fun b o n e=>by rw [ZV n];exact e
 have no1:∀ b,upd H S (.ins jg dx (XB "following" (.int ((n:Int)+1)) (Qo d lk n))) b=none->H b=none:=fun b e=>by
  by_cases z:b=S
  ·rw [z,ZO] at e;cases e
  ·rw [ZV z] at e;exact e
 generalize upd H S (.ins jg dx (XB "following" (.int ((n:Int)+1)) (Qo d lk n)))=H1 at hS1 hd1 hl1 ke1 no1 ⊢;refine ⟨_,rfl,_,rfl,fun x dt nx ndt ne=>?_⟩;have g1:=ZX ndt (.own x);have nx2:upd H1 dt (.own x) x=none:=by rw [ZV (Ne.symm ne)];exact nx
 have g2:=ZX nx2 (.ins jh dt []);have g:=g1.trans g2;refine ⟨x,dt,th,tg,rfl,ZO,fun H2 ab ke2 nab W=>⟨rfl,?_⟩⟩;have fr:∀ b o,H1 b=some o->H2 b=some o:=fun b o e=>ke2 b o (Zb e nx) (g b o e);have hS2:=fr _ _ hS1;have hd2:=fr _ _ hd1;have hl2:=fr _ _ hl1;have hab1:H1 ab=none:=g.free nab;obtain ⟨dx2,hx2⟩:=W.self;have xd:x≠d:=ZT hx2 hd2;have abd:ab≠d:=ZT W.above hd2;refine ⟨_,rfl,S,jg,dx,_,.ref d,rfl,hS2,L.cS,L.nk,rfl,_,rfl,d,_,rfl,UB.k (k:=Sum.inl (n:Int)) hd2 (XG (by lia)),?_⟩
 refine ⟨_,rfl,k _ x ab (no1 _ nx) (no1 _ hab1) (fun b o n1 n2 e=>?_) ⟨⟨dx,?_⟩,ZO,?_⟩ ⟨⟨dx2,?_⟩,?_⟩⟩
 ·rw [ZV n2];exact fr b o (ke1 b o n1 e)
 ·rw [ZV Sd];exact hS2
 ·rw [ZV (Ne.symm dl)];exact hl2
 ·rw [ZV xd];exact hx2
 ·rw [ZV abd];exact W.above
theorem AN{H:Hp}{rs:List Z5}{us:je}(h:KeysAt H (Z6 rs) us):IN H (rs.map (·.1)) us:=by
 have hl:us.length=rs.length:=by have:=h.length;rw [<-this];exact zAD _
 refine ⟨by rw [zAD];exact hl,fun i u e=>?_⟩
 obtain ⟨a,vk,vv,er,e1,e2,k1,_⟩:=Qp h e;refine ⟨a,vk,vv,e1,e2,?_⟩;rw [zAC,zAN,er];exact k1
inductive Uf(vs:je)(H:Hp)(Q:VK)(_:XK):Prop
 | mk (v:V) (t:KT) (_:vs=[v]) (_:ZD H t v) (_:t.fits 3=true) (_:∀ H',ZB H H'->Q v H')
theorem GM:ZC ["thing"] ["thing"] (Ze NK):=Zs
theorem Ec(F:Zj K "checked" "checked" NK f fd)(DI:ZA P w K mg base 6 "is_key" ["thing"] V3):ZK P w K mg base ZW 7 f fd ["thing"] Uf:=by
 refine F.ok GM (fun vs H Q E h=>(by obtain ⟨_,_,rfl,_⟩:=h;rfl)) (fun cdv A outer s H vs Q E hr h=>?_)
 obtain ⟨v,t,rfl,hv,hf,k⟩:=h;refine ⟨_,ZQ (Zz (Vh (XH (Zh DI hr (ZF (pv 0) ZG)))) Qs Z0) (ZU (Zg (pv 0))),?_⟩;refine ⟨_,rfl,v,t,3,rfl,hv,hf,fun H1 s1=>⟨_,rfl,?_⟩⟩;rw [hf];exact Zo ⟨_,rfl,k H1 s1⟩
inductive Xa(vs:je)(H:Hp)(Q:VK)(_:XK):Prop
 | mk (l:Addr) (us:je) (rs:List Z5) (_:vs=[.ref l]) (_:H l=some (.lst us)) (_:KeysAt H (Z6 rs) us) (_:∀ r∈rs,r.fit) (_:us.length<=100) (_:∀(H':Hp)(l':Addr)(us':je),ZB H H'->H l'=none->H' l'=some (.lst us')->KeysAt H' (Z6 rs) us'->Q (.ref l') H')
theorem ZJi:ZC ["rows"] ["rows"] (Ze Ll):=Zs
theorem EJ(F:Zj K "own_rows" "own_rows" Ll f fd)(DC:ZA P w K mg base 7 "checked" ["thing"] Uf):ZK P w K mg base ZW 8 f fd ["rows"] Xa:=by
 refine F.ok ZJi (fun vs H Q E h=>(by obtain ⟨_,_,_,rfl,_⟩:=h;rfl)) (fun cdv A outer s H vs Q E hr h=>?_)
 obtain ⟨l,us,rs,rfl,hl,hk,hf,h100,k⟩:=h;have lk:us.length=rs.length:=by have:=hk.length;rw [<-this];exact zAD _
 refine ⟨_,ZU (Zg (VR [] [] rfl (VO (pv 0)) (fun _ _ _ _ _=>VU)
   (fun _ _ _ _ _=>Yq (ZF (Zh DC hr (ZF (Zl (r:=YB K) YD (pv 0) ZM (fun _ _=>rfl)) ZG)) (ZF (Zh DC hr (ZF (Zl (r:=YB K) YD (pv 0) ZM (fun _ _=>rfl)) ZG)) ZG))) trivial)),?_⟩
 refine ⟨_,rfl,l,rfl,⟨us,ZL.of hl⟩,?_⟩;refine VV (n:=us.length) (fun i z=>us[i]? = some z) (fun D i ys H3=>ZB H H3/\H D=none/\KeysAt H3 (Z6 (rs.take i)) ys) (XG (by lia))
  (fun D i ys H3 hi hP=>⟨us,us[i],ZL.of (hP.1 _ _ hl),by simp [hi]⟩) (fun D i ys H3 z H4 hi hP hy=>⟨hy.1,hy.2 us (ZL.of (hP.1 _ _ hl))⟩) (fun D ys H3 hP=>⟨us,ZL.of (hP.1 _ _ hl),zAH _⟩)
  (fun D hD=>⟨ZX hD _,hD,.nil⟩) (fun D i ys H3 z eD hl' hi hz hP R hR=>?_) (fun D ys H3 eD hP=>?_)
 ·obtain ⟨s3,nD,hys⟩:=hP;obtain ⟨a,vk,vv,er,rfl,e2,k1,k2⟩:=Qp hk hz;have e3:=s3 _ _ e2;have hfit:=hf _ (zAJ er);refine ⟨_,rfl,.inr (.inl ⟨a,_,_,vk,rfl,rfl,Zn.of e3,rfl,vk,_,rfl,k1.mono (ZB.tups s3) _ _,hfit.1,fun H4 s4=>?_⟩)⟩;refine ⟨_,rfl,.inr (.inl ⟨a,_,_,vv,rfl,rfl,Zn.of (s4 _ _ e3),rfl,vv,_,rfl,k2.mono (ZB.tups (s3.trans s4)) _ _,hfit.2,fun H5 s5=>?_⟩)⟩;refine ⟨nn (zAB rfl),fun q hq=>?_⟩;have g:=ZX hq (.tup [vk,vv]);have s36:=(s4.trans s5).trans g;have eD6:=s36 _ _ eD;have tD:Z2 (upd H5 q (.tup [vk,vv])) (upd (upd H5 q (.tup [vk,vv])) D (.lst (ys++[.ref q]))):=fun b xs e=>by rw [ZV (ZT e eD6)];exact e
  refine hR _ _ eD6 ⟨UQ (s3.trans s36) nD,nD,?_⟩;rw [zAi,er,LE];refine ((hys.mono (ZB.tups s36) _ _).mono tD _ _).append (.cons (.tup (tD _ _ ZO) (.cons ?_ (.cons ?_ .nil))) .nil)
  ·exact (k1.mono (ZB.tups (s3.trans s36)) _ _).mono tD _ _
  ·exact (k2.mono (ZB.tups (s3.trans s36)) _ _).mono tD _ _
 ·obtain ⟨s3,nD,hys⟩:=hP;rw [zAS (by lia)] at hys
  exact k H3 D ys s3 nD eD hys
inductive Wp(vs:je)(H:Hp)(Q:VK)(_:XK):Prop
 | mk (l:Addr) (us:je) (ks:List KT) (_:vs=[.ref l]) (_:H l=some (.lst us)) (_:KeysAt H ks us) (_:∀ t∈ks,t.fits 3=true) (_:us.length<=100) (_:ks.Pairwise (fun a b=>a.lt b=true)) (_:∀ H',ZB H H'->Q (.bl true) H')
theorem Fn:ZC ["keys"] ["keys"] (Ze MX):=Zs
theorem OJ{α:Type}{R:α->α->Prop}:∀{l:List α},l.Pairwise R->∀{i j:Nat}{a b:α},i<j->l[i]? = some a->l[j]? = some b->R a b
 | [],_,_,_,_,_,_,h,_=>by simp at h
 | x :: l,hp,0,j+1,a,b,_,ha,hb=>by
  simp at ha hb;subst ha;exact (zA7.mp hp).1 b (zAJ hb)
 | x :: l,hp,i+1,j+1,a,b,jA,ha,hb=>by
  simp at ha hb;exact OJ (zA7.mp hp).2 (by lia) ha hb
theorem BS(F:Zj K "rise" "rise" MX f fd)(T:YG mg)(DA:ZA P w K mg base 7 "ahead" ["one","other"] Y2):ZK P w K mg base ZW 8 f fd ["keys"] Wp:=by
 refine F.ok Fn (fun vs H Q E h=>(by obtain ⟨_,_,_,rfl,_⟩:=h;rfl)) (fun cdv A outer s H vs Q E hr h=>?_)
 obtain ⟨l,us,ks,rfl,hl,hk,hf,h100,hup,k⟩:=h;have lk:=hk.length;refine ⟨_,ZU (Zg (Zy (No rfl) rfl T.all O2 (ZF (VR [0] ["keys"] rfl (KK rfl T.range (ZF ZM (ZF (Zy Xh rfl T.len XY (ZF (pv 0) ZG)) ZG))) (fun _ _ _ _ _=>VU)
  (fun _ _ _ _ _=>Zh DA hr (ZF (Zl (r:=YB K) YD (pv 1) (Zv Vo (pv 0) ZM) (fun _ _=>rfl)) (ZF (Zl (r:=YB K) YD (pv 1) (pv 0) (fun _ _=>rfl)) ZG))) ⟨rfl,.inl rfl,rfl,trivial⟩) ZG))),?_⟩
 refine ⟨_,rfl,l,us,rfl,.inl (ZL.of hl),1,(us.length:Int),rfl,⟨by lia,by lia,by lia,by lia⟩,?_⟩
 refine VV (n:=((us.length:Int) - 1).toNat) (fun i x=>x=.int (1+(i:Int))) (fun D i ys H3=>ZB H H3/\H D=none/\ys=(zBa i true).map V.bl) (XG (by lia))
  (fun D i ys H3 hi _=>hi) (fun D i ys H3 x H4 hi _ hy=>hy) (fun D ys H3 _=>zAH _) (fun D hD=>⟨ZX hD _,hD,rfl⟩) (fun D i ys H3 x eD hl' hi hx hP R hR=>?_) (fun D ys H3 eD hP=>?_)
 ·subst hx;obtain ⟨s3,nD,rfl⟩:=hP;have hi1:i+1<us.length:=by lia
  have ua:us[i]? = some (us[i]'(by lia)):=zAE (by lia)
  have ub:us[i+1]? = some us[i+1]:=zAE hi1;have e1:(1:Int)+(i:Int)=((i+1:Nat):Int):=by lia
  have e0:(1:Int)+(i:Int) - 1=((i:Nat):Int):=by lia
  obtain ⟨a,ea,ka⟩:=hk.get ua;obtain ⟨b,eb,kb⟩:=hk.get ub;have hl3:=s3 _ _ hl;refine ⟨_,rfl,_,rfl,_,_,rfl,rfl,.inl ⟨l,us,_,_,rfl,rfl,ZL.of hl3,(by rw [e0];exact Yz ua),?_⟩⟩
  refine ⟨_,rfl,_,rfl,.inl ⟨l,us,_,_,rfl,rfl,ZL.of hl3,(by rw [e1];exact Yz ub),?_⟩⟩
  refine ⟨_,_,a,b,rfl,ka.mono (ZB.tups s3) _ _,kb.mono (ZB.tups s3) _ _,hf a (zAJ ea),hf b (zAJ eb),fun H4 s4=>?_⟩;rw [OJ hup (zB7 i) ea eb];refine hR _ H4 (s4 D _ eD) ⟨UQ (s3.trans s4) nD,nD,?_⟩;rw [List.replicate_succ',zAX];rfl
 ·obtain ⟨s3,nD,rfl⟩:=hP;refine ⟨D,_,rfl,ZL.of eD,?_⟩;have e:(zBa ((us.length:Int) - 1).toNat true).all id=true:=by simp
  rw [e];exact k H3 s3
def Qj(rs:List Z5):Prop:=(∀ r∈rs,r.fit)/\0<rs.length/\rs.length<=4/\(rs.map (·.1)).Pairwise (fun a b=>a.lt b=true)
inductive X8(vs:je)(H:Hp)(Q:VK)(_:XK):Prop
 | mk (l:Addr) (us:je) (rs:List Z5) (_:vs=[.ref l]) (_:H l=some (.lst us)) (_:KeysAt H (Z6 rs) us) (_:Qj rs) (_:∀(H':Hp)(l':Addr)(us':je),ZB H H'->H l'=none->H' l'=some (.lst us')->KeysAt H' (Z6 rs) us'->Q (.ref l') H')
theorem VE:ZC ["rows","own"] ["rows"] (Ze Mf):=Zs
theorem BR(F:Zj K "checked_rows" "checked_rows" Mf f fd)(T:YG mg)(DC:ZA P w K mg base 8 "own_rows" ["rows"] Xa)(DR:ZA P w K mg base 8 "rise" ["keys"] Wp):ZK P w K mg base ZW 9 f fd ["rows"] X8:=by
 refine F.ok VE (fun vs H Q E h=>(by obtain ⟨_,_,_,rfl,_⟩:=h;rfl)) (fun cdv A outer s H vs Q E hr h=>?_)
 obtain ⟨l,us,rs,rfl,hl,hk,⟨hf,h0,h4,hup⟩,k⟩:=h;have nd:=VE.nd;have lk:us.length=rs.length:=by have:=hk.length;rw [<-this];exact zAD _
 obtain ⟨t4,m4⟩:=T.rows;refine ⟨_,ZQ (Zk 1 nd (Zh DC hr (ZF (pv 0) ZG)))
  (ZQ (Zz (PW.pt (Pc (Vh (Mi PY PY ZM (Zy Xh rfl T.len XY (ZF (pv 1) ZG)) (WE (v:=.int 4) rfl m4 ⟨_,rfl⟩)))
   (Pu (Vh (XH (Zh DR hr (ZF (VR [] [] rfl (VO (pv 1)) (fun _ _ _ _ _=>VU) (fun _ _ _ _ _=>Zl (r:=YB K) YD (pv 0) ZM (fun _ _=>rfl)) trivial) ZG))))))) Qs Z0)
  (ZU (Zg (pv 1)))),?_⟩
 refine ⟨_,rfl,l,us,rs,rfl,hl,hk,hf,by lia,fun H3 D ys s3 nD eD hrw=>?_⟩
 have ly:ys.length=rs.length:=by have:=hrw.length;rw [<-this];exact zAD _
 refine ⟨_,rfl,D,ys,rfl,.inl (ZL.of eD),_,_,rfl,rfl,_,rfl,?_⟩;rw [decide_eq_true (show (1:Int)<=(ys.length:Int) by lia)]
 refine Zw ⟨_,_,rfl,rfl,_,rfl,?_⟩;rw [decide_eq_true (show (ys.length:Int)<=4 by lia)]
 refine Zo ?_;refine ⟨_,rfl,D,rfl,⟨ys,ZL.of eD⟩,?_⟩;refine VV (n:=ys.length) (fun i z=>ys[i]? = some z) (fun D2 i zs H4=>ZB H3 H4/\H3 D2=none/\KeysAt H3 ((rs.map (·.1)).take i) zs) (XG (by lia))
  (fun D2 i zs H4 hi hP=>⟨ys,ys[i],ZL.of (hP.1 _ _ eD),by simp [hi]⟩) (fun D2 i zs H4 z H5 hi hP hy=>⟨hy.1,hy.2 ys (ZL.of (hP.1 _ _ eD))⟩) (fun D2 zs H4 hP=>⟨ys,ZL.of (hP.1 _ _ eD),zAH _⟩)
  (fun D2 hD2=>⟨ZX hD2 _,hD2,.nil⟩) (fun D2 i zs H4 z eD2 hl2 hi hz hP R hR=>?_) (fun D2 zs H4 eD2 hP=>?_)
 ·obtain ⟨s4,nD2,hzs⟩:=hP;obtain ⟨a,vk,vv,er,rfl,e2,k1,_⟩:=Qp hrw hz;refine ⟨_,rfl,.inr (.inl ⟨a,_,_,vk,rfl,rfl,Zn.of (s4 _ _ e2),rfl,?_⟩)⟩;refine hR _ H4 eD2 ⟨UQ s4 nD2,nD2,?_⟩;rw [zAi,zAN,er];exact hzs.append (.cons k1 .nil)
 ·obtain ⟨s4,nD2,hzs⟩:=hP;rw [zAS (by rw [zAD];lia)] at hzs
  have lz:=hzs.length;rw [zAD] at lz;refine ⟨D2,zs,_,rfl,eD2,hzs.mono (ZB.tups s4) _ _,fun t ht=>?_,by lia,hup,fun H5 s5=>⟨_,rfl,Zo ⟨_,rfl,k H5 D ys ((s3.trans s4).trans s5) nD (s5 _ _ (s4 _ _ eD)) (hrw.mono (ZB.tups (s4.trans s5)) _ _)⟩⟩⟩
  obtain ⟨r,hr',rfl⟩:=zAf.mp ht;exact (hf r hr').1
def Vx(rs:List Z5):ZR:=⟨0,rs,[]⟩
inductive YU(jg jh:Addr)(vs:je)(H:Hp)(Q:VK)(_:XK):Prop
 | mk (S d lk l:Addr) (ts:List ZR) (av:Nat->List Nat) (ho:Nat->Nat) (as:List YA) (kvs:List (Zd×V)) (ls us:je) (rs:List Z5) (_:vs=[.ref S,.ref l]) (_:YY jg jh H S d lk ts av ho as kvs ls) (_:ts.length<=900) (_:H l=some (.lst us)) (_:KeysAt H (Z6 rs) us) (_:Qj rs) (_:∀(H':Hp)(a:YA),H a.x=none->H a.th=none->H a.ab=none->(∀ b o,b≠S->b≠d->H b=some o->H' b=some o)->YY jg jh H' S d lk (ts++[Vx rs]) (Uz ts.length av) (Ua ts.length ho) (as++[a]) (XF kvs (.inl (ts.length:Int)) (.ref a.x)) ls->Q (.int (ts.length:Nat)) H')
theorem WR:ZC ["self","rows","own"] ["self","rows"] (Ze Mb):=Zs
theorem GS{jg jh:Addr}{H:Hp}{S d lk:Addr}{ts:List ZR}{av:Nat->List Nat}{ho:Nat->Nat}{as:List YA}{kvs:List (Zd×V)}{ls:je}(R:YY jg jh H S d lk ts av ho as kvs ls):kvs.length=ts.length:=by
 have:=congrArg zCB R.keys;simpa using this
def Zr(ts:List ZR)(bs:List Nat):List Z5:=bs.flatMap fun b=>(gd ts b).rows
def Xg(ts:List ZR)(bs:List Nat):ZR:=⟨(gd ts (bs.getD 0 0)).h+1,Zr ts bs,bs⟩
def Nb(ts:List ZR):List Nat->Prop
 | a :: b :: r=>(YM (gd ts a)).hi.lt (YM (gd ts b)).lo=true/\Nb ts (b :: r)
 | _=>True
theorem Ku{ts:List ZR}:∀{bs:List Nat},(∀ j,j+1<bs.length->((Y6 ts bs).getD j .d).hi.lt ((Y6 ts bs).getD (j+1) .d).lo=true)->Nb ts bs
 | [],_=>trivial
 | [_],_=>trivial
 | a :: b :: r,h=>⟨h 0 (by simp),Ku (bs:=b :: r) fun j hj=>h (j+1) (by simp at hj ⊢;lia)⟩
theorem QY{t:ZR}(jq:t.rows≠[]):∃ r rs,t.rows=r :: rs/\(YM t).lo=r.1:=by
 cases e:t.rows with
 | nil=>exact absurd e jq
 | cons r rs=>exact ⟨r,rs,rfl,by unfold YM;rw [e];rfl⟩
theorem MH{t:ZR}(jq:t.rows≠[]):∃ rs r,t.rows=rs++[r]/\(YM t).hi=r.1:=by
 rcases zCX t.rows with e | ⟨rs,r,e⟩
 ·exact absurd e jq
 ·rw [zCY] at e;refine ⟨rs,r,e,?_⟩;unfold YM;rw [e];simp [zAC]
theorem AT{gt:List KT}{ts:List ZR}{i:Nat}{t:ZR}(h:Xt gt ts i t){x:KT}(hx:x∈t.rows.map (·.1)){y:KT}(hy:(YM t).hi.lt y=true):x.lt y=true:=by
 obtain ⟨rs,r,e,eh⟩:=MH h.ne;have up:=h.up;rw [e,zAX] at up hx;rw [eh] at hy;rcases zAd.mp hx with hx | hx
 ·have:=(zB8.mp up).2.2 x hx r.1 (by simp)
  exact lt_trans' _ _ _ this hy
 ·simp at hx;rw [hx];exact hy
theorem Ei{gt:List KT}{ts:List ZR}{bs:List Nat}{l:List KT}(hp:l.Pairwise fun a b=>a.lt b=true){z:KT}(e:l.head? = some z){x:KT}(hx:x.lt z=true):∀ y∈l,x.lt y=true:=by
 cases l with
 | nil=>cases e
 | cons a l=>
  simp at e;subst e;intro y hy;rcases zAe.mp hy with rfl | hy
  ·exact hx
  ·exact lt_trans' _ _ _ hx ((zA7.mp hp).1 y hy)
theorem IP{gt:List KT}{ts:List ZR}(hw:WF gt ts):∀{bs:List Nat},(∀ b∈bs,b<ts.length)->Nb ts bs->((Zr ts bs).map (·.1)).Pairwise (fun a b=>a.lt b=true)/\bs.Nodup
 | [],_,_=>⟨zDR.nil,List.nodup_nil⟩
 | [a],hb,_=>by
  refine ⟨?_,by simp⟩
  have:=(hw a _ (XD (hb a (by simp)))).up
  simpa [Zr] using this
 | a :: b :: r,hb,hn=>by
  obtain ⟨h1,h2⟩:=IP hw (bs:=b :: r) (fun c hc=>hb c (zAL _ hc)) hn.2;have oa:=hw a _ (XD (hb a (by simp)))
  have ob:=hw b _ (XD (hb b (by simp)))
  obtain ⟨rb,rs,eb,el⟩:=QY ob.ne;have hd:((Zr ts (b :: r)).map (·.1)).head? = some (YM (gd ts b)).lo:=by
   rw [el];unfold Zr;rw [zBM,eb];rfl
  have cross:∀ x∈(gd ts a).rows.map (·.1),∀ y∈(Zr ts (b :: r)).map (·.1),x.lt y=true:=fun x hx=>Ei (gt:=gt) (ts:=ts) (bs:=[]) h1 hd (AT oa hx hn.1);refine ⟨?_,zBU.mpr ⟨fun hm=>?_,h2⟩⟩
  ·have e:Zr ts (a :: b :: r)=(gd ts a).rows++Zr ts (b :: r):=by simp [Zr]
   rw [e,zAX];exact zB8.mpr ⟨oa.up,h1,cross⟩
  ·obtain ⟨ra,rs',ea,_⟩:=QY oa.ne;have m1:ra.1∈(gd ts a).rows.map (·.1):=by rw [ea];simp
   have m2:ra.1∈(Zr ts (b :: r)).map (·.1):=zAf.mpr ⟨ra,zCR.mpr ⟨a,hm,by rw [ea];simp⟩,rfl⟩
   have:=cross _ m1 _ m2;rw [Ur] at this;cases this
theorem Qe{ts:List ZR}{bs:List Nat}{i:Nat}(hi:i<bs.length):(Y6 ts bs).getD i .d=YM (gd ts (bs.getD i 0)):=by
 unfold Y6;rw [zAC,zAN,zAE hi,zAC,zAE hi];rfl
theorem JQ{gt:List KT}{ts:List ZR}(hw:WF gt ts){bs:List Nat}(hb:∀ b∈bs,b<ts.length){L:YT}(h:over (Y6 ts bs)=some L):
  L=YM (Xg ts bs)/\bs.Nodup/\2<=bs.length/\bs.length<=4/\(∀ b∈bs,(gd ts b).h+1=(Xg ts bs).h)/\((Zr ts bs).map (·.1)).Pairwise (fun a b=>a.lt b=true)/\Zr ts bs≠[]:=by
 unfold over at h;split at h
 case isFalse=>cases h
 case isTrue hc=>
  obtain ⟨h2,h4,hk⟩:=hc;have ll:(Y6 ts bs).length=bs.length:=zAD _;rw [ll] at h2 h4;have hl:=Uk.mpr hk;unfold LL at hl;rw [ll] at hl;have hnb:Nb ts bs:=Ku fun j hj=>(hl j hj).2;obtain ⟨hup,jR⟩:=IP hw hb hnb;have hh:∀ i,i<bs.length->((Y6 ts bs).getD i .d).h=((Y6 ts bs).getD 0 .d).h:=fun i hi=>by
   cases i with
   | zero=>rfl
   | succ i=>exact (hl i hi).1
  have hmem:∀ i,i<bs.length->bs.getD i 0∈bs:=fun i hi=>by rw [zAC,zAE hi];exact zAy _
  have o0:=hw _ _ (XD (hb _ (hmem 0 (by lia))))
  have ol:=hw _ _ (XD (hb _ (hmem (bs.length - 1) (by lia))))
  have hhb:∀ b∈bs,(gd ts b).h+1=(Xg ts bs).h:=fun b hb'=>by
   obtain ⟨i,hi,e⟩:=List.getElem_of_mem hb';have:=hh i hi;rw [Qe hi,Qe (by lia)] at this
   have e2:bs.getD i 0=b:=by rw [zAC,zAE hi,e];rfl
   rw [e2] at this;have:=Int.ofNat.inj this;show (gd ts b).h+1=(gd ts (bs.getD 0 0)).h+1
   lia
  have jq:Zr ts bs≠[]:=fun z=>by
   obtain ⟨r,rs,e,_⟩:=QY o0.ne;have:r∈Zr ts bs:=zCR.mpr ⟨_,hmem 0 (by lia),by rw [e];simp⟩
   rw [z] at this;simp at this
  refine ⟨?_,jR,h2,h4,hhb,hup,jq⟩;rw [<-zAj.inj h];have elo:((Y6 ts bs).getD 0 .d).lo=(YM (Xg ts bs)).lo:=by
   rw [Qe (by lia)]
   obtain ⟨r,rs,e,el⟩:=QY o0.ne;rw [el]
   cases bs with
   | nil=>simp at h2
   | cons b bs=>
    unfold YM Xg Zr;have e':(gd ts b).rows=r :: rs:=e;simp only [zBM,e'];rfl
  have ehi:((Y6 ts bs).getD ((Y6 ts bs).length - 1) .d).hi=(YM (Xg ts bs)).hi:=by
   rw [ll,Qe (by lia)]
   obtain ⟨rs,r,e,el⟩:=MH ol.ne;rw [el];rcases zCX bs with z | ⟨bi,b,z⟩
   ·rw [z] at h2;simp at h2
   ·rw [zCY] at z;have eb:bs.getD (bs.length - 1) 0=b:=by rw [z];simp [zAC]
    rw [eb] at e;have er:Zr ts bs=Zr ts bi++rs++[r]:=by rw [z];simp [Zr,e]
    unfold YM Xg;simp only [er];simp [zAC]
  have em:((Y6 ts bs).map YT.m).sum=(YM (Xg ts bs)).m:=by
   have:∀ l:List Nat,((Y6 ts l).map YT.m).sum=((Zr ts l).length:Int):=fun l=>by
    induction l with
    | nil=>rfl
    | cons b l ih=>
     have e1:Y6 ts (b :: l)=YM (gd ts b) :: Y6 ts l:=rfl;have e2:Zr ts (b :: l)=(gd ts b).rows++Zr ts l:=by simp [Zr]
     rw [e1,e2,zAa,zBX,ih,zAG];show ((gd ts b).rows.length:Int)+_=_
     lia
   exact this bs
  have eh:((Y6 ts bs).getD 0 .d).h+1=(YM (Xg ts bs)).h:=by
   rw [Qe (by lia)]
   show ((gd ts (bs.getD 0 0)).h:Int)+1=(((gd ts (bs.getD 0 0)).h+1:Nat):Int)
   lia
  rw [elo,ehi,em,eh]
theorem Xt.ext{gt:List KT}{ts:List ZR}{t:ZR}{i:Nat}{u:ZR}(h:Xt gt ts i u)(hi:i<=ts.length):Xt gt (ts++[t]) i u:=by
 refine ⟨h.ne,h.up,h.inn,h.leaf,fun z=>?_⟩;obtain ⟨h1,h2,h3,h4⟩:=h.stem z;have e:∀ b∈u.bs,gd (ts++[t]) b=gd ts b:=fun b hb=>P5 (by have:=(h3 b hb).1;lia)
 refine ⟨h1,h2,fun b hb=>⟨(h3 b hb).1,by rw [e b hb];exact (h3 b hb).2⟩,?_⟩
 rw [h4];clear h1 h2 h3 h4;have:∀ l:List Nat,(∀ b∈l,gd (ts++[t]) b=gd ts b)->(l.flatMap fun b=>(gd ts b).rows)=l.flatMap fun b=>(gd (ts++[t]) b).rows:=fun l hl=>by
  induction l with
  | nil=>rfl
  | cons b l ih=>rw [zBM,zBM,hl b (by simp),ih fun c hc=>hl c (zAL _ hc)]
 exact this _ e
theorem WF.push{gt:List KT}{ts:List ZR}{t:ZR}(hw:WF gt ts)(h:Xt gt ts ts.length t):WF gt (ts++[t]):=fun i u e=>by
 rcases zAg i ts.length with hi | hi
 ·rw [zAw hi] at e;exact (hw i u e).ext (zBJ hi)
 ·rw [zAh hi] at e;have hi0:i - ts.length=0:=by
   rcases Nat.eq_zero_or_pos (i - ts.length) with z | z
   ·exact z
   ·rw [zCW (by simp;lia)] at e;cases e
  rw [hi0] at e;simp at e;subst e;have:i=ts.length:=by lia
  rw [this];exact h.ext (zAH _)
theorem FL{gt:List KT}{ts:List ZR}(hw:WF gt ts){bs:List Nat}(hb:∀ b∈bs,b<ts.length){L:YT}(h:over (Y6 ts bs)=some L):Xt gt ts ts.length (Xg ts bs):=by
 obtain ⟨_,_,h2,h4,hh,hup,jq⟩:=JQ hw hb h;refine ⟨jq,hup,fun r hr=>?_,fun z=>absurd z (by show (gd ts (bs.getD 0 0)).h+1≠0;lia),fun _=>⟨h2,h4,fun b hb'=>⟨hb b hb',hh b hb'⟩,rfl⟩⟩
 obtain ⟨b,hb',hr'⟩:=zCR.mp hr;exact (hw b _ (XD (hb b hb'))).inn r hr'
theorem ZKI{gt:List KT}{ts:List ZR}(hw:WF gt ts){bs:List Nat}(hb:∀ b∈bs,b<ts.length)(i:Nat):((Y6 ts bs).getD i .d).fit:=by
 rcases zAg i bs.length with hi | hi
 ·rw [Qe hi];refine Hh (hw _ _ (XD (hb _ ?_)));rw [zAC,zAE hi];exact zAy _
 ·rw [zAC,zCW (by unfold Y6;rw [zAD];exact hi)]
  exact ZPA
abbrev B9:List Str:=["labels","at","many"]
theorem Uj:ZC B9 ["labels"] (Ze KS):=Zs
theorem Bb(D:ZA P w K mg base 6 "is_key" ["thing"] XL):ZA P w K mg base 6 "is_key" ["thing"] V3:=by
 obtain ⟨g,gd,FG,b,kp,m⟩:=D.ex;refine ⟨g,gd,FG.imp fun vs H Q E h=>?_,b,kp,m⟩;obtain ⟨v,t,q,e,hk,hf,k⟩:=h;exact ⟨v,t.emb,fun _=>False,e,Ny t v hk,LM t q hf,fun H' s'=>by rw [LN];exact k H' s'⟩
end
theorem AG{ls:List YT}{L:YT}(h:over ls=some L):2<=ls.length/\ls.length<=4/\NJ ls=true/\L=⟨(ls.getD 0 .d).h+1,(ls.getD 0 .d).lo,(ls.getD (ls.length - 1) .d).hi,(ls.map YT.m).sum⟩:=by
 unfold over at h;split at h
 ·rename_i z
  cases h;exact ⟨z.1,z.2.1,z.2.2,rfl⟩
 ·cases h
section
variable{P:Program}{w:World}{K:zAA}{mg:jb}{base:Heap}{f:Addr}{fd:FuncData}{jg jh:Addr}
inductive Wq(vs:je)(H:Hp)(Q:VK)(_:XK):Prop
 | mk (l:Addr) (us:je) (ls:List YT) (L:YT) (_:vs=[.ref l]) (_:H l=some (.lst us)) (_:Yb H ls us) (_:∀ i,(ls.getD i .d).fit) (_:over ls=some L) (_:∀ H' v,ZB H H'->ZD H' L.kt v->Q v H')
theorem ZLH(F:Zj K "label_over" "label_over" KS f fd)(T:YG mg)(DS:ZA P w K mg base 8 "stand_side_by_side" ["label","following"] VZ):ZK P w K mg base ZW 9 f fd ["labels"] Wq:=by
 refine F.ok Uj (fun vs H Q E h=>(by obtain ⟨_,_,_,_,rfl,_⟩:=h;rfl)) (fun cdv A outer s H vs Q E hr h=>?_)
 obtain ⟨l,us,ls,L,rfl,hl,hk,hf,hov,k⟩:=h;obtain ⟨v2,v4,vc,rfl⟩:=AG hov;have nd:=Uj.nd;have hlen:=hk.1;obtain ⟨tf,mf⟩:=T.few;obtain ⟨tm,mm⟩:=T.most;obtain ⟨t0,m0⟩:=T.height;obtain ⟨t1,m1⟩:=T.least;obtain ⟨t2,m2⟩:=T.greatest;obtain ⟨t3,m3⟩:=T.many;refine ⟨_,ZQ (Zz (Vh (Mi PY PY (WE (v:=.int 2) rfl mf ⟨_,rfl⟩) (Zy Xh rfl T.len XY (ZF (pv 0) ZG)) (WE (v:=.int 4) rfl mm ⟨_,rfl⟩))) Qs Z0)
  (ZQ (Ud PassesOwn.never rfl (KK rfl T.range (ZF ZM (ZF (Zy Xh rfl T.len XY (ZF (pv 0) ZG)) ZG))) (WT 1 nd)
   (ZU (Zz (Vh (XH (Zh DS hr (ZF (Zl (r:=YB K) YD (pv 0) (Zv Vo (pv 1) ZM) (fun _ _=>rfl)) (ZF (Zl (r:=YB K) YD (pv 0) (pv 1) (fun _ _=>rfl)) ZG))))) Qs Z0)))
  (ZQ (Zk 2 nd (Zy (LG rfl) rfl T.sum LK (ZF (VR [] [] rfl (VO (pv 0)) (fun _ _ _ _ _=>VU) (fun _ _ _ _ _=>Zl (r:=YB K) YD (pv 0) (WE (v:=.int 3) rfl m3 ⟨_,rfl⟩) (fun _ _=>rfl)) trivial) ZG)))
  (ZU (Zg (Yq (Vd (Zv WJ (Zl (r:=YB K) YD (Zl (r:=YB K) YD (pv 0) ZM (fun _ _=>rfl)) (WE (v:=.int 0) rfl m0 ⟨_,rfl⟩) (fun _ _=>rfl)) ZM)
   (Zl (r:=YB K) YD (Zl (r:=YB K) YD (pv 0) ZM (fun _ _=>rfl)) (WE (v:=.int 1) rfl m1 ⟨_,rfl⟩) (fun _ _=>rfl))
   (Zl (r:=YB K) YD (Zl (r:=YB K) YD (pv 0) (QX Qg ZM) (fun _ _=>rfl)) (WE (v:=.int 2) rfl m2 ⟨_,rfl⟩) (fun _ _=>rfl))
   (pv 2))))))),?_⟩
 have lab:∀(H':Hp)(i:Nat),ZB H H'->i<us.length->∃(a:Addr)(jK jL:V),us[i]? = some (.ref a)/\H' a=some (.tup [.int (ls.getD i .d).h,jK,jL,.int (ls.getD i .d).m])/\ZD H' (ls.getD i .d).lo jK/\ZD H' (ls.getD i .d).hi jL:=fun H' i s' hi=>by
  have hu:us[i]? = some us[i]:=zAE hi;obtain ⟨a,jK,jL,e,e1,k1,k2⟩:=(hk.2 i _ hu).mono (ZB.tups s');exact ⟨a,jK,jL,by rw [hu,e],e1,k1,k2⟩
 refine ⟨_,rfl,l,us,rfl,.inl (ZL.of hl),_,_,rfl,rfl,_,rfl,?_⟩;have h2:2<=us.length:=by lia
 have h4:us.length<=4:=by lia
 rw [decide_eq_true (show (2:Int)<=(us.length:Int) by lia)]
 refine Zw ⟨_,_,rfl,rfl,_,rfl,?_⟩;rw [decide_eq_true (show (us.length:Int)<=4 by lia)]
 refine Zo ?_;refine ⟨_,rfl,l,us,rfl,.inl (ZL.of hl),1,(us.length:Int),rfl,⟨by lia,by lia,by lia,by lia⟩,?_⟩
 refine PZ (lo:=1) (n:=((us.length:Int) - 1).toNat) (fun i σ H2=>∃ x:jf,σ=[some (.ref l),x,none]/\ZB H H2/\∀ j,j<i->Uu (ls.getD j .d) (ls.getD (j+1) .d)=true) ⟨_,rfl,ZB.refl H,fun j hj=>absurd hj (by lia)⟩ ?_ ?_
 ·rintro i σ H2 hi ⟨x,rfl,s2,hok⟩;have hi1:i+1<us.length:=by lia
  have ua:us[i]? = some (us[i]'(by lia)):=zAE (by lia)
  have ub:us[i+1]? = some us[i+1]:=zAE hi1;have e1:(1:Int)+(i:Int)=((i+1:Nat):Int):=by lia
  have e0:(1:Int)+(i:Int) - 1=((i:Nat):Int):=by lia
  have hl2:=s2 _ _ hl;refine ⟨_,rfl,_,rfl,_,_,rfl,rfl,.inl ⟨l,us,_,_,rfl,rfl,ZL.of hl2,(by rw [e0];exact Yz ua),?_⟩⟩
  refine ⟨_,rfl,_,rfl,.inl ⟨l,us,_,_,rfl,rfl,ZL.of hl2,(by rw [e1];exact Yz ub),?_⟩⟩
  refine ⟨_,_,ls.getD i .d,ls.getD (i+1) .d,rfl,(hk.2 i _ ua).mono (ZB.tups s2),(hk.2 (i+1) _ ub).mono (ZB.tups s2),hf i,hf (i+1),fun H3 s3=>⟨_,rfl,?_⟩⟩;have hc:Uu (ls.getD i .d) (ls.getD (i+1) .d)=true:=zAO.mp vc i (zA8.mpr (by lia))
  rw [hc];refine Zo ⟨_,rfl,s2.trans s3,fun j hj=>?_⟩;rcases zAg j i with c1 | c1
  ·exact hok j c1
  ·have:j=i:=by lia
   rw [this];exact hc
 rintro σ H2 ⟨x,rfl,s2,hok⟩;have hl2:=s2 _ _ hl;refine ⟨_,rfl,l,rfl,⟨us,ZL.of hl2⟩,?_⟩;refine VV (n:=us.length) (fun i z=>us[i]? = some z) (fun D i ys H3=>ZB H2 H3/\H2 D=none/\ys=((ls.map YT.m).take i).map V.int) (XG (by lia))
  (fun D i ys H3 hi hP=>⟨us,us[i],ZL.of (hP.1 _ _ hl2),by simp [hi]⟩) (fun D i ys H3 z H4 hi hP hy=>⟨hy.1,hy.2 us (ZL.of (hP.1 _ _ hl2))⟩) (fun D ys H3 hP=>⟨us,ZL.of (hP.1 _ _ hl2),zAH _⟩)
  (fun D hD=>⟨ZX hD _,hD,rfl⟩) (fun D i ys H3 z eD hl' hi hz hP R hR=>?_) (fun D ys H3 eD hP=>?_)
 ·obtain ⟨s3,nD,rfl⟩:=hP;obtain ⟨a,alo,ahi,ua,ea,ka1,ka2⟩:=lab H3 i (s2.trans s3) hi;rw [ua] at hz;cases hz;refine ⟨_,rfl,.inr (.inl ⟨a,_,_,.int (ls.getD i .d).m,rfl,rfl,Zn.of ea,rfl,?_⟩)⟩;refine hR _ H3 eD ⟨fun b o e=>by rw [ZV (Zb e nD)];exact s3 b o e,nD,?_⟩
  have eg:(ls.map YT.m)[i]? = some (ls.getD i .d).m:=by
   rw [zAN,zAC,zAE (show i<ls.length by lia)]
   rfl
  rw [zAi,eg,zAX];rfl
 ·obtain ⟨s3,nD,rfl⟩:=hP;rw [zAS (by rw [zAD];lia)] at eD
  refine ⟨D,ls.map YT.m,rfl,ZL.of eD,?_⟩;have s23:=s2.trans s3;have hl3:=s23 _ _ hl;obtain ⟨c,clo,chi,uc,ec,kc1,kc2⟩:=lab H3 0 s23 (by lia)
  obtain ⟨b,blo,bhi,ub,eb,kb1,kb2⟩:=lab H3 (us.length - 1) s23 (by lia)
  have elast:Xq us (-1)=some (.ref b):=by
   have e:us=us.dropLast++[.ref b]:=by
    have jq:us≠[]:=fun z=>by rw [z] at h2;simp at h2
    have hg:us.getLast jq=.ref b:=by
     rw [zDO];have:=(zAK.mp ub).2;exact this
    rw [<-hg,zC4]
   rw [e];exact GC _ _
  refine ⟨_,rfl,.inl ⟨l,us,_,.ref c,rfl,rfl,ZL.of hl3,Yz (j:=0) uc,.inr (.inl ⟨c,_,_,.int (ls.getD 0 .d).h,rfl,rfl,Zn.of ec,rfl,_,_,rfl,rfl,?_⟩)⟩⟩;refine ⟨_,rfl,.inl ⟨l,us,_,.ref c,rfl,rfl,ZL.of hl3,Yz (j:=0) uc,.inr (.inl ⟨c,_,_,clo,rfl,rfl,Zn.of ec,rfl,?_⟩)⟩⟩;refine ⟨_,rfl,1,rfl,.inl ⟨l,us,_,.ref b,rfl,rfl,ZL.of hl3,elast,.inr (.inl ⟨b,_,_,bhi,rfl,rfl,Zn.of eb,rfl,?_⟩)⟩⟩;refine ⟨_,rfl,nn (zAB rfl),fun p hp=>?_⟩;have g:=ZX hp (.tup [.int ((ls.getD 0 .d).h+1),clo,bhi,.int (ls.map YT.m).sum]);refine k _ _ (s23.trans g) ?_;rw [<-hlen];exact .tup ZO (.cons (.int _) (.cons (kc1.mono (ZB.tups g) _ _) (.cons (kb2.mono (ZB.tups g) _ _) (.cons (.int _) .nil))))
abbrev MA:Stmt:=VB (Zt 49) 19
abbrev Kd:Stmt:=VB (Zt 49) 20
abbrev N7:Stmt:=VB (Zt 49) 2
inductive Yu(jg jh:Addr)(vs:je)(H:Hp)(Q:VK)(_:XK):Prop
 | mk (S d lk l:Addr) (ts:List ZR) (av:Nat->List Nat) (ho:Nat->Nat) (as:List YA) (kvs:List (Zd×V)) (ls:je) (bs:List Nat) (_:vs=[.ref S,.ref l]) (_:YY jg jh H S d lk ts av ho as kvs ls) (_:H l=some (.lst (iN bs))) (_:∀ b∈bs,b<ts.length) (_:bs.length<=100) (_:∀(D:Addr)(us:je)(H':Hp),ZB H H'->H D=none->H' D=some (.lst us)->Yb H' (Y6 ts bs) us->Q (.ref D) H')
theorem F1:ZC ["self","numbers"] ["self","numbers"] (Ze MA):=Zs
theorem OG{bs:List Nat}{i:Nat}{z:V}(h:(iN bs)[i]? = some z):∃ b,bs[i]? = some b/\z=.int (b:Nat):=by
 unfold iN at h;rw [zAN] at h;obtain ⟨b,e,rfl⟩:=zAt.mp h;exact ⟨b,e,rfl⟩
theorem ZEt(F:Zj K "labels_of" "Shelf.labels_of" MA f fd)(L:Y7 K mg jg jh)(DL:ZJ P w K mg base ZW 2 jg "label" ["self","number"] (WI jg jh fun tg _ _=>tg)):ZK P w K mg base ZW 3 f fd ["self","numbers"] (Yu jg jh):=by
 refine F.ok F1 (fun vs H Q E h=>(by obtain ⟨_,_,_,_,_,_,_,_,_,_,_,rfl,_⟩:=h;rfl)) (fun cdv A outer s H vs Q E hr h=>?_)
 obtain ⟨S,d,lk,l,ts,av,ho,as,kvs,ls,bs,rfl,R,hl,hb,h100,k⟩:=h;have li:(iN bs).length=bs.length:=zAD _;refine ⟨_,ZU (Zg (VR [0] ["self"] rfl (VO (pv 1)) (fun _ _ _ _ _=>VU) (fun _ _ _ _ _=>XR (E:=E0) (pv 1) L.cS DL hr XE (ZF (pv 0) ZG)) ⟨rfl,.inl rfl,rfl,trivial⟩)),?_⟩;refine ⟨_,rfl,l,rfl,⟨_,ZL.of hl⟩,?_⟩;refine VV (n:=(iN bs).length) (fun i z=>(iN bs)[i]? = some z) (fun D i ys H3=>ZB H H3/\H D=none/\Yb H3 (Y6 ts (bs.take i)) ys) (XG (by lia))
  (fun D i ys H3 hi hP=>⟨_,(iN bs)[i],ZL.of (hP.1 _ _ hl),zAE hi⟩) (fun D i ys H3 z H4 hi hP hy=>⟨hy.1,hy.2 _ (ZL.of (hP.1 _ _ hl))⟩) (fun D ys H3 hP=>⟨_,ZL.of (hP.1 _ _ hl),zAH _⟩)
  (fun D hD=>⟨ZX hD _,hD,rfl,fun i u e=>by simp at e⟩) (fun D i ys H3 z eD hl' hi hz hP RR jM=>?_) (fun D us H3 eD hP=>?_)
 ·obtain ⟨s3,nD,hk⟩:=hP;obtain ⟨b,eb,rfl⟩:=OG hz;have hbl:=hb b (zAJ eb);have R3:=R.same s3;obtain ⟨dx,hS⟩:=R3.sh.self;refine ⟨_,rfl,S,dx,_,rfl,hS,rfl,_,rfl,S,d,lk,ts.length,kvs,ls,(b:Int),_,_,_,_,_,_,rfl,⟨R3.sh,R3.val b hbl,(R3.tw b hbl).tw⟩,?_⟩;refine jM _ H3 eD ⟨UQ s3 nD,nD,?_⟩;have tD:Z2 H3 (upd H3 D (.lst (ys++[.ref (as.getD b .d).tg]))):=fun c xs e=>by rw [ZV (ZT e eD)];exact e
  rw [zAi,eb];have e2:Y6 ts (bs.take i++(some b).toList)=Y6 ts (bs.take i)++[YM (gd ts b)]:=by unfold Y6;simp
  rw [e2];exact (hk.snoc (R3.tw b hbl).tag).mono tD
 ·obtain ⟨s3,nD,hk⟩:=hP;rw [zAS (by lia)] at hk
  exact k D us H3 s3 nD eD hk
inductive YH(jg jh:Addr)(vs:je)(H:Hp)(Q:VK)(_:XK):Prop
 | mk (S l:Addr) (ns:List Int) (_:vs=[.ref S,.ref l]) (_:H l=some (.lst (ns.map V.int))) (_:∃ dx fs,H S=some (.ins jg dx fs)/\fs.lookup (zA0 "outside")=none) (_:∀ n∈ns,∃(d lk:Addr)(m:Nat)(kvs:List (Zd×V))(ls:je)(x:Addr)(th tg:V)(ab:Addr)(ho:Nat)(us:je),VF jg jh H S d lk m kvs ls n x th tg ab ho us/\1<=ho) (_:Q .non H)
theorem Xd:ZC ["self","numbers","number"] ["self","numbers"] (Ze Kd):=Zs
theorem ZEM(F:Zj K "check_held" "Shelf.check_held" Kd f fd)(L:Y7 K mg jg jh)(DO:ZJ P w K mg base ZW 2 jg "outside" ["self","number"] (WI jg jh fun _ ho _=>.int ho)):ZK P w K mg base ZW 3 f fd ["self","numbers"] (YH jg jh):=by
 refine F.ok Xd (fun vs H Q E h=>(by obtain ⟨_,_,_,rfl,_⟩:=h;rfl)) (fun cdv A outer s H vs Q E hr h=>?_)
 obtain ⟨S,l,ns,rfl,hl,⟨dx,fs,hS,hlk⟩,hb,k⟩:=h;have nd:=Xd.nd;refine ⟨_,ZU (Ud PassesOwn.never rfl (VO (pv 1)) (WT 2 nd)
  (ZU (Zz (Y3 Wy (XR (E:=E0) (pv 0) L.cS DO hr XE (ZF (pv 2) ZG)) ZM (YE _)) Qs Z0))),?_⟩
 refine ⟨_,rfl,l,rfl,⟨_,ZL.of hl⟩,OD (K:=K) (a:=l) (xs:=ns.map V.int) (fun i σ H2=>∃ x:jf,σ=[some (.ref S),some (.ref l),x]/\H2=H) ⟨_,rfl,rfl⟩ (fun i σ H2 _ hP=>by obtain ⟨_,_,rfl⟩:=hP;exact ZL.of hl) ?_ ?_⟩
 ·rintro i u σ H2 hu2 ⟨x,rfl,rfl⟩;rw [zAN] at hu2;obtain ⟨n,en,rfl⟩:=zAt.mp hu2;obtain ⟨d,lk,m,kvs,ls,x',th,tg,ab,ho,us,R,h1⟩:=hb n (zAJ en);refine ⟨_,rfl,S,dx,_,rfl,hS,hlk,_,rfl,S,d,lk,m,kvs,ls,n,x',th,tg,ab,ho,us,rfl,R,rfl,_,rfl,?_⟩;rw [decide_eq_false (fun z=>by have:=Pp z;lia)]
  exact Zo ⟨_,rfl,rfl⟩
 ·rintro σ H2 ⟨x,rfl,rfl⟩;exact k
inductive Z4(gt:List KT)(jg jh:Addr)(vs:je)(H:Hp)(Q:VK)(_:XK):Prop
 | mk (S d lk l:Addr) (ts:List ZR) (av:Nat->List Nat) (ho:Nat->Nat) (as:List YA) (kvs:List (Zd×V)) (ls:je) (bs:List Nat) (Lb:YT) (_:vs=[.ref S,.ref l]) (_:YY jg jh H S d lk ts av ho as kvs ls) (_:WF gt ts) (_:ts.length<=800) (_:∀ b∈bs,b<ts.length/\1<=ho b/\(av b).length<=800) (_:H l=some (.lst (iN bs))) (_:over (Y6 ts bs)=some Lb) (_:∀(H':Hp)(a:YA),H a.x=none->H a.th=none->H a.ab=none->(∀ c o,c≠S->c≠d->(∀ b:Nat,b<ts.length->c≠(as.getD b .d).x/\c≠(as.getD b .d).ab)->H c=some o->H' c=some o)->YY jg jh H' S d lk (ts++[Xg ts bs]) (Us bs ts.length (Uz ts.length av)) (Uq bs (Ua ts.length ho)) (as++[a]) (XF kvs (.inl (ts.length:Int)) (.ref a.x)) ls->Q (.int (ts.length:Nat)) H')
abbrev AY:List Str:=["self","numbers","branches","label","number"]
theorem WK:ZC AY ["self","numbers"] (Ze N7):=Zs
theorem ZOO(bs:List Nat):iN bs=(bs.map fun b:Nat=>(b:Int)).map V.int:=by unfold iN;rw [zCG];rfl
theorem E7{gt:List KT}(F:Zj K "put_stem" "Shelf.put_stem" N7 f fd)(T:YG mg)(L:Y7 K mg jg jh)(DL:ZJ P w K mg base ZW 3 jg "labels_of" ["self","numbers"] (Yu jg jh))(DO:ZA P w K mg base 9 "label_over" ["labels"] Wq)(DC:ZJ P w K mg base ZW 3 jg "check_held" ["self","numbers"] (YH jg jh))(DT:ZJ P w K mg base ZW 3 jg "put_twig" ["self","things","label"] (Y1 jg jh))(DK:ZJ P w K mg base ZW 2 jg "take_over" ["self","stem","branches"] (Y9 jg jh)):
  ZK P w K mg base ZW 10 f fd ["self","numbers"] (Z4 gt jg jh):=by
 refine F.ok WK (fun vs H Q E h=>(by obtain ⟨_,_,_,_,_,_,_,_,_,_,_,_,rfl,_⟩:=h;rfl)) (fun cdv A outer s H vs Q E hr h=>?_)
 obtain ⟨S,d,lk,l,ts,av,ho,as,kvs,ls,bs,Lb,rfl,R,hw,t800,hbb,hl,hov,q3⟩:=h;have hb:∀ b∈bs,b<ts.length:=fun b h=>(hbb b h).1;have nd:=WK.nd;have hr3:=hr.mono (show 3<=9 by lia)
 have hr2:=hr.mono (show 2<=9 by lia)
 obtain ⟨eL,jR,hb2,hb4,hhh,hup,jq⟩:=JQ hw hb hov;refine ⟨_,ZQ (Zk 2 nd (VP PD rfl T.list Qi (ZF (pv 1) ZG)))
  (ZQ (Zk 3 nd (Zh DO hr (ZF (XR (E:=E0) (pv 0) L.cS DL hr3 XE (ZF (pv 2) ZG)) ZG)))
  (ZQ (Wx (XR (E:=E0) (pv 0) L.cS DC hr3 XE (ZF (pv 2) ZG)))
  (ZQ (Zk 4 nd (XR (E:=E0) (pv 0) L.cS DT hr3 XE (ZF (pv 2) (ZF (pv 3) ZG))))
  (ZQ (Wx (XR (E:=E0) (pv 0) L.cS DK hr2 XE (ZF (pv 4) (ZF (pv 2) ZG))))
  (ZU (Zg (pv 4))))))),?_⟩
 refine ⟨_,rfl,l,iN bs,rfl,.inl (ZL.of hl),fun D nD=>?_⟩;have g1:=ZX nD (.lst (iN bs));have hD1:upd H D (.lst (iN bs)) D=some (.lst (iN bs)):=ZO;generalize upd H D (.lst (iN bs))=H1 at g1 hD1 ⊢;have R1:=R.same g1;obtain ⟨dx1,hS1⟩:=R1.sh.self;refine ⟨_,rfl,S,dx1,_,rfl,hS1,rfl,_,rfl,S,d,lk,D,ts,av,ho,as,kvs,ls,bs,rfl,R1,hD1,hb,by lia,fun D2 us H2 s2 nD2 hD2 hk2=>?_⟩
 have s12:=g1.trans s2;refine ⟨D2,us,Y6 ts bs,Lb,rfl,hD2,hk2,ZKI hw hb,hov,fun H3 v s3 kv=>?_⟩;subst eL;have s13:=s12.trans s3;have R3:=R.same s13;obtain ⟨dx3,hS3⟩:=R3.sh.self;have hD3:H3 D=some (.lst (iN bs)):=s3 _ _ (s2 _ _ hD1);refine ⟨_,rfl,S,dx3,_,rfl,hS3,rfl,_,rfl,S,D,bs.map (fun b:Nat=>(b:Int)),rfl,by rw [<-ZOO];exact hD3,⟨dx3,_,hS3,rfl⟩,fun n hn=>?_,?_⟩
 ·obtain ⟨b,hb',rfl⟩:=zAf.mp hn;have hbl:=hbb b hb';exact ⟨d,lk,ts.length,kvs,ls,_,_,_,_,_,_,⟨R3.sh,R3.val b hbl.1,(R3.tw b hbl.1).tw⟩,hbl.2.1⟩
 have kl:=Ol kv;obtain ⟨tg,jK,jL,rfl,htg,_,_⟩:=kl;have kl4:=Ol kv;refine ⟨_,rfl,S,dx3,_,rfl,hS3,rfl,_,rfl,_,rfl,S,d,lk,ts.length,kvs,ls,.ref D,.ref tg,rfl,R3.sh,by rw [GS R];lia,fun H5 x ab nx nab fr R5 W5=>?_⟩
 have tup5:Z2 H3 H5:=fun b ys e=>fr b _ (ZT e hS3) (ZT e R3.sh.kept) e;have hD5:H5 D=some (.lst (iN bs)):=fr _ _ (ZT hD3 hS3) (ZT hD3 R3.sh.kept) hD3;have PP:=Jr (t:=Xg ts bs) (x:=x) (th:=D) (tg:=tg) (ab:=ab) R (H':=H5) (fun b o n1 n2 e=>fr b o n1 n2 (s13 b o e)) (s13.free nx) nD (s13.free nab) (Zb hD3 nab).symm R5 W5
  ⟨iN bs,hD5,fun z=>absurd z (by show (gd ts (bs.getD 0 0)).h+1≠0;lia),fun _=>rfl⟩ (kl4.mono tup5)
 obtain ⟨dx5,hS5⟩:=R5.self;have el:as.length=ts.length:=R.len;have aL:∀ b,b<ts.length->(as++[(⟨x,D,tg,ab⟩:YA)]).getD b .d=as.getD b .d:=fun b hb=>Mh (by lia)
 have aN:(as++[(⟨x,D,tg,ab⟩:YA)]).getD ts.length .d=⟨x,D,tg,ab⟩:=by rw [<-el];exact Ld
 have en:(ts++[Xg ts bs]).length=ts.length+1:=by simp
 refine ⟨_,rfl,S,dx5,_,rfl,hS5,rfl,_,rfl,_,rfl,S,d,lk,D,_,_,_,_,_,ls,bs,ts.length,rfl,PP,hD5,jR,fun b hb'=>?_,fun b hb'=>?_,fun H6 fr6 no6 R6=>⟨_,rfl,?_⟩⟩
 ·have hbl:=hbb b hb';have nb:b≠ts.length:=by lia
  refine ⟨by lia,?_,?_⟩
  ·rw [show Ua ts.length ho b=ho b from if_neg nb];exact hbl.2.1
  ·rw [show Uz ts.length av b=av b from if_neg nb];lia
 ·rw [en] at hb';rcases zAg b ts.length with c | c
  ·rw [aL b c];exact (Zb (R.tw b c).tw.above nD).symm
  ·have:b=ts.length:=by lia
   rw [this,aN];exact Zb hD3 nab
 ·refine q3 H6 ⟨x,D,tg,ab⟩ (s13.free nx) nD (s13.free nab) (fun c o n1 n2 n3 e=>?_) R6;refine fr6 c o (fun b hb'=>?_) (fr c o n1 n2 (s13 c o e));rw [en] at hb';rcases zAg b ts.length with z | z
  ·rw [aL b z];exact n3 b z
  ·have:b=ts.length:=by lia
   rw [this,aN];exact ⟨Zb e (s13.free nx),Zb e (s13.free nab)⟩
theorem D6(rs:List Z5):(YM (Vx rs)).kt=Nk (rs.map (·.1)):=by
 have lks:(rs.map (·.1)).length=rs.length:=zAD _;have e0:(rs.map (·.1)).getD 0 (.int 0)=(rs.getD 0 rd).1:=by
  rw [zAC,zAC,zAN];cases rs[0]? <;> rfl
 have e1:(rs.map (·.1)).getD (rs.length - 1) (.int 0)=(rs.getD (rs.length - 1) rd).1:=by
  rw [zAC,zAC,zAN];cases rs[rs.length - 1]? <;> rfl
 unfold Nk YM Vx YT.kt;rw [lks,e0,e1];rfl
inductive Ya(jg jh:Addr)(vs:je)(H:Hp)(Q:VK)(_:XK):Prop
 | mk (S d lk l:Addr) (n:Nat) (kvs:List (Zd×V)) (ls us:je) (rs:List Z5) (_:vs=[.ref S,.ref l]) (_:Y4 jg H S d lk n kvs ls) (_:kvs.length<=900) (_:H l=some (.lst us)) (_:KeysAt H (Z6 rs) us) (_:Qj rs) (_:∀(H':Hp)(x th tg ab:Addr),H x=none->H th=none->H ab=none->ab≠th->(∀ b o,b≠S->b≠d->H b=some o->H' b=some o)->Y4 jg H' S d lk (n+1) (XF kvs (.inl (n:Int)) (.ref x)) ls->Xs jh H' x (.ref th) (.ref tg) ab 1 []->(∃ us',H' th=some (.lst us')/\KeysAt H' (Z6 rs) us')->Ys H' (YM (Vx rs)) (.ref tg)->Q (.int (n:Nat)) H')
theorem D7(F:Zj K "put_leaf" "Shelf.put_leaf" Mb f fd)(L:Y7 K mg jg jh)(DC:ZA P w K mg base 9 "checked_rows" ["rows"] X8)(DL:ZA P w K mg base 1 "label_of_rows" ["rows"] XV)(DT:ZJ P w K mg base ZW 3 jg "put_twig" ["self","things","label"] (Y1 jg jh)):
  ZK P w K mg base ZW 10 f fd ["self","rows"] (Ya jg jh):=by
 refine F.ok WR (fun vs H Q E h=>(by obtain ⟨_,_,_,_,_,_,_,_,_,rfl,_⟩:=h;rfl)) (fun cdv A outer s H vs Q E hr h=>?_)
 obtain ⟨S,d,lk,l,n,kvs,ls,us,rs,rfl,R,l900,hl,hk,G,k⟩:=h;have nd:=WR.nd;have hr1:=hr.mono (show 1<=9 by lia)
 have hr3:=hr.mono (show 3<=9 by lia)
 refine ⟨_,ZQ (Zk 2 nd (Zh DC hr (ZF (pv 1) ZG)))
  (ZU (Zg (XR (E:=E0) (pv 0) L.cS DT hr3 XE (ZF (pv 2) (ZF (Zh DL hr1 (ZF (pv 2) ZG)) ZG))))),?_⟩
 refine ⟨_,rfl,l,us,rs,rfl,hl,hk,G,fun H1 l' us' s1 nl' hl' hk'=>?_⟩;have R1:=R.same s1;obtain ⟨dx,hS⟩:=R1.self;have lu:us'.length=rs.length:=by have:=hk'.length;rw [<-this];exact zAD _
 refine ⟨_,rfl,S,dx,_,rfl,hS,rfl,_,rfl,_,rfl,l',us',rs.map (·.1),rfl,hl',AN hk',by rw [lu];exact G.2.1,fun H2 v s2 kv=>?_⟩
 rw [<-D6] at kv;have kl:=Ol kv;obtain ⟨tg,jK,jL,rfl,htg,_,_⟩:=kl;have kl:=Ol kv;have s12:=s1.trans s2;have R2:=R.same s12;refine ⟨S,d,lk,n,kvs,ls,.ref l',.ref tg,rfl,R2,l900,fun H3 x ab nx nab fr R3 W3=>?_⟩;obtain ⟨dx2,hS2⟩:=R2.self;have tup3:Z2 H2 H3:=fun b ys e=>fr b _ (ZT e hS2) (ZT e R2.kept) e;have hl2:=s2 _ _ hl';have hl3:H3 l'=some (.lst us'):=fr _ _ (ZT hl2 hS2) (ZT hl2 R2.kept) hl2;exact k H3 x l' tg ab (s12.free nx) nl' (s12.free nab) (Zb hl2 nab).symm (fun b o n1 n2 e=>fr b o n1 n2 (s12 b o e)) R3 W3 ⟨us',hl3,hk'.mono (fun b xs e=>tup3 b xs (s2 _ _ e)) _ _⟩ (kl.mono tup3)
theorem Fb(D:ZJ P w K mg base ZW 10 jg "put_leaf" ["self","rows"] (Ya jg jh)):ZJ P w K mg base ZW 10 jg "put_leaf" ["self","rows"] (YU jg jh):=by
 obtain ⟨g,gd,M,FG,b⟩:=D.ex;refine ⟨g,gd,M,FG.imp fun vs H Q E h=>?_,b⟩;obtain ⟨S,d,lk,l,ts,av,ho,as,kvs,ls,us,rs,e,R,l900,hl,hk,G,k⟩:=h;refine ⟨S,d,lk,l,ts.length,kvs,ls,us,rs,e,R.sh,by rw [GS R];exact l900,hl,hk,G,fun H' x th tg ab nx nth nab abth fr R' W hth htg=>?_⟩
 obtain ⟨us',h1,h2⟩:=hth;exact k H' ⟨x,th,tg,ab⟩ nx nth nab fr (Jr (t:=Vx rs) R fr nx nth nab abth R' W ⟨us',h1,fun _=>h2,fun z=>absurd rfl z⟩ htg)
abbrev MK:Stmt:=VB (Zt 49) 5
abbrev Mc:Stmt:=VB (Zt 49) 6
structure Qz(jg jh:Addr)(H:Hp)(S d lk:Addr)(n:Nat)(kvs:List (Zd×V))(ls:je)(i:Int)(x:Addr)(th:V)(tg ab:Addr)(ho:Nat):Prop where
 rd:VF jg jh H S d lk n kvs ls i x th (.ref tg) ab ho []
 tag:∃ xs,H tg=some (.tup (.int 0 :: xs))
inductive Vm(jg jh:Addr)(vs:je)(H:Hp)(Q:VK)(_:XK):Prop
 | mk (S d lk:Addr) (n:Nat) (kvs:List (Zd×V)) (ls:je) (i:Int) (x:Addr) (th:V) (tg ab:Addr) (_:vs=[.ref S,.int i]) (_:Qz jg jh H S d lk n kvs ls i x th tg ab 0) (_:Q .non (upd H d (.dK (U2 kvs (.inl i)))))
theorem UX:ZC ["self","number","twig","branch"] ["self","number"] (Ze Mc):=Zs
theorem BG(F:Zj K "drop_unheld" "Shelf.drop_unheld" Mc f fd)(L:Y7 K mg jg jh)(DH:ZJ P w K mg base ZW 2 jg "holders" ["self","number"] (WI jg jh fun _ ho us=>.int ((us.length:Nat)+(ho:Nat):Int)))(DS:ZA P w K mg base 1 "is_stem" ["twig"] (Wt jh)):ZK P w K mg base ZW 3 f fd ["self","number"] (Vm jg jh):=by
 refine F.ok UX (fun vs H Q E h=>(by obtain ⟨_,_,_,_,_,_,_,_,_,_,_,rfl,_⟩:=h;rfl)) (fun cdv A outer s H vs Q E hr h=>?_)
 obtain ⟨S,d,lk,n,kvs,ls,i,x,th,tg,ab,rfl,R,k⟩:=h;have nd:=UX.nd;have hr1:=hr.mono (show 1<=2 by decide)
 refine ⟨_,ZQ (Zz (Y3 Qb (XR (E:=E0) (pv 0) L.cS DH hr XE (ZF (pv 1) ZG)) ZM (YE _)) Qs Z0)
  (ZQ (Zk 2 nd (ZK3 (VQ (pv 0) rfl) (pv 1) ⟨rfl,rfl,rfl,rfl⟩))
  (ZU (Zz (XH (Zh DS hr1 (ZF (pv 2) ZG))) Qs Z0))),?_⟩
 obtain ⟨dx,hS⟩:=R.rd.sh.self;obtain ⟨xs,ht⟩:=R.tag;refine ⟨_,rfl,S,dx,_,rfl,hS,rfl,_,rfl,S,d,lk,n,kvs,ls,i,x,th,.ref tg,ab,0,[],rfl,R.rd,_,_,rfl,rfl,_,rfl,Zo ?_⟩;have hd:=R.rd.sh.kept;refine ⟨_,rfl,S,jg,dx,_,.ref d,rfl,hS,L.cS,L.nk,rfl,d,rfl,.inl ⟨kvs,Rd.of hd⟩,_,rfl,kvs,.inl i,.ref x,hd,rfl,R.rd.val,?_⟩;obtain ⟨dt,hx⟩:=R.rd.tw.self;have fr:∀ b o,b≠d->H b=some o->upd H d (.dK (U2 kvs (.inl i))) b=some o:=fun b o n e=>by rw [ZV n];exact e
 refine ⟨_,rfl,x,th,tg,ab,0,[],0,xs,rfl,⟨⟨dt,fr _ _ (ZT hx hd) hx⟩,fr _ _ (ZT R.rd.tw.above hd) R.rd.tw.above⟩,fr _ _ (ZT ht hd) ht,_,rfl,Zo k⟩
inductive Wm(jg jh:Addr)(vs:je)(H:Hp)(Q:VK)(_:XK):Prop
 | mk (S d lk:Addr) (n:Nat) (kvs:List (Zd×V)) (ls:je) (i:Int) (x:Addr) (th:V) (tg ab:Addr) (_:vs=[.ref S,.int i]) (_:Qz jg jh H S d lk n kvs ls i x th tg ab 1) (_:x≠S) (_:∀ H',(∀ b o,b≠x->b≠d->H b=some o->H' b=some o)->H' d=some (.dK (U2 kvs (.inl i)))->Q .non H')
theorem V8:ZC ["self","number","twig"] ["self","number"] (Ze MK):=Zs
theorem E4(F:Zj K "let_go" "Shelf.let_go" MK f fd)(L:Y7 K mg jg jh)(DC:ZJ P w K mg base ZW 3 jg "check_held" ["self","numbers"] (YH jg jh))(DT:ZJ P w K mg base ZW 1 jg "twig_of" ["self","number"] (Z7 jg))(DD:ZJ P w K mg base ZW 3 jg "drop_unheld" ["self","number"] (Vm jg jh)):
  ZK P w K mg base ZW 4 f fd ["self","number"] (Wm jg jh):=by
 refine F.ok V8 (fun vs H Q E h=>(by obtain ⟨_,_,_,_,_,_,_,_,_,_,_,rfl,_⟩:=h;rfl)) (fun cdv A outer s H vs Q E hr h=>?_)
 obtain ⟨S,d,lk,n,kvs,ls,i,x,th,tg,ab,rfl,R,xS,k⟩:=h;have nd:=V8.nd;have hr1:=hr.mono (show 1<=3 by decide)
 refine ⟨_,ZQ (Wx (XR (E:=E0) (pv 0) L.cS DC hr XE (ZF (Yn (ZF (pv 1) ZG)) ZG)))
  (ZQ (Zk 2 nd (XR (E:=E0) (pv 0) L.cS DT hr1 XE (ZF (pv 1) ZG)))
  (ZQ (JM (pv 2) ZM GI)
  (ZU (Wx (XR (E:=E0) (pv 0) L.cS DD hr XE (ZF (pv 1) ZG)))))),?_⟩
 obtain ⟨dx,hS⟩:=R.rd.sh.self;refine ⟨_,rfl,S,dx,_,rfl,hS,rfl,_,rfl,nn (zAB rfl),fun l nl=>?_⟩;have g:=ZX nl (.lst [.int i]);have hl:=ZO (H:=H) (a:=l) (o:=.lst [.int i]);generalize upd H l (.lst [.int i])=H1 at g hl ⊢;have hS1:=g _ _ hS;have R1:=R.rd.same g;refine ⟨S,l,[i],rfl,hl,⟨dx,_,hS1,rfl⟩,fun m hm=>?_,?_⟩
 ·rw [zAR.mp hm];exact ⟨d,lk,n,kvs,ls,x,th,.ref tg,ab,1,[],R1,zAH _⟩
 refine ⟨_,rfl,S,dx,_,rfl,hS1,rfl,_,rfl,S,d,lk,n,kvs,ls,i,.ref x,rfl,R1.sh,R1.val,?_⟩;obtain ⟨dt,hx⟩:=R1.tw.self;obtain ⟨xs,ht⟩:=R.tag;have ht1:=g _ _ ht;refine ⟨_,rfl,x,jh,dt,_,.int (1:Nat),rfl,hx,L.cT,L.nho,rfl,_,_,rfl,rfl,dt,_,hx,zAB rfl,?_⟩;have hx2:upd H1 x (.ins jh dt (XB "holds" (.int (((1:Nat):Int) - 1)) (UO th (.ref tg) ab 1))) x=some (.ins jh dt (UO th (.ref tg) ab 0)):=by rw [ZO];rfl
 have fr:∀ b o,b≠x->H1 b=some o->upd H1 x (.ins jh dt (XB "holds" (.int (((1:Nat):Int) - 1)) (UO th (.ref tg) ab 1))) b=some o:=fun b o n e=>by rw [ZV n];exact e
 generalize upd H1 x (.ins jh dt (XB "holds" (.int (((1:Nat):Int) - 1)) (UO th (.ref tg) ab 1)))=H2 at hx2 fr ⊢;have hd1:=R1.sh.kept;have hk1:=R1.sh.looks;have hS2:=fr _ _ (Ne.symm xS) hS1;have R2:Qz jg jh H2 S d lk n kvs ls i x th tg ab 0:=⟨⟨⟨⟨dx,hS2⟩,fr _ _ (ZT hd1 hx) hd1,fr _ _ (ZT hk1 hx) hk1⟩,R1.val,⟨⟨dt,hx2⟩,fr _ _ (ZT R1.tw.above hx) R1.tw.above⟩⟩,⟨xs,fr _ _ (ZT ht1 hx) ht1⟩⟩;refine ⟨_,rfl,S,dx,_,rfl,hS2,rfl,_,rfl,S,d,lk,n,kvs,ls,i,x,th,tg,ab,rfl,R2,?_⟩;exact k _ (fun b o n1 n2 e=>by rw [ZV n2];exact fr _ _ n1 (g _ _ e)) ZO
end
structure Yk where
 S:Addr
 d:Addr
 ts:List ZR
 av:Nat->List Nat
 ho:Nat->Nat
 as:List YA
 kvs:List (Zd×V)
structure Z3(jg jh:Addr)(H:Hp)(X:Yk)(lk:Addr)(c:Nat)(ls:je):Prop where
 sh:Y4 jg H X.S X.d lk c X.kvs ls
 keys:X.kvs.map (·.1)=(zAx X.ts.length).map (fun i:Nat=>(Sum.inl (i:Int):Zd))
 val:∀ i:Nat,i<X.ts.length->YN X.kvs (Sum.inl (i:Int))=some (.ref (X.as.getD i .d).x)
 tw:∀ i:Nat,i<X.ts.length->Qf jh H X.ts X.av X.ho i (X.as.getD i .d)
 own:∀ i:Nat,i<X.ts.length->(X.as.getD i .d).x≠X.S/\(X.as.getD i .d).ab≠lk/\(X.as.getD i .d).th≠lk
 le:X.ts.length<=c
theorem Q5{H H':Hp}{p:Addr}(w:ZI H p)(h:∀ o,H p=zAj o->H' p=zAj o):ZI H' p:=by
 obtain ⟨a,b,c,d,e,r⟩:=w.ex;exact ⟨a,b,c,d,h _ e,r⟩
section
variable{jg jh:Addr}{H H':Hp}{X:Yk}{lk lk':Addr}{c c':Nat}{ls ls':je}
theorem YY.q{S d:Addr}{ts:List ZR}{av:Nat->List Nat}{ho:Nat->Nat}{as:List YA}{kvs:List (Zd×V)}(R:YY jg jh H S d lk ts av ho as kvs ls):Z3 jg jh H ⟨S,d,ts,av,ho,as,kvs⟩ lk ts.length ls:=
 ⟨R.sh,R.keys,R.val,R.tw,fun i hi=>⟨(R.own i hi).1,(R.own i hi).2.1,(R.own i hi).2.2.1⟩,zAH _⟩
theorem Z3.frame(R:Z3 jg jh H X lk c ls)(sh:Y4 jg H' X.S X.d lk' c' X.kvs ls')(fr:∀ b o,b≠X.S->b≠X.d->b≠lk->H b=some o->H' b=some o)(own:∀ i:Nat,i<X.ts.length->(X.as.getD i .d).ab≠lk'/\(X.as.getD i .d).th≠lk')(le:X.ts.length<=c'):Z3 jg jh H' X lk' c' ls':=by
 obtain ⟨⟨dS,hS⟩,hd,hl⟩:=R.sh;refine ⟨sh,R.keys,R.val,fun i hi=>?_,fun i hi=>⟨(R.own i hi).1,own i hi⟩,le⟩;have W:=R.tw i hi;obtain ⟨dx,hx⟩:=W.tw.self;obtain ⟨us,e1,_⟩:=W.things;have ha:=W.tw.above;have o:=R.own i hi;exact W.frame (fun b xs e=>fr b _ (ZT e hS) (ZT e hd) (ZT e hl) e)
  (fun o' e=>fr _ _ o.1 (ZT hx hd) (ZT hx hl) e)
  (fun o' e=>fr _ _ (ZT e1 hS) (ZT e1 hd) o.2.2 e)
  (fun o' e=>fr _ _ (ZT ha hS) (ZT ha hd) o.2.1 e)
theorem Z3.same(R:Z3 jg jh H X lk c ls)(s:ZB H H'):Z3 jg jh H' X lk c ls:=R.frame (R.sh.same s) (fun b o _ _ _ e=>s b o e) (fun i hi=>(R.own i hi).2) R.le
def OL(X:Yk)(lk:Addr)(b:Addr):Prop:=b=X.S\/b=X.d\/b=lk
theorem Z3.but(R:Z3 jg jh H X lk c ls){p:Addr}(s:ZE p H H')(hp:¬ OL X lk p)(own:∀ i:Nat,i<X.ts.length->(X.as.getD i .d).x≠p/\(X.as.getD i .d).ab≠p/\(X.as.getD i .d).th≠p)(t:Z2 H H'):Z3 jg jh H' X lk c ls:=by
 obtain ⟨⟨dS,hS⟩,hd,hl⟩:=R.sh;refine ⟨⟨⟨dS,s _ _ hS fun z=>hp (.inl z.symm)⟩,s _ _ hd fun z=>hp (.inr (.inl z.symm)),s _ _ hl fun z=>hp (.inr (.inr z.symm))⟩,R.keys,R.val,fun i hi=>?_,R.own,R.le⟩;exact (R.tw i hi).frame t (fun o e=>s _ _ e (own i hi).1) (fun o e=>s _ _ e (own i hi).2.2) (fun o e=>s _ _ e (own i hi).2.1)
theorem Z3.rd(R:Z3 jg jh H X lk c ls){i:Nat}(hi:i<X.ts.length):VF jg jh H X.S X.d lk c X.kvs ls (i:Int) (X.as.getD i .d).x (.ref (X.as.getD i .d).th) (.ref (X.as.getD i .d).tg) (X.as.getD i .d).ab (X.ho i) (iN (X.av i)):=⟨R.sh,R.val i hi,(R.tw i hi).tw⟩
theorem Z3.none(R:Z3 jg jh H X lk c ls){x:Int}(hx:inT X.ts x=false):YN X.kvs (Sum.inl x)=zCo:=by
 cases z:YN X.kvs (Sum.inl x) with
 | none=>rfl
 | some v=>
  have:=Jw z;rw [R.keys] at this;obtain ⟨i,hi,ei⟩:=zAf.mp this;have e1:=Sum.inl.inj ei;have e2:=zA8.mp hi;unfold inT at hx;have:=of_decide_eq_false hx
  lia
theorem Z3.klen(R:Z3 jg jh H X lk c ls):X.kvs.length=X.ts.length:=by
 have:=congrArg zCB R.keys;simpa using this
end
section
variable{P:Program}{w:World}{K:zAA}{mg:jb}{base:Heap}{f:Addr}{fd:FuncData}{jg jh:Addr}
theorem ZKm(t:ZR):(if ((t.h:Nat):Int) > 0 then ("stem" : Str) else "leaf")=kindOf t:=by
 unfold kindOf;by_cases h:t.h=0
 ·rw [if_pos h,if_neg (by lia)]
 ·rw [if_neg h,if_pos (by lia)]
inductive Xo(jg jh:Addr)(vs:je)(H:Hp)(Q:VK)(_:XK):Prop
 | mk (X:Yk) (lk:Addr) (c:Nat) (ls:je) (i:Nat) (_:vs=[.ref X.S,.int (i:Int)]) (_:Z3 jg jh H X lk c ls) (_:i<X.ts.length) (_:ls.length<=39000) (_:∀(H':Hp)(tp l:Addr)(us:je),(∀ b o,b≠lk->H b=some o->H' b=some o)->Z3 jg jh H' X lk c (ls++[.int (i:Int)])->H' tp=some (.tup [.str (kindOf (gd X.ts i)),.ref l])->H l=none->H' l=some (.lst us)->((gd X.ts i).h=0->KeysAt H' (Z6 (gd X.ts i).rows) us)->((gd X.ts i).h≠0->us=iN (gd X.ts i).bs)->Q (.ref tp) H')
theorem EG(D:ZJ P w K mg base ZW 2 jg "look" ["self","number"] (Ve jg jh)):ZJ P w K mg base ZW 2 jg "look" ["self","number"] (Xo jg jh):=by
 obtain ⟨g,gd',M,FG,b⟩:=D.ex;refine ⟨g,gd',M,FG.imp fun vs H Q E h=>?_,b⟩;obtain ⟨X,lk,c,ls,i,e,R,hi,l9,k⟩:=h;have W:=R.tw i hi;obtain ⟨us,hu,u1,u2⟩:=W.things;obtain ⟨a,jK,jL,ea,ht,k1,k2⟩:=W.tag;cases ea;have o:=R.own i hi;refine ⟨X.S,X.d,lk,c,X.kvs,ls,i,_,_,_,_,_,_,us,_,_,e,R.rd hi,hu,ht,Ne.symm o.2.2,Ne.symm o.2.1,l9,fun H' l' t fr hlk nl' hl' ht'=>?_⟩;have hlk0:=R.sh.looks;have m:Z2 H H':=fun b xs e=>fr b _ (ZT e hlk0) e;obtain ⟨⟨dS,hS⟩,hd,_⟩:=R.sh;have ek:(if (YM (gd X.ts i)).h > 0 then ("stem" : Str) else "leaf")=kindOf (gd X.ts i):=ZKm _
 rw [ek] at ht';exact k H' t l' us fr (R.frame ⟨⟨dS,fr _ _ (ZT hS hlk0) hS⟩,fr _ _ (ZT hd hlk0) hd,hlk⟩ (fun b o _ _ n e=>fr b o n e) (fun j hj=>(R.own j hj).2) R.le) ht' nl' hl' (fun z=>(u1 z).mono m _ _) u2
inductive Xw(jg jh:Addr)(vs:je)(H:Hp)(Q:VK)(_:XK):Prop
 | mk (X:Yk) (lk:Addr) (c:Nat) (ls:je) (i:Nat) (_:vs=[.ref X.S,.int (i:Int)]) (_:Z3 jg jh H X lk c ls) (_:i<X.ts.length) (_:Q (.ref (X.as.getD i .d).tg) H)
theorem B2(D:ZJ P w K mg base ZW 2 jg "label" ["self","number"] (WI jg jh fun tg _ _=>tg)):ZJ P w K mg base ZW 2 jg "label" ["self","number"] (Xw jg jh):=by
 obtain ⟨g,gd',M,FG,b⟩:=D.ex;refine ⟨g,gd',M,FG.imp fun vs H Q E h=>?_,b⟩;obtain ⟨X,lk,c,ls,i,e,R,hi,k⟩:=h;exact ⟨X.S,X.d,lk,c,X.kvs,ls,i,_,_,_,_,_,_,e,R.rd hi,k⟩
inductive Xu(jg jh:Addr)(vs:je)(H:Hp)(Q:VK)(_:XK):Prop
 | mk (p:Addr) (X:Yk) (lk:Addr) (c:Nat) (ls:je) (_:vs=[.ref p,.ref X.S]) (_:ZI H p) (_:Z3 jg jh H X lk c ls) (_:X.ts.length<=900) (_:p≠lk) (_:∀ i:Nat,i<X.ts.length->(X.as.getD i .d).ab≠p/\(X.as.getD i .d).th≠p) (_:∀(H':Hp)(g:Int),(∀ b o,b≠p->b≠X.S->b≠X.d->H b=some o->H' b=some o)->ZI H' p->Z3 jg jh H' X lk (c+1) ls->inT X.ts g=false->Q (.int g) H')
theorem Ut:ZC ["_law_well_here","_law_shelf","_law_number"] ["_law_well_here","_law_shelf"] (Ze Mo):=Zs
theorem ZNg:Qj [(.int 0,.int 0)]:=⟨fun r hr=>by rw [zAR.mp hr];exact ⟨by decide +kernel,by decide +kernel⟩,by decide,by decide,List.pairwise_singleton _ _⟩
theorem C5{kvs:List (Zd×V)}{k:Zd}{v:V}(h:YN kvs k=none):U2 (XF kvs k v) k=kvs:=by
 have hk:k∉kvs.map (·.1):=El h;rw [Ow v h];unfold U2;rw [zBB];have e1:kvs.filter (fun kv=>decide (kv.1≠k))=kvs:=zBr.mpr fun a ha=>decide_eq_true fun z=>hk (zAf.mpr ⟨a,ha,z⟩);rw [e1];simp
theorem Av(F:Zj K "_law_gone" "_law_gone" Mo f fd)(L:Y7 K mg jg jh)(DP:ZA P w K mg base 1 "_law_pull" ["_law_well_here","_law_many"] Zp)(DL:ZJ P w K mg base ZW 10 jg "put_leaf" ["self","rows"] (Ya jg jh))(DG:ZJ P w K mg base ZW 4 jg "let_go" ["self","number"] (Wm jg jh)):
  ZK P w K mg base ZW 11 f fd ["_law_well_here","_law_shelf"] (Xu jg jh):=by
 refine F.ok Ut (fun vs H Q E h=>(by obtain ⟨_,_,_,_,_,rfl,_⟩:=h;rfl)) (fun cdv A outer s H vs Q E hr h=>?_)
 obtain ⟨p,X,lk,c,ls,rfl,W,R,l9,plk,own,k⟩:=h;have nd:=Ut.nd;have hr1:=hr.mono (show 1<=10 by decide)
 have hr4:=hr.mono (show 4<=10 by decide)
 refine ⟨_,ZQ (Zk 2 nd (XR (E:=E0) (pv 1) L.cS DL hr XE (ZF (Yn (ZF (Yq (ZF ZM (ZF ZM ZG))) ZG)) ZG)))
  (ZQ (Wx (XR (E:=E0) (pv 1) L.cS DG hr4 XE (ZF (pv 2) ZG)))
  (ZU (Zg (Zl (r:=YB K) YD (Yn (Vu (pv 2) (QX Qg ZM) (Zv WJ (Zv WJ (pv 2) ZM) (Zh DP hr1 (ZF (pv 0) (ZF ZM ZG)))))) (Zh DP hr1 (ZF (pv 0) (ZF ZM ZG))) (fun _ _=>rfl))))),?_⟩
 obtain ⟨⟨dx,hS⟩,hd,hlk⟩:=R.sh;obtain ⟨pw,hp⟩:=W.some;refine ⟨_,rfl,X.S,dx,_,rfl,hS,rfl,nn (zAB rfl),fun t0 n0=>⟨nn (zAB rfl),fun l nl=>?_⟩⟩;have g0:=ZX n0 (.tup [.int 0,.int 0]);have g1:=ZX nl (.lst [.ref t0]);have g:=g0.trans g1;have et:=g1 _ _ (ZO (H:=H) (a:=t0) (o:=.tup [.int 0,.int 0]));have el:=ZO (H:=upd H t0 (.tup [.int 0,.int 0])) (a:=l) (o:=.lst [.ref t0]);generalize upd (upd H t0 (.tup [.int 0,.int 0])) l (.lst [.ref t0])=H1 at g et el ⊢;have R1:=R.same g;refine ⟨X.S,X.d,lk,l,c,X.kvs,ls,[.ref t0],[(.int 0,.int 0)],rfl,R1.sh,by rw [R.klen];exact l9,el,.cons (.tup et (.cons (.int 0) (.cons (.int 0) .nil))) .nil,ZNg,fun H2 x th tg ab nx nth nab abth fr sh2 W2 _ htg=>?_⟩
 have nv:YN X.kvs (Sum.inl (c:Int))=none:=R.none (by unfold inT;exact decide_eq_false (by have:=R.le;lia))
 obtain ⟨a,jK,jL,ea,htg',_,_⟩:=htg;cases ea;obtain ⟨dx2,hS2⟩:=sh2.self;have xS:x≠X.S:=(Zb (g _ _ hS) nx).symm;have ev:YN (XF X.kvs (Sum.inl (c:Int)) (.ref x)) (Sum.inl (c:Int))=some (.ref x):=by rw [Os,if_pos rfl]
 refine ⟨_,rfl,X.S,dx2,_,rfl,hS2,rfl,_,rfl,X.S,X.d,lk,c+1,XF X.kvs (Sum.inl (c:Int)) (.ref x),ls,(c:Int),x,.ref th,tg,ab,rfl,⟨⟨sh2,ev,W2⟩,_,htg'⟩,xS,fun H3 fr3 hd3=>?_⟩;rw [C5 nv] at hd3;obtain ⟨dt,hx2⟩:=W2.self;have hlk2:=sh2.looks;have fr03:∀ b o,b≠X.S->b≠X.d->H b=some o->H3 b=some o:=fun b o n1 n2 e=>fr3 b o (Zb (g _ _ e) nx) n2 (fr b o n1 n2 (g b o e));have hS3:=fr3 _ _ (Ne.symm xS) (ZT hS2 sh2.kept) hS2;have hlk3:=fr3 _ _ (ZT hlk2 hx2) (ZT hlk2 sh2.kept) hlk2;have R3:Z3 jg jh H3 X lk (c+1) ls:=R.frame ⟨⟨dx2,hS3⟩,hd3,hlk3⟩ (fun b o n1 n2 _ e=>fr03 b o n1 n2 e) (fun i hi=>(R.own i hi).2) (by have:=R.le;lia)
 have pS:p≠X.S:=ZT hp hS;have pd:p≠X.d:=ZT hp hd;have W3:ZI H3 p:=Q5 W fun o e=>fr03 _ _ pS pd e;have hN:¬ OL X lk p:=by
  rintro (z | z | z)
  ·exact pS z
  ·exact pd z
  ·exact plk z
 have own3:∀ i:Nat,i<X.ts.length->(X.as.getD i .d).x≠p/\(X.as.getD i .d).ab≠p/\(X.as.getD i .d).th≠p:=fun i hi=>by
  obtain ⟨dy,hy⟩:=(R.tw i hi).tw.self;exact ⟨ZT hy hp,own i hi⟩
 refine ⟨_,rfl,1,rfl,_,rfl,_,_,rfl,rfl,_,rfl,p,1000,rfl,W3,XI (by decide) (by decide),fun r H4 r0 r1 W4 s4=>⟨_,_,rfl,rfl,nn (zAB rfl),fun q nq=>?_⟩⟩
 have g5:=ZX nq (.lst [.int (c:Int),.int (-1),.int ((c:Int)+1+r)]);have eq:=ZO (H:=H4) (a:=q) (o:=.lst [.int (c:Int),.int (-1),.int ((c:Int)+1+r)]);have qp:q≠p:=V5 W4 nq;generalize upd H4 q (.lst [.int (c:Int),.int (-1),.int ((c:Int)+1+r)])=H5 at g5 eq ⊢;refine ⟨_,rfl,p,3,rfl,W4.same g5,XI (by decide) (by decide),fun j H6 j0 j1 W6 s6=>?_⟩
 have eq6:=s6 _ _ eq qp;obtain ⟨v,av,mv⟩:=Q2 (xs:=[V.int (c:Int),.int (-1),.int ((c:Int)+1+r)]) j0 j1;have s36:ZE p H3 H6:=(s4.trans (ZE.of g5)).trans s6;have R6:=R3.but s36 hN own3 (s36.tupsW W3);have fin:∀ z:Int,inT X.ts z=false->Q (.int z) H6:=fun z hz=>k H6 z (fun b o n0 n1 n2 e=>s36 b o (fr03 b o n1 n2 e) n0) W6 R6 hz;have lc:=R.le;refine .inl ⟨q,_,_,v,rfl,rfl,ZL.of eq6,av,?_⟩;simp only [zAe,zBo,or_false] at mv;rcases mv with rfl | rfl | rfl
 ·exact fin _ (by unfold inT;exact decide_eq_false (by lia))
 ·exact fin _ (by unfold inT;exact decide_eq_false (by lia))
 ·exact fin _ (by unfold inT;exact decide_eq_false (by lia))
end
end Tw
namespace L2
open PySem PySem.Spec PyProof.Rows
section
variable{σ:St}{H:Hp}{ix:List Nat}{te:TE}{Q:VK}{K:zAA}
theorem MO{J:It}{n:Nat}{tt:TT}(item:Nat->V->Prop)(keep:Nat->Bool)(Pv:Addr->Nat->je->Hp->Prop)(hn:n<sizeLine)(hgo:∀ D i ys H,i<n->Pv D i ys H->J.go i H)(hy:∀ D i ys H x H',i<n->Pv D i ys H->J.yld i H x H'->H'=H/\item i x)(jW:∀ D ys H,Pv D n ys H->J.stop n H)(h0:∀ D,H D=none->Pv D 0 [] (upd H D (.lst [])))(test:∀ D i ys H x,H D=some (.lst ys)->i<n->item i x->Pv D i ys H->∀ R:Bool->Hp->Prop,(∀ H2,H2 D=some (.lst ys)->Pv D i ys H2->R (keep i) H2)->tt (OP σ ix x) H R)(elt:∀ D i ys H x,H D=some (.lst ys)->i<n->item i x->keep i=true->Pv D i ys H->∀ R:VK,(∀ y H3,H3 D=some (.lst ys)->Pv D (i+1) (ys++[y]) (upd H3 D (.lst (ys++[y])))->R y H3)->te (OP σ ix x) H R)(no:∀ D i ys H,H D=some (.lst ys)->i<n->keep i=false->Pv D i ys H->Pv D (i+1) ys H)(fin:∀ D ys H,H D=some (.lst ys)->Pv D n ys H->Q (.ref D) H):Vj J σ ix tt te H Q:=by
 intro D hD;refine ⟨fun i m H=>m=n - i/\i<=n/\∃ ys,H D=some (.lst ys)/\ys.length<=i/\Pv D i ys H,⟨n,rfl,zAk _,[],ZO,zAH _,h0 D hD⟩,?_⟩;rintro i m H ⟨rfl,hi,ys,e,hl,p⟩;by_cases hlt:i<n
 ·refine .inr ⟨hgo D i ys H hlt p,fun x H' y=>?_⟩;obtain ⟨rfl,it⟩:=hy D i ys H x H' hlt p y;refine test D i ys _ x e hlt it p _ fun H2 e2 p2=>?_
  cases hk:keep i with
  | true=>
   rw [if_pos rfl];refine elt D i ys H2 x e2 hlt it hk p2 _ fun y H3 e3 p3=>?_;exact ⟨ys,n - (i+1),e3,by lia,by lia,rfl,hlt,ys++[y],ZO,by rw [zAG,zB3];lia,p3⟩
  | false=>
   rw [if_neg zAF];exact ⟨n - (i+1),by lia,rfl,hlt,ys,e2,Nat.le_succ_of_le hl,no D i ys H2 e2 hlt hk p2⟩
 ·have e':i=n:=by lia
  subst e';exact .inl ⟨jW D ys H p,fin D ys H e p⟩
end
end L2
namespace Tw
open PySem PySem.Spec L2 PyProof.Rows
section
variable{P:Program}{w:World}{K:zAA}{mg:jb}{base:Heap}{f:Addr}{fd:FuncData}{jg jh CS CT CH:Addr}
def MS(rs:List KT):Prop:=rs.Pairwise fun a b=>b.lt a=false
theorem Go{rs:List KT}(h:MS rs){i j:Nat}{a b:KT}(jA:i<=j)(ha:rs[i]? = some a)(hb:rs[j]? = some b):b.lt a=false:=by
 obtain ⟨hi,rfl⟩:=zAK.mp ha;obtain ⟨hj,rfl⟩:=zAK.mp hb;rcases zAg i j with c | c
 ·exact zDH.mp h i j hi hj c
 ·have:i=j:=by lia
  subst this;exact Ur _
def WH(ts:List KT)(t:KT):Nat:=(ts.filter fun x=>x.lt t).length
theorem Kh{ts:List KT}{t:KT}{m:Nat}(hm:m<=ts.length)(h1:∀ i a,i<m->ts[i]? = some a->a.lt t=true)(h2:∀ i a,m<=i->ts[i]? = some a->a.lt t=false):WH ts t=m:=by
 unfold WH;have e:ts=ts.take m++ts.drop m:=(zBG m ts).symm;rw [e,zBB,zAG];have a1:(ts.take m).filter (fun x=>x.lt t)=ts.take m:=zBr.mpr fun a ha=>by
  obtain ⟨i,hi⟩:=zBh ha;have hlt:i<m:=by
   have:=(zAK.mp hi).1;rw [zBQ] at this
   lia
  rw [List.getElem?_take,if_pos hlt] at hi;exact h1 i a hlt hi
 have a2:(ts.drop m).filter (fun x=>x.lt t)=[]:=zBz.mpr fun a ha=>by
  obtain ⟨j,hj⟩:=zBh ha;rw [List.getElem?_drop] at hj;rw [h2 (m+j) a (Nat.le_add_right _ _) hj];exact zAF
 rw [a1,a2,zBQ];simp
 lia
inductive Wv(K:zAA)(vs:je)(H:Hp)(Q:VK)(_:XK):Prop
 | mk (l:Addr) (us:je) (ts:List KT) (v:V) (t:KT) (_:vs=[.ref l,v]) (_:ZL K H l us) (_:KeysAt H ts us) (_:∀ t∈ts,t.fits 3=true) (_:us.length<=100) (_:MS ts) (_:ZD H t v) (_:t.fits 3=true) (_:∀ H',ZB H H'->Q (.int (WH ts t:Nat)) H')
abbrev Bz:List Str:=["keys","key","low","high","middle"]
theorem Vy:ZC Bz ["keys","key"] (Ze LT):=Zs
theorem ZKs(F:Zj K "place_in" "place_in" LT f fd)(T:YG mg)(DA:ZA P w K mg base 7 "ahead" ["one","other"] Y2):ZK P w K mg base ZW 8 f fd ["keys","key"] (Wv K):=by
 refine F.ok Vy (fun vs H Q E h=>(by obtain ⟨_,_,_,_,_,rfl,_⟩:=h;rfl)) (fun cdv A outer s H vs Q E hr h=>?_)
 obtain ⟨l,us,ts,v,t,rfl,hl,hk,hf,h100,ha,hv,ht,q⟩:=h;have nd:=Vy.nd;have hlen:=hk.length;refine ⟨_,ZQ (Zk 2 nd ZM)
  (ZQ (Zk 3 nd (Zy Xh rfl T.len XY (ZF (pv 0) ZG)))
  (ZQ (Ql PassesOwn.never (Y3 PM (pv 2) (pv 3) (YE _))
   (ZQ (Zk 4 nd (Zv NR (Zv WJ (pv 2) (pv 3)) ZM))
   (ZU (Zz (XH (Zh DA hr (ZF (Zl (r:=YB K) YD (pv 0) (pv 4) (fun _ _=>rfl)) (ZF (pv 1) ZG))))
    (ZU (Zk 2 nd (Zv WJ (pv 4) ZM))) (ZU (Zk 3 nd (pv 4)))))))
  (ZU (Zg (pv 2))))),?_⟩
 refine ⟨_,rfl,l,us,rfl,.inl hl,?_⟩;refine ⟨fun m σ H'=>∃(lo hi:Nat)(x:jf),σ=[some (.ref l),some v,some (.int (lo:Int)),some (.int (hi:Int)),x]/\ZB H H'/\lo<=hi/\hi<=ts.length/\m=hi - lo/\(∀ i a,i<lo->ts[i]? = some a->a.lt t=true)/\(∀ i a,hi<=i->ts[i]? = some a->a.lt t=false),
  ⟨_,0,us.length,none,rfl,ZB.refl H,zAk _,by lia,rfl,fun i a hi=>absurd hi (by lia),fun i a hi hg=>?_⟩,?_⟩
 ·have:=(zAK.mp hg).1
  lia
 rintro m σ H1 ⟨lo,hi,x,rfl,s1,h1,h2,rfl,g1,g2⟩;refine ⟨_,rfl,_,rfl,_,_,rfl,rfl,_,rfl,?_⟩;refine WU (fun c=>?_) (fun c=>?_)
 ·have hlt:(lo:Int)<(hi:Int):=of_decide_eq_true c;refine ⟨fun σ' H'=>∃ m',m'<hi - lo/\∃(lo' hi':Nat)(x:jf),σ'=[some (.ref l),some v,some (.int (lo':Int)),some (.int (hi':Int)),x]/\ZB H H'/\lo'<=hi'/\hi'<=ts.length/\m'=hi' - lo'/\(∀ i a,i<lo'->ts[i]? = some a->a.lt t=true)/\(∀ i a,hi'<=i->ts[i]? = some a->a.lt t=false),fun _ _ h=>h,?_⟩;refine ⟨_,rfl,_,rfl,_,_,rfl,rfl,_,_,rfl,rfl,⟨by lia,by decide⟩,?_⟩
  obtain ⟨mid,em,hm1,hm2⟩:∃ mid:Nat,((lo:Int)+(hi:Int)) / 2=(mid:Int)/\lo<=mid/\mid<hi:=⟨((lo+hi) / 2:Nat),by lia,by lia,by lia⟩
  show Qd 4 (V.int (((lo:Int)+(hi:Int)) / 2)) _ _ _;rw [em];have hml:mid<us.length:=by lia
  have hum:us[mid]? = some us[mid]:=by simp [hml]
  obtain ⟨tm,etm,ktm⟩:=hk.get hum;refine ⟨_,rfl,_,rfl,.inl ⟨l,us,_,us[mid],rfl,rfl,s1.seq hl,Yz hum,_,rfl,us[mid],v,tm,t,rfl,ktm.mono (ZB.tups s1) _ _,hv.mono (ZB.tups s1) _ _,hf tm (zAJ etm),ht,fun H2 s2=>⟨_,rfl,?_⟩⟩⟩
  cases hc:tm.lt t with
  | true=>
   refine Zw ⟨_,rfl,_,_,rfl,rfl,hi - (mid+1),by lia,mid+1,hi,_,rfl,s1.trans s2,by lia,h2,rfl,fun i a hi' hg=>?_,g2⟩
   exact HF (Go ha (show i<=mid by lia) hg etm) hc
  | false=>
   refine Zo ⟨_,rfl,mid - lo,by lia,lo,mid,_,rfl,s1.trans s2,hm1,by lia,rfl,g1,fun i a hi' hg=>?_⟩
   exact le_trans' hc (Go ha hi' etm hg)
 ·have hge:¬ (lo:Int)<(hi:Int):=fun z=>c (decide_eq_true z);refine ⟨_,rfl,?_⟩;rw [<-Kh (ts:=ts) (t:=t) (m:=lo) (by lia) g1 fun i a hi'=>g2 i a (by lia)]
  exact q H1 s1
end
def Yo(ts:List ZR)(k:KT)(i:Nat):Nat:=if (gd ts i).h=0 then WH ((gd ts i).rows.map (·.1)) k else ((gd ts i).bs.filter fun b=>!k.lt (YM (gd ts b)).lo).length - 1
def UM(ts:List ZR)(k:KT)(i:Nat):Nat:=(gd ts i).bs.getD (Yo ts k i) 0
def UN(ts:List ZR)(k:KT):Nat->Nat->List (Nat×Nat)
 | 0,i=>[(i,Yo ts k i)]
 | n+1,i=>(i,Yo ts k i) :: UN ts k n (UM ts k i)
theorem On(ts:List ZR)(k:KT):∀ n i,(UN ts k n i).length=n+1
 | 0,_=>rfl
 | n+1,i=>by rw [UN,zAW,On]
theorem K8{gt:List KT}{ts:List ZR}(hw:WF gt ts){i:Nat}(hi:i<ts.length)(h0:(gd ts i).h≠0)(k:KT):Yo ts k i<(gd ts i).bs.length:=by
 have:=(hw i _ (XD hi)).stem h0;unfold Yo;rw [if_neg h0];have l:=zCV (fun b=>!k.lt (YM (gd ts b)).lo) (gd ts i).bs
 lia
theorem Nc{gt:List KT}{ts:List ZR}(hw:WF gt ts){i:Nat}(hi:i<ts.length)(h0:(gd ts i).h≠0)(k:KT):UM ts k i<i/\(gd ts (UM ts k i)).h+1=(gd ts i).h/\(gd ts i).bs[Yo ts k i]? = some (UM ts k i):=by
 have hl:=K8 hw hi h0 k;have hs:=(hw i _ (XD hi)).stem h0;have e:(gd ts i).bs[Yo ts k i]? = some (UM ts k i):=by
  unfold UM;rw [zAC,zAE hl];rfl
 have:=hs.2.2.1 _ (zAJ e);exact ⟨this.1,this.2,e⟩
def Yi(N:Addr->Prop)(H:Hp)(t:ZR)(u:V):Prop:=∃ tp l us,u=.ref tp/\H tp=some (.tup [.str (kindOf t),.ref l])/\H l=some (.lst us)/\¬ N l/\(t.h=0->KeysAt H (Z6 t.rows) us)/\(t.h≠0->us=iN t.bs)
theorem Yi.off{N:Addr->Prop}{H H':Hp}{t:ZR}{u:V}(h:Yi N H t u)(fr:∀ b o,¬ N b->H b=some o->H' b=some o)(m:Z2 H H'):Yi N H' t u:=by
 obtain ⟨tp,l,us,e,h1,h2,n,h3,h4⟩:=h;exact ⟨tp,l,us,e,m _ _ h1,fr _ _ n h2,n,fun z=>(h3 z).mono m _ _,h4⟩
theorem JV{t:ZR}(h:t.h=0):kindOf t = "leaf" :=if_pos h
theorem IC{t:ZR}(h:t.h≠0):kindOf t = "stem" :=if_neg h
theorem Hx(t:ZR):decide (V.str (kindOf t)=V.str "leaf")=decide (t.h=0):=by
 by_cases h:t.h=0
 ·rw [JV h,decide_eq_true rfl,decide_eq_true h]
 ·rw [IC h,decide_eq_false h];decide +kernel
theorem Bl{gt:List KT}{ts:List ZR}(hw:WF gt ts){i:Nat}(hi:i<ts.length):MS ((gd ts i).rows.map (·.1)):=(hw i _ (XD hi)).up.imp fun{a b} q=>Qn _ _ q
section
variable{P:Program}{w:World}{K:zAA}{mg:jb}{base:Heap}{f:Addr}{fd:FuncData}{jg jh:Addr}
inductive YV(vs:je)(H:Hp)(Q:VK)(_:XK):Prop
 | mk (N:Addr->Prop) (t:ZR) (u:V) (_:vs=[u]) (_:Yi N H t u) (_:Q (.bl (decide (t.h=0))) H)
theorem BQ:ZC ["found"] ["found"] (Ze Lx):=Zs
theorem Ck(F:Zj K "is_leaf" "is_leaf" Lx f fd):ZK P w K mg base ZW 1 f fd ["found"] YV:=by
 refine F.ok BQ (fun vs H Q E h=>(by obtain ⟨_,_,_,rfl,_⟩:=h;rfl)) (fun cdv A outer s H vs Q E hr h=>?_)
 obtain ⟨lk,t,u,rfl,⟨tp,l,us,rfl,h1,_⟩,k⟩:=h;refine ⟨_,ZU (Zg (Wz Wy (Zl (r:=Xe K) Zi (pv 0) ZM (fun _ _=>rfl)) Xf (YE _))),?_⟩;refine ⟨_,rfl,tp,_,_,.str (kindOf t),rfl,rfl,Zn.of h1,rfl,rfl,?_⟩;rw [Hx];exact k
inductive XC(vs:je)(H:Hp)(Q:VK)(_:XK):Prop
 | mk (N:Addr->Prop) (t:ZR) (u:V) (n:Nat) (_:vs=[u,.int (n:Int)]) (_:Yi N H t u) (_:t.h=0->Q .non H) (_:t.h≠0->∃ b,t.bs[n]? = some b/\Q (.int (b:Nat)) H)
theorem Cc:ZC ["found","at"] ["found","at"] (Ze Mv):=Zs
theorem Dx(F:Zj K "branch_at" "branch_at" Mv f fd)(DL:ZA P w K mg base 1 "is_leaf" ["found"] YV):ZK P w K mg base ZW 2 f fd ["found","at"] XC:=by
 refine F.ok Cc (fun vs H Q E h=>(by obtain ⟨_,_,_,_,rfl,_⟩:=h;rfl)) (fun cdv A outer s H vs Q E hr h=>?_)
 obtain ⟨lk,t,u,n,rfl,hf,k0,k1⟩:=h;refine ⟨_,ZQ (Zz (XH (Zh DL hr (ZF (pv 0) ZG))) (ZU (Zg Nf)) Z0) (ZU (Zg (Zl (r:=YB K) YD (Zl (r:=Xe K) Zi (pv 0) ZM (fun _ _=>rfl)) (pv 1) (fun _ _=>rfl)))),?_⟩;refine ⟨_,rfl,lk,t,u,rfl,hf,_,rfl,?_⟩;obtain ⟨tp,l,us,rfl,h1,h2,n1,h3,h4⟩:=hf;by_cases h:t.h=0
 ·rw [decide_eq_true h];exact Zw (k0 h)
 ·rw [decide_eq_false h];obtain ⟨b,eb,q⟩:=k1 h;have eu:=h4 h;subst eu;refine Zo ⟨_,rfl,tp,_,_,.ref l,rfl,rfl,Zn.of h1,rfl,_,rfl,.inl ⟨l,_,_,.int (b:Nat),rfl,rfl,ZL.of h2,Yz (by unfold iN;rw [zAN,eb];rfl),q⟩⟩
inductive X0(gt:List KT)(jg jh:Addr)(vs:je)(H:Hp)(Q:VK)(_:XK):Prop
 | mk (X:Yk) (lk:Addr) (c:Nat) (ls:je) (i:Nat) (u v:V) (k:KT) (N:Addr->Prop) (_:vs=[.ref X.S,u,v]) (_:Z3 jg jh H X lk c ls) (_:WF gt X.ts) (_:i<X.ts.length) (_:Yi N H (gd X.ts i) u) (_:ZD H k v) (_:k.fits 3=true) (_:∀ H',ZB H H'->Q (.int (Yo X.ts k i:Nat)) H')
theorem VA:ZC ["shelf","found","key","begun"] ["shelf","found","key"] (Ze LS):=Zs
theorem NF{α:Type}(p:α->Bool){l:List α}{i:Nat}{b:α}(e:l[i]? = some b):(l.take (i+1)).filter p=(l.take i).filter p++(if p b=true then [b] else []):=by
 rw [zAi,e,Option.toList_some,zBB]
 congr 1
 rw [zCw];cases p b <;> rfl
theorem A3{gt:List KT}(F:Zj K "place_within" "place_within" LS f fd)(T:YG mg)(L:Y7 K mg jg jh)(DL:ZA P w K mg base 1 "is_leaf" ["found"] YV)(DP:ZA P w K mg base 8 "place_in" ["keys","key"] (Wv K))(DA:ZA P w K mg base 7 "ahead" ["one","other"] Y2)(DB:ZJ P w K mg base ZW 2 jg "label" ["self","number"] (Xw jg jh)):
  ZK P w K mg base ZW 9 f fd ["shelf","found","key"] (X0 gt jg jh):=by
 refine F.ok VA (fun vs H Q E h=>(by obtain ⟨_,_,_,_,_,_,_,_,_,rfl,_⟩:=h;rfl)) (fun cdv A outer s H vs Q E hr h=>?_)
 obtain ⟨X,lk,c,ls,i,u,v,k,N,rfl,R,hw,hi,hf,hv,fk,q⟩:=h;have nd:=VA.nd;have hr1:=hr.mono (show 1<=8 by decide)
 have hr2:=hr.mono (show 2<=8 by decide)
 have hr7:=hr.mono (show 7<=8 by decide)
 obtain ⟨t1,m1⟩:=T.least;refine ⟨_,ZQ (Zz (XH (Zh DL hr1 (ZF (pv 1) ZG))) (ZU (Zg (Zh DP hr (ZF (VR [] [] rfl (VO (Zl (r:=Xe K) Zi (pv 1) ZM (fun _ _=>rfl))) (fun _ _ _ _ _=>VU) (fun _ _ _ _ _=>Zl (r:=Xe K) Zi (pv 0) ZM (fun _ _=>rfl)) trivial) (ZF (pv 2) ZG))))) Z0)
  (ZQ (GG (i:=3) [2,0] ["key","shelf"] nd rfl rfl rfl (VO (Zl (r:=Xe K) Zi (pv 1) ZM (fun _ _=>rfl))) (fun _ _ _ _ _=>Nu (Vh (XH (Zh DA hr7 (ZF (pv 1) (ZF (Zl (r:=Xe K) Zi (XR (E:=E0) (pv 2) L.cS DB hr2 XE (ZF (pv 0) ZG)) (WE (v:=.int 1) rfl m1 ⟨_,rfl⟩) (fun _ _=>rfl)) ZG)))))) (fun _ _ _ _ _=>pv 0) ⟨rfl,.inl rfl,rfl,rfl,.inl rfl,rfl,trivial⟩)
  (ZU (Zg (Zy (MR rfl) rfl T.max LX (ZF (Zv Vo (Zy Xh rfl T.len XY (ZF (pv 3) ZG)) ZM) (ZF ZM ZG)))))),?_⟩
 refine ⟨_,rfl,N,gd X.ts i,u,rfl,hf,_,rfl,?_⟩;obtain ⟨tp,l,us,rfl,h1,h2,n1,h3,h4⟩:=hf;have ok:=hw i _ (XD hi);by_cases h:(gd X.ts i).h=0
 ·rw [decide_eq_true h];have kr:=h3 h;have lr:us.length=(gd X.ts i).rows.length:=by have:=kr.length;rw [<-this];exact zAD _
  have l4:=(ok.leaf h).2;refine Zw ⟨_,rfl,tp,_,_,.ref l,rfl,rfl,Zn.of h1,rfl,l,rfl,⟨us,ZL.of h2⟩,VV (n:=us.length) (fun i z=>us[i]? = some z) (fun D j ys H3=>ZB H H3/\H D=none/\KeysAt H (((gd X.ts i).rows.map (·.1)).take j) ys) (XG (by lia))
   (fun D j ys H3 hj hP=>⟨us,us[j],ZL.of (hP.1 _ _ h2),by simp [hj]⟩) (fun D j ys H3 z H4 hj hP hy=>⟨hy.1,hy.2 us (ZL.of (hP.1 _ _ h2))⟩) (fun D ys H3 hP=>⟨us,ZL.of (hP.1 _ _ h2),zAH _⟩)
   (fun D hD=>⟨ZX hD _,hD,.nil⟩) (fun D j ys H3 z eD hl' hj hz hP RR jM=>?_) (fun D ys H3 eD hP=>?_)⟩
  ·obtain ⟨s3,nD,kys⟩:=hP;obtain ⟨a,vk,vv,er,rfl,ea,k1,k2⟩:=Qp kr hz;refine ⟨_,rfl,a,_,_,vk,rfl,rfl,Zn.of (s3 _ _ ea),rfl,jM _ H3 eD ⟨UQ s3 nD,nD,?_⟩⟩;rw [zAi,zAN,er];exact kys.append (.cons k1 .nil)
  ·obtain ⟨s3,nD,kys⟩:=hP;rw [zAS (by rw [zAD];lia)] at kys
   have lk':=kys.length;rw [zAD] at lk';refine ⟨_,rfl,D,ys,_,v,k,rfl,ZL.of eD,kys.mono (ZB.tups s3) _ _,fun t ht=>?_,by lia,Bl hw hi,hv.mono (ZB.tups s3) _ _,fk,fun H4 s4=>?_⟩
   ·obtain ⟨r,hr',rfl⟩:=zAf.mp ht;exact (ok.inn r hr').1
   ·have e:Yo X.ts k i=WH ((gd X.ts i).rows.map (·.1)) k:=if_pos h;rw [<-e];exact q H4 (s3.trans s4)
 ·rw [decide_eq_false h];have eu:=h4 h;have ob:=ok.stem h;have lu:us.length=(gd X.ts i).bs.length:=by rw [eu];exact zAD _
  refine Zo ⟨_,rfl,tp,_,_,.ref l,rfl,rfl,Zn.of h1,rfl,l,rfl,⟨us,ZL.of h2⟩,MO (n:=us.length) (fun i z=>us[i]? = some z) (fun j=>!k.lt (YM (gd X.ts ((gd X.ts i).bs.getD j 0))).lo) (fun D j ys H3=>ZB H H3/\H D=none/\ys.length=(((gd X.ts i).bs.take j).filter fun b=>!k.lt (YM (gd X.ts b)).lo).length) (XG (by lia))
   (fun D j ys H3 hj hP=>⟨us,us[j],ZL.of (hP.1 _ _ h2),by simp [hj]⟩) (fun D j ys H3 z H4 hj hP hy=>⟨hy.1,hy.2 us (ZL.of (hP.1 _ _ h2))⟩) (fun D ys H3 hP=>⟨us,ZL.of (hP.1 _ _ h2),zAH _⟩)
   (fun D hD=>⟨ZX hD _,hD,rfl⟩) (fun D j ys H3 z eD hj hz hP B hB=>?_) (fun D j ys H3 z eD hj hz hk hP B hB=>?_) (fun D j ys H3 eD hj hk hP=>?_) (fun D ys H3 eD hP=>?_)⟩
  ·obtain ⟨s3,nD,ly⟩:=hP;rw [eu] at hz;obtain ⟨b,eb,rfl⟩:=OG hz;have ebd:(gd X.ts i).bs.getD j 0=b:=by rw [zAC,eb];rfl
   have hb:=ob.2.2.1 b (zAJ eb);have hbl:b<X.ts.length:=by lia
   have R3:=R.same s3;obtain ⟨dx,hS⟩:=R3.sh.self;obtain ⟨a,jK,jL,ea,ht,k1,k2⟩:=(R3.tw b hbl).tag;cases ea;have okb:=hw b _ (XD hbl);refine ⟨_,rfl,_,rfl,X.S,dx,_,rfl,hS,rfl,_,rfl,X,lk,c,ls,b,rfl,R3,hbl,_,_,_,jK,rfl,rfl,Zn.of ht,rfl,v,jK,k,(YM (gd X.ts b)).lo,rfl,hv.mono (ZB.tups s3) _ _,k1,fk,(Hh okb).1,fun H4 s4=>⟨_,rfl,?_⟩⟩;have:=hB H4 (s4 _ _ eD) ⟨s3.trans s4,nD,ly⟩;rw [ebd] at this;exact this
  ·obtain ⟨s3,nD,ly⟩:=hP;rw [eu] at hz;obtain ⟨b,eb,rfl⟩:=OG hz;have ebd:(gd X.ts i).bs.getD j 0=b:=by rw [zAC,eb];rfl
   rw [ebd] at hk;refine ⟨_,rfl,hB _ H3 eD ⟨UQ s3 nD,nD,?_⟩⟩;rw [NF _ eb,if_pos hk,zAG,zAG,ly];rfl
  ·obtain ⟨s3,nD,ly⟩:=hP;have hj':j<(gd X.ts i).bs.length:=by lia
   have eb:(gd X.ts i).bs[j]? = some ((gd X.ts i).bs.getD j 0):=by rw [zAC,zAE hj'];rfl
   refine ⟨s3,nD,?_⟩;rw [NF _ eb,if_neg (by rw [hk];exact zAF),zAo]
   exact ly
  ·obtain ⟨s3,nD,ly⟩:=hP;rw [zAS (by lia)] at ly
   refine ⟨_,rfl,D,ys,rfl,.inl (ZL.of eD),_,_,rfl,rfl,_,_,rfl,?_⟩;have e:Yo X.ts k i=ys.length - 1:=by rw [ly];exact if_neg h
   have e2:(if (0:Int) > ((ys.length:Nat):Int) - 1 then (0:Int) else ((ys.length:Nat):Int) - 1)=((Yo X.ts k i:Nat):Int):=by
    rw [e];split <;> lia
   have:=q H3 s3;rw [<-e2] at this;exact this
end
end Tw
namespace L2
open PySem PySem.Spec PyProof.Rows
section
variable{P:Program}{w:World}{K:zAA}{mg:jb}{base:Heap}
end
section
variable{M:Model}{A:Around}{E:ja}{s:Shared}
end
section
variable{X:Cx}{pins:List (Addr×Obj)}{σ:St}{H:Hp}{s:Shared}{E E1:XK}
end
section
variable{M:Model}{A:Around}{E:ja}{s:Shared}{B:Heap}{env:Env}{outer l:List Env}{L e:Addr}{cls:Value}{od:Option Addr}{Q:Unit->Shared->Prop}
end
section
variable{X:Cx}{pins:List (Addr×Obj)}{σ:St}{H:Hp}{s:Shared}{E E1:XK}
end
section
variable{X:Cx}{E:XK}
theorem Er{x:Str}{C:Addr}{np jj pos:Pos}(F:V4 X E)(O:OwnCls x C [.type "ValueError",.type "Exception",.type "BaseException",.type "object"] "ValueError.__new__" X.mg X.base)(kp:zAm X.K (.ref C)=true)(mB:zAr X.K C (.type "BaseException")=some true)(ht:zA4 X.K (.ref C)=some (.type "type"))(hg:Gl X x)(jy:(x==("__debug__" : Str))=false:=by decide):
  PS X (.Raise (some (.Call (.Name x np) [] [] jj)) none pos) (fun _ _ H=>E (.ref C) none H):=by
 intro pins s σ H D I h;have hh:=I.ok.hd F.calm;rw [arm_exec_Raise];refine wpAny_bind (wpAny_standAt ?_);refine Jk hh mB ht (wpAny_bind (wpAny_mono ?_ (fun v s3 h3=>wpAny_bind (wpAny_standAt (wpAny_pure h3))) fun _ _ z=>z));have FB:=zCn;obtain ⟨tl,N,nm,q,bs,hdct,sn,sub,ab,col,dd,k0,k1,k2,k3,k5,mN,hC,hN,hni,T⟩:=O.obj;refine wpAny_Call_Name_kw (Qr I hg O.bound ?_ jy);refine zDT I.kIn kp ?_;obtain ⟨hp,g,d,tk,os⟩:=s;refine wpAny_call_exc_subU (rest:=[]) FB FB.hasB FB (T.keeps I.bk) (I.bk _ _ hC) (hN.keeps I.bk) hni (fun h' ea hm=>?_) (zAk _);obtain ⟨tt,e1,e2,e3⟩:=hm.there;have J:=I.newx (C:=C) (ea:=ea) (h':=h') hm.keeps hm.new ⟨_,_,e1,rfl,rfl,rfl,rfl⟩;have hn:H ea=none:=by
  cases z:H ea with
  | none=>rfl
  | some o=>
   obtain ⟨o',q'⟩:=I.hok.there (a:=ea) (by rw [z];exact fun y=>nomatch y)
   have:=hm.new;rw [q'] at this;cases this
 have new0:X.s₀.heap.get? ea=none:=by
  cases z:X.s₀.heap.get? ea with
  | none=>rfl
  | some o=>
   obtain ⟨o',q'⟩:=I.base.there ea o z (by rw [F.ex];simp)
   have:=hm.new;rw [q'] at this;cases this
 exact ⟨ea,none,rfl,J.kIn,(J.hok ea _ ZO).1,HQ F (J.untrack hn) new0 hn (J.hok ea _ ZO).1 h⟩
end
end L2
namespace Tw
open PySem PySem.Spec L2 PyProof.Rows
section
variable{P:Program}{w:World}{K:zAA}{mg:jb}{base:Heap}{f:Addr}{fd:FuncData}{jg jh CS CT CH:Addr}
def Uo(N:Addr->Prop)(H:Hp)(o:Option KT)(v:V):Prop:=match o with
 | some t=>ZD H t v/\t.fits 3=true
 | none=>∃ g:TG,Zm N H g v/\g.neat/\g.fits 3=false
theorem Uo.mono{N:Addr->Prop}{H H':Hp}{v:V}{o:Option KT}(h:Uo N H o v)(m:XS N H H'):Uo N H' o v:=by
 cases o with
 | some t=>exact ⟨h.1.mono m.tup,h.2⟩
 | none=>
  obtain ⟨g,h1,h2,h3⟩:=h;exact ⟨g,h1.mono m,h2,h3⟩
theorem Uo.tg{N:Addr->Prop}{H:Hp}{v:V}{o:Option KT}(h:Uo N H o v):∃ g:TG,Zm N H g v/\g.neat/\g.fits 3=o.isSome:=by
 cases o with
 | some t=>exact ⟨t.emb,Ny t v h.1,LM t 3 h.2,by rw [LN];exact h.2⟩
 | none=>exact h
structure Yd(P:Program)(w:World)(K:zAA)(mg:jb)(base:Heap)(k:Nat)(x:Str)(ps:List Str)(sp:Sp):Prop where
 ex:∃ f fd,ZK P w K mg base (Xi P w) k f fd ps sp/\Zu K fd ps []/\zAm K (.ref f)=true/\mg x=some (.ref f)
theorem Za.ofD{P:Program}{w:World}{K:zAA}{mg:jb}{base:Heap}{x:Str}{st:Stmt}{ps:List Str}{k:Nat}{sp:Sp}(L:Za K mg x st ps)(h:∀ f fd,Zj K x x st f fd->ZK P w K mg base (Xi P w) k f fd ps sp):Yd P w K mg base k x ps sp:=by
 obtain ⟨f,fd,F,b,m⟩:=L.ex;exact ⟨f,fd,h f fd F,b,F.kp,m⟩
theorem Pj{X:Cx}{E:XK}{k:Nat}{x:Str}{ps:List Str}{sp:Sp}{e:Expr}{es:List Expr}{t:TA}{p pos:Pos}(F:V4 X E)(D:Yd X.prog X.w X.K X.mg X.base k x ps sp)(hr:ZY k X.A)(ha:PA X (e :: es) t)(hg:Gl X x:=by rfl)(jy:(x==("__debug__" : Str))=false:=by decide)(he:starEach (e :: es) X.env=(false,eval e X.env) :: starEach es X.env:=by rfl)(jv:(backTo pos (starEach es X.env)).any (·.1)=false:=by rfl):
  PE X (.Call (.Name x p) (e :: es) [] pos) (OY sp [] E t):=by
 obtain ⟨f,fd,FF,b,kp,m⟩:=D.ex;exact MT FF hr hg m kp b .nil (Of F fun _ _ _ h=>h) ha jy he jv
abbrev PJ:jd:=[.type "ValueError",.type "Exception",.type "BaseException",.type "object"]
end
structure GN(K:zAA)(mg:jb)(CK:Addr):Prop where
 at_:mg "NoKey" = some (.ref CK)
 exk:zCd K CK PJ "ValueError.__new__" = true
 kp:zAm K (.ref CK)=true
 mB:zAr K CK (.type "BaseException")=some true
 ty:zA4 K (.ref CK)=some (.type "type")
def YK:Option Int->V
 | none=>.non
 | some x=>.int x
def Wg(ts:List ZR)(k:KT):Option Nat->List (Nat×Nat)
 | none=>[]
 | some i=>UN ts k (gd ts i).h i
def Z8:Option Nat->Option Int
 | none=>none
 | some i=>some (i:Int)
def YR(N:Addr->Prop)(H:Hp)(ts:List ZR)(p:Nat×Nat)(u:V):Prop:=∃ t fv,u=.ref t/\H t=some (.tup [.int (p.1:Int),.int (p.2:Int),fv])/\Yi N H (gd ts p.1) fv
theorem YR.off{N:Addr->Prop}{H H':Hp}{ts:List ZR}{p:Nat×Nat}{u:V}(h:YR N H ts p u)(fr:∀ b o,¬ N b->H b=some o->H' b=some o)(m:Z2 H H'):YR N H' ts p u:=by
 obtain ⟨t,fv,e,h1,h2⟩:=h;exact ⟨t,fv,e,m _ _ h1,Yi.off h2 fr m⟩
def UY(ts:List ZR):Option Int->Bool
 | none=>true
 | some x=>inT ts x
section
variable{P:Program}{w:World}{K:zAA}{mg:jb}{base:Heap}{f:Addr}{fd:FuncData}{jg jh CT CK:Addr}
inductive Yf(CK:Addr)(vs:je)(H:Hp)(Q:VK)(E:XK):Prop
 | mk (v:V) (N:Addr->Prop) (o:Option KT) (_:vs=[v]) (_:Uo N H o v) (_:o.isSome=true->∀ H',ZB H H'->Q v H') (_:o=none->∀ H',ZB H H'->E (.ref CK) none H')
theorem ZF4(F:Zj K "checked" "checked" NK f fd)(kin:K.In base)(L:GN K mg CK)(DI:ZA P w K mg base 6 "is_key" ["thing"] XL):ZK P w K mg base (Xi P w) 7 f fd ["thing"] (Yf CK):=by
 refine F.okD GM (fun vs H Q E h=>(by obtain ⟨_,_,_,rfl,_⟩:=h;rfl)) (fun cdv A outer s H vs Q E hr h=>?_)
 obtain ⟨v,N,o,rfl,hv,k1,k2⟩:=h;refine ⟨_,ZQ (Zz (Vh (XH (Zh DI hr (ZF (pv 0) ZG)))) (ZU (Er UP (CQ kin L.at_ L.exk) L.kp L.mB L.ty rfl)) Z0) (ZU (Zg (pv 0))),?_⟩;obtain ⟨g,tg,ng,fg⟩:=hv.tg;refine ⟨_,rfl,v,g,N,rfl,tg,ng,fun H1 s1=>⟨_,rfl,?_⟩⟩;rw [fg]
 cases o with
 | some t=>exact Zo ⟨_,rfl,k1 rfl H1 s1⟩
 | none=>exact Zw (k2 rfl H1 s1)
inductive Yh(jg jh CT CK:Addr)(vs:je)(H:Hp)(Q:VK)(E:XK):Prop
 | mk (X:Yk) (lk:Addr) (c:Nat) (ls:je) (r:Option Int) (v:V) (N:Addr->Prop) (o:Option KT) (_:vs=[.ref X.S,YK r,v]) (_:Z3 jg jh H X lk c ls) (_:Uo N H o v) (_:∀ x,r=some x->inT X.ts x=false->QQ CT x E H) (_:UY X.ts r=true->o=none->∀ H',ZB H H'->E (.ref CK) none H') (_:UY X.ts r=true->o.isSome=true->∀ H',ZB H H'->Q .non H')
theorem Fr:ZC ["shelf","root","key"] ["shelf","root","key"] (Ze MB):=Zs
theorem G0(F:Zj K "check_asked" "check_asked" MB f fd)(L:Y7 K mg jg jh)(DL:ZJ P w K mg base (Xi P w) 4 jg "label" ["self","number"] (XU jg jh CT))(DC:Yd P w K mg base 7 "checked" ["thing"] (Yf CK)):ZK P w K mg base (Xi P w) 8 f fd ["shelf","root","key"] (Yh jg jh CT CK):=by
 refine F.okD Fr (fun vs H Q E h=>(by obtain ⟨_,_,_,_,_,_,_,_,rfl,_⟩:=h;rfl)) (fun cdv A outer s H vs Q E hr h=>?_)
 obtain ⟨X,lk,c,ls,r,v,N,o,rfl,R,hv,k1,k2,k3⟩:=h;have hr4:=hr.mono (show 4<=7 by decide)
 refine ⟨_,ZQ (Zz (VT (Nm (pv 1))) (ZU (Wx (XR (E:=E) (pv 0) L.cS DL hr4 (Of UP fun _ _ _ h=>h) (ZF (pv 1) ZG)))) Z0)
  (ZU (Wx (Pj UP DC hr (ZF (pv 2) ZG)))),?_⟩
 have last:UY X.ts r=true->Yf CK ([v]++[]) H (fun _ H1=>Q .non H1) E:=fun g=>⟨v,N,o,rfl,hv,fun z H' s'=>k3 g z H' s',fun z H' s'=>k2 g z H' s'⟩
 cases r with
 | none=>
  refine ⟨_,rfl,_,rfl,Zo ⟨_,rfl,last rfl⟩⟩
 | some x=>
  refine ⟨_,rfl,_,rfl,Zw ?_⟩;obtain ⟨dx,hS⟩:=R.sh.self;refine ⟨_,rfl,X.S,dx,_,rfl,hS,rfl,_,rfl,X.S,X.d,lk,c,X.kvs,ls,x,rfl,R.sh,fun tw hx=>?_,fun hx=>?_⟩
  ·have hi:inT X.ts x=true:=by
    cases z:inT X.ts x with
    | true=>rfl
    | false=>rw [R.none z] at hx;cases hx
   obtain ⟨i,rfl,hi'⟩:=OA hi;rw [R.val i hi'] at hx;cases hx;exact ⟨_,_,_,_,_,_,rfl,(R.tw i hi').tw,_,rfl,last hi⟩
  ·have hi:inT X.ts x=false:=by
    cases z:inT X.ts x with
    | false=>rfl
    | true=>
     obtain ⟨i,rfl,hi'⟩:=OA z;rw [R.val i hi'] at hx;cases hx
   exact k1 x rfl hi
structure P3(gt:List KT)(jg jh CT CK:Addr)(H:Hp)(X:Yk)(lk:Addr)(c:Nat)(ls:je)(r:Option Int)(v:V)(o:Option KT)(E:XK):Prop where
 sh:Z3 jg jh H X lk c ls
 wf:WF gt X.ts
 low:∀ i,i<X.ts.length->(gd X.ts i).h<=60
 few:ls.length<=38000
 key:∃ N,Uo N H o v
 no1:∀ x,r=some x->inT X.ts x=false->QQ CT x E H
 no2:UY X.ts r=true->o=none->∀ H',ZB H H'->E (.ref CK) none H'
def QC(p:List (Nat×Nat)):je:=p.map fun s=>V.int (s.1:Int)
inductive Wl(gt:List KT)(jg jh CT CK:Addr)(vs:je)(H:Hp)(Q:VK)(E:XK):Prop
 | mk (X:Yk) (lk:Addr) (c:Nat) (ls:je) (r:Option Int) (v:V) (o:Option KT) (_:vs=[.ref X.S,YK r,v]) (_:P3 gt jg jh CT CK H X lk c ls r v o E) (_:∀(k:KT)(rn:Option Nat),o=some k->r=Z8 rn->(∀ i,rn=some i->i<X.ts.length)->∀(H':Hp)(D:Addr)(us:je),(∀ b o,b≠lk->H b=some o->H' b=some o)->Z3 jg jh H' X lk c (ls++QC (Wg X.ts k rn))->H D=none->D≠lk->H' D=some (.lst us)->Paired (YR (fun b=>b=lk\/b=D) H' X.ts) (Wg X.ts k rn) us->Q (.ref D) H')
abbrev BE:List Str:=["shelf","root","key","steps","number","found","at"]
theorem Vt:ZC BE ["shelf","root","key"] (Ze Me):=Zs
theorem Do{ts:List ZR}{r:Option Int}(h:UY ts r=true):∃ rn,r=Z8 rn/\∀ i,rn=some i->i<ts.length:=by
 cases r with
 | none=>exact ⟨none,rfl,fun i h=>by cases h⟩
 | some x=>
  obtain ⟨i,rfl,hi⟩:=OA h;exact ⟨some i,rfl,fun j h=>by cases h;exact hi⟩
theorem C0{gt:List KT}(F:Zj K "steps_to" "steps_to" Me f fd)(L:Y7 K mg jg jh)(DC:Yd P w K mg base 8 "check_asked" ["shelf","root","key"] (Yh jg jh CT CK))(DL:ZJ P w K mg base ZW 2 jg "look" ["self","number"] (Xo jg jh))(DP:ZA P w K mg base 9 "place_within" ["shelf","found","key"] (X0 gt jg jh))(DB:ZA P w K mg base 2 "branch_at" ["found","at"] XC):
  ZK P w K mg base (Xi P w) 10 f fd ["shelf","root","key"] (Wl gt jg jh CT CK):=by
 refine F.okD Vt (fun vs H Q E h=>(by obtain ⟨_,_,_,_,_,_,_,rfl,_⟩:=h;rfl)) (fun cdv A outer s H vs Q E hr h=>?_)
 obtain ⟨X,lk,c,ls,r,v,o,rfl,A0,q⟩:=h;have nd:=Vt.nd;have hr2:=hr.mono (show 2<=9 by decide)
 have hr8:=hr.mono (show 8<=9 by decide)
 refine ⟨_,ZQ (Wx (Pj UP DC hr8 (Vu (pv 0) (pv 1) (pv 2))))
  (ZQ (Zk 3 nd (Yn ZG))
  (ZQ (Zk 4 nd (pv 1))
  (ZQ (Ql M8 (VT (Nm (pv 4)))
   (ZQ (Zk 5 nd (XR (E:=E0) (pv 0) L.cS DL hr2 XE (ZF (pv 4) ZG)))
   (ZQ (Zk 6 nd (Zh DP hr (Vu (pv 0) (pv 5) (pv 2))))
   (ZQ (Wx (QB zAs zA2 zA1 QL (pv 3) (ZF (Yq (Vu (pv 4) (pv 6) (pv 5))) ZG)))
   (ZU (Zk 4 nd (Zh DB hr2 (ZF (pv 5) (ZF (pv 6) ZG)))))))))
  (ZU (Zg (pv 3)))))),?_⟩
 obtain ⟨N,hv⟩:=A0.key;refine ⟨_,rfl,_,rfl,_,rfl,X,lk,c,ls,r,v,N,o,rfl,A0.sh,hv,A0.no1,A0.no2,fun gr go H1 s1=>?_⟩;obtain ⟨rn,rfl,jp⟩:=Do gr;obtain ⟨k,rfl⟩:=zBn.mp go;obtain ⟨kv,fk⟩:=hv;have R1:=A0.sh.same s1;refine ⟨nn (zAB rfl),fun D nD=>?_⟩;have gD:=ZX nD (.lst []);have eD:=ZO (H:=H1) (a:=D) (o:=.lst []);have nD0:H D=none:=s1.free nD;have Dlk:D≠lk:=(Zb R1.sh.looks nD).symm;have R2:=R1.same gD;have s2:=s1.trans gD;generalize upd H1 D (.lst [])=H2 at gD eD R2 s2 ⊢;refine ⟨_,rfl,?_⟩;have hw:=A0.wf;refine ⟨fun m σ H'=>∃(cur:Option Nat)(pre:List (Nat×Nat))(us:je)(x5 x6:jf),σ=[some (.ref X.S),some (YK (Z8 rn)),some v,some (.ref D),some (YK (Z8 cur)),x5,x6]/\m=(match cur with | none=>0 | some j=>(gd X.ts j).h+1)/\(∀ j,cur=some j->j<X.ts.length)/\Wg X.ts k rn=pre++Wg X.ts k cur /\
   (∀ b o,b≠lk->H b=some o->H' b=some o)/\Z3 jg jh H' X lk c (ls++QC pre)/\H' D=some (.lst us)/\Paired (YR (fun b=>b=lk\/b=D) H' X.ts) pre us,⟨_,rn,[],[],none,none,rfl,rfl,jp,rfl,fun b o _ e=>s2 b o e,by rw [show QC []=[] from rfl,zAo];exact R2,eD,.nil⟩,?_⟩
 rintro m σ H3 ⟨cur,pre,us,x5,x6,rfl,rfl,hcur,epre,fr,R3,eD3,hst⟩
 cases cur with
 | none=>
  refine ⟨_,rfl,_,rfl,Zo ?_⟩;have e':Wg X.ts k rn=pre:=by rw [epre];exact zAo _
  exact ⟨_,rfl,q k rn rfl rfl jp H3 D us fr (by rw [e'];exact R3) nD0 Dlk eD3 (by rw [e'];exact hst)⟩
 | some j=>
  have hj:=hcur j rfl;have hjl:=A0.low j hj;have lpre:pre.length+((gd X.ts j).h+1)<=61:=by
   have e:=congrArg zCB epre;rw [zAG] at e;have e1:(Wg X.ts k (some j)).length=(gd X.ts j).h+1:=On _ _ _ _;have e2:(Wg X.ts k rn).length<=61:=by
    cases rn with
    | none=>exact zAk _
    | some i=>
     have:(Wg X.ts k (some i)).length=(gd X.ts i).h+1:=On _ _ _ _;have:=A0.low i (jp i rfl)
     lia
   lia
  have few:=A0.few;have lw:(QC pre).length=pre.length:=zAD _;have lus:=Paired.length hst;refine ⟨_,rfl,_,rfl,Zw ⟨fun σ' H'=>∃ m',m'<(gd X.ts j).h+1/\∃(cur:Option Nat)(pre:List (Nat×Nat))(us:je)(x5 x6:jf),σ'=[some (.ref X.S),some (YK (Z8 rn)),some v,some (.ref D),some (YK (Z8 cur)),x5,x6]/\m'=(match cur with | none=>0 | some j=>(gd X.ts j).h+1)/\(∀ j,cur=some j->j<X.ts.length)/\Wg X.ts k rn=pre++Wg X.ts k cur /\
   (∀ b o,b≠lk->H b=some o->H' b=some o)/\Z3 jg jh H' X lk c (ls++QC pre)/\H' D=some (.lst us)/\Paired (YR (fun b=>b=lk\/b=D) H' X.ts) pre us,fun _ _ z=>z,?_⟩⟩
  obtain ⟨dx,hS⟩:=R3.sh.self;refine ⟨_,rfl,X.S,dx,_,rfl,hS,rfl,_,rfl,X,lk,c,_,j,rfl,R3,hj,by rw [zAG];lia,fun H4 tp l ws fr4 R4 htp nl hl w1 w2=>?_⟩
  have hlk3:=R3.sh.looks;have m34:Z2 H3 H4:=fun b xs e=>fr4 b _ (ZT e hlk3) e;have llk:l≠lk:=(Zb hlk3 nl).symm;have lD:l≠D:=fun z=>by rw [z,eD3] at nl;cases nl
  have lN:¬ (l=lk\/l=D):=fun z=>z.elim llk lD;have hf4:Yi (fun b=>b=lk\/b=D) H4 (gd X.ts j) (.ref tp):=⟨tp,l,ws,rfl,htp,hl,lN,w1,w2⟩;have m03:Z2 H H3:=fun b xs e=>fr b _ (ZT e A0.sh.sh.looks) e;have kv4:=(kv.mono m03 _ _).mono m34 _ _;refine ⟨_,rfl,_,rfl,_,rfl,X,lk,c,_,j,.ref tp,v,k,_,rfl,R4,hw,hj,hf4,kv4,fk,fun H5 s5=>?_⟩;have eD5:=s5 _ _ (fr4 _ _ Dlk eD3);refine ⟨_,rfl,.inl ⟨rfl,_,ZL.of eD5⟩,_,rfl,_,rfl,_,rfl,nn (zAB rfl),fun t nt=>?_⟩;have g6:=ZX nt (.tup [YK (Z8 (some j)),.int ((Yo X.ts k j:Nat):Int),.ref tp]);have et:=ZO (H:=H5) (a:=t) (o:=.tup [YK (Z8 (some j)),.int ((Yo X.ts k j:Nat):Int),.ref tp]);have g56:=s5.trans g6;generalize upd H5 t (.tup [YK (Z8 (some j)),.int ((Yo X.ts k j:Nat):Int),.ref tp])=H6 at g6 et g56 ⊢;have eD6:=g6 _ _ eD5;refine ⟨D,us,.ref t,rfl,rfl,eD6,nn (by lia),?_⟩
  have sD:ZE D H6 (upd H6 D (.lst (us++[.ref t]))):=(ZE.refl D H6).upd;have tD:=sD.tups eD6;have R6:=R4.same g56;have ND:¬ OL X lk D:=by
   obtain ⟨⟨dS,hS'⟩,hd',_⟩:=R6.sh;rintro (z | z | z)
   ·exact ZT eD6 hS' (by intro z;cases z) z
   ·exact ZT eD6 hd' (by intro z;cases z) z
   ·exact Dlk z
  have oD:∀ i:Nat,i<X.ts.length->(X.as.getD i .d).x≠D/\(X.as.getD i .d).ab≠D/\(X.as.getD i .d).th≠D:=fun i hi=>by
   have W:=R1.tw i hi;obtain ⟨dy,hy⟩:=W.tw.self;obtain ⟨us',e1,_⟩:=W.things;exact ⟨Zb hy nD,Zb W.tw.above nD,Zb e1 nD⟩
  have R7:=R6.but sD ND oD tD;have fr7:∀ b o,b≠lk->H3 b=some o->b≠D->upd H6 D (.lst (us++[.ref t])) b=some o:=fun b o n e nb=>by rw [ZV nb];exact g56 _ _ (fr4 b o n e)
  have m37:Z2 H3 (upd H6 D (.lst (us++[.ref t]))):=fun b xs e=>tD b xs (g56 _ _ (m34 b xs e));have hf7:Yi (fun b=>b=lk\/b=D) (upd H6 D (.lst (us++[.ref t]))) (gd X.ts j) (.ref tp):=by
   exact ⟨tp,l,ws,rfl,tD _ _ (g56 _ _ htp),by rw [ZV lD];exact g56 _ _ hl,lN,fun z=>((w1 z).mono (ZB.tups g56) _ _).mono tD _ _,w2⟩
  have hst7:Paired (YR (fun b=>b=lk\/b=D) (upd H6 D (.lst (us++[.ref t]))) X.ts) (pre++[(j,Yo X.ts k j)]) (us++[.ref t]):=by
   refine Pg (a:=(j,Yo X.ts k j)) ⟨t,.ref tp,rfl,tD _ _ et,hf7⟩ (Paired.mapP hst fun _ _ z=>YR.off z (fun b o n e=>fr7 b o (fun z=>n (.inl z)) e fun z=>n (.inr z)) m37)
  have ew:ls++QC pre++[V.int (j:Int)]=ls++QC (pre++[(j,Yo X.ts k j)]):=by unfold QC;simp
  rw [ew] at R7;have fr':∀ b o,b≠lk->H b=some o->upd H6 D (.lst (us++[.ref t])) b=some o:=fun b o n e=>by rw [ZV (Zb e nD0)];exact g56 _ _ (fr4 b o n (fr b o n e))
  refine ⟨_,rfl,_,rfl,_,gd X.ts j,.ref tp,Yo X.ts k j,rfl,hf7,fun h0=>?_,fun h0=>?_⟩
  ·refine ⟨0,by lia,none,pre++[(j,Yo X.ts k j)],_,_,_,rfl,rfl,(fun i z=>by cases z),?_,fr',R7,ZO,hst7⟩
   rw [epre];show pre++UN X.ts k (gd X.ts j).h j=_;rw [h0];exact (zAo _).symm
  ·obtain ⟨n1,n2,n3⟩:=Nc hw hj h0 k;refine ⟨UM X.ts k j,n3,(gd X.ts (UM X.ts k j)).h+1,by lia,some (UM X.ts k j),pre++[(j,Yo X.ts k j)],_,_,_,rfl,rfl,(fun i z=>by cases z;lia),?_,fr',R7,ZO,hst7⟩
   rw [epre];show pre++UN X.ts k (gd X.ts j).h j=_;rw [<-n2,zCJ];rfl
end
theorem Fe{ts:List ZR}{rn:Option Nat}(k:KT)(low:∀ i,i<ts.length->(gd ts i).h<=60)(jp:∀ i,rn=some i->i<ts.length):(Wg ts k rn).length<=61:=by
 cases rn with
 | none=>exact zAk _
 | some i=>
  have:(Wg ts k (some i)).length=(gd ts i).h+1:=On _ _ _ _;have:=low i (jp i rfl)
  lia
section
variable{P:Program}{w:World}{K:zAA}{mg:jb}{base:Heap}{f:Addr}{fd:FuncData}{jg jh CS CT CH:Addr}
theorem BM{X:Cx}{w:World}{o i:Expr}{pos:Pos}{td ty:TE}(hu:X.A.units+5<cLine)(ho:PE X o td)(hi:PE X i ty)(hs:O7 i)(hw:X.w=w:=by rfl):PE X (.Subscript o i pos) (Iv w td ty):=by
 subst hw;exact C4 hu ho hi hs
theorem GH:∀{a b:List KT},Yg a->Yg b->(∀ k,k∈a ↔ k∈b)->a=b
 | [],[],_,_,_=>rfl
 | [],y :: b,_,_,h=>by simp at h;exact absurd rfl (h y).1
 | x :: a,[],_,_,h=>by simp at h;exact absurd rfl (h x).1
 | x :: a,y :: b,ha,hb,h=>by
  have ha':=zA7.mp ha;have hb':=zA7.mp hb;have e:x=y:=by
   rcases zAe.mp ((h x).mp (zAQ ..)) with e | q
   ·exact e
   rcases zAe.mp ((h y).mpr (zAQ ..)) with e | q'
   ·exact e.symm
   have h1:=hb'.1 x q;have h2:=ha'.1 y q';rw [Qn _ _ h1] at h2;cases h2
  subst e;have:a=b:=GH ha'.2 hb'.2 fun k=>by
   constructor
   ·intro hk;rcases zAe.mp ((h k).mp (zAL _ hk)) with e | q
    ·have:=ha'.1 k hk;rw [e,Ur] at this;cases this
    ·exact q
   ·intro hk;rcases zAe.mp ((h k).mpr (zAL _ hk)) with e | q
    ·have:=hb'.1 k hk;rw [e,Ur] at this;cases this
    ·exact q
  rw [this]
theorem EH{ts:List KT}(h:Yg ts):ts.Nodup:=h.imp fun{a b} q e=>by rw [e,Ur] at q;cases q
end
structure X6(w:World)(H:Hp)(D:Addr)(rs:List Z5)(xs:List (KT×V×V)):Prop where
 dk:YJ w H D xs
 rows:Paired (fun(r:Z5)(x:KT×V×V)=>x.1=r.1/\ZD H r.2 x.2.2) rs xs
theorem X6.keys{w:World}{H:Hp}{D:Addr}{rs:List Z5}{xs:List (KT×V×V)}(h:X6 w H D rs xs):xs.map (·.1)=rs.map (·.1):=by
 have:=h.rows;clear h
 induction this with
 | nil=>rfl
 | cons a t ih=>rw [zAa,zAa,a.1,ih]
theorem X6.but{w:World}{H H':Hp}{D p:Addr}{rs:List Z5}{xs:List (KT×V×V)}(h:X6 w H D rs xs)(s:ZE p H H')(t:Z2 H H')(n:D≠p):X6 w H' D rs xs:=⟨h.dk.but s t n,Paired.mapP h.rows fun _ _ z=>⟨z.1,z.2.mono t _ _⟩⟩
theorem X6.same{w:World}{H H':Hp}{D:Addr}{rs:List Z5}{xs:List (KT×V×V)}(h:X6 w H D rs xs)(s:ZB H H'):X6 w H' D rs xs:=⟨h.dk.same s,Paired.mapP h.rows fun _ _ z=>⟨z.1,z.2.mono (ZB.tups s) _ _⟩⟩
theorem FU{w:World}{H H':Hp}{d:Addr}{xs:List (KT×V×V)}(dk:YJ w H d xs)(s:ZE d H H'):Z2 H H':=fun b ys e=>by
 obtain ⟨es,h,_⟩:=dk.ex;exact s b _ e (ZT e h (by unfold Pl;intro z;cases z))
section
variable{P:Program}{w:World}{K:zAA}{mg:jb}{base:Heap}{f:Addr}{fd:FuncData}
inductive X9(w:World)(vs:je)(H:Hp)(Q:VK)(_:XK):Prop
 | mk (p:Addr) (m:Int) (_:vs=[.ref p,.int m]) (_:ZI H p) (_:0<m) (_:m<=61) (_:∀(D:Addr)(rs:List Z5)(xs:List (KT×V×V))(H':Hp),H D=none->X6 w H' D rs xs->(∀ r∈rs,r.fit)->Yg (rs.map (·.1))->rs.length<=60->ZI H' p->ZE p H H'->Q (.ref D) H')
abbrev CZ:List Str:=["_law_well_here","_law_most","_law_keys_here","_law_model","_law_spot"]
theorem VM:ZC CZ ["_law_well_here","_law_most"] (Ze KJ):=Zs
inductive Eu(p:Addr)(m:Int)(Kl D:Addr)(w:World)(ts:List KT)(H:Hp)(vs:je)(i:Nat)(σ:L2.St)(H':Hp):Prop
 | mk (rs:List Z5) (xs:List (KT×V×V)) (x4:jf) (_:σ=[some (.ref p),some (.int m),some (.ref Kl),some (.ref D),x4]) (_:X6 w H' D rs xs) (_:rs.map (·.1)=ts.take i) (_:∀ r∈rs,r.fit) (_:ZI H' p) (_:ZE p H H') (_:H' Kl=some (.lst vs)) (_:KeysAt H' ts vs)
theorem AA(F:Zj K "_law_ground" "_law_ground" KJ f fd)(DP:ZA P w K mg base 1 "_law_pull" ["_law_well_here","_law_many"] Zp)(DK:ZA P w K mg base 9 "_law_keys" ["_law_well_here","_law_many"] Vb)(DV:ZA P w K mg base 7 "_law_value" ["_law_well_here"] Wf):ZK P w K mg base ZW 10 f fd ["_law_well_here","_law_most"] (X9 w):=by
 refine F.ok VM (fun vs H Q E h=>(by obtain ⟨_,_,rfl,_⟩:=h;rfl)) (fun cdv A outer s H vs Q E hr h=>?_)
 obtain ⟨p,m,rfl,W,m0,m61,k⟩:=h;have nd:=VM.nd;have hr1:=hr.mono (show 1<=9 by decide)
 have hr7:=hr.mono (show 7<=9 by decide)
 have KZ:=ZY.key hr (n:=4) (by decide)
 refine ⟨_,ZQ (Zk 2 nd (Zh DK hr (ZF (pv 0) (ZF (Zh DP hr1 (ZF (pv 0) (ZF (pv 1) ZG))) ZG))))
  (ZQ (Zk 3 nd GJ)
  (ZQ (Ud PassesOwn.never rfl (VO (pv 2)) (WT 4 nd)
   (ZU (Hj KZ (pv 3) (pv 4) (Zh DV hr7 (ZF (pv 0) ZG)) rfl)))
  (ZU (Zg (pv 3))))),?_⟩
 refine ⟨_,rfl,_,rfl,_,rfl,p,m,rfl,W,XI (by lia) (by lia),fun n H1 n0 n1 W1 s1=>?_⟩
 have en:n=((n.toNat:Nat):Int):=by lia
 refine ⟨p,n.toNat,congrArg (fun y=>[V.ref p,V.int y]) en,W1,by lia,fun Kl vs ts H2 nK hK kK fK rK lK W2 s2=>?_⟩
 have pK:Kl≠p:=V5 W1 nK;have s02:=s1.trans s2;intro D H3 nD sx3 s3 dk3;have W3:=W2.same s3;have hK3:=s3 _ _ hK;have Dp:D≠p:=V5 W2 nD;have DK':D≠Kl:=fun z=>by rw [z,hK] at nD;cases nD
 have nD0:H D=none:=Ou s02 W2 nD;have s03:=s02.trans (ZE.of s3);have lv:=kK.length;refine ⟨_,rfl,Kl,rfl,⟨vs,ZL.of hK3⟩,OD (K:=K) (a:=Kl) (xs:=vs) (Eu p m Kl D w ts H vs)
  ⟨[],[],_,rfl,⟨dk3,.nil⟩,rfl,fun r hr=>by simp at hr,W3,s03,hK3,kK.mono (ZB.tups s3) _ _⟩ (fun i σ H' _ hP=>by obtain ⟨_,_,_,_,_,_,_,_,_,h,_⟩:=hP;exact ZL.of h) ?_ ?_⟩
 ·rintro i u σ H4 hu ⟨rs,xs,x4,rfl,dr,er,fr,W4,s4,hK4,kK4⟩;have hi:i<vs.length:=(zAK.mp hu).1;obtain ⟨t,et,kt⟩:=kK4.get hu;refine ⟨_,rfl,p,rfl,W4,fun v vt H5 kv fv W5 s5=>?_⟩;have t5:=s5.tupsW W4;have dr5:=dr.but s5 t5 Dp;have lx:=Paired.length dr5.rows;have lrs:rs.length=(ts.take i).length:=by rw [<-er,zAD]
  rw [zBQ] at lrs;refine ⟨_,rfl,_,rfl,D,xs,t,rfl,dr5.dk,by lia,kt.mono t5 _ _,UC _ 3 (fK t (zAJ et)),fun H6 s6 dk6=>?_⟩
  have t6:=FU dr5.dk s6;have hn:t∉xs.map (·.1):=by
   rw [dr5.keys,er];intro z;obtain ⟨j,hj⟩:=zBh z;rw [List.getElem?_take] at hj;split at hj
   ·have:=(zCl (by lia) (EH rK)).mp (hj.trans et.symm)
    lia
   ·cases hj
  have ep:UL xs t u v=xs++[(t,u,v)]:=by
   unfold UL;rw [if_neg fun z=>hn (Xm.mp z)]
  rw [ep] at dk6;refine ⟨rs++[(t,vt)],xs++[(t,u,v)],_,rfl,⟨dk6,Pg (a:=((t,vt):Z5)) ⟨rfl,kv.mono t6 _ _⟩ (Paired.mapP dr5.rows fun _ _ z=>⟨z.1,z.2.mono t6 _ _⟩)⟩,?_,fun r hr'=>?_,W5.stay s6 (Ne.symm Dp),fun b o e n=>s6 b o (s5 b o (s4 b o e n) n) (Zb e nD0),s6 _ _ (s5 _ _ hK4 pK) (Ne.symm DK'),(kK4.mono t5 _ _).mono t6 _ _⟩
  ·rw [zAX,er,zAi,et];rfl
  ·rcases zAd.mp hr' with z | z
   ·exact fr r z
   ·rw [zAR.mp z];exact ⟨fK t (zAJ et),fv⟩
 ·rintro σ H4 ⟨rs,xs,x4,rfl,dr,er,fr,W4,s4,hK4,kK4⟩;rw [zAS (by lia)] at er
  have lrs:rs.length=ts.length:=by rw [<-er,zAD]
  exact ⟨_,rfl,k D rs xs H4 nD0 dr fr (by rw [er];exact rK) (by lia) W4 s4⟩
inductive X3(w:World)(vs:je)(H:Hp)(Q:VK)(_:XK):Prop
 | mk (D:Addr) (rs:List Z5) (xs:List (KT×V×V)) (_:vs=[.ref D]) (_:X6 w H D rs xs) (_:∀ r∈rs,r.fit) (_:Yg (rs.map (·.1))) (_:rs.length<=60) (_:∀(l:Addr)(us:je)(H':Hp),ZB H H'->H l=none->H' l=some (.lst us)->KeysAt H' (Z6 rs) us->Q (.ref l) H')
theorem Ad:ZC ["_law_model"] ["_law_model"] (Ze N8):=Zs
theorem ZJV(F:Zj K "_law_sorted" "_law_sorted" N8 f fd)(T:YG mg)(DR:ZA P w K mg base 6 "_law_rank" ["_law_spot"] (Yx 5)):ZK P w K mg base ZW 9 f fd ["_law_model"] (X3 w):=by
 refine F.ok Ad (fun vs H Q E h=>(by obtain ⟨_,_,_,rfl,_⟩:=h;rfl)) (fun cdv A outer s H vs Q E hr h=>?_)
 obtain ⟨D,rs,xs,rfl,dr,fr,ris,l60,k⟩:=h;have hu5:=ZY.key hr (n:=5) (by decide)
 have DS:ZA P w K mg base 6 "_law_rank" ["_law_spot"] (UG KT.rk):=by
  obtain ⟨g,gd,FG,b,kp,m⟩:=DR.ex;exact ⟨g,gd,FG.imp fun vs H Q E h=>by
   obtain ⟨v,t,e,a,c,d⟩:=h;have:=UC t 3 c;exact ⟨v,t,3,e,a,c,by lia,d⟩,b,kp,m⟩
 refine ⟨_,ZU (Zg (VR [0] ["_law_model"] rfl (VO (JS Nt Pz DS hr rfl T.sorted rfl (ZF (pv 0) ZG))) (fun _ _ _ _ _=>VU) (fun _ _ _ _ _=>Yq (ZF (pv 0) (ZF (BM (w:=w) hu5 (pv 1) (pv 0) (fun _ _=>rfl)) ZG))) ⟨rfl,.inl rfl,rfl,trivial⟩)),?_⟩;have lx:=Paired.length dr.rows;have ek:=dr.keys;have kf:∀ x∈xs,x.1.fits 3=true:=fun x hx=>by
  have:x.1∈rs.map (·.1):=by rw [<-ek];exact zAf.mpr ⟨x,hx,rfl⟩
  obtain ⟨r,hr',e⟩:=zAf.mp this;rw [<-e];exact (fr r hr').1
 refine ⟨_,rfl,D,xs,rfl,dr.dk,kf,by lia,fun S ws ts H1 s1 nS hS ka pm pw=>?_⟩
 have et:ts=rs.map (·.1):=GH (JD (pm.nodup_iff.mpr dr.dk.nd) pw) ris fun t=>by rw [pm.mem_iff,ek]
 subst et;have dr1:=dr.same s1;have lw:=ka.length;rw [zAD] at lw;refine ⟨S,rfl,⟨ws,ZL.of hS⟩,VV (n:=ws.length) (fun i z=>ws[i]? = some z) (fun E i ys H3=>ZB H1 H3/\H1 E=none/\KeysAt H3 ((Z6 rs).take i) ys) (XG (by lia))
  (fun E i ys H3 hi hP=>⟨ws,ws[i],ZL.of (hP.1 _ _ hS),by simp [hi]⟩) (fun E i ys H3 z H4 hi hP hy=>⟨hy.1,hy.2 ws (ZL.of (hP.1 _ _ hS))⟩) (fun E ys H3 hP=>⟨ws,ZL.of (hP.1 _ _ hS),zAH _⟩)
  (fun E hE=>⟨ZX hE _,hE,.nil⟩) (fun E i ys H3 z eE hl' hi hz hP RR jM=>?_) (fun E ys H3 eE hP=>?_)⟩
 ·obtain ⟨s3,nE,kys⟩:=hP;obtain ⟨t,et,kt⟩:=ka.get hz;rw [zAN] at et;obtain ⟨r,er,rfl⟩:=zAt.mp et;have hix:xs[i]? = some (xs[i]'(by lia)):=zAE (by lia)
  have dr3:=dr1.same s3;obtain ⟨r',er',e1,e2⟩:=Paired.ixR dr3.rows hix;rw [er] at er';cases er';have hv:=JP dr.dk.nd hix;rw [e1] at hv;have ff:=(fr r (zAJ er)).1;refine ⟨_,rfl,_,rfl,_,rfl,D,xs,r.1,_,rfl,dr3.dk,kt.mono (ZB.tups s3) _ _,UC _ 3 ff,hv,nn (zAB rfl),fun q nq=>?_⟩;have g:=ZX nq (.tup [z,(xs[i]'(by lia)).2.2])
  have eq:=ZO (H:=H3) (a:=q) (o:=.tup [z,(xs[i]'(by lia)).2.2])
  have eE4:=g _ _ eE;refine jM _ _ eE4 ⟨UQ (s3.trans g) nE,nE,?_⟩;have tE:Z2 (upd H3 q (.tup [z,(xs[i]'(by lia)).2.2])) (upd (upd H3 q (.tup [z,(xs[i]'(by lia)).2.2])) E (.lst (ys++[.ref q]))):=(ZE.refl E _).upd.tups eE4
  unfold Z6;rw [zAi,zAN,er];refine ((kys.mono (ZB.tups g) _ _).mono tE _ _).append (.cons (.tup (tE _ _ eq) (.cons ?_ (.cons ?_ .nil))) .nil)
  ·exact (kt.mono (ZB.tups (s3.trans g)) _ _).mono tE _ _
  ·exact (e2.mono (ZB.tups g) _ _).mono tE _ _
 ·obtain ⟨s3,nE,kys⟩:=hP;rw [zAS (by unfold Z6;rw [zAD];lia)] at kys
  exact k E ys H3 (s1.trans s3) (s1.free nE) eE kys
end
theorem LD:∀(n:Nat)(l:List Nat),l.Nodup->(∀ x∈l,x<n)->l.length<=n
 | 0,[],_,_=>zAH _
 | 0,x :: _,_,h=>absurd (h x (zAQ ..)) (by lia)
 | n+1,l,nd,h=>by
  have h1:=LD n (l.erase n) (nd.erase n) fun x hx=>by
   have:=h x (List.mem_of_mem_erase hx);have ne:x≠n:=fun z=>by
    rw [z] at hx;exact (List.Nodup.not_mem_erase nd) hx
   lia
  by_cases hm:n∈l
  ·rw [List.length_erase_of_mem hm] at h1
   lia
  ·rw [List.erase_of_not_mem hm] at h1
   lia
def UH(H:Hp)(t:ZR)(v:V):Prop:=∃ tp u us,v=.ref tp/\H tp=some (.tup [.str (kindOf t),.ref u])/\H u=some (.tup us)/\(t.h=0->KeysAt H (Z6 t.rows) us)/\(t.h≠0->us=iN t.bs)
theorem UH.mono{H H':Hp}{t:ZR}{v:V}(h:UH H t v)(m:Z2 H H'):UH H' t v:=by
 obtain ⟨tp,u,us,e,h1,h2,h3,h4⟩:=h;exact ⟨tp,u,us,e,m _ _ h1,m _ _ h2,fun z=>(h3 z).mono m _ _,h4⟩
structure XM(ts:List ZR)(H:Hp)(kvs:List (Zd×V))(F:List Nat):Prop where
 nd:F.Nodup
 lt:∀ j∈F,j<ts.length
 no:∀ j:Nat,j∉F->YN kvs (Sum.inl (j:Int))=none
 yes:∀ j:Nat,j∈F->∃ v,YN kvs (Sum.inl (j:Int))=some v/\UH H (gd ts j) v
 len:kvs.length=F.length
 ks:kvs.map (·.1)=F.map fun j:Nat=>(Sum.inl (j:Int):Zd)
theorem XM.mono{ts:List ZR}{H H':Hp}{kvs:List (Zd×V)}{F:List Nat}(h:XM ts H kvs F)(m:Z2 H H'):XM ts H' kvs F:=⟨h.nd,h.lt,h.no,fun j hj=>by
 obtain ⟨v,e,r⟩:=h.yes j hj;exact ⟨v,e,r.mono m⟩,h.len,h.ks⟩
theorem XM.put{ts:List ZR}{H:Hp}{kvs:List (Zd×V)}{F:List Nat}(h:XM ts H kvs F){j:Nat}(hj:j<ts.length)(hn:j∉F){v:V}(hv:UH H (gd ts j) v):XM ts H (XF kvs (Sum.inl (j:Int)) v) (F++[j]):=by
 refine ⟨?_,fun i hi=>?_,fun i hi=>?_,fun i hi=>?_,?_,by rw [Ow v (h.no j hn),zAX,zAX,h.ks];rfl⟩
 ·rw [zB0];exact ⟨h.nd,by simp,fun a ha b hb=>by rw [zAR.mp hb];exact fun z=>hn (z ▸ ha)⟩
 ·rcases zAd.mp hi with z | z
  ·exact h.lt i z
  ·rw [zAR.mp z];exact hj
 ·have n1:i∉F:=fun z=>hi (zAz _ z);have n2:i≠j:=fun z=>hi (zAc _ (by rw [z];exact zAR.mpr rfl))
  rw [Os,if_neg fun z=>n2 (by have:=Sum.inl.inj z;lia)]
  exact h.no i n1
 ·rw [Os];by_cases z:i=j
  ·subst z;exact ⟨v,if_pos rfl,hv⟩
  ·rw [if_neg fun y=>z (by have:=Sum.inl.inj y;lia)]
   exact h.yes i ((zAd.mp hi).elim id fun y=>absurd (zAR.mp y) z)
 ·rw [Ow v (h.no j hn),zAG,zAG,h.len];rfl
def LR(ts:List ZR)(F:List Nat)(T:List (Option Nat)):Prop:=∀ j∈F,∀ b∈(gd ts j).bs,b∈F\/some b∈T
abbrev WZ(l:List (Option Nat)):je:=l.map fun x=>YK (Z8 x)
def O0(ts:List ZR):Option Nat->Nat
 | none=>1
 | some j=>5 ^ (gd ts j).h
def PH(ts:List ZR)(l:List (Option Nat)):Nat:=(l.map (O0 ts)).sum
theorem N1{ts:List ZR}{l:List (Option Nat)}{x:Option Nat}:PH ts l<PH ts (l++[x]):=by
 unfold PH;rw [zAX,zC8];have:0<O0 ts x:=by
  cases x with
  | none=>exact Nat.one_pos
  | some j=>exact Nat.pow_pos (by decide)
 simp only [zAa,zBu,zBX,zDZ,zCr]
 lia
theorem ZLK{ts:List ZR}{gt:List KT}{l:List (Option Nat)}{b:Nat}(hw:WF gt ts)(hb:b<ts.length)(hh:(gd ts b).h≠0):PH ts (l++(gd ts b).bs.map some)<PH ts (l++[some b]):=by
 obtain ⟨h1,h2,h3,_⟩:=(hw b _ (XD hb)).stem hh;have key:∀(bs:List Nat),(∀ c∈bs,(gd ts c).h+1=(gd ts b).h)->((bs.map some).map (O0 ts)).sum=bs.length * 5 ^ ((gd ts b).h - 1):=by
  intro bs
  induction bs with
  | nil=>intro _;simp
  | cons c bs ih=>
   intro h;have hc:=h c (zAQ ..);rw [zAa,zAa,zBX,ih fun x hx=>h x (zAL _ hx),zAW,Nat.succ_mul];show 5 ^ (gd ts c).h+_=_;rw [show (gd ts c).h=(gd ts b).h - 1 by lia]
   lia
 unfold PH;rw [zAX,zC8,zAX,zC8,key _ fun c hc=>(h3 c hc).2];have e2:O0 ts (some b)=5 * 5 ^ ((gd ts b).h - 1):=by
  show 5 ^ (gd ts b).h=_;have:(gd ts b).h=((gd ts b).h - 1)+1:=by lia
  rw [this,Nat.pow_succ,Nat.mul_comm];simp
 have pos:0<5 ^ ((gd ts b).h - 1):=Nat.pow_pos (by decide)
 simp only [zAa,zBu,zBX,zDZ,zCr];rw [e2];have:(gd ts b).bs.length * 5 ^ ((gd ts b).h - 1)<=4 * 5 ^ ((gd ts b).h - 1):=Nat.mul_le_mul_right _ h2
 lia
section
variable{P:Program}{w:World}{K:zAA}{mg:jb}{base:Heap}{f:Addr}{fd:FuncData}{jg jh:Addr}
inductive XX(gt:List KT)(jg jh:Addr)(vs:je)(H:Hp)(Q:VK)(_:XK):Prop
 | mk (X:Yk) (lk:Addr) (c:Nat) (ls:je) (rn:Option Nat) (d:Addr) (_:vs=[.ref X.S,YK (Z8 rn),.ref d]) (_:Z3 jg jh H X lk c ls) (_:WF gt X.ts) (_:X.ts.length<=240) (_:ls.length<=500) (_:∀ i,rn=some i->i<X.ts.length) (_:H d=some (.dK [])) (_:d≠X.d) (_:∀(H':Hp)(kvs:List (Zd×V))(F:List Nat)(ls':je),(∀ b o,b≠lk->b≠d->H b=some o->H' b=some o)->Z3 jg jh H' X lk c ls'->ls'.length<=ls.length+X.ts.length->H' d=some (.dK kvs)->XM X.ts H' kvs F->LR X.ts F []->(∀ i,rn=some i->i∈F)->Q (.ref d) H')
abbrev D8:List Str:=["_law_shelf","_law_root_here","_law_found","_law_todo","_law_number","_law_kind","_law_what"]
theorem WP:ZC D8 ["_law_shelf","_law_root_here","_law_found"] (Ze Mx):=Zs
structure XZ(jg jh:Addr)(H H':Hp)(X:Yk)(lk:Addr)(c:Nat)(ls:je)(d ta:Addr)(todo:List (Option Nat))(F:List Nat)(kvs:List (Zd×V))(ls':je):Prop where
 fr:∀ b o,b≠lk->b≠d->H b=some o->H' b=some o
 sh:Z3 jg jh H' X lk c ls'
 len:ls'.length=ls.length+F.length
 hd:H' d=some (.dK kvs)
 rcd:XM X.ts H' kvs F
 hta:H' ta=some (.lst (WZ todo))
 nta:H ta=none
 tl:ta≠lk
 tw:∀ i:Nat,i<X.ts.length->(X.as.getD i .d).ab≠ta/\(X.as.getD i .d).th≠ta
section
variable{H H' H'':Hp}{X:Yk}{lk:Addr}{c:Nat}{ls ls':je}{d ta:Addr}{todo todo':List (Option Nat)}{F:List Nat}{kvs:List (Zd×V)}
theorem XZ.same(r:XZ jg jh H H' X lk c ls d ta todo F kvs ls')(s:ZB H' H''):XZ jg jh H H'' X lk c ls d ta todo F kvs ls':=
 ⟨fun b o n1 n2 e=>s b o (r.fr b o n1 n2 e),r.sh.same s,r.len,s _ _ r.hd,r.rcd.mono (ZB.tups s),s _ _ r.hta,r.nta,r.tl,r.tw⟩
theorem XZ.pop(r:XZ jg jh H H' X lk c ls d ta todo F kvs ls'):XZ jg jh H (upd H' ta (.lst (WZ todo'))) X lk c ls d ta todo' F kvs ls':=by
 have s:ZE ta H' (upd H' ta (.lst (WZ todo'))):=(ZE.refl ta H').upd;have t:=s.tups r.hta;obtain ⟨⟨dS,hS⟩,hd,hl⟩:=r.sh.sh;have N:¬ OL X lk ta:=by
  rintro (z | z | z)
  ·exact ZT r.hta hS (by intro z;cases z) z
  ·exact ZT r.hta hd (by intro z;cases z) z
  ·exact r.tl z
 refine ⟨fun b o n1 n2 e=>by rw [ZV (Zb e r.nta)];exact r.fr b o n1 n2 e,r.sh.but s N (fun i hi=>?_) t,r.len,s _ _ r.hd (ZT r.hd r.hta),r.rcd.mono t,ZO,r.nta,r.tl,r.tw⟩
 obtain ⟨dy,hy⟩:=(r.sh.tw i hi).tw.self;exact ⟨ZT hy r.hta,r.tw i hi⟩
theorem XZ.anew(r:XZ jg jh H H' X lk c ls d ta todo F kvs ls'){q:Addr}(nq:H' q=none)(hq:H lk≠none)(hd0:H d≠none):XZ jg jh H (upd H' q (.lst (WZ todo'))) X lk c ls d q todo' F kvs ls':=by
 have g:=ZX nq (.lst (WZ todo'));have r':=r.same g;have nlk:q≠lk:=(Zb r.sh.sh.looks nq).symm;have nd:q≠d:=(Zb r.hd nq).symm;refine ⟨r'.fr,r'.sh,r'.len,r'.hd,r'.rcd,ZO,?_,nlk,fun i hi=>?_⟩
 ·cases e:H q with
  | none=>rfl
  | some o=>rw [r.fr q o nlk nd e] at nq;cases nq
 ·obtain ⟨us,e1,_⟩:=(r.sh.tw i hi).things;exact ⟨Zb (r.sh.tw i hi).tw.above nq,Zb e1 nq⟩
end
theorem JZ(t:ZR):decide (V.str (kindOf t)=V.str "stem")=decide (t.h≠0):=by
 by_cases h:t.h=0
 ·rw [JV h,decide_eq_false (show ¬ t.h≠0 from fun z=>z h)];decide +kernel
 ·rw [IC h,decide_eq_true rfl,decide_eq_true h]
inductive ReL(X:Yk)(rn:Option Nat)(d jg jh:Addr)(H:Hp)(lk:Addr)(c:Nat)(ls:je)(m:Nat)(σ:L2.St)(H':Hp):Prop
 | mk (ta:Addr) (todo:List (Option Nat)) (F:List Nat) (kvs:List (Zd×V)) (ls':je) (x4 x5 x6:jf) (_:σ=[some (.ref X.S),some (YK (Z8 rn)),some (.ref d),some (.ref ta),x4,x5,x6]) (_:m=PH X.ts todo) (_:XZ jg jh H H' X lk c ls d ta todo F kvs ls') (_:LR X.ts F todo) (_:∀ i,rn=some i->i∈F\/some i∈todo) (_:∀ i,some i∈todo->i<X.ts.length) (_:todo.length<=1+4 * F.length)
theorem EL{gt:List KT}(F0:Zj K "_law_reached" "_law_reached" Mx f fd)(T:YG mg)(L:Y7 K mg jg jh)(DL:ZJ P w K mg base ZW 2 jg "look" ["self","number"] (Xo jg jh)):ZK P w K mg base ZW 3 f fd ["_law_shelf","_law_root_here","_law_found"] (XX gt jg jh):=by
 refine F0.ok WP (fun vs H Q E h=>(by obtain ⟨_,_,_,_,_,_,rfl,_⟩:=h;rfl)) (fun cdv A outer s H vs Q E hr h=>?_)
 obtain ⟨X,lk,c,ls,rn,d,rfl,R,hw,t200,l500,jp,hd,dXd,k⟩:=h;have nd:=WP.nd;have hu:=Pe hr;refine ⟨_,ZQ (Zk 3 nd (Yn (ZF (pv 1) ZG)))
  (ZQ (Ql PassesOwn.never (Y3 (LB hr.units0) (pv 3) (Yn ZG) (YE _))
   (ZQ (Zk 4 nd (BD zAs PySem.F.slot_list_pop PySem.F.type_list_pop Fd (pv 3)))
   (ZU (Zz (PW.pt (O1 (VT (Nm (pv 4))) (NV (VT (Ms hu (pv 4) (pv 2))))))
    (ZQ (Q7 (XR (E:=E0) (pv 0) L.cS DL hr XE (ZF (pv 4) ZG)) (Ot rfl (QR (WT 5 nd) (QR (WT 6 nd) NS))))
    (ZQ (JB hu (pv 2) (pv 4) (Yq (ZF (pv 5) (ZF (VP NM rfl T.tuple Qw (ZF (pv 6) ZG)) ZG))) rfl)
    (ZU (Zz (Y3 Wy (pv 5) Xf (YE _)) (ZU (Zk 3 nd (Zv O8 (pv 3) (VP PD rfl T.list Qi (ZF (pv 6) ZG))))) Z0)))) Z0))))
  (ZU (Zg (pv 2)))),?_⟩
 have hlk0:=R.sh.looks;have dlk:d≠lk:=ZT hd hlk0;have lkne:H lk≠none:=by rw [hlk0];exact fun z=>nomatch z
 have dne:H d≠none:=by rw [hd];exact fun z=>nomatch z
 refine ⟨_,rfl,nn (zAB rfl),fun ta nta=>?_⟩;have g0:=ZX nta (.lst [YK (Z8 rn)]);have I0:XZ jg jh H (upd H ta (.lst [YK (Z8 rn)])) X lk c ls d ta [rn] [] [] ls:=by
  refine ⟨fun b o _ _ e=>g0 b o e,R.same g0,rfl,g0 _ _ hd,⟨.nil,fun j hj=>by simp at hj,fun j _=>rfl,fun j hj=>by simp at hj,rfl,rfl⟩,ZO,nta,(Zb hlk0 nta).symm,fun i hi=>?_⟩
  obtain ⟨us,e1,_⟩:=(R.tw i hi).things;exact ⟨Zb (R.tw i hi).tw.above nta,Zb e1 nta⟩
 refine ⟨ReL X rn d jg jh H lk c ls,
  ⟨_,ta,[rn],[],[],ls,none,none,none,rfl,rfl,I0,fun j hj=>by simp at hj,fun i hi=>.inr (by rw [hi];exact zAR.mpr rfl),fun i hi=>jp i (zAR.mp hi).symm,zAH _⟩,?_⟩
 rintro m σ H1 ⟨ta,todo,F,kvs,ls',x4,x5,x6,rfl,rfl,r1,clo,root,inn,few⟩;have lF:=LD X.ts.length F r1.rcd.nd r1.rcd.lt;refine ⟨_,rfl,nn (zAB rfl),fun e0 he0=>?_⟩;have ge:=ZX he0 (.lst []);have r2:=r1.same ge;refine ⟨ta,e0,WZ todo,rfl,rfl,ZL.of r2.hta,ZL.of ZO,_,rfl,?_⟩;generalize upd H1 e0 (.lst [])=H2 at r2 ⊢;rcases zCX todo with z | ⟨rest,x,z⟩
 ·subst z;refine Zo ⟨_,rfl,k H2 kvs F ls' r2.fr r2.sh (by rw [r2.len];lia) r2.hd r2.rcd clo fun i hi=>(root i hi).elim id fun z=>by simp at z⟩
 rw [zCY] at z;subst z;have ene:(!(WZ (rest++[x])).isEmpty)=true:=by simp [WZ]
 rw [ene];have eT:WZ (rest++[x])=WZ rest++[YK (Z8 x)]:=by simp [WZ]
 refine Zw ⟨_,fun _ _ z=>z,?_⟩;refine ⟨_,rfl,.inl ⟨rfl,_,ZL.of r2.hta⟩,ta,WZ (rest++[x]),YK (Z8 x),rfl,rfl,r2.hta,by rw [eT];simp,?_⟩
 have r3:XZ jg jh H (upd H2 ta (.lst (WZ (rest++[x])).dropLast)) X lk c ls d ta rest F kvs ls':=by
  rw [eT,List.dropLast_concat];exact r2.pop
 generalize upd H2 ta (.lst (WZ (rest++[x])).dropLast)=H3 at r3 ⊢;rw [zAG] at few;have few':rest.length+1<=1+4 * F.length:=few;have inn':∀ i,some i∈rest->i<X.ts.length:=fun i hi=>inn i (zAz _ hi)
 cases x with
 | none=>
  refine ⟨_,rfl,_,rfl,Zo (Zo ?_)⟩;refine ⟨_,N1,ta,rest,F,kvs,ls',_,_,_,rfl,rfl,r3,fun j hj b hb=>(clo j hj b hb).imp id fun z=>?_,fun i hi=>(root i hi).imp id fun z=>?_,inn',by lia⟩
  ·exact (zAd.mp z).elim id fun y=>by simp at y
  ·exact (zAd.mp z).elim id fun y=>by simp at y
 | some j=>
  have hj:=inn j (by simp)
  refine ⟨_,rfl,_,rfl,Zw ?_⟩;by_cases hF:j∈F
  ·obtain ⟨v,ev,_⟩:=r3.rcd.yes j hF;have hg:YZ H3 d (.int (j:Int)) (some v):=ev ▸ YZ.k (k:=Sum.inl (j:Int)) r3.hd;refine ⟨_,rfl,_,rfl,d,some v,rfl,hg,_,rfl,Zo ?_⟩;refine ⟨_,N1,ta,rest,F,kvs,ls',_,_,_,rfl,rfl,r3,fun i hi b hb=>?_,fun i hi=>?_,inn',by lia⟩
   ·rcases clo i hi b hb with z | z
    ·exact .inl z
    ·rcases zAd.mp z with y | y
     ·exact .inr y
     ·have:=zAj.inj (zAR.mp y);exact .inl (this ▸ hF)
   ·rcases root i hi with z | z
    ·exact .inl z
    ·rcases zAd.mp z with y | y
     ·exact .inr y
     ·have:=zAj.inj (zAR.mp y);exact .inl (this ▸ hF)
  ·have ev:=r3.rcd.no j hF;have hg:YZ H3 d (.int (j:Int)) none:=ev ▸ YZ.k (k:=Sum.inl (j:Int)) r3.hd;refine ⟨_,rfl,_,rfl,d,none,rfl,hg,_,rfl,Zw ?_⟩;obtain ⟨dx,hS⟩:=r3.sh.sh.self;have ll:=r3.len;refine ⟨_,rfl,X.S,dx,_,rfl,hS,rfl,_,rfl,X,lk,c,ls',j,rfl,r3.sh,hj,by lia,fun H4 tp l us fr4 R4 htp nl hl w1 w2=>?_⟩
   have hd3:=r3.hd;have m34:Z2 H3 H4:=fun b xs e=>fr4 b _ (ZT e r3.sh.sh.looks) e;have hd4:=fr4 _ _ dlk hd3;have hta4:=fr4 _ _ r3.tl r3.hta;refine ⟨tp,_,rfl,Zn.of htp,rfl,_,_,rfl,_,_,rfl,rfl,?_⟩;refine ⟨_,rfl,_,rfl,l,us,rfl,.inl ⟨ZL.of hl,fun u nu=>⟨nn (zAB rfl),fun t nt=>?_⟩⟩⟩;have g5:=ZX nu (.tup us);have g6:=ZX nt (.tup [.str (kindOf (gd X.ts j)),.ref u]);have g46:=g5.trans g6;have eu:=g6 _ _ (ZO (H:=H4) (a:=u) (o:=.tup us));have et:=ZO (H:=upd H4 u (.tup us)) (a:=t) (o:=.tup [.str (kindOf (gd X.ts j)),.ref u]);generalize upd (upd H4 u (.tup us)) t (.tup [.str (kindOf (gd X.ts j)),.ref u])=H6 at g46 eu et ⊢;have hd6:=g46 _ _ hd4;have hta6:=g46 _ _ hta4;have hl6:=g46 _ _ hl;have R6:=R4.same g46;have lkv:=r3.rcd.len;refine ⟨_,rfl,_,rfl,d,_,rfl,UB.k (k:=Sum.inl (j:Int)) hd6 (XG (by lia)),?_⟩
   have rv:UH H6 (gd X.ts j) (.ref t):=⟨t,u,us,rfl,et,eu,fun z=>(w1 z).mono (ZB.tups g46) _ _,w2⟩;have rc6:=(((r3.rcd.mono m34).mono (ZB.tups g46)).put hj hF rv);have sx:ZE d H6 (upd H6 d (.dK (XF kvs (Sum.inl (j:Int)) (.ref t)))):=(ZE.refl d H6).upd;have m67:Z2 H6 (upd H6 d (.dK (XF kvs (Sum.inl (j:Int)) (.ref t)))):=fun b xs e=>sx b _ e (ZT e hd6);have hd7:=ZO (H:=H6) (a:=d) (o:=.dK (XF kvs (Sum.inl (j:Int)) (.ref t)));generalize upd H6 d (.dK (XF kvs (Sum.inl (j:Int)) (.ref t)))=H7 at sx m67 hd7 ⊢;have N:¬ OL X lk d:=by
    obtain ⟨⟨dS,hS'⟩,_,_⟩:=R6.sh;rintro (z | z | z)
    ·exact ZT hd6 hS' (by intro z;cases z) z
    ·exact dXd z
    ·exact dlk z
   have r7:XZ jg jh H H7 X lk c ls d ta rest (F++[j]) (XF kvs (Sum.inl (j:Int)) (.ref t)) (ls'++[.int (j:Int)]):=by
    refine ⟨fun b o n1 n2 e=>sx b o (g46 b o (fr4 b o n1 (r3.fr b o n1 n2 e))) n2,R6.but sx N (fun i hi=>?_) m67,by rw [zAG,zAG,ll];rfl,hd7,rc6.mono m67,sx _ _ hta6 (ZT hta6 hd6),r3.nta,r3.tl,r3.tw⟩
    have W:=R6.tw i hi;obtain ⟨dy,hy⟩:=W.tw.self;obtain ⟨us',e1,_⟩:=W.things;exact ⟨ZT hy hd6,ZT W.tw.above hd6,ZT e1 hd6⟩
   have hl7:=sx _ _ hl6 (ZT hl6 hd6);have clo':∀ i∈F,∀ b∈(gd X.ts i).bs,b∈F++[j]\/some b∈rest:=fun i hi b hb=>by
    rcases clo i hi b hb with z | z
    ·exact .inl (zAz _ z)
    ·rcases zAd.mp z with y | y
     ·exact .inr y
     ·exact .inl (zAc _ (zAR.mpr (zAj.inj (zAR.mp y))))
   have root':∀ i,rn=some i->i∈F++[j]\/some i∈rest:=fun i hi=>by
    rcases root i hi with z | z
    ·exact .inl (zAz _ z)
    ·rcases zAd.mp z with y | y
     ·exact .inr y
     ·exact .inl (zAc _ (zAR.mpr (zAj.inj (zAR.mp y))))
   have lFj:(F++[j]).length=F.length+1:=by rw [zAG];rfl
   have ok:=hw j _ (XD hj);refine ⟨_,rfl,rfl,_,rfl,?_⟩;rw [JZ];by_cases h0:(gd X.ts j).h=0
   ·rw [decide_eq_false (show ¬ (gd X.ts j).h≠0 from fun z=>z h0)];refine Zo ⟨_,N1,ta,rest,F++[j],_,_,_,_,_,rfl,rfl,r7,fun i hi b hb=>?_,root',inn',by lia⟩
    rcases zAd.mp hi with z | z
    ·exact clo' i z b hb
    ·rw [zAR.mp z,(ok.leaf h0).1] at hb;simp at hb
   ·rw [decide_eq_true (show (gd X.ts j).h≠0 from h0)];obtain ⟨b2,b4,b3,_⟩:=ok.stem h0;have eus:=w2 h0;have lus:us.length=(gd X.ts j).bs.length:=by rw [eus];exact zAD _
    have lto:(WZ rest).length=rest.length:=zAD _;refine Zw ⟨_,rfl,_,rfl,l,us,rfl,.inl (ZL.of hl7),fun q1 n1=>?_⟩;have g8:=ZX n1 (.lst us);have r8:=r7.same g8;refine ⟨ta,q1,WZ rest,us,rfl,rfl,r8.hta,ZO,nn (by lia),fun q2 n2=>?_⟩
    have e9:WZ rest++us=WZ (rest++(gd X.ts j).bs.map some):=by
     rw [eus];simp [WZ,iN,YK,Z8]
    rw [e9];refine ⟨_,ZLK hw hj h0,q2,rest++(gd X.ts j).bs.map some,F++[j],_,_,_,_,_,rfl,rfl,r8.anew n2 lkne dne,fun i hi b hb=>?_,fun i hi=>(root' i hi).imp id fun z=>zAz _ z,fun i hi=>?_,by rw [zAG,zAD];lia⟩
    ·rcases zAd.mp hi with z | z
     ·exact (clo' i z b hb).imp id fun y=>zAz _ y
     ·rw [zAR.mp z] at hb;exact .inr (zAc _ (zAf.mpr ⟨b,hb,rfl⟩))
    ·rcases zAd.mp hi with z | z
     ·exact inn' i z
     ·obtain ⟨b,hb,e⟩:=zAf.mp z;cases e;have:=(b3 i hb).1
      lia
structure X4(gt:List KT)(ts:List ZR)(H:Hp)(d:Addr)(kvs:List (Zd×V))(F:List Nat):Prop where
 hd:H d=some (.dK kvs)
 rcd:XM ts H kvs F
 clo:LR ts F []
 wf:WF gt ts
theorem X4.same{gt:List KT}{ts:List ZR}{H H':Hp}{d:Addr}{kvs:List (Zd×V)}{F:List Nat}(r:X4 gt ts H d kvs F)(s:ZB H H'):X4 gt ts H' d kvs F:=⟨s _ _ r.hd,r.rcd.mono (ZB.tups s),r.clo,r.wf⟩
theorem X4.get{gt:List KT}{ts:List ZR}{H:Hp}{d:Addr}{kvs:List (Zd×V)}{F:List Nat}(r:X4 gt ts H d kvs F){j:Nat}(hj:j∈F):∃ tp u us,YZ H d (.int (j:Int)) (some (.ref tp))/\H tp=some (.tup [.str (kindOf (gd ts j)),.ref u])/\H u=some (.tup us)/\((gd ts j).h=0->KeysAt H (Z6 (gd ts j).rows) us)/\((gd ts j).h≠0->us=iN (gd ts j).bs):=by
 obtain ⟨v,ev,tp,u,us,rfl,h1,h2,h3,h4⟩:=r.rcd.yes j hj;exact ⟨tp,u,us,ev ▸ YZ.k (k:=Sum.inl (j:Int)) r.hd,h1,h2,h3,h4⟩
theorem X4.sub{gt:List KT}{ts:List ZR}{H:Hp}{d:Addr}{kvs:List (Zd×V)}{F:List Nat}(r:X4 gt ts H d kvs F){j b:Nat}(hj:j∈F)(hb:b∈(gd ts j).bs):b∈F:=(r.clo j hj b hb).elim id fun z=>by simp at z
end
theorem Fk{gt:List KT}{ts:List ZR}(hw:WF gt ts){j:Nat}(hj:j<ts.length)(h0:(gd ts j).h≠0):(gd ts j).bs.Pairwise fun a b=>(YM (gd ts a)).lo.lt (YM (gd ts b)).lo=true:=by
 have ok:=hw j _ (XD hj);obtain ⟨b2,b4,b3,er⟩:=ok.stem h0;have up:=ok.up;rw [er,List.map_flatMap,zDa] at up;have lo:∀ b∈(gd ts j).bs,(YM (gd ts b)).lo∈(gd ts b).rows.map (·.1):=fun b hb=>by
  have hbl:b<ts.length:=by have:=(b3 b hb).1;lia
  obtain ⟨r,rs,e1,e2⟩:=QY (hw b _ (XD hbl)).ne;rw [e1,e2];exact zAQ ..
 have:=up.2;exact this.imp_of_mem fun{a b} ha hb h=>h _ (lo a ha) _ (lo b hb)
end Tw
namespace L2
open PySem PySem.Spec PyProof.Rows
section
variable{X:Cx}
end
end L2
namespace Tw
open PySem PySem.Spec L2 PyProof.Rows
theorem CG(us:je)(n s:Nat)(hn:n<=us.length):Qt us (some (n:Int)) (some ((n:Int)+(s:Int)))=(us.drop n).take s:=by
 unfold Qt;have e:((n:Int)+(s:Int))=((n+s:Nat):Int):=by lia
 rw [e,HT.sIx_nat,HT.sIx_nat,show min n us.length=n by lia,zDY (i:=s),zCu]
 congr 1
 lia
def Yc(N:Addr->Prop)(H:Hp)(ps:je)(u:V):Prop:=∃ a,u=.ref a/\H a=some (.lst ps)/\¬ N a
theorem Yc.go{N:Addr->Prop}{H H':Hp}{ps:je}{u:V}(h:Yc N H ps u)(k:∀ b o,H b=some o->¬ N b->H' b=some o):Yc N H' ps u:=by
 obtain ⟨a,e,h1,h2⟩:=h;exact ⟨a,e,k _ _ h1 h2,h2⟩
def NB(H:Hp)(p D:Addr)(b:Addr):Prop:=b=p\/b=D\/H b≠none
def Px(stem:Bool)(n:Nat):Prop:=(if stem=true then 2 else 1)<=n/\n<=4
structure YO(H H':Hp)(p l D:Addr)(us:je)(stem:Bool)(pl:je)(jk:List (je))(n:Nat):Prop where
 w:ZI H' p
 sx:ZE p H H'
 hl:H' l=some (.lst us)
 hD:H' D=some (.lst pl)
 nD:H D=none
 lp:l≠p
 lD:l≠D
 Dp:D≠p
 parts:Paired (Yc (NB H p D) H') jk pl
 flat:jk.flatten=us.take n
 size:∀ ps∈jk,Px stem ps.length
 few:pl.length<=n
theorem YO.go{H H' H'':Hp}{p l D:Addr}{us:je}{stem:Bool}{pl:je}{jk:List (je)}{n:Nat}(r:YO H H' p l D us stem pl jk n)(s:ZE p H' H'')(w:ZI H'' p):YO H H'' p l D us stem pl jk n:=
 ⟨w,r.sx.trans s,s _ _ r.hl r.lp,s _ _ r.hD r.Dp,r.nD,r.lp,r.lD,r.Dp,Paired.mapP r.parts fun _ _ z=>Yc.go z fun b o e n=>s b o e fun z=>n (.inl z),r.flat,r.size,r.few⟩
abbrev IB:List Str:=["_law_well_here","_law_things","_law_few","_law_stem","_law_parts","_law_at","_law_size"]
theorem UU:ZC IB ["_law_well_here","_law_things","_law_few","_law_stem"] (Ze OC):=Zs
def Jj:Option Stmt->List Stmt
 | some (.While _ b _ _)=>b
 | _=>[]
def LF:List Stmt:=Jj ((WD OC)[2]?)
section
variable{P:Program}{w:World}{K:zAA}{mg:jb}{base:Heap}{f:Addr}{fd:FuncData}{cdv:Value}{A:Around}{outer:List Env}{s:Shared}{Hs:Hp}{E:XK}
theorem Ar(T:YG mg):∃ t,X5 (WB ZW P w K mg base IB "_law_cut" (Ze OC) f cdv A outer s Hs E).nox (LF.drop 2) t/\∀(D0:Ym)(H H1:Hp)(p l D:Addr)(us pl:je)(stem:Bool)(fw:Int)(jk:List (je))(n sz:Nat),
  YO H H1 p l D us stem pl jk n->n<us.length->us.length<=100->1<=sz->sz<=4->Px stem (min sz (us.length - n)) ->
   (∀ pl' pss' H',YO H H' p l D us stem pl' pss' (n+sz)->D0.nx [some (.ref p),some (.ref l),some (.int fw),some (.bl stem),some (.ref D),some (.int ((n+sz:Nat):Int)),some (.int (sz:Int))] H') ->
    t D0 [some (.ref p),some (.ref l),some (.int fw),some (.bl stem),some (.ref D),some (.int (n:Int)),some (.int (sz:Int))] H1:=by
 have nd:=UU.nd;refine ⟨_,ZQ (Wx (QB zAs zA2 zA1 QL (pv 4) (ZF (VP PD rfl T.list Qi (ZF (Kv Hz (pv 1) (Li (pv 5)) (Li (Zv WJ (pv 5) (pv 6)))) ZG)) ZG)))
  (ZU (Zk 5 nd (Zv WJ (pv 5) (pv 6)))),fun D0 H H1 p l D us pl stem fw jk n sz r hn l100 s1 s4 hok fin=>?_⟩
 refine ⟨_,rfl,.inl ⟨rfl,_,ZL.of r.hD⟩,_,rfl,_,rfl,_,rfl,_,rfl,_,rfl,_,_,rfl,rfl,_,rfl,l,us,rfl,ZL.of r.hl,fun q1 n1=>?_⟩;rw [CG us n sz (by lia)] at *
 have g1:=ZX n1 (.lst ((us.drop n).take sz));have e1:=ZO (H:=H1) (a:=q1) (o:=.lst ((us.drop n).take sz));generalize upd H1 q1 (.lst ((us.drop n).take sz))=H2 at g1 e1 ⊢;refine ⟨q1,_,rfl,.inl (ZL.of e1),fun q2 n2=>?_⟩;have g2:=ZX n2 (.lst ((us.drop n).take sz));have e2:=ZO (H:=H2) (a:=q2) (o:=.lst ((us.drop n).take sz));have g:=g1.trans g2;have n20:H1 q2=none:=g1.free n2;generalize upd H2 q2 (.lst ((us.drop n).take sz))=H3 at g2 e2 g ⊢;have r3:=YO.go r (ZE.of g) (r.w.same g);have hD3:=r3.hD;have fw':=r.few;refine ⟨D,pl,.ref q2,rfl,rfl,hD3,nn (by lia),?_⟩
 refine ⟨_,rfl,_,rfl,_,_,rfl,rfl,?_⟩;have q2N:¬ NB H p D q2:=by
  rintro (z | z | z)
  ·exact V5 r.w n20 z
  ·rw [z,r.hD] at n20;cases n20
  ·exact z (Ou r.sx r.w n20)
 have sD:ZE D H3 (upd H3 D (.lst (pl++[.ref q2]))):=(ZE.refl D H3).upd;have e:((n:Int)+(sz:Int))=((n+sz:Nat):Int):=by lia
 have lpart:((us.drop n).take sz).length=min sz (us.length - n):=by rw [zBQ,zCu]
 have k:=fin (pl++[.ref q2]) (jk++[(us.drop n).take sz]) (upd H3 D (.lst (pl++[.ref q2]))) ⟨r3.w.stay sD (Ne.symm r.Dp),fun b o e n=>by rw [ZV (Zb e r.nD)];exact r3.sx b o e n,by rw [ZV r.lD];exact r3.hl,ZO,r.nD,r.lp,r.lD,r.Dp,Pg ⟨q2,rfl,by rw [ZV (fun z=>q2N (.inr (.inl z)))];exact e2,q2N⟩ (Paired.mapP r3.parts fun _ _ z=>Yc.go z fun b o e n=>sD b o e fun z=>n (.inr (.inl z))),by rw [List.flatten_append,r.flat,List.take_add];simp,fun ps hps=>?_,by simp;lia⟩
 ·rw [<-e] at k;exact k
 ·rcases zAd.mp hps with z | z
  ·exact r.size ps z
  ·rw [zAR.mp z,lpart];exact hok
inductive Vp(vs:je)(H:Hp)(Q:VK)(_:XK):Prop
 | mk (p l:Addr) (us:je) (fw:Int) (stem:Bool) (_:vs=[.ref p,.ref l,.int fw,.bl stem]) (_:ZI H p) (_:H l=some (.lst us)) (_:l≠p) (_:0<=fw) (_:fw<4) (_:us.length<=100) (_:stem=true->us.length≠1) (_:∀(D:Addr)(pl:je)(jk:List (je))(H':Hp),H D=none->H' D=some (.lst pl)->Paired (Yc (NB H p D) H') jk pl->jk.flatten=us->(∀ ps∈jk,Px stem ps.length)->pl.length<=104->ZI H' p->ZE p H H'->Q (.ref D) H')
theorem Kz{q:Addr}{a b c d:Int}{fw:Int}(h0:0<=fw)(h4:fw<4)(lo hi:Int)(ha:lo<=a/\a<=hi)(hb:lo<=b/\b<=hi)(hc:lo<=c/\c<=hi)(hd:lo<=d/\d<=hi):∃ m:Int,Xq [V.int a,.int b,.int c,.int d] fw=some (.int m)/\lo<=m/\m<=hi:=by
 obtain ⟨v,av,mv⟩:=Q2 (xs:=[V.int a,.int b,.int c,.int d]) h0 h4;simp only [zAe,zBo,or_false] at mv;rcases mv with rfl | rfl | rfl | rfl
 ·exact ⟨a,av,ha⟩
 ·exact ⟨b,av,hb⟩
 ·exact ⟨c,av,hc⟩
 ·exact ⟨d,av,hd⟩
inductive HY(p l:Addr)(fw:Int)(stem:Bool)(D:Addr)(us:je)(H:Hp)(m:Nat)(σ:L2.St)(H':Hp):Prop
 | mk (pl:je) (jk:List (je)) (n:Nat) (x6:jf) (_:σ=[some (.ref p),some (.ref l),some (.int fw),some (.bl stem),some (.ref D),some (.int (n:Int)),x6]) (_:m=us.length - n) (_:YO H H' p l D us stem pl jk n) (_:(stem=true->us.length - n≠1)) (_:n<=103)
theorem BH(F0:Zj K "_law_cut" "_law_cut" OC f fd)(T:YG mg)(DP:ZA P w K mg base 1 "_law_pull" ["_law_well_here","_law_many"] Zp):ZK P w K mg base ZW 2 f fd ["_law_well_here","_law_things","_law_few","_law_stem"] Vp:=by
 refine F0.ok UU (fun vs H Q E h=>(by obtain ⟨_,_,_,_,_,rfl,_⟩:=h;rfl)) (fun cdv A outer s H vs Q E hr h=>?_)
 obtain ⟨p,l,us,fw,stem,rfl,W,hl,lp,f0,f4,l100,hst,k⟩:=h;have nd:=UU.nd;obtain ⟨t,ht,hk⟩:=Ar (P:=P) (w:=w) (K:=K) (base:=base) (f:=f) (cdv:=cdv) (A:=A) (outer:=outer) (s:=s) (Hs:=H) (E:=E) T;refine ⟨_,ZQ (Zk 4 nd (Yn ZG))
  (ZQ (Zk 5 nd ZM)
  (ZQ (Ql PassesOwn.never (Y3 PM (pv 5) (Zy Xh rfl T.len XY (ZF (pv 1) ZG)) (YE _))
   (ZQ (Zk 6 nd (Zv WJ ZM (Zh DP hr (ZF (pv 0) (ZF (Zl (r:=YB K) YD (Yn (Vd ZM ZM ZM ZM)) (pv 2) (fun _ _=>rfl)) ZG)))))
   (ZQ (Zz (XH (pv 3))
    (ZQ (Zk 6 nd (Zy (Jx rfl) rfl T.min Kf (ZF (Zv WJ ZM (Zh DP hr (ZF (pv 0) (ZF (Zl (r:=YB K) YD (Yn (Vd ZM ZM ZM ZM)) (pv 2) (fun _ _=>rfl)) ZG)))) (ZF (Zv Vo (Zy Xh rfl T.len XY (ZF (pv 1) ZG)) (pv 5)) ZG))))
    (ZU (Zz (Y3 Wy (Zv Vo (Zv Vo (Zy Xh rfl T.len XY (ZF (pv 1) ZG)) (pv 5)) (pv 6)) ZM (YE _))
     (ZU (Zk 6 nd (Zl (r:=YB K) YD (Yn (ZF (Zv Vo (pv 6) ZM) (ZF (Zv WJ (pv 6) ZM) ZG))) (VP P4 rfl T.int QA (ZF (Wz Wy (pv 6) ZM (YE _)) ZG)) (fun _ _=>rfl)))) Z0))) Z0) ht)))
  (ZU (Zg (pv 4))))),?_⟩
 refine ⟨nn (zAB rfl),fun D nD=>?_⟩;have gD:=ZX nD (.lst []);have eD:=ZO (H:=H) (a:=D) (o:=.lst []);generalize upd H D (.lst [])=H1 at gD eD ⊢;have I0:YO H H1 p l D us stem [] [] 0:=⟨W.same gD,ZE.of gD,gD _ _ hl,eD,nD,lp,Zb hl nD,V5 W nD,.nil,rfl,fun ps h=>by simp at h,zAH _⟩
 refine ⟨HY p l fw stem D us H,⟨_,[],[],0,none,rfl,rfl,I0,hst,zAk _⟩,?_⟩;rintro m σ H2 ⟨pl,jk,n,x6,rfl,rfl,r,hrest,n103⟩;refine ⟨_,rfl,_,rfl,l,us,rfl,.inl (ZL.of r.hl),_,_,rfl,rfl,_,rfl,?_⟩;rcases zAg n us.length with hn | hn
 ·rw [decide_eq_true (show (n:Int)<(us.length:Int) by lia)]
  refine Zw ⟨_,fun _ _ z=>z,?_⟩;have go:∀{D0:Ym}{H3:Hp}(z:Int),YO H H3 p l D us stem pl jk n->1<=z->z<=4->Px stem (min z.toNat (us.length - n))->(stem=true->us.length - (n+z.toNat)≠1)->(∀ σ' H',(∃ m',m'<us.length - n/\HY p l fw stem D us H m' σ' H')->D0.nx σ' H') ->
    t D0 [some (.ref p),some (.ref l),some (.int fw),some (.bl stem),some (.ref D),some (.int (n:Int)),some (.int z)] H3:=fun{D0 H3} z r3 z1 z4 hok hr' fin=>by
   obtain ⟨sz,rfl⟩:∃ sz:Nat,z=(sz:Int):=⟨z.toNat,by lia⟩
   rw [zCL] at hok hr';exact hk D0 H H3 p l D us pl stem fw jk n sz r3 hn l100 (by lia) (by lia) hok fun pl' pss' H' r'=>fin _ _ ⟨us.length - (n+sz),by lia,pl',pss',n+sz,_,rfl,rfl,r',hr',by lia⟩
  refine ⟨_,rfl,nn (zAB rfl),fun q nq=>?_⟩;have gq:=ZX nq (.lst [.int 4,.int 1,.int 2,.int 4]);have eq:=ZO (H:=H2) (a:=q) (o:=.lst [.int 4,.int 1,.int 2,.int 4]);have r3:=YO.go r (ZE.of gq) (r.w.same gq);generalize upd H2 q (.lst [.int 4,.int 1,.int 2,.int 4])=H3 at gq eq r3 ⊢;obtain ⟨m1,am1,m10,m14⟩:=Kz (q:=q) (a:=4) (b:=1) (c:=2) (d:=4) f0 f4 1 4 (by decide) (by decide) (by decide) (by decide)
  refine ⟨_,rfl,.inl ⟨q,_,_,_,rfl,rfl,ZL.of eq,am1,p,m1,rfl,r3.w,XI (by lia) (by lia),fun z1 H4 z10 z11 W4 s4=>⟨_,_,rfl,rfl,?_⟩⟩⟩
  have r4:=YO.go r3 s4 W4;refine ⟨_,rfl,_,rfl,?_⟩
  cases stem with
  | false=>
   refine Zo (go (1+z1) r4 (by lia) (by lia) ⟨?_,?_⟩ (fun z=>by cases z) fun _ _ z=>z)
   ·show 1<=min (1+z1).toNat (us.length - n)
    lia
   ·lia
  | true=>
   have hre:=hrest rfl;refine Zw ⟨_,rfl,nn (zAB rfl),fun q2 nq2=>?_⟩;have gq2:=ZX nq2 (.lst [.int 3,.int 1,.int 3,.int 2]);have eq2:=ZO (H:=H4) (a:=q2) (o:=.lst [.int 3,.int 1,.int 3,.int 2]);have r5:=YO.go r4 (ZE.of gq2) (r4.w.same gq2);generalize upd H4 q2 (.lst [.int 3,.int 1,.int 3,.int 2])=H5 at gq2 eq2 r5 ⊢;obtain ⟨m2,am2,m20,m24⟩:=Kz (q:=q2) (a:=3) (b:=1) (c:=3) (d:=2) f0 f4 1 3 (by decide) (by decide) (by decide) (by decide)
   refine ⟨_,rfl,.inl ⟨q2,_,_,_,rfl,rfl,ZL.of eq2,am2,p,m2,rfl,r5.w,XI (by lia) (by lia),fun z2 H6 z20 z21 W6 s6=>⟨_,_,rfl,rfl,?_⟩⟩⟩
   have r6:=YO.go r5 s6 W6;refine ⟨_,rfl,l,us,rfl,.inl (ZL.of r6.hl),_,rfl,_,_,rfl,rfl,_,_,rfl,?_⟩;obtain ⟨y,ey,y1,y2,y3⟩:∃ y:Int,(if ((us.length:Nat):Int) - (n:Int)<2+z2 then ((us.length:Nat):Int) - (n:Int) else 2+z2)=y/\2<=y/\y<=4/\y<=((us.length:Nat):Int) - (n:Int):=⟨_,rfl,by split <;> lia,by split <;> lia,by split <;> lia⟩
   rw [ey];refine ⟨_,rfl,l,us,rfl,.inl (ZL.of r6.hl),_,rfl,_,_,rfl,rfl,_,rfl,_,_,rfl,rfl,rfl,_,rfl,?_⟩;by_cases hy:((us.length:Nat):Int) - (n:Int) - y=1
   ·rw [decide_eq_true (congrArg V.int hy)];refine Zw ⟨_,rfl,_,_,rfl,rfl,_,rfl,_,_,rfl,rfl,nn (zAB rfl),fun q3 nq3=>?_⟩;have gq3:=ZX nq3 (.lst [.int (y - 1),.int (y+1)]);have eq3:=ZO (H:=H6) (a:=q3) (o:=.lst [.int (y - 1),.int (y+1)]);have r7:=YO.go r6 (ZE.of gq3) (r6.w.same gq3);generalize upd H6 q3 (.lst [.int (y - 1),.int (y+1)])=H7 at gq3 eq3 r7 ⊢;refine ⟨_,rfl,rfl,.inr ⟨_,rfl,?_⟩⟩;by_cases h2:y=2
    ·subst h2;refine .inl ⟨q3,_,_,.int (2+1),rfl,rfl,ZL.of eq3,rfl,?_⟩;exact go (2+1) r7 (by lia) (by lia) ⟨by show 2<=min (2+1:Int).toNat _;lia,by lia⟩ (fun _=>by lia) fun _ _ z=>z
    ·have ed:decide (V.int y=V.int 2)=false:=decide_eq_false fun z=>h2 (Pp z);rw [ed];refine .inl ⟨q3,_,_,.int (y - 1),rfl,rfl,ZL.of eq3,rfl,?_⟩;exact go (y - 1) r7 (by lia) (by lia) ⟨by show 2<=min (y - 1).toNat _;lia,by lia⟩ (fun _=>by lia) fun _ _ z=>z
   ·rw [decide_eq_false (fun z=>hy (Pp z))];exact Zo (go y r6 (by lia) (by lia) ⟨by show 2<=min y.toNat _;lia,by lia⟩ (fun _=>by lia) fun _ _ z=>z)
 ·rw [decide_eq_false (show ¬ (n:Int)<(us.length:Int) by lia)]
  have fl:=r.flat;rw [zAS hn] at fl;have:=r.few;exact Zo ⟨_,rfl,k D pl jk H2 r.nD r.hD r.parts fl r.size (by lia) r.w r.sx⟩
end
end Tw
namespace L2
open PySem PySem.Spec PyProof.Rows
def ES(K:zAA)(CB:Addr)(sp:Sp)(t:TA)(i:Nat)(ts:TS):TS:=fun D σ H=>t σ H fun vs H1=>sp (vs++[]) H1 (fun _ H2=>D.nx σ H2) (K3 K CB i ts D σ)
theorem Cg{X:Cx}{k:Nat}{f CB:Addr}{fd:FuncData}{ps:List Str}{sp:Sp}{x y n:Str}{p pos1 pos2 py ph pos:Pos}{e:Expr}{es:List Expr}{t:TA}{i:Nat}{b₀:Stmt}{suite:List Stmt}{ts:TS}(F:ZK X.prog X.w X.K X.mg X.base (Xi X.prog X.w) k f fd ps sp)(hr:ZY k X.A)(hg:Gl X x)(hm:X.mg x=some (.ref f))(hk:zAm X.K (.ref f)=true)(hb:Zu X.K fd ps [])(ha:∀ E',PA (X.wish E') (e :: es) t)(hst:X.stack=X.env :: X.outer)(hfm:X.env.frame=some X.env.locals)(hex:X.ex=[])(hy:Gl X y)(hyC:X.mg y=some (.ref CB))(hN:X.N.Nodup)(hi:X.N[i]? = some n)(hn:X.env.scope.names.lookup n=some .local)(ht:zA4 X.K (.ref CB)=some (.type "type"))(hB:zAr X.K CB (.type "BaseException")=some true)(hs:∀ ea E',X5 (X.held ea E') (b₀ :: suite) ts)(jy:(x==("__debug__" : Str))=false:=by decide)(hdy:(y==("__debug__" : Str))=false:=by decide)(he:starEach (e :: es) X.env=(false,eval e X.env) :: starEach es X.env:=by rfl)(jv:(backTo pos1 (starEach es X.env)).any (·.1)=false:=by rfl)(hsw:swapsWith (.Call (.Name x p) (e :: es) [] pos1) none pos2.line X.env=pure false:=by rfl):
  PS X (.Try [.Expr (.Call (.Name x p) (e :: es) [] pos1) pos2] [.ExceptHandler (some (.Name y py)) (some n) (b₀ :: suite) ph] [] [] pos) (ES X.K CB sp t i ts):=by
 intro pins s σ H D I h;refine wpAny_Try_except ?_;have hfr:X.A.frames=some (X.env :: X.outer):=by rw [I.ok.frames,hst]
 have lands:∀(H1:Hp)(s1:Shared)(ev:Value)(s':Shared),ZH X pins σ H1 s1->Xi X.prog X.w X.stack H1 s1 (K3 X.K CB i ts D σ) ev s' ->
   wpAny (model X.prog X.w) X.A (noteFrame ev X.env) (fun _ s₂=>wpAny (model X.prog X.w) X.A (setFlight ev none) (fun _ s₃=>wpAny (model X.prog X.w) X.A (handleBy ev X.env [.ExceptHandler (some (.Name y py)) (some n) (b₀ :: suite) ph]) (SP X pins D) X.xe s₃) X.xe s₂) X.xe s':=by
  intro H1 s1 ev s' I1 hx;obtain ⟨ea,cls,od,H',rfl,W,C,rfl,mC,q⟩:=hx;obtain ⟨B,fl,inT,inB,inA⟩:=W.ex;have fl':VS B (X.env :: X.outer) ea (.ref C) od .none s'.heap:=by rw [<-hst];exact fl
  refine Ik hfr hfm fl' fun h4 held4 sm4=>?_;refine Oy (s:={ s' with heap:=h4 }) held4 fun h5 fl5 sm5=>?_;have J5:ZH X pins σ H' { s' with heap:=h5 }:=JR I1 W inT inB inA fl5.1 (sm4.trans sm5);refine wpAny_handleBy_cons (codeAny_handlers_test ?_) (by intro q;cases q)
  refine Qr (J5.held ea (fun _ _=>False)) hy hyC ?_ hdy;refine ZFY (s:={ s' with heap:=h5 }) J5.kIn fl5.at.is ht hB mC ?_;refine codeAny_handlers_suite_as ?_;refine Oy (s:={ s' with heap:=h5 }) fl5 fun h6 fl6 sm6=>?_;have J6:ZH X pins σ H' { s' with heap:=h6 }:=JR I1 W inT inB inA fl6.1 ((sm4.trans sm5).trans sm6);have n0:X.s₀.heap.get? ea=none:=by
   cases z:X.s₀.heap.get? ea with
   | none=>rfl
   | some o=>
    obtain ⟨o',q'⟩:=I1.base.there ea o z (by rw [hex];simp)
    rw [W.new] at q';cases q'
  have n1:ea≠X.env.locals:=fun z=>by
   obtain ⟨m,⟨o,_,_,ho,_⟩,_⟩:=I1.loc;rw [<-z,W.new] at ho;cases ho
  have n2:∀ x c,X.env.cells.lookup x=some c->c≠ea:=fun x c e z=>by
   obtain ⟨v,o,ho,_⟩:=I1.cell x c e;rw [z,W.new] at ho;cases ho
  have n3:∀ p∈X.pn++pins,p.1≠ea:=fun p hp z=>by
   have ho:=(I1.pin p hp).1;rw [z,W.new] at ho;cases ho
  have K6:ZH X pins σ (upd H' ea (XO WQ ea C od)) { s' with heap:=h6 }:=J6.track n0 n1 n2 n3 W.free (KI fl6.at);refine Oa K6 hN hi (.inl hn) (v:=.ref ea) rfl (fun s7 I7=>?_) (.inr hn);refine wpAny_mono (hs ea _ pins s7 _ _ _ (I7.held ea _) (q ea W.free)) (fun fl s8 h8=>?_) fun _ _ z=>z
  cases fl with
  | next=>
   obtain ⟨σ8,H8,J8,q8⟩:=h8;exact (J8.unheld I1.ok).goes hN hi hn fun s9 I9=>⟨_,H8,I9,q8⟩
  | brk=>
   obtain ⟨σ8,H8,J8,q8⟩:=h8;exact (J8.unheld I1.ok).goes hN hi hn fun s9 I9=>⟨_,H8,I9,q8⟩
  | cont=>
   obtain ⟨σ8,H8,J8,q8⟩:=h8;exact (J8.unheld I1.ok).goes hN hi hn fun s9 I9=>⟨_,H8,I9,q8⟩
  | ret u=>
   obtain ⟨v8,σ8,H8,J8,r8,q8⟩:=h8;exact (J8.unheld I1.ok).goes hN hi hn fun s9 I9=>⟨v8,_,H8,I9,r8,q8⟩
 refine wpAny_execs_cons (wpAny_Expr_any ?_ I.quiet hsw);have I':=I.wish (fun ev s'=>wpAny (model X.prog X.w) X.A (noteFrame ev X.env) (fun _ s₂=>wpAny (model X.prog X.w) X.A (setFlight ev none) (fun _ s₃=>wpAny (model X.prog X.w) X.A (handleBy ev X.env [.ExceptHandler (some (.Name y py)) (some n) (b₀ :: suite) ph]) (SP X pins D) X.xe s₃) X.xe s₂) X.xe s');refine wpAny_Call_Name_kw (Qr I hg hm ?_ jy);refine zBs (h₀:=X.base) I.ok.mod.kin hk (Zc (ha _ pos1 pins s σ H _ I' h) fun us s1 ⟨vs,H1,I1,r,q⟩=>⟨I1.kIn,?_⟩) he jv;have r2:ZN (vs++[]) (us++[]):=r.append .nil;have hl:(us++[]).length=ps.length:=by rw [<-r2.length];exact F.len _ _ _ _ q
 refine wpAny_call (codeAny_mono (F.run X.A X.stack s1 H1 ⟨us,[]⟩ (us++[]) (vs++[]) _ _ hr I1.env0 (hb s1 us I1.kIn hl) r2 q) fun rr s' hq=>?_)
 cases rr with
 | error ev=>exact lands H1 s1 ev s' I1.unwish hq
 | ok fl=>
  cases fl with
  | ret u=>
   obtain ⟨v,H2,J,rv,q2⟩:=I1.unwish.after hq;exact wpAny_execs_nil (wpAny_execs_nil ⟨σ,H2,J,q2⟩)
  | next=>exact False.elim hq
  | brk=>exact False.elim hq
  | cont=>exact False.elim hq
section
variable{X:Cx}
theorem F6(hu:X.A.units<cLine):Yp X (compareOp .Eq) (fun x y H Q=>∃(p b:Addr)(xs ys:List Bool),x=.ref p/\y=.ref b/\ZL X.K H p (xs.map V.bl)/\ZL X.K H b (ys.map V.bl)/\xs.length=ys.length/\Q (.bl ((zAx xs.length).all fun j=>xs.getD j false==ys.getD j false)) H):=by
 intro pins s σ H x y v u Q I rx ry h;obtain ⟨p,b,xs,ys,rfl,rfl,h1,h2,hl,q⟩:=h;cases rx;cases ry;obtain ⟨ji,r1,p1,z1⟩:=I.list h1;obtain ⟨jn,r2,p2,z2⟩:=I.list h2;have l1:=r1.length;have l2:=r2.length;rw [zAD] at l1 l2;have ln:ji.toArray.size=xs.length:=by simp;lia
 refine PySem.SeqAt.eq_listAt (e:=fun j=>xs.getD j false==ys.getD j false) p1.isList p2.isList (by simp;lia) hu (fun j g1 g2=>?_) (Yl I q (by rw [ln]))
 have hj:j<xs.length:=by lia
 have hj2:j<ys.length:=by lia
 have hv:(xs.map V.bl)[j]? = some (.bl (xs.getD j false)):=by rw [zAN,zAC,zAE hj];rfl
 have hv2:(ys.map V.bl)[j]? = some (.bl (ys.getD j false)):=by rw [zAN,zAC,zAE hj2];rfl
 obtain ⟨u1,e1,a1⟩:=r1.get hv;obtain ⟨u2,e2,a2⟩:=r2.get hv2;have k1:ji.toArray[j]=u1:=by
  have:ji.toArray[j]? = some u1:=by simpa using e1
  rw [zAn g1] at this;exact zAj.inj this
 have k2:jn.toArray[j]=u2:=by
  have:jn.toArray[j]? = some u2:=by simpa using e2
  rw [zAn g2] at this;exact zAj.inj this
 rw [k1,k2];obtain rfl:u1=.bool _:=a1;obtain rfl:u2=.bool _:=a2;exact PySem.SeqAt.EqAt.bool_bool _ _
end
def Pr:V->Bool
 | .int _=>true
 | .str _=>true
 | .bl _=>true
 | _=>false
theorem Ay{A:Around}{s:Shared}{v:V}{a b:Value}(h:Pr v=true)(ra:ZS v a)(rb:ZS v b):PySem.SeqAt.EqAt A s a b true:=by
 cases v with
 | int i=>
  obtain ⟨t1,rfl⟩:=ra;obtain ⟨t2,rfl⟩:=rb;have:=PySem.SeqAt.EqAt.int_int (A:=A) (s:=s) i t1 i t2
  rwa [show (i==i)=true by simp] at this
 | str x=>
  obtain ⟨t1,rfl⟩:=ra;obtain ⟨t2,rfl⟩:=rb;have:=PySem.SeqAt.EqAt.str_str (A:=A) (s:=s) x t1 x t2
  rwa [show (x==x)=true by simp] at this
 | bl x=>
  obtain rfl:a=.bool x:=ra;obtain rfl:b=.bool x:=rb;exact PySem.SeqAt.EqAt.same _
 | _=>cases h
section
variable{X:Cx}
theorem Jp{pins:List (Addr×Obj)}{σ:St}{H:Hp}{s:Shared}{xs:je}{ji jn:jd}(hf:∀ v∈xs,Pr v=true)(r1:ZN xs ji)(r2:ZN xs jn)(j:Nat)(g1:j<ji.toArray.size)(g2:j<jn.toArray.size):PySem.SeqAt.EqAt X.A.in1 s ji.toArray[j] jn.toArray[j] true:=by
 have l1:=r1.length;have hj:j<xs.length:=by simp at g1;lia
 have hv:xs[j]? = some xs[j]:=zAE hj;obtain ⟨u1,e1,a1⟩:=r1.get hv;obtain ⟨u2,e2,a2⟩:=r2.get hv;have k1:ji.toArray[j]=u1:=by
  have:ji.toArray[j]? = some u1:=by simpa using e1
  rw [zAn g1] at this;exact zAj.inj this
 have k2:jn.toArray[j]=u2:=by
  have:jn.toArray[j]? = some u2:=by simpa using e2
  rw [zAn g2] at this;exact zAj.inj this
 rw [k1,k2];exact Ay (hf _ (zAy hj)) a1 a2
def Js(K:zAA)(b:Bool):R2:=fun x y H Q=>∃(p q:Addr)(xs:je),x=.ref p/\y=.ref q/\Zn K H p xs/\Zn K H q xs/\(∀ v∈xs,Pr v=true)/\Q (.bl b) H
theorem FQ(hu:X.A.units<cLine):Yp X (compareOp .Eq) (Js X.K true):=by
 intro pins s σ H x y v u Q I rx ry h;obtain ⟨p,b,xs,rfl,rfl,h1,h2,hf,q⟩:=h;cases rx;cases ry;obtain ⟨ji,r1,p1,z1⟩:=I.tuple h1;obtain ⟨jn,r2,p2,z2⟩:=I.tuple h2;have l1:=r1.length;have l2:=r2.length;exact PySem.SeqAt.eq_tupleAt (e:=fun _=>true) p1 p2 hu (fun j g1 g2=>Jp (X:=X) (pins:=pins) (σ:=σ) (H:=H) hf r1 r2 j g1 g2) (Yl I q (by simp;lia))
theorem N5(hu:X.A.units<cLine):Yp X (compareOp .NotEq) (Js X.K false):=by
 intro pins s σ H x y v u Q I rx ry h;obtain ⟨p,b,xs,rfl,rfl,h1,h2,hf,q⟩:=h;cases rx;cases ry;obtain ⟨ji,r1,p1,z1⟩:=I.tuple h1;obtain ⟨jn,r2,p2,z2⟩:=I.tuple h2;have l1:=r1.length;have l2:=r2.length;exact PySem.SeqAt.RcNeAt.tuples (e:=fun _=>true) p1 p2 hu (fun j g1 g2=>Jp (X:=X) (pins:=pins) (σ:=σ) (H:=H) hf r1 r2 j g1 g2) X.prog X.w X.xe _ (Yl I q (by simp;lia))
end
end L2
namespace Tw
open PySem PySem.Spec L2 PyProof.Rows
section
variable{X:Cx}
theorem Di{k0:Nat}(hr:ZY k0 X.A):Yp X (compareOp .NotIn) (fun x y H Q=>∃(p:Addr)(us:je)(ts:List KT)(k:KT),y=.ref p/\ZL X.K H p us/\KeysAt H ts us/\ZD H k x/\(∀ t∈ts,t.fits 3=true)/\∀ b,Q (.bl b) H):=by
 intro pins s σ H x y v u Q I rx ry h;obtain ⟨p,us,ts,k,rfl,hq,ks,kx,hf,q⟩:=h;cases ry;obtain ⟨ji,r,pl,hz⟩:=I.list hq;have un:=hr.un;have ex:∀ y,y∈ji.toArray->∃ b,PySem.SeqAt.EqAt X.A.in1 s y v b:=fun y hy=>by
  have hy':y∈ji:=by simpa using hy
  obtain ⟨j,hj⟩:=zBh hy';have lr:=r.length;have hl:=(zAK.mp hj).1;have hu:us[j]? = some (us[j]'(by lia)):=zAE (by lia)
  obtain ⟨u1,e1,a1⟩:=r.get hu;rw [hj] at e1;cases e1;obtain ⟨t,et,kt⟩:=ks.get hu;have dp:=UC t 3 (hf t (zAJ et));exact ⟨_,OR t.depth t k X.A.in1 y v (zAH _) (U5 I _ _ _ kt a1) (U5 I _ _ _ kx rx) (by show X.A.units+1+_<_;lia)⟩
 refine PySem.SeqAt.notIn_listAt (fun y=>@ite _ (PySem.SeqAt.EqAt X.A.in1 s y v true) (Classical.propDecidable _) true false) pl.isList (fun y hy=>?_) ⟨.bl _,H,I,rfl,q _⟩;obtain ⟨b,hb⟩:=ex y hy;by_cases h:PySem.SeqAt.EqAt X.A.in1 s y v true
 ·rw [if_pos h];exact h
 ·rw [if_neg h]
  cases b with
  | true=>exact absurd hb h
  | false=>exact hb
end
section
variable{P:Program}{w:World}{K:zAA}{mg:jb}{base:Heap}{f:Addr}{fd:FuncData}
inductive XQ(vs:je)(H:Hp)(Q:VK)(_:XK):Prop
 | mk (p kn:Addr) (us:je) (ts:List KT) (_:vs=[.ref p,.ref kn]) (_:ZI H p) (_:H kn=some (.lst us)) (_:KeysAt H ts us) (_:∀ t∈ts,t.fits 3=true) (_:kn≠p) (_:us.length<=300) (_:∀(v:V)(t:KT)(us':je)(ts':List KT)(H':Hp),ZD H' t v->t.fits 3=true->H' kn=some (.lst us')->KeysAt H' ts' us'->(∀ t∈ts',t.fits 3=true)->us'.length<=us.length+1->ZI H' p->(∀ b o,b≠p->b≠kn->H b=some o->H' b=some o)->Q v H')
theorem VI:ZC ["_law_well_here","_law_known_here","_law_spot"] ["_law_well_here","_law_known_here"] (Ze LI):=Zs
theorem EX(F0:Zj K "_law_any_key" "_law_any_key" LI f fd)(T:YG mg)(DP:ZA P w K mg base 1 "_law_pull" ["_law_well_here","_law_many"] Zp)(DK:ZA P w K mg base 6 "_law_key" ["_law_well_here","_law_room"] (Y5 4)):ZK P w K mg base ZW 7 f fd ["_law_well_here","_law_known_here"] XQ:=by
 refine F0.ok VI (fun vs H Q E h=>(by obtain ⟨_,_,_,_,rfl,_⟩:=h;rfl)) (fun cdv A outer s H vs Q E hr h=>?_)
 obtain ⟨p,kn,us,ts,rfl,W,hk,kk,hf,kp,l300,q⟩:=h;have nd:=VI.nd;have hr1:=hr.mono (show 1<=6 by decide)
 refine ⟨_,ZQ (Zz (PW.pt (O1 (Y3 (LB hr.units0) (pv 1) (Yn ZG) (YE _)) (NV (Y3 Qb (Zh DP hr1 (ZF (pv 0) (ZF ZM ZG))) ZM (YE _))))) (ZU (Zg (Zl (r:=YB K) YD (pv 1) (Zh DP hr1 (ZF (pv 0) (ZF (Zy Xh rfl T.len XY (ZF (pv 1) ZG)) ZG))) (fun _ _=>rfl)))) Z0)
  (ZQ (Zk 2 nd (Zh DK hr (ZF (pv 0) (ZF ZM ZG))))
  (ZQ (Zz (Y3 (Di hr) (pv 2) (pv 1) rfl) (ZU (Wx (QB zAs zA2 zA1 QL (pv 1) (ZF (pv 2) ZG)))) Z0)
  (ZU (Zg (pv 2))))),?_⟩
 refine ⟨_,rfl,nn (zAB rfl),fun e0 ne0=>?_⟩;have g0:=ZX ne0 (.lst []);refine ⟨kn,e0,us,rfl,rfl,ZL.of (g0 _ _ hk),ZL.of ZO,_,rfl,?_⟩;have hk0:=g0 _ _ hk;have W0:=W.same g0;generalize upd H e0 (.lst [])=H0 at g0 hk0 W0 ⊢;have more:∀{H1:Hp},ZE p H0 H1->ZI H1 p->∀(R:V->Hp->Prop),(∀ v t H2,ZD H2 t v->t.fits 3=true->ZI H2 p->ZE p H0 H2->R v H2)->Y5 4 [V.ref p,V.int 3] H1 R E0:=fun s1 W1 R hR=>⟨p,3,rfl,W1,by decide,fun v t H2 kv fv W2 s2=>hR v t H2 kv fv W2 (s1.trans s2)⟩
 have last:∀{v:V}{t:KT}{H2:Hp},ZD H2 t v->t.fits 3=true->ZI H2 p->ZE p H0 H2->Q v H2:=fun{v t H2} kv fv W2 s2=>q v t us ts H2 kv fv (s2 _ _ hk0 kp) ((kk.mono (ZB.tups g0) _ _).mono (s2.tupsW W0) _ _) hf (by lia) W2 fun b o n1 _ e=>s2 b o (g0 b o e) n1
 have tail:∀{v:V}{t:KT}{H2:Hp},ZD H2 t v->t.fits 3=true->ZI H2 p->ZE p H0 H2->H2 kn=some (.lst us)/\KeysAt H2 ts us/\(Q v H2)/\Q v (upd H2 kn (.lst (us++[v]))):=fun{v t H2} kv fv W2 s2=>by
  have hk2:=s2 _ _ hk0 kp;have kk2:=(kk.mono (ZB.tups g0) _ _).mono (s2.tupsW W0) _ _;have sK:ZE kn H2 (upd H2 kn (.lst (us++[v]))):=(ZE.refl kn H2).upd;have tK:=sK.tups hk2;refine ⟨hk2,kk2,last kv fv W2 s2,q v t (us++[v]) (ts++[t]) _ (kv.mono tK _ _) fv ZO ((kk2.mono tK _ _).append (.cons (kv.mono tK _ _) .nil)) (fun z hz=>?_) (by simp) (W2.stay sK (Ne.symm kp)) fun b o n1 n2 e=>by rw [ZV n2];exact s2 b o (g0 b o e) n1⟩
  rcases zAd.mp hz with y | y
  ·exact hf z y
  ·rw [zAR.mp y];exact fv
 have luu:us.length<1000:=by lia
 cases us with
 | nil=>
  refine Zo (Zo ⟨_,rfl,more (ZE.refl _ _) W0 _ fun v t H2 kv fv W2 s2=>?_⟩);obtain ⟨a1,a2,a3,a4⟩:=tail kv fv W2 s2;refine ⟨_,rfl,_,rfl,kn,_,ts,t,rfl,ZL.of a1,a2,kv,hf,fun b=>⟨_,rfl,?_⟩⟩
  cases b with
  | true=>exact Zw ⟨_,rfl,.inl ⟨rfl,_,ZL.of a1⟩,_,rfl,kn,_,v,rfl,rfl,a1,nn (by lia),_,rfl,a4⟩
  | false=>exact Zo ⟨_,rfl,a3⟩
 | cons u0 us0=>
  refine Zw ⟨_,rfl,p,3,rfl,W0,XI (by decide) (by decide),fun z H1 z0 z1 W1 s1=>⟨_,_,rfl,rfl,_,rfl,WU (fun c=>?_) (fun c=>?_)⟩⟩
  ·have hk1:=s1 _ _ hk0 kp;refine ⟨_,rfl,_,rfl,_,rfl,kn,_,rfl,.inl (ZL.of hk1),p,_,rfl,W1,XI (by simp <;> lia) (by simp at luu ⊢ <;> lia),fun j H2 j0 j1 W2 s2=>?_⟩
   obtain ⟨v,av,mv⟩:=Q2 (xs:=u0 :: us0) j0 j1;have hk2:=s2 _ _ hk1 kp;obtain ⟨i,hi⟩:=zBh mv;have s02:=s1.trans s2;obtain ⟨t,et,kt⟩:=((kk.mono (ZB.tups g0) _ _).mono (s02.tupsW W0) _ _).get hi;exact .inl ⟨kn,_,_,v,rfl,rfl,ZL.of hk2,av,last kt (hf t (zAJ et)) W2 s02⟩
  ·refine ⟨_,rfl,more s1 W1 _ fun v t H2 kv fv W2 s2=>?_⟩;obtain ⟨a1,a2,a3,a4⟩:=tail kv fv W2 s2;refine ⟨_,rfl,_,rfl,kn,_,ts,t,rfl,ZL.of a1,a2,kv,hf,fun b=>⟨_,rfl,?_⟩⟩
   cases b with
   | true=>exact Zw ⟨_,rfl,.inl ⟨rfl,_,ZL.of a1⟩,_,rfl,kn,_,v,rfl,rfl,a1,nn (by lia),_,rfl,a4⟩
   | false=>exact Zo ⟨_,rfl,a3⟩
end
def Qk(ts:List ZR):Option Nat->Nat
 | none=>0
 | some i=>(gd ts i).rows.length
def Gs(C:Addr)(x:Int)(E:XK)(H:Hp):Prop:=∀ dx H',ZB H H'->H' dx=some (.xd [("at",.int x)])->E (.ref C) (some dx) H'
theorem ZHH{ts:List ZR}{bs:List Nat}{j b:Nat}(e:bs[j]? = some b):(Zr ts (bs.take (j+1))).length=(Zr ts (bs.take j)).length+(gd ts b).rows.length:=by
 rw [zAi,e];simp [Zr]
theorem GU{ts:List ZR}{bs:List Nat}{j b:Nat}(e:bs[j]? = some b):Zr ts bs=Zr ts (bs.take j)++((gd ts b).rows++Zr ts (bs.drop (j+1))):=by
 obtain ⟨hj,rfl⟩:=zAK.mp e;have:bs=bs.take j++bs[j] :: bs.drop (j+1):=(zBG j bs).symm.trans (by rw [zBk hj])
 have e2:Zr ts bs=Zr ts (bs.take j++bs[j] :: bs.drop (j+1)):=congrArg (Zr ts) this;rw [e2];unfold Zr;rw [zBq,zBM]
theorem FN{ts:List ZR}{bs:List Nat}{j b m:Nat}(e:bs[j]? = some b)(hm:m<(gd ts b).rows.length):(Zr ts bs).getD ((Zr ts (bs.take j)).length+m) rd=(gd ts b).rows.getD m rd:=by
 rw [GU e,zAC,zAC,zAh (by lia),Nat.add_sub_cancel_left,zAw hm]
section
variable{P:Program}{w:World}{K:zAA}{mg:jb}{base:Heap}{f:Addr}{fd:FuncData}{jg jh CT CK CP:Addr}
inductive Xk(jg jh:Addr)(vs:je)(H:Hp)(Q:VK)(_:XK):Prop
 | mk (X:Yk) (lk:Addr) (c:Nat) (ls:je) (rn:Option Nat) (_:vs=[.ref X.S,YK (Z8 rn)]) (_:Z3 jg jh H X lk c ls) (_:∀ i,rn=some i->i<X.ts.length) (_:Q (.int (Qk X.ts rn:Nat)) H)
theorem JE:ZC ["shelf","root"] ["shelf","root"] (Ze O5):=Zs
theorem ZKM(F:Zj K "rows_under" "rows_under" O5 f fd)(T:YG mg)(L:Y7 K mg jg jh)(DB:ZJ P w K mg base ZW 2 jg "label" ["self","number"] (Xw jg jh)):ZK P w K mg base ZW 3 f fd ["shelf","root"] (Xk jg jh):=by
 refine F.ok JE (fun vs H Q E h=>(by obtain ⟨_,_,_,_,_,rfl,_⟩:=h;rfl)) (fun cdv A outer s H vs Q E hr h=>?_)
 obtain ⟨X,lk,c,ls,rn,rfl,R,jp,q⟩:=h;obtain ⟨t3,m3⟩:=T.many;refine ⟨_,ZQ (Zz (VT (Ip (pv 1))) (ZU (Zg ZM)) Z0) (ZU (Zg (Zl (r:=Xe K) Zi (XR (E:=E0) (pv 0) L.cS DB hr XE (ZF (pv 1) ZG)) (WE (v:=.int 3) rfl m3 ⟨_,rfl⟩) (fun _ _=>rfl)))),?_⟩
 cases rn with
 | none=>exact ⟨_,rfl,_,rfl,Zw q⟩
 | some i=>
  have hi:=jp i rfl;obtain ⟨dx,hS⟩:=R.sh.self;obtain ⟨a,jK,jL,ea,ht,_,_⟩:=(R.tw i hi).tag;cases ea;exact ⟨_,rfl,_,rfl,Zo ⟨_,rfl,X.S,dx,_,rfl,hS,rfl,_,rfl,X,lk,c,ls,i,rfl,R,hi,_,_,_,_,rfl,rfl,Zn.of ht,rfl,q⟩⟩
inductive Wk(jg jh CT:Addr)(vs:je)(H:Hp)(Q:VK)(E:XK):Prop
 | mk (X:Yk) (lk:Addr) (c:Nat) (ls:je) (r:Option Int) (_:vs=[.ref X.S,YK r]) (_:Z3 jg jh H X lk c ls) (_:∀ x,r=some x->inT X.ts x=false->QQ CT x E H) (_:∀ rn,r=Z8 rn->(∀ i,rn=some i->i<X.ts.length)->Q (.int (Qk X.ts rn:Nat)) H)
theorem CI(F:Zj K "rows_under" "rows_under" O5 f fd)(T:YG mg)(L:Y7 K mg jg jh)(DL:ZJ P w K mg base (Xi P w) 4 jg "label" ["self","number"] (XU jg jh CT)):ZK P w K mg base (Xi P w) 5 f fd ["shelf","root"] (Wk jg jh CT):=by
 refine F.okD JE (fun vs H Q E h=>(by obtain ⟨_,_,_,_,_,rfl,_⟩:=h;rfl)) (fun cdv A outer s H vs Q E hr h=>?_)
 obtain ⟨X,lk,c,ls,r,rfl,R,k1,k2⟩:=h;obtain ⟨t3,m3⟩:=T.many;refine ⟨_,ZQ (Zz (VT (Ip (pv 1))) (ZU (Zg ZM)) Z0) (ZU (Zg (Zl (r:=Xe K) Zi (XR (E:=E) (pv 0) L.cS DL hr (Of UP fun _ _ _ h=>h) (ZF (pv 1) ZG)) (WE (v:=.int 3) rfl m3 ⟨_,rfl⟩) (fun _ _=>rfl)))),?_⟩
 cases r with
 | none=>exact ⟨_,rfl,_,rfl,Zw (k2 none rfl fun i h=>by cases h)⟩
 | some x=>
  obtain ⟨dx,hS⟩:=R.sh.self;refine ⟨_,rfl,_,rfl,Zo ⟨_,rfl,X.S,dx,_,rfl,hS,rfl,_,rfl,X.S,X.d,lk,c,X.kvs,ls,x,rfl,R.sh,fun tw hx=>?_,fun hx=>?_⟩⟩
  ·cases z:inT X.ts x with
   | false=>rw [R.none z] at hx;cases hx
   | true=>
    obtain ⟨i,rfl,hi⟩:=OA z;rw [R.val i hi] at hx;cases hx;obtain ⟨a,jK,jL,ea,ht,_,_⟩:=(R.tw i hi).tag;have W:=(R.tw i hi).tw;cases ea;exact ⟨_,_,_,_,_,_,rfl,W,_,_,_,_,rfl,rfl,Zn.of ht,rfl,k2 (some i) rfl fun j h=>by cases h;exact hi⟩
  ·cases z:inT X.ts x with
   | false=>exact k1 x rfl z
   | true=>
    obtain ⟨i,rfl,hi⟩:=OA z;rw [R.val i hi] at hx;cases hx
inductive Xc(jg jh:Addr)(vs:je)(H:Hp)(Q:VK)(_:XK):Prop
 | mk (X:Yk) (lk:Addr) (c:Nat) (ls:je) (l:Addr) (bs:List Nat) (m:Nat) (_:vs=[.ref X.S,.ref l,.int (m:Int)]) (_:Z3 jg jh H X lk c ls) (_:H l=some (.lst (iN bs))) (_:∀ b∈bs,b<X.ts.length) (_:m<(Zr X.ts bs).length) (_:∀(j b n:Nat)(t:Addr)(H':Hp),bs[j]? = some b->n<(gd X.ts b).rows.length->m=(Zr X.ts (bs.take j)).length+n->ZB H H'->H' t=some (.tup [.int (b:Nat),.int (n:Nat)])->Q (.ref t) H')
abbrev CN:List Str:=["shelf","branches","at","place","left"]
theorem WV:ZC CN ["shelf","branches","at"] (Ze Lw):=Zs
theorem Ew(F:Zj K "branch_with" "branch_with" Lw f fd)(DU:ZA P w K mg base 3 "rows_under" ["shelf","root"] (Xk jg jh)):ZK P w K mg base ZW 4 f fd ["shelf","branches","at"] (Xc jg jh):=by
 refine F.ok WV (fun vs H Q E h=>(by obtain ⟨_,_,_,_,_,_,_,rfl,_⟩:=h;rfl)) (fun cdv A outer s H vs Q E hr h=>?_)
 obtain ⟨X,lk,c,ls,l,bs,m,rfl,R,hl,hb,hm,q⟩:=h;have nd:=WV.nd;refine ⟨_,ZQ (Zk 3 nd ZM)
  (ZQ (Zk 4 nd (pv 2))
  (ZQ (Ql PassesOwn.never (VT (Gc (pv 4) (Zh DU hr (ZF (pv 0) (ZF (Zl (r:=YB K) YD (pv 1) (pv 3) (fun _ _=>rfl)) ZG)))))
   (ZQ (GB (i:=4) nd rfl (Or.inl rfl) (Zh DU hr (ZF (pv 0) (ZF (Zl (r:=YB K) YD (pv 1) (pv 3) (fun _ _=>rfl)) ZG))) ZOp)
   (ZU (GB (i:=3) nd rfl (Or.inl rfl) ZM Br))))
  (ZU (Zg (Yq (ZF (Zl (r:=YB K) YD (pv 1) (pv 3) (fun _ _=>rfl)) (ZF (pv 4) ZG))))))),?_⟩
 refine ⟨_,rfl,?_⟩;refine ⟨fun k σ H'=>∃(j n:Nat),σ=[some (.ref X.S),some (.ref l),some (.int (m:Int)),some (.int (j:Int)),some (.int (n:Int))]/\k=bs.length - j/\m=(Zr X.ts (bs.take j)).length+n/\H'=H,⟨_,0,m,rfl,rfl,by simp [Zr],rfl⟩,?_⟩
 rintro k σ H1 ⟨j,n,rfl,rfl,em,rfl⟩;have hj:j<bs.length:=by
  rcases zAg j bs.length with z | z
  ·exact z
  ·rw [zAS z] at em;lia
 obtain ⟨b,eb⟩:∃ b,bs[j]? = some b:=⟨_,zAE hj⟩;have ev:(iN bs)[j]? = some (V.int (b:Nat)):=by unfold iN;rw [zAN,eb];rfl
 have hbl:=hb b (zAJ eb);refine ⟨_,rfl,_,rfl,_,rfl,_,rfl,.inl ⟨l,_,_,_,rfl,rfl,ZL.of hl,Yz ev,X,lk,c,ls,some b,rfl,R,fun i h=>by cases h;exact hbl,_,_,rfl,rfl,_,rfl,?_⟩⟩
 show if decide (((gd X.ts b).rows.length:Int)<=(n:Int))=true then _ else _
 rcases zAg n (gd X.ts b).rows.length with z | z
 ·rw [decide_eq_false (by lia)]
  refine Zo ⟨_,rfl,_,rfl,.inl ⟨l,_,_,_,rfl,rfl,ZL.of hl,Yz ev,_,rfl,nn (zAB rfl),fun t nt=>?_⟩⟩;exact q j b n t _ eb z em (ZX nt _) ZO
 ·rw [decide_eq_true (by lia)]
  refine Zw ⟨_,fun _ _ z=>z,?_⟩;refine ⟨_,rfl,_,rfl,_,rfl,_,rfl,.inl ⟨l,_,_,_,rfl,rfl,ZL.of hl,Yz ev,X,lk,c,ls,some b,rfl,R,(fun i h=>by cases h;exact hbl),_,_,rfl,rfl,_,rfl,_,_,rfl,rfl,?_⟩⟩
  refine ⟨bs.length - (j+1),by lia,j+1,n - (gd X.ts b).rows.length,?_,rfl,by rw [ZHH eb];lia,rfl⟩
  have e1:(n:Int) - ((Qk X.ts (some b):Nat):Int)=((n - (gd X.ts b).rows.length:Nat):Int):=by show (n:Int) - ((gd X.ts b).rows.length:Int)=_;lia
  simp only [List.set_cons_zero,List.set_cons_succ];rw [e1];rfl
inductive VL(gt:List KT)(jg jh CT CP:Addr)(vs:je)(H:Hp)(Q:VK)(E:XK):Prop
 | mk (X:Yk) (lk:Addr) (c:Nat) (ls:je) (r:Option Int) (n:Int) (_:vs=[.ref X.S,YK r,.int n]) (_:Z3 jg jh H X lk c ls) (_:WF gt X.ts) (_:∀ i,i<X.ts.length->(gd X.ts i).h<=60) (_:ls.length<=38000) (_:∀ x,r=some x->inT X.ts x=false->QQ CT x E H) (_:∀ rn,r=Z8 rn->(∀ i,rn=some i->i<X.ts.length)->¬ (0<=n/\n<(Qk X.ts rn:Nat))->Gs CP n E H) (_:∀(i m:Nat),r=some (i:Int)->i<X.ts.length->n=(m:Int)->m<(gd X.ts i).rows.length->∀(H':Hp)(v:V)(ls':je),(∀ b o,b≠lk->H b=some o->H' b=some o)->Z3 jg jh H' X lk c ls'->ls'.length<=ls.length+61->ZD H' (Ul ((gd X.ts i).rows.getD m rd)) v->Q v H')
abbrev Fl:List Str:=["shelf","root","at","many","found","left","step"]
theorem Qq:ZC Fl ["shelf","root","at"] (Ze LY):=Zs
theorem ZN6{gt:List KT}(F:Zj K "nth" "nth" LY f fd)(L:Y7 K mg jg jh)(N:XN P w K mg base "NoPlace" CP "at")(DU:Yd P w K mg base 5 "rows_under" ["shelf","root"] (Wk jg jh CT))(DL:ZJ P w K mg base ZW 2 jg "look" ["self","number"] (Xo jg jh))(DI:ZA P w K mg base 1 "is_leaf" ["found"] YV)(DB:ZA P w K mg base 4 "branch_with" ["shelf","branches","at"] (Xc jg jh)):
  ZK P w K mg base (Xi P w) 6 f fd ["shelf","root","at"] (VL gt jg jh CT CP):=by
 refine F.okD Qq (fun vs H Q E h=>(by obtain ⟨_,_,_,_,_,_,rfl,_⟩:=h;rfl)) (fun cdv A outer s H vs Q E hr h=>?_)
 obtain ⟨X,lk,c,ls,r,n,rfl,R,hw,low,few,k1,k2,q⟩:=h;have nd:=Qq.nd;have hr1:=hr.mono (show 1<=5 by decide)
 have hr2:=hr.mono (show 2<=5 by decide)
 have hr4:=hr.mono (show 4<=5 by decide)
 refine ⟨_,ZQ (Zk 3 nd (Pj UP DU hr (ZF (pv 0) (ZF (pv 1) ZG))))
  (ZQ (Zz (Vh (Mi PY PM ZM (pv 2) (pv 3))) (ZU (Ke UP N hr2 (ZF (pv 2) ZG) rfl)) Z0)
  (ZQ (Zk 4 nd (XR (E:=E0) (pv 0) L.cS DL hr2 XE (ZF (pv 1) ZG)))
  (ZQ (Zk 5 nd (pv 2))
  (ZQ (Ql M8 (Vh (XH (Zh DI hr1 (ZF (pv 4) ZG))))
   (ZQ (Zk 6 nd (Zh DB hr4 (Vu (pv 0) (Zl (r:=Xe K) Zi (pv 4) ZM (fun _ _=>rfl)) (pv 5))))
   (ZQ (Zk 4 nd (XR (E:=E0) (pv 0) L.cS DL hr2 XE (ZF (Zl (r:=Xe K) Zi (pv 6) ZM (fun _ _=>rfl)) ZG)))
   (ZU (Zk 5 nd (Zl (r:=Xe K) Zi (pv 6) ZM (fun _ _=>rfl)))))))
  (ZU (Zg (Zl (r:=YB K) YD (Zl (r:=Xe K) Zi (pv 4) ZM (fun _ _=>rfl)) (pv 5) (fun _ _=>rfl)))))))),?_⟩
 refine ⟨_,rfl,_,rfl,X,lk,c,ls,r,rfl,R,k1,fun rn er jp=>?_⟩;subst er;refine ⟨_,rfl,_,_,rfl,rfl,_,rfl,?_⟩;by_cases h0:0<=n
 case neg=>
  rw [decide_eq_false h0];exact Zo ⟨_,rfl,Zw ⟨_,rfl,_,rfl,fun dd hdd=>k2 rn rfl jp (fun z=>h0 z.1) dd _ (ZX hdd _) ZO⟩⟩
 rw [decide_eq_true h0];refine Zw ⟨_,rfl,_,_,rfl,rfl,_,rfl,?_⟩;by_cases h1:n<(Qk X.ts rn:Nat)
 case neg=>
  rw [decide_eq_false h1];exact Zw ⟨_,rfl,_,rfl,fun dd hdd=>k2 rn rfl jp (fun z=>h1 z.2) dd _ (ZX hdd _) ZO⟩
 rw [decide_eq_true h1];obtain ⟨m,rfl⟩:=zBx h0
 cases rn with
 | none=>exact absurd h1 (by show ¬ ((m:Int)<((0:Nat):Int));lia)
 | some i=>
 have hi:=jp i rfl;have hm:m<(gd X.ts i).rows.length:=by have:(m:Int)<((gd X.ts i).rows.length:Int):=h1;lia
 obtain ⟨dx,hS⟩:=R.sh.self;have hlk:=R.sh.looks;refine Zo ⟨_,rfl,X.S,dx,_,rfl,hS,rfl,_,rfl,X,lk,c,ls,i,rfl,R,hi,by lia,fun H1 tp l us fr R1 htp nl hl w1 w2=>?_⟩
 have lw:=low i hi;have hf1:Yi (fun b=>b=lk) H1 (gd X.ts i) (.ref tp):=⟨tp,l,us,rfl,htp,hl,(Zb hlk nl).symm,w1,w2⟩;refine ⟨_,rfl,fun k σ H'=>∃(j m':Nat)(u:V)(x6:jf)(ls':je),σ=[some (.ref X.S),some (YK (Z8 (some i))),some (.int (m:Int)),some (.int ((Qk X.ts (some i):Nat):Int)),some u,some (.int (m':Int)),x6]/\k=(gd X.ts j).h/\j<X.ts.length/\m'<(gd X.ts j).rows.length/\(gd X.ts i).rows.getD m rd=(gd X.ts j).rows.getD m' rd/\Yi (fun b=>b=lk) H' (gd X.ts j) u /\
   (∀ b o,b≠lk->H b=some o->H' b=some o)/\Z3 jg jh H' X lk c ls'/\ls'.length+(gd X.ts j).h<=ls.length+61,⟨_,i,m,.ref tp,none,_,rfl,rfl,hi,hm,rfl,hf1,fr,R1,by rw [zAG];simp;lia⟩,?_⟩
 rintro k σ H2 ⟨j,m',u,x6,ls',rfl,rfl,hj,hm',erow,hf,fr2,R2,ll⟩;refine ⟨_,rfl,_,gd X.ts j,u,rfl,hf,_,rfl,?_⟩;have hf0:=hf;obtain ⟨tp,l,us,rfl,htp,hl,nlk,w1,w2⟩:=hf;by_cases hh:(gd X.ts j).h=0
 ·rw [decide_eq_true hh];have ks:=w1 hh;have lu:us.length=(gd X.ts j).rows.length:=by have:=ks.length;rw [<-this];exact zAD _
  obtain ⟨t,et,kt⟩:=ks.get (zAE (show m'<us.length by lia))
  unfold Z6 at et;rw [zAN,zAE hm'] at et;cases et;refine Zo ⟨_,rfl,tp,_,_,.ref l,rfl,rfl,Zn.of htp,rfl,_,rfl,.inl ⟨l,us,_,_,rfl,rfl,ZL.of hl,Yz (zAE (show m'<us.length by lia)),?_⟩⟩
  refine q i m rfl hi rfl hm H2 _ ls' fr2 R2 (by lia) ?_
  rw [erow,zAC,zAE hm'];exact kt
 ·rw [decide_eq_false hh];obtain ⟨b2,b4,b3,er⟩:=(hw j _ (XD hj)).stem hh;have eu:=w2 hh;subst eu;refine Zw ⟨_,fun _ _ z=>z,?_⟩;refine ⟨_,rfl,_,rfl,tp,_,_,.ref l,rfl,rfl,Zn.of htp,rfl,_,rfl,X,lk,c,ls',l,(gd X.ts j).bs,m',rfl,R2,hl,(fun b hb=>by have:=(b3 b hb).1;lia),by rw [<-show (gd X.ts j).rows=Zr X.ts (gd X.ts j).bs from er];exact hm',fun p b n t H3 eb hn em s3 et=>?_⟩
  have hb:=b3 b (zAJ eb);have hbl:b<X.ts.length:=by lia
  have R3:=R2.same s3;obtain ⟨dx,hS⟩:=R3.sh.self;have hlk3:=R3.sh.looks;refine ⟨_,rfl,X.S,dx,_,rfl,hS,rfl,_,rfl,t,_,_,.int (b:Nat),rfl,rfl,Zn.of et,rfl,X,lk,c,ls',b,rfl,R3,hbl,by lia,fun H4 tp4 l4 us4 fr4 R4 htp4 nl4 hl4 w14 w24=>?_⟩
  have et4:=fr4 _ _ (ZT et hlk3) et;refine ⟨_,rfl,t,_,_,.int (n:Nat),rfl,rfl,Zn.of et4,rfl,?_⟩;refine ⟨(gd X.ts b).h,by lia,b,n,_,_,ls'++[.int (b:Int)],rfl,rfl,hbl,hn,?_,⟨tp4,l4,us4,rfl,htp4,hl4,(Zb hlk3 nl4).symm,w14,w24⟩,fun a o n1 e=>fr4 a o n1 (s3 a o (fr2 a o n1 e)),R4,by rw [zAG];simp;lia⟩
  rw [erow,show (gd X.ts j).rows=Zr X.ts (gd X.ts j).bs from er,em];exact FN eb hn
end
theorem ZHP{α:Type}{p:α->Bool}{A C:List α}{b:α}(h:((A++b :: C).filter p).length - 1=A.length)(hC:∀ c∈C,p c=true->p b=true/\∀ a∈A,p a=true):(A≠[]->p b=true)/\∀ c∈C,p c=false:=by
 have nC:∀ c∈C,p c=false:=fun c hc=>by
  cases e:p c with
  | false=>rfl
  | true=>
   obtain ⟨hb,hA⟩:=hC c hc e;rw [zBB,List.filter_cons_of_pos hb,zAG,zAW,zBr.mpr hA] at h;have:0<(C.filter p).length:=List.length_pos_of_mem (zCA.mpr ⟨hc,e⟩)
   lia
 refine ⟨fun hA=>?_,nC⟩
 cases e:p b with
 | true=>rfl
 | false=>
  have e2:C.filter p=[]:=zBz.mpr fun c hc=>by rw [nC c hc];exact zAF
  rw [zBB,List.filter_cons_of_neg (by rw [e];exact zAF),e2,zAo] at h
  have:=zCV p A;have:0<A.length:=zCg.mpr hA
  lia
theorem Ks(l m:List KT)(k:KT):WH (l++m) k=WH l k+WH m k:=by unfold WH;rw [zBB,zAG]
theorem ZMe{l:List KT}{k:KT}(h:∀ x∈l,x.lt k=true):WH l k=l.length:=by unfold WH;rw [zBr.mpr h]
theorem BO{l:List KT}{k:KT}(h:∀ x∈l,x.lt k=false):WH l k=0:=by unfold WH;rw [zBz.mpr fun x hx=>by rw [h x hx];exact zAF];rfl
def QT(ts:List ZR)(p:Nat×Nat):Nat:=if (gd ts p.1).h=0 then p.2 else (Zr ts ((gd ts p.1).bs.take p.2)).length
abbrev Pt(ts:List ZR)(i:Nat):List KT:=(gd ts i).rows.map (·.1)
theorem DE{gt:List KT}{ts:List ZR}{i j:Nat}{t:ZR}(ok:Xt gt ts i t){y:KT}(hy:y∈t.rows.map (·.1)):y.lt (YM t).lo=false:=by
 obtain ⟨r,rs,e1,e2⟩:=QY ok.ne;have up:=ok.up;rw [e1,zAa] at up hy;rw [e2];rcases zAe.mp hy with z | z
 ·rw [z];exact Ur _
 ·exact Qn _ _ ((zA7.mp up).1 y z)
theorem Fh{gt:List KT}{ts:List ZR}(hw:WF gt ts){i:Nat}(hi:i<ts.length)(h0:(gd ts i).h≠0)(k:KT):WH (Pt ts i) k=(Zr ts ((gd ts i).bs.take (Yo ts k i))).length+WH (Pt ts (UM ts k i)) k:=by
 obtain ⟨n1,n2,n3⟩:=Nc hw hi h0 k;have ok:=hw i _ (XD hi);obtain ⟨b2,b4,b3,er⟩:=ok.stem h0;have er:(gd ts i).rows=Zr ts (gd ts i).bs:=er;have jv:=K8 hw hi h0 k;have ri:=Fk hw hi h0;have up:=ok.up;have ebs:(gd ts i).bs=(gd ts i).bs.take (Yo ts k i)++UM ts k i :: (gd ts i).bs.drop (Yo ts k i+1):=by
  obtain ⟨hj,e⟩:=zAK.mp n3;exact (zBG (Yo ts k i) _).symm.trans (by rw [zBk hj,e])
 have lA:((gd ts i).bs.take (Yo ts k i)).length=Yo ts k i:=by rw [zBQ];lia
 have ep:((gd ts i).bs.filter fun b=>!k.lt (YM (gd ts b)).lo).length - 1=Yo ts k i:=(if_neg h0).symm;have mem:∀ b,b∈(gd ts i).bs.take (Yo ts k i)\/b∈(gd ts i).bs.drop (Yo ts k i+1)->b<ts.length:=fun b hb=>by
  have:=(b3 b (hb.elim List.mem_of_mem_take List.mem_of_mem_drop)).1
  lia
 have split:=GU (ts:=ts) n3;rw [ebs,zB8] at ri;rw [<-lA] at ep
 conv at ep=>lhs;rw [ebs]
 generalize hA:(gd ts i).bs.take (Yo ts k i)=A at *;generalize hC:(gd ts i).bs.drop (Yo ts k i+1)=C at *;generalize UM ts k i=b at *;obtain ⟨_,rb,rAb⟩:=ri;have rbC:=(zA7.mp rb).1;have tr:∀{x y:Nat},(YM (gd ts x)).lo.lt (YM (gd ts y)).lo=true->(!k.lt (YM (gd ts y)).lo)=true->(!k.lt (YM (gd ts x)).lo)=true:=fun{x y} h q=>by
  cases e:k.lt (YM (gd ts x)).lo with
  | false=>rfl
  | true=>rw [lt_trans' _ _ _ e h] at q;cases q
 obtain ⟨pA,pC⟩:=ZHP ep fun c hc q=>⟨tr (rbC c hc) q,fun a ha=>tr (rAb a ha c (zAL _ hc)) q⟩;rw [er,split,zAX,zAX,zB8] at up;have hbl:b<ts.length:=by lia
 have lob:(YM (gd ts b)).lo∈Pt ts b:=by
  obtain ⟨r,rs,e1,e2⟩:=QY (hw b _ (XD hbl)).ne;show _∈(gd ts b).rows.map (·.1);rw [e1,e2];exact zAQ ..
 show WH ((gd ts i).rows.map (·.1)) k=_;rw [er,split,zAX,zAX,Ks,Ks,ZMe,BO (l:=(Zr ts C).map (·.1)),zAD,zCr]
 ·intro y hy;obtain ⟨r,hr,rfl⟩:=zAf.mp hy;obtain ⟨c,hc,hr⟩:=zCR.mp hr;have h1:=DE (j:=0) (hw c _ (XD (mem c (.inr hc)))) (zAf.mpr ⟨r,hr,rfl⟩);have h2:=pC c hc
  cases e:r.1.lt k with
  | false=>rfl
  | true=>
   have h3:k.lt (YM (gd ts c)).lo=true:=by
    cases z:k.lt (YM (gd ts c)).lo with
    | true=>rfl
    | false=>rw [z] at h2;cases h2
   rw [lt_trans' _ _ _ e h3] at h1;cases h1
 ·intro x hx;have hx1:=up.2.2 x hx _ (zAz _ lob);have hA0:A≠[]:=fun z=>by rw [z] at hx;simp [Zr] at hx
  have h2:=pA hA0
  cases e:x.lt k with
  | true=>rfl
  | false=>
   rw [HF e hx1] at h2;cases h2
theorem Kp{gt:List KT}{ts:List ZR}(hw:WF gt ts)(k:KT):∀ n i,i<ts.length->(gd ts i).h=n->((UN ts k n i).map (QT ts)).sum=WH (Pt ts i) k
 | 0,i,hi,h=>by
  have e:QT ts (i,Yo ts k i)=Yo ts k i:=if_pos h;have e2:Yo ts k i=WH (Pt ts i) k:=if_pos h;rw [UN,zAa,zBu,zBX,zDZ,zCr,e,e2]
 | n+1,i,hi,h=>by
  have h0:(gd ts i).h≠0:=by lia
  obtain ⟨n1,n2,n3⟩:=Nc hw hi h0 k;have e:QT ts (i,Yo ts k i)=(Zr ts ((gd ts i).bs.take (Yo ts k i))).length:=if_neg h0;rw [UN,zAa,zBX,Kp hw k n _ (by lia) (by lia),e,Fh hw hi h0 k]
def Qc(ts:List ZR)(k:KT):Option Nat->Nat
 | none=>0
 | some i=>WH (Pt ts i) k
theorem AI{gt:List KT}{ts:List ZR}(hw:WF gt ts)(k:KT){rn:Option Nat}(h:∀ i,rn=some i->i<ts.length):((Wg ts k rn).map (QT ts)).sum=Qc ts k rn:=by
 cases rn with
 | none=>rfl
 | some i=>exact Kp hw k _ i (h i rfl) rfl
theorem Jf{gt:List KT}{ts:List ZR}(hw:WF gt ts)(k:KT):∀ n i,i<ts.length->(gd ts i).h=n->∀ p∈UN ts k n i,p.1<ts.length
 | 0,i,hi,h,p,hp=>by rw [UN] at hp;rw [zAR.mp hp];exact hi
 | n+1,i,hi,h,p,hp=>by
  rw [UN] at hp;obtain ⟨n1,n2,n3⟩:=Nc hw hi (by lia) k
  rcases zAe.mp hp with z | z
  ·rw [z];exact hi
  ·exact Jf hw k n _ (by lia) (by lia) p z
theorem HR(ts:List ZR):∀ bs:List Nat,(bs.map fun b=>(((gd ts b).rows.length:Nat):Int)).sum=(((Zr ts bs).length:Nat):Int)
 | []=>rfl
 | b :: bs=>by
  rw [zAa,zBX,HR ts bs];unfold Zr;rw [zBM,zAG]
  lia
theorem II:∀ l:List Nat,(l.map fun n=>((n:Nat):Int)).sum=((l.sum:Nat):Int)
 | []=>rfl
 | n :: l=>by rw [zAa,zBX,II l,zBX];lia
theorem Ce{xs:je}(n:Nat):Qt xs none (some (n:Int))=xs.take n:=by
 unfold Qt;rw [HT.sIx_none,HT.sIx_nat,List.drop_zero,Nat.sub_zero,<-zDY]
section
variable{P:Program}{w:World}{K:zAA}{mg:jb}{base:Heap}{f:Addr}{fd:FuncData}{jg jh CT CK:Addr}
inductive Wu(gt:List KT)(jg jh:Addr)(vs:je)(H:Hp)(Q:VK)(_:XK):Prop
 | mk (X:Yk) (lk:Addr) (c:Nat) (ls:je) (N:Addr->Prop) (p:Nat×Nat) (u:V) (_:vs=[.ref X.S,u]) (_:Z3 jg jh H X lk c ls) (_:WF gt X.ts) (_:p.1<X.ts.length) (_:YR N H X.ts p u) (_:∀ H',ZB H H'->Q (.int (QT X.ts p:Nat)) H')
theorem V0:ZC ["shelf","step","at","found"] ["shelf","step"] (Ze Ml):=Zs
theorem ZKH{gt:List KT}(F:Zj K "rows_ahead" "rows_ahead" Ml f fd)(T:YG mg)(DI:ZA P w K mg base 1 "is_leaf" ["found"] YV)(DU:ZA P w K mg base 3 "rows_under" ["shelf","root"] (Xk jg jh)):ZK P w K mg base ZW 4 f fd ["shelf","step"] (Wu gt jg jh):=by
 refine F.ok V0 (fun vs H Q E h=>(by obtain ⟨_,_,_,_,_,_,_,rfl,_⟩:=h;rfl)) (fun cdv A outer s H vs Q E hr h=>?_)
 obtain ⟨X,lk,c,ls,N,p,u,rfl,R,hw,hp,⟨t,fv,rfl,ht,hf⟩,q⟩:=h;have nd:=V0.nd;have hr1:=hr.mono (show 1<=3 by decide)
 refine ⟨_,ZQ (Zk 2 nd (Zl (r:=Xe K) Zi (pv 1) ZM (fun _ _=>rfl)))
  (ZQ (Zk 3 nd (Zl (r:=Xe K) Zi (pv 1) ZM (fun _ _=>rfl)))
  (ZQ (Zz (XH (Zh DI hr1 (ZF (pv 3) ZG))) (ZU (Zg (pv 2))) Z0)
  (ZU (Zg (Zy (LG rfl) rfl T.sum LK (ZF (VR [0] ["shelf"] rfl (VO (Kv Hz (Zl (r:=Xe K) Zi (pv 3) ZM (fun _ _=>rfl)) Em (Li (pv 2)))) (fun _ _ _ _ _=>VU) (fun _ _ _ _ _=>Zh DU hr (ZF (pv 1) (ZF (pv 0) ZG))) ⟨rfl,.inl rfl,rfl,trivial⟩) ZG)))))),?_⟩
 refine ⟨_,rfl,t,_,_,_,rfl,rfl,Zn.of ht,rfl,_,rfl,t,_,_,_,rfl,rfl,Zn.of ht,rfl,_,rfl,N,gd X.ts p.1,fv,rfl,hf,_,rfl,?_⟩;obtain ⟨tp,l,us,rfl,h1,h2,n1,h3,h4⟩:=hf;by_cases h:(gd X.ts p.1).h=0
 ·rw [decide_eq_true h];have e:QT X.ts p=p.2:=if_pos h;have:=q H (ZB.refl _);rw [e] at this;exact Zw ⟨_,rfl,this⟩
 ·rw [decide_eq_false h];have eu:=h4 h;subst eu;obtain ⟨b2,b4,b3,er⟩:=(hw _ _ (XD hp)).stem h;refine Zo ⟨_,rfl,tp,_,_,.ref l,rfl,rfl,Zn.of h1,rfl,_,rfl,_,rfl,l,_,rfl,ZL.of h2,fun l' nl'=>?_⟩;rw [Ce,show (iN (gd X.ts p.1).bs).take p.2=iN ((gd X.ts p.1).bs.take p.2) from (List.map_take).symm];have g1:=ZX nl' (.lst (iN ((gd X.ts p.1).bs.take p.2)));have el:=ZO (H:=H) (a:=l') (o:=.lst (iN ((gd X.ts p.1).bs.take p.2)));generalize upd H l' (.lst (iN ((gd X.ts p.1).bs.take p.2)))=H1 at g1 el ⊢;have ll:(iN ((gd X.ts p.1).bs.take p.2)).length<=4:=by rw [zAD,zBQ];lia
  refine ⟨l',rfl,⟨_,ZL.of el⟩,VV (n:=(iN ((gd X.ts p.1).bs.take p.2)).length) (fun i z=>(iN ((gd X.ts p.1).bs.take p.2))[i]? = some z) (fun D j ys H3=>ZB H1 H3/\H1 D=none/\ys=((((gd X.ts p.1).bs.take p.2).take j).map fun b=>(((gd X.ts b).rows.length:Nat):Int)).map V.int) (XG (by lia))
   (fun D j ys H3 hj hP=>⟨_,_,ZL.of (hP.1 _ _ el),zAE hj⟩) (fun D j ys H3 z H4 hj hP hy=>⟨hy.1,hy.2 _ (ZL.of (hP.1 _ _ el))⟩) (fun D ys H3 hP=>⟨_,ZL.of (hP.1 _ _ el),zAH _⟩)
   (fun D hD=>⟨ZX hD _,hD,rfl⟩) (fun D j ys H3 z eD hl' hj hz hP RR jM=>?_) (fun D ys H3 eD hP=>?_)⟩
  ·obtain ⟨s3,nD,rfl⟩:=hP;obtain ⟨b,eb,rfl⟩:=OG hz;have hb:=(b3 b (List.mem_of_mem_take (zAJ eb))).1;refine ⟨_,rfl,_,rfl,X,lk,c,ls,some b,rfl,(R.same g1).same s3,(fun i z=>by cases z;lia),jM _ H3 eD ⟨UQ s3 nD,nD,?_⟩⟩
   rw [zAi,eb,zAX,zAX];rfl
  ·obtain ⟨s3,nD,rfl⟩:=hP;rw [zAS (by rw [<-zAD];exact zAH _)] at eD
   refine ⟨D,_,rfl,ZL.of eD,?_⟩;rw [HR];have e:QT X.ts p=(Zr X.ts ((gd X.ts p.1).bs.take p.2)).length:=if_neg h;have:=q H3 (g1.trans s3);rw [e] at this;exact this
inductive Zx(gt:List KT)(jg jh CT CK:Addr)(vs:je)(H:Hp)(Q:VK)(E:XK):Prop
 | mk (X:Yk) (lk:Addr) (c:Nat) (ls:je) (r:Option Int) (v:V) (o:Option KT) (_:vs=[.ref X.S,YK r,v]) (_:P3 gt jg jh CT CK H X lk c ls r v o E) (_:∀(k:KT)(rn:Option Nat),o=some k->r=Z8 rn->(∀ i,rn=some i->i<X.ts.length)->∀(H':Hp)(ls':je),(∀ b o,b≠lk->H b=some o->H' b=some o)->Z3 jg jh H' X lk c ls'->ls'.length<=ls.length+61->Q (.int (Qc X.ts k rn:Nat)) H')
theorem ZIB:ZC ["shelf","root","key"] ["shelf","root","key"] (Ze Mu):=Zs
theorem EZ{gt:List KT}(F:Zj K "place_of" "place_of" Mu f fd)(T:YG mg)(DS:Yd P w K mg base 10 "steps_to" ["shelf","root","key"] (Wl gt jg jh CT CK))(DA:ZA P w K mg base 4 "rows_ahead" ["shelf","step"] (Wu gt jg jh)):ZK P w K mg base (Xi P w) 11 f fd ["shelf","root","key"] (Zx gt jg jh CT CK):=by
 refine F.okD ZIB (fun vs H Q E h=>(by obtain ⟨_,_,_,_,_,_,_,rfl,_⟩:=h;rfl)) (fun cdv A outer s H vs Q E hr h=>?_)
 obtain ⟨X,lk,c,ls,r,v,o,rfl,A0,q⟩:=h;have hr4:=hr.mono (show 4<=10 by decide)
 refine ⟨_,ZU (Zg (Zy (LG rfl) rfl T.sum LK (ZF (VR [0] ["shelf"] rfl (VO (Pj UP DS hr (Vu (pv 0) (pv 1) (pv 2)))) (fun _ _ _ _ _=>VU) (fun _ _ _ _ _=>Zh DA hr4 (ZF (pv 1) (ZF (pv 0) ZG))) ⟨rfl,.inl rfl,rfl,trivial⟩) ZG))),?_⟩;refine ⟨_,rfl,_,rfl,_,rfl,X,lk,c,ls,r,v,o,rfl,A0,fun k rn ek er jp H1 S us fr R1 nS Slk hS hst=>?_⟩;have lw:=Fe k A0.low jp;have ln:=Paired.length hst;have hin:∀ p∈Wg X.ts k rn,p.1<X.ts.length:=fun p hp=>by
  cases rn with
  | none=>simp [Wg] at hp
  | some i=>exact Jf A0.wf k _ i (jp i rfl) rfl p hp
 refine ⟨S,rfl,⟨us,ZL.of hS⟩,VV (n:=us.length) (fun i z=>us[i]? = some z) (fun D i ys H3=>ZB H1 H3/\H1 D=none/\ys=(((Wg X.ts k rn).take i).map fun p=>((QT X.ts p:Nat):Int)).map V.int) (XG (by lia))
  (fun D i ys H3 hi hP=>⟨us,us[i],ZL.of (hP.1 _ _ hS),by simp [hi]⟩) (fun D i ys H3 z H4 hi hP hy=>⟨hy.1,hy.2 us (ZL.of (hP.1 _ _ hS))⟩) (fun D ys H3 hP=>⟨us,ZL.of (hP.1 _ _ hS),zAH _⟩)
  (fun D hD=>⟨ZX hD _,hD,rfl⟩) (fun D i ys H3 z eD hl' hi hz hP RR jM=>?_) (fun D ys H3 eD hP=>?_)⟩
 ·obtain ⟨s3,nD,rfl⟩:=hP;obtain ⟨p,ep,st⟩:=Paired.ixR hst hz;refine ⟨_,rfl,_,rfl,X,lk,c,_,_,p,z,rfl,R1.same s3,A0.wf,hin p (zAJ ep),YR.off st (fun b o _ e=>s3 b o e) (ZB.tups s3),fun H4 s4=>jM _ H4 (s4 _ _ eD) ⟨UQ (s3.trans s4) nD,nD,?_⟩⟩;rw [zAi,ep,zAX,zAX];rfl
 ·obtain ⟨s3,nD,rfl⟩:=hP;rw [zAS (by lia)] at eD
  refine ⟨D,_,rfl,ZL.of eD,?_⟩;have e:((Wg X.ts k rn).map fun p=>((QT X.ts p:Nat):Int)).sum=((Qc X.ts k rn:Nat):Int):=by
   rw [<-AI A0.wf k jp,<-II,zCG];rfl
  rw [e];refine q k rn ek er jp H3 _ (fun b o' n e=>s3 b o' (fr b o' n e)) (R1.same s3) ?_;rw [zAG];have:(QC (Wg X.ts k rn)).length=(Wg X.ts k rn).length:=zAD _
  lia
end
theorem Yg.sub{l m:List KT}(h:Yg m)(s:l.Sublist m):Yg l:=zDR.sublist s h
theorem N3(ts:List ZR):∀ jk:List (List Nat),Zr ts jk.flatten=jk.flatMap fun bs=>Zr ts bs
 | []=>rfl
 | bs :: jk=>by
  rw [zBV,zBM,<-N3 ts jk];unfold Zr;rw [zBq]
theorem ZIZ{gt:List KT}{ts:List ZR}(hw:WF gt ts){bs:List Nat}{h:Nat}(hb:∀ b∈bs,b<ts.length/\(gd ts b).h=h)(h2:2<=bs.length)(h4:bs.length<=4)(hr:Yg ((Zr ts bs).map (·.1))):∃ L,over (Y6 ts bs)=some L:=by
 have ll:(Y6 ts bs).length=bs.length:=zAD _;have up:=hr;unfold Yg Zr at up;rw [List.map_flatMap,zDa] at up;refine ⟨_,Bv (by lia) (by lia) fun j hj=>?_⟩
 have j0:j<bs.length:=by lia
 have j1:j+1<bs.length:=by lia
 rw [Qe j0,Qe j1];have ea:bs[j]? = some (bs.getD j 0):=by rw [zAC,zAE j0];rfl
 have eb:bs[j+1]? = some (bs.getD (j+1) 0):=by rw [zAC,zAE j1];rfl
 have ha:=hb _ (zAJ ea);have hc:=hb _ (zAJ eb);have pr:=OJ up.2 (zB7 j) ea eb;obtain ⟨rs1,r1,e1,f1⟩:=MH (hw _ _ (XD ha.1)).ne;obtain ⟨r2,rs2,e2,f2⟩:=QY (hw _ _ (XD hc.1)).ne;unfold Uu;rw [zAP];refine ⟨?_,?_⟩
 ·show (((gd ts (bs.getD j 0)).h:Int)==((gd ts (bs.getD (j+1) 0)).h:Int))=true;rw [ha.2,hc.2];simp
 ·rw [f1,f2];refine pr _ ?_ _ ?_
  ·rw [e1,zAX];exact zAc _ (zAR.mpr rfl)
  ·rw [e2];exact zAQ ..
theorem Eh{rs ps:List Z5}(hf:∀ r∈rs,r.fit)(hr:Yg (rs.map (·.1)))(hs:ps.Sublist rs)(h1:1<=ps.length)(h4:ps.length<=4):Qj ps:=⟨fun r h=>hf r (hs.subset h),by lia,h4,Yg.sub hr (hs.map _)⟩
theorem Bg{α:Type}{jk:List (List α)}{ps:List α}(h:ps∈jk):ps.Sublist jk.flatten:=zC9 h
theorem FE{gt:List KT}{ts:List ZR}{rs:List Z5}(g:Qj rs):Xt gt ts ts.length (Vx rs):=
 ⟨fun z=>by have:=g.2.1;rw [show (Vx rs).rows=rs from rfl] at z;rw [z] at this;simp at this,g.2.2.2,g.1,fun _=>⟨rfl,g.2.2.1⟩,fun z=>absurd rfl z⟩
def QG(t:ZR):Prop:=t.h<=60/\t.rows.length<=60
def YL{α:Type}(back:Bool)(l:List α):List α:=if back=true then l.reverse else l
theorem Pf{α:Type}(back:Bool)(l:List α):(YL back l).length=l.length:=by cases back <;> simp [YL]
theorem Hn{α:Type}(back:Bool)(l:List α):YL back (YL back l)=l:=by cases back <;> simp [YL]
theorem OS{α β:Type}(f:α->β)(back:Bool)(l:List α):(YL back l).map f=YL back (l.map f):=by cases back <;> simp [YL]
theorem Z9{α:Type}{back:Bool}{l:List α}{x:α}:x∈YL back l ↔ x∈l:=by cases back <;> simp [YL]
theorem Fw{back:Bool}{l:List Nat}(h:l.Nodup):(YL back l).Nodup:=by
 cases back
 ·exact h
 ·exact (List.reverse_perm l).nodup_iff.mpr h
theorem M9{α β:Type}{F:α->β->Prop}(back:Bool){l:List α}{m:List β}(h:Paired F l m):Paired F (YL back l) (YL back m):=by
 cases back
 ·exact h
 ·show Paired F l.reverse m.reverse
  induction h with
  | nil=>exact .nil
  | cons a _ ih=>rw [List.reverse_cons,List.reverse_cons];exact Pg a ih
theorem ZDN{back:Bool}{qs:List (List Nat)}(h:qs.flatten.Nodup):(YL back qs).flatten.Nodup:=by
 cases back
 ·exact h
 ·show qs.reverse.flatten.Nodup;have:qs.flatten.Perm qs.reverse.flatten:=(List.reverse_perm qs).symm.flatten;exact this.nodup_iff.mp h
theorem MQ{ts L:List ZR}{i:Nat}(h:i<ts.length):gd (ts++L) i=gd ts i:=by
 unfold gd;rw [zAC,zAw h,<-zAC]
theorem CV(ts L:List ZR):(zBN ts.length L.length).map (fun b=>(gd (ts++L) b).rows)=L.map (·.rows):=by
 refine zCx (by simp) fun i h1 h2=>?_
 have hi:i<L.length:=by simpa using h2
 rw [zCv,zCv,List.getElem_range'];unfold gd;rw [zAC,zAh (by lia),show ts.length+1 * i - ts.length=i by lia,zAE hi]
 rfl
theorem ZMx{ts L:List ZR}{b:Nat}(h:b∈zBN ts.length L.length):gd (ts++L) b∈L:=by
 rw [List.mem_range'_1] at h;unfold gd;rw [zAC,zAh h.1,zAE (show b - ts.length<L.length by lia)]
 exact zAy _
theorem F7(ts L:List ZR)(back:Bool):Zr (ts++L) (YL back (zBN ts.length L.length))=((YL back L).map (·.rows)).flatten:=by
 unfold Zr;rw [zB4,OS,CV,OS]
theorem Ij{α β:Type}(f:α->β):∀(jk:List (List β))(l:List α),jk.flatten=l.map f->∃ jo:List (List α),jk=jo.map (List.map f)/\jo.flatten=l
 | [],l,h=>⟨[],rfl,by
  have:l.map f=[]:=h.symm;rw [List.map_eq_nil_iff.mp this];rfl⟩
 | ps :: jk,l,h=>by
  rw [zBV] at h;obtain ⟨l1,l2,rfl,h1,h2⟩:=List.map_eq_append_iff.mp h.symm;obtain ⟨jo,e1,e2⟩:=Ij f jk l2 h2.symm;exact ⟨l1 :: jo,by rw [zAa,h1,<-e1],by rw [zBV,e2]⟩
theorem Iz{H:Hp}:∀(jk:List (je))(rs:List Z5),KeysAt H (Z6 rs) jk.flatten->∃ jo:List (List Z5),jo.flatten=rs/\Paired (fun q ps=>KeysAt H (Z6 q) ps) jo jk
 | [],rs,h=>⟨[],by
  have:=h.length;unfold Z6 at this;rw [zAD] at this;exact (zCM.mp this).symm,.nil⟩
 | ps :: jk,rs,h=>by
  rw [zBV] at h;have h1:=h.take ps.length;have h2:=h.drop ps.length;rw [List.take_left'  rfl] at h1;rw [List.drop_left' rfl] at h2;unfold Z6 at h1 h2;rw [<-List.map_take] at h1;rw [<-List.map_drop] at h2;obtain ⟨jo,e1,e2⟩:=Iz jk _ h2;exact ⟨rs.take ps.length :: jo,by rw [zBV,e1,zBG],.cons h1 e2⟩
theorem Nd{α:Type}{n:Nat}:∀(jo:List (List α)),(∀ q∈jo,n<=q.length)->n * jo.length<=jo.flatten.length
 | [],_=>by simp
 | q :: jo,h=>by
  have:=Nd jo fun x hx=>h x (zAL _ hx);have h1:=h q zAQ;rw [zBV,zAG,zAW,Nat.mul_add]
  lia
section
variable{gt:List KT}{jg jh:Addr}{N N2:Addr->Prop}{H0 H H':Hp}{S d lk:Addr}{ls:je}{jw ts ts':List ZR}{av av':Nat->List Nat}{ho ho':Nat->Nat}{jz as as':List YA}{kvs kvs':List (Zd×V)}
theorem YY.but(R:YY jg jh H S d lk ts av ho as kvs ls){c:Addr}{o:je}(s:ZE c H H')(hc:H c=some (.lst o))(clk:c≠lk)(own:∀ i:Nat,i<ts.length->(as.getD i .d).ab≠c/\(as.getD i .d).th≠c):YY jg jh H' S d lk ts av ho as kvs ls:=by
 have t:=s.tups hc;obtain ⟨⟨dS,hS⟩,hd,hl⟩:=R.sh;refine ⟨⟨⟨dS,s _ _ hS (ZT hS hc)⟩,s _ _ hd (ZT hd hc),s _ _ hl (Ne.symm clk)⟩,R.keys,R.val,R.len,fun i hi=>?_,R.own,R.two⟩;obtain ⟨dx,hx⟩:=(R.tw i hi).tw.self;exact (R.tw i hi).frame t (fun o e=>s _ _ e (ZT hx hc)) (fun o e=>s _ _ e (own i hi).2) (fun o e=>s _ _ e (own i hi).1)
structure YQ(gt:List KT)(jg jh:Addr)(N:Addr->Prop)(H0 H:Hp)(S d lk:Addr)(ls:je)(jw:List ZR)(jz:List YA)(ts:List ZR)(av:Nat->List Nat)(ho:Nat->Nat)(as:List YA)(kvs:List (Zd×V)):Prop where
 sh:YY jg jh H S d lk ts av ho as kvs ls
 wf:WF gt ts
 hs:∀ i,i<ts.length->QG (gd ts i)
 fr:∀ c o,¬ N c->c≠S->c≠d->(∀ b:Nat,b<jw.length->c≠(jz.getD b .d).x/\c≠(jz.getD b .d).ab)->H0 c=some o->H c=some o
 gr:∀ c,H c=none->H0 c=none
 le:jw.length<=ts.length
 old:∀ i,i<jw.length->as.getD i .d=jz.getD i .d/\gd ts i=gd jw i
 new:∀ i,jw.length<=i->i<ts.length->H0 (as.getD i .d).x=none/\H0 (as.getD i .d).th=none/\H0 (as.getD i .d).ab=none
theorem YQ.refl(R:YY jg jh H S d lk ts av ho as kvs ls)(hw:WF gt ts)(hs:∀ i,i<ts.length->QG (gd ts i)):YQ gt jg jh N H H S d lk ls ts as ts av ho as kvs:=
 ⟨R,hw,hs,fun c o _ _ _ _ e=>e,fun c e=>e,zAH _,fun i _=>⟨rfl,rfl⟩,fun i h1 h2=>absurd h2 (by lia)⟩
theorem YQ.off(r:YQ gt jg jh N H0 H S d lk ls jw jz ts av ho as kvs){c:Addr}{o:HO}(e:H0 c=some o)(h:∀ b:Nat,b<jw.length->c≠(jz.getD b .d).x/\c≠(jz.getD b .d).ab)(b:Nat)(hb:b<ts.length):c≠(as.getD b .d).x/\c≠(as.getD b .d).ab:=by
 rcases zAg b jw.length with z | z
 ·rw [(r.old b z).1];exact h b z
 ·obtain ⟨n1,_,n3⟩:=r.new b z hb;exact ⟨Zb e n1,Zb e n3⟩
theorem YQ.push(r:YQ gt jg jh N H0 H S d lk ls jw jz ts av ho as kvs){t:ZR}{a:YA}(ok:Xt gt ts ts.length t)(h60:QG t)(nx:H a.x=none)(nth:H a.th=none)(nab:H a.ab=none)(fr:∀ c o,c≠S->c≠d->(∀ b:Nat,b<ts.length->c≠(as.getD b .d).x/\c≠(as.getD b .d).ab)->H c=some o->H' c=some o)(R':YY jg jh H' S d lk (ts++[t]) av' ho' (as++[a]) kvs' ls):YQ gt jg jh N H0 H' S d lk ls jw jz (ts++[t]) av' ho' (as++[a]) kvs':=by
 have el:as.length=ts.length:=r.sh.len;have en:(ts++[t]).length=ts.length+1:=by simp
 have aL:∀ i,i<ts.length->(as++[a]).getD i .d=as.getD i .d:=fun i hi=>Mh (by lia)
 have aN:(as++[a]).getD ts.length .d=a:=by rw [<-el];exact Ld
 have le:=r.le;refine ⟨R',WF.push r.wf ok,fun i hi=>?_,fun c o n1 n2 n3 n4 e=>fr c o n2 n3 (r.off e n4) (r.fr c o n1 n2 n3 n4 e),fun c e=>r.gr c ?_,by lia,fun i hi=>?_,fun i h1 h2=>?_⟩
 ·rcases zAg i ts.length with z | z
  ·rw [P5 z];exact r.hs i z
  ·have:i=ts.length:=by lia
   rw [this,Mz];exact h60
 ·cases z:H c with
  | none=>rfl
  | some o=>
   exfalso
   by_cases c1:c=S
   ·obtain ⟨dS,hS⟩:=R'.sh.self;rw [c1,hS] at e;cases e
   by_cases c2:c=d
   ·rw [c2,R'.sh.kept] at e;cases e
   have:∀ b:Nat,b<ts.length->c≠(as.getD b .d).x/\c≠(as.getD b .d).ab:=fun b hb=>by
    have W:=R'.tw b (by lia)
    rw [aL b hb] at W;obtain ⟨dx,hx⟩:=W.tw.self;exact ⟨(Zb hx e).symm,(Zb W.tw.above e).symm⟩
   rw [fr c o c1 c2 this z] at e;cases e
 ·rw [aL i (by lia),P5 (by lia)];exact r.old i hi
 ·rcases zAg i ts.length with z | z
  ·rw [aL i z];exact r.new i h1 z
  ·have:i=ts.length:=by lia
   rw [this,aN];exact ⟨r.gr _ nx,r.gr _ nth,r.gr _ nab⟩
structure WN(H0:Hp)(lk:Addr)(jw:List ZR)(jz:List YA)(c:Addr):Prop where
 at_:∃ o,H0 c=some (.lst o)
 lk:c≠lk
 own:∀ i:Nat,i<jw.length->(jz.getD i .d).ab≠c/\(jz.getD i .d).th≠c
theorem YQ.own(r:YQ gt jg jh N H0 H S d lk ls jw jz ts av ho as kvs){c:Addr}(ap:WN H0 lk jw jz c)(i:Nat)(hi:i<ts.length):(as.getD i .d).ab≠c/\(as.getD i .d).th≠c:=by
 rcases zAg i jw.length with z | z
 ·rw [(r.old i z).1];exact ap.own i z
 ·obtain ⟨_,n2,n3⟩:=r.new i z hi;obtain ⟨o,e⟩:=ap.at_;exact ⟨(Zb e n3).symm,(Zb e n2).symm⟩
theorem YQ.but(r:YQ gt jg jh N H0 H S d lk ls jw jz ts av ho as kvs){c:Addr}{o o':je}(ap:WN H0 lk jw jz c)(hN:N c)(hc:H c=some (.lst o))(s:ZE c H H')(hc':H' c=some (.lst o')):YQ gt jg jh N H0 H' S d lk ls jw jz ts av ho as kvs:=
 ⟨r.sh.but s hc ap.lk (r.own ap),r.wf,r.hs,fun b u n1 n2 n3 n4 e=>s _ _ (r.fr b u n1 n2 n3 n4 e) fun z=>n1 (z ▸ hN),fun b e=>r.gr b (by
  cases z:H b with
  | none=>rfl
  | some u=>
   exfalso
   by_cases c1:b=c
   ·rw [c1,hc'] at e;cases e
   ·rw [s _ _ z c1] at e;cases e),r.le,r.old,r.new⟩
theorem YQ.same(r:YQ gt jg jh N H0 H S d lk ls jw jz ts av ho as kvs)(s:ZB H H'):YQ gt jg jh N H0 H' S d lk ls jw jz ts av ho as kvs:=
 ⟨r.sh.same s,r.wf,r.hs,fun b u n1 n2 n3 n4 e=>s _ _ (r.fr b u n1 n2 n3 n4 e),fun b e=>r.gr b (s.free e),r.le,r.old,r.new⟩
theorem YQ.trans(r:YQ gt jg jh N H0 H S d lk ls jw jz ts av ho as kvs)(q:YQ gt jg jh N2 H H' S d lk ls ts as ts' av' ho' as' kvs')(hN:∀ c,N2 c->H0 c=none\/N c):YQ gt jg jh N H0 H' S d lk ls jw jz ts' av' ho' as' kvs':=by
 have l1:=r.le;have l2:=q.le;refine ⟨q.sh,q.wf,q.hs,fun c o n1 n2 n3 n4 e=>q.fr c o (fun z=>(hN c z).elim (fun y=>by rw [y] at e;cases e) n1) n2 n3 (r.off e n4) (r.fr c o n1 n2 n3 n4 e),fun c e=>r.gr c (q.gr c e),by lia,fun i hi=>?_,fun i h1 h2=>?_⟩
 ·obtain ⟨a1,a2⟩:=q.old i (by lia)
  rw [a1,a2];exact r.old i hi
 ·rcases zAg i ts.length with z | z
  ·rw [(q.old i z).1];exact r.new i h1 z
  ·obtain ⟨m1,m2,m3⟩:=q.new i z h2;exact ⟨r.gr _ m1,r.gr _ m2,r.gr _ m3⟩
theorem YQ.tups(r:YQ gt jg jh N H0 H S d lk ls jw jz ts av ho as kvs)(R0:YY jg jh H0 S d lk jw av' ho' jz kvs' ls)(hN:∀ c,N c->∃ o,H0 c=some (.lst o)):Z2 H0 H:=fun c xs e=>by
 obtain ⟨⟨dS,hS⟩,hd,hl⟩:=R0.sh;refine r.fr c _ (fun z=>?_) (ZT e hS) (ZT e hd) (fun b hb=>?_) e
 ·obtain ⟨o,eo⟩:=hN c z;rw [eo] at e;cases e
 ·obtain ⟨dx,hx⟩:=(R0.tw b hb).tw.self;exact ⟨ZT e hx,ZT e (R0.tw b hb).tw.above⟩
theorem Pw(R0:YY jg jh H S d lk ts av ho as kvs ls){c:Addr}(n:H c=none){o:je}(e:H' c=some (.lst o)):WN H' lk ts as c:=
 ⟨⟨o,e⟩,(Zb R0.sh.looks n).symm,fun i hi=>by
  obtain ⟨us,e1,_⟩:=(R0.tw i hi).things;exact ⟨Zb (R0.tw i hi).tw.above n,Zb e1 n⟩⟩
end
end Tw
namespace L2
open PySem PySem.Spec PyProof.Rows
theorem Ky:∀{xs:je}{us:jd}(i:Nat),ZN xs us->(xs[i]? = none/\us[i]? = none)\/∃ x u,xs[i]? = some x/\us[i]? = some u/\ZS x u
 | _,_,i,.nil=>.inl ⟨by simp,by simp⟩
 | _,_,0,.cons r t=>.inr ⟨_,_,rfl,rfl,r⟩
 | _,_,i+1,.cons r t=>by
  rcases Ky i t with ⟨a,b⟩ | ⟨x,u,a,b,c⟩
  ·exact .inl ⟨by simpa using a,by simpa using b⟩
  ·exact .inr ⟨x,u,by simpa using a,by simpa using b,c⟩
theorem Lz{xs:je}{us:jd}(r:ZN xs us):∀ idx:List Nat,ZN (idx.filterMap (xs[·]?)) (idx.filterMap (us[·]?))
 | []=>.nil
 | i :: idx=>by
  rw [zBO,zBO];rcases Ky i r with ⟨a,b⟩ | ⟨x,u,a,b,c⟩
  ·rw [a,b];exact Lz r idx
  ·rw [a,b];exact .cons c (Lz r idx)
section
variable{X:Cx}
end
theorem Fg{α:Type}:∀(l r:List α),(zAx l.length).filterMap ((l++r)[·]?)=l:=by
 intro l
 induction l with
 | nil=>intro r;rfl
 | cons a l ih=>
  intro r;rw [zAW,zDU,zBO,List.filterMap_map];show a :: List.filterMap (fun i=>(l++r)[i]?) (zAx l.length)=a :: l;rw [ih]
theorem EY(n:Nat):sliceRange ((n:Int) - 1) (-1) (-1)=(zAx n).reverse:=by
 unfold sliceRange;have e:(if (-1:Int) > 0 then if ((n:Int) - 1) < -1 then (-1 - ((n:Int) - 1) + -1 - 1) / -1 else 0 else if ((n:Int) - 1) > -1 then (((n:Int) - 1) - -1 - -1 - 1) / - -1 else 0).toNat=n:=by
  rw [if_neg (by decide)]
  by_cases h:0<n
  ·rw [if_pos (by lia),show (- -1:Int)=1 from rfl,Int.ediv_one];lia
  ·rw [if_neg (by lia)];lia
 simp only [e];refine zCx (by simp) fun i h1 h2=>?_
 simp at h1;simp
 lia
theorem ZKT{α:Type}(l:List α):(sliceRange ((l.length:Int) - 1) (-1) (-1)).filterMap (l[·]?)=l.reverse:=by
 rw [EY,List.filterMap_reverse];have:=Fg l [];rw [zAo] at this;rw [this]
section
variable{X:Cx}
def Gw(K:zAA)(te t3:TE):TE:=fun σ H Q=>te σ H fun x H1=>t3 σ H1 fun y H2=>∃ a xs,x=.ref a/\y=.int (-1)/\ZL K H2 a xs/\∀ p,H2 p=none->Q (.ref p) (upd H2 p (.lst xs.reverse))
theorem Jc{e e3:Expr}{te t3:TE}{p2 pos:Pos}(he:PE X e te)(h3:PE X e3 t3):PE X (.Subscript e (.Slice none none (some e3) p2) pos) (Gw X.K te t3):=by
 intro pins s σ H Q I h;refine Subscript_ (Zc (he pins s σ H _ I h) fun v s1 ⟨x,H1,I1,r1,q1⟩=>?_);refine wpAny_Slice ?_;rw [evalPart_none];refine wpAny_pure (wpAny_pure ?_);rw [evalPart_some];refine Zc (h3 pins s1 σ H1 _ I1 q1) fun u s3 ⟨y,H3,I3,r3,q3⟩=>?_;obtain ⟨a,xs,rfl,rfl,hx,q⟩:=q3;cases r1;obtain ⟨tk,rfl⟩:=r3;have I4:ZH X pins σ H3 { s3 with heap:=s3.heap.push { cls:=.type "slice",data:=.fields #[.none,.none,.int (-1) tk] } }:=I3.kept (t':=s3.toks) fun b ob q=>zAI _ q;obtain ⟨ji,r,ht,hz⟩:=I4.list hx;have hlen:=r.length;show wpAny (model X.prog X.w) X.A (subscriptTail e (.Slice none none (some e3) p2) (.ref a) (.ref s3.heap.objs.size)) (EP X pins σ Q) X.xe { s3 with heap:=s3.heap.push { cls:=.type "slice",data:=.fields #[.none,.none,.int (-1) tk] } };refine tail_any (ops:=[.ref a,.ref s3.heap.objs.size]) ht.isList.typeIs slot_list_getitem.lookup ?_ (by with_unfolding_all rfl)
 refine wpAny_getItem_list_slice ht.isList (Heap.IsSliceOf.new ..) .none .none (.int (-1) tk) (by simp) ?_ (by rw [zAM] <;> lia)
 have pk:slicePick ji.toArray none none (some (-1))=((sliceRange ((ji.length:Int) - 1) (-1) (-1)).filterMap (ji[·]?)).toArray:=by
  unfold slicePick;simp [sliceBounds]
 rw [pk];have vp:=Lz r (sliceRange ((ji.length:Int) - 1) (-1) (-1));have ex:(sliceRange ((ji.length:Int) - 1) (-1) (-1)).filterMap (xs[·]?)=xs.reverse:=by rw [<-hlen];exact ZKT xs
 rw [ex] at vp;refine ⟨.ref _,_,I4.laid (t':=s3.toks) (o:=.lst xs.reverse) (fun b ob q=>zAI _ q) (zAH _) ?_,rfl,q _ (I4.hok.fresh (zAH _))⟩;exact ⟨by rw [List.length_reverse];lia,_,0,vp,zAU _ rfl⟩
end
end L2
namespace Tw
open PySem PySem.Spec L2 PyProof.Rows
abbrev Ox:List Str:=["_law_well_here","_law_shelf","_law_rows","_law_few","_law_back","_law_level","_law_stem","_law_numbers","_law_parts","_law_part"]
theorem Xn:ZC Ox ["_law_well_here","_law_shelf","_law_rows"] (Ze U9):=Zs
def HU:Option Stmt->List Stmt
 | some (.For _ _ b _ _)=>b
 | _=>[]
def GV:List Stmt:=Jj ((WD U9)[4]?)
def Id:List Stmt:=HU (GV[2]?)
section
variable{P:Program}{w:World}{K:zAA}{mg:jb}{base:Heap}{f:Addr}{fd:FuncData}{cdv:Value}{A:Around}{outer:List Env}{s:Shared}{Hs:Hp}{E:XK}{jg jh:Addr}
theorem CD{gt:List KT}(L:Y7 K mg jg jh)(hr:ZY 10 (A.deeper (envOfC "_law_plant" (Ze U9) s.heap.objs.size f cdv)))(DS:ZJ P w K mg base ZW 10 jg "put_stem" ["self","numbers"] (Z4 gt jg jh))(DL:ZJ P w K mg base ZW 10 jg "put_leaf" ["self","rows"] (YU jg jh)):
  ∃ t,X5 (WB ZW P w K mg base Ox "_law_plant" (Ze U9) f cdv A outer s Hs E).nox Id t /\
  (∀(D0:Ym)(H1 H:Hp)(S d lk nm q:Addr)(x0 x2 x3 x4 x5 x8:jf)(jm ts:List ZR)(jC as:List YA)(av:Nat->List Nat)(ho:Nat->Nat)(kvs:List (Zd×V))(ls nl us:je)(rs:List Z5),
   YQ gt jg jh (· = nm) H1 H S d lk ls jm jC ts av ho as kvs->ts.length<=700->WN H1 lk jm jC nm->H nm=some (.lst nl)->nl.length<=200->H q=some (.lst us)->KeysAt H (Z6 rs) us->Qj rs ->
   (∀ H' as' kvs',YQ gt jg jh (· = nm) H1 H' S d lk ls jm jC (ts++[Vx rs]) (Uz ts.length av) (Ua ts.length ho) as' kvs'->H' nm=some (.lst (nl++[.int (ts.length:Nat)]))->D0.nx [x0,some (.ref S),x2,x3,x4,x5,some (.bl false),some (.ref nm),x8,some (.ref q)] H') ->
   t D0 [x0,some (.ref S),x2,x3,x4,x5,some (.bl false),some (.ref nm),x8,some (.ref q)] H) /\
  (∀(D0:Ym)(H1 H:Hp)(S d lk nm q:Addr)(x0 x2 x3 x4 x5 x8:jf)(jm ts:List ZR)(jC as:List YA)(av:Nat->List Nat)(ho:Nat->Nat)(kvs:List (Zd×V))(ls nl:je)(bs:List Nat)(Lb:YT),
   YQ gt jg jh (· = nm) H1 H S d lk ls jm jC ts av ho as kvs->ts.length<=700->WN H1 lk jm jC nm->H nm=some (.lst nl)->nl.length<=200->H q=some (.lst (iN bs))->(∀ b∈bs,b<ts.length/\ho b=1/\av b=[])->over (Y6 ts bs)=some Lb->QG (Xg ts bs) ->
   (∀ H' as' kvs',YQ gt jg jh (· = nm) H1 H' S d lk ls jm jC (ts++[Xg ts bs]) (Us bs ts.length (Uz ts.length av)) (Uq bs (Ua ts.length ho)) as' kvs'->H' nm=some (.lst (nl++[.int (ts.length:Nat)]))->D0.nx [x0,some (.ref S),x2,x3,x4,x5,some (.bl true),some (.ref nm),x8,some (.ref q)] H') ->
   t D0 [x0,some (.ref S),x2,x3,x4,x5,some (.bl true),some (.ref nm),x8,some (.ref q)] H):=by
 have nd:=Xn.nd;refine ⟨_,ZU (Zz (XH (pv 6))
  (ZU (Wx (QB zAs zA2 zA1 QL (pv 7) (ZF (XR (E:=E0) (pv 1) L.cS DS hr XE (ZF (pv 9) ZG)) ZG))))
  (ZU (Wx (QB zAs zA2 zA1 QL (pv 7) (ZF (XR (E:=E0) (pv 1) L.cS DL hr XE (ZF (pv 9) ZG)) ZG))))),
  fun D0 H1 H S d lk nm q x0 x2 x3 x4 x5 x8 jm ts jC as av ho kvs ls nl us rs r t7 ap hnm l2 hq hk G fin=>?_,fun D0 H1 H S d lk nm q x0 x2 x3 x4 x5 x8 jm ts jC as av ho kvs ls nl bs Lb r t7 ap hnm l2 hq hb hLb h60 fin=>?_⟩
 ·obtain ⟨dS,hS⟩:=r.sh.sh.self;refine ⟨_,rfl,_,rfl,Zo ⟨_,rfl,.inl ⟨rfl,_,ZL.of hnm⟩,_,rfl,S,dS,_,rfl,hS,rfl,_,rfl,S,d,lk,q,ts,av,ho,as,kvs,ls,us,rs,rfl,r.sh,by lia,hq,hk,G,fun H' a nx nth nab fr R'=>?_⟩⟩
  have r':=r.push (FE G) ⟨zAk _,zAv G.2.2.1 (by decide)⟩ nx nth nab (fun c o n1 n2 _ e=>fr c o n1 n2 e) R'
  have nmS:nm≠S:=ZT hnm hS;have hnm':=fr _ _ nmS (ZT hnm r.sh.sh.kept) hnm;refine ⟨nm,nl,_,rfl,rfl,hnm',XG (by lia),?_⟩
  exact fin _ _ _ (r'.but ap rfl hnm' (ZE.upd (ZE.refl nm H')) ZO) ZO
 ·obtain ⟨dS,hS⟩:=r.sh.sh.self;refine ⟨_,rfl,_,rfl,Zw ⟨_,rfl,.inl ⟨rfl,_,ZL.of hnm⟩,_,rfl,S,dS,_,rfl,hS,rfl,_,rfl,S,d,lk,q,ts,av,ho,as,kvs,ls,bs,Lb,rfl,r.sh,r.wf,by lia,fun b h=>⟨(hb b h).1,by rw [(hb b h).2.1];exact zAH _,by rw [(hb b h).2.2];exact zAk _⟩,hq,hLb,fun H' a nx nth nab fr R'=>?_⟩⟩
  have r':=r.push (FL r.wf (fun b h=>(hb b h).1) hLb) h60 nx nth nab fr R';have nmS:nm≠S:=ZT hnm hS;have ow:=r.own ap;have hnm':=fr _ _ nmS (ZT hnm r.sh.sh.kept) (fun b hb=>by
   obtain ⟨dx,hx⟩:=(r.sh.tw b hb).tw.self;exact ⟨ZT hnm hx,(ow b hb).1.symm⟩) hnm
  refine ⟨nm,nl,_,rfl,rfl,hnm',XG (by lia),?_⟩
  exact fin _ _ _ (r'.but ap rfl hnm' (ZE.upd (ZE.refl nm H')) ZO) ZO
end
structure Nh(ts:List ZR)(av:Nat->List Nat)(ho:Nat->Nat)(ns:List Nat)(h:Nat)(rs:List Z5):Prop where
 nd:ns.Nodup
 at_:∀ b∈ns,b<ts.length/\(gd ts b).h=h/\ho b=1/\av b=[]
 rows:Zr ts ns=rs
def Ov(gt:List KT)(jg jh:Addr)(H1:Hp)(S d lk:Addr)(ls:je)(jm:List ZR)(jC:List YA)(nm:Addr)(Ts:List ZR)(qs:List (List Nat))(i:Nat)(H:Hp):Prop:=
 ∃(av:Nat->List Nat)(ho:Nat->Nat)(as:List YA)(kvs:List (Zd×V)),YQ gt jg jh (· = nm) H1 H S d lk ls jm jC (jm++Ts.take i) av ho as kvs/\H nm=some (.lst (iN (zBN jm.length i)))/\(∀ b,jm.length<=b->b<jm.length+i->ho b=1/\av b=[])/\∀ b∈(qs.drop i).flatten,ho b=1/\av b=[]
theorem JH(n i:Nat):iN (zBN n i)++[V.int ((n+i:Nat):Int)]=iN (zBN n (i+1)):=by
 rw [List.range'_1_concat];simp [iN]
theorem GP{α:Type}{l:List α}{i:Nat}{x:α}(h:l[i]? = some x):l.take (i+1)=l.take i++[x]:=by rw [zAi,h];rfl
theorem ZMo{α:Type}{l:List α}{i:Nat}{x:α}(h:l[i]? = some x):l.drop i=x :: l.drop (i+1):=by
 obtain ⟨hi,e⟩:=zAK.mp h;rw [<-e,<-zBk hi]
theorem Fj{ts L:List ZR}{bs:List Nat}(hb:∀ b∈bs,b<ts.length)(h0:0<bs.length):Xg (ts++L) bs=Xg ts bs/\Y6 (ts++L) bs=Y6 ts bs:=by
 have e1:bs.getD 0 0∈bs:=by rw [zAC,zAE h0];exact zAy _
 refine ⟨?_,?_⟩
 ·unfold Xg Zr;rw [MQ (hb _ e1)]
  congr 1
  rw [zB4,zB4]
  congr 1
  exact zCf fun b h=>by rw [MQ (hb b h)]
 ·unfold Y6;exact zCf fun b h=>by rw [MQ (hb b h)]
theorem IW{α:Type}{l m:List α}{i:Nat}(h:i<=m.length):(l++m.take i).length=l.length+i:=by simp;lia
section
variable{P:Program}{w:World}{K:zAA}{mg:jb}{base:Heap}{f:Addr}{fd:FuncData}{cdv:Value}{A:Around}{outer:List Env}{s:Shared}{Hs:Hp}{E:XK}{jg jh:Addr}
theorem BY{gt:List KT}(L:Y7 K mg jg jh)(hr:ZY 10 (A.deeper (envOfC "_law_plant" (Ze U9) s.heap.objs.size f cdv)))(DS:ZJ P w K mg base ZW 10 jg "put_stem" ["self","numbers"] (Z4 gt jg jh))(DL:ZJ P w K mg base ZW 10 jg "put_leaf" ["self","rows"] (YU jg jh)):
  ∃ t,X5 (WB ZW P w K mg base Ox "_law_plant" (Ze U9) f cdv A outer s Hs E).nox Id t /\
  ∀(Ha H1:Hp)(S d lk nm:Addr)(jm:List ZR)(jC:List YA)(av:Nat->List Nat)(ho:Nat->Nat)(kvs:List (Zd×V))(ls us pl:je)(jk:List (je))(rs:List Z5)(hN:Nat)(stem back:Bool)(N:Addr->Prop),
   YY jg jh Ha S d lk jm av ho jC kvs ls->YY jg jh H1 S d lk jm av ho jC kvs ls->WN H1 lk jm jC nm->Ha nm≠none->WF gt jm->(∀ i,i<jm.length->QG (gd jm i))->(∀ b,¬ N b->Ha b=none)->jm.length<=600->us.length<=60->rs.length<=60->hN<=60 ->
   Paired (Yc N H1) jk pl->jk.flatten=us->(∀ ps∈jk,Px stem ps.length)->(∀ r∈rs,r.fit)->Yg (rs.map (·.1))->H1 nm=some (.lst []) ->
   ((stem=false/\KeysAt H1 (Z6 rs) us/\hN=0)\/(stem=true/\∃ ns h,us=iN ns/\Nh jm av ho ns h rs/\hN=h+1)) ->
   ∃(Ts:List ZR)(qs:List (List Nat)),Ts.length=pl.length/\(∀ t∈Ts,t.h=hN)/\((YL back Ts).map (·.rows)).flatten=rs/\Ov gt jg jh H1 S d lk ls jm jC nm Ts qs 0 H1 /\
    ∀ i u,(YL back pl)[i]? = some u->∀(D0:Ym)(H:Hp)(x0 x2 x3 x4 x5 x8:jf),Ov gt jg jh H1 S d lk ls jm jC nm Ts qs i H->(∀ H',Ov gt jg jh H1 S d lk ls jm jC nm Ts qs (i+1) H'->D0.nx [x0,some (.ref S),x2,x3,x4,x5,some (.bl stem),some (.ref nm),x8,some u] H') ->
     t D0 [x0,some (.ref S),x2,x3,x4,x5,some (.bl stem),some (.ref nm),x8,some u] H:=by
 obtain ⟨t,ht,hleaf,hstem⟩:=CD (P:=P) (w:=w) (K:=K) (mg:=mg) (base:=base) (f:=f) (cdv:=cdv) (A:=A) (outer:=outer) (s:=s) (Hs:=Hs) (E:=E) L hr DS DL;refine ⟨t,ht,fun Ha H1 S d lk nm jm jC av ho kvs ls us pl jk rs hN stem back N Ra R1 ap nma hw hs hNf t6 l60 r60 h60 prt flat size frs ris hnm lev=>?_⟩;have stay:∀{q:Addr}{o:HO}{H:Hp}{ts:List ZR}{av:Nat->List Nat}{ho:Nat->Nat}{as:List YA}{kvs:List (Zd×V)},¬ N q->H1 q=some o->YQ gt jg jh (· = nm) H1 H S d lk ls jm jC ts av ho as kvs->H q=some o:=fun{q o H ts av ho as kvs} nq e r=>by
  have nq:=hNf q nq;obtain ⟨⟨dS,hS⟩,hd,_⟩:=Ra.sh;refine r.fr q o (fun z=>nma (z ▸ nq)) (Zb hS nq).symm (Zb hd nq).symm (fun b hb=>?_) e;obtain ⟨dx,hx⟩:=(Ra.tw b hb).tw.self;exact ⟨(Zb hx nq).symm,(Zb (Ra.tw b hb).tw.above nq).symm⟩
 have tup:∀{H:Hp}{ts:List ZR}{av:Nat->List Nat}{ho:Nat->Nat}{as:List YA}{kvs:List (Zd×V)},YQ gt jg jh (· = nm) H1 H S d lk ls jm jC ts av ho as kvs->Z2 H1 H:=fun r=>r.tups R1 fun c z=>⟨[],by rw [z];exact hnm⟩
 have lpl:pl.length=jk.length:=prt.length.symm;rcases lev with ⟨rfl,hk,rfl⟩ | ⟨rfl,ns,h,rfl,lv,rfl⟩
 ·rw [<-flat] at hk;obtain ⟨jo,e1,e2⟩:=Iz jk rs hk;have lq:jo.length=jk.length:=e2.length;have few:=Nd (n:=1) jk fun ps h=>(size ps h).1;rw [flat] at few;refine ⟨YL back (jo.map Vx),[],by rw [Pf,zAD];lia,fun x hx=>?_,?_,?_,?_⟩
  ·obtain ⟨q,_,rfl⟩:=zAf.mp (Z9.mp hx);rfl
  ·rw [Hn,zCG,<-e1]
   congr 1
   exact List.map_id' jo
  ·refine ⟨av,ho,jC,kvs,?_,hnm,fun b h1 h2=>absurd h2 (by lia),fun b hb=>by simp at hb⟩
   rw [zDG,zAo];exact YQ.refl R1 hw hs
  ·intro i u hu D0 H x0 x2 x3 x4 x5 x8 hJ fin;obtain ⟨av',ho',as',kvs',r,hn,hh,_⟩:=hJ;obtain ⟨ps,ep,q,rfl,hq,nq⟩:=Paired.ixR (M9 back prt) hu;obtain ⟨rq,er,kq⟩:=Paired.ixR (M9 back e2) ep;have mq:rq∈jo:=Z9.mp (zAJ er);have mp:ps∈jk:=Z9.mp (zAJ ep);have lk':rq.length=ps.length:=by
    have:=kq.length;unfold Z6 at this
    rwa [zAD] at this
   have sub:rq.Sublist rs:=e1 ▸ Bg mq;have G:Qj rq:=Eh frs ris sub (by have:=(size ps mp).1;rw [lk'];exact this) (by have:=(size ps mp).2;rw [lk'];exact this)
   have eT:(YL back (jo.map Vx))[i]? = some (Vx rq):=by rw [<-OS,zAN,er];rfl
   have hi:i<(YL back (jo.map Vx)).length:=(zAK.mp eT).1;have ll:(YL back (jo.map Vx)).length=jk.length:=by rw [Pf,zAD];lia
   have el:(jm++(YL back (jo.map Vx)).take i).length=jm.length+i:=IW (by lia)
   refine hleaf D0 H1 H S d lk nm q x0 x2 x3 x4 x5 x8 jm _ jC as' av' ho' kvs' ls _ ps rq r (by rw [el];lia) ap hn (by simp [iN];lia) (stay nq hq r) (kq.mono (tup r) _ _) G fun H' as'' kvs'' r' hn'=>?_
   rw [zCJ,<-GP eT] at r';rw [el] at r' hn';rw [JH] at hn';refine fin H' ⟨_,_,_,_,r',hn',fun b b1 b2=>?_,fun b hb=>by simp at hb⟩
   unfold Ua Uz;by_cases z:b=jm.length+i
   ·rw [if_pos z,if_pos z];exact ⟨rfl,rfl⟩
   ·rw [if_neg z,if_neg z];exact hh b b1 (by lia)
 ·obtain ⟨jo,e1,e2⟩:=Ij (fun b:Nat=>V.int (b:Nat)) jk ns flat;subst e1;have sz:∀ q∈jo,2<=q.length/\q.length<=4:=fun q hq=>by
   have:=size (iN q) (zAf.mpr ⟨q,hq,rfl⟩);unfold Px iN at this;rw [zAD] at this;exact this
  have few:=Nd (n:=2) jo fun q h=>(sz q h).1;have lns:(iN ns).length=ns.length:=zAD _;rw [e2] at few;have inn:∀ q∈jo,∀ b∈q,b∈ns:=fun q hq b hb=>by rw [<-e2];exact zCt.mpr ⟨q,hq,hb⟩
  have ndq:(YL back jo).flatten.Nodup:=ZDN (by rw [e2];exact lv.nd)
  refine ⟨YL back (jo.map (Xg jm)),YL back jo,by rw [Pf,zAD,lpl,zAD],fun x hx=>?_,?_,?_,?_⟩
  ·obtain ⟨q,hq,rfl⟩:=zAf.mp (Z9.mp hx);have h2:=(sz q hq).1;have m0:q.getD 0 0∈q:=by rw [zAC,zAE (show 0<q.length by lia)];exact zAy _
   show (gd jm (q.getD 0 0)).h+1=h+1;rw [(lv.at_ _ (inn q hq _ m0)).2.1]
  ·rw [Hn,zCG,<-lv.rows,<-e2,N3,zB4];rfl
  ·refine ⟨av,ho,jC,kvs,?_,hnm,fun b h1 h2=>absurd h2 (by lia),fun b hb=>?_⟩
   ·rw [zDG,zAo];exact YQ.refl R1 hw hs
   ·rw [List.drop_zero] at hb;obtain ⟨q,hq,hb⟩:=zCt.mp hb;exact (lv.at_ b (inn q (Z9.mp hq) b hb)).2.2
  ·intro i u hu D0 H x0 x2 x3 x4 x5 x8 hJ fin;obtain ⟨av',ho',as',kvs',r,hn,hh,hdr⟩:=hJ;obtain ⟨ps,ep,q,rfl,hq,nq⟩:=Paired.ixR (M9 back prt) hu;rw [<-OS,zAN] at ep;obtain ⟨bs,eb,rfl⟩:=zAt.mp ep;have mq:bs∈jo:=Z9.mp (zAJ eb);have hb:∀ b∈bs,b<jm.length:=fun b h=>(lv.at_ b (inn bs mq b h)).1;obtain ⟨b2,b4⟩:=sz bs mq;obtain ⟨sT,lT⟩:=Fj (L:=(YL back (jo.map (Xg jm))).take i) hb (by lia)
   have sub':(Zr jm bs).Sublist rs:=by
    rw [<-lv.rows,<-e2,N3,zB4];exact zC9 (zAf.mpr ⟨bs,mq,rfl⟩)
   have ris':Yg ((Zr jm bs).map (·.1)):=Yg.sub ris (sub'.map _);obtain ⟨Lb,hLb⟩:=ZIZ hw (h:=h) (fun b hb'=>⟨hb b hb',(lv.at_ b (inn bs mq b hb')).2.1⟩) b2 b4 ris';have eT:(YL back (jo.map (Xg jm)))[i]? = some (Xg jm bs):=by rw [<-OS,zAN,eb];rfl
   have hi:i<(YL back (jo.map (Xg jm))).length:=(zAK.mp eT).1;have ll:(YL back (jo.map (Xg jm))).length=jo.length:=by rw [Pf,zAD]
   have el:(jm++(YL back (jo.map (Xg jm))).take i).length=jm.length+i:=IW (by lia)
   have ed:((YL back jo).drop i).flatten=bs++((YL back jo).drop (i+1)).flatten:=by rw [ZMo eb,zBV]
   have nd2:(bs++((YL back jo).drop (i+1)).flatten).Nodup:=by
    rw [<-ed];have e:(YL back jo).flatten=((YL back jo).take i).flatten++((YL back jo).drop i).flatten:=by rw [<-List.flatten_append,zBG]
    rw [e] at ndq;exact (zB0.mp ndq).2.1
   have m0:bs.getD 0 0∈bs:=by rw [zAC,zAE (show 0<bs.length by lia)];exact zAy _
   refine hstem D0 H1 H S d lk nm q x0 x2 x3 x4 x5 x8 jm _ jC as' av' ho' kvs' ls _ bs Lb r (by rw [el];lia) ap hn (by simp [iN];lia) (stay nq hq r) (fun b hb'=>⟨by rw [el];have:=hb b hb';lia,hdr b (by rw [ed];exact zAz _ hb')⟩) (by rw [lT];exact hLb) (by rw [sT];refine ⟨?_,zAv sub'.length_le r60⟩;show (gd jm (bs.getD 0 0)).h+1<=60;rw [(lv.at_ _ (inn bs mq _ m0)).2.1];exact h60) fun H' as'' kvs'' r' hn'=>?_
   rw [sT,zCJ,<-GP eT] at r';rw [el] at r' hn';rw [JH] at hn';refine fin H' ⟨_,_,_,_,r',hn',fun b c1 c2=>?_,fun b hb'=>?_⟩
   ·have nb:b∉bs:=fun z=>by have:=hb b z;lia
    unfold Uq Us Ua Uz;rw [if_neg nb,if_neg nb];by_cases z:b=jm.length+i
    ·rw [if_pos z,if_pos z];exact ⟨rfl,rfl⟩
    ·rw [if_neg z,if_neg z];exact hh b c1 (by lia)
   ·have nb:b∉bs:=fun z=>(zB0.mp nd2).2.2 b z b hb' rfl;have bl:b<jm.length:=by
     obtain ⟨q',hq',hb''⟩:=zCt.mp hb';exact (lv.at_ b (inn q' (Z9.mp (List.mem_of_mem_drop hq')) b hb'')).1
    unfold Uq Us Ua Uz;rw [if_neg nb,if_neg nb,if_neg (by lia),if_neg (by lia)]
    exact hdr b (by rw [ed];exact zAc _ hb')
end
theorem Io(x y:V)(back:Bool):Xq [x,y] (if back=true then 1 else 0)=some (if back=true then y else x):=by
 cases back
 ·exact Yz (j:=0) rfl
 ·exact Yz (j:=1) rfl
section
variable{P:Program}{w:World}{K:zAA}{mg:jb}{base:Heap}{f:Addr}{fd:FuncData}{cdv:Value}{A:Around}{outer:List Env}{s:Shared}{Hs:Hp}{E:XK}{jg jh:Addr}
theorem Dz{gt:List KT}(T:YG mg)(L:Y7 K mg jg jh)(hr:ZY 10 (A.deeper (envOfC "_law_plant" (Ze U9) s.heap.objs.size f cdv)))(DC:ZA P w K mg base 2 "_law_cut" ["_law_well_here","_law_things","_law_few","_law_stem"] Vp)(DS:ZJ P w K mg base ZW 10 jg "put_stem" ["self","numbers"] (Z4 gt jg jh))(DL:ZJ P w K mg base ZW 10 jg "put_leaf" ["self","rows"] (YU jg jh)):
  ∃ t,X5 (WB ZW P w K mg base Ox "_law_plant" (Ze U9) f cdv A outer s Hs E).nox GV t /\
  ∀(D0:Ym)(H:Hp)(p S d lk lv:Addr)(fw:Int)(back stem:Bool)(x2 x7 x8 x9:jf)(ts:List ZR)(as:List YA)(av:Nat->List Nat)(ho:Nat->Nat)(kvs:List (Zd×V))(ls us:je)(rs:List Z5)(hN:Nat),
   ZI H p->YY jg jh H S d lk ts av ho as kvs ls->WN H lk ts as p->WF gt ts->(∀ i,i<ts.length->QG (gd ts i))->ts.length<=600->0<=fw->fw<4->H lv=some (.lst us)->lv≠p->us.length<=60->rs.length<=60->hN<=60->(∀ r∈rs,r.fit)->Yg (rs.map (·.1)) ->
   ((stem=false/\KeysAt H (Z6 rs) us/\hN=0)\/(stem=true/\us.length≠1/\∃ ns h,us=iN ns/\Nh ts av ho ns h rs/\hN=h+1)) ->
   (∀(H':Hp)(ts':List ZR)(av':Nat->List Nat)(ho':Nat->Nat)(as':List YA)(kvs':List (Zd×V))(lv':Addr)(ns':List Nat)(y7 y8 y9:jf),YQ gt jg jh (· = p) H H' S d lk ls ts as ts' av' ho' as' kvs'->ZI H' p->H' lv'=some (.lst (iN ns'))->lv'≠p->Nh ts' av' ho' ns' hN rs->ts'.length=ts.length+ns'.length->(if stem=true then 2 else 1) * ns'.length<=us.length ->
    D0.nx [some (.ref p),some (.ref S),x2,some (.int fw),some (.bl back),some (.ref lv'),some (.bl true),y7,y8,y9] H') ->
   t D0 [some (.ref p),some (.ref S),x2,some (.int fw),some (.bl back),some (.ref lv),some (.bl stem),x7,x8,x9] H:=by
 have nd:=Xn.nd;obtain ⟨t,ht,hJ⟩:=BY (P:=P) (w:=w) (K:=K) (mg:=mg) (base:=base) (f:=f) (cdv:=cdv) (A:=A) (outer:=outer) (s:=s) (Hs:=Hs) (E:=E) L hr DS DL;have hr2:=hr.mono (show 2<=10 by decide)
 refine ⟨_,ZQ (Zk 7 nd (Yn ZG))
  (ZQ (Zk 8 nd (Zh DC hr2 (Vd (pv 0) (pv 5) (pv 3) (pv 6))))
  (ZQ (Ud PassesOwn.never rfl (VO (Zl (r:=YB K) YD (Yn (ZF (pv 8) (ZF (Jc (pv 8) (QX Qg ZM)) ZG))) (VP P4 rfl T.int QA (ZF (pv 4) ZG)) (fun _ _=>rfl))) (WT 9 nd) ht)
  (ZQ (Zk 5 nd (Zl (r:=YB K) YD (Yn (ZF (pv 7) (ZF (Jc (pv 7) (QX Qg ZM)) ZG))) (VP P4 rfl T.int QA (ZF (pv 4) ZG)) (fun _ _=>rfl)))
  (ZU (Zk 6 nd XT))))),?_⟩
 intro D0 H p S d lk lv fw back stem x2 x7 x8 x9 ts as av ho kvs ls us rs hN W R app hw hs t6 f0 f4 hlv lvp l60 r60 h60 frs ris lev fin;refine ⟨nn (zAB rfl),fun nm nnm=>?_⟩;have g1:=ZX nnm (.lst []);have hnm:=ZO (H:=H) (a:=nm) (o:=.lst []);generalize upd H nm (.lst [])=Ha at g1 hnm ⊢;have Wa:=W.same g1;refine ⟨_,rfl,_,rfl,_,rfl,_,rfl,p,lv,us,fw,stem,rfl,Wa,g1 _ _ hlv,lvp,f0,f4,by lia,fun z=>?_,fun D pl jk Hb nD hD prt flat size l104 Wb sab=>?_⟩
 ·rcases lev with ⟨z',_⟩ | ⟨_,z',_⟩
  ·rw [z] at z';cases z'
  ·exact z'
 have Dnm:D≠nm:=fun z=>by rw [z,hnm] at nD;cases nD
 refine ⟨_,rfl,_,rfl,1,rfl,D,pl,rfl,rfl,ZL.of hD,fun q1 n1=>⟨nn (zAB rfl),fun q2 n2=>?_⟩⟩;have g2:=ZX n1 (.lst pl.reverse);have g3:=ZX n2 (.lst [.ref D,.ref q1]);have eq1:=g3 _ _ (ZO (H:=Hb) (a:=q1) (o:=.lst pl.reverse));have eq2:=ZO (H:=upd Hb q1 (.lst pl.reverse)) (a:=q2) (o:=.lst [.ref D,.ref q1]);have g23:=g2.trans g3;generalize upd (upd Hb q1 (.lst pl.reverse)) q2 (.lst [.ref D,.ref q1])=H1 at g23 eq1 eq2 ⊢;refine ⟨_,rfl,.inr ⟨back,rfl,.inl ⟨q2,_,_,_,rfl,rfl,ZL.of eq2,Io _ _ _,?_⟩⟩⟩;have hI:∃ I,(if back=true then V.ref q1 else V.ref D)=.ref I/\H1 I=some (.lst (YL back pl))/\Ha I=none:=by
  cases back
  ·exact ⟨D,rfl,g23 _ _ hD,nD⟩
  ·exact ⟨q1,rfl,eq1,Ou sab Wb n1⟩
 obtain ⟨I,eI,hI1,nI⟩:=hI;rw [eI];have Ra:=R.same g1;obtain ⟨pw,hp⟩:=W.some;have hpa:=g1 _ _ hp;obtain ⟨pwb,hpb⟩:=Wb.some;have rA:YQ gt jg jh (· = p) H Ha S d lk ls ts as ts av ho as kvs:=(YQ.refl R hw hs).same g1;have rB:=rA.but app rfl hpa sab hpb;have rC:=rB.same g23;have nmp:nm≠p:=V5 W nnm;have hnm1:=g23 _ _ (sab _ _ hnm nmp);have apn:WN H1 lk ts as nm:=Pw R nnm hnm1;have tHH1:Z2 H H1:=rC.tups R fun c z=>by rw [z];exact app.at_
 obtain ⟨Ts,qs,lT,hT,rT,J0,stp⟩:=hJ Ha H1 S d lk nm ts as av ho kvs ls us pl jk rs hN stem back (NB Ha p D) Ra rC.sh apn (by rw [hnm];exact fun z=>nomatch z) hw hs (fun b nb=>by
   cases z:Ha b with
   | none=>rfl
   | some o=>exact absurd (.inr (.inr (by rw [z];exact fun z=>nomatch z))) nb) t6 l60 r60 h60 (Paired.mapP prt fun _ _ z=>Yc.go z fun b o e n=>g23 b o e) flat size frs ris hnm1 (lev.imp (fun ⟨a,b,c⟩=>⟨a,b.mono tHH1 _ _,c⟩) fun ⟨a,_,c⟩=>⟨a,c⟩)
 have stayI:∀{H:Hp}{ts':List ZR}{av:Nat->List Nat}{ho:Nat->Nat}{as':List YA}{kvs:List (Zd×V)},YQ gt jg jh (· = nm) H1 H S d lk ls ts as ts' av ho as' kvs->H I=some (.lst (YL back pl)):=fun r=>by
  obtain ⟨⟨dS,hS⟩,hd,_⟩:=Ra.sh;refine r.fr I _ (Zb hnm nI).symm (Zb hS nI).symm (Zb hd nI).symm (fun b hb=>?_) hI1;obtain ⟨dx,hx⟩:=(Ra.tw b hb).tw.self;exact ⟨(Zb hx nI).symm,(Zb (Ra.tw b hb).tw.above nI).symm⟩
 have lord:(YL back pl).length=Ts.length:=by rw [Pf,lT]
 refine ⟨I,rfl,⟨_,ZL.of hI1⟩,OD (K:=K) (a:=I) (xs:=YL back pl) (fun i σ H'=>∃ x9':jf,σ=[some (.ref p),some (.ref S),x2,some (.int fw),some (.bl back),some (.ref lv),some (.bl stem),some (.ref nm),some (.ref D),x9']/\Ov gt jg jh H1 S d lk ls ts as nm Ts qs i H')
  ⟨_,rfl,J0⟩ (fun i σ H' _ hP=>by obtain ⟨_,_,_,_,_,_,r,_⟩:=hP;exact ZL.of (stayI r)) ?_ ?_⟩
 ·rintro i u σ H2 hu ⟨x9',rfl,j⟩;exact stp i u hu _ H2 _ _ _ _ _ _ j fun H' j'=>⟨_,rfl,j'⟩
 ·rintro σ H2 ⟨x9',rfl,j⟩;rw [lord] at j;obtain ⟨av',ho',as',kvs',r,hn,hh,_⟩:=j;rw [zAS (zAH _)] at r;have few:(if stem=true then 2 else 1) * Ts.length<=us.length:=by
   have:=Nd (n:=if stem=true then 2 else 1) jk fun ps h=>(size ps h).1
   rw [flat] at this;have e:Ts.length=jk.length:=by rw [lT];exact prt.length.symm
   rw [e];exact this
  have lT60:Ts.length<=60:=by
   split at few <;> lia
  refine ⟨_,rfl,_,rfl,1,rfl,nm,_,rfl,rfl,ZL.of hn,fun q3 n3=>⟨nn (zAB rfl),fun q4 n4=>?_⟩⟩;have g4:=ZX n3 (.lst (iN (zBN ts.length Ts.length)).reverse);have g5:=ZX n4 (.lst [.ref nm,.ref q3]);have eq3:=g5 _ _ (ZO (H:=H2) (a:=q3) (o:=.lst (iN (zBN ts.length Ts.length)).reverse));have eq4:=ZO (H:=upd H2 q3 (.lst (iN (zBN ts.length Ts.length)).reverse)) (a:=q4) (o:=.lst [.ref nm,.ref q3]);have g45:=g4.trans g5;generalize upd (upd H2 q3 (.lst (iN (zBN ts.length Ts.length)).reverse)) q4 (.lst [.ref nm,.ref q3])=H3 at g45 eq3 eq4 ⊢;refine ⟨_,rfl,.inr ⟨back,rfl,.inl ⟨q4,_,_,_,rfl,rfl,ZL.of eq4,Io _ _ _,?_⟩⟩⟩;obtain ⟨⟨dS,hS⟩,hd,_⟩:=R.sh;obtain ⟨pw1,hp1⟩:=(Wb.same g23).some;have W2:ZI H2 p:=Q5 (Wb.same g23) fun o e=>r.fr p o (Ne.symm nmp) (ZT hp hS) (ZT hp hd) (fun b hb=>by
   obtain ⟨dx,hx⟩:=(R.tw b hb).tw.self;exact ⟨ZT hp hx,(app.own b hb).1.symm⟩) e
  have hL:∃ l',(if back=true then V.ref q3 else V.ref nm)=.ref l'/\H3 l'=some (.lst (iN (YL back (zBN ts.length Ts.length))))/\l'≠p:=by
   cases back
   ·exact ⟨nm,rfl,g45 _ _ hn,nmp⟩
   ·refine ⟨q3,rfl,?_,V5 W2 n3⟩;rw [eq3];unfold iN YL;rw [if_pos rfl,List.map_reverse]
  obtain ⟨l',el,hl',l'p⟩:=hL;rw [el];have rF:YQ gt jg jh (· = p) H H3 S d lk ls ts as (ts++Ts) av' ho' as' kvs':=(rC.trans r fun c z=>.inl (by rw [z];exact nnm)).same g45
  have ln:(YL back (zBN ts.length Ts.length)).length=Ts.length:=by rw [Pf,List.length_range']
  refine fin H3 (ts++Ts) av' ho' as' kvs' l' (YL back (zBN ts.length Ts.length)) _ _ _ rF (W2.same g45) hl' l'p ⟨Fw (List.nodup_range'),fun b hb=>?_,?_⟩ (by rw [ln,zAG]) (by rw [ln];exact few)
  ·have hb:=Z9.mp hb;have h1:=List.mem_range'_1.mp hb;refine ⟨by rw [zAG];lia,hT _ (ZMx hb),hh b h1.1 h1.2⟩
  ·rw [F7];exact rT
end
section
variable{P:Program}{w:World}{K:zAA}{mg:jb}{base:Heap}{f:Addr}{fd:FuncData}{jg jh:Addr}
inductive Wn(gt:List KT)(jg jh:Addr)(vs:je)(H:Hp)(Q:VK)(_:XK):Prop
 | mk (p S d lk l:Addr) (ts:List ZR) (av:Nat->List Nat) (ho:Nat->Nat) (as:List YA) (kvs:List (Zd×V)) (ls us:je) (rs:List Z5) (_:vs=[.ref p,.ref S,.ref l]) (_:ZI H p) (_:YY jg jh H S d lk ts av ho as kvs ls) (_:WN H lk ts as p) (_:WF gt ts) (_:∀ i,i<ts.length->QG (gd ts i)) (_:ts.length<=400) (_:H l=some (.lst us)) (_:l≠p) (_:KeysAt H (Z6 rs) us) (_:∀ r∈rs,r.fit) (_:Yg (rs.map (·.1))) (_:rs.length<=60) (_:∀(H':Hp)(ts':List ZR)(av':Nat->List Nat)(ho':Nat->Nat)(as':List YA)(kvs':List (Zd×V))(rn:Option Nat),YQ gt jg jh (· = p) H H' S d lk ls ts as ts' av' ho' as' kvs'->ZI H' p->ts'.length<=ts.length+120->(∀ i,rn=some i->i<ts'.length)->Q (YK (Z8 rn)) H')
def KN(gt:List KT)(jg jh:Addr)(H:Hp)(p S d lk:Addr)(ls:je)(ts:List ZR)(as:List YA)(rs:List Z5)(stem:Bool)(m:Nat)(lv:Addr)(us:je)(H':Hp):Prop:=
 ∃(ts':List ZR)(av':Nat->List Nat)(ho':Nat->Nat)(as':List YA)(kvs':List (Zd×V)),YQ gt jg jh (· = p) H H' S d lk ls ts as ts' av' ho' as' kvs'/\ZI H' p/\H' lv=some (.lst us)/\lv≠p/\us.length<=60 /\
  ((stem=false/\m=us.length+1/\KeysAt H' (Z6 rs) us/\ts'.length=ts.length)\/(stem=true/\m=us.length/\∃ ns h,us=iN ns/\Nh ts' av' ho' ns h rs/\h+ns.length<=61/\ts'.length+ns.length<=ts.length+120))
theorem AR{gt:List KT}(F0:Zj K "_law_plant" "_law_plant" U9 f fd)(T:YG mg)(L:Y7 K mg jg jh)(DP:ZA P w K mg base 1 "_law_pull" ["_law_well_here","_law_many"] Zp)(DC:ZA P w K mg base 2 "_law_cut" ["_law_well_here","_law_things","_law_few","_law_stem"] Vp)(DS:ZJ P w K mg base ZW 10 jg "put_stem" ["self","numbers"] (Z4 gt jg jh))(DL:ZJ P w K mg base ZW 10 jg "put_leaf" ["self","rows"] (YU jg jh)):
  ZK P w K mg base ZW 11 f fd ["_law_well_here","_law_shelf","_law_rows"] (Wn gt jg jh):=by
 refine F0.ok Xn (fun vs H Q E h=>(by obtain ⟨_,_,_,_,_,_,_,_,_,_,_,_,_,rfl,_⟩:=h;rfl)) (fun cdv A outer s H vs Q E hr h=>?_)
 obtain ⟨p,S,d,lk,l,ts,av,ho,as,kvs,ls,us,rs,rfl,W,R,app,hw,hs,t4,hl,lp,hk,frs,ris,r60,k⟩:=h;have nd:=Xn.nd;have hr1:=hr.mono (show 1<=10 by decide)
 obtain ⟨t,ht,hW⟩:=Dz (P:=P) (w:=w) (K:=K) (mg:=mg) (base:=base) (f:=f) (cdv:=cdv) (A:=A) (outer:=outer) (s:=s) (Hs:=H) (E:=E) T L hr DC DS DL;refine ⟨_,ZQ (Zk 3 nd (Zh DP hr1 (ZF (pv 0) (ZF ZM ZG))))
  (ZQ (Zk 4 nd (Wz Wy (Zh DP hr1 (ZF (pv 0) (ZF ZM ZG))) ZM (YE _)))
  (ZQ (Zk 5 nd (VP PD rfl T.list Qi (ZF (pv 2) ZG)))
  (ZQ (Zk 6 nd XT)
  (ZQ (Ql PassesOwn.never (PW.pt (Pc (Y3 Qb (Zy Xh rfl T.len XY (ZF (pv 5) ZG)) ZM (YE _)) (Pu (PW.pt (O1 (Y3 (LB hr.units0) (pv 5) (Yn ZG) (YE _)) (NV (Vh (XH (pv 6))))))))) ht)
  (ZU (Zg (Zl (r:=YB K) YD (Zv O8 (pv 5) (Yn (ZF Nf ZG))) ZM (fun _ _=>rfl)))))))),?_⟩
 obtain ⟨⟨dS,hS⟩,hd,_⟩:=R.sh;obtain ⟨pw,hp⟩:=W.some;refine ⟨_,rfl,p,4,rfl,W,XI (by decide) (by decide),fun fw H1 f0 f4 W1 s1=>?_⟩
 refine ⟨_,rfl,p,2,rfl,W1,XI (by decide) (by decide),fun bk H2 b0 b1 W2 s2=>?_⟩
 have s02:=s1.trans s2;obtain ⟨pw2,hp2⟩:=W2.some;have r0:YQ gt jg jh (· = p) H H2 S d lk ls ts as ts av ho as kvs:=(YQ.refl R hw hs).but app rfl hp s02 hp2;have t02:=s02.tupsW W;refine ⟨rfl,?_⟩;refine ⟨_,rfl,l,us,rfl,.inl (ZL.of (s02 _ _ hl lp)),fun lv nlv=>?_⟩;have g3:=ZX nlv (.lst us);have elv:=ZO (H:=H2) (a:=lv) (o:=.lst us);generalize upd H2 lv (.lst us)=H3 at g3 elv ⊢;generalize decide (V.int bk=V.int 1)=back;have lus:us.length=rs.length:=by
  have:=hk.length;unfold Z6 at this;rw [zAD] at this;exact this.symm
 have I0:KN gt jg jh H p S d lk ls ts as rs false (us.length+1) lv us H3:=⟨ts,av,ho,as,kvs,r0.same g3,W2.same g3,elv,V5 W2 nlv,by lia,.inl ⟨rfl,rfl,(hk.mono t02 _ _).mono (ZB.tups g3) _ _,rfl⟩⟩
 refine ⟨fun m σ H'=>∃(stem:Bool)(lv:Addr)(us:je)(x7 x8 x9:jf),σ=[some (.ref p),some (.ref S),some (.ref l),some (.int fw),some (.bl back),some (.ref lv),some (.bl stem),x7,x8,x9]/\KN gt jg jh H p S d lk ls ts as rs stem m lv us H',⟨_,false,lv,us,none,none,none,rfl,I0⟩,?_⟩;rintro m σ H4 ⟨stem,lv,us,x7,x8,x9,rfl,ts',av',ho',as',kvs',r,W4,hlv,lvp,l60,cs⟩;have same5:∀{H5:Hp},ZB H4 H5->YQ gt jg jh (· = p) H H5 S d lk ls ts as ts' av' ho' as' kvs'/\ZI H5 p/\H5 lv=some (.lst us):=fun g=>⟨r.same g,W4.same g,g _ _ hlv⟩;have go:∀{D0:Ym}{H5:Hp},ZB H4 H5->(stem=true->2<=us.length)->(∀ σ' H',(∃ m',m'<m/\∃(stem:Bool)(lv:Addr)(us:je)(x7 x8 x9:jf),σ'=[some (.ref p),some (.ref S),some (.ref l),some (.int fw),some (.bl back),some (.ref lv),some (.bl stem),x7,x8,x9]/\KN gt jg jh H p S d lk ls ts as rs stem m' lv us H')->D0.nx σ' H') ->
   t D0 [some (.ref p),some (.ref S),some (.ref l),some (.int fw),some (.bl back),some (.ref lv),some (.bl stem),x7,x8,x9] H5:=fun{D0 H5} g h2 fin=>by
  obtain ⟨r5,W5,hlv5⟩:=same5 g;obtain ⟨pw5,hp5⟩:=W5.some;have ap5:WN H5 lk ts' as' p:=⟨⟨pw5,hp5⟩,app.lk,r5.own app⟩;have t5:Z2 H4 H5:=ZB.tups g;rcases cs with ⟨rfl,rfl,hk4,lt⟩ | ⟨rfl,rfl,ns,h,rfl,lv',h61,l120⟩
  ·refine hW D0 H5 p S d lk lv fw back false _ x7 x8 x9 ts' as' av' ho' kvs' ls us rs 0 W5 r5.sh ap5 r5.wf r5.hs (by lia) f0 f4 hlv5 lvp l60 r60 (zAk _) frs ris (.inl ⟨rfl,hk4.mono t5 _ _,rfl⟩) fun H' ts2 av2 ho2 as2 kvs2 lv2 ns2 y7 y8 y9 r6 W6 hlv6 lvp6 lvi e6 few=>?_
   have few:1 * ns2.length<=us.length:=few;have ln:(iN ns2).length=ns2.length:=zAD _;exact fin _ _ ⟨(iN ns2).length,by lia,true,lv2,iN ns2,y7,y8,y9,rfl,ts2,av2,ho2,as2,kvs2,r5.trans r6 (fun c z=>.inr z),W6,hlv6,lvp6,by lia,.inr ⟨rfl,rfl,ns2,0,rfl,lvi,by lia,by lia⟩⟩
  ·have ln:(iN ns).length=ns.length:=zAD _;have h2:=h2 rfl;refine hW D0 H5 p S d lk lv fw back true _ x7 x8 x9 ts' as' av' ho' kvs' ls (iN ns) rs (h+1) W5 r5.sh ap5 r5.wf r5.hs (by lia) f0 f4 hlv5 lvp l60 r60 (by lia) frs ris (.inr ⟨rfl,by lia,ns,h,rfl,lv',rfl⟩) fun H' ts2 av2 ho2 as2 kvs2 lv2 ns2 y7 y8 y9 r6 W6 hlv6 lvp6 lvi e6 few=>?_
   have few:2 * ns2.length<=(iN ns).length:=few;have ln2:(iN ns2).length=ns2.length:=zAD _;exact fin _ _ ⟨(iN ns2).length,by lia,true,lv2,iN ns2,y7,y8,y9,rfl,ts2,av2,ho2,as2,kvs2,r5.trans r6 (fun c z=>.inr z),W6,hlv6,lvp6,by lia,.inr ⟨rfl,rfl,ns2,h+1,rfl,lvi,by lia,by lia⟩⟩
 have done:∀{H5:Hp}{D0:Ym},D0.rt=Q->ZB H4 H5->us.length<=1->(stem=false->us=[])->ME (Pd (YB K) (Pd HG (OW 5) (HS (Yw (tC V.non) Vs))) (tC (V.int 0))) D0 [some (.ref p),some (.ref S),some (.ref l),some (.int fw),some (.bl back),some (.ref lv),some (.bl stem),x7,x8,x9] H5:=fun{H5 D0} eD g h1 h0=>by
  obtain ⟨r5,W5,hlv5⟩:=same5 g;refine ⟨_,rfl,nn (zAB rfl),fun q nq=>?_⟩;have g6:=ZX nq (.lst [.non]);refine ⟨lv,q,us,[.non],rfl,rfl,g6 _ _ hlv5,ZO,zBJ (XG (n:=us.length+1) (by lia)),fun q' nq'=>?_⟩
  have g7:=ZX nq' (.lst (us++[.non]));obtain ⟨rn,ern,jp⟩:∃ rn:Option Nat,(us++[V.non])[0]? = some (YK (Z8 rn))/\∀ i,rn=some i->i<ts'.length:=by
   rcases cs with ⟨z,_⟩ | ⟨_,_,ns,h,rfl,lv',_⟩
   ·rw [h0 z];exact ⟨none,rfl,fun i e=>by cases e⟩
   ·cases ns with
    | nil=>exact ⟨none,rfl,fun i e=>by cases e⟩
    | cons n ns=>exact ⟨some n,rfl,fun i e=>by cases e;exact (lv'.at_ n zAQ).1⟩
  refine .inl ⟨q',us++[.non],0,_,rfl,rfl,ZL.of ZO,Yz (j:=0) ern,?_⟩;rw [eD];have l120:ts'.length<=ts.length+120:=by
   rcases cs with ⟨_,_,_,z⟩ | ⟨_,_,ns,h,rfl,lv',_,z⟩ <;> lia
  exact k _ ts' av' ho' as' kvs' rn (r5.same (g6.trans g7)) (W5.same (g6.trans g7)) l120 jp
 refine ⟨_,rfl,lv,us,rfl,.inl (ZL.of hlv),_,_,rfl,rfl,_,rfl,?_⟩;rcases zAg 1 us.length with c1 | c1
 ·rw [decide_eq_true (show (1:Int)<((us.length:Nat):Int) by lia)]
  exact Zw (Zw ⟨_,fun _ _ z=>z,go (ZB.refl _) (fun _=>c1) fun _ _ z=>z⟩)
 ·rw [decide_eq_false (show ¬ (1:Int)<((us.length:Nat):Int) by lia)]
  refine Zo ⟨_,rfl,nn (zAB rfl),fun q nq=>?_⟩;have g5:=ZX nq (.lst []);have eq:=ZO (H:=H4) (a:=q) (o:=.lst []);generalize upd H4 q (.lst [])=H5 at g5 eq ⊢;refine ⟨lv,q,us,rfl,rfl,ZL.of (g5 _ _ hlv),ZL.of eq,_,rfl,?_⟩
  cases us with
  | nil=>exact Zo (Zo (done rfl g5 c1 fun _=>rfl))
  | cons u us=>
   refine Zw ⟨_,rfl,_,rfl,?_⟩
   cases stem with
   | false=>exact Zw ⟨_,fun _ _ z=>z,go g5 (fun z=>by cases z) fun _ _ z=>z⟩
   | true=>exact Zo (done rfl g5 c1 fun z=>by cases z)
end
section
variable{P:Program}{w:World}{K:zAA}{mg:jb}{base:Heap}{f:Addr}{fd:FuncData}
inductive Ww(vs:je)(H:Hp)(Q:VK)(_:XK):Prop
 | mk (L T1 T2 r1 r2:Addr) (xs1 xs2 jS jQ:je) (rs1 rs2:List Z5) (_:vs=[.ref L]) (_:H L=some (.lst [.ref T1,.ref T2])) (_:H T1=some (.tup (.ref r1 :: xs1))) (_:H T2=some (.tup (.ref r2 :: xs2))) (_:H r1=some (.lst jS)) (_:H r2=some (.lst jQ)) (_:KeysAt H (Z6 rs1) jS) (_:KeysAt H (Z6 rs2) jQ) (_:jS.length<=100) (_:jQ.length<=100) (_:∀(D:Addr)(ks:je)(H':Hp),ZB H H'->H D=none->H' D=some (.lst ks)->KeysAt H' ((rs1++rs2).map (·.1)) ks->Q (.ref D) H')
theorem FS:ZC ["_law_trees_here"] ["_law_trees_here"] (Ze N4):=Zs
theorem EQ(F0:Zj K "_law_known" "_law_known" N4 f fd):ZK P w K mg base ZW 1 f fd ["_law_trees_here"] Ww:=by
 refine F0.ok FS (fun vs H Q E h=>(by obtain ⟨_,_,_,_,_,_,_,_,_,_,_,rfl,_⟩:=h;rfl)) (fun cdv A outer s H vs Q E hr h=>?_)
 obtain ⟨L,T1,T2,r1,r2,xs1,xs2,jS,jQ,rs1,rs2,rfl,hL,hT1,hT2,h1,h2,k1,k2,l1,l2,q⟩:=h;refine ⟨_,ZU (Zg (VR [] [] rfl (VO (Zv O8 (Zl (r:=Xe K) Zi (Zl (r:=YB K) YD (pv 0) ZM (fun _ _=>rfl)) ZM (fun _ _=>rfl)) (Zl (r:=Xe K) Zi (Zl (r:=YB K) YD (pv 0) ZM (fun _ _=>rfl)) ZM (fun _ _=>rfl)))) (fun _ _ _ _ _=>VU) (fun _ _ _ _ _=>Zl (r:=Xe K) Zi (pv 0) ZM (fun _ _=>rfl)) trivial)),?_⟩;refine ⟨_,rfl,.inl ⟨L,_,_,.ref T1,rfl,rfl,ZL.of hL,rfl,T1,_,_,.ref r1,rfl,rfl,Zn.of hT1,Yz (j:=0) rfl,?_⟩⟩;refine ⟨_,rfl,.inl ⟨L,_,_,.ref T2,rfl,rfl,ZL.of hL,rfl,T2,_,_,.ref r2,rfl,rfl,Zn.of hT2,Yz (j:=0) rfl,?_⟩⟩;refine ⟨r1,r2,jS,jQ,rfl,rfl,h1,h2,nn (by lia),fun c nc=>?_⟩
 have g:=ZX nc (.lst (jS++jQ));have ec:=ZO (H:=H) (a:=c) (o:=.lst (jS++jQ));generalize upd H c (.lst (jS++jQ))=H1 at g ec ⊢;have kr:KeysAt H1 (Z6 (rs1++rs2)) (jS++jQ):=by
  rw [LE];exact (k1.mono (ZB.tups g) _ _).append (k2.mono (ZB.tups g) _ _)
 have lu:(jS++jQ).length<=200:=by rw [zAG];lia
 have lr:(jS++jQ).length=(rs1++rs2).length:=by have:=kr.length;rw [<-this];exact zAD _
 generalize jS++jQ=us at ec kr lu lr;generalize rs1++rs2=rs at kr lr q;refine ⟨c,rfl,⟨us,ZL.of ec⟩,VV (n:=us.length) (fun i z=>us[i]? = some z) (fun D i ys H3=>ZB H1 H3/\H1 D=none/\KeysAt H1 ((rs.map (·.1)).take i) ys) (XG (by lia))
  (fun D i ys H3 hi hP=>⟨us,us[i],ZL.of (hP.1 _ _ ec),by simp [hi]⟩) (fun D i ys H3 z H4 hi hP hy=>⟨hy.1,hy.2 us (ZL.of (hP.1 _ _ ec))⟩) (fun D ys H3 hP=>⟨us,ZL.of (hP.1 _ _ ec),zAH _⟩)
  (fun D hD=>⟨ZX hD _,hD,.nil⟩) (fun D i ys H3 z eD hl' hi hz hP RR jM=>?_) (fun D ys H3 eD hP=>?_)⟩
 ·obtain ⟨s3,nD,kys⟩:=hP;obtain ⟨a,vk,vv,er,rfl,ea,e1,e2⟩:=Qp kr hz;refine ⟨_,rfl,a,_,_,vk,rfl,rfl,Zn.of (s3 _ _ ea),rfl,jM _ H3 eD ⟨UQ s3 nD,nD,?_⟩⟩;rw [zAi,zAN,er];exact kys.append (.cons e1 .nil)
 ·obtain ⟨s3,nD,kys⟩:=hP;rw [zAS (by rw [zAD];lia)] at kys
  exact q D ys H3 (g.trans s3) (g.free nD) eD (kys.mono (ZB.tups s3) _ _)
end
structure WS where
 T:Addr
 r:Addr
 d:Addr
 rn:Option Nat
 us:je
 rs:List Z5
 kv:List (Zd×V)
 F:List Nat
structure XA(gt:List KT)(ts:List ZR)(H:Hp)(t:WS):Prop where
 tp:H t.T=some (.tup [.ref t.r,YK (Z8 t.rn),.ref t.d])
 rl:H t.r=some (.lst t.us)
 ks:KeysAt H (Z6 t.rs) t.us
 fit:∀ x∈t.rs,x.fit
 len:t.rs.length<=60
 rcd:X4 gt ts H t.d t.kv t.F
 rt:∀ i,t.rn=some i->i∈t.F
theorem XA.go{gt:List KT}{ts:List ZR}{H H':Hp}{t:WS}(h:XA gt ts H t)(m:Z2 H H')(hr:∀ o,H t.r=some o->H' t.r=some o)(hd:∀ o,H t.d=some o->H' t.d=some o):XA gt ts H' t:=
 ⟨m _ _ h.tp,hr _ h.rl,h.ks.mono m _ _,h.fit,h.len,⟨hd _ h.rcd.hd,h.rcd.rcd.mono m,h.rcd.clo,h.rcd.wf⟩,h.rt⟩
theorem XA.grow{gt:List KT}{ts ts':List ZR}{H:Hp}{t:WS}(h:XA gt ts H t)(le:ts.length<=ts'.length)(old:∀ i,i<ts.length->gd ts' i=gd ts i)(wf:WF gt ts'):XA gt ts' H t:=
 ⟨h.tp,h.rl,h.ks,h.fit,h.len,⟨h.rcd.hd,⟨h.rcd.rcd.nd,fun j hj=>zAb (h.rcd.rcd.lt j hj) le,h.rcd.rcd.no,fun j hj=>by rw [old j (h.rcd.rcd.lt j hj)];exact h.rcd.rcd.yes j hj,h.rcd.rcd.len,h.rcd.rcd.ks⟩,fun j hj b hb=>by rw [old j (h.rcd.rcd.lt j hj)] at hb;exact h.rcd.clo j hj b hb,wf⟩,h.rt⟩
theorem YY.back{jg jh:Addr}{H H':Hp}{S d lk:Addr}{ts:List ZR}{av:Nat->List Nat}{ho:Nat->Nat}{as:List YA}{kvs:List (Zd×V)}{ls ls':je}(R:YY jg jh H S d lk ts av ho as kvs ls)(Q:Z3 jg jh H' ⟨S,d,ts,av,ho,as,kvs⟩ lk ts.length ls'):YY jg jh H' S d lk ts av ho as kvs ls':=
 ⟨Q.sh,R.keys,R.val,R.len,Q.tw,R.own,R.two⟩
theorem WN.same{H H':Hp}{lk c:Addr}{ts:List ZR}{as:List YA}(ap:WN H lk ts as c)(s:ZB H H'):WN H' lk ts as c:=by
 obtain ⟨o,e⟩:=ap.at_;exact ⟨⟨o,s _ _ e⟩,ap.lk,ap.own⟩
theorem YQ.keep{gt:List KT}{jg jh:Addr}{N:Addr->Prop}{H0 H:Hp}{S d lk:Addr}{ls:je}{jw ts:List ZR}{av av0:Nat->List Nat}{ho ho0:Nat->Nat}{jz as:List YA}{kvs kvs0:List (Zd×V)}(r:YQ gt jg jh N H0 H S d lk ls jw jz ts av ho as kvs)(R:YY jg jh H0 S d lk jw av0 ho0 jz kvs0 ls){c:Addr}{o:je}(ap:WN H0 lk jw jz c)(nN:¬ N c)(e:H0 c=some (.lst o)):H c=some (.lst o)/\WN H lk ts as c:=by
 obtain ⟨⟨dS,hS⟩,hd,_⟩:=R.sh;have e':=r.fr c _ nN (ZT e hS) (ZT e hd) (fun b hb=>by
  obtain ⟨dx,hx⟩:=(R.tw b hb).tw.self;exact ⟨ZT e hx,(ap.own b hb).1.symm⟩) e
 exact ⟨e',⟨_,e'⟩,ap.lk,r.own ap⟩
structure PL(gt:List KT)(jg jh:Addr)(H0 H:Hp)(S d lk L:Addr)(ts:List ZR)(av:Nat->List Nat)(ho:Nat->Nat)(as:List YA)(kvs:List (Zd×V))(ls:je)(TL:List WS):Prop where
 pla:YQ gt jg jh (fun _=>False) H0 H S d lk ls [] [] ts av ho as kvs
 hL:H L=some (.lst (TL.map fun t=>V.ref t.T))
 aL:WN H lk ts as L
 nL:H0 L=none
 trs:∀ t∈TL,XA gt ts H t/\WN H lk ts as t.r/\t.r≠L/\t.d≠d
section
variable{P:Program}{w:World}{K:zAA}{mg:jb}{base:Heap}{f:Addr}{fd:FuncData}{jg jh:Addr}
inductive Wd(gt:List KT)(K:zAA)(jg jh:Addr)(vs:je)(H:Hp)(Q:VK)(_:XK):Prop
 | mk (H0:Hp) (a S d lk:Addr) (ns:List Int) (av:Nat->List Nat) (ho:Nat->Nat) (_:vs=[.ref a,.ref S]) (_:ZL K H0 a (ns.map V.int)) (_:ns.length<=63) (_:ZB H0 H) (_:H0 S=none) (_:H0 d=none) (_:H0 lk=none) (_:YY jg jh H S d lk [] av ho [] [] []) (_:∀(H':Hp)(L:Addr)(ts:List ZR)(av:Nat->List Nat)(ho:Nat->Nat)(as:List YA)(kvs:List (Zd×V))(ls:je)(t1 t2:WS),PL gt jg jh H0 H' S d lk L ts av ho as kvs ls [t1,t2]->ts.length<=240->ls.length<=480->Q (.ref L) H')
abbrev BJ:List Str:=["_law_script","_law_shelf","_law_trees_here","_law_k","_law_well_here","_law_rows","_law_root_here"]
theorem Vw:ZC BJ ["_law_script","_law_shelf"] (Ze Nr):=Zs
inductive F5(a S L:Addr)(gt:List KT)(jg jh:Addr)(H0:Hp)(d lk:Addr)(i:Nat)(σ:L2.St)(H':Hp):Prop
 | mk (ts:List ZR) (av:Nat->List Nat) (ho:Nat->Nat) (as:List YA) (kvs:List (Zd×V)) (ls:je) (TL:List WS) (x3 x4 x5 x6:jf) (_:σ=[some (.ref a),some (.ref S),some (.ref L),x3,x4,x5,x6]) (_:PL gt jg jh H0 H' S d lk L ts av ho as kvs ls TL) (_:TL.length=i) (_:ts.length<=120 * i) (_:ls.length<=240 * i)
theorem At{gt:List KT}(F0:Zj K "_law_trees" "_law_trees" Nr f fd)(T:YG mg)(DW:ZA P w K mg base 1 "_law_well" ["_law_script","_law_k"] (WA K))(DG:ZA P w K mg base 10 "_law_ground" ["_law_well_here","_law_most"] (X9 w))(DS:ZA P w K mg base 9 "_law_sorted" ["_law_model"] (X3 w))(DP:ZA P w K mg base 11 "_law_plant" ["_law_well_here","_law_shelf","_law_rows"] (Wn gt jg jh))(DR:ZA P w K mg base 3 "_law_reached" ["_law_shelf","_law_root_here","_law_found"] (XX gt jg jh)):
  ZK P w K mg base ZW 12 f fd ["_law_script","_law_shelf"] (Wd gt K jg jh):=by
 refine F0.ok Vw (fun vs H Q E h=>(by obtain ⟨_,_,_,_,_,_,_,_,rfl,_⟩:=h;rfl)) (fun cdv A outer s H vs Q E hr h=>?_)
 obtain ⟨H0,a,S,d,lk,ns,av,ho,rfl,hSq,hn,s0,nS,ndd,nlk,R,k⟩:=h;have nd:=Vw.nd;have hr1:=hr.mono (show 1<=11 by decide)
 have hr3:=hr.mono (show 3<=11 by decide)
 have hr9:=hr.mono (show 9<=11 by decide)
 have hr10:=hr.mono (show 10<=11 by decide)
 refine ⟨_,ZQ (Zk 2 nd (Yn ZG))
  (ZQ (Ud PassesOwn.never rfl (Pm rfl T.range (ZF ZM ZG)) (WT 3 nd)
   (ZQ (Zk 4 nd (Zh DW hr1 (ZF (pv 0) (ZF (pv 3) ZG))))
   (ZQ (Zk 5 nd (Zh DS hr9 (ZF (Zh DG hr10 (ZF (pv 4) (ZF (Zl (r:=YB K) YD (Yn (ZF ZM (ZF ZM ZG))) (pv 3) (fun _ _=>rfl)) ZG))) ZG)))
   (ZQ (Zk 6 nd (Zh DP hr (Vu (pv 4) (pv 1) (pv 5))))
   (ZU (Wx (QB zAs zA2 zA1 QL (pv 2) (ZF (Yq (Vu (pv 5) (pv 6) (Zh DR hr3 (Vu (pv 1) (pv 6) ML)))) ZG))))))))
  (ZU (Zg (pv 2)))),?_⟩
 refine ⟨nn (zAB rfl),fun L nL=>?_⟩;have gL:=ZX nL (.lst []);have eL:=ZO (H:=H) (a:=L) (o:=.lst []);generalize upd H L (.lst [])=H1 at gL eL ⊢;have RL:=R.same gL;have wf0:WF gt []:=fun i t e=>by simp at e
 have I0:PL gt jg jh H0 H1 S d lk L [] av ho [] [] [] []:=⟨⟨RL,wf0,fun i hi=>absurd hi (zBI _),fun c o _ _ _ _ e=>gL _ _ (s0 _ _ e),fun c e=>s0.free (gL.free e),zAH _,fun i hi=>absurd hi (zBI _),fun i _ hi=>absurd hi (zBI _)⟩,eL,Pw R nL eL,s0.free nL,fun t ht=>by simp at ht⟩
 refine ⟨2,rfl,by decide,by decide,PZ (n:=2) (F5 a S L gt jg jh H0 d lk)
  ⟨_,_,_,_,_,_,[],_,_,_,_,rfl,I0,rfl,zAk _,zAk _⟩ ?_ ?_⟩
 ·rintro i σ H2 hi ⟨ts,av,ho,as,kvs,ls,TL,x3,x4,x5,x6,rfl,r,lTL,l120,l200⟩;have s02:ZB H0 H2:=fun b o e=>r.pla.fr b o (fun z=>z) (Zb e nS) (Zb e ndd) (fun j hj=>absurd hj (zBI _)) e;refine ⟨_,rfl,_,rfl,a,ns,_,rfl,s02.seq hSq,hn,by lia,by lia,fun p H3 np s3 W3=>?_⟩
  obtain ⟨mv,emv,hmv⟩:=KP (x:=V.int 61) (y:=V.int 21) (i:=(0:Int)+(i:Int)) (by lia) (by lia)
  refine ⟨_,rfl,nn (zAB rfl),fun q nq=>?_⟩;have gq:=ZX nq (.lst [.int 61,.int 21]);have eq:=ZO (H:=H3) (a:=q) (o:=.lst [.int 61,.int 21]);generalize upd H3 q (.lst [.int 61,.int 21])=H4 at gq eq ⊢;obtain ⟨m,rfl,m0,m61⟩:∃ m:Int,mv=.int m/\0<m/\m<=61:=by
   rcases hmv with rfl | rfl
   ·exact ⟨61,rfl,by decide,by decide⟩
   ·exact ⟨21,rfl,by decide,by decide⟩
  have W4:=W3.same gq;refine ⟨_,rfl,.inl ⟨q,_,_,_,rfl,rfl,ZL.of eq,emv,p,m,rfl,W4,m0,m61,fun D rs xs H5 nD dr frs ris r60 W5 s5=>?_⟩⟩;refine ⟨D,rs,xs,rfl,dr,frs,ris,r60,fun l us H6 s6 nl hl kl=>?_⟩;have s24:ZB H2 H4:=s3.trans gq;have R2:=r.pla.sh;have R4:=R2.same s24;obtain ⟨pw4,hp4⟩:=W4.some;have ap4:WN H4 lk ts as p:=Pw R2 np hp4;have R5:=R4.but s5 hp4 ap4.lk ap4.own;have R6:=R5.same s6;have W6:=W5.same s6;obtain ⟨pw6,hp6⟩:=W6.some;have ap6:WN H6 lk ts as p:=Pw R2 np hp6;have lp:l≠p:=V5 W5 nl;have g26:ZB H2 H6:=fun b o e=>s6 b o (s5 b o (s24 b o e) (Zb e np));refine ⟨_,rfl,_,rfl,_,rfl,p,S,d,lk,l,ts,av,ho,as,kvs,ls,us,rs,rfl,W6,R6,ap6,r.pla.wf,r.pla.hs,by lia,hl,lp,kl,frs,ris,r60,fun H7 ts7 av7 ho7 as7 kvs7 rn r7 W7 l7 jp=>?_⟩
  have apl:WN H6 lk ts as l:=Pw R5 nl hl;have Lp:L≠p:=Zb r.hL np;obtain ⟨hL7,aL7⟩:=r7.keep R6 (r.aL.same g26) Lp (g26 _ _ r.hL);obtain ⟨hl7,al7⟩:=r7.keep R6 apl lp hl;have t67:Z2 H6 H7:=r7.tups R6 fun c z=>by rw [z];exact ⟨_,hp6⟩
  refine ⟨_,rfl,.inl ⟨rfl,_,ZL.of hL7⟩,_,rfl,_,rfl,_,rfl,_,rfl,fun dd ndd'=>?_⟩;have gd8:=ZX ndd' (.dK []);have ed8:=ZO (H:=H7) (a:=dd) (o:=.dK []);generalize upd H7 dd (.dK [])=H8 at gd8 ed8 ⊢;have R8:=r7.sh.same gd8;have ddd:dd≠d:=(Zb r7.sh.sh.kept ndd').symm;refine ⟨⟨S,d,ts7,av7,ho7,as7,kvs7⟩,lk,ts7.length,ls,rn,dd,rfl,R8.q,r7.wf,by show ts7.length<=240;lia,by lia,jp,ed8,ddd,fun H9 kv F ls9 fr9 Q9 ll9 hdd9 rec9 clo9 rt9=>⟨nn (zAB rfl),fun Tt nT=>?_⟩⟩
  have gT:=ZX nT (.tup [.ref l,YK (Z8 rn),.ref dd]);have eT:=ZO (H:=H9) (a:=Tt) (o:=.tup [.ref l,YK (Z8 rn),.ref dd]);generalize upd H9 Tt (.tup [.ref l,YK (Z8 rn),.ref dd])=H10 at gT eT ⊢;have lk8:=R8.sh.looks;have f810:∀ b o,b≠lk->b≠dd->H8 b=some o->H10 b=some o:=fun b o n1 n2 e=>gT b o (fr9 b o n1 n2 e);have t810:Z2 H8 H10:=fun b o e=>f810 b _ (ZT e lk8) (ZT e ed8) e;have f710:∀ b o,b≠lk->H7 b=some o->H10 b=some o:=fun b o n1 e=>f810 b o n1 (Zb e ndd') (gd8 b o e);have t710:Z2 H7 H10:=fun b o e=>t810 b o (gd8 b _ e);have R10:YY jg jh H10 S d lk ts7 av7 ho7 as7 kvs7 ls9:=(R8.back Q9).same gT;have hL10:=f710 _ _ aL7.lk hL7;have hl10:=f710 _ _ al7.lk hl7;refine ⟨L,_,_,rfl,rfl,hL10,XG (by rw [zAD];lia),?_⟩
  have sx:ZE L H10 (upd H10 L (.lst ((TL.map fun t=>V.ref t.T)++[.ref Tt]))):=(ZE.refl L H10).upd;have t11:Z2 H10 (upd H10 L (.lst ((TL.map fun t=>V.ref t.T)++[.ref Tt]))):=sx.tups hL10;have eL11:=ZO (H:=H10) (a:=L) (o:=.lst ((TL.map fun t=>V.ref t.T)++[.ref Tt]));generalize upd H10 L (.lst ((TL.map fun t=>V.ref t.T)++[.ref Tt]))=H11 at sx t11 eL11 ⊢;have R11:=R10.but sx hL10 aL7.lk aL7.own;have lL:l≠L:=fun z=>by rw [z,s5 _ _ (s24 _ _ r.hL) Lp] at nl;cases nl
  have np0:H0 p=none:=s02.free np;obtain ⟨⟨dS6,hS6⟩,hd6,_⟩:=R6.sh;have f011:ZB H0 H11:=fun b o e=>sx b o (f710 b o (Zb e nlk) (r7.fr b o (Zb e np0) (Zb e nS) (Zb e ndd) (fun j hj=>by
   obtain ⟨n1,_,n3⟩:=r.pla.new j (zAk _) hj;exact ⟨Zb e n1,Zb e n3⟩) (g26 b o (s02 b o e)))) (Zb e r.nL)
  have t211:Z2 H2 H11:=fun b o e=>t11 b o (t710 b o (t67 b o (ZB.tups g26 b o e)));have hl11:=sx _ _ hl10 lL;refine ⟨ts7,av7,ho7,as7,kvs7,ls9,TL++[⟨Tt,l,dd,rn,us,rs,kv,F⟩],_,_,_,_,rfl,⟨⟨R11,r7.wf,r7.hs,fun c o _ _ _ _ e=>f011 c o e,fun c e=>f011.free e,zAk _,fun j hj=>absurd hj (zBI _),fun j _ hj=>?_⟩,?_,⟨⟨_,eL11⟩,aL7.lk,aL7.own⟩,r.nL,fun t ht=>?_⟩,?_,by lia,?_⟩
  ·rcases zAg j ts.length with z | z
   ·rw [(r7.old j z).1];exact r.pla.new j (zAk _) z
   ·obtain ⟨n1,n2,n3⟩:=r7.new j z hj;exact ⟨s02.free (g26.free n1),s02.free (g26.free n2),s02.free (g26.free n3)⟩
  ·rw [zAX];exact eL11
  ·rcases zAd.mp ht with z | z
   ·obtain ⟨a1,a2,a3,a4⟩:=r.trs t z;have rp:t.r≠p:=Zb a1.rl np;obtain ⟨k7,ap7⟩:=r7.keep R6 (a2.same g26) rp (g26 _ _ a1.rl);have k11:=sx _ _ (f710 _ _ ap7.lk k7) a3;have d6:=g26 _ _ a1.rcd.hd;have d7:=r7.fr t.d _ (Zb a1.rcd.hd np) (ZT d6 hS6) a4 (fun b hb=>by
     obtain ⟨dx,hx⟩:=(R6.tw b hb).tw.self;exact ⟨ZT d6 hx,ZT d6 (R6.tw b hb).tw.above⟩) d6
    have d11:=sx _ _ (f710 _ _ (ZT d7 r7.sh.sh.looks) d7) (ZT a1.rcd.hd r.hL);exact ⟨(a1.go t211 (fun o e=>by rw [a1.rl] at e;cases e;exact k11) (fun o e=>by rw [a1.rcd.hd] at e;cases e;exact d11)).grow r7.le (fun j hj=>(r7.old j hj).2) r7.wf,⟨⟨_,k11⟩,ap7.lk,ap7.own⟩,a3,a4⟩
   ·rw [zAR.mp z];exact ⟨⟨t11 _ _ eT,hl11,((kl.mono t67 _ _).mono t710 _ _).mono t11 _ _,frs,r60,⟨sx _ _ (gT _ _ hdd9) (ZT hdd9 (fr9 _ _ aL7.lk (Zb hL7 ndd') (gd8 _ _ hL7))),(rec9.mono (ZB.tups gT)).mono t11,clo9,r7.wf⟩,rt9⟩,⟨⟨_,hl11⟩,al7.lk,al7.own⟩,lL,ddd⟩
  ·rw [zAG,lTL];rfl
  ·have ll9:ls9.length<=ls.length+ts7.length:=ll9
   lia
 ·rintro σ H2 ⟨ts,av,ho,as,kvs,ls,TL,x3,x4,x5,x6,rfl,r,lTL,l120,l200⟩;obtain ⟨t1,t2,rfl⟩:∃ t1 t2,TL=[t1,t2]:=by
   match TL,lTL with
   | [t1,t2],_=>exact ⟨t1,t2,rfl⟩
  exact ⟨_,rfl,k H2 L ts av ho as kvs ls t1 t2 r (by lia) (by lia)⟩
end
structure QS(ts:List ZR)(F:List Nat)(R:List Z5)(pre B D:List Nat)(n:Nat):Prop where
 pr:∀ j∈pre,(gd ts j).h≠0
 bh:∀ b∈B,(gd ts b).h=n
 dh:∀ b∈D,(gd ts b).h+1=n
 rows:Zr ts D++Zr ts B=R
 inF:∀ j∈pre++(B++D),j∈F
 len:pre.length+1<=(B++D).length
def U6(ts:List ZR)(F:List Nat)(R:List Z5)(m at_:Nat)(found:List Nat):Prop:=
 (∃ pre B D n,found=pre++(B++D)/\at_=pre.length/\B≠[]/\n≠0/\m=300 - (B++D).length/\QS ts F R pre B D n) \/
 (∃ pre L,found=pre++L/\(∀ j∈pre,(gd ts j).h≠0)/\(∀ j∈L,(gd ts j).h=0)/\Zr ts L=R/\(∀ j∈found,j∈F)/\pre.length<=at_/\at_<=found.length/\m=found.length - at_/\found.length<=120)
theorem Ko(ts:List ZR)(a b:List Nat):Zr ts (a++b)=Zr ts a++Zr ts b:=zBq
theorem Ja{ts:List ZR}:∀{l:List Nat},(∀ b∈l,(gd ts b).rows≠[])->l.length<=(Zr ts l).length
 | [],_=>zAH _
 | b :: l,h=>by
  have h1:=Ja fun c hc=>h c (zAL _ hc);have h2:=zCg.mpr (h b (zAQ ..));unfold Zr at h1 ⊢;rw [zBM,zAG,zAW]
  lia
section
variable{ts:List ZR}{F:List Nat}{R:List Z5}{pre B D:List Nat}{n:Nat}
theorem QS.few(s:QS ts F R pre B D n)(jq:∀ j∈F,(gd ts j).rows≠[]):(B++D).length<=R.length:=by
 have:=Ja (ts:=ts) (l:=B++D) fun b hb=>jq b (s.inF b (zAc _ hb));have e:=congrArg zCB s.rows;rw [Ko] at this;simp only [zAG] at this e ⊢
 lia
theorem Gq(jq:∀ j∈F,(gd ts j).rows≠[])(h60:R.length<=60)(s:QS ts F R pre B D n):∃ m,m<=300 - (B++D).length/\U6 ts F R m pre.length (pre++(B++D)):=by
 have go:∀{B D:List Nat}{n:Nat},QS ts F R pre B D n->B≠[]->∃ m,m<=300 - (B++D).length/\U6 ts F R m pre.length (pre++(B++D)):=fun{B D n} s hB=>by
  have fw:=s.few jq;have ln:=s.len;by_cases h0:n=0
  ·have eD:D=[]:=by
    cases D with
    | nil=>rfl
    | cons d D=>exact absurd (s.dh d (zAQ ..)) (by lia)
   subst eD;have rw':=s.rows;rw [show Zr ts []=[] from rfl,zDA] at rw';refine ⟨_,?_,.inr ⟨pre,B++[],rfl,s.pr,fun j hj=>?_,by rw [zAo];exact rw',s.inF,zAH _,by rw [zAG];lia,rfl,by rw [zAG];lia⟩⟩
   ·rw [zAG];lia
   ·rw [zAo] at hj;rw [s.bh j hj];exact h0
  ·exact ⟨_,zAH _,.inl ⟨pre,B,D,n,rfl,rfl,hB,h0,rfl,s⟩⟩
 by_cases hB:B=[]
 ·subst hB;have ln:=s.len;have hD:D≠[]:=fun z=>by subst z;simp at ln
  have s':QS ts F R pre D [] (n - 1):=⟨s.pr,fun b hb=>by have:=s.dh b hb;lia,fun b hb=>by simp at hb,by have:=s.rows;rw [show Zr ts []=[] from rfl,zAo] at this;exact this,by have:=s.inF;rw [zDA] at this;rw [zAo];exact this,by rw [zAo];exact ln⟩
  have:=go s' hD;rw [zAo] at this;exact this
 ·exact go s hB
theorem Af{gt:List KT}(hw:WF gt ts)(hlt:∀ j∈F,j<ts.length)(clo:∀ j∈F,∀ b∈(gd ts j).bs,b∈F)(h60:R.length<=60){b:Nat}(s:QS ts F R pre (b :: B) D n)(hn:n≠0):∃ m,m<300 - (b :: B++D).length/\U6 ts F R m (pre.length+1) (pre++(b :: B++D)++(gd ts b).bs):=by
 have jq:∀ j∈F,(gd ts j).rows≠[]:=fun j hj=>(hw j _ (XD (hlt j hj))).ne;have hb:b∈F:=s.inF b (by simp)
 have h0:(gd ts b).h≠0:=by rw [s.bh b (zAQ ..)];exact hn
 obtain ⟨b2,b4,b3,er⟩:=(hw b _ (XD (hlt b hb))).stem h0;have e1:pre++(b :: B++D)++(gd ts b).bs=(pre++[b])++(B++(D++(gd ts b).bs)):=by simp
 have s':QS ts F R (pre++[b]) B (D++(gd ts b).bs) n:=by
  refine ⟨fun j hj=>?_,fun j hj=>s.bh j (zAL _ hj),fun j hj=>?_,?_,fun j hj=>?_,?_⟩
  ·rcases zAd.mp hj with z | z
   ·exact s.pr j z
   ·rw [zAR.mp z];exact h0
  ·rcases zAd.mp hj with z | z
   ·exact s.dh j z
   ·rw [(b3 j z).2];exact s.bh b (zAQ ..)
  ·rw [<-s.rows,Ko,zCJ,show Zr ts (gd ts b).bs=(gd ts b).rows from er.symm];rfl
  ·rw [<-e1] at hj;rcases zAd.mp hj with z | z
   ·exact s.inF j z
   ·exact clo b hb j z
  ·have:=s.len;simp only [zAG,zAW,zBv] at this ⊢
   lia
 obtain ⟨m,hm,I⟩:=Gq jq h60 s';have fw:=s'.few jq;rw [e1];refine ⟨m,?_,by rw [zAG] at I;exact I⟩
 simp only [zAG,zAW] at hm fw ⊢
 lia
end
def Y8(ts:List ZR):Option Nat->List Z5
 | none=>[]
 | some i=>(gd ts i).rows
def Ug(ts:List ZR)(l:List Nat):List Z5:=(l.filter fun j=>decide ((gd ts j).h=0)).flatMap fun j=>(gd ts j).rows
theorem CJ{ts:List ZR}{pre L:List Nat}(h1:∀ j∈pre,(gd ts j).h≠0)(h2:∀ j∈L,(gd ts j).h=0):Ug ts (pre++L)=Zr ts L:=by
 unfold Ug;rw [zBB,zBz.mpr fun j hj=>by rw [decide_eq_false (h1 j hj)];exact zAF,zBr.mpr fun j hj=>decide_eq_true (h2 j hj)]
 rfl
theorem Jh{ts:List ZR}{F:List Nat}{R:List Z5}{m a:Nat}{found:List Nat}(jq:∀ j∈F,(gd ts j).rows≠[])(h60:R.length<=60)(h:U6 ts F R m a found):found.length<=120/\∀ j∈found,j∈F:=by
 rcases h with ⟨pre,B,D,n,rfl,rfl,hB,hn,rfl,s⟩ | ⟨pre,L,rfl,h1,h2,h3,h4,h5,h6,h7,h8⟩
 ·have:=s.few jq;have:=s.len;exact ⟨by rw [zAG];lia,s.inF⟩
 ·exact ⟨h8,h4⟩
theorem EI{gt:List KT}{ts:List ZR}{F:List Nat}{R:List Z5}{m a j:Nat}{found:List Nat}(hw:WF gt ts)(hlt:∀ j∈F,j<ts.length)(clo:∀ j∈F,∀ b∈(gd ts j).bs,b∈F)(h60:R.length<=60)(h:U6 ts F R m a found)(ej:found[a]? = some j):
  ((gd ts j).h≠0->∃ m',m'<m/\U6 ts F R m' (a+1) (found++(gd ts j).bs))/\((gd ts j).h=0->∃ m',m'<m/\U6 ts F R m' (a+1) found):=by
 rcases h with ⟨pre,B,D,n,rfl,rfl,hB,hn,rfl,s⟩ | ⟨pre,L,rfl,h1,h2,h3,h4,h5,h6,rfl,h8⟩
 ·cases B with
  | nil=>exact absurd rfl hB
  | cons b B=>
   rw [zAh (zAH _),Nat.sub_self] at ej;cases ej;exact ⟨fun _=>Af hw hlt clo h60 s hn,fun z=>absurd (z.symm.trans (s.bh j (zAQ ..))).symm hn⟩
 ·have hj:j∈L:=by
   rw [zAh h5] at ej;exact zAJ ej
  have hl:=(zAK.mp ej).1;exact ⟨fun z=>absurd (h2 j hj) z,fun _=>⟨_,by lia,.inr ⟨pre,L,rfl,h1,h2,h3,h4,by lia,hl,rfl,h8⟩⟩⟩
theorem EW{ts:List ZR}{F:List Nat}{R:List Z5}{m a:Nat}{found:List Nat}(h:U6 ts F R m a found)(ha:found.length<=a):Ug ts found=R:=by
 rcases h with ⟨pre,B,D,n,rfl,rfl,hB,hn,rfl,s⟩ | ⟨pre,L,rfl,h1,h2,h3,_⟩
 ·have:=s.len;rw [zAG] at ha
  lia
 ·rw [CJ h1 h2];exact h3
theorem ZKE{ts:List ZR}{F:List Nat}{rn:Option Nat}(jq:∀ j∈F,(gd ts j).rows≠[])(jp:∀ i,rn=some i->i∈F)(h60:(Y8 ts rn).length<=60):∃ m,U6 ts F (Y8 ts rn) m 0 rn.toList:=by
 cases rn with
 | none=>exact ⟨0,.inr ⟨[],[],rfl,fun j h=>by simp at h,fun j h=>by simp at h,rfl,fun j h=>by simp at h,zAH _,zAH _,rfl,zAk _⟩⟩
 | some i=>
  have s:QS ts F (Y8 ts (some i)) [] [i] [] (gd ts i).h:=⟨fun j h=>by simp at h,fun b hb=>by rw [zAR.mp hb],fun b hb=>by simp at hb,by simp [Zr,Y8],fun j hj=>by simp at hj;rw [hj];exact jp i rfl,zAH _⟩
  obtain ⟨m,_,I⟩:=Gq jq h60 s;exact ⟨m,I⟩
theorem AL(l:Addr)(ji:Array Value)(n:Nat)(b:Addr)(js:Array Value)(m:Nat)(dc:Option Addr)(sl:Array (jc))(h0:¬(!ji.isEmpty&&Builtin.List.listTooLong (ji.size+js.size))=true)(h1:ji.size<=sizeLine)(h2:ji.size+js.size<=sizeLine+1):
  Meets (Builtin.«list.extend» ⟨[.ref l,.ref b],[]⟩) (fun _ R s=>s.heap.get? l=some { cls:=.type "list",data:=.seq ji n }/\s.heap.get? b=some { cls:=.type "tuple",dict:=dc,data:=.seq js m,slots:=sl }/\R (.ok (.ret Value.none)) { s with heap:=s.heap.update l (Obj.mapSeq fun x=>x++js) }):=by
 refine .of_wp fun _ _ _ R s h=>?_;obtain ⟨x1,x2,x3,x4,x5⟩:=s;obtain ⟨g1,g2,h⟩:=h;have u1:=AutoSeq1.sub_tuple_list;have u2:=AutoSeq1.sub_tuple_tuple;have hz:(ji++js).size<=sizeLine+1:=by rw [zCk];exact h2
 wp_walk using (wpAny_updateSeq g1 rfl (hz:=h1) (_hz':=hz)),AutoSeq1.wpAny_loadPart' g1,AutoSeq1.wpAny_loadPart' g2
 exact ⟨_,rfl,h⟩
section
variable{X:Cx}
def B7:V->je->Hp->VK->Prop:=fun x vs H Q=>∃ l b xs zs,x=.ref l/\vs=[.ref b]/\H l=some (.lst xs)/\H b=some (.tup zs)/\xs.length+zs.length<=1000/\Q .non (upd H l (.lst (xs++zs)))
theorem Iu:M2 X "list.extend" B7:=by
 intro pins s σ H x vs v us Q I rx rv h;obtain ⟨l,b,xs,zs,rfl,rfl,hH,hB,hz,q⟩:=h;cases rx;obtain ⟨u,rfl,ru⟩:=rv.one;cases ru;obtain ⟨z,ji,n,r,hl,e⟩:=I.lstM hH;obtain ⟨jn,r2,⟨⟨oc,od,odt,jI⟩,e2,hcl,n2,hdt⟩,z2⟩:=I.tuple (Zn.of hB);dsimp only at hcl hdt;subst hcl hdt;have l2:=r2.length;have l1:=r.length;have le:sizeLine=16777216:=by decide
 have hsz:ji.toArray.size+jn.toArray.size<=sizeLine:=by rw [zAM,zAM];lia
 have hlong:¬ (!ji.toArray.isEmpty&&Builtin.List.listTooLong (ji.toArray.size+jn.toArray.size))=true:=by
  rw [AK hsz,zDK];exact zAF
 refine call_meets F.slot_list_extend ⟨_,e,rfl⟩ F.entry_list_extend (F.args_list_extend_2 _ _) (AL l ji.toArray n b jn.toArray n2 od jI hlong (by rw [zAM];lia) (by lia)) ⟨e,e2,?_⟩
 refine ⟨.non,_,I.lset (its':=ji++jn) hH e (by simp) (r.append r2) ?_,rfl,q⟩
 rw [zAG]
 lia
end
section
variable{P:Program}{w:World}{K:zAA}{mg:jb}{base:Heap}{f:Addr}{fd:FuncData}
inductive Wh(gt:List KT)(vs:je)(H:Hp)(Q:VK)(_:XK):Prop
 | mk (ts:List ZR) (d:Addr) (kvs:List (Zd×V)) (F:List Nat) (rn:Option Nat) (_:vs=[.ref d,YK (Z8 rn)]) (_:X4 gt ts H d kvs F) (_:∀ i,rn=some i->i∈F) (_:(Y8 ts rn).length<=60) (_:∀(H':Hp)(D:Addr)(found:List Nat),ZB H H'->H D=none->H' D=some (.lst (iN found))->found.length<=120->(∀ j∈found,j∈F)->Ug ts found=Y8 ts rn->Q (.ref D) H')
abbrev ZNd:List Str:=["_law_record","_law_root_here","_law_found","_law_at","_law_kind","_law_what"]
theorem Vq:ZC ZNd ["_law_record","_law_root_here"] (Ze MF):=Zs
theorem AO{gt:List KT}(F0:Zj K "_law_below" "_law_below" MF f fd)(T:YG mg):ZK P w K mg base ZW 1 f fd ["_law_record","_law_root_here"] (Wh gt):=by
 refine F0.ok Vq (fun vs H Q E h=>(by obtain ⟨_,_,_,_,_,rfl,_⟩:=h;rfl)) (fun cdv A outer s H vs Q E hr h=>?_)
 obtain ⟨ts,d,kvs,F,rn,rfl,R,jp,r60,k⟩:=h;have nd:=Vq.nd;have hu:=Pe hr;refine ⟨_,ZQ (GG (i:=2) [] [] nd rfl rfl rfl (VO (Yn (ZF (pv 1) ZG))) (fun _ _ _ _ _=>Nu (VT (Nm (pv 0)))) (fun _ _ _ _ _=>pv 0) trivial)
  (ZQ (Zk 3 nd ZM)
  (ZQ (Ql PassesOwn.never (VT (Ju (pv 3) (Zy Xh rfl T.len XY (ZF (pv 2) ZG))))
   (ZQ (Q7 (P0 hu (pv 0) (Zl (r:=YB K) YD (pv 2) (pv 3) (fun _ _=>rfl)) (fun _ _=>rfl)) (Ot rfl (QR (WT 4 nd) (QR (WT 5 nd) NS))))
   (ZQ (Zz (Y3 Wy (pv 4) Xf (YE _)) (ZU (Wx (QB zAs zC7 zC5 Iu (pv 2) (ZF (pv 5) ZG)))) Z0)
   (ZU (Zk 3 nd (Zv WJ (pv 3) ZM))))))
  (ZU (Zg (pv 2))))),?_⟩
 have hlt:=R.rcd.lt;have hw:=R.wf;have jq:∀ j∈F,(gd ts j).rows≠[]:=fun j hj=>(hw j _ (XD (hlt j hj))).ne;have clo:∀ j∈F,∀ b∈(gd ts j).bs,b∈F:=fun j hj b hb=>R.sub hj hb;refine ⟨_,rfl,nn (zAB rfl),fun p np=>?_⟩;have g1:=ZX np (.lst [YK (Z8 rn)]);have ep:=ZO (H:=H) (a:=p) (o:=.lst [YK (Z8 rn)]);generalize upd H p (.lst [YK (Z8 rn)])=H1 at g1 ep ⊢;refine ⟨p,rfl,⟨_,ZL.of ep⟩,MO (n:=1) (fun i z=>[YK (Z8 rn)][i]? = some z) (fun _=>rn.isSome) (fun D j ys H3=>ZB H1 H3/\H1 D=none/\ys=if j=0 then [] else iN rn.toList) (XG (by decide))
  (fun D j ys H3 hj hP=>⟨_,_,ZL.of (hP.1 _ _ ep),zAE (by simpa using hj)⟩) (fun D j ys H3 z H4 hj hP hy=>⟨hy.1,hy.2 _ (ZL.of (hP.1 _ _ ep))⟩) (fun D ys H3 hP=>⟨_,ZL.of (hP.1 _ _ ep),zAH _⟩)
  (fun D hD=>⟨ZX hD _,hD,rfl⟩) (fun D j ys H3 z eD hj hz hP B hB=>?_) (fun D j ys H3 z eD hj hz hk hP B hB=>?_) (fun D j ys H3 eD hj hk hP=>?_) (fun D ys H3 eD hP=>?_)⟩
 ·have:j=0:=by lia
  subst this;cases hz
  cases rn with
  | none=>exact ⟨_,rfl,_,rfl,hB H3 eD hP⟩
  | some i=>exact ⟨_,rfl,_,rfl,hB H3 eD hP⟩
 ·have:j=0:=by lia
  subst this;cases hz;obtain ⟨s3,nD,rfl⟩:=hP
  cases rn with
  | none=>cases hk
  | some i=>exact ⟨_,rfl,hB _ H3 eD ⟨UQ s3 nD,nD,rfl⟩⟩
 ·have:j=0:=by lia
  subst this;obtain ⟨s3,nD,rfl⟩:=hP
  cases rn with
  | none=>exact ⟨s3,nD,rfl⟩
  | some i=>cases hk
 obtain ⟨s3,nD,rfl⟩:=hP;have eD:H3 D=some (.lst (iN rn.toList)):=eD;have nD0:H D=none:=g1.free nD;obtain ⟨m0,I0⟩:=ZKE jq jp r60;refine ⟨fun m σ H'=>∃(found:List Nat)(a:Nat)(x4 x5:jf),σ=[some (.ref d),some (YK (Z8 rn)),some (.ref D),some (.int (a:Int)),x4,x5]/\U6 ts F (Y8 ts rn) m a found/\H' D=some (.lst (iN found))/\ZB H H',⟨m0,_,0,none,none,rfl,I0,eD,g1.trans s3⟩,?_⟩;rintro m σ H4 ⟨found,a,x4,x5,rfl,I,hD,s4⟩;obtain ⟨l120,inF⟩:=Jh jq r60 I;have lf:(iN found).length=found.length:=zAD _;refine ⟨_,rfl,_,rfl,D,_,rfl,.inl (ZL.of hD),_,_,rfl,rfl,_,rfl,?_⟩;show if decide (((a:Nat):Int)<(((iN found).length:Nat):Int))=true then _ else _
 rcases zAg a found.length with c | c
 ·rw [decide_eq_true (show ((a:Nat):Int)<(((iN found).length:Nat):Int) by lia)]
  obtain ⟨j,ej⟩:∃ j,found[a]? = some j:=⟨_,zAE c⟩;have ev:(iN found)[a]? = some (V.int (j:Nat)):=by unfold iN;rw [zAN,ej];rfl
  have hj:=inF j (zAJ ej);obtain ⟨tp,u,us,hg,htp,hu',w1,w2⟩:=(R.same s4).get hj;obtain ⟨st,lf'⟩:=EI hw hlt clo r60 I ej;refine Zw ⟨_,fun _ _ z=>z,?_⟩;refine ⟨_,rfl,_,rfl,_,rfl,.inl ⟨D,_,_,_,rfl,rfl,ZL.of hD,Yz ev,d,.ref tp,rfl,hg,tp,_,rfl,Zn.of htp,rfl,_,_,rfl,_,_,rfl,rfl,?_⟩⟩;refine ⟨_,rfl,rfl,_,rfl,?_⟩;rw [JZ];by_cases h0:(gd ts j).h=0
  ·rw [decide_eq_false (show ¬ (gd ts j).h≠0 from fun z=>z h0)];obtain ⟨m',hm',I'⟩:=lf' h0;exact Zo ⟨_,rfl,_,_,rfl,rfl,m',hm',found,a+1,_,_,rfl,I',hD,s4⟩
  ·rw [decide_eq_true (show (gd ts j).h≠0 from h0)];obtain ⟨m',hm',I'⟩:=st h0;have eu:=w2 h0;subst eu;obtain ⟨l120',_⟩:=Jh jq r60 I';have lb:(iN (gd ts j).bs).length=(gd ts j).bs.length:=zAD _;refine Zw ⟨_,rfl,.inl ⟨rfl,_,ZL.of hD⟩,_,rfl,D,u,_,_,rfl,rfl,hD,hu',by rw [zAG] at l120';lia,?_⟩
   refine ⟨_,rfl,_,_,rfl,rfl,m',hm',found++(gd ts j).bs,a+1,_,_,rfl,I',?_,fun b o e=>by rw [ZV (Zb e nD0)];exact s4 b o e⟩
   rw [ZO];unfold iN;rw [zAX]
 ·rw [decide_eq_false (show ¬ ((a:Nat):Int)<(((iN found).length:Nat):Int) by lia)]
  exact Zo ⟨_,rfl,k H4 D found s4 nD0 hD l120 inF (EW I c)⟩
end
section
variable{X:Cx}
end
section
variable{P:Program}{w:World}{K:zAA}{mg:jb}{base:Heap}
def K9(f c':Addr)(fo co:Obj)(sp:Sp):Sp:=fun vs H Q E=>H f=some (UE f fo)/\H c'=some (UE c' co)/\sp vs H Q E
theorem E6{k:Nat}{f c':Addr}{co:Obj}{qual:Str}{params:Arguments}{body:Expr}{scope:Scope}{pm ctv:Value}{N ps:List Str}{sp:Sp}(S:ZC N ps scope)(len:∀ vs H Q E,sp vs H Q E->vs.length=ps.length)(jD:O6 co qual)(jt:∀ (A:Around) (outer:List Env) (s:Shared) (H:Hp) (vs:je) (Q:VK) (E:XK),ZY k (A.deeper (envOfC qual scope s.heap.objs.size f (.ref c')))->sp vs H Q E ->
   ∃ t,PE (WB ZW P w K mg base N qual scope f (.ref c') A outer s H E) body t/\t (UD N vs) H Q):
  ZK P w K mg base ZW (k+1) f (PySem.W.kla_fn "<lambda>" qual params body scope [] pm (.ref c') ctv) ps (K9 f c' (zBb "<lambda>" qual params body scope [] pm c' ctv) co sp):=by
 refine ⟨fun vs H Q E h=>len _ _ _ _ h.2.2,fun A outer s H args us vs Q E hr e0 hb r jE=>?_⟩;obtain ⟨hf,hc,hB⟩:=jE;have hl:=len _ _ _ _ hB;have lim:s.heap.NoLimit:=e0.mod.nolimit.keeps fun b o e=>(e0.bs b o e).1;have hrec:s.heap.CodeRec (.ref c') qual:=by
  obtain ⟨vs',t,d,v1⟩:=jD;exact ⟨c',co,vs',t,rfl,e0.hok.obj hc,d,v1⟩
 have jB:∀ y∈ps.zip us,scope.names.lookup y.1=some .local\/(scope.names.lookup y.1=some .cell/\((cellsFrom (s.heap.objs.size+1) scope.names []).lookup y.1).isSome=true):=fun ⟨n,v⟩ hy=>by
  rcases S.par n (zCU hy).1 with q | q
  ·exact .inl q
  ·exact .inr ⟨q,zCK _ _ _ (.inl q)⟩
 refine PySem.W.kla_callFunE hr.depth (e0.hok.obj hf) rfl S.co S.gen rfl hrec (hb _ _ _ _ ?_);refine wpAny_newFunctionEnv_cells S.kind jB fun env he s1 x=>?_;subst he;refine ⟨lim.keeps x.toInCall.keep,?_⟩;obtain ⟨t,ht,hq⟩:=jt A outer s H vs Q E (hr.deeper _) hB;have I:ZH (WB ZW P w K mg base N qual scope f (.ref c') A outer s H E) [] (UD N vs) H s1:=Kk S hr.hd e0 hl r x;refine PySem.W.kla_codeExpr (wpAny_mono (ht [] s1 (UD N vs) H _ I hq) (fun u s' hs=>?_) fun e s' hs=>hs);obtain ⟨v,H2,J,rv,q⟩:=hs;exact ⟨v,H2,J.os,J.bare,J.base,J.hok,rv,q⟩
end
section
variable{X:Cx}
def FP(X:Cx)(g:KT->KT)(k:Nat)(t:TA)(tk:TE):TE:=fun σ H Q=>t σ H fun vs H1=>Yw tk Vs σ H1 fun zs H2=>∃(f:Addr)(fd:FuncData)(x0:Str)(sp:Sp)(IT:Hp->KT->V->Prop)(l:Addr)(us:je)(ts:List KT),zs=[.ref f]/\vs=[.ref l] /\
 ZK X.prog X.w X.K X.mg X.base ZW k f fd [x0] sp/\Zu X.K fd [x0] []/\(∀(H H':Hp)(t:KT)(u:V),ZB H H'->IT H t u->IT H' t u)/\(∀(H':Hp)(u:V)(t:KT)(Q:VK),ZB H2 H'->IT H' t u->(∀(v':V)(H3:Hp),ZD H3 (g t) v'->ZB H' H3->Q v' H3)->sp [u] H' Q E0) /\
 H2 l=some (.lst us)/\Paired (IT H2) ts us/\(∀ t∈ts,t.fits 3=true)/\us.length<64 /\
 ∀(D:Addr)(ws:je)(rs:List KT)(H':Hp),ZB H2 H'->H2 D=none->H' D=some (.lst ws)->Paired (IT H') rs ws->rs.Perm ts->rs.Pairwise (fun a b=>b.lt a=false)->Q (.ref D) H'
theorem Dq{g:KT->KT}(hg:Kg g)(dg:∀ t,(g t).depth<=2 * t.depth+2){k:Nat}{p pos kp:Pos}{e ke:Expr}{t:TA}{tk:TE}(hr:ZY (k+2) X.A)(hgl:Gl X "sorted")(hm:X.mg "sorted" = none)(ha:PA X [e] t)(hke:PE X ke tk)(he:backTo pos (starEach [e] X.env)=(false,eval e X.env) :: backTo pos (starEach [] X.env):=by rfl)(jF:(backTo pos (starEach [e] X.env)).any (·.1)=false:=by rfl):
  PE X (.Call (.Name "sorted" p) [e] [⟨some (zA0 "key"),ke,kp⟩] pos) (FP X g k t tk):=by
 intro pins s σ H Q I h;refine wpAny_Call_Name_kw (Qy I hgl hm Jm (callWith_kw (Zc (ha pos pins s σ H _ I h) fun us s1 ⟨vs,H1,I1,r,q⟩=>?_) he jF));have pk:PK X [⟨some (zA0 "key"),ke,kp⟩] (Yw tk Vs):=HC hke IR;refine Zc (pk pos pins s1 σ H1 _ I1 q) fun zs s2 ⟨zv,H2,I2,rz,f,fd,x0,sp,IT,l,ws,ts,e1,e2,F,b,hI,hS,hl,hk,hf,h64,q2⟩=>?_;subst e1 e2;obtain ⟨u,rfl,ru⟩:=Va r;obtain ⟨u2,rfl,ru2⟩:=Va rz;cases ru;cases ru2;obtain ⟨ji,rv,pl,hz⟩:=I2.list (ZL.of hl);have lv:=rv.length;exact GD hg dg hr F b I2 hI hS hk hf h64 (fun Q' hq=>collect_list pl.isList (hq _ ji (I2.kept (t':=s2.toks) fun b o e=>(zBF _ _ (Ne.symm (zAl (zAT e)))).trans (zAI _ e)) rv) (by rw [sizeLine_eq];first | lia | (simp;lia))) q2
end
abbrev qR:Str:=("_law_rows_of" ++ ".<locals>.") ++ "<lambda>"
def Vk:Arguments×Expr×Scope:=match (WD QH)[(2:Nat)]? with
 | some (Stmt.Return (some (.Call _ _ [⟨_,.Lambda ps b sc _,_⟩] _)) _)=>(ps,b,sc)
 | _=>(⟨[],[],none,[],[],none,[]⟩,.Name "" ⟨0,0,0,0⟩,(Ze QH))
theorem Bn:ZC ["_law_row"] ["_law_row"] Vk.2.2:=Zs
inductive Ui(vs:je)(H:Hp)(Q:VK)(_:XK):Prop
 | mk (u:V) (r:Z5) (_:vs=[u]) (_:ZD H (Ul r) u) (_:r.1.fits 3=true) (_:∀(v':V)(H':Hp),ZD H' r.1.rk v'->ZB H H'->Q v' H')
theorem D4{rs:List Z5}(h:(rs.map (·.1)).Pairwise fun a b=>a.lt b=true){r q:Z5}(hr:r∈rs)(hq:q∈rs)(e:r.1=q.1):r=q:=by
 rw [List.pairwise_map] at h
 induction rs with
 | nil=>simp at hr
 | cons x rs ih=>
  obtain ⟨h1,h2⟩:=zA7.mp h;rcases zAe.mp hr with z | z <;> rcases zAe.mp hq with y | y
  ·rw [z,y]
  ·have:=h1 q y;rw [<-z,e,Ur] at this;cases this
  ·have:=h1 r z;rw [<-y,<-e,Ur] at this;cases this
  ·exact ih h2 z y
theorem Ib{H:Hp}{rs:List Z5}(h:(rs.map (·.1)).Pairwise fun a b=>a.lt b=true):∀(l:List Z5)(ws:je),(∀ r∈l,r∈rs)->Paired (fun t u=>∃ r∈rs,r.1=t/\ZD H (Ul r) u) (l.map (·.1)) ws->KeysAt H (Z6 l) ws
 | [],ws,_,p=>by cases p;exact .nil
 | r :: l,ws,hl,p=>by
  cases p with
  | cons h1 h2=>
   obtain ⟨q,hq,e,k⟩:=h1;have:=D4 h hq (hl r (zAQ ..)) e;subst this;exact .cons k (Ib h l _ (fun x hx=>hl x (zAL _ hx)) h2)
theorem JO{H:Hp}{rs:List Z5}:∀(l:List Z5)(ws:je),(∀ r∈l,r∈rs)->KeysAt H (Z6 l) ws->Paired (fun t u=>∃ r∈rs,r.1=t/\ZD H (Ul r) u) (l.map (·.1)) ws
 | [],ws,_,p=>by unfold Z6 at p;rw [zBu,KeysAt] at p;subst p;exact .nil
 | r :: l,ws,hl,p=>by
  unfold Z6 at p;rw [zAa,KeysAt] at p;obtain ⟨v,vr,rfl,h1,h2⟩:=p;exact .cons ⟨r,hl r (zAQ ..),rfl,h1⟩ (JO l vr (fun x hx=>hl x (zAL _ hx)) h2)
section
variable{P:Program}{w:World}{K:zAA}{mg:jb}{base:Heap}{f:Addr}{fd:FuncData}
theorem CF{f c':Addr}{co:Obj}{pm ctv:Value}(jD:O6 co qR)(DR:ZA P w K mg base 6 "_law_rank" ["_law_spot"] (UG KT.rk)):
  ZK P w K mg base ZW 7 f (PySem.W.kla_fn "<lambda>" qR Vk.1 Vk.2.1 Vk.2.2 [] pm (.ref c') ctv) ["_law_row"] (K9 f c' (zBb "<lambda>" qR Vk.1 Vk.2.1 Vk.2.2 [] pm c' ctv) co Ui):=by
 refine E6 Bn (fun vs H Q E h=>(by obtain ⟨_,_,rfl,_⟩:=h;rfl)) jD fun A outer s H vs Q E hr h=>?_
 obtain ⟨u,r,rfl,hu,fr,k⟩:=h;refine ⟨_,Zh DR hr (ZF (Zl (r:=Xe K) Zi (pv 0) ZM (fun _ _=>rfl)) ZG),?_⟩;unfold Ul at hu;rw [ZD] at hu;obtain ⟨a,vs,rfl,ha,hk⟩:=hu;rw [KeysAt] at hk;obtain ⟨v1,r1,rfl,k1,_⟩:=hk;exact ⟨_,rfl,a,_,_,v1,rfl,rfl,Zn.of ha,Yz (j:=0) rfl,v1,r.1,rfl,k1,fr,k⟩
end
theorem Cq{ts:List ZR}{l:List Nat}{i j:Nat}(e:l[i]? = some j):Ug ts (l.take (i+1))=Ug ts (l.take i)++(if (gd ts j).h=0 then (gd ts j).rows else []):=by
 rw [zAi,e];unfold Ug;rw [zBB,zBq]
 congr 1
 by_cases h:(gd ts j).h=0 <;> simp [h]
theorem Fz(ts:List ZR)(l:List Nat)(i:Nat):(Ug ts (l.take i)).length<=(Ug ts l).length:=by
 conv=>rhs;rw [<-zBG i l]
 unfold Ug;rw [zBB,zBq,zAG]
 lia
section
variable{P:Program}{w:World}{K:zAA}{mg:jb}{base:Heap}{f:Addr}{fd:FuncData}
inductive XJ(gt:List KT)(T:Addr)(vs:je)(H:Hp)(Q:VK)(_:XK):Prop
 | mk (ts:List ZR) (d:Addr) (kvs:List (Zd×V)) (F:List Nat) (rn:Option Nat) (_:vs=[.ref d,YK (Z8 rn)]) (_:Yt H T qR) (_:X4 gt ts H d kvs F) (_:∀ i,rn=some i->i∈F) (_:(Y8 ts rn).length<=60) (_:∀(H':Hp)(D:Addr)(ws:je),(∀ b o,b≠T->H b=some o->H' b=some o)->Yt H' T qR->H D=none->H' D=some (.lst ws)->KeysAt H' (Z6 (Y8 ts rn)) ws->Q (.ref D) H')
abbrev BL:List Str:=["_law_record","_law_root_here","_law_rows","_law_number"]
theorem VH:ZC BL ["_law_record","_law_root_here"] (Ze QH):=Zs
inductive By(d l D:Addr)(rn:Option Nat)(H:Hp)(ts:List ZR)(found:List Nat)(i:Nat)(σ:L2.St)(H':Hp):Prop
 | mk (ys:je) (x3:jf) (_:σ=[some (.ref d),some (YK (Z8 rn)),some (.ref D),x3]) (_:H' l=some (.lst (iN found))) (_:H' D=some (.lst ys)) (_:KeysAt H' (Z6 (Ug ts (found.take i))) ys) (_:ZB H H')
theorem ZJM{gt:List KT}{c T:Addr}(F0:Zj K "_law_rows_of" "_law_rows_of" QH f fd)(hf:zAY K mainGlobals "_law_rows_of" = some (some (.ref f)))(ht:zBK K "_law_rows_of" = some (c,T))(CC:zBW base c T)(hbt:base.BuiltinsAt mg T)(Tx:YG mg)(DB:ZA P w K mg base 1 "_law_below" ["_law_record","_law_root_here"] (Wh gt))(DR:ZA P w K mg base 6 "_law_rank" ["_law_spot"] (Yx 5)):
  ZK P w K mg base ZW 10 f fd ["_law_record","_law_root_here"] (XJ gt T):=by
 refine F0.okC hf ht VH (fun vs H Q E h=>(by obtain ⟨_,_,_,_,_,rfl,_⟩:=h;rfl)) (fun A outer s H vs Q E hr h=>?_)
 obtain ⟨ts,d,kvs,F,rn,rfl,tab,R,jp,r60,k⟩:=h;have nd:=VH.nd;have hu:=Pe hr;have hr1:=hr.mono (show 1<=9 by decide)
 have DS:ZA P w K mg base 6 "_law_rank" ["_law_spot"] (UG KT.rk):=by
  obtain ⟨g,gd,FG,b,kp,m⟩:=DR.ex;exact ⟨g,gd,FG.imp fun vs H Q E h=>by
   obtain ⟨v,t,e,a,c,d⟩:=h;have:=UC t 3 c;exact ⟨v,t,3,e,a,c,by lia,d⟩,b,kp,m⟩
 refine ⟨_,ZQ (Zk 2 nd (Yn ZG))
  (ZQ (Ud M8 rfl (VO (Zh DB hr1 (ZF (pv 0) (ZF (pv 1) ZG)))) (WT 3 nd)
   (ZU (Zz (Y3 Wy (Zl (r:=Xe K) Zi (P0 hu (pv 0) (pv 3) (fun _ _=>rfl)) ZM (fun _ _=>rfl)) Xf (YE _)) (ZU (Wx (QB zAs zC7 zC5 Iu (pv 2) (ZF (Zl (r:=Xe K) Zi (P0 hu (pv 0) (pv 3) (fun _ _=>rfl)) ZM (fun _ _=>rfl)) ZG)))) Z0)))
  (ZU (Zg (Dq Nt Pz (k:=7) hr rfl Tx.sorted (ZF (pv 2) ZG) (Ev (P:=T) (cl:=[]) rfl CC hbt rfl rfl))))),?_⟩
 refine ⟨nn (zAB rfl),fun D nD=>?_⟩;have g1:=ZX nD (.lst []);have eD:=ZO (H:=H) (a:=D) (o:=.lst []);generalize upd H D (.lst [])=H1 at g1 eD ⊢;refine ⟨_,rfl,_,rfl,ts,d,kvs,F,rn,rfl,R.same g1,jp,r60,fun H2 l found s2 nl hl l120 inF erows=>?_⟩;have s02:=g1.trans s2;have lne:l≠D:=fun z=>by rw [z,eD] at nl;cases nl
 refine ⟨l,rfl,⟨_,ZL.of hl⟩,OD (K:=K) (a:=l) (xs:=iN found) (By d l D rn H ts found) ⟨[],_,rfl,hl,s2 _ _ eD,.nil,s02⟩ (fun i σ H' _ hP=>by obtain ⟨_,_,_,h,_,_,_⟩:=hP;exact ZL.of h) ?_ ?_⟩
 ·rintro i u σ H3 hz ⟨ys,x3,rfl,hl3,hD3,ks,s3⟩;obtain ⟨j,ej,rfl⟩:=OG hz;have hj:=inF j (zAJ ej);obtain ⟨tp,u,us,hg,htp,hu',w1,w2⟩:=(R.same s3).get hj;have lr:=Fz ts found (i+1);rw [erows] at lr;have lk:=ks.length;unfold Z6 at lk;rw [zAD] at lk;have st:=Cq (ts:=ts) ej;refine ⟨_,rfl,_,rfl,d,.ref tp,rfl,hg,tp,_,_,_,rfl,rfl,Zn.of htp,rfl,rfl,_,rfl,?_⟩;rw [Hx];by_cases h0:(gd ts j).h=0
  ·rw [decide_eq_true h0];rw [if_pos h0] at st;have ku:=w1 h0;have lu:=ku.length;unfold Z6 at lu;rw [zAD] at lu;rw [st,zAG] at lr;have ul:u≠D:=ZT hu' hD3;refine Zw ⟨_,rfl,.inl ⟨rfl,_,ZL.of hD3⟩,_,rfl,_,rfl,d,.ref tp,rfl,hg,tp,_,_,_,rfl,rfl,Zn.of htp,rfl,D,u,ys,us,rfl,rfl,hD3,hu',by lia,?_⟩
   have sx:ZE D H3 (upd H3 D (.lst (ys++us))):=(ZE.refl D H3).upd;have tx:=sx.tups hD3;refine ⟨ys++us,_,rfl,by rw [ZV lne];exact hl3,ZO,?_,fun b o e=>by rw [ZV (Zb e nD)];exact s3 b o e⟩
   rw [st,LE];exact (ks.mono tx _ _).append (ku.mono tx _ _)
  ·rw [decide_eq_false h0];rw [if_neg h0,zAo] at st;exact Zo ⟨ys,_,rfl,hl3,hD3,by rw [st];exact ks,s3⟩
 ·rintro σ H3 ⟨ys,x3,rfl,hl3,hD3,ks,s3⟩;rw [zAS (by rw [<-zAD (f:=fun b:Nat=>V.int (b:Nat))];exact zAH _),erows] at ks
  have lk:=ks.length;unfold Z6 at lk;rw [zAD] at lk;have up:((Y8 ts rn).map (·.1)).Pairwise fun a b=>a.lt b=true:=by
   cases rn with
   | none=>exact .nil
   | some i=>exact (R.wf i _ (XD (R.rcd.lt i (jp i rfl)))).up
  have fit:∀ r∈Y8 ts rn,r.fit:=by
   cases rn with
   | none=>intro r hr;simp [Y8] at hr
   | some i=>exact (R.wf i _ (XD (R.rcd.lt i (jp i rfl)))).inn
  have tab3:=tab.ext (WY.same s3);refine ⟨_,rfl,tab3,fun H4 fn c' co pm ctv hco hfn hc' fr4 tab4 oth=>?_⟩;obtain ⟨psT,hT,_⟩:=id tab3;have m34:Z2 H3 H4:=fun b xs e=>fr4 b _ (ZT e hT) e;have hD4:=fr4 _ _ (ZT hD3 hT) hD3;refine ⟨fn,_,"_law_row",_,fun H t u=>∃ r∈Y8 ts rn,r.1=t/\ZD H (Ul r) u,D,ys,(Y8 ts rn).map (·.1),rfl,rfl,CF (c':=c') (pm:=pm) (ctv:=ctv) hco DS,.all (fun us hl=>match us,hl with | [_],_=>rfl),fun H H' t u sm h=>?_,fun H' u t Q' sm h kq=>?_,hD4,JO _ _ (fun r h=>h) (ks.mono m34 _ _),fun t ht=>?_,by lia,fun D' ws rs H5 s5 nD' hD' hp pm up'=>?_⟩
  ·obtain ⟨r,hr,e,kr⟩:=h;exact ⟨r,hr,e,kr.mono (ZB.tups sm) _ _⟩
  ·obtain ⟨r,hr,rfl,kr⟩:=h;exact ⟨sm _ _ hfn,sm _ _ hc',u,r,rfl,kr,(fit r hr).1,kq⟩
  ·obtain ⟨r,hr,rfl⟩:=zAf.mp ht;exact (fit r hr).1
  ·have e:rs=(Y8 ts rn).map (·.1):=List.Perm.eq_of_pairwise (le:=fun a b:KT=>b.lt a=false) (fun a b _ _ h1 h2=>NO a b h2 h1) up' (up.imp fun{a b} h=>Qn _ _ h) pm;subst e;refine k H5 D' ws (fun b o n e=>s5 b o (fr4 b o n (s3 b o e))) (tab4.ext (WY.same s5)) ?_ hD' (Ib up _ _ (fun r h=>h) hp)
   cases z:H D' with
   | none=>rfl
   | some o=>
    by_cases y:D'=T
    ·obtain ⟨ps4,hT4,_⟩:=tab4;rw [y,hT4] at nD';cases nD'
    ·rw [fr4 _ _ y (s3 _ _ z)] at nD';cases nD'
end
end Tw
namespace L2
open PySem PySem.Spec PyProof.Rows
section
variable{X:Cx}
theorem BW(hu:X.A.units<cLine):Yp X (compareOp .NotEq) (fun x y H Q=>∃(a b:Addr)(ka:List (Zd×V)),x=.ref a/\y=.ref b/\H a=some (.dK ka)/\H b=some (.dK [])/\Q (.bl (!ka.isEmpty)) H):=by
 intro pins s σ H x y v u Q I rx ry h;obtain ⟨a,b,ka,rfl,rfl,h1,h2,q⟩:=h;cases rx;cases ry;obtain ⟨z1,lo1,va,kv1,hD1⟩:=OE I.hok h1;obtain ⟨z2,lo2,vb,kv2,hD2⟩:=OE I.hok h2;have l1:=KV.length kv1;have l2:=KV.length kv2;have e2:vb=[]:=zCM.mp l2.symm;subst e2;refine PySem.W.keq_ne (r:=true) lo1 lo2 hD1 hD2 hu (fun e=>?_) ⟨.bl (!ka.isEmpty),H,I,?_,q⟩
 ·have:va=[]:=zCM.mp e;subst this;exact .nil
 ·show Value.bool _=Value.bool _
  congr 1
  cases ka with
  | nil=>cases va with
   | nil=>rfl
   | cons _ _=>simp at l1
  | cons _ _=>cases va with
   | nil=>simp at l1
   | cons _ _=>rfl
end
end L2
namespace Tw
open PySem PySem.Spec L2 PyProof.Rows
structure YW(gt:List KT)(ts:List ZR)(H:Hp)(t:WS):Prop where
 tp:H t.T=some (.tup [.ref t.r,YK (Z8 t.rn),.ref t.d])
 rcd:X4 gt ts H t.d t.kv t.F
 rt:∀ i,t.rn=some i->i∈t.F
theorem YW.go{gt:List KT}{ts:List ZR}{H H':Hp}{t:WS}(h:YW gt ts H t)(m:Z2 H H')(hd:∀ o,H t.d=some o->H' t.d=some o):YW gt ts H' t:=
 ⟨m _ _ h.tp,⟨hd _ h.rcd.hd,h.rcd.rcd.mono m,h.rcd.clo,h.rcd.wf⟩,h.rt⟩
section
variable{P:Program}{w:World}{K:zAA}{mg:jb}{base:Heap}{f:Addr}{fd:FuncData}
inductive Wj(gt:List KT)(vs:je)(H:Hp)(Q:VK)(E:XK):Prop
 | mk (ts:List ZR) (p L:Addr) (t1 t2:WS) (_:vs=[.ref p,.ref L]) (_:ZI H p) (_:H L=some (.lst [.ref t1.T,.ref t2.T])) (_:L≠p) (_:YW gt ts H t1) (_:YW gt ts H t2) (_:ts.length<=240) (_:∀(H':Hp)(t:Addr)(tr:WS)(rn:Option Nat),tr=t1\/tr=t2->(∀ i,rn=some i->i∈tr.F)->ZE p H H'->ZI H' p->H' t=some (.tup [YK (Z8 rn),.ref tr.d])->Q (.ref t) H')
abbrev AS:List Str:=["_law_well_here","_law_trees_here","_law_rows","_law_root_here","_law_record"]
theorem Uv:ZC AS ["_law_well_here","_law_trees_here"] (Ze KH):=Zs
theorem AE{gt:List KT}(F:Zj K "_law_root" "_law_root" KH f fd)(T:YG mg)(DP:ZA P w K mg base 1 "_law_pull" ["_law_well_here","_law_many"] Zp):ZK P w K mg base ZW 2 f fd ["_law_well_here","_law_trees_here"] (Wj gt):=by
 refine F.ok Uv (fun vs H Q E h=>(by obtain ⟨_,_,_,_,_,rfl,_⟩:=h;rfl)) (fun cdv A outer s H vs Q E hr h=>?_)
 obtain ⟨ts,p,L,t1,t2,rfl,W,hL,Lp,a1,a2,l240,k⟩:=h;have nd:=Uv.nd;refine ⟨_,ZQ (Q7 (Zl (r:=YB K) YD (pv 1) (Zh DP hr (ZF (pv 0) (ZF ZM ZG))) (fun _ _=>rfl)) (Ot rfl (QR (WT 2 nd) (QR (WT 3 nd) (QR (WT 4 nd) NS)))))
  (ZQ (Zz (PW.pt (O1 (Y3 (BW hr.units0) (pv 4) ML (YE _)) (NV (VT (KW (Zh DP hr (ZF (pv 0) (ZF ZM ZG))) ZM)))))
   (ZU (Zk 3 nd (Zl (r:=YB K) YD (VP (BC rfl) rfl T.list Qi (ZF (pv 4) ZG)) (Zh DP hr (ZF (pv 0) (ZF (Zy BI rfl T.len XY (ZF (pv 4) ZG)) ZG))) (fun _ _=>rfl)))) Z0)
  (ZU (Zg (Yq (ZF (pv 3) (ZF (pv 4) ZG)))))),?_⟩
 refine ⟨_,rfl,_,rfl,p,2,rfl,W,XI (by decide) (by decide),fun r H1 r0 r2 W1 s1=>?_⟩
 obtain ⟨tr,htr,hr'⟩:∃ tr,(tr=t1\/tr=t2)/\Xq [V.ref t1.T,.ref t2.T] r=some (.ref tr.T):=by
  have:r=0\/r=1:=by lia
  rcases this with rfl | rfl
  ·exact ⟨t1,.inl rfl,Yz (j:=0) rfl⟩
  ·exact ⟨t2,.inr rfl,Yz (j:=1) rfl⟩
 have at_:YW gt ts H tr:=by rcases htr with z | z <;> rw [z] <;> assumption
 obtain ⟨pw,hp⟩:=W.some;obtain ⟨pw1,hp1⟩:=W1.some;have m1:Z2 H H1:=s1.tups hp;have hd0:=at_.rcd.hd;have dp:tr.d≠p:=ZT hd0 hp;have hd1:=s1 _ _ hd0 dp;refine .inl ⟨L,_,r,_,rfl,rfl,ZL.of (s1 _ _ hL Lp),hr',tr.T,_,rfl,Zn.of (m1 _ _ at_.tp),rfl,_,_,rfl,_,_,rfl,_,_,rfl,rfl,?_⟩;refine ⟨_,rfl,fun e0 ne0=>?_⟩;have g2:=ZX ne0 (.dK []);have W2:=W1.same g2;have s2:ZE p H (upd H1 e0 (.dK [])):=fun b o e n=>g2 b o (s1 b o e n);have hd2:=g2 _ _ hd1;have e2:=ZO (H:=H1) (a:=e0) (o:=.dK []);generalize upd H1 e0 (.dK [])=H2 at g2 W2 s2 hd2 e2 ⊢;have lF:=LD _ _ at_.rcd.rcd.nd at_.rcd.rcd.lt;have lkv:=at_.rcd.rcd.len;have fin:∀(H3:Hp)(rn:Option Nat),(∀ i,rn=some i->i∈tr.F)->ZE p H H3->ZI H3 p->H3 tr.d=some (.dK tr.kv)->∀ x2:jf,ME (Ki (Yw (OW 3) (Yw (OW 4) Vs))) { nx:=fun _ H'=>Q .non H',rt:=Q } [some (.ref p),some (.ref L),x2,some (YK (Z8 rn)),some (.ref tr.d)] H3:=fun H3 rn jp s3 W3 hd3 x2=>by
  refine ⟨_,rfl,_,rfl,nn (zAB rfl),fun t nt=>?_⟩;have g:=ZX nt (.tup [YK (Z8 rn),.ref tr.d]);exact k _ t tr rn htr jp (fun b o e n=>g b o (s3 b o e n)) (W3.same g) ZO
 refine ⟨tr.d,e0,tr.kv,rfl,rfl,hd2,e2,_,rfl,?_⟩
 cases ek:tr.kv.isEmpty with
 | true=>exact Zo (Zo (fin H2 tr.rn at_.rt s2 W2 hd2 _))
 | false=>
  refine Zw ⟨_,rfl,p,2,rfl,W2,XI (by decide) (by decide),fun r' H3 r0' r2' W3 s3=>?_⟩
  have s03:ZE p H H3:=fun b o e n=>s3 b o (s2 b o e n) n;have hd3:=s3 _ _ hd2 dp;refine ⟨_,_,rfl,rfl,_,rfl,WU (fun c=>?_) (fun c=>?_)⟩
  ·refine ⟨_,rfl,tr.d,tr.kv,tr.F.map fun j:Nat=>(j:Int),rfl,hd3,by rw [at_.rcd.rcd.ks,zCG];rfl,by rw [zAD];lia,fun q nq=>?_⟩
   have g4:=ZX nq (.lst ((tr.F.map fun j:Nat=>(j:Int)).map V.int));have W4:=W3.same g4;have hd4:=g4 _ _ hd3;have eq4:=ZO (H:=H3) (a:=q) (o:=.lst ((tr.F.map fun j:Nat=>(j:Int)).map V.int));have s04:ZE p H (upd H3 q (.lst ((tr.F.map fun j:Nat=>(j:Int)).map V.int))):=fun b o e n=>g4 b o (s03 b o e n);generalize upd H3 q (.lst ((tr.F.map fun j:Nat=>(j:Int)).map V.int))=H4 at g4 W4 hd4 eq4 s04 ⊢;have k0:0<tr.kv.length:=by
    cases z:tr.kv with
    | nil=>rw [z] at ek;cases ek
    | cons _ _=>exact Nat.succ_pos _
   refine ⟨_,rfl,_,rfl,tr.d,tr.kv,rfl,hd4,p,_,rfl,W4,XI (by lia) (by rw [Int.natAbs_natCast];lia),fun z H5 z0 z1 W5 s5=>?_⟩
   have qp:q≠p:=(V5 W3 nq);obtain ⟨n,rfl⟩:=zBx z0;have hz:n<tr.F.length:=by lia
   have ez:Xq ((tr.F.map fun j:Nat=>(j:Int)).map V.int) (n:Int)=some (.int ((tr.F[n]:Nat):Int)):=Yz (by rw [zAN,zAN,zAE hz];rfl)
   exact .inl ⟨q,_,_,_,rfl,rfl,ZL.of (s5 _ _ eq4 qp),ez,fin H5 (some tr.F[n]) (fun i e=>by cases e;exact zAy _) (fun b o e n=>s5 b o (s04 b o e n) n) W5 (s5 _ _ hd4 dp) _⟩
  ·exact fin H3 tr.rn at_.rt s03 W3 hd3 _
end
theorem Ao:bootBuiltins "ValueError" = some (.type "ValueError"):=by decide +kernel
theorem GZ{X:Cx}{K:zAA}{e:Expr}{ta:TE}{f:Str}{pos:Pos}(he:PE X e ta)(hb:attributeBase e f X.env (eval e X.env)=eval e X.env)(hK:X.K=K:=by rfl):PE X (.Attribute e f pos) (Kw K ta f):=by
 subst hK;exact ZM1 he hb
def NQ(K:zAA):R2:=fun x y H Q=>∃(p b:Addr)(xs ys:List Bool),x=.ref p/\y=.ref b/\ZL K H p (xs.map V.bl)/\ZL K H b (ys.map V.bl)/\xs.length=ys.length/\Q (.bl ((zAx xs.length).all fun j=>xs.getD j false==ys.getD j false)) H
theorem KQ{X:Cx}{K:zAA}(hu:X.A.units<cLine)(hK:X.K=K:=by rfl):Yp X (compareOp .Eq) (NQ K):=by
 subst hK;exact F6 hu
theorem PU{ts:List ZR}{rn:Option Nat}(h:∀ i,rn=some i->i<ts.length):UY ts (Z8 rn)=true:=by
 cases rn with
 | none=>rfl
 | some i=>exact decide_eq_true ⟨by lia,by have:=h i rfl;lia⟩
structure Cl(K:zAA)(mg:jb)(CB CT CK CP:Addr):Prop where
 base:mg "TwigError" = some (.ref CB)
 n1:mg "NoTwig" = some (.ref CT)
 n2:mg "NoKey" = some (.ref CK)
 n3:mg "NoPlace" = some (.ref CP)
 ty:zA4 K (.ref CB)=some (.type "type")
 mB:zAr K CB (.type "BaseException")=some true
 sub:∀ C,C=CT\/C=CK\/C=CP->zAr K C (.ref CB)=some true/\Xx K C/\(∀ D,D=CT\/D=CK\/D=CP->zAZ K (.ref C) (.ref D)=some (decide (C=D)))/\zAZ K (.ref C) (.type "ValueError")=some true
 ne:CT≠CK/\CT≠CP/\CK≠CP
section
variable{P:Program}{w:World}{K:zAA}{mg:jb}{base:Heap}{f:Addr}{fd:FuncData}{jg jh CT CK CB CP:Addr}
inductive Vi(gt:List KT)(jg jh CT CK CP:Addr)(vs:je)(H:Hp)(Q:VK)(E:XK):Prop
 | mk (wy:Int) (S r x y:V) (_:vs=[.int wy,S,r,x,y]) (_:wy=0->VL gt jg jh CT CP [S,r,x] H Q E) (_:wy≠0->Zx gt jg jh CT CK [S,r,y] H Q E)
abbrev U7:List Str:=["_law_way","_law_shelf","_law_root_here","_law_one","_law_other"]
theorem BU:ZC U7 U7 (Ze Mw):=Zs
theorem ZMQ{gt:List KT}(F0:Zj K "_law_told" "_law_told" Mw f fd)(DN:Yd P w K mg base 6 "nth" ["shelf","root","at"] (VL gt jg jh CT CP))(DO:Yd P w K mg base 11 "place_of" ["shelf","root","key"] (Zx gt jg jh CT CK)):ZK P w K mg base (Xi P w) 12 f fd U7 (Vi gt jg jh CT CK CP):=by
 refine F0.okD BU (fun vs H Q E h=>(by obtain ⟨_,_,_,_,_,rfl,_⟩:=h;rfl)) (fun cdv A outer s H vs Q E hr h=>?_)
 obtain ⟨wy,S,r,x,y,rfl,k1,k2⟩:=h;refine ⟨_,ZQ (Zz (VT (KW (pv 0) ZM)) (ZU (Zg (Pj UP DN (hr.mono (by decide)) (Vu (pv 1) (pv 2) (pv 3))))) Z0) (ZU (Zg (Pj UP DO hr (Vu (pv 1) (pv 2) (pv 4))))),?_⟩
 refine ⟨_,rfl,_,_,rfl,rfl,_,rfl,WU (fun c=>?_) (fun c=>?_)⟩
 ·exact ⟨_,rfl,_,rfl,_,rfl,k1 (by simpa using c)⟩
 ·exact ⟨_,rfl,_,rfl,_,rfl,k2 (by simpa using c)⟩
inductive YI(gt:List KT)(jg jh:Addr)(vs:je)(H:Hp)(Q:VK)(E:XK):Prop
 | mk (X:Yk) (lk:Addr) (c:Nat) (ls:je) (wy:Int) (r:Option Int) (n:Int) (v:V) (N:Addr->Prop) (o:Option KT) (_:vs=[.int wy,.ref X.S,YK r,.int n,v]) (_:Z3 jg jh H X lk c ls) (_:WF gt X.ts) (_:∀ i,i<X.ts.length->(gd X.ts i).h<=60) (_:ls.length<=38000) (_:Uo N H o v)
  (_:wy=0->∀ rn,r=Z8 rn->(∀ i,rn=some i->i<X.ts.length)->¬ (0<=n/\n<(Qk X.ts rn:Nat))) (_:wy≠0->UY X.ts r=true->o=none)
  (_:∀ x,r=some x->inT X.ts x=false->∀ H' t,ZB H H'->H' t=some (.tup [.str "twig",.int x])->Q (.ref t) H') (_:UY X.ts r=true->wy=0->∀ H' t,ZB H H'->H' t=some (.tup [.str "place",.int n])->Q (.ref t) H') (_:UY X.ts r=true->wy≠0->∀ H' t,ZB H H'->H' t=some (.tup [.str "spot",.bl true])->Q (.ref t) H')
abbrev Dj:List Str:=["_law_way","_law_shelf","_law_root_here","_law_one","_law_other","e","_law_some"]
theorem WW:ZC Dj U7 (Ze Ma):=Zs
theorem ZHE{gt:List KT}(F0:Zj K "_law_refusal" "_law_refusal" Ma f fd)(T:YG mg)(NT:XN P w K mg base "NoTwig" CT "number")(NP:XN P w K mg base "NoPlace" CP "at")(L:Cl K mg CB CT CK CP)(DW:Yd P w K mg base 12 "_law_told" U7 (Vi gt jg jh CT CK CP)):ZK P w K mg base ZW 13 f fd U7 (YI gt jg jh):=by
 refine F0.ok WW (fun vs H Q E h=>(by obtain ⟨_,_,_,_,_,_,_,_,_,_,rfl,_⟩:=h;rfl)) (fun cdv A outer s H vs Q E hr h=>?_)
 obtain ⟨X,lk,c,ls,wy,r,n,v,N0,o,rfl,R,hw,low,few,hv,b1,b2,k1,k2,k3⟩:=h;have nd:=WW.nd;have hu:=hr.units0;obtain ⟨g,gd',FC,bC,kC,mC⟩:=DW.ex;obtain ⟨fT,fdT,eT,_,_⟩:=NT.ex;obtain ⟨fP,fdP,eP,_,_⟩:=NP.ex;refine ⟨_,ZQ (Cg (i:=5) FC hr rfl mC kC bC (fun E'=>QV (pv 0) (pv 1) (pv 2) (pv 3) (pv 4)) rfl rfl rfl rfl L.base nd rfl rfl L.ty L.mB
   (fun ea E'=>ZQ (Zk 6 nd (Yn (Vd (Zy (r:=OV K) O9 rfl T.isi WM (ZF (pv 5) (ZF (WE (v:=.ref CT) rfl L.n1 rfl) ZG))) (Zy (r:=OV K) O9 rfl T.isi WM (ZF (pv 5) (ZF (WE (v:=.ref CK) rfl L.n2 rfl) ZG)))
     (Zy (r:=OV K) O9 rfl T.isi WM (ZF (pv 5) (ZF (WE (v:=.ref CP) rfl L.n3 rfl) ZG))) (Lg (Zy (r:=OV K) O9 rfl T.isi WM (ZF (pv 5) (ZF (VC (v:=.ty "ValueError") rfl T.ValueError Ao rfl) ZG)))))))
    (ZQ (Zz (Y3 (r:=NQ K) (KQ hu) (pv 6) (Yn (Vd XT XT XT XT)) (YE _)) (ZU (Zg (Yq (ZF Xf (ZF (GZ (pv 5) (by rfl)) ZG))))) Z0)
    (ZQ (Zz (Y3 (r:=NQ K) (KQ hu) (pv 6) (Yn (Vd XT XT XT XT)) (YE _)) (ZU (Zg (Yq (ZF Xf (ZF (GZ (pv 5) (by rfl)) ZG))))) Z0)
    (ZU (Zg (Yq (ZF Xf (ZF (Wz (r:=NQ K) (KQ hu) (pv 6) (Yn (Vd XT XT XT XT)) (YE _)) ZG)))))))))
  (ZU (Zg (Yq (ZF Xf ZG)))),?_⟩
 obtain ⟨n1,n2,n3⟩:=L.ne;obtain ⟨sT,xT,kT,vT⟩:=L.sub CT (.inl rfl);obtain ⟨sK,xK,kK,vK⟩:=L.sub CK (.inr (.inl rfl));obtain ⟨sP,xP,kP,vP⟩:=L.sub CP (.inr (.inr rfl));have nx:∀{C D:Addr}{b:Option Bool},b=some (decide (C=D))->C≠D->b=some false:=fun e h=>by rw [e,decide_eq_false h]
 have yx:∀{C:Addr}{b:Option Bool},b=some (decide (C=C))->b=some true:=fun e=>by rw [e,decide_eq_true rfl]
 refine ⟨_,rfl,_,rfl,_,rfl,_,rfl,_,rfl,(fun(tw:∀ x,r=some x->inT X.ts x=false->QQ CT x _ H)=>⟨wy,_,_,_,_,rfl,fun w0=>⟨X,lk,c,ls,r,n,rfl,R,hw,low,few,tw,fun rn er jp hn dx H1 s1 edx=>⟨CP,rfl,sP,fun ea hea=>?_⟩,fun i m er hi en hm=>?_⟩,fun w1=>⟨X,lk,c,ls,r,v,o,rfl,⟨R,hw,low,few,⟨N0,hv⟩,tw,fun gr on H1 s1=>⟨CK,rfl,sK,fun ea hea=>?_⟩⟩,fun k rn ek er jp=>?_⟩⟩) fun x ex hx dx H1 s1 edx=>⟨CT,rfl,sT,fun ea hea=>?_⟩⟩
 ·have g1:=ZX hea (XO WQ ea CP (some dx));have ee:upd H1 ea (XO WQ ea CP (some dx)) ea=some (XO WQ ea CP (some dx)):=ZO;have ix:OT (upd H1 ea (XO WQ ea CP (some dx))) ea CP:=My ee;have s01:=s1.trans g1;refine ⟨_,rfl,ea,CP,_,false,rfl,ix,xP,rfl,(nx (kP _ (.inl rfl)) (Ne.symm n2)),_,rfl,ea,CP,_,false,rfl,ix,xP,rfl,(nx (kP _ (.inr (.inl rfl))) (Ne.symm n3)),_,rfl,ea,CP,_,true,rfl,ix,xP,rfl,(yx (kP _ (.inr (.inr rfl)))),_,rfl,ea,CP,_,true,rfl,ix,xP,rfl,vP,_,rfl,nn (zAB rfl),fun q nq=>?_⟩;have g3:=ZX nq (.lst ([false,false,true,false].map V.bl));have eq:=ZO (H:=upd H1 ea (XO WQ ea CP (some dx))) (a:=q) (o:=.lst ([false,false,true,false].map V.bl));refine ⟨_,rfl,nn (zAB rfl),fun q2 nq2=>?_⟩;have g4:=ZX nq2 (.lst ([true,false,false,false].map V.bl));refine ⟨q,q2,[false,false,true,false],[true,false,false,false],rfl,rfl,ZL.of (g4 _ _ eq),ZL.of ZO,rfl,_,rfl,?_⟩;refine Zo ⟨_,rfl,nn (zAB rfl),fun q3 nq3=>?_⟩;have g5:=ZX nq3 (.lst ([false,false,true,false].map V.bl));refine ⟨q,q3,[false,false,true,false],[false,false,true,false],rfl,rfl,ZL.of (g5 _ _ (g4 _ _ eq)),ZL.of ZO,rfl,_,rfl,?_⟩;refine Zw ⟨_,rfl,WQ,ea,CP,dx,_,_,fP,rfl,g5 _ _ (g4 _ _ (g3 _ _ ee)),g5 _ _ (g4 _ _ (g3 _ _ (g1 _ _ edx))),eP,rfl,nn (zAB rfl),fun t nt=>?_⟩;exact k2 (by rw [er];exact PU jp) w0 _ t ((((s01.trans g3).trans g4).trans g5).trans (ZX nt _)) ZO
 ·exact absurd ⟨by lia,by show n<(((gd X.ts i).rows.length:Nat):Int);lia⟩ (b1 w0 (some i) er fun j e=>by cases e;exact hi)
 ·have g1:=ZX hea (XO WQ ea CK none);have ee:upd H1 ea (XO WQ ea CK none) ea=some (XO WQ ea CK none):=ZO;have ix:OT (upd H1 ea (XO WQ ea CK none)) ea CK:=My ee;have s01:=s1.trans g1;refine ⟨_,rfl,ea,CK,_,false,rfl,ix,xK,rfl,(nx (kK _ (.inl rfl)) (Ne.symm n1)),_,rfl,ea,CK,_,true,rfl,ix,xK,rfl,(yx (kK _ (.inr (.inl rfl)))),_,rfl,ea,CK,_,false,rfl,ix,xK,rfl,(nx (kK _ (.inr (.inr rfl))) n3),_,rfl,ea,CK,_,true,rfl,ix,xK,rfl,vK,_,rfl,nn (zAB rfl),fun q nq=>?_⟩;have g3:=ZX nq (.lst ([false,true,false,false].map V.bl));have eq:=ZO (H:=upd H1 ea (XO WQ ea CK none)) (a:=q) (o:=.lst ([false,true,false,false].map V.bl));refine ⟨_,rfl,nn (zAB rfl),fun q2 nq2=>?_⟩;have g4:=ZX nq2 (.lst ([true,false,false,false].map V.bl));refine ⟨q,q2,[false,true,false,false],[true,false,false,false],rfl,rfl,ZL.of (g4 _ _ eq),ZL.of ZO,rfl,_,rfl,?_⟩;refine Zo ⟨_,rfl,nn (zAB rfl),fun q3 nq3=>?_⟩;have g5:=ZX nq3 (.lst ([false,false,true,false].map V.bl));refine ⟨q,q3,[false,true,false,false],[false,false,true,false],rfl,rfl,ZL.of (g5 _ _ (g4 _ _ eq)),ZL.of ZO,rfl,_,rfl,?_⟩;refine Zo ⟨_,rfl,nn (zAB rfl),fun q4 nq4=>?_⟩;have g6:=ZX nq4 (.lst ([false,true,false,false].map V.bl));refine ⟨q,q4,[false,true,false,false],[false,true,false,false],rfl,rfl,ZL.of (g6 _ _ (g5 _ _ (g4 _ _ eq))),ZL.of ZO,rfl,nn (zAB rfl),fun t nt=>?_⟩;exact k3 gr w1 _ t (((((s01.trans g3).trans g4).trans g5).trans g6).trans (ZX nt _)) ZO
 ·have:=b2 w1 (by rw [er];exact PU jp)
  rw [this] at ek;cases ek
 ·have g1:=ZX hea (XO WQ ea CT (some dx));have ee:upd H1 ea (XO WQ ea CT (some dx)) ea=some (XO WQ ea CT (some dx)):=ZO;have ix:OT (upd H1 ea (XO WQ ea CT (some dx))) ea CT:=My ee;have s01:=s1.trans g1;refine ⟨_,rfl,ea,CT,_,true,rfl,ix,xT,rfl,(yx (kT _ (.inl rfl))),_,rfl,ea,CT,_,false,rfl,ix,xT,rfl,(nx (kT _ (.inr (.inl rfl))) n1),_,rfl,ea,CT,_,false,rfl,ix,xT,rfl,(nx (kT _ (.inr (.inr rfl))) n2),_,rfl,ea,CT,_,true,rfl,ix,xT,rfl,vT,_,rfl,nn (zAB rfl),fun q nq=>?_⟩;have g3:=ZX nq (.lst ([true,false,false,false].map V.bl));have eq:=ZO (H:=upd H1 ea (XO WQ ea CT (some dx))) (a:=q) (o:=.lst ([true,false,false,false].map V.bl));refine ⟨_,rfl,nn (zAB rfl),fun q2 nq2=>?_⟩;have g4:=ZX nq2 (.lst ([true,false,false,false].map V.bl));refine ⟨q,q2,[true,false,false,false],[true,false,false,false],rfl,rfl,ZL.of (g4 _ _ eq),ZL.of ZO,rfl,_,rfl,?_⟩;refine Zw ⟨_,rfl,WQ,ea,CT,dx,_,_,fT,rfl,g4 _ _ (g3 _ _ ee),g4 _ _ (g3 _ _ (g1 _ _ edx)),eT,rfl,nn (zAB rfl),fun t nt=>?_⟩;exact k1 x ex hx _ t (((s01.trans g3).trans g4).trans (ZX nt _)) ZO
end
theorem EK{X:Cx}:U0 (Xi X.prog X.w) X E0:=fun _ _ _ _ _ _ _ h=>by
 obtain ⟨_,_,_,_,_,_,q⟩:=h;exact q.elim
theorem KO{X:Cx}{k:Nat}{x:Str}{ps:List Str}{sp:Sp}{e:Expr}{es:List Expr}{t:TA}{p pos:Pos}(D:Yd X.prog X.w X.K X.mg X.base k x ps sp)(hr:ZY k X.A)(ha:PA X (e :: es) t)(hg:Gl X x:=by rfl)(jy:(x==("__debug__" : Str))=false:=by decide)(he:starEach (e :: es) X.env=(false,eval e X.env) :: starEach es X.env:=by rfl)(jv:(backTo pos (starEach es X.env)).any (·.1)=false:=by rfl):
  PE X (.Call (.Name x p) (e :: es) [] pos) (OY sp [] E0 t):=by
 obtain ⟨f,fd,FF,b,kp,m⟩:=D.ex;exact MT FF hr hg m kp b .nil EK ha jy he jv
section
variable{P:Program}{w:World}{K:zAA}{mg:jb}{base:Heap}{f:Addr}{fd:FuncData}{jg jh CT CK CP:Addr}
inductive Xj(vs:je)(H:Hp)(Q:VK)(_:XK):Prop
 | mk (n m:Int) (_:vs=[.int n,.int m]) (_:Q (.bl (decide (n=m))) H)
theorem Ep:ZC ["_law_found","_law_due"] ["_law_found","_law_due"] (Ze MM):=Zs
theorem DZ(F:Zj K "_law_whole" "_law_whole" MM f fd)(T:YG mg):ZK P w K mg base ZW 1 f fd ["_law_found","_law_due"] Xj:=by
 refine F.ok Ep (fun vs H Q E h=>(by obtain ⟨_,_,rfl,_⟩:=h;rfl)) (fun cdv A outer s H vs Q E hr h=>?_)
 obtain ⟨n,m,rfl,q⟩:=h;refine ⟨_,ZU (Zg (UK (Zy VW rfl T.isi WM (ZF (pv 0) (ZF (VC (v:=.ty "int") rfl T.int QA rfl) ZG))) (UK (Lg (Zy VW rfl T.isi WM (ZF (pv 0) (ZF (VC (v:=.ty "bool") rfl T.bool KB rfl) ZG)))) (QM (Wz Wy (pv 0) (pv 1) (YE _)))))),?_⟩;refine ⟨_,rfl,_,_,_,_,rfl,.int n,OQ,_,rfl,Zw ⟨_,rfl,_,_,_,_,rfl,.int n,Lv,_,rfl,_,rfl,Zw ⟨_,rfl,_,rfl,rfl,?_⟩⟩⟩;have e:decide (V.int n=V.int m)=decide (n=m):=by
  by_cases z:n=m
  ·rw [z,decide_eq_true rfl,decide_eq_true rfl]
  ·rw [decide_eq_false z,decide_eq_false fun y=>z (Pp y)]
 rw [e];exact q
inductive Xv(vs:je)(H:Hp)(Q:VK)(_:XK):Prop
 | mk (p:Addr) (n:Nat) (_:vs=[.ref p,.int (n:Nat)]) (_:ZI H p) (_:n<=60) (_:∀(r:Int)(H':Hp),ZI H' p->ZE p H H'->Q (.int r) H')
theorem VD:ZC ["_law_well_here","_law_many","_law_way"] ["_law_well_here","_law_many"] (Ze Nq):=Zs
theorem ZJN(F:Zj K "_law_place" "_law_place" Nq f fd)(DP:ZA P w K mg base 1 "_law_pull" ["_law_well_here","_law_many"] Zp):ZK P w K mg base ZW 2 f fd ["_law_well_here","_law_many"] Xv:=by
 refine F.ok VD (fun vs H Q E h=>(by obtain ⟨_,_,rfl,_⟩:=h;rfl)) (fun cdv A outer s H vs Q E hr h=>?_)
 obtain ⟨p,n,rfl,W,n60,k⟩:=h;have nd:=VD.nd;refine ⟨_,ZQ (Zk 2 nd (Zh DP hr (ZF (pv 0) (ZF ZM ZG))))
  (ZQ (Zz (VT (KW (pv 2) ZM)) (ZU (Zg (Zl (r:=YB K) YD (Yn (Vd (QX Qg ZM) (pv 1) (QX Qg (Zv PX ZM ZM)) (Zv PX ZM ZM))) (Zh DP hr (ZF (pv 0) (ZF ZM ZG))) (fun _ _=>rfl)))) Z0)
  (ZU (Zg (Zv Vo (Zh DP hr (ZF (pv 0) (ZF (Zv WJ (pv 1) ZM) ZG))) ZM)))),?_⟩
 refine ⟨_,rfl,p,4,rfl,W,XI (by decide) (by decide),fun r H1 r0 r4 W1 s1=>⟨_,rfl,_,_,rfl,rfl,_,rfl,WU (fun c=>?_) (fun c=>?_)⟩⟩
 ·refine ⟨1,rfl,_,rfl,_,_,rfl,rfl,⟨by decide,by decide,by decide⟩,_,rfl,_,_,rfl,rfl,⟨by decide,by decide,by decide⟩,nn (zAB rfl),fun q nq=>?_⟩
  have g:=ZX nq (.lst [.int (-1),.int (n:Nat),.int (-((10:Int) ^ (30:Int).toNat)),.int ((10:Int) ^ (30:Int).toNat)]);have eq:=ZO (H:=H1) (a:=q) (o:=.lst [.int (-1),.int (n:Nat),.int (-((10:Int) ^ (30:Int).toNat)),.int ((10:Int) ^ (30:Int).toNat)]);refine ⟨_,rfl,p,4,rfl,W1.same g,XI (by decide) (by decide),fun z H3 z0 z4 W3 s3=>?_⟩
  obtain ⟨u,eu⟩:∃ u,Xq [V.int (-1),.int (n:Nat),.int (-((10:Int) ^ (30:Int).toNat)),.int ((10:Int) ^ (30:Int).toNat)] z=some (.int u):=by
   have:z=0\/z=1\/z=2\/z=3:=by lia
   rcases this with rfl | rfl | rfl | rfl
   ·exact ⟨_,Yz (j:=0) rfl⟩
   ·exact ⟨_,Yz (j:=1) rfl⟩
   ·exact ⟨_,Yz (j:=2) rfl⟩
   ·exact ⟨_,Yz (j:=3) rfl⟩
  exact .inl ⟨q,_,z,_,rfl,rfl,ZL.of (s3 _ _ eq (V5 W1 nq)),eu,k u H3 W3 fun b o e n=>s3 b o (g b o (s1 b o e n)) n⟩
 ·refine ⟨_,rfl,_,rfl,_,_,rfl,rfl,p,_,rfl,W1,XI (by lia) (by lia),fun z H2 z0 z1 W2 s2=>⟨_,_,rfl,rfl,k _ H2 W2 (s1.trans s2)⟩⟩
end
theorem LJ{a b:Option Nat}(h:Z8 a=Z8 b):a=b:=by
 cases a with
 | none=>
  cases b with
  | none=>rfl
  | some b=>cases h
 | some a=>
  cases b with
  | none=>cases h
  | some b=>
   have e:(a:Int)=(b:Int):=zAj.inj h;have:a=b:=by lia
   rw [this]
theorem Cr{r:Z5}(h:r.fit):(Ul r).wide 4=true:=by
 unfold Ul;rw [KT.wide,Nx];have h1:=Ln _ _ h.1;have h2:=Ln _ _ h.2;simp [h1,h2]
theorem Cf{gt:List KT}{ts:List ZR}(hw:WF gt ts){rn:Option Nat}(h:∀ i,rn=some i->i<ts.length):(∀ r∈Y8 ts rn,r.fit)/\((Y8 ts rn).map (·.1)).Pairwise fun a b=>a.lt b=true:=by
 cases rn with
 | none=>exact ⟨fun r hr=>by simp [Y8] at hr,.nil⟩
 | some i=>exact ⟨(hw i _ (XD (h i rfl))).inn,(hw i _ (XD (h i rfl))).up⟩
theorem Ax(ts:List ZR)(rn:Option Nat):Qk ts rn=(Y8 ts rn).length:=by cases rn <;> rfl
theorem Ii(ts:List ZR)(k:KT)(rn:Option Nat):Qc ts k rn=WH ((Y8 ts rn).map (·.1)) k:=by cases rn <;> rfl
structure QD(gt:List KT)(jg jh:Addr)(H:Hp)(X:Yk)(lk:Addr)(c:Nat)(ls:je)(rn:Option Nat)(l:Addr)(us:je):Prop where
 sh:Z3 jg jh H X lk c ls
 wf:WF gt X.ts
 low:∀ i,i<X.ts.length->QG (gd X.ts i)
 few:ls.length<=37000
 rt:∀ i,rn=some i->i<X.ts.length
 hl:H l=some (.lst us)
 llk:l≠lk
 ks:KeysAt H (Z6 (Y8 X.ts rn)) us
theorem QD.go{gt:List KT}{jg jh:Addr}{H H':Hp}{X:Yk}{lk:Addr}{c:Nat}{ls ls':je}{rn:Option Nat}{l:Addr}{us:je}(h:QD gt jg jh H X lk c ls rn l us)(sh:Z3 jg jh H' X lk c ls')(few:ls'.length<=37000)(hl:∀ o,H l=some o->H' l=some o)(m:Z2 H H'):QD gt jg jh H' X lk c ls' rn l us:=
 ⟨sh,h.wf,h.low,few,h.rt,hl _ h.hl,h.llk,h.ks.mono m _ _⟩
theorem QD.len{gt:List KT}{jg jh:Addr}{H:Hp}{X:Yk}{lk:Addr}{c:Nat}{ls:je}{rn:Option Nat}{l:Addr}{us:je}(h:QD gt jg jh H X lk c ls rn l us):us.length=(Y8 X.ts rn).length/\us.length<=60:=by
 have:=h.ks.length;unfold Z6 at this;rw [zAD] at this;refine ⟨this.symm,?_⟩
 cases rn with
 | none=>rw [<-this];exact zAk _
 | some i=>rw [<-this];exact (h.low i (h.rt i rfl)).2
theorem QD.row{gt:List KT}{jg jh:Addr}{H:Hp}{X:Yk}{lk:Addr}{c:Nat}{ls:je}{rn:Option Nat}{l:Addr}{us:je}(h:QD gt jg jh H X lk c ls rn l us){n:Nat}(hn:n<us.length):∃ i,rn=some i/\i<X.ts.length/\n<(gd X.ts i).rows.length/\ZD H (Ul ((gd X.ts i).rows.getD n rd)) us[n]/\((gd X.ts i).rows.getD n rd).fit:=by
 have hl:=h.len.1
 cases rn with
 | none=>rw [show (Y8 X.ts none).length=0 from rfl] at hl;lia
 | some i=>
  have hi:=h.rt i rfl;have hn':n<(gd X.ts i).rows.length:=by have:us.length=(gd X.ts i).rows.length:=hl;lia
  obtain ⟨t,et,kt⟩:=h.ks.get (zAE hn);unfold Z6 at et;rw [zAN] at et;have eg:(Y8 X.ts (some i))[n]? = some (gd X.ts i).rows[n]:=zAE hn';rw [eg] at et;cases et;have e2:(gd X.ts i).rows.getD n rd=(gd X.ts i).rows[n]:=by rw [zAC,zAE hn'];rfl
  exact ⟨i,rfl,hi,hn',by rw [e2];exact kt,by rw [e2];exact (h.wf i _ (XD hi)).inn _ (zAy _)⟩
section
variable{P:Program}{w:World}{K:zAA}{mg:jb}{base:Heap}{f:Addr}{fd:FuncData}{jg jh CT CK CP:Addr}
inductive Vl(gt:List KT)(jg jh:Addr)(vs:je)(H:Hp)(Q:VK)(E:XK):Prop
 | mk (X:Yk) (lk:Addr) (c:Nat) (ls:je) (rn:Option Nat) (l:Addr) (us:je) (n:Int) (_:vs=[.ref X.S,YK (Z8 rn),.ref l,.int n]) (_:QD gt jg jh H X lk c ls rn l us) (_:∀(H':Hp)(ls':je),(∀ b o,b≠lk->H b=some o->H' b=some o)->Z3 jg jh H' X lk c ls'->ls'.length<=ls.length+61->Q (.bl true) H')
abbrev EV:List Str:=["_law_shelf","_law_root_here","_law_rows","_law_at","_law_told_here"]
abbrev MV:List Str:=["_law_shelf","_law_root_here","_law_rows","_law_at"]
theorem Uh:ZC EV MV (Ze M5):=Zs
theorem Dg{gt:List KT}(F0:Zj K "_law_nth" "_law_nth" M5 f fd)(T:YG mg)(DF:ZA P w K mg base 13 "_law_refusal" U7 (YI gt jg jh))(DH:ZA P w K mg base 1 "_law_whole" ["_law_found","_law_due"] Xj)(DA:ZA P w K mg base 6 "_law_alike" ["_law_found","_law_due"] (Yr 5))(DN:Yd P w K mg base 6 "nth" ["shelf","root","at"] (VL gt jg jh CT CP)):
  ZK P w K mg base ZW 14 f fd MV (Vl gt jg jh):=by
 refine F0.ok Uh (fun vs H Q E h=>(by obtain ⟨_,_,_,_,_,_,_,_,rfl,_⟩:=h;rfl)) (fun cdv A outer s H vs Q E hr h=>?_)
 obtain ⟨X,lk,c,ls,rn,l,us,n,rfl,A0,k⟩:=h;have nd:=Uh.nd;have hr1:=hr.mono (show 1<=13 by decide)
 have hr6:=hr.mono (show 6<=13 by decide)
 refine ⟨_,ZQ (Zz (PW.pt (Pc (VT (Ju (pv 3) ZM)) (Pu (VT (Gc (pv 3) (Zy Xh rfl T.len XY (ZF (pv 2) ZG)))))))
   (ZQ (Zk 4 nd (Zh DF hr (QV ZM (pv 0) (pv 1) (pv 3) ZM)))
   (ZU (Zg (UK (Wz (FQ hr.units0) (pv 4) (Yq (ZF Xf (ZF (pv 3) ZG))) (YE _)) (QM (Zh DH hr1 (ZF (Zl (r:=Xe K) Zi (pv 4) ZM (fun _ _=>rfl)) (ZF (pv 3) ZG)))))))) Z0)
  (ZU (Zg (Zh DA hr6 (ZF (KO DN hr6 (Vu (pv 0) (pv 1) (pv 3))) (ZF (Zl (r:=YB K) YD (pv 2) (pv 3) (fun _ _=>rfl)) ZG))))),?_⟩
 obtain ⟨lu,l60⟩:=A0.len;have low:∀ i,i<X.ts.length->(gd X.ts i).h<=60:=fun i hi=>(A0.low i hi).1;refine ⟨_,rfl,_,_,rfl,rfl,_,rfl,?_⟩;show if decide (n<0)=true then _ else _
 by_cases hn:0<=n/\n<(us.length:Int)
 ·rw [decide_eq_false (by lia)]
  refine Zo ⟨_,rfl,_,rfl,l,us,rfl,.inl (ZL.of A0.hl),_,_,rfl,rfl,_,rfl,?_⟩;show if decide ((us.length:Int)<=n)=true then _ else _
  rw [decide_eq_false (by lia)]
  obtain ⟨m,rfl⟩:=zBx hn.1;have hm:m<us.length:=by lia
  obtain ⟨i,rfl,hi,hmi,kr,fr⟩:=A0.row hm;refine Zo ⟨_,rfl,_,rfl,_,rfl,X,lk,c,ls,_,_,rfl,A0.sh,A0.wf,low,zAv A0.few (by decide),fun x ex hx=>?_,fun rn' er jp hno=>?_,fun i' m' er hi' em hm' H1 v ls1 fr1 R1 l1 kv=>?_⟩
  ·cases ex;rw [show inT X.ts (i:Int)=true from PU (rn:=some i) fun j e=>by cases e;exact hi] at hx
   cases hx
  ·have e:=LJ (a:=some i) er;subst e;exact absurd ⟨hn.1,by show (m:Int)<((gd X.ts i).rows.length:Int);lia⟩ hno
  ·have e1:(i:Int)=(i':Int):=zAj.inj er;have e2:i=i':=by lia
   have e3:m=m':=by lia
   subst e2 e3;have m1:Z2 H H1:=fun b xs e=>fr1 b _ (ZT e A0.sh.sh.looks) e;refine ⟨_,rfl,_,rfl,.inl ⟨l,us,_,_,rfl,rfl,ZL.of (fr1 _ _ A0.llk A0.hl),Yz (zAE hm),v,us[m],_,_,4,rfl,kv,kr.mono m1 _ _,Cr fr,by decide,fun H2 s2=>?_⟩⟩
   rw [UZ];exact k H2 ls1 (fun b o n e=>s2 b o (fr1 b o n e)) (R1.same s2) l1
 ·rcases Int.lt_or_le n 0 with c0 | c0
  case' inr=>
   rw [decide_eq_false (by lia)]
   refine Zo ⟨_,rfl,_,rfl,l,us,rfl,.inl (ZL.of A0.hl),_,_,rfl,rfl,_,rfl,?_⟩;show if decide ((us.length:Int)<=n)=true then _ else _
   rw [decide_eq_true (by lia)]
  case' inl=>rw [decide_eq_true c0]
  all_goals
   refine Zw ⟨_,rfl,_,rfl,_,rfl,X,lk,c,ls,0,Z8 rn,n,.int 0,(fun _=>False),some (.int 0),rfl,A0.sh,A0.wf,low,zAv A0.few (by decide),⟨.int 0,by decide +kernel⟩,fun _ rn' er jp=>?_,fun z=>absurd rfl z,fun x ex hx=>?_,fun _ _ H1 t s1 ht=>?_,fun _ z=>absurd rfl z⟩
   ·have e:=LJ er;subst e;rw [Ax,<-lu];exact hn
   ·have:=PU A0.rt;rw [ex] at this;rw [show inT X.ts x=true from this] at hx;cases hx
   refine ⟨_,rfl,_,rfl,nn (zAB rfl),fun q nq=>?_⟩;have g:=ZX nq (.tup [.str "place",.int n]);refine ⟨t,q,_,rfl,rfl,Zn.of (g _ _ ht),Zn.of ZO,fun v hv=>?_,_,rfl,Zw ?_⟩
   ·simp only [zAe,zBo,or_false] at hv;rcases hv with rfl | rfl <;> rfl
   refine ⟨_,rfl,t,_,_,.int n,rfl,rfl,Zn.of (g _ _ ht),Yz (j:=1) rfl,_,rfl,n,n,rfl,?_⟩;rw [decide_eq_true rfl];exact k _ ls (fun b o _ e=>g b o (s1 b o e)) (A0.sh.same (s1.trans g)) (by lia)
end
theorem Z3.well{jg jh:Addr}{H H':Hp}{X:Yk}{lk p:Addr}{c:Nat}{ls:je}(R:Z3 jg jh H X lk c ls)(W:ZI H p)(plk:p≠lk)(own:∀ i:Nat,i<X.ts.length->(X.as.getD i .d).ab≠p/\(X.as.getD i .d).th≠p)(s:ZE p H H'):Z3 jg jh H' X lk c ls:=by
 obtain ⟨pw,hp⟩:=W.some;obtain ⟨⟨dS,hS⟩,hd,_⟩:=id R.sh;refine R.but s ?_ (fun i hi=>⟨?_,own i hi⟩) (s.tups hp)
 ·rintro (z | z | z)
  ·exact ZT hp hS (by intro z;cases z) z
  ·exact ZT hp hd (by intro z;cases z) z
  ·exact plk z
 ·obtain ⟨dy,hy⟩:=(R.tw i hi).tw.self;exact ZT hy hp
theorem ZM9{ks:List KT}(h:ks.Pairwise fun a b=>a.lt b=true){m:Nat}{t:KT}(e:ks[m]? = some t):WH ks t=m:=by
 have hm:=(zAK.mp e).1;refine Kh (zBJ hm) (fun i a hi ea=>OJ h hi ea e) fun i a hi ea=>?_;rcases zAg m i with z | z
 ·exact Qn _ _ (OJ h z e ea)
 ·have:i=m:=by lia
  rw [this,e] at ea;cases ea;exact Ur _
section
variable{P:Program}{w:World}{K:zAA}{mg:jb}{base:Heap}{f:Addr}{fd:FuncData}{jg jh CT CK CP:Addr}
inductive Xp(gt:List KT)(jg jh:Addr)(vs:je)(H:Hp)(Q:VK)(E:XK):Prop
 | mk (X:Yk) (lk:Addr) (c:Nat) (ls:je) (rn:Option Nat) (l:Addr) (us:je) (p:Addr) (v:V) (k:KT) (_:vs=[.ref p,.ref X.S,YK (Z8 rn),.ref l,v]) (_:QD gt jg jh H X lk c ls rn l us) (_:ls.length<=36000) (_:ZI H p) (_:p≠lk) (_:∀ i:Nat,i<X.ts.length->(X.as.getD i .d).ab≠p/\(X.as.getD i .d).th≠p) (_:l≠p) (_:ZD H k v) (_:k.fits 3=true)
  (_:∀(H':Hp)(ls':je),(∀ b o,b≠lk->b≠p->H b=some o->H' b=some o)->ZI H' p->Z3 jg jh H' X lk c ls'->ls'.length<=ls.length+244->Q (.bl true) H')
abbrev E9:List Str:=["_law_well_here","_law_shelf","_law_root_here","_law_rows","_law_spot","_law_due","_law_at"]
abbrev Oe:List Str:=["_law_well_here","_law_shelf","_law_root_here","_law_rows","_law_spot"]
theorem Vz:ZC E9 Oe (Ze Lk):=Zs
theorem Cu{gt:List KT}(F0:Zj K "_law_asked" "_law_asked" Lk f fd)(T:YG mg)(DL:ZA P w K mg base 14 "_law_nth" MV (Vl gt jg jh))(DH:ZA P w K mg base 1 "_law_whole" ["_law_found","_law_due"] Xj)(DQ:ZA P w K mg base 2 "_law_place" ["_law_well_here","_law_many"] Xv)(DP:ZA P w K mg base 1 "_law_pull" ["_law_well_here","_law_many"] Zp)(DR:ZA P w K mg base 6 "_law_rank" ["_law_spot"] (Yx 5))(DO:Yd P w K mg base 11 "place_of" ["shelf","root","key"] (Zx gt jg jh CT CK)):
  ZK P w K mg base ZW 15 f fd Oe (Xp gt jg jh):=by
 refine F0.ok Vz (fun vs H Q E h=>(by obtain ⟨_,_,_,_,_,_,_,_,_,_,rfl,_⟩:=h;rfl)) (fun cdv A outer s H vs Q E hr h=>?_)
 obtain ⟨X,lk,c,ls,rn,l,us,p,v,k,rfl,A0,few,W,plk,own,lp,kv,fk,q⟩:=h;have nd:=Vz.nd;have hr1:=hr.mono (show 1<=14 by decide)
 have hr2:=hr.mono (show 2<=14 by decide)
 have hr6:=hr.mono (show 6<=14 by decide)
 have hr11:=hr.mono (show 11<=14 by decide)
 refine ⟨_,ZQ (Zz (Vh (XH (Zh DL hr (Vd (pv 1) (pv 2) (pv 3) (Zh DQ hr2 (ZF (pv 0) (ZF (Zy Xh rfl T.len XY (ZF (pv 3) ZG)) ZG))))))) (ZU (Zg XT)) Z0)
  (ZQ (Zk 5 nd (Zy Xh rfl T.len XY (ZF (VR [4] ["_law_spot"] rfl (VO (pv 3)) (fun _ _ _ _ _=>Nu (Y3 (IJ hr6) (Zh DR hr6 (ZF (Zl (r:=Xe K) Zi (pv 0) ZM (fun _ _=>rfl)) ZG)) (Zh DR hr6 (ZF (pv 1) ZG)) (YE _))) (fun _ _ _ _ _=>pv 0) ⟨rfl,.inl rfl,rfl,trivial⟩) ZG)))
  (ZQ (Zz (Vh (XH (Zh DH hr1 (ZF (KO DO hr11 (Vu (pv 1) (pv 2) (pv 4))) (ZF (pv 5) ZG))))) (ZU (Zg XT)) Z0)
  (ZQ (Zz (Y3 (FV hr.units0) (pv 3) (Yn ZG) (YE _)) (ZU (Zg XT)) Z0)
  (ZQ (Zk 6 nd (Zh DP hr1 (ZF (pv 0) (ZF (Zy Xh rfl T.len XY (ZF (pv 3) ZG)) ZG))))
  (ZU (Zg (UK (Zh DH hr1 (ZF (KO DO hr11 (Vu (pv 1) (pv 2) (Zl (r:=Xe K) Zi (Zl (r:=YB K) YD (pv 3) (pv 6) (fun _ _=>rfl)) ZM (fun _ _=>rfl)))) (ZF (pv 6) ZG))) (QM (Zh DL hr (Vd (pv 1) (pv 2) (pv 3) (pv 6))))))))))),?_⟩
 obtain ⟨lu,l60⟩:=A0.len;obtain ⟨rfit,rup⟩:=Cf A0.wf A0.rt;have low:∀ i,i<X.ts.length->(gd X.ts i).h<=60:=fun i hi=>(A0.low i hi).1;have hlk:=A0.sh.sh.looks;obtain ⟨pw,hp⟩:=W.some;have pof:∀{H1:Hp}{ls1:je}{u:V}{t:KT}{Q1:VK},Z3 jg jh H1 X lk c ls1->ls1.length<=37000->ZD H1 t u->t.fits 3=true->(∀(H2:Hp)(ls2:je),(∀ b o,b≠lk->H1 b=some o->H2 b=some o)->Z3 jg jh H2 X lk c ls2->ls2.length<=ls1.length+61->Q1 (.int (Qc X.ts t rn:Nat)) H2)->Zx gt jg jh CT CK ([.ref X.S,YK (Z8 rn),u]++[]) H1 Q1 E0:=fun{H1 ls1 u t Q1} R1 f1 ku ft hq=>by
  refine ⟨X,lk,c,ls1,Z8 rn,u,some t,rfl,⟨R1,A0.wf,low,by lia,⟨fun _=>False,ku,ft⟩,fun x ex hx=>?_,fun _ z=>by cases z⟩,fun k' rn' ek er jp H2 ls2 fr2 R2 l2=>?_⟩
  ·have:=PU A0.rt;rw [ex] at this;rw [show inT X.ts x=true from this] at hx;cases hx
  ·cases ek;have:=LJ er;subst this;exact hq H2 ls2 fr2 R2 l2
 refine ⟨_,rfl,_,rfl,_,rfl,_,rfl,_,rfl,l,us,rfl,.inl (ZL.of A0.hl),p,us.length,rfl,W,l60,fun r H1 W1 s1=>?_⟩;have R1:=A0.sh.well W plk own s1;have A1:=A0.go R1 A0.few (fun o e=>s1 _ _ e lp) (s1.tups hp);refine ⟨X,lk,c,ls,rn,l,us,r,rfl,A1,fun H2 ls2 fr2 R2 l2=>⟨_,rfl,Zo ?_⟩⟩;have m12:Z2 H1 H2:=fun b xs e=>fr2 b _ (ZT e R1.sh.looks) e;have W2:=Q5 W1 fun o e=>fr2 _ _ plk e;have A2:=A1.go R2 (by lia) (fun o e=>fr2 _ _ A0.llk e) m12
 have kv2:=(kv.mono (s1.tups hp) _ _).mono m12 _ _;have f02:∀ b o,b≠lk->b≠p->H b=some o->H2 b=some o:=fun b o n1 n2 e=>fr2 b o n1 (s1 b o e n2);have h2:=A2.hl;have kr:=A2.ks;have dk:=UC k 3 fk;refine ⟨_,rfl,l,rfl,⟨us,ZL.of h2⟩,MO (n:=us.length) (fun i z=>us[i]? = some z) (fun i=>((Y8 X.ts rn).getD i rd).1.lt k) (fun E i ys H3=>ZB H2 H3/\H2 E=none/\ys.length=((((Y8 X.ts rn).map (·.1)).take i).filter fun x=>x.lt k).length) (XG (by lia))
  (fun E i ys H3 hi hP=>⟨us,us[i],ZL.of (hP.1 _ _ h2),by simp [hi]⟩) (fun E i ys H3 z H4 hi hP hy=>⟨hy.1,hy.2 us (ZL.of (hP.1 _ _ h2))⟩) (fun E ys H3 hP=>⟨us,ZL.of (hP.1 _ _ h2),zAH _⟩)
  (fun E hE=>⟨ZX hE _,hE,rfl⟩) (fun E i ys H3 z eE hi hz hP B hB=>?_) (fun E i ys H3 z eE hi hz hk hP B hB=>?_) (fun E i ys H3 eE hi hk hP=>?_) (fun E ys H3 eE hP=>?_)⟩
 ·obtain ⟨s3,nE,ly⟩:=hP;obtain ⟨a,vk,vv,er,rfl,ea,k1,k2⟩:=Qp kr hz;have ff:=(rfit _ (zAJ er)).1;have df:=UC _ 3 ff;refine ⟨_,rfl,a,_,_,vk,rfl,rfl,Zn.of (s3 _ _ ea),rfl,vk,_,3,rfl,k1.mono (ZB.tups s3) _ _,ff,by lia,fun v1 H4 kv1 s4=>?_⟩
  refine ⟨_,rfl,v,k,3,rfl,kv2.mono (ZB.tups (s3.trans s4)) _ _,fk,by lia,fun v2 H5 kv2 s5=>?_⟩
  have d1:=Pz ((Y8 X.ts rn).getD i rd).1;refine ⟨_,_,kv1.mono (ZB.tups s5) _ _,kv2,Mg _ _,by lia,_,rfl,?_⟩
  rw [Lj];exact hB H5 ((s4.trans s5) _ _ eE) ⟨s3.trans (s4.trans s5),nE,ly⟩
 ·obtain ⟨s3,nE,ly⟩:=hP;obtain ⟨a,vk,vv,er,rfl,ea,k1,k2⟩:=Qp kr hz;refine ⟨_,rfl,hB _ H3 eE ⟨UQ s3 nE,nE,?_⟩⟩;rw [NF _ (by rw [zAN,er];rfl),if_pos hk,zAG,zAG,ly]
  rfl
 ·obtain ⟨s3,nE,ly⟩:=hP;refine ⟨s3,nE,?_⟩;have er:(Y8 X.ts rn)[i]? = some ((Y8 X.ts rn).getD i rd):=by rw [zAC,zAE (by lia)];rfl
  rw [NF _ (by rw [zAN,er];rfl),if_neg (by rw [hk];exact zAF),zAo]
  exact ly
 obtain ⟨s3,nE,ly⟩:=hP;rw [zAS (by rw [zAD];lia)] at ly
 have en:ys.length=Qc X.ts k rn:=by rw [Ii,ly];rfl
 refine ⟨E,ys,rfl,.inl (ZL.of eE),?_⟩;refine ⟨_,rfl,_,rfl,_,rfl,?_⟩;show Zx gt jg jh CT CK _ _ _ _;refine pof (R2.same s3) (by lia) (kv2.mono (ZB.tups s3) _ _) fk fun H4 ls4 fr4 R4 l4=>?_
 refine ⟨_,rfl,_,_,rfl,_,rfl,?_⟩;rw [decide_eq_true (show ((Qc X.ts k rn:Nat):Int)=((ys.length:Nat):Int) by rw [en])]
 refine Zo ⟨_,rfl,nn (zAB rfl),fun e0 ne0=>?_⟩;have g5:=ZX ne0 (.lst []);have e5:=ZO (H:=H4) (a:=e0) (o:=.lst []);have R3:=R2.same s3;have m34:Z2 H3 H4:=fun b xs e=>fr4 b _ (ZT e R3.sh.looks) e;have f05:∀ b o,b≠lk->b≠p->H b=some o->upd H4 e0 (.lst []) b=some o:=fun b o n1 n2 e=>g5 b o (fr4 b o n1 (s3 b o (f02 b o n1 n2 e)));have W5:=(Q5 (W2.same s3) fun o e=>fr4 _ _ plk e).same g5;have R5:=R4.same g5;have A5:=(A2.go R3 (by lia) (fun o e=>s3 _ _ e) (ZB.tups s3)).go R5 (by lia) (fun o e=>g5 _ _ (fr4 _ _ A0.llk e)) fun b xs e=>g5 _ _ (m34 b xs e)
 generalize upd H4 e0 (.lst [])=H5 at e5 f05 W5 R5 A5 ⊢;refine ⟨l,e0,us,rfl,rfl,ZL.of A5.hl,ZL.of e5,_,rfl,?_⟩
 cases eu:us.isEmpty with
 | true=>exact Zw (q H5 ls4 f05 W5 R5 (by lia))
 | false=>
  have u0:0<us.length:=by
   cases us with
   | nil=>cases eu
   | cons _ _=>exact Nat.succ_pos _
  refine Zo ⟨_,rfl,_,rfl,l,us,rfl,.inl (ZL.of A5.hl),p,_,rfl,W5,XI (by lia) (by rw [Int.natAbs_natCast];lia),fun z H6 z0 z1 W6 s6=>?_⟩
  obtain ⟨n,rfl⟩:=zBx z0;have hn:n<us.length:=by lia
  obtain ⟨pw5,hp5⟩:=W5.some;have R6:=R5.well W5 plk own s6;have A6:=A5.go R6 (by lia) (fun o e=>s6 _ _ e lp) (s6.tups hp5)
  obtain ⟨a,vk,vv,er,eun,ea,k1,k2⟩:=Qp A6.ks (zAE hn);have ff:=(rfit _ (zAJ er)).1;refine ⟨_,rfl,_,rfl,_,rfl,_,rfl,.inl ⟨l,us,_,_,rfl,rfl,ZL.of A6.hl,Yz (zAE hn),a,_,_,vk,eun,rfl,Zn.of ea,rfl,?_⟩⟩;show Zx gt jg jh CT CK _ _ _ _;refine pof R6 (by lia) k1 ff fun H7 ls7 fr7 R7 l7=>?_
  have m67:Z2 H6 H7:=fun b xs e=>fr7 b _ (ZT e R6.sh.looks) e;refine ⟨_,rfl,_,_,rfl,_,rfl,?_⟩;rw [decide_eq_true (show ((Qc X.ts ((Y8 X.ts rn).getD n rd).1 rn:Nat):Int)=(n:Int) by rw [Ii,ZM9 rup (by rw [zAN,er];rfl)])]
  have A7:=A6.go R7 (by lia) (fun o e=>fr7 _ _ A0.llk e) m67
  refine Zw ⟨_,rfl,_,rfl,_,rfl,_,rfl,X,lk,c,ls7,rn,l,us,_,rfl,A7,fun H8 ls8 fr8 R8 l8=>?_⟩;exact q H8 ls8 (fun b o n1 n2 e=>fr8 b o n1 (fr7 b o n1 (s6 b o (f05 b o n1 n2 e) n2))) (Q5 (Q5 W6 fun o e=>fr7 _ _ plk e) fun o e=>fr8 _ _ plk e) R8 (by lia)
end
section
variable{P:Program}{w:World}{K:zAA}{mg:jb}{base:Heap}{f:Addr}{fd:FuncData}{jg jh CS CT CH:Addr}
theorem pa8{X:Cx}{e0 e1 e2 e3 e4 e5 e6 e7:Expr}{t0 t1 t2 t3 t4 t5 t6 t7:TE}(g0:PE X e0 t0)(g1:PE X e1 t1)(g2:PE X e2 t2)(g3:PE X e3 t3)(g4:PE X e4 t4)(g5:PE X e5 t5)(g6:PE X e6 t6)(g7:PE X e7 t7)(h:[e0,e1,e2,e3,e4,e5,e6,e7].all PQ=true:=by rfl):
  PA X [e0,e1,e2,e3,e4,e5,e6,e7] (Yw t0 (Yw t1 (Yw t2 (Yw t3 (Yw t4 (Yw t5 (Yw t6 (Yw t7 Vs)))))))):=
 (ZZ g0 (ZZ g1 (ZZ g2 (ZZ g3 (ZZ g4 (ZZ g5 (ZZ g6 (ZZ g7 ZG (Xb (zAO.mp h e7 (by simp)))) (Xb (zAO.mp h e6 (by simp)))) (Xb (zAO.mp h e5 (by simp)))) (Xb (zAO.mp h e4 (by simp)))) (Xb (zAO.mp h e3 (by simp)))) (Xb (zAO.mp h e2 (by simp)))) (Xb (zAO.mp h e1 (by simp)))) (Xb (zAO.mp h e0 (by simp))))
theorem Jb:(QI "a" 41).length=41:=by decide +kernel
theorem ZOQ:Um (zA0 "\n")=false:=by decide +kernel
inductive VG(vs:je)(H:Hp)(Q:VK)(_:XK):Prop
 | mk (p:Addr) (_:vs=[.ref p]) (_:ZI H p) (_:∀(v:V)(H':Hp),Uo (fun b=>b=p\/H b≠none) H' none v->ZI H' p->ZE p H H'->Q v H')
theorem Dh:ZC ["_law_well_here"] ["_law_well_here"] (Ze LU):=Zs
theorem Gx(F:Zj K "_law_bad" "_law_bad" LU f fd)(DP:ZA P w K mg base 1 "_law_pull" ["_law_well_here","_law_many"] Zp):ZK P w K mg base ZW 2 f fd ["_law_well_here"] VG:=by
 refine F.ok Dh (fun vs H Q E h=>(by obtain ⟨_,rfl,_⟩:=h;rfl)) (fun cdv A outer s H vs Q E hr h=>?_)
 obtain ⟨p,rfl,W,q⟩:=h;refine ⟨_,ZU (Zg (Zl (r:=YB K) YD (Yn (pa8 XT Nf (Yn (ZF ZM ZG)) (Zv PX ZM ZM) (Zv BX Xf ZM) (Yq (QV ZM ZM ZM ZM ZM)) (Yq (ZF Xf ZG))
  (Yq (ZF (Yq (ZF (Yq (ZF (Yq ZG) ZG)) ZG)) ZG)))) (Zh DP hr (ZF (pv 0) (ZF ZM ZG))) (fun _ _=>rfl))),?_⟩
 refine ⟨nn (zAB rfl),fun a1 n1=>?_⟩;have g1:=ZX n1 (.lst [.int 1]);refine ⟨_,_,rfl,rfl,⟨by decide,by decide,by decide⟩,_,_,rfl,rfl,by decide +kernel,by decide,by decide,nn (zAB rfl),fun a2 n2=>?_⟩
 have g2:=ZX n2 (.tup [.int 1,.int 2,.int 3,.int 4,.int 5]);refine ⟨nn (zAB rfl),fun a3 n3=>?_⟩;have g3:=ZX n3 (.tup [.str (zA0 "\n")]);refine ⟨nn (zAB rfl),fun a4 n4=>?_⟩;have g4:=ZX n4 (.tup []);refine ⟨nn (zAB rfl),fun a5 n5=>?_⟩;have g5:=ZX n5 (.tup [.ref a4]);refine ⟨nn (zAB rfl),fun a6 n6=>?_⟩;have g6:=ZX n6 (.tup [.ref a5]);refine ⟨nn (zAB rfl),fun a7 n7=>?_⟩;have g7:=ZX n7 (.tup [.ref a6]);refine ⟨nn (zAB rfl),fun d n8=>?_⟩;have g8:=ZX n8 (.lst [.bl true,.non,.ref a1,.int ((10:Int) ^ (60:Int).toNat),.str (QI "a" 41),.ref a2,.ref a3,.ref a7]);have c7:=g7.trans g8;have c6:=g6.trans c7;have c5:=g5.trans c6;have c4:=g4.trans c5;have c3:=g3.trans c4;have c2:=g2.trans c3;have c1:=g1.trans c2;have b7:=((((((g1.trans g2).trans g3).trans g4).trans g5).trans g6).trans g7);have e1:=c2 _ _ (ZO (a:=a1) (o:=.lst [.int 1]));have e2:=c3 _ _ (ZO (a:=a2) (o:=.tup [.int 1,.int 2,.int 3,.int 4,.int 5]));have e3:=c4 _ _ (ZO (a:=a3) (o:=.tup [.str (zA0 "\n")]));have e4:=c5 _ _ (ZO (a:=a4) (o:=.tup []));have e5:=c6 _ _ (ZO (a:=a5) (o:=.tup [.ref a4]));have e6:=c7 _ _ (ZO (a:=a6) (o:=.tup [.ref a5]));have e7:=g8 _ _ (ZO (a:=a7) (o:=.tup [.ref a6]));have dp:d≠p:=V5 (W.same b7) n8;have ap:a1≠p:=V5 W n1;have W1:=W.same c1;have e8:upd (upd (upd (upd (upd (upd (upd (upd H a1 (.lst [.int 1])) a2 (.tup [.int 1,.int 2,.int 3,.int 4,.int 5])) a3 (.tup [.str (zA0 "\n")])) a4 (.tup [])) a5 (.tup [.ref a4])) a6 (.tup [.ref a5])) a7 (.tup [.ref a6])) d (.lst [.bl true,.non,.ref a1,.int ((10:Int) ^ (60:Int).toNat),.str (QI "a" 41),.ref a2,.ref a3,.ref a7]) d=some (.lst [.bl true,.non,.ref a1,.int ((10:Int) ^ (60:Int).toNat),.str (QI "a" 41),.ref a2,.ref a3,.ref a7]):=ZO;generalize upd (upd (upd (upd (upd (upd (upd (upd H a1 (.lst [.int 1])) a2 (.tup [.int 1,.int 2,.int 3,.int 4,.int 5])) a3 (.tup [.str (zA0 "\n")])) a4 (.tup [])) a5 (.tup [.ref a4])) a6 (.tup [.ref a5])) a7 (.tup [.ref a6])) d (.lst [.bl true,.non,.ref a1,.int ((10:Int) ^ (60:Int).toNat),.str (QI "a" 41),.ref a2,.ref a3,.ref a7])=H1 at *;refine ⟨_,rfl,p,8,rfl,W1,XI (by decide) (by decide),fun j H2 j0 j1 W2 s2=>?_⟩
 obtain ⟨v,av,mv⟩:=Q2 (xs:=[V.bl true,.non,.ref a1,.int ((10:Int) ^ (60:Int).toNat),.str (QI "a" 41),.ref a2,.ref a3,.ref a7]) j0 j1;have t2:=s2.tupsW W1;refine .inl ⟨d,_,_,v,rfl,rfl,ZL.of (s2 _ _ e8 dp),av,?_⟩;have fin:Uo (fun b=>b=p\/H b≠none) H2 none v->Q v H2:=fun h=>q v H2 h W2 ((ZE.of c1).trans s2);refine fin ?_;have hten:(10:Int) ^ 60<=(10:Int) ^ (60:Int).toNat:=by decide +kernel
 clear av e8;generalize (10:Int) ^ (60:Int).toNat=M at mv hten;simp only [zAe,zBo,or_false] at mv;rcases mv with rfl | rfl | rfl | rfl | rfl | rfl | rfl | rfl
 ·exact ⟨.odd "bool",by rw [Zm];exact .inl ⟨rfl,true,rfl⟩,by rw [TG.neat];trivial,by rw [TG.fits]⟩
 ·exact ⟨.odd "NoneType",by rw [Zm];exact .inr (.inl ⟨rfl,rfl⟩),by rw [TG.neat];trivial,by rw [TG.fits]⟩
 ·exact ⟨.odd "list",by rw [Zm];exact .inr (.inr (.inl ⟨rfl,a1,_,rfl,s2 _ _ e1 ap,fun z=>z.elim ap fun y=>y n1⟩)),by rw [TG.neat];trivial,by rw [TG.fits]⟩
 ·refine ⟨.int M,by rw [Zm],by rw [TG.neat];trivial,?_⟩
  rw [TG.fits];refine decide_eq_false fun z=>?_;have e:((10:Int) ^ 60)=((10 ^ 60:Nat):Int):=by decide +kernel
  rw [e] at hten;generalize (10 ^ 60:Nat)=T at *
  lia
 ·refine ⟨.str _,by rw [Zm],by rw [TG.neat,Jb];decide,?_⟩
  rw [TG.fits];unfold Um;rw [Jb];rfl
 ·refine ⟨.tup [.int 1,.int 2,.int 3,.int 4,.int 5],?_,?_,?_⟩
  ·rw [Zm];exact ⟨a2,_,rfl,t2 _ _ e2,by simp [ThsAt,Zm]⟩
  ·simp [TG.neat,neatL]
  ·simp [TG.fits]
 ·refine ⟨.tup [.str (zA0 "\n")],?_,?_,?_⟩
  ·rw [Zm];exact ⟨a3,_,rfl,t2 _ _ e3,by simp [ThsAt,Zm]⟩
  ·rw [TG.neat];exact ⟨by decide,by rw [neatL,neatL,TG.neat];exact ⟨by decide +kernel,trivial⟩⟩
  ·rw [TG.fits,gfitsL,TG.fits,ZOQ];rfl
 ·refine ⟨.tup [.tup [.tup [.tup []]]],?_,?_,?_⟩
  ·rw [Zm];refine ⟨a7,_,rfl,t2 _ _ e7,?_⟩;rw [ThsAt];refine ⟨_,_,rfl,?_,by rw [ThsAt]⟩
   rw [Zm];refine ⟨a6,_,rfl,t2 _ _ e6,?_⟩;rw [ThsAt];refine ⟨_,_,rfl,?_,by rw [ThsAt]⟩
   rw [Zm];refine ⟨a5,_,rfl,t2 _ _ e5,?_⟩;rw [ThsAt];refine ⟨_,_,rfl,?_,by rw [ThsAt]⟩
   rw [Zm];exact ⟨a4,_,rfl,t2 _ _ e4,by rw [ThsAt]⟩
  ·simp [TG.neat,neatL]
  ·simp [TG.fits,gfitsL]
end
section
variable{jg jh:Addr}{H H':Hp}{X:Yk}{lk:Addr}{c:Nat}{ls:je}
theorem Z3.off(R:Z3 jg jh H X lk c ls){p q T:Addr}{o1 o2:je}{ps:Array Value}(h1:H p=some (.lst o1))(h2:H q=some (.lst o2))(hT:H T=some (.tbl ps))(fr:∀ b o,b≠p->b≠q->b≠T->H b=some o->H' b=some o)(plk:p≠lk)(qlk:q≠lk)(op:∀ i:Nat,i<X.ts.length->(X.as.getD i .d).ab≠p/\(X.as.getD i .d).th≠p)(oq:∀ i:Nat,i<X.ts.length->(X.as.getD i .d).ab≠q/\(X.as.getD i .d).th≠q):Z3 jg jh H' X lk c ls:=by
 have go:∀{b:Addr}{o:HO},H b=some o->b≠p->b≠q->(∀ ps,o≠.tbl ps)->H' b=some o:=fun{b o} e n1 n2 n3=>fr b o n1 n2 (ZT e hT (n3 _)) e;have t:Z2 H H':=fun b o e=>go e (ZT e h1) (ZT e h2) (by intro _ z;cases z)
 obtain ⟨⟨dS,hS⟩,hd,hl⟩:=id R.sh;refine ⟨⟨⟨dS,go hS (ZT hS h1) (ZT hS h2) (by intro _ z;cases z)⟩,go hd (ZT hd h1) (ZT hd h2) (by intro _ z;cases z),go hl (Ne.symm plk) (Ne.symm qlk) (by intro _ z;cases z)⟩,R.keys,R.val,fun i hi=>?_,R.own,R.le⟩
 obtain ⟨dx,hx⟩:=(R.tw i hi).tw.self;obtain ⟨us,hu,_⟩:=(R.tw i hi).things;have ha:=(R.tw i hi).tw.above;exact (R.tw i hi).frame t (fun o e=>by rw [hx] at e;cases e;exact go hx (ZT hx h1) (ZT hx h2) (by intro _ z;cases z)) (fun o e=>by rw [hu] at e;cases e;exact go hu (op i hi).2 (oq i hi).2 (by intro _ z;cases z)) (fun o e=>by rw [ha] at e;cases e;exact go ha (op i hi).1 (oq i hi).1 (by intro _ z;cases z))
end
structure Nn(jg jh:Addr)(H0:Hp)(X:Yk)(lk L kn T:Addr)(t1 t2:WS):Prop where
 nlk:H0 lk=none
 nS:H0 X.S=none
 nd:H0 X.d=none
 nkn:H0 kn=none
 nL:H0 L=none
 Llk:L≠lk
 Lkn:L≠kn
 klk:kn≠lk
 D1:t1.d≠X.d
 D2:t2.d≠X.d
 okn:∀ i:Nat,i<X.ts.length->(X.as.getD i .d).ab≠kn/\(X.as.getD i .d).th≠kn
 wf:WF [] X.ts
 low:∀ i,i<X.ts.length->QG (gd X.ts i)
 len:X.ts.length<=240
structure Vr(jg jh:Addr)(H0 H:Hp)(X:Yk)(lk:Addr)(c:Nat)(ls:je)(L kn T:Addr)(t1 t2:WS)(us:je)(jG:List KT):Prop where
 sh:Z3 jg jh H X lk c ls
 s0:ZE T H0 H
 hL:H L=some (.lst [.ref t1.T,.ref t2.T])
 tr1:YW [] X.ts H t1
 tr2:YW [] X.ts H t2
 hk:H kn=some (.lst us)
 ks:KeysAt H jG us
 fit:∀ t∈jG,t.fits 3=true
 tab:Yt H T qR
theorem Vr.step{jg jh:Addr}{H0 H H':Hp}{X:Yk}{lk:Addr}{c c':Nat}{ls ls':je}{L kn T:Addr}{t1 t2:WS}{us:je}{jG:List KT}{p:Addr}(C:Nn jg jh H0 X lk L kn T t1 t2)(j:Vr jg jh H0 H X lk c ls L kn T t1 t2 us jG){o:je}(hp:H p=some (.lst o))(np:H0 p=none)(Lp:L≠p)(kp:kn≠p)(fr:∀ b o,b≠lk->b≠p->b≠X.S->b≠X.d->b≠T->H b=some o->H' b=some o)(sh:Z3 jg jh H' X lk c' ls')(tab:Yt H' T qR):Vr jg jh H0 H' X lk c' ls' L kn T t1 t2 us jG:=by
 obtain ⟨⟨dS,hS⟩,hd,hl⟩:=id j.sh.sh;obtain ⟨ps,hT,_⟩:=id j.tab;have lst:∀{b:Addr}{o:je},H b=some (.lst o)->b≠lk->b≠p->H' b=some (.lst o):=fun{b o} e n1 n2=>fr b _ n1 n2 (ZT e hS) (ZT e hd) (ZT e hT) e;have t:Z2 H H':=fun b xs e=>fr b _ (ZT e hl) (ZT e hp) (ZT e hS) (ZT e hd) (ZT e hT) e;have tr:∀{t:WS},YW [] X.ts H t->t.d≠X.d->YW [] X.ts H' t:=fun{tr} h n=>h.go t fun o e=>by
  have e':=h.rcd.hd;rw [e'] at e;cases e;exact fr _ _ (ZT e' hl) (ZT e' hp) (ZT e' hS) n (ZT e' hT) e'
 exact ⟨sh,fun b o e n=>fr b o (Zb e C.nlk) (Zb e np) (Zb e C.nS) (Zb e C.nd) n (j.s0 b o e n),lst j.hL C.Llk Lp,tr j.tr1 C.D1,tr j.tr2 C.D2,lst j.hk C.klk kp,j.ks.mono t _ _,j.fit,tab⟩
theorem Vr.tups{jg jh:Addr}{H0 H H':Hp}{X:Yk}{lk:Addr}{c:Nat}{ls:je}{L kn T:Addr}{t1 t2:WS}{us:je}{jG:List KT}{p:Addr}(j:Vr jg jh H0 H X lk c ls L kn T t1 t2 us jG){o:je}(hp:H p=some (.lst o))(fr:∀ b o,b≠lk->b≠p->b≠X.S->b≠X.d->b≠T->H b=some o->H' b=some o):Z2 H H':=fun b xs e=>by
 obtain ⟨⟨dS,hS⟩,hd,hl⟩:=id j.sh.sh;obtain ⟨ps,hT,_⟩:=id j.tab;exact fr b _ (ZT e hl) (ZT e hp) (ZT e hS) (ZT e hd) (ZT e hT) e
theorem Vr.ext{jg jh:Addr}{H0 H H':Hp}{X:Yk}{lk:Addr}{c:Nat}{ls:je}{L kn T:Addr}{t1 t2:WS}{us:je}{jG:List KT}{p:Addr}(j:Vr jg jh H0 H X lk c ls L kn T t1 t2 us jG){o:je}(hp:H p=some (.lst o))(fr:∀ b o,b≠lk->b≠p->b≠X.S->b≠X.d->H b=some o->H' b=some o):Yt H' T qR:=by
 obtain ⟨⟨dS,hS⟩,hd,hl⟩:=id j.sh.sh;exact j.tab.ext ⟨fun b φ e=>fr b _ (ZT e hl) (ZT e hp) (ZT e hS) (ZT e hd) e,fun b φ e=>fr b _ (ZT e hl) (ZT e hp) (ZT e hS) (ZT e hd) e⟩
def HJ:List Stmt:=HU ((WD V2)[3]?)
abbrev Le:List Str:=["_law_script","_law_shelf","_law_trees_here","_law_known_here","_law_k","_law_well_here","_law_root_here","_law_record","_law_spot","_law_bad_here","_law_gone_here"]
theorem Vv:ZC Le ["_law_script"] (Ze V2):=Zs
theorem N9{a b:V}(h1:Pr a=true)(h2:Pr b=true):∀ v∈[a,b],Pr v=true:=fun v hv=>by
 simp only [zAe,zBo,or_false] at hv;rcases hv with rfl | rfl <;> assumption
section
variable{P:Program}{w:World}{K:zAA}{mg:jb}{base:Heap}{f:Addr}{fd:FuncData}{cdv:Value}{A:Around}{outer:List Env}{s:Shared}{Hs:Hp}{E:XK}{jg jh:Addr}
theorem B0(T:YG mg)(hr:ZY 39 (A.deeper (envOfC "law" (Ze V2) s.heap.objs.size f cdv)))(DB:ZA P w K mg base 2 "_law_bad" ["_law_well_here"] VG)(DG:ZA P w K mg base 11 "_law_gone" ["_law_well_here","_law_shelf"] (Xu jg jh))(DR:ZA P w K mg base 13 "_law_refusal" U7 (YI [] jg jh)):
  ∃ t,X5 (WB ZW P w K mg base Le "law" (Ze V2) f cdv A outer s Hs E).nox (HJ.drop 5) t/\∀(D0:Ym)(H0 H:Hp)(X:Yk)(lk:Addr)(c:Nat)(ls:je)(L kn Tb:Addr)(t1 t2:WS)(us:je)(jG:List KT)(p:Addr)(rn:Option Nat)(x0 x2 x4 x7 x8 x9 x10:jf),
   Vr jg jh H0 H X lk c ls L kn Tb t1 t2 us jG->Nn jg jh H0 X lk L kn Tb t1 t2->ls.length<=36000->ZI H p->H0 p=none->L≠p->kn≠p->p≠lk->(∀ i:Nat,i<X.ts.length->(X.as.getD i .d).ab≠p/\(X.as.getD i .d).th≠p)->(∀ i,rn=some i->i<X.ts.length) ->
   (∀(H':Hp)(y9 y10:jf),Vr jg jh H0 H' X lk (c+1) ls L kn Tb t1 t2 us jG->D0.nx [x0,some (.ref X.S),x2,some (.ref kn),x4,some (.ref p),some (YK (Z8 rn)),x7,x8,y9,y10] H') ->
    t D0 [x0,some (.ref X.S),x2,some (.ref kn),x4,some (.ref p),some (YK (Z8 rn)),x7,x8,x9,x10] H:=by
 have nd:=Vv.nd;have hu:=hr.units0;have hr2:=hr.mono (show 2<=39 by decide)
 have hr11:=hr.mono (show 11<=39 by decide)
 have hr13:=hr.mono (show 13<=39 by decide)
 refine ⟨_,ZQ (Zk 9 nd (Zh DB hr2 (ZF (pv 5) ZG)))
  (ZQ (Zk 10 nd (Zh DG hr11 (ZF (pv 5) (ZF (pv 1) ZG))))
  (ZQ (Zz (Y3 (N5 hu) (Zh DR hr13 (QV ZM (pv 1) (pv 10) (QX Qg ZM) ZM)) (Yq (ZF Xf (ZF (pv 10) ZG))) (YE _)) (ZU (Zg XT)) Z0)
  (ZQ (Zz (Y3 (N5 hu) (Zh DR hr13 (QV ZM (pv 1) (pv 6) ZM (pv 9))) (Yq (ZF Xf (ZF XT ZG))) (YE _)) (ZU (Zg XT)) Z0)
  (ZU (Zz (Y3 (N5 hu) (Zh DR hr13 (QV ZM (pv 1) (pv 10) ZM (pv 9))) (Yq (ZF Xf (ZF (pv 10) ZG))) (YE _)) (ZU (Zg XT)) Z0))))),?_⟩
 intro D0 H0 H X lk c ls L kn Tb t1 t2 us jG p rn x0 x2 x4 x7 x8 x9 x10 j C few W np Lp kp plk own jp fin;obtain ⟨pw,hp⟩:=W.some;obtain ⟨⟨dS,hS⟩,hd,hl⟩:=id j.sh.sh;refine ⟨_,rfl,p,rfl,W,fun b H1 hb W1 s1=>?_⟩;have R1:=j.sh.well W plk own s1;have f1:∀ b o,b≠lk->b≠p->b≠X.S->b≠X.d->H b=some o->H1 b=some o:=fun b o _ n _ _ e=>s1 b o e n;have j1:=j.step C hp np Lp kp (fun b o a1 a2 a3 a4 _ e=>f1 b o a1 a2 a3 a4 e) R1 (j.ext hp f1);obtain ⟨pw1,hp1⟩:=W1.some;have t9:X.ts.length<=900:=by have:=C.len;lia
 refine ⟨_,rfl,_,rfl,p,X,lk,c,ls,rfl,W1,R1,t9,plk,own,fun H2 g fr2 W2 R2 hg=>?_⟩;have f2:∀ b o,b≠lk->b≠p->b≠X.S->b≠X.d->H1 b=some o->H2 b=some o:=fun b o _ a2 a3 a4 e=>fr2 b o a2 a3 a4 e;have j2:=j1.step C hp1 np Lp kp (fun b o a1 a2 a3 a4 _ e=>f2 b o a1 a2 a3 a4 e) R2 (j1.ext hp1 f2);have t12:=j1.tups hp1 fun b o a1 a2 a3 a4 _ e=>f2 b o a1 a2 a3 a4 e;obtain ⟨pw2,hp2⟩:=W2.some;have kp2:XS (fun b=>b=p\/H b≠none) H1 H2:=⟨t12,fun a o e n=>fr2 a o (fun z=>n (.inl z)) (fun z=>n (.inr (by rw [z,hS];exact fun y=>nomatch y))) (fun z=>n (.inr (by rw [z,hd];exact fun y=>nomatch y))) e⟩
 have hb2:=hb.mono kp2;have low:∀ i,i<X.ts.length->(gd X.ts i).h<=60:=fun i hi=>(C.low i hi).1;have few2:ls.length<=38000:=by lia
 have ngood:UY X.ts (some g)=true->False:=fun z=>by rw [show UY X.ts (some g)=inT X.ts g from rfl,hg] at z;cases z
 have nnat:∀ rn,some g=Z8 rn->(∀ i,rn=some i->i<X.ts.length)->False:=fun rn e h=>ngood (by rw [e];exact PU h)
 refine ⟨_,rfl,_,rfl,1,rfl,X,lk,c+1,ls,0,some g,-1,.int 0,fun _=>False,some (.int 0),rfl,R2,C.wf,low,few2,⟨.int 0,by decide +kernel⟩,fun _ rn' e h=>(nnat rn' e h).elim,fun z=>absurd rfl z,fun x ex hx H3 t3 s3 e3=>?_,fun z=>(ngood z).elim,fun z=>(ngood z).elim⟩
 cases ex;refine ⟨_,rfl,nn (zAB rfl),fun q4 n4=>⟨t3,q4,_,rfl,rfl,Zn.of (ZX n4 _ _ _ e3),Zn.of ZO,N9 rfl rfl,_,rfl,Zo ?_⟩⟩;have s24:=s3.trans (ZX n4 (.tup [.str "twig",.int g]));generalize upd H3 q4 (.tup [.str "twig",.int g])=H4 at s24 ⊢;refine ⟨_,rfl,_,rfl,_,rfl,X,lk,c+1,ls,1,Z8 rn,0,b,_,none,rfl,R2.same s24,C.wf,low,few2,hb2.mono (XS.same s24),fun z=>(by cases z),fun _ _=>rfl,fun x ex hx=>?_,fun _ z=>(by cases z),fun _ _ H5 t5 s5 e5=>?_⟩
 ·have:=PU jp;rw [ex] at this;rw [show inT X.ts x=true from this] at hx;cases hx
 refine ⟨nn (zAB rfl),fun q6 n6=>⟨t5,q6,_,rfl,rfl,Zn.of (ZX n6 _ _ _ e5),Zn.of ZO,N9 rfl rfl,_,rfl,Zo ?_⟩⟩;have s26:=s24.trans (s5.trans (ZX n6 (.tup [.str "spot",.bl true])));generalize upd H5 q6 (.tup [.str "spot",.bl true])=H6 at s26 ⊢;refine ⟨_,rfl,_,rfl,_,rfl,X,lk,c+1,ls,1,some g,0,b,_,none,rfl,R2.same s26,C.wf,low,few2,hb2.mono (XS.same s26),fun z=>(by cases z),fun _ _=>rfl,fun x ex hx H7 t7 s7 e7=>?_,fun z=>(ngood z).elim,fun z=>(ngood z).elim⟩
 cases ex;refine ⟨_,rfl,nn (zAB rfl),fun q8 n8=>⟨t7,q8,_,rfl,rfl,Zn.of (ZX n8 _ _ _ e7),Zn.of ZO,N9 rfl rfl,_,rfl,Zo ?_⟩⟩;have s28:=s26.trans (s7.trans (ZX n8 (.tup [.str "twig",.int g])));exact fin _ _ _ (j2.step C hp2 np Lp kp (fun b o _ _ _ _ _ e=>s28 b o e) (R2.same s28) (j2.tab.ext (WY.same s28)))
end
inductive Wo(T:Addr)(K:zAA)(vs:je)(H:Hp)(Q:VK)(E:XK):Prop
 | mk (a:Addr) (ns:List Int) (_:vs=[.ref a]) (_:ZL K H a (ns.map V.int)) (_:ns.length<=63) (_:H T=some (.tbl #[])) (_:∀ H',Q (.bl true) H')
theorem Fq{K:zAA}{H H':Hp}{a T:Addr}{xs:je}{ps:Array Value}(hT:H T=some (.tbl ps))(m:ZE T H H')(h:ZL K H a xs):ZL K H' a xs:=by
 rcases h with (h | ⟨o,h⟩) | h
 ·exact .inl (.inl (m _ _ h (ZT h hT)))
 ·exact .inl (.inr ⟨o,m _ _ h (ZT h hT)⟩)
 ·exact .inr h
inductive C1(jg jh:Addr)(H0:Hp)(X:Yk)(lk L kn T a:Addr)(t1 t2:WS)(i:Nat)(σ:L2.St)(H:Hp):Prop
 | mk (x4 x5 x6 x7 x8 x9 x10:jf) (c:Nat) (ls us:je) (jG:List KT) (_:σ=[some (.ref a),some (.ref X.S),some (.ref L),some (.ref kn),x4,x5,x6,x7,x8,x9,x10]) (_:Vr jg jh H0 H X lk c ls L kn T t1 t2 us jG) (_:us.length<=120+i) (_:ls.length<=480+488 * i)
section
variable{P:Program}{w:World}{K:zAA}{mg:jb}{base:Heap}{f:Addr}{fd:FuncData}{jg jh:Addr}
section
variable{cdv:Value}{A:Around}{outer:List Env}{s:Shared}{Hs:Hp}{E:XK}
theorem B3{Tb:Addr}(T:YG mg)(hr:ZY 39 (A.deeper (envOfC "law" (Ze V2) s.heap.objs.size f cdv)))(DW:ZA P w K mg base 1 "_law_well" ["_law_script","_law_k"] (WA K))(DX:ZA P w K mg base 2 "_law_root" ["_law_well_here","_law_trees_here"] (Wj []))(DY:ZA P w K mg base 7 "_law_any_key" ["_law_well_here","_law_known_here"] XQ)(DO:ZA P w K mg base 10 "_law_rows_of" ["_law_record","_law_root_here"] (XJ [] Tb))(DA:ZA P w K mg base 15 "_law_asked" Oe (Xp [] jg jh))(DB:ZA P w K mg base 2 "_law_bad" ["_law_well_here"] VG)(DG:ZA P w K mg base 11 "_law_gone" ["_law_well_here","_law_shelf"] (Xu jg jh))(DR:ZA P w K mg base 13 "_law_refusal" U7 (YI [] jg jh)):
  ∃ t,X5 (WB ZW P w K mg base Le "law" (Ze V2) f cdv A outer s Hs E).nox HJ t/\∀(D0:Ym)(H0 H:Hp)(X:Yk)(lk:Addr)(c:Nat)(ls:je)(L kn:Addr)(t1 t2:WS)(us:je)(jG:List KT)(a:Addr)(ns:List Int)(n:Int)(x5 x6 x7 x8 x9 x10:jf),
   Vr jg jh H0 H X lk c ls L kn Tb t1 t2 us jG->Nn jg jh H0 X lk L kn Tb t1 t2->us.length<=200->ls.length<=35000->ZL K H a (ns.map V.int)->ns.length<=63->0<=n->n<=1000 ->
   (∀(H':Hp)(y5 y6 y7 y8 y9 y10:jf)(ls' us':je)(kts':List KT),Vr jg jh H0 H' X lk (c+1) ls' L kn Tb t1 t2 us' kts'->us'.length<=us.length+1->ls'.length<=ls.length+488->D0.nx [some (.ref a),some (.ref X.S),some (.ref L),some (.ref kn),some (.int n),y5,y6,y7,y8,y9,y10] H') ->
    t D0 [some (.ref a),some (.ref X.S),some (.ref L),some (.ref kn),some (.int n),x5,x6,x7,x8,x9,x10] H:=by
 have nd:=Vv.nd;have hr1:=hr.mono (show 1<=39 by decide)
 have hr2:=hr.mono (show 2<=39 by decide)
 have hr7:=hr.mono (show 7<=39 by decide)
 have hr10:=hr.mono (show 10<=39 by decide)
 have hr15:=hr.mono (show 15<=39 by decide)
 obtain ⟨t,ht,tail⟩:=B0 (P:=P) (w:=w) (K:=K) (mg:=mg) (base:=base) (f:=f) (cdv:=cdv) (A:=A) (outer:=outer) (s:=s) (Hs:=Hs) (E:=E) T hr DB DG DR;refine ⟨_,ZQ (Zk 5 nd (Zh DW hr1 (ZF (pv 0) (ZF (pv 4) ZG))))
   (ZQ (Q7 (Zh DX hr2 (ZF (pv 5) (ZF (pv 2) ZG))) (Ot rfl (QR (WT 6 nd) (QR (WT 7 nd) NS))))
   (ZQ (Zk 8 nd (Zh DY hr7 (ZF (pv 5) (ZF (pv 3) ZG))))
   (ZQ (Zz (Vh (XH (Zh DA hr15 (QV (pv 5) (pv 1) (pv 6) (Zh DO hr10 (ZF (pv 7) (ZF (pv 6) ZG))) (pv 8))))) (ZU (Zg XT)) Z0)
   (ZQ (Zz (Vh (XH (Zh DA hr15 (QV (pv 5) (pv 1) Nf (Yn ZG) (pv 8))))) (ZU (Zg XT)) Z0) ht)))),?_⟩
 intro D0 H0 H X lk c ls L kn t1 t2 us jG a ns n x5 x6 x7 x8 x9 x10 j C l2 few hSq hn n0 n1 fin;refine ⟨_,rfl,_,rfl,a,ns,_,rfl,hSq,hn,n0,n1,fun p H5 np s5 W5=>?_⟩;have Lp:L≠p:=Zb j.hL np;have kp:kn≠p:=Zb j.hk np;have plk:p≠lk:=(Zb j.sh.sh.looks np).symm;obtain ⟨psT,hT,_⟩:=id j.tab;have pT:p≠Tb:=(Zb hT np).symm;have np0:H0 p=none:=by
  cases z:H0 p with
  | none=>rfl
  | some o=>rw [j.s0 _ _ z pT] at np;cases np
 have op:∀ i:Nat,i<X.ts.length->(X.as.getD i .d).ab≠p/\(X.as.getD i .d).th≠p:=fun i hi=>by
  obtain ⟨us',e1,_⟩:=(j.sh.tw i hi).things;exact ⟨Zb (j.sh.tw i hi).tw.above np,Zb e1 np⟩
 refine ⟨_,rfl,_,rfl,X.ts,p,L,t1,t2,rfl,W5,s5 _ _ j.hL,Lp,j.tr1.go (ZB.tups s5) (fun o e=>s5 _ _ e),j.tr2.go (ZB.tups s5) (fun o e=>s5 _ _ e),C.len,fun H6 tt tr rn htr jp s6 W6 htt=>?_⟩;refine ⟨tt,_,rfl,Zn.of htt,rfl,_,_,rfl,_,_,rfl,rfl,?_⟩;have f6:ZB H H6:=fun b o e=>s6 b o (s5 b o e) (Zb e np);obtain ⟨pw6,hp6⟩:=W6.some;have hk6:=f6 _ _ j.hk;have hT6:=f6 _ _ hT;refine ⟨_,rfl,_,rfl,p,kn,us,jG,rfl,W6,hk6,j.ks.mono (ZB.tups f6) _ _,j.fit,kp,by lia,fun v kt us7 kts7 H7 kv fk hk7 ks7 fit7 lu7 W7 fr7=>?_⟩
 obtain ⟨pw7,hp7⟩:=W7.some;have sh7:=(j.sh.same f6).off hp6 hk6 hT6 (fun b o a1 a2 _ e=>fr7 b o a1 a2 e) plk C.klk op C.okn;have t67:Z2 H6 H7:=fun b o e=>fr7 b _ (ZT e hp6) (ZT e hk6) e;have tr7:∀{t:WS},YW [] X.ts H t->YW [] X.ts H7 t:=fun{t} h=>(h.go (ZB.tups f6) (fun o e=>f6 _ _ e)).go t67 fun o e=>by
  have e6:=f6 _ _ h.rcd.hd;exact fr7 _ _ (ZT e6 hp6) (ZT e6 hk6) e
 have tab7:=(j.tab.ext (WY.same f6)).ext (H':=H7) ⟨fun b φ e=>fr7 b _ (ZT e hp6) (ZT e hk6) e,fun b φ e=>fr7 b _ (ZT e hp6) (ZT e hk6) e⟩;have j7:Vr jg jh H0 H7 X lk c ls L kn Tb t1 t2 us7 kts7:=⟨sh7,fun b o e nb=>fr7 b o (Zb e np0) (Zb e C.nkn) (f6 b o (j.s0 b o e nb)),fr7 _ _ Lp C.Lkn (f6 _ _ j.hL),tr7 j.tr1,tr7 j.tr2,hk7,ks7,fit7,tab7⟩;have tq:YW [] X.ts H7 tr:=by rcases htr with z | z <;> rw [z] <;> first | exact j7.tr1 | exact j7.tr2
 have hrn':∀ i,rn=some i->i<X.ts.length:=fun i hi=>tq.rcd.rcd.lt i (jp i hi);have r60:(Y8 X.ts rn).length<=60:=by
  cases rn with
  | none=>exact zAk _
  | some i=>exact (C.low i (hrn' i rfl)).2
 obtain ⟨ps7,hT7,_⟩:=id tab7;refine ⟨_,rfl,_,rfl,_,rfl,_,rfl,_,rfl,X.ts,tr.d,tr.kv,tr.F,rn,rfl,tab7,tq.rcd,jp,r60,fun H8 D ws fr8 tab8 nD hD kD=>?_⟩;have f8:∀ b o,b≠lk->b≠p->b≠X.S->b≠X.d->b≠Tb->H7 b=some o->H8 b=some o:=fun b o _ _ _ _ nb e=>fr8 b o nb e;have sh8:=sh7.off hp7 hk7 hT7 (fun b o _ _ nb e=>fr8 b o nb e) plk C.klk op C.okn;have j8:=j7.step C hp7 np0 Lp kp f8 sh8 tab8;have W8:=Q5 W7 fun o e=>fr8 _ _ pT e;obtain ⟨pw8,hp8⟩:=W8.some;have kv8:=kv.mono (j7.tups hp7 f8) _ _;refine ⟨_,rfl,X,lk,c,ls,rn,D,ws,p,v,kt,rfl,⟨sh8,C.wf,C.low,by lia,hrn',hD,(Zb sh7.sh.looks nD).symm,kD⟩,by lia,W8,plk,op,(Zb hp7 nD).symm,kv8,fk,fun H9 ls9 fr9 W9 R9 l9=>⟨_,rfl,Zo ?_⟩⟩
 have f9:∀ b o,b≠lk->b≠p->b≠X.S->b≠X.d->H8 b=some o->H9 b=some o:=fun b o a1 a2 _ _ e=>fr9 b o a1 a2 e;have j9:=j8.step C hp8 np0 Lp kp (fun b o a1 a2 a3 a4 _ e=>f9 b o a1 a2 a3 a4 e) R9 (j8.ext hp8 f9);have kv9:=kv8.mono (j8.tups hp8 fun b o a1 a2 a3 a4 _ e=>f9 b o a1 a2 a3 a4 e) _ _;obtain ⟨pw9,hp9⟩:=W9.some;refine ⟨_,rfl,_,rfl,nn (zAB rfl),fun e0 ne0=>?_⟩;have g10:=ZX ne0 (.lst []);have e10:=ZO (H:=H9) (a:=e0) (o:=.lst []);generalize upd H9 e0 (.lst [])=H10 at g10 e10 ⊢;have j10:=j9.step C hp9 np0 Lp kp (fun b o _ _ _ _ _ e=>g10 b o e) (R9.same g10) (j9.tab.ext (WY.same g10));have W10:=W9.same g10;obtain ⟨pw10,hp10⟩:=W10.some;refine ⟨_,rfl,X,lk,c,ls9,none,e0,[],p,v,kt,rfl,⟨j10.sh,C.wf,C.low,by lia,fun i e=>(by cases e),e10,(Zb R9.sh.looks ne0).symm,.nil⟩,by lia,W10,plk,op,(Zb hp9 ne0).symm,kv9.mono (ZB.tups g10) _ _,fk,fun H11 ls11 fr11 W11 R11 l11=>⟨_,rfl,Zo ?_⟩⟩
 have f11:∀ b o,b≠lk->b≠p->b≠X.S->b≠X.d->H10 b=some o->H11 b=some o:=fun b o a1 a2 _ _ e=>fr11 b o a1 a2 e;have j11:=j10.step C hp10 np0 Lp kp (fun b o a1 a2 a3 a4 _ e=>f11 b o a1 a2 a3 a4 e) R11 (j10.ext hp10 f11);exact tail D0 H0 H11 X lk c ls11 L kn Tb t1 t2 us7 kts7 p rn _ _ _ _ _ _ _ j11 C (by lia) W11 np0 Lp kp plk op hrn' fun H' y9 y10 jl=>fin H' _ _ _ _ y9 y10 ls11 us7 kts7 jl lu7 (by lia)
end
theorem Fx{Tb:Addr}(F0:Zj K "law" "law" V2 f fd)(T:YG mg)(L:Y7 K mg jg jh)(DI:V9 P w K mg base 1 jg ["self"] (Up jg))(DW:ZA P w K mg base 1 "_law_well" ["_law_script","_law_k"] (WA K))(DT:ZA P w K mg base 12 "_law_trees" ["_law_script","_law_shelf"] (Wd [] K jg jh))(DK:ZA P w K mg base 1 "_law_known" ["_law_trees_here"] Ww)(DX:ZA P w K mg base 2 "_law_root" ["_law_well_here","_law_trees_here"] (Wj []))(DY:ZA P w K mg base 7 "_law_any_key" ["_law_well_here","_law_known_here"] XQ)(DO:ZA P w K mg base 10 "_law_rows_of" ["_law_record","_law_root_here"] (XJ [] Tb))(DA:ZA P w K mg base 15 "_law_asked" Oe (Xp [] jg jh))(DB:ZA P w K mg base 2 "_law_bad" ["_law_well_here"] VG)(DG:ZA P w K mg base 11 "_law_gone" ["_law_well_here","_law_shelf"] (Xu jg jh))(DR:ZA P w K mg base 13 "_law_refusal" U7 (YI [] jg jh)):ZK P w K mg base ZW 40 f fd ["_law_script"] (Wo Tb K):=by
 refine F0.ok Vv (fun vs H Q E h=>(by obtain ⟨_,_,rfl,_⟩:=h;rfl)) (fun cdv A outer s H vs Q E hr h=>?_)
 obtain ⟨a,ns,rfl,hSq,hn,hTb,k⟩:=h;have nd:=Vv.nd;have hr1:=hr.mono (show 1<=39 by decide)
 have hr2:=hr.mono (show 2<=39 by decide)
 have hr12:=hr.mono (show 12<=39 by decide)
 obtain ⟨t,ht,turn⟩:=B3 (P:=P) (w:=w) (K:=K) (mg:=mg) (base:=base) (f:=f) (cdv:=cdv) (A:=A) (outer:=outer) (s:=s) (Hs:=H) (E:=E) T hr DW DX DY DO DA DB DG DR;refine ⟨_,ZQ (Zk 1 nd (Ds DI hr2 rfl L.shelf))
  (ZQ (Zk 2 nd (Zh DT hr12 (ZF (pv 0) (ZF (pv 1) ZG))))
  (ZQ (Zk 3 nd (Zh DK hr1 (ZF (pv 2) ZG)))
  (ZQ (Ud PassesOwn.never rfl (KK rfl T.range (ZF ZM (ZF (Zy (MR rfl) rfl T.max LX (ZF ZM (ZF (Zy (Jx rfl) rfl T.min Kf (ZF (Zy Xh rfl T.len XY (ZF (pv 0) ZG)) (ZF ZM ZG))) ZG))) ZG))) (WT 4 nd) ht)
  (ZU (Zg XT))))),?_⟩
 intro S e nS ne z1;have i1:ZB H (upd (upd H e (.own S)) S (.ins jg e [])):=fun b o q=>by
  rw [ZV (Zb q nS),ZV (Zb q ne)];exact q
 refine ⟨S,e,rfl,ZO,fun H1 d lk fr1 nd1 nlk1 dl1 R1=>⟨rfl,?_⟩⟩;have s01:ZB H H1:=fun b o q=>fr1 b o (Zb q nS) (i1 b o q);have RP:YY jg jh H1 S d lk [] (fun _=>[]) (fun _=>0) [] [] []:=⟨R1,rfl,fun i hi=>absurd hi (zBI _),rfl,fun i hi=>absurd hi (zBI _),fun i hi=>absurd hi (zBI _),fun i _ hi=>absurd hi (zBI _)⟩;refine ⟨_,rfl,_,rfl,H,a,S,d,lk,ns,_,_,rfl,hSq,hn,s01,nS,i1.free nd1,i1.free nlk1,RP,fun H2 Ls ts av ho as kvs ls t1 t2 r l240 l480=>?_⟩;obtain ⟨T1,A1,_,D1⟩:=r.trs t1 (by simp)
 obtain ⟨T2,A2,_,D2⟩:=r.trs t2 (by simp)
 have hL2:H2 Ls=some (.lst [.ref t1.T,.ref t2.T]):=r.hL;have ln1:t1.us.length=t1.rs.length:=by have:=T1.ks.length;unfold Z6 at this;rw [zAD] at this;exact this.symm
 have ln2:t2.us.length=t2.rs.length:=by have:=T2.ks.length;unfold Z6 at this;rw [zAD] at this;exact this.symm
 have w1:=T1.len;have w2:=T2.len;refine ⟨_,rfl,Ls,t1.T,t2.T,t1.r,t2.r,_,_,t1.us,t2.us,t1.rs,t2.rs,rfl,hL2,T1.tp,T2.tp,T1.rl,T2.rl,T1.ks,T2.ks,by lia,by lia,fun kn ks H3 s3 nkn hkn kkn=>?_⟩
 have R2:=r.pla.sh;have lkn:ks.length=t1.rs.length+t2.rs.length:=by
  have:=kkn.length;rw [zAD,zAG] at this;exact this.symm
 have nd0:H d=none:=i1.free nd1;have s02:ZB H H2:=fun b o e=>r.pla.fr b o (fun z=>z) (Zb e nS) (Zb e nd0) (fun j hj=>absurd hj (zBI _)) e;have s03:=s02.trans s3;have C:Nn jg jh H ⟨S,d,ts,av,ho,as,kvs⟩ lk Ls kn Tb t1 t2:=⟨i1.free nlk1,nS,nd0,s02.free nkn,r.nL,r.aL.lk,Zb hL2 nkn,(Zb R2.sh.looks nkn).symm,D1,D2,(Pw R2 nkn hkn).own,r.pla.wf,r.pla.hs,l240⟩;obtain ⟨M,eM,M3,M61⟩:∃ M:Int,(if (if (63:Int)<((ns.map V.int).length:Int) then (63:Int) else ((ns.map V.int).length:Int)) > 5 then (if (63:Int)<((ns.map V.int).length:Int) then (63:Int) else ((ns.map V.int).length:Int)) else 5)=M/\5<=M/\M<=63:=by
  refine ⟨_,rfl,?_,?_⟩
  ·(repeat' split) <;> lia
  ·(repeat' split) <;> lia
 refine ⟨_,rfl,a,ns.map V.int,rfl,.inl (s03.seq hSq),_,_,rfl,_,_,rfl,2,M,congrArg (fun z=>[V.int 2,V.int z]) eM,⟨by lia,by lia,by lia,by lia⟩,?_⟩
 clear eM;have tab0:Yt H Tb qR:=⟨#[],hTb,trivial,fun pos cv h=>by simp [PySem.codeAmong] at h⟩
 have J0:Vr jg jh H H3 ⟨S,d,ts,av,ho,as,kvs⟩ lk ts.length ls Ls kn Tb t1 t2 ks ((t1.rs++t2.rs).map (·.1)):=⟨(R2.same s3).q,fun b o e _=>s03 b o e,s3 _ _ hL2,⟨ZB.tups s3 _ _ T1.tp,T1.rcd.same s3,T1.rt⟩,⟨ZB.tups s3 _ _ T2.tp,T2.rcd.same s3,T2.rt⟩,hkn,kkn,fun t ht=>by
  obtain ⟨x,hx,rfl⟩:=zAf.mp ht;exact (zAd.mp hx).elim (fun z=>(T1.fit x z).1) (fun z=>(T2.fit x z).1),tab0.ext (WY.same s03)⟩
 have l3:ls.length<=480:=l480;generalize hX:(⟨S,d,ts,av,ho,as,kvs⟩:Yk)=X at C J0;have eS:X.S=S:=by rw [<-hX]
 refine PZ (lo:=2) (n:=(M - 2).toNat) (C1 jg jh H X lk Ls kn Tb a t1 t2) ⟨_,_,_,_,_,_,_,_,ls,ks,_,by rw [eS];rfl,J0,by lia,by lia⟩ ?_ ?_
 ·rintro i σ H4 hi ⟨x4,x5,x6,x7,x8,x9,x10,c,ls4,us,jG,rfl,j,lus,lls⟩;exact turn _ H H4 X lk c ls4 Ls kn t1 t2 us jG a ns _ _ _ _ _ _ _ j C (by lia) (by lia) (Fq hTb j.s0 hSq) hn (by lia) (by lia) fun H' y5 y6 y7 y8 y9 y10 ls' us' kts' j' lu' ll'=>⟨_,_,_,_,_,_,_,_,ls',us',kts',rfl,j',by lia,by lia⟩
 ·rintro σ H4 ⟨x4,x5,x6,x7,x8,x9,x10,c,ls4,us,jG,rfl,j,lus,lls⟩;exact k H4
end
end Tw
namespace L2
open PySem PySem.Spec
def xC(K:zAA)(C:Addr):Bool:=
 (zAV K (.ref C) "__getattribute__" == some (some (.builtin "BaseException.__getattribute__")))&&((zAV K (.ref C) "__getattr__" == some none)&&((zAr K C (.type "BaseException")==some true)&&((zAr K C (.type "object")==some true) &&
 ((zAV K (.ref C) "__class__" == some (some (.builtin "object.__class__")))&&((PySem.W.specialIn K (.builtin "object.__class__") "__get__" == some (some (.builtin "getset_descriptor.__get__")))&&(PySem.W.takesIn K (.builtin "object.__class__")==some true))))))
theorem Im{K:zAA}{C:Addr}(h:xC K C=true):Xx K C:=by
 unfold xC at h;simp only [zAP,beq_iff_eq] at h;obtain ⟨a,b,c,d,e,f,g⟩:=h;exact ⟨a,b,c,d,e,f,g⟩
def xF(K:zAA)(C fI:Addr)(f:Str):Bool:=
 xC K C&&(KG K C&&((zAV K (.ref C) "__init__" == some (some (.ref fI)))&&(zBj K (.ref fI)&&(zAm K (.ref C)&&((zAV K (.ref C) "__setattr__" == some (some (.builtin "object.__setattr__"))) &&
 ((zAV K (.ref C) f==some none)&&(zBS K C&&GA K C)))))))
theorem K1{K:zAA}{C fI:Addr}{f:Str}(h:xF K C fI f=true):Wr K C fI f:=by
 unfold xF at h;simp only [zAP,beq_iff_eq] at h;obtain ⟨a,b,c,d,e,f,g,i,j⟩:=h;exact ⟨Im a,b,c,d,e,f,g,i,j⟩
def LC(K:zAA)(cs:List Addr)(up:jd):Bool:=
 (zAx cs.length).all fun k=>xC K (cs.getD k 0)&&((zAx cs.length).all (fun j=>zAZ K (.ref (cs.getD k 0)) (.ref (cs.getD j 0))==some (k==j))&&up.all fun v=>zAZ K (.ref (cs.getD k 0)) v==some true)
theorem KY{K:zAA}{cs:List Addr}{up:jd}(h:LC K cs up=true){k:Nat}(hk:k<cs.length):Xx K (cs.getD k 0)/\(∀ j,j<cs.length->zAZ K (.ref (cs.getD k 0)) (.ref (cs.getD j 0))=some (k==j))/\∀ v∈up,zAZ K (.ref (cs.getD k 0)) v=some true:=by
 have h1:=zAO.mp h k (zA8.mpr hk);simp only [zAP] at h1;exact ⟨Im h1.1,fun j hj=>beq_iff_eq.mp (zAO.mp h1.2.1 j (zA8.mpr hj)),fun v hv=>beq_iff_eq.mp (zAO.mp h1.2.2 v hv)⟩
end L2
namespace Tw
open PySem PySem.Spec L2 PyProof.Rows
section
variable{P:Program}{w:World}{K:zAA}{mg:jb}{base:Heap}{f:Addr}{fd:FuncData}
abbrev PN:Stmt:=VB (Zt 6) 0
abbrev PV:Stmt:=VB (Zt 8) 0
theorem ZIM:ZC ["self","number"] ["self","number"] (Ze PN):=Zs
theorem A4:ZC ["self","at"] ["self","at"] (Ze PV):=Zs
theorem Bq{C:Addr}(F:Zj K "__init__" "NoTwig.__init__" PN f fd):ZK P w K mg base ZW 1 f fd ["self","number"] (OX K C f "number"):=by
 refine F.ok ZIM (fun vs H Q E h=>(by obtain ⟨_,_,_,rfl,_⟩:=h;rfl)) (fun cdv A outer s H vs Q E hr h=>?_)
 obtain ⟨c,ea,y,rfl,e,k⟩:=h;exact ⟨_,ZU (IG (pv 0) (pv 1) rfl),⟨_,rfl,_,rfl,U3,ea,_,_,rfl,e,c,k⟩⟩
theorem Ak{C:Addr}(F:Zj K "__init__" "NoPlace.__init__" PV f fd):ZK P w K mg base ZW 1 f fd ["self","at"] (OX K C f "at"):=by
 refine F.ok A4 (fun vs H Q E h=>(by obtain ⟨_,_,_,rfl,_⟩:=h;rfl)) (fun cdv A outer s H vs Q E hr h=>?_)
 obtain ⟨c,ea,y,rfl,e,k⟩:=h;exact ⟨_,ZU (IG (pv 0) (pv 1) rfl),⟨_,rfl,_,rfl,U3,ea,_,_,rfl,e,c,k⟩⟩
theorem F4{CB CT CK CP:Addr}(h:LC K [CT,CK,CP] [.type "ValueError"]=true)(b:mg "TwigError" = some (.ref CB))(n1:mg "NoTwig" = some (.ref CT))(n2:mg "NoKey" = some (.ref CK))(n3:mg "NoPlace" = some (.ref CP))(ty:zA4 K (.ref CB)=some (.type "type"))(mB:zAr K CB (.type "BaseException")=some true)(sT:zAr K CT (.ref CB)=some true)(sK:zAr K CK (.ref CB)=some true)(sP:zAr K CP (.ref CB)=some true):Cl K mg CB CT CK CP:=by
 obtain ⟨xT,t1,t2⟩:=KY h (k:=0) (by simp)
 obtain ⟨xK,k1,k2⟩:=KY h (k:=1) (by simp)
 obtain ⟨xP,p1,p2⟩:=KY h (k:=2) (by simp)
 have ne:∀{C D:Addr},zAZ K (.ref C) (.ref D)=some false->zAZ K (.ref D) (.ref D)=some true->C≠D:=fun{C D} h1 h2 e=>by
  rw [e,h2] at h1;cases h1
 have a1:CT≠CK:=ne (t1 1 (by simp)) (k1 1 (by simp))
 have a2:CT≠CP:=ne (t1 2 (by simp)) (p1 2 (by simp))
 have a3:CK≠CP:=ne (k1 2 (by simp)) (p1 2 (by simp))
 refine ⟨b,n1,n2,n3,ty,mB,fun C hC=>?_,a1,a2,a3⟩;rcases hC with rfl | rfl | rfl
 ·refine ⟨sT,xT,fun D hD=>?_,t2 _ (by simp)⟩
  rcases hD with rfl | rfl | rfl
  ·rw [decide_eq_true rfl];exact t1 0 (by simp)
  ·rw [decide_eq_false a1];exact t1 1 (by simp)
  ·rw [decide_eq_false a2];exact t1 2 (by simp)
 ·refine ⟨sK,xK,fun D hD=>?_,k2 _ (by simp)⟩
  rcases hD with rfl | rfl | rfl
  ·rw [decide_eq_false (Ne.symm a1)];exact k1 0 (by simp)
  ·rw [decide_eq_true rfl];exact k1 1 (by simp)
  ·rw [decide_eq_false a3];exact k1 2 (by simp)
 ·refine ⟨sP,xP,fun D hD=>?_,p2 _ (by simp)⟩
  rcases hD with rfl | rfl | rfl
  ·rw [decide_eq_false (Ne.symm a2)];exact p1 0 (by simp)
  ·rw [decide_eq_false (Ne.symm a3)];exact p1 1 (by simp)
  ·rw [decide_eq_true rfl];exact p1 2 (by simp)
end
structure YF(K:zAA)(C:Addr)(m q:Str)(st:Stmt)(ps:List Str):Prop where
 ex:∃ f fd,QN K C m f/\Zj K m q st f fd/\Zu K fd ps []
theorem YF.of{P:Program}{w:World}{K:zAA}{mg:jb}{base:Heap}{CX:VN}{C:Addr}{m q:Str}{st:Stmt}{ps:List Str}{k:Nat}{sp:Sp}(L:YF K C m q st ps)(h:∀ f fd,Zj K m q st f fd->ZK P w K mg base CX k f fd ps sp):ZJ P w K mg base CX k C m ps sp:=by
 obtain ⟨f,fd,M,F,b⟩:=L.ex;exact ⟨f,fd,M,h f fd F,b⟩
theorem OO{K:zAA}{C f:Addr}{m q:Str}{st:Stmt}{ps:List Str}{od an:Option Addr}{sl:Array (jc)}{oc kV dc pm cd ct:Value}(v:zAV K (.ref C) m=some (some (.ref f)))(l:K.lookup f=some ⟨oc,od,.func (zA3 m q (Vg st) (WD st) (Ze st) .none kV dc pm an cd ct),sl⟩)(fn:zBj K (.ref f)=true)(c:zBL K cd q=true)(k:zAm K (.ref f)=true)(hb:∀ (kV doc pm:Value) (an:Option Addr) (cdv ct:Value) (us:jd),us.length=ps.length->bindArgs (zA3 m q (Vg st) (WD st) (Ze st) .none kV doc pm an cdv ct) ⟨us,[]⟩=pure (ps.zip us):=by first | exact (fun _ _ _ _ _ _ us hl=>match us,hl with | [_],_=>rfl) | exact (fun _ _ _ _ _ _ us hl=>match us,hl with | [_,_],_=>rfl) | exact (fun _ _ _ _ _ _ us hl=>match us,hl with | [_,_,_],_=>rfl) | exact (fun _ _ _ _ _ _ us hl=>match us,hl with | [_,_,_,_],_=>rfl) | exact (fun _ _ _ _ _ _ us hl=>match us,hl with | [_,_,_,_,_],_=>rfl)):YF K C m q st ps:=
 ⟨f,_,⟨v,fn,k⟩,UI (st:=st) l c k,(UI (st:=st) l c k).binds hb⟩
structure Uy(K:zAA)(C:Addr)(q:Str)(st:Stmt)(ps:List Str):Prop where
 ex:∃ f fd,zAV K (.ref C) "__init__" = some (some (.ref f))/\zBj K (.ref f)=true/\Zj K "__init__" q st f fd/\Zu K fd ps []
theorem P8{K:zAA}{C f:Addr}{q:Str}{st:Stmt}{ps:List Str}{od an:Option Addr}{sl:Array (jc)}{oc kV dc pm cd ct:Value}(v:zAV K (.ref C) "__init__" = some (some (.ref f)))(l:K.lookup f=some ⟨oc,od,.func (zA3 "__init__" q (Vg st) (WD st) (Ze st) .none kV dc pm an cd ct),sl⟩)(fn:zBj K (.ref f)=true)(c:zBL K cd q=true)(k:zAm K (.ref f)=true)(hb:∀ (kV doc pm:Value) (an:Option Addr) (cdv ct:Value) (us:jd),us.length=ps.length->bindArgs (zA3 "__init__" q (Vg st) (WD st) (Ze st) .none kV doc pm an cdv ct) ⟨us,[]⟩=pure (ps.zip us):=by first | exact (fun _ _ _ _ _ _ us hl=>match us,hl with | [_],_=>rfl) | exact (fun _ _ _ _ _ _ us hl=>match us,hl with | [_,_],_=>rfl) | exact (fun _ _ _ _ _ _ us hl=>match us,hl with | [_,_,_],_=>rfl) | exact (fun _ _ _ _ _ _ us hl=>match us,hl with | [_,_,_,_],_=>rfl) | exact (fun _ _ _ _ _ _ us hl=>match us,hl with | [_,_,_,_,_],_=>rfl)):Uy K C q st ps:=
 ⟨f,_,v,fn,UI (st:=st) l c k,(UI (st:=st) l c k).binds hb⟩
theorem Lf{K:zAA}{x:Str}{f c P:Addr}{oc:Value}{od:Option Addr}{fd:FuncData}{sl:Array (jc)}{oc2:Value}{od2:Option Addr}{vs:Array Value}{jJ:Array (jc)}(a:zAY K mainGlobals x=some (some (.ref f)))(l:K.lookup f=some ⟨oc,od,.func fd,sl⟩)(e:fd.code=.ref c)(l2:K.lookup c=some ⟨oc2,od2,.fields vs,jJ⟩)(v:vs[11]? = some (.ref P)):zBK K x=some (c,P):=by
 unfold zBK;rw [a];simp only;rw [l];simp only;rw [e];simp only;rw [l2];simp only;rw [v]
theorem Kb{l:zCP}{w:World}{K:zAA}{h:Heap}{mg:jb}{fa cb0 tb0 f46 f54 CB CK CT CP jg jh jN jP:Addr}(X:K.In h)(G:h.Ns mainGlobals mg)(hfa:mg "law" = some (.ref fa))(hta:zBK K "_law_rows_of" = some (cb0,tb0)){od46 an46 od54 an54:Option Addr}{sl46 sl54:Array (jc)}{oc46 kV46 dc46 pm46 cd46 ct46 oc54 kV54 dc54 pm54 cd54 ct54:Value}{t1 t2 t3 t4 t5 t6 t7 t8 t9 t10:Tok}(L1:Za K mg "is_key" La ["thing"])(L2:Za K mg "checked" NK ["thing"])(L3:Za K mg "fits" NL ["thing","room"])(L4:Za K mg "has_few_figures" Ly ["number"])(L5:Za K mg "is_sign" Nw ["sign"])(L6:Za K mg "ahead" Lu ["one","other"])(L7:Za K mg "place_in" LT ["keys","key"])(L8:Za K mg "standing" Oj ["key"])(L9:Za K mg "checked_rows" Mf ["rows"])(L10:Za K mg "own_rows" Ll ["rows"])(L11:Za K mg "rise" MX ["keys"])(L12:Za K mg "label_of_rows" Nz ["rows"])(L13:Za K mg "label_over" KS ["labels"])(L14:Za K mg "stand_side_by_side" Lq ["label","following"])(L15:Za K mg "steps_to" Me ["shelf","root","key"])(L16:Za K mg "check_asked" MB ["shelf","root","key"])(L17:Za K mg "place_within" LS ["shelf","found","key"])(L18:Za K mg "branch_at" Mv ["found","at"])(L19:Za K mg "is_leaf" Lx ["found"])(L20:Za K mg "nth" LY ["shelf","root","at"])(L21:Za K mg "branch_with" Lw ["shelf","branches","at"])(L22:Za K mg "place_of" Mu ["shelf","root","key"])(L23:Za K mg "rows_ahead" Ml ["shelf","step"])(L24:Za K mg "rows_under" O5 ["shelf","root"])(L25:Za K mg "is_stem" MD ["twig"])(L26:Za K mg "_law_well" M6 ["_law_script","_law_k"])(L27:Za K mg "_law_pull" KC ["_law_well_here","_law_many"])(L28:Za K mg "_law_great" M7 ["_law_well_here","_law_bound"])(L29:Za K mg "_law_text" Mn ["_law_well_here"])(L30:Za K mg "_law_key" NH ["_law_well_here","_law_room"])(L31:Za K mg "_law_rank" Nl ["_law_spot"])(L32:Za K mg "_law_sorted" N8 ["_law_model"])(L33:Za K mg "_law_keys" MG ["_law_well_here","_law_many"])(L34:Za K mg "_law_cut" OC ["_law_well_here","_law_things","_law_few","_law_stem"])(L35:Za K mg "_law_plant" U9 ["_law_well_here","_law_shelf","_law_rows"])(L36:Za K mg "_law_reached" Mx ["_law_shelf","_law_root_here","_law_found"])(L37:Za K mg "_law_alike" Ni ["_law_found","_law_due"])(L38:Za K mg "_law_value" LH ["_law_well_here"])(L39:Za K mg "_law_any_key" LI ["_law_well_here","_law_known_here"])(L40:Za K mg "_law_ground" KJ ["_law_well_here","_law_most"])(L41:Za K mg "_law_bad" LU ["_law_well_here"])(L42:Za K mg "_law_gone" Mo ["_law_well_here","_law_shelf"])(L43:Za K mg "_law_trees" Nr ["_law_script","_law_shelf"])(L44:Za K mg "_law_known" N4 ["_law_trees_here"])(L45:Za K mg "_law_below" MF ["_law_record","_law_root_here"])(a46:zAY K mainGlobals "_law_rows_of" = some (some (.ref f46)))(l46:K.lookup f46=some ⟨oc46,od46,.func (zA3 "_law_rows_of" "_law_rows_of" (Vg QH) (WD QH) (Ze QH) .none kV46 dc46 pm46 an46 cd46 ct46),sl46⟩)(c46:zBL K cd46 "_law_rows_of" = true)(k46:zAm K (.ref f46)=true)(L47:Za K mg "_law_root" KH ["_law_well_here","_law_trees_here"])(L48:Za K mg "_law_told" Mw ["_law_way","_law_shelf","_law_root_here","_law_one","_law_other"])(L49:Za K mg "_law_refusal" Ma ["_law_way","_law_shelf","_law_root_here","_law_one","_law_other"])(L50:Za K mg "_law_whole" MM ["_law_found","_law_due"])(L51:Za K mg "_law_place" Nq ["_law_well_here","_law_many"])(L52:Za K mg "_law_nth" M5 ["_law_shelf","_law_root_here","_law_rows","_law_at"])(L53:Za K mg "_law_asked" Lk ["_law_well_here","_law_shelf","_law_root_here","_law_rows","_law_spot"])(a54:zAY K mainGlobals "law" = some (some (.ref f54)))(l54:K.lookup f54=some ⟨oc54,od54,.func (zA3 "law" "law" (Vg V2) (WD V2) (Ze V2) .none kV54 dc54 pm54 an54 cd54 ct54),sl54⟩)(c54:zBL K cd54 "law" = true)(k54:zAm K (.ref f54)=true)(z1:zAY K mainGlobals "isinstance" = some none)(z2:zAY K mainGlobals "bool" = some none)(z3:zAY K mainGlobals "int" = some none)(z4:zAY K mainGlobals "str" = some none)(z5:zAY K mainGlobals "tuple" = some none)(z6:zAY K mainGlobals "list" = some none)(z7:zAY K mainGlobals "len" = some none)(z8:zAY K mainGlobals "all" = some none)(z9:zAY K mainGlobals "abs" = some none)(z10:zAY K mainGlobals "max" = some none)(z11:zAY K mainGlobals "min" = some none)(z12:zAY K mainGlobals "range" = some none)(z13:zAY K mainGlobals "sorted" = some none)(z14:zAY K mainGlobals "ValueError" = some none)(z15:zAY K mainGlobals "sum" = some none)(m1_:zAY K mainGlobals "MOST_SIGNS" = some (some (.int 40 t1)))(m2_:zAY K mainGlobals "MOST_THINGS" = some (some (.int 4 t2)))(m3_:zAY K mainGlobals "MOST_DEEP" = some (some (.int 3 t3)))(m4_:zAY K mainGlobals "MOST_ROWS" = some (some (.int 4 t4)))(m5_:zAY K mainGlobals "FEWEST_BRANCHES" = some (some (.int 2 t5)))(m6_:zAY K mainGlobals "MOST_BRANCHES" = some (some (.int 4 t6)))(m7_:zAY K mainGlobals "HEIGHT" = some (some (.int 0 t7)))(m8_:zAY K mainGlobals "LEAST" = some (some (.int 1 t8)))(m9_:zAY K mainGlobals "GREATEST" = some (some (.int 2 t9)))(m10_:zAY K mainGlobals "MANY" = some (some (.int 3 t10)))(IjS:Uy K jg "Shelf.__init__" Mr ["self"])(IjT:Uy K jh "Twig.__init__" KA ["self","things","tag"]){ocjN kVjN dcjN pmjN cdjN ctjN:Value}{odjN anjN:Option Addr}{sljN:Array (jc)}(iljN:K.lookup jN=some ⟨ocjN,odjN,.func (zA3 "__init__" "NoTwig.__init__" (Vg PN) (WD PN) (Ze PN) .none kVjN dcjN pmjN anjN cdjN ctjN),sljN⟩)(icjN:zBL K cdjN "NoTwig.__init__" = true)(ikjN:zAm K (.ref jN)=true){ocjP kVjP dcjP pmjP cdjP ctjP:Value}{odjP anjP:Option Addr}{sljP:Array (jc)}(iljP:K.lookup jP=some ⟨ocjP,odjP,.func (zA3 "__init__" "NoPlace.__init__" (Vg PV) (WD PV) (Ze PV) .none kVjP dcjP pmjP anjP cdjP ctjP),sljP⟩)(icjP:zBL K cdjP "NoPlace.__init__" = true)(ikjP:zAm K (.ref jP)=true)(Mm1:YF K jg "put_leaf" "Shelf.put_leaf" Mb ["self","rows"])(Mm2:YF K jg "put_stem" "Shelf.put_stem" N7 ["self","numbers"])(Mm3:YF K jg "put_twig" "Shelf.put_twig" KM ["self","things","label"])(Mm4:YF K jg "holders" "Shelf.holders" Lm ["self","number"])(Mm5:YF K jg "outside" "Shelf.outside" MC ["self","number"])(Mm6:YF K jg "let_go" "Shelf.let_go" MK ["self","number"])(Mm7:YF K jg "look" "Shelf.look" Kc ["self","number"])(Mm8:YF K jg "label" "Shelf.label" NG ["self","number"])(Mm11:YF K jg "drop_unheld" "Shelf.drop_unheld" Mc ["self","number"])(Mm12:YF K jg "twig_of" "Shelf.twig_of" OZ ["self","number"])(Mm13:YF K jg "labels_of" "Shelf.labels_of" MA ["self","numbers"])(Mm14:YF K jg "check_held" "Shelf.check_held" Kd ["self","numbers"])(Mm15:YF K jg "take_over" "Shelf.take_over" MN ["self","stem","branches"])(xCB:zAY K mainGlobals "TwigError" = some (some (.ref CB)))(xCK:zAY K mainGlobals "NoKey" = some (some (.ref CK)))(xCT:zAY K mainGlobals "NoTwig" = some (some (.ref CT)))(xCP:zAY K mainGlobals "NoPlace" = some (some (.ref CP)))(xCSh:zAY K mainGlobals "Shelf" = some (some (.ref jg)))(xCTw:zAY K mainGlobals "Twig" = some (some (.ref jh)))(vjN:zAV K (.ref CT) "__init__" = some (some (.ref jN)))(vjP:zAV K (.ref CP) "__init__" = some (some (.ref jP)))(mkCSh:zCO K jg=true)(kpCSh:zAm K (.ref jg)=true)(pgCSh:zBg K jg Str.empty=true)(hdCSh:zBS K jg=true)(poCSh:zCE K jg=true)(saCSh:zAV K (.ref jg) "__setattr__" = some (some (.builtin "object.__setattr__")))(mkCTw:zCO K jh=true)(kpCTw:zAm K (.ref jh)=true)(pgCTw:zBg K jh Str.empty=true)(hdCTw:zBS K jh=true)(poCTw:zCE K jh=true)(saCTw:zAV K (.ref jh) "__setattr__" = some (some (.builtin "object.__setattr__")))(na_kept:zAV K (.ref jg) "kept" = some none)(na_following:zAV K (.ref jg) "following" = some none)(na_looks:zAV K (.ref jg) "looks" = some none)(na_things:zAV K (.ref jh) "things" = some none)(na_tag:zAV K (.ref jh) "tag" = some none)(na_above:zAV K (.ref jh) "above" = some none)(na_holds:zAV K (.ref jh) "holds" = some none)(tyB:zA4 K (.ref CB)=some (.type "type"))(mB:zAr K CB (.type "BaseException")=some true)(kitx:LC K [CT,CK,CP] [.type "ValueError"]=true)(wCT:xF K CT jN "number" = true)(tyCT:zA4 K (.ref CT)=some (.type "type"))(wCP:xF K CP jP "at" = true)(tyCP:zA4 K (.ref CP)=some (.type "type"))(sbCT:zAr K CT (.ref CB)=some true)(sbCK:zAr K CK (.ref CB)=some true)(sbCP:zAr K CP (.ref CB)=some true)(exCK:zCd K CK PJ "ValueError.__new__" = true)(kpCK:zAm K (.ref CK)=true)(mBCK:zAr K CK (.type "BaseException")=some true)(tyCK:zA4 K (.ref CK)=some (.type "type")):
  ∃ fd:FuncData,(∀(s:Shared)(v:Value),BindsTo s fd ⟨[v],[]⟩ [("_law_script",v)])/\∀ base:Heap,K.In base->base.Ns mainGlobals mg->zBW base cb0 tb0->base.BuiltinsAt mg tb0->ZK l.prog w K mg base ZW 40 fa fd ["_law_script"] (Wo tb0 K):=by
 have e:=hfa.symm.trans (zAp X G a54);cases e;have T:YG mg:=⟨zAq X G z1,zAq X G z2,zAq X G z3,zAq X G z4,zAq X G z5,zAq X G z6,zAq X G z7,zAq X G z8,zAq X G z9,zAq X G z10,zAq X G z11,zAq X G z12,zAq X G z13,zAq X G z14,zAq X G z15,⟨_,zAp X G m1_⟩,⟨_,zAp X G m2_⟩,⟨_,zAp X G m3_⟩,⟨_,zAp X G m4_⟩,⟨_,zAp X G m5_⟩,⟨_,zAp X G m6_⟩,⟨_,zAp X G m7_⟩,⟨_,zAp X G m8_⟩,⟨_,zAp X G m9_⟩,⟨_,zAp X G m10_⟩⟩;refine ⟨zA3 "law" "law" (Vg V2) (WD V2) (Ze V2) .none kV54 dc54 pm54 an54 cd54 ct54,fun s v=>.of_eq rfl,fun base kb _ hC hB=>?_⟩;have CLx:Cl K mg CB CT CK CP:=F4 kitx (zAp X G xCB) (zAp X G xCT) (zAp X G xCK) (zAp X G xCP) tyB mB sbCT sbCK sbCP;have SHx:Y7 K mg jg jh:=⟨(zAp X G xCSh),(zAp X G xCTw),⟨pgCSh,hdCSh,poCSh,saCSh⟩,⟨pgCTw,hdCTw,poCTw,saCTw⟩,na_kept,na_following,na_looks,na_things,na_tag,na_above,na_holds⟩;have NTw:XN l.prog w K mg base "NoTwig" CT "number" :=⟨⟨jN,_,K1 wCT,Bq (UI (st:=PN) iljN icjN ikjN),(UI (st:=PN) iljN icjN ikjN).binds fun _ _ _ _ _ _ us hl=>match us,hl with | [_,_],_=>rfl⟩,(zAp X G xCT),tyCT⟩
 have NPl:XN l.prog w K mg base "NoPlace" CP "at" :=⟨⟨jP,_,K1 wCP,Ak (UI (st:=PV) iljP icjP ikjP),(UI (st:=PV) iljP icjP ikjP).binds fun _ _ _ _ _ _ us hl=>match us,hl with | [_,_],_=>rfl⟩,(zAp X G xCP),tyCP⟩
 have XKx:GN K mg CK:=⟨(zAp X G xCK),exCK,kpCK,mBCK,tyCK⟩;have DMS:V9 l.prog w K mg base 1 jg ["self"] (Up jg):=by obtain ⟨f,fd,v,fn,F,b⟩:=IjS.ex;exact ⟨f,fd,⟨mkCSh,v,fn,kpCSh⟩,Ac F SHx,b⟩
 have DMT:V9 l.prog w K mg base 1 jh ["self","things","tag"] (Ux jh):=by obtain ⟨f,fd,v,fn,F,b⟩:=IjT.ex;exact ⟨f,fd,⟨mkCTw,v,fn,kpCTw⟩,EU F SHx,b⟩
 have MTo:ZJ l.prog w K mg base ZW 1 jg "twig_of" ["self","number"] (Z7 jg):=Mm12.of fun _ _ F=>Fm F SHx;have MOu:ZJ l.prog w K mg base ZW 2 jg "outside" ["self","number"] (WI jg jh fun _ ho _=>.int ho):=Mm5.of fun _ _ F=>Fi F SHx MTo;have MLa:ZJ l.prog w K mg base ZW 2 jg "label" ["self","number"] (WI jg jh fun tg _ _=>tg):=Mm8.of fun _ _ F=>ED F SHx MTo;have MHo:ZJ l.prog w K mg base ZW 2 jg "holders" ["self","number"] (WI jg jh fun _ ho us=>.int ((us.length:Nat)+(ho:Nat):Int)):=Mm4.of fun _ _ F=>Dt F T SHx MTo;have DIs:ZA l.prog w K mg base 1 "is_stem" ["twig"] (Wt jh):=L25.of fun _ _ F=>ZNO F T SHx;have MLo:ZJ l.prog w K mg base ZW 2 jg "look" ["self","number"] (Ve jg jh):=Mm7.of fun _ _ F=>ZL7 F T SHx MTo DIs;have MLq:=EG MLo;have MBq:=B2 MLa;have MPt:ZJ l.prog w K mg base ZW 3 jg "put_twig" ["self","things","label"] (Y1 jg jh):=Mm3.of fun _ _ F=>ZHQ F SHx DMT;have MTk:ZJ l.prog w K mg base ZW 2 jg "take_over" ["self","stem","branches"] (Y9 jg jh):=Mm15.of fun _ _ F=>Ee F SHx MTo;have MTd:ZJ l.prog w K mg base (Xi l.prog w) 3 jg "twig_of" ["self","number"] (XW jg CT):=Mm12.of fun _ _ F=>EB F SHx NTw;have MLd:ZJ l.prog w K mg base (Xi l.prog w) 4 jg "label" ["self","number"] (XU jg jh CT):=Mm8.of fun _ _ F=>FY F SHx MTd;have MLs:ZJ l.prog w K mg base ZW 3 jg "labels_of" ["self","numbers"] (Yu jg jh):=Mm13.of fun _ _ F=>ZEt F SHx MLa;have MCh:ZJ l.prog w K mg base ZW 3 jg "check_held" ["self","numbers"] (YH jg jh):=Mm14.of fun _ _ F=>ZEM F SHx MOu;have MDr:ZJ l.prog w K mg base ZW 3 jg "drop_unheld" ["self","number"] (Vm jg jh):=Mm11.of fun _ _ F=>BG F SHx MHo DIs;have MLg:ZJ l.prog w K mg base ZW 4 jg "let_go" ["self","number"] (Wm jg jh):=Mm6.of fun _ _ F=>E4 F SHx MCh MTo MDr;have DP:ZA l.prog w K mg base 1 "_law_pull" ["_law_well_here","_law_many"] (Zp):=L27.of fun _ _ F=>F2 F;have DW:ZA l.prog w K mg base 1 "_law_well" ["_law_script","_law_k"] (WA K):=L26.of fun _ _ F=>Fv F T;have DG:ZA l.prog w K mg base 2 "_law_great" ["_law_well_here","_law_bound"] (Zp):=L28.of fun _ _ F=>BN F T DP;have DT:ZA l.prog w K mg base 2 "_law_text" ["_law_well_here"] (X7):=L29.of fun _ _ F=>ZM8 F T DP;have DN:ZA l.prog w K mg base 1 "has_few_figures" ["number"] (V1):=L4.of fun _ _ F=>Aw F T;have DSg:ZA l.prog w K mg base 1 "is_sign" ["sign"] (WX):=L5.of fun _ _ F=>ZM6 F;have DIg:ZA l.prog w K mg base 6 "is_key" ["thing"] (XL):=L1.of fun _ _ F=>A8 F T (JG T L3 DN DSg 4);have DIk:=Bb DIg;have DC:ZA l.prog w K mg base 7 "checked" ["thing"] (Uf):=L2.of fun _ _ F=>Ec F DIk;have DSt:ZA l.prog w K mg base 6 "standing" ["key"] (Vn 5):=HE T L8 5;have DAh:ZA l.prog w K mg base 7 "ahead" ["one","other"] (Y2):=L6.of fun _ _ F=>E3 F DSt;have DRi:ZA l.prog w K mg base 8 "rise" ["keys"] (Wp):=L11.of fun _ _ F=>BS F T DAh;have DOw:ZA l.prog w K mg base 8 "own_rows" ["rows"] (Xa):=L10.of fun _ _ F=>EJ F DC;have DCr:ZA l.prog w K mg base 9 "checked_rows" ["rows"] (X8):=L9.of fun _ _ F=>BR F T DOw DRi;have DLR:ZA l.prog w K mg base 1 "label_of_rows" ["rows"] (XV):=L12.of fun _ _ F=>Cb F T;have MPg:ZJ l.prog w K mg base ZW 10 jg "put_leaf" ["self","rows"] (Ya jg jh):=Mm1.of fun _ _ F=>D7 F SHx DCr DLR MPt;have MPl:=Fb MPg;have DSi:ZA l.prog w K mg base 8 "stand_side_by_side" ["label","following"] (VZ):=L14.of fun _ _ F=>Be F T DAh;have DOv:ZA l.prog w K mg base 9 "label_over" ["labels"] (Wq):=L13.of fun _ _ F=>ZLH F T DSi;have MPs:ZJ l.prog w K mg base ZW 10 jg "put_stem" ["self","numbers"] (Z4 [] jg jh):=Mm2.of fun _ _ F=>E7 F T SHx MLs DOv MCh MPt MTk;have DPi:ZA l.prog w K mg base 8 "place_in" ["keys","key"] (Wv K):=L7.of fun _ _ F=>ZKs F T DAh;have DIl:ZA l.prog w K mg base 1 "is_leaf" ["found"] (YV):=L19.of fun _ _ F=>Ck F;have DBa:ZA l.prog w K mg base 2 "branch_at" ["found","at"] (XC):=L18.of fun _ _ F=>Dx F DIl;have DPw:ZA l.prog w K mg base 9 "place_within" ["shelf","found","key"] (X0 [] jg jh):=L17.of fun _ _ F=>A3 F T SHx DIl DPi DAh MBq;have DCd:Yd l.prog w K mg base 7 "checked" ["thing"] (Yf CK):=L2.ofD fun _ _ F=>ZF4 F kb XKx DIg;have DCa:Yd l.prog w K mg base 8 "check_asked" ["shelf","root","key"] (Yh jg jh CT CK):=L16.ofD fun _ _ F=>G0 F SHx MLd DCd;have DSs:Yd l.prog w K mg base 10 "steps_to" ["shelf","root","key"] (Wl [] jg jh CT CK):=L15.ofD fun _ _ F=>C0 F SHx DCa MLq DPw DBa;have DRu:ZA l.prog w K mg base 3 "rows_under" ["shelf","root"] (Xk jg jh):=L24.of fun _ _ F=>ZKM F T SHx MBq;have DRd:Yd l.prog w K mg base 5 "rows_under" ["shelf","root"] (Wk jg jh CT):=L24.ofD fun _ _ F=>CI F T SHx MLd;have DBw:ZA l.prog w K mg base 4 "branch_with" ["shelf","branches","at"] (Xc jg jh):=L21.of fun _ _ F=>Ew F DRu;have DNt:Yd l.prog w K mg base 6 "nth" ["shelf","root","at"] (VL [] jg jh CT CP):=L20.ofD fun _ _ F=>ZN6 F SHx NPl DRd MLq DIl DBw;have DRa:ZA l.prog w K mg base 4 "rows_ahead" ["shelf","step"] (Wu [] jg jh):=L23.of fun _ _ F=>ZKH F T DIl DRu;have DPo:Yd l.prog w K mg base 11 "place_of" ["shelf","root","key"] (Zx [] jg jh CT CK):=L22.ofD fun _ _ F=>EZ F T DSs DRa;have DK:ZA l.prog w K mg base 6 "_law_key" ["_law_well_here","_law_room"] (Y5 4):=Gi T L30 DP DG DT 4;have DRk:ZA l.prog w K mg base 6 "_law_rank" ["_law_spot"] (Yx 5):=IL T L31 5;have DSo:ZA l.prog w K mg base 9 "_law_sorted" ["_law_model"] (X3 w):=L32.of fun _ _ F=>ZJV F T DRk;have DKs:ZA l.prog w K mg base 9 "_law_keys" ["_law_well_here","_law_many"] (Vb):=L33.of fun _ _ F=>ZMa F T DK DRk;have DCu:ZA l.prog w K mg base 2 "_law_cut" ["_law_well_here","_law_things","_law_few","_law_stem"] (Vp):=L34.of fun _ _ F=>BH F T DP;have DPl:ZA l.prog w K mg base 11 "_law_plant" ["_law_well_here","_law_shelf","_law_rows"] (Wn [] jg jh):=L35.of fun _ _ F=>AR F T SHx DP DCu MPs MPl;have DRe:ZA l.prog w K mg base 3 "_law_reached" ["_law_shelf","_law_root_here","_law_found"] (XX [] jg jh):=L36.of fun _ _ F=>EL F T SHx MLq;have DV:ZA l.prog w K mg base 7 "_law_value" ["_law_well_here"] (Wf):=L38.of fun _ _ F=>ZK5 F DP DK;have DAk:ZA l.prog w K mg base 7 "_law_any_key" ["_law_well_here","_law_known_here"] (XQ):=L39.of fun _ _ F=>EX F T DP DK;have DGr:ZA l.prog w K mg base 10 "_law_ground" ["_law_well_here","_law_most"] (X9 w):=L40.of fun _ _ F=>AA F DP DKs DV;have DBd:ZA l.prog w K mg base 2 "_law_bad" ["_law_well_here"] (VG):=L41.of fun _ _ F=>Gx F DP;have DGo:ZA l.prog w K mg base 11 "_law_gone" ["_law_well_here","_law_shelf"] (Xu jg jh):=L42.of fun _ _ F=>Av F SHx DP MPg MLg;have DTr:ZA l.prog w K mg base 12 "_law_trees" ["_law_script","_law_shelf"] (Wd [] K jg jh):=L43.of fun _ _ F=>At F T DW DGr DSo DPl DRe;have DKn:ZA l.prog w K mg base 1 "_law_known" ["_law_trees_here"] (Ww):=L44.of fun _ _ F=>EQ F;have DAl:ZA l.prog w K mg base 6 "_law_alike" ["_law_found","_law_due"] (Yr 5):=K7 T L37 5;have DBl:ZA l.prog w K mg base 1 "_law_below" ["_law_record","_law_root_here"] (Wh []):=L45.of fun _ _ F=>AO F T;have DRo:ZA l.prog w K mg base 10 "_law_rows_of" ["_law_record","_law_root_here"] (XJ [] tb0):=⟨f46,_,ZJM (UI (st:=QH) l46 c46 k46) a46 hta hC hB T DBl DRk,(UI (st:=QH) l46 c46 k46).binds fun _ _ _ _ _ _ us hl=>match us,hl with | [_,_],_=>rfl,k46,zAp X G a46⟩
 have DRt:ZA l.prog w K mg base 2 "_law_root" ["_law_well_here","_law_trees_here"] (Wj []):=L47.of fun _ _ F=>AE F T DP;have DTd:Yd l.prog w K mg base 12 "_law_told" ["_law_way","_law_shelf","_law_root_here","_law_one","_law_other"] (Vi [] jg jh CT CK CP):=L48.ofD fun _ _ F=>ZMQ F DNt DPo;have DRf:ZA l.prog w K mg base 13 "_law_refusal" ["_law_way","_law_shelf","_law_root_here","_law_one","_law_other"] (YI [] jg jh):=L49.of fun _ _ F=>ZHE F T NTw NPl CLx DTd;have DWh:ZA l.prog w K mg base 1 "_law_whole" ["_law_found","_law_due"] (Xj):=L50.of fun _ _ F=>DZ F T;have DLp:ZA l.prog w K mg base 2 "_law_place" ["_law_well_here","_law_many"] (Xv):=L51.of fun _ _ F=>ZJN F DP;have DLn:ZA l.prog w K mg base 14 "_law_nth" ["_law_shelf","_law_root_here","_law_rows","_law_at"] (Vl [] jg jh):=L52.of fun _ _ F=>Dg F T DRf DWh DAl DNt;have DAs:ZA l.prog w K mg base 15 "_law_asked" ["_law_well_here","_law_shelf","_law_root_here","_law_rows","_law_spot"] (Xp [] jg jh):=L53.of fun _ _ F=>Cu F T DLn DWh DLp DP DRk DPo;exact Fx (UI (st:=V2) l54 c54 k54) T SHx DMS DW DTr DKn DRt DAk DRo DAs DBd DGo DRf
theorem OF{o:Option (Addr×Addr)}{x:Addr×Addr}(h:o=some x):o.isSome=true:=by rw [h];rfl
theorem Ef{l:zCP}{q:Program}{loose:List Str}{XP:(jb)->Heap->Prop}{YP:World->Heap->Prop}{d:DefRec}{K:Params->zAA}(hn:l.most=some 63)(hdf:d.params.defaults=[])(hY:∀ (w:World) (h:Heap),YP w h->(K w.params).In h)(hrec:((recsOf q).find? (fun e=>e.name==(("_law_rows_of" : String):Str))).isSome=true)(htab:∀ w:World,(zBK (K w.params) "_law_rows_of").isSome=true)(hnt:∀ w:World,zCz (K w.params)=true)(F:∀ (w:World) (mg:jb) (fa:Addr) (h:Heap) (c T:Addr),(K w.params).In h->h.Ns mainGlobals mg->mg d.name=some (.ref fa)->zBK (K w.params) "_law_rows_of" = some (c,T) ->
   ∃ fd:FuncData,(∀ (s:Shared) (u:Value),BindsTo s fd ⟨[u],[]⟩ [("_law_script",u)])/\∀ base:Heap,(K w.params).In base->base.Ns mainGlobals mg->zBW base c T->base.BuiltinsAt mg T->ZK l.prog w (K w.params) mg base ZW 40 fa fd ["_law_script"] (Wo T (K w.params))):
  zDC q loose XP YP l.row.toRowW d [] (fun f vs=>PySem.call f vs):=
 L2.P2 (n:=63) (k:=40) (x:= "_law_script") (px:= "_law_rows_of") (sp:=fun T K=>Wo T K) hn (by decide) hdf ⟨rfl,by decide,by decide⟩ hY (Option.some_get hrec).symm (fun w=>⟨_,_,((Option.some_get (htab w)).symm.trans (by rfl))⟩) hnt F (fun _ _ _ a ns hl hT hS=>⟨a,ns,rfl,hS,hl,hT,fun _=>rfl⟩)
end Tw
open PySem PySem.W PyProof.Rows
namespace PySem.W.Fast
def tw10048574647138273156:Nat:=0
def tw10088802659677611837:Nat:=0
def tw10113627246061412349:Nat:=0
def tw10122822922338914740:Nat:=0
def tw10134163672790722740:Nat:=0
def tw10152930196546031595:Nat:=0
def tw10154997541612058142:Nat:=0
def tw10192579863467520146:Nat:=0
def tw1022736575901347349:Nat:=0
def tw10238343484243396844:Nat:=0
def tw10274386908177325029:Nat:=0
def tw10373847850337657256:Nat:=0
def tw10381519593154312923:Nat:=0
def tw10482875616240619352:Nat:=0
def tw10581901347114495574:Nat:=0
def tw10593574706639635724:Nat:=0
def tw10604819100819713217:Nat:=0
def tw10632449506220958447:Nat:=0
def tw10647424841521452000:Nat:=0
def tw10735157497199004688:Nat:=0
def tw10744788848778660856:Nat:=0
def tw10755204583515615738:Nat:=0
def tw10764815068733811590:Nat:=0
def tw10781842264929052050:Nat:=0
def tw10822264708410234992:Nat:=0
def tw10830024577558699291:Nat:=0
def tw10876516199780789063:Nat:=0
def tw10906127052673957060:Nat:=0
def tw10906858154033863266:Nat:=0
def tw10990665211719629123:Nat:=0
def tw11007320902884128761:Nat:=0
def tw11089482844459238379:Nat:=0
def tw11103430292234076157:Nat:=0
def tw11111092343036542210:Nat:=0
def tw11159184974048781771:Nat:=0
def tw11180588214839584523:Nat:=0
def tw11193346241659915255:Nat:=0
def tw11205452101568904781:Nat:=0
def tw11209537372729838090:Nat:=0
def tw11220115857558326642:Nat:=0
def tw1124010107767452968:Nat:=0
def tw11252521623615801764:Nat:=0
def tw11263074205403249762:Nat:=0
def tw11282495314283524615:Nat:=0
def tw11303687572231477131:Nat:=0
def tw11308577984907662754:Nat:=0
def tw11321483965750744823:Nat:=0
def tw11330421434985124639:Nat:=0
def tw11395994243164706568:Nat:=0
def tw11419299777163299060:Nat:=0
def tw1143968818860444654:Nat:=0
def tw11445262135392895954:Nat:=0
def tw11498697616481240684:Nat:=0
def tw11540547023565477710:Nat:=0
def tw11549724539305915294:Nat:=0
def tw11602002923128087000:Nat:=0
def tw11602111867734354091:Nat:=0
def tw11613500906861309613:Nat:=0
def tw11625655192410904663:Nat:=0
def tw11646589192830697720:Nat:=0
def tw11661128723524798398:Nat:=0
def tw11670014822038129401:Nat:=0
def tw1167222692539728828:Nat:=0
def tw11688726234193911626:Nat:=0
def tw11696553337590372717:Nat:=0
def tw11720107472212234454:Nat:=0
def tw11728993602867773988:Nat:=0
def tw11729049482050128099:Nat:=0
def tw11730114086078112844:Nat:=0
def tw11730150258997273828:Nat:=0
def tw11819858779009356236:Nat:=0
def tw11830889631033566907:Nat:=0
def tw11934231213109850924:Nat:=0
def tw11941875022337901329:Nat:=0
def tw11941907866845470536:Nat:=0
def tw12005405909179527805:Nat:=0
def tw12016444265847206868:Nat:=0
def tw12026435178809609907:Nat:=0
def tw12046965112612564525:Nat:=0
def tw12110440281100529864:Nat:=0
def tw12130253647818688981:Nat:=0
def tw12193319663005042522:Nat:=0
def tw12212014461288742598:Nat:=0
def tw12214713291045987967:Nat:=0
def tw12217111676267362964:Nat:=0
def tw12242648821786170467:Nat:=0
def tw12342313234688069662:Nat:=0
def tw12348338076295731743:Nat:=0
def tw12386480600172108501:Nat:=0
def tw1240841430403880859:Nat:=0
def tw12409078524649753344:Nat:=0
def tw12454158609663034305:Nat:=0
def tw1250167995107002383:Nat:=0
def tw12518937942516687807:Nat:=0
def tw12577510073089752822:Nat:=0
def tw12581464753841417031:Nat:=0
def tw1259891193353514211:Nat:=0
def tw12631230871373372222:Nat:=0
def tw12653586358520903933:Nat:=0
def tw12671921947332797045:Nat:=0
def tw12712670539086565797:Nat:=0
def tw12723720334694672267:Nat:=0
def tw12738397002448371449:Nat:=0
def tw12776564459012198769:Nat:=0
def tw12780782280782527772:Nat:=0
def tw1285114841662483835:Nat:=0
def tw12888394106824390101:Nat:=0
def tw12909910781473916065:Nat:=0
def tw12937130376523319706:Nat:=0
def tw13037960260057220829:Nat:=0
def tw13044857000063176588:Nat:=0
def tw13045091863604748877:Nat:=0
def tw13063365404495586311:Nat:=0
def tw1306829861816815082:Nat:=0
def tw1307954269151249794:Nat:=0
def tw13150252209697850692:Nat:=0
def tw13158316843080154655:Nat:=0
def tw13215639717240192787:Nat:=0
def tw13232520263042289659:Nat:=0
def tw13256976631162009558:Nat:=0
def tw13269530996245023585:Nat:=0
def tw13277137389706071748:Nat:=0
def tw13291951775509726096:Nat:=0
def tw13299338404095447060:Nat:=0
def tw13328216598527985023:Nat:=0
def tw13382822364432205093:Nat:=0
def tw13386395100947320012:Nat:=0
def tw13388301586352453472:Nat:=0
def tw13397193089530352499:Nat:=0
def tw13429428070203690210:Nat:=0
def tw13431947520784534337:Nat:=0
def tw13466002441082698304:Nat:=0
def tw13495247402557847757:Nat:=0
def tw13530885384473337475:Nat:=0
def tw13567985218150713575:Nat:=0
def tw13569217885778487492:Nat:=0
def tw13632569786147704511:Nat:=0
def tw13648564049305615469:Nat:=0
def tw13663797986215032959:Nat:=0
def tw13676115299734657559:Nat:=0
def tw13722423481916648150:Nat:=0
def tw13743076198695446721:Nat:=0
def tw13775740226989006675:Nat:=0
def tw1389731081780169145:Nat:=0
def tw1390551471085762073:Nat:=0
def tw13907053090223780174:Nat:=0
def tw13929651774367623069:Nat:=0
def tw13962277101967304933:Nat:=0
def tw14018059425475595550:Nat:=0
def tw14078305541601984288:Nat:=0
def tw14117977577502276248:Nat:=0
def tw14126993125615468792:Nat:=0
def tw14134689174356464921:Nat:=0
def tw14149081175901726616:Nat:=0
def tw14189642583405385281:Nat:=0
def tw14224773332918125943:Nat:=0
def tw14293774411852456608:Nat:=0
def tw14331617870646244465:Nat:=0
def tw14349108213946924389:Nat:=0
def tw14412705527024537402:Nat:=0
def tw14444246942992838345:Nat:=0
def tw14480889473016234371:Nat:=0
def tw14486732317865390678:Nat:=0
def tw14496354466640441102:Nat:=0
def tw14497550219474013277:Nat:=0
def tw1450281196850322577:Nat:=0
def tw14558913473913823693:Nat:=0
def tw14599330594327131279:Nat:=0
def tw14780566501637402208:Nat:=0
def tw14817015823768549464:Nat:=0
def tw14877292001012672281:Nat:=0
def tw14879791928720934090:Nat:=0
def tw14889180906386896922:Nat:=0
def tw1489612049853575457:Nat:=0
def tw14914633722519106103:Nat:=0
def tw14960325805820523077:Nat:=0
def tw14979379265129758873:Nat:=0
def tw15000271229283476771:Nat:=0
def tw15064190200087429727:Nat:=0
def tw15151296739944958555:Nat:=0
def tw15166975433197908351:Nat:=0
def tw15175873577945691799:Nat:=0
def tw15201287150336920345:Nat:=0
def tw15217342472531898477:Nat:=0
def tw15241804712951536257:Nat:=0
def tw15245435450084809065:Nat:=0
def tw15257966002658317979:Nat:=0
def tw15280365836864546059:Nat:=0
def tw15292027157105137080:Nat:=0
def tw15300397747207366941:Nat:=0
def tw15315713627430802599:Nat:=0
def tw15406500009623114541:Nat:=0
def tw15540496979093718085:Nat:=0
def tw15555915546334454062:Nat:=0
def tw15585618859801241994:Nat:=0
def tw15599787568243009649:Nat:=0
def tw15622940686800504668:Nat:=0
def tw15631561017222576380:Nat:=0
def tw15646971145218343227:Nat:=0
def tw15671596551814218221:Nat:=0
def tw1569312164755417962:Nat:=0
def tw15735504793534837716:Nat:=0
def tw15756126653371797293:Nat:=0
def tw1580951662192831547:Nat:=0
def tw15830715571132776040:Nat:=0
def tw15846506694370061610:Nat:=0
def tw1588293064930262755:Nat:=0
def tw1593013909429973939:Nat:=0
def tw15943747300296293272:Nat:=0
def tw15949845070970308113:Nat:=0
def tw15957108360902257365:Nat:=0
def tw1597232923789678996:Nat:=0
def tw15978212613881690532:Nat:=0
def tw16077969218224120095:Nat:=0
def tw16101716556291320991:Nat:=0
def tw16150612598951719842:Nat:=0
def tw16263925092983045614:Nat:=0
def tw16289349923719590208:Nat:=0
def tw16335784484744245301:Nat:=0
def tw16336267070453995644:Nat:=0
def tw16340677451062627510:Nat:=0
def tw16358359945747877517:Nat:=0
def tw16359165946445315578:Nat:=0
def tw16379466918633454340:Nat:=0
def tw16445230032806849970:Nat:=0
def tw16468469972295866424:Nat:=0
def tw16481806665287795829:Nat:=0
def tw16502106314783039098:Nat:=0
def tw16502492559906157824:Nat:=0
def tw16506629684194358049:Nat:=0
def tw1651566509359179614:Nat:=0
def tw16536159356913890539:Nat:=0
def tw16538860168293090899:Nat:=0
def tw16563612709617501372:Nat:=0
def tw16646195551928362230:Nat:=0
def tw1666458670962635968:Nat:=0
def tw16672863620059183989:Nat:=0
def tw16696564665782839740:Nat:=0
def tw16737713763595127162:Nat:=0
def tw16747884621437672514:Nat:=0
def tw16858146216384424179:Nat:=0
def tw16897247714518935562:Nat:=0
def tw16906906512094828404:Nat:=0
def tw16995246652899515381:Nat:=0
def tw17011156365721089557:Nat:=0
def tw17056849637258064309:Nat:=0
def tw17069616416084481907:Nat:=0
def tw17084745989131167442:Nat:=0
def tw17087164438677812889:Nat:=0
def tw17090180653245718995:Nat:=0
def tw17106969619482476834:Nat:=0
def tw17146860083514161591:Nat:=0
def tw17170242040781409304:Nat:=0
def tw1718784467702563332:Nat:=0
def tw17188542505741946457:Nat:=0
def tw17196446272912123833:Nat:=0
def tw17207678954400314335:Nat:=0
def tw17225448115272335879:Nat:=0
def tw1723440188943327340:Nat:=0
def tw17301015689196754458:Nat:=0
def tw17309692017099856875:Nat:=0
def tw17321902365598210907:Nat:=0
def tw17351896464193872367:Nat:=0
def tw1738788355317673440:Nat:=0
def tw17388485243599969640:Nat:=0
def tw17410671559615512094:Nat:=0
def tw17420953993194463178:Nat:=0
def tw17460146689841701484:Nat:=0
def tw1756990546175288076:Nat:=0
def tw17569924336916315474:Nat:=0
def tw1758994167573691240:Nat:=0
def tw17606478330074601492:Nat:=0
def tw1761322086779320491:Nat:=0
def tw17617977773982640187:Nat:=0
def tw17623101153134017030:Nat:=0
def tw17680891028407720905:Nat:=0
def tw17683145279993894886:Nat:=0
def tw17689702520542602252:Nat:=0
def tw17701006558983013383:Nat:=0
def tw17726685280913979776:Nat:=0
def tw17749039607254996622:Nat:=0
def tw17760671573776328970:Nat:=0
def tw17860615802969724556:Nat:=0
def tw17882272335551568283:Nat:=0
def tw17885378975621002924:Nat:=0
def tw1789078448885311109:Nat:=0
def tw17941923115356155512:Nat:=0
def tw18005139767983105950:Nat:=0
def tw18005312360138110683:Nat:=0
def tw18184403742884484972:Nat:=0
def tw1820888053780572357:Nat:=0
def tw18242448530385295596:Nat:=0
def tw18274259850923182714:Nat:=0
def tw18276064922427772017:Nat:=0
def tw18289486562877170913:Nat:=0
def tw18310511122174829378:Nat:=0
def tw18311270316108395830:Nat:=0
def tw18317725182546411712:Nat:=0
def tw18326346462510135658:Nat:=0
def tw18342620182200839004:Nat:=0
def tw18359402573426224108:Nat:=0
def tw18369939516437060921:Nat:=0
def tw18419746048988665198:Nat:=0
def tw18441323464291989264:Nat:=0
def tw1844827951130547395:Nat:=0
def tw1874144176297201876:Nat:=0
def tw1877622823792709992:Nat:=0
def tw1891819177177296187:Nat:=0
def tw1957143600823880776:Nat:=0
def tw1959826240201630467:Nat:=0
def tw1982255318963160346:Nat:=0
def tw1998537739190917196:Nat:=0
def tw2009287513927312274:Nat:=0
def tw2016521452364192337:Nat:=0
def tw217058261242579622:Nat:=0
def tw2303537073561581593:Nat:=0
def tw2314245846761555116:Nat:=0
def tw2318467634482919082:Nat:=0
def tw2351762014328605044:Nat:=0
def tw2374061280451646509:Nat:=0
def tw2445449712661075429:Nat:=0
def tw2471433674617411127:Nat:=0
def tw2476125012704628492:Nat:=0
def tw2481368178284216271:Nat:=0
def tw2494652838621422537:Nat:=0
def tw2503867313138240768:Nat:=0
def tw2523279968008858235:Nat:=0
def tw2547158066501229827:Nat:=0
def tw2558391661473308500:Nat:=0
def tw2607614510755804524:Nat:=0
def tw2609658605641119123:Nat:=0
def tw262394138421725758:Nat:=0
def tw2637218078677503781:Nat:=0
def tw2686794441316478310:Nat:=0
def tw2701502126505596609:Nat:=0
def tw2723932890662312979:Nat:=0
def tw276691729246343767:Nat:=0
def tw2859931018659524389:Nat:=0
def tw2897341837074810026:Nat:=0
def tw2953463900329244654:Nat:=0
def tw295946125896358884:Nat:=0
def tw2980146283968968353:Nat:=0
def tw2984871613918050454:Nat:=0
def tw3060695302076039869:Nat:=0
def tw3176692364732718581:Nat:=0
def tw3182989633484462148:Nat:=0
def tw3214072398006161778:Nat:=0
def tw3218743935263466078:Nat:=0
def tw326612138456851846:Nat:=0
def tw3287630197340555540:Nat:=0
def tw3290730148217237618:Nat:=0
def tw3304897055921522699:Nat:=0
def tw3322241719853414011:Nat:=0
def tw3322537141458265794:Nat:=0
def tw338107563736165944:Nat:=0
def tw350171510539835283:Nat:=0
def tw3634163078285992566:Nat:=0
def tw3670682423124367615:Nat:=0
def tw3678269848733148571:Nat:=0
def tw3709350665502540253:Nat:=0
def tw3727647497121379308:Nat:=0
def tw3742187777366855758:Nat:=0
def tw3761082718961741913:Nat:=0
def tw3795302459846788967:Nat:=0
def tw3822008502220300518:Nat:=0
def tw3831396569745014602:Nat:=0
def tw3854550847492179775:Nat:=0
def tw392125614099765434:Nat:=0
def tw3952453800247273506:Nat:=0
def tw3977194792014393547:Nat:=0
def tw3985172183105700795:Nat:=0
def tw4001353996874529400:Nat:=0
def tw4004226793051695079:Nat:=0
def tw4006754481123321461:Nat:=0
def tw4013009265925462998:Nat:=0
def tw4070215947448153533:Nat:=0
def tw4083089360222460480:Nat:=0
def tw4105672695084403888:Nat:=0
def tw4128826335985098328:Nat:=0
def tw4145267642686749221:Nat:=0
def tw4197835277137521023:Nat:=0
def tw4269326266429054358:Nat:=0
def tw431082158462826576:Nat:=0
def tw4315672316964552400:Nat:=0
def tw4330614868622544708:Nat:=0
def tw4335741922787649964:Nat:=0
def tw4361270555602161579:Nat:=0
def tw4425615433466019373:Nat:=0
def tw445665109684981949:Nat:=0
def tw4486736434730490009:Nat:=0
def tw4512205277775904769:Nat:=0
def tw4538124755401978084:Nat:=0
def tw4545121907470540253:Nat:=0
def tw4555636768770779775:Nat:=0
def tw4578821443111648904:Nat:=0
def tw458466746670513413:Nat:=0
def tw4666664489698763003:Nat:=0
def tw4772950661943945287:Nat:=0
def tw4819822200573241514:Nat:=0
def tw4835742278337505266:Nat:=0
def tw4852407179790981911:Nat:=0
def tw4881932614108192035:Nat:=0
def tw4933933207032749012:Nat:=0
def tw4994336463833257100:Nat:=0
def tw5018982333615573380:Nat:=0
def tw5048148888830799148:Nat:=0
def tw5048325903907209558:Nat:=0
def tw5056165448627194526:Nat:=0
def tw5091417068831296528:Nat:=0
def tw5114664843246471146:Nat:=0
def tw5120465609696238590:Nat:=0
def tw5158423284311846908:Nat:=0
def tw5197884267400864233:Nat:=0
def tw5202216140151478294:Nat:=0
def tw5209216953861475761:Nat:=0
def tw5285795108509768909:Nat:=0
def tw5292443835685561396:Nat:=0
def tw5327427215202764530:Nat:=0
def tw5352913855969055533:Nat:=0
def tw5439815733903354227:Nat:=0
def tw548741563296792036:Nat:=0
def tw5502293067099356946:Nat:=0
def tw5543312918216543322:Nat:=0
def tw5543898900554065342:Nat:=0
def tw5604913550816229182:Nat:=0
def tw5610490704138188329:Nat:=0
def tw5627833335162272463:Nat:=0
def tw5650446219990984286:Nat:=0
def tw5656912708655868440:Nat:=0
def tw5657234652418347529:Nat:=0
def tw5678141393306653202:Nat:=0
def tw5703803966032405852:Nat:=0
def tw5734355459857817407:Nat:=0
def tw5747261038053976899:Nat:=0
def tw5792061974925634619:Nat:=0
def tw5803877464227657470:Nat:=0
def tw5817768638774376746:Nat:=0
def tw5836848573013064930:Nat:=0
def tw5847543336949861930:Nat:=0
def tw594214617261487016:Nat:=0
def tw5959266886735103530:Nat:=0
def tw6010491817794426406:Nat:=0
def tw601814288264156934:Nat:=0
def tw603311013537139217:Nat:=0
def tw6085917061583452230:Nat:=0
def tw6113359336304064677:Nat:=0
def tw615299209008630188:Nat:=0
def tw6205731515885850429:Nat:=0
def tw6232928486861171320:Nat:=0
def tw6234341525926629110:Nat:=0
def tw6257831758998128166:Nat:=0
def tw6280340704471907675:Nat:=0
def tw6291641051075343524:Nat:=0
def tw6327133417006688983:Nat:=0
def tw6418250045342516733:Nat:=0
def tw6427886420055466282:Nat:=0
def tw6450195976032576385:Nat:=0
def tw6471450231292681437:Nat:=0
def tw649456602258499679:Nat:=0
def tw6507320026219949170:Nat:=0
def tw6527619916503225459:Nat:=0
def tw6541641713625504230:Nat:=0
def tw6669459942104307189:Nat:=0
def tw6674199917080472401:Nat:=0
def tw6685132674780452650:Nat:=0
def tw6696651627495400169:Nat:=0
def tw6722281450839936844:Nat:=0
def tw6752969692352883870:Nat:=0
def tw679722203300204237:Nat:=0
def tw6819954336837558743:Nat:=0
def tw6821785416803465025:Nat:=0
def tw6829078455678337726:Nat:=0
def tw6837453055881964893:Nat:=0
def tw6842597980824751181:Nat:=0
def tw6861580268481729265:Nat:=0
def tw6894924390715350168:Nat:=0
def tw6917798470070821147:Nat:=0
def tw6925645069959266758:Nat:=0
def tw693033098706447682:Nat:=0
def tw6947645821641980643:Nat:=0
def tw6962338647136910449:Nat:=0
def tw7001542523793089939:Nat:=0
def tw7036446884308580708:Nat:=0
def tw705713375921142195:Nat:=0
def tw7074599088734176553:Nat:=0
def tw7103802666700008860:Nat:=0
def tw7113657913519615248:Nat:=0
def tw7282977590022037225:Nat:=0
def tw7292630687775869110:Nat:=0
def tw7350792180177979139:Nat:=0
def tw7409428306340977215:Nat:=0
def tw7412551138570442579:Nat:=0
def tw742138269502351055:Nat:=0
def tw7422402093665682454:Nat:=0
def tw7430906984208634569:Nat:=0
def tw7456452700331572027:Nat:=0
def tw7495895609540158094:Nat:=0
def tw7532923234219513868:Nat:=0
def tw7574704837639914639:Nat:=0
def tw7583097737585785083:Nat:=0
def tw7586808543552734980:Nat:=0
def tw7612819350264823103:Nat:=0
def tw7669770772403980887:Nat:=0
def tw7682183688418571053:Nat:=0
def tw7687791284859901009:Nat:=0
def tw7742773975047955919:Nat:=0
def tw7747782917932321745:Nat:=0
def tw7754686817489504049:Nat:=0
def tw7770234792686702455:Nat:=0
def tw7779871001994834530:Nat:=0
def tw7783008794415683058:Nat:=0
def tw7851913133764532257:Nat:=0
def tw7866676674447325063:Nat:=0
def tw7878161431163124:Nat:=0
def tw7894224090862179699:Nat:=0
def tw7933922590389275600:Nat:=0
def tw7979140737718210262:Nat:=0
def tw7985826234155579876:Nat:=0
def tw802200815731591554:Nat:=0
def tw8026940022331099304:Nat:=0
def tw8030455350563344393:Nat:=0
def tw8038920471730210806:Nat:=0
def tw80487803738645818:Nat:=0
def tw8053279723489658436:Nat:=0
def tw8054003487521895906:Nat:=0
def tw8061382976141406337:Nat:=0
def tw8099261948470972143:Nat:=0
def tw8136834877945015477:Nat:=0
def tw8159511367779307034:Nat:=0
def tw8175218299655986487:Nat:=0
def tw8186115249932772383:Nat:=0
def tw8227115160213243907:Nat:=0
def tw8249636326471916001:Nat:=0
def tw8252389646886437791:Nat:=0
def tw8254630193183733796:Nat:=0
def tw8282385716510822811:Nat:=0
def tw8319338568792610624:Nat:=0
def tw8322179698545664460:Nat:=0
def tw8362947245399829391:Nat:=0
def tw8383557292811100239:Nat:=0
def tw8411556271739163130:Nat:=0
def tw8422498772814154800:Nat:=0
def tw8492850843161520366:Nat:=0
def tw8522557629578177036:Nat:=0
def tw8548872315232955121:Nat:=0
def tw8549462884928722434:Nat:=0
def tw8561011946268511888:Nat:=0
def tw8594873714913993447:Nat:=0
def tw8603916877829609633:Nat:=0
def tw8685624690185075320:Nat:=0
def tw8737051603535628753:Nat:=0
def tw8744475470671046199:Nat:=0
def tw8753258266614581033:Nat:=0
def tw8794884921971940019:Nat:=0
def tw8835472908086829650:Nat:=0
def tw8856657544894563631:Nat:=0
def tw8864165836501278925:Nat:=0
def tw8875433885997015537:Nat:=0
def tw8893476691896807840:Nat:=0
def tw8925126421755712977:Nat:=0
def tw8965514135559831036:Nat:=0
def tw8968380779158143835:Nat:=0
def tw8972401837607014693:Nat:=0
def tw8979094635200481137:Nat:=0
def tw9075071023477498724:Nat:=0
def tw9112102341508051649:Nat:=0
def tw9122280633173734288:Nat:=0
def tw9145313914625293244:Nat:=0
def tw9150422422887430471:Nat:=0
def tw915069094009829096:Nat:=0
def tw916221621142966397:Nat:=0
def tw9173842582124010855:Nat:=0
def tw9184548825988654336:Nat:=0
def tw9204923885132231864:Nat:=0
def tw9228840977051169063:Nat:=0
def tw9253048877667192963:Nat:=0
def tw9262330539172826909:Nat:=0
def tw9270314463505558674:Nat:=0
def tw9280662274640417806:Nat:=0
def tw9301316804284204226:Nat:=0
def tw9319680290317688805:Nat:=0
def tw9323359072072614272:Nat:=0
def tw9323703784373970935:Nat:=0
def tw9334544767424588138:Nat:=0
def tw93594190377279310:Nat:=0
def tw9385409143808207443:Nat:=0
def tw9397293400483920614:Nat:=0
def tw9425888233724338689:Nat:=0
def tw9456218762381805812:Nat:=0
def tw946386531455225191:Nat:=0
def tw9543110816066349569:Nat:=0
def tw9550955456026094908:Nat:=0
def tw9553472511724176780:Nat:=0
def tw9572254818113119411:Nat:=0
def tw9615842597054854784:Nat:=0
def tw9622278229097711795:Nat:=0
def tw963384615999724033:Nat:=0
def tw9648827640827359360:Nat:=0
def tw9651367959876780206:Nat:=0
def tw9707425354275024022:Nat:=0
def tw9724115438287492652:Nat:=0
def tw9779685774653114108:Nat:=0
def tw9821269168687809122:Nat:=0
def tw982463812384310178:Nat:=0
def tw9831997853892477520:Nat:=0
def tw9840383825198431335:Nat:=0
def tw9845999979113927549:Nat:=0
def tw9877265528583870113:Nat:=0
def tw9889536711713466123:Nat:=0
def tw989331897378803057:Nat:=0
def tw990778870655474250:Nat:=0
def tw9957371339795970792:Nat:=0
def tw9957666965318619774:Nat:=0
def tw9959632989938881720:Nat:=0
def tw9979170046882981922:Nat:=0
end PySem.W.Fast
set_option maxRecDepth 100000 in
set_option maxHeartbeats 0 in
theorem PySem.Challenge.cw_twigmap_k33_nth_and_places_holds : PySem.Challenge.rw_twigmap_k33_nth_and_places.Holds := by
 w_on;o_law;k_head;(case hw=>w_witness2)
 k_fill
 refine Tw.Ef (l:=PySem.Challenge.rw_twigmap_k33_nth_and_places) rfl rfl (fun w h Y=>PySem.W.km_in_of Y) ?qRec ?qTab ?qNot ?qFun
 case qRec=>first | kernel_rfl | exact rfl
 case qTab=>
  intro w
  first | kernel_rfl | exact Tw.OF (Tw.Lf (by k_is) (by k_is) rfl (by k_is) rfl)
 case qNot=>intro w;kernel_rfl
 case qFun=>
  intro w mg fa h cb tb KX G hmg hta;refine' Tw.Kb KX G hmg hta (Tw.NC KX G ?a1 ?l1 ?c1 ?k1) (Tw.NC KX G ?a2 ?l2 ?c2 ?k2) (Tw.NC KX G ?a3 ?l3 ?c3 ?k3) (Tw.NC KX G ?a4 ?l4 ?c4 ?k4) (Tw.NC KX G ?a5 ?l5 ?c5 ?k5) (Tw.NC KX G ?a6 ?l6 ?c6 ?k6) (Tw.NC KX G ?a7 ?l7 ?c7 ?k7) (Tw.NC KX G ?a8 ?l8 ?c8 ?k8) (Tw.NC KX G ?a9 ?l9 ?c9 ?k9) (Tw.NC KX G ?a10 ?l10 ?c10 ?k10) (Tw.NC KX G ?a11 ?l11 ?c11 ?k11) (Tw.NC KX G ?a12 ?l12 ?c12 ?k12) (Tw.NC KX G ?a13 ?l13 ?c13 ?k13) (Tw.NC KX G ?a14 ?l14 ?c14 ?k14) (Tw.NC KX G ?a15 ?l15 ?c15 ?k15) (Tw.NC KX G ?a16 ?l16 ?c16 ?k16) (Tw.NC KX G ?a17 ?l17 ?c17 ?k17) (Tw.NC KX G ?a18 ?l18 ?c18 ?k18) (Tw.NC KX G ?a19 ?l19 ?c19 ?k19) (Tw.NC KX G ?a20 ?l20 ?c20 ?k20) (Tw.NC KX G ?a21 ?l21 ?c21 ?k21) (Tw.NC KX G ?a22 ?l22 ?c22 ?k22) (Tw.NC KX G ?a23 ?l23 ?c23 ?k23) (Tw.NC KX G ?a24 ?l24 ?c24 ?k24) (Tw.NC KX G ?a25 ?l25 ?c25 ?k25) (Tw.NC KX G ?a26 ?l26 ?c26 ?k26) (Tw.NC KX G ?a27 ?l27 ?c27 ?k27) (Tw.NC KX G ?a28 ?l28 ?c28 ?k28) (Tw.NC KX G ?a29 ?l29 ?c29 ?k29) (Tw.NC KX G ?a30 ?l30 ?c30 ?k30) (Tw.NC KX G ?a31 ?l31 ?c31 ?k31) (Tw.NC KX G ?a32 ?l32 ?c32 ?k32) (Tw.NC KX G ?a33 ?l33 ?c33 ?k33) (Tw.NC KX G ?a34 ?l34 ?c34 ?k34) (Tw.NC KX G ?a35 ?l35 ?c35 ?k35) (Tw.NC KX G ?a36 ?l36 ?c36 ?k36) (Tw.NC KX G ?a37 ?l37 ?c37 ?k37) (Tw.NC KX G ?a38 ?l38 ?c38 ?k38) (Tw.NC KX G ?a39 ?l39 ?c39 ?k39) (Tw.NC KX G ?a40 ?l40 ?c40 ?k40) (Tw.NC KX G ?a41 ?l41 ?c41 ?k41) (Tw.NC KX G ?a42 ?l42 ?c42 ?k42) (Tw.NC KX G ?a43 ?l43 ?c43 ?k43) (Tw.NC KX G ?a44 ?l44 ?c44 ?k44) (Tw.NC KX G ?a45 ?l45 ?c45 ?k45) ?a46 ?l46 ?c46 ?k46 (Tw.NC KX G ?a47 ?l47 ?c47 ?k47) (Tw.NC KX G ?a48 ?l48 ?c48 ?k48) (Tw.NC KX G ?a49 ?l49 ?c49 ?k49) (Tw.NC KX G ?a50 ?l50 ?c50 ?k50) (Tw.NC KX G ?a51 ?l51 ?c51 ?k51) (Tw.NC KX G ?a52 ?l52 ?c52 ?k52) (Tw.NC KX G ?a53 ?l53 ?c53 ?k53) ?a54 ?l54 ?c54 ?k54 ?z1 ?z2 ?z3 ?z4 ?z5 ?z6 ?z7 ?z8 ?z9 ?z10 ?z11 ?z12 ?z13 ?z14 ?z15 ?m1_ ?m2_ ?m3_ ?m4_ ?m5_ ?m6_ ?m7_ ?m8_ ?m9_ ?m10_ (Tw.P8 ?vjS ?iljS ?fnjS ?icjS ?ikjS) (Tw.P8 ?vjT ?iljT ?fnjT ?icjT ?ikjT) ?iljN ?icjN ?ikjN ?iljP ?icjP ?ikjP (Tw.OO ?vm1 ?ilm1 ?fnm1 ?icm1 ?ikm1) (Tw.OO ?vm2 ?ilm2 ?fnm2 ?icm2 ?ikm2) (Tw.OO ?vm3 ?ilm3 ?fnm3 ?icm3 ?ikm3) (Tw.OO ?vm4 ?ilm4 ?fnm4 ?icm4 ?ikm4) (Tw.OO ?vm5 ?ilm5 ?fnm5 ?icm5 ?ikm5) (Tw.OO ?vm6 ?ilm6 ?fnm6 ?icm6 ?ikm6) (Tw.OO ?vm7 ?ilm7 ?fnm7 ?icm7 ?ikm7) (Tw.OO ?vm8 ?ilm8 ?fnm8 ?icm8 ?ikm8) (Tw.OO ?vm11 ?ilm11 ?fnm11 ?icm11 ?ikm11) (Tw.OO ?vm12 ?ilm12 ?fnm12 ?icm12 ?ikm12) (Tw.OO ?vm13 ?ilm13 ?fnm13 ?icm13 ?ikm13) (Tw.OO ?vm14 ?ilm14 ?fnm14 ?icm14 ?ikm14) (Tw.OO ?vm15 ?ilm15 ?fnm15 ?icm15 ?ikm15) ?xCB ?xCK ?xCT ?xCP ?xCSh ?xCTw ?vjN ?vjP ?mkCSh ?kpCSh ?pgCSh ?hdCSh ?poCSh ?saCSh ?mkCTw ?kpCTw ?pgCTw ?hdCTw ?poCTw ?saCTw ?na_kept ?na_following ?na_looks ?na_things ?na_tag ?na_above ?na_holds ?tyB ?mB ?kitx ?wCT ?tyCT ?wCP ?tyCP ?sbCT ?sbCK ?sbCP ?exCK ?kpCK ?mBCK ?tyCK
  (case xCB=>k_is)
  (case xCK=>k_is)
  (case xCT=>k_is)
  (case xCP=>k_is)
  (case xCSh=>k_is)
  (case xCTw=>k_is)
  (case vjS=>k_is)
  (case vjT=>k_is)
  (case vjN=>k_is)
  (case vjP=>k_is)
  (case vm1=>k_is)
  (case vm2=>k_is)
  (case vm3=>k_is)
  (case vm4=>k_is)
  (case vm5=>k_is)
  (case vm6=>k_is)
  (case vm7=>k_is)
  (case vm8=>k_is)
  (case vm11=>k_is)
  (case vm12=>k_is)
  (case vm13=>k_is)
  (case vm14=>k_is)
  (case vm15=>k_is)
  (case kitx=>kernel_rfl)
  (case wCT=>kernel_rfl)
  (case wCP=>kernel_rfl)
  (case exCK=>k_exc)
  all_goals try k_is
  all_goals try k_is
