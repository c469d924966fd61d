import PyProof.Rows.All
import Wide.All
import OpenK.AllK
import Wide.FinOn
import Lean
import PyProof.EqAt
import PyProof.EqKinds
import PyProof.TupleCall
import PyProof.NeKinds
import PyProof.TupleKey
import PyProof.DictFindH
import PyProof.NsDelKeeps
import PyProof.ExcBaseAll.ValueError
import KE.KIsAll
import PyProof.ExcArgsOwn
import PyProof.ExcAttrAll.ValueError
import KE.KSortTup
import KE.KDictList
import PyProof.Rows.SortWalk
import KE.KEqDict
import KE.KLam
import KE.KRevIter
import PyProof.InstStoreFacts
import PyProof.ExcClass3
import PyProof.Rows.SumAny
import PyProof.Rows.StrStep
import PySem.Challenge.RW_twigmap_k31_ways
set_option Elab.async false
set_option linter.all false
set_option maxRecDepth 100000
set_option maxHeartbeats 8000000
open PySem.W renaming Frag->zAA, kitOne->zAV, findIn->zAW, nsIn->zAY, mg_none_of->zAo, keepIn->zAp, mroIn->zAs, mg_of->zAt, Looks->zAx, typeIn->zA4, kia_one->zA5, fnOf->zBA, emptyDict->zBF, instObj->zBM, hasDictIn->zBN, codeIn->zBS, plainGet->zBd, isFn->zBg, callWith_K->zBn, looks_findIn->zBt, looks_mroIn->zBz, hideAll->zB0, lookIn->zB3, plainOver->zB5, any_some->zCA, makesIn->zCF, plainGet_of->zCQ, looks_clsIn->zCR, callWith_K0->zCS, excIn->zCV, methodObj->zCZ, takerIn->zCe, OpenLaw->zCf, KdlSrc->zCp, InstAt->zCq, cellsFrom_some->zC1, methodCall_KW->zC7, looks_typeIn->zC9, hideAll_none->zDA, hideAll_get->zDF, tail_of_in->zDI, of_hideAll->zDJ
open List renaming getD_eq_getElem?_getD->zAB, length_map->zAD, getElem?_eq_getElem->zAE, size_toArray->zAI, mem_of_getElem?->zAK, length_append->zAL, all_eq_true->zAM, getElem?_map->zAN, getElem?_eq_some_iff->zAO, mem_cons_of_mem->zAP, mem_singleton->zAQ, mem_cons_self->zAR, take_of_length_le->zAU, length_cons->zAX, map_append->zAZ, mem_append_right->zAa, mem_cons->zAd, mem_map->zAf, mem_append->zAg, range->zAi, take_add_one->zAm, map_cons->zAr, getElem?_append_right->zAw, append_nil->zAz, getElem?_append_left->zA0, mem_range->zA2, mem_append_left->zA3, lookup_cons->zA8, getElem_mem->zA9, toArray->zBC, range'->zBH, filterMap_cons->zBI, pairwise_cons->zBK, filter_append->zBL, nodup_cons->zBP, length_nil->zBQ, flatten_cons->zBR, lookup->zBT, not_mem_nil->zBV, replicate->zBW, range_succ->zBY, find?_cons->zBZ, cons_lt_cons_iff->zBa, flatMap_cons->zBc, getElem?_of_mem->zBe, length_take->zBk, filter_cons->zBl, nodup_append->zBr, take_append_drop->zBu, mem_iff_getElem?->zBv, length_singleton->zBw, flatMap_def->zBx, eq_nil_of_length_eq_zero->zBy, not_lt_nil->zB2, zip_cons_cons->zB6, mem_filterMap->zB7, map_nil->zB8, drop_eq_getElem_cons->zB9, append_assoc->zCB, length->zCD, cons_append->zCG, any_eq_true->zCH, getElem?_set_self->zCI, mem_filter->zCJ, map_map->zCK, length_filter_le->zCL, getElem?_eq_none->zCM, eq_nil_or_concat->zCN, concat_eq_append->zCO, all_map->zCP, getElem?_set_ne->zCU, map_congr_left->zCX, filter_eq_self->zCY, sum_cons->zCb, getElem?_inj->zCd, nil_lt_cons->zCi, mem_flatten->zCj, mem_flatMap->zCk, length_drop->zCl, getElem_map->zCm, ext_getElem->zCn, dropLast_concat_getLast->zCt, sum_append->zCv, sublist_flatten_of_mem->zCw, of_mem_zip->zCx, forIn_cons->zCy, foldl_cons->zCz, take_zero->zC4, pairwise_iff_getElem->zC5, getLast_eq_getElem->zDB, any_cons->zDC, all_cons->zDD, Pairwise->zDE, range_succ_eq_map->zDG, pairwise_flatMap->zDK
open Nat renaming le_of_ble_eq_true->zAC, le_refl->zAH, lt_of_lt_of_le->zAb, zero_le->zAe, lt_or_ge->zAj, ne_of_lt->zAk, le_trans->zA7, not_lt_zero->zBG, lt_irrefl->zBU, le_of_lt->zBb, lt_succ_self->zBm, le_succ->zB4, ne_of_gt->zCT, le_of_not_lt->zCs
open Bool renaming false_ne_true->zAF, and_eq_true->zAJ, false_eq_true->zA6, false_and->zBh, eq_iff_iff->zBp, true_and->zCE, not_true->zCc
open PySem.Heap renaming get?_push_of_some->zAG, lt_size->zAS, get?_push_size->zAT, get?_update_other->zAl, get?_update_self->zA1, SameBut->zBE, get?_none_of_le->zBf, size_push->zCW
open Array renaming getElem?_eq_getElem->zAc, getElem?_toList->zBB, getElem?_eq_some_iff->zBJ, length_toList->zB1, forIn_toList->zCa, toList->zDH, mem_toList_iff->zDL
open Option renaming some->zAh, map_eq_some_iff->zAq, map_some->zBO, isSome_iff_exists->zBj, none->zCh, bind_eq_some_iff->zC3
open PySem.F renaming plainAttrs_list->zAn, type_list_append->zAu, slot_list_append->zAv, plain_max_loop->zBD, slot_dict_keyiterator_next->zBi, slot_tuple_hash->zBo, entry_max_loop->zCC, excBase_ValueError->zCg, slot_dict_getitem->zCr, store_ValueError->zCu, plain_list_iadd->zC0, slot_dict_iter->zC2, slot_dict_pop->zC8
open PySem.Str renaming ofString->zAy
open Int renaming emod_lt_of_pos->zBX, emod_nonneg->zBq, toNat_natCast->zBs, zero_add->zCo, fdiv_eq_ediv_of_nonneg->zC6
namespace L2
open PySem PySem.Spec PyProof.Rows
abbrev Zc:=Sum Int Str
def Ux:Zc->Value->Bool
 | .inl k,v=>Value.isInt k v
 | .inr x,v=>Value.isStrOf x v
def LG (w:World):Zc->Int
 | .inl k=>hashInt k
 | .inr x=>hashStr w x
theorem Vi:∀ {k:Zc} {v:Value},Ux k v=true->(∃ i t,k=Sum.inl i/\v=Value.int i t)\/(∃ x t,k=Sum.inr x/\v=Value.str x t)
 | .inl i,v,h=>by
  obtain ⟨t,e⟩:=Value.isInt_shape (k:=i) (v:=v) h
  exact .inl ⟨i,t,rfl,e⟩
 | .inr x,v,h=>by
  obtain ⟨t,e⟩:=Value.isStrOf_shape (x:=x) (v:=v) h
  exact .inr ⟨x,t,rfl,e⟩
theorem Gb (i:Int) (t:Tok):Ux (.inl i) (.int i t)=true:=by simp [Ux,Value.isInt]
theorem Ew (x:Str) (t:Tok):Ux (.inr x) (.str x t)=true:=by simp [Ux,Value.isStrOf]
theorem FO (a b:Int):decide ((Sum.inl a:Zc)=Sum.inl b)=(a==b):=by
 by_cases e:a=b
 ·subst e;simp
 ·have h:¬ (Sum.inl a:Zc)=Sum.inl b:=fun q=>e (Sum.inl.inj q)
  rw [decide_eq_false h]
  exact (beq_eq_false_iff_ne.mpr e).symm
theorem CI (a b:Str):decide ((Sum.inr a:Zc)=Sum.inr b)=decide (a=b):=by
 by_cases e:a=b
 ·subst e;simp
 ·have h:¬ (Sum.inr a:Zc)=Sum.inr b:=fun q=>e (Sum.inr.inj q)
  rw [decide_eq_false h,decide_eq_false e]
theorem HE (a:Int) (b:Str):decide ((Sum.inl a:Zc)=Sum.inr b)=false:=decide_eq_false (fun q=>nomatch q)
theorem GZ (a:Str) (b:Int):decide ((Sum.inr a:Zc)=Sum.inl b)=false:=decide_eq_false (fun q=>nomatch q)
def WN (prog:Program) (w:World):PySem.KeyKind prog w Zc where
 is:=Ux
 hash:=LG w
 inj:=fun v a b ha hb=>by
  rcases Vi ha with ⟨i,t,rfl,rfl⟩ | ⟨x,t,rfl,rfl⟩
  ·rcases Vi hb with ⟨j,u,rfl,e⟩ | ⟨y,u,rfl,e⟩
   ·injection e with e1 _;rw [e1]
   ·exact nomatch e
  ·rcases Vi hb with ⟨j,u,rfl,e⟩ | ⟨y,u,rfl,e⟩
   ·exact nomatch e
   ·injection e with e1 _;rw [e1]
 byValue:=fun k v h=>by
  rcases Vi h with ⟨i,t,rfl,rfl⟩ | ⟨x,t,rfl,rfl⟩ <;> rfl
 pyHash:=fun hv h=>by
  rcases Vi hv with ⟨i,t,rfl,rfl⟩ | ⟨x,t,rfl,rfl⟩
  ·exact wpAny_pyHash_int h
  ·exact wpAny_pyHash_str h
 eqBool:=fun hu hv h=>by
  rcases Vi hu with ⟨i,t,rfl,rfl⟩ | ⟨x,t,rfl,rfl⟩
  ·rcases Vi hv with ⟨j,u,rfl,rfl⟩ | ⟨y,u,rfl,rfl⟩
   ·rw [FO] at h;exact wpAny_eqBool_int h
   ·rw [HE] at h;exact SeqAt.EqAt.int_str i t y u _ _ _ _ h
  ·rcases Vi hv with ⟨j,u,rfl,rfl⟩ | ⟨y,u,rfl,rfl⟩
   ·rw [GZ] at h;exact SeqAt.EqAt.str_int x t j u _ _ _ _ h
   ·rw [CI] at h;exact wpAny_eqBool_str h
 «strs» :=fun k x t v h=>by
  rcases Vi h with ⟨i,u,rfl,e⟩ | ⟨y,u,rfl,e⟩
  ·exact nomatch e
  ·injection e with e1 _
   subst e1
   cases v <;> rfl
theorem HX (prog:Program) (w:World) (i:Int) (t:Tok):(WN prog w).is (.inl i) (.int i t)=true:=Gb i t
theorem CW (prog:Program) (w:World) (x:Str) (t:Tok):(WN prog w).is (.inr x) (.str x t)=true:=Ew x t
inductive V where
 | non | bl (b:Bool) | int (i:Int) | str (x:Str) | byt (b:Array UInt8) | flt (b:UInt64) | ref (a:Addr) | ty (n:String)
 deriving DecidableEq
def ZQ:V->Value->Prop
 | .non,u=>u=Value.none
 | .bl b,u=>u=Value.bool b
 | .int i,u=>∃ t,u=Value.int i t
 | .str x,u=>∃ t,u=Value.str x t
 | .byt b,u=>∃ t,u=Value.bytes b t
 | .flt b,u=>∃ t,u=Value.float b t
 | .ref a,u=>u=Value.ref a
 | .ty n,u=>u=Value.type n
abbrev ZN:List V->List Value->Prop:=Paired ZQ
theorem ZN.length {xs:List V} {us:List Value} (r:ZN xs us):xs.length=us.length:=Paired.length r
theorem ZN.get:∀ {xs:List V} {us:List Value} {i:Nat} {x:V},ZN xs us->xs[i]? = some x->∃ u,us[i]? = some u/\ZQ x u
 | _,_,_,_,.nil,e=>by simp at e
 | _,_,0,_,.cons r _,e=>by simp at e;subst e;exact ⟨_,rfl,r⟩
 | _,_,i+1,x,.cons _ t,e=>by
  obtain ⟨u,h1,h2⟩:=ZN.get (i:=i) (x:=x) t (by simpa using e)
  exact ⟨u,by simpa using h1,h2⟩
theorem ZN.set {x:V} {u:Value} (r:ZQ x u):∀ {xs:List V} {us:List Value} (i:Nat),ZN xs us->ZN (xs.set i x) (us.set i u)
 | _,_,_,.nil=>.nil
 | _,_,0,.cons _ t=>.cons r t
 | _,_,i+1,.cons q t=>.cons q (ZN.set r i t)
theorem ZN.append:∀ {xs ys:List V} {us ws:List Value},ZN xs us->ZN ys ws->ZN (xs++ys) (us++ws)
 | _,_,_,_,.nil,s=>s
 | _,_,_,_,.cons r t,s=>.cons r (ZN.append t s)
theorem ZN.take:∀ {xs:List V} {us:List Value} (n:Nat),ZN xs us->ZN (xs.take n) (us.take n)
 | _,_,0,_=>.nil
 | _,_,_+1,.nil=>.nil
 | _,_,n+1,.cons r t=>.cons r (ZN.take n t)
theorem ZN.drop:∀ {xs:List V} {us:List Value} (n:Nat),ZN xs us->ZN (xs.drop n) (us.drop n)
 | _,_,0,r=>r
 | _,_,_+1,.nil=>.nil
 | _,_,n+1,.cons _ t=>ZN.drop n t
def YO:Option V->Option Value->Prop
 | some v,some u=>ZQ v u
 | none,none=>True
 | _,_=>False
def KV {κ:Type}:List (κ×V)->List (κ×Value)->Prop:=Paired fun (p:κ×V) (q:κ×Value)=>p.1=q.1/\ZQ p.2 q.2
def kV:Zc->V
 | .inl i=>.int i
 | .inr x=>.str x
inductive HO where
 | lst (xs:List V)
 | tup (xs:List V)
 | dK (kvs:List (Zc×V)) | dT (kvs:List (List Zc×V))
 | set (S:Int->Bool) (n:Nat)
 | ins (C dx:Addr) (fs:List (Str×V))
 | own (x:Addr)
 | xd (fs:List (Str×V))
 | met (f x:Addr)
 | rng (lo hi:Int)
 | frz (o:Obj) (u:HO)
 | tbl (ps:Array Value)
 | ext (φ:Heap->Prop)
abbrev Hp:=Addr->Option HO
def upd (H:Hp) (a:Addr) (o:HO):Hp:=fun b=>if b=a then some o else H b
theorem ZP {H:Hp} {a:Addr} {o:HO}:upd H a o a=some o:=by unfold upd;rw [if_pos rfl]
theorem ZT {H:Hp} {a b:Addr} {o:HO} (h:b≠a):upd H a o b=H b:=by unfold upd;rw [if_neg h]
theorem Pw {H:Hp} {a:Addr} {o u:HO}:upd (upd H a o) a u=upd H a u:=by
 funext b;unfold upd;split <;> rfl
theorem ZR {H:Hp} {a b:Addr} {o u:HO} (h:H a=some o) (h':H b=some u) (d:o≠u):a≠b:=by
 intro e;subst e;rw [h] at h';exact d (zAh.inj h')
theorem ZY {H:Hp} {a b:Addr} {o:HO} (h:H a=some o) (h':H b=none):a≠b:=by
 intro e;subst e;rw [h] at h';cases h'
section
variable (P:Program) (w:World)
def Ze (H:Hp) (h:Heap) (a:Addr):HO->Prop
 | .lst xs=>xs.length<=sizeLine/\∃ (its:List Value) (n:Nat),ZN xs its/\h.get? a=some { cls:=.type "list",data:=.seq its.toArray n }
 | .tup xs=>xs.length<=sizeLine/\∃ its:List Value,ZN xs its/\IsTup h a its.toArray
 | .dK kvs=>kvs.length<=sizeLine/\(a==sysModules)=false/\∃ vs,KV kvs vs/\h.DictOf (WN P w) a vs
 | .dT kvs=>kvs.length<=sizeLine/\(a==sysModules)=false/\∃ xs:List (List Zc×Addr×Value),
   Paired (fun (p:List Zc×V) (q:List Zc×Addr×Value)=>p.1=q.1/\H q.2.1=some (.tup (p.1.map kV))/\ZQ p.2 q.2.2) kvs xs /\
   ∃ o es ep,h.get? a=some o/\o.ExactDict/\o.data=.dict es ep/\es.toList=xs.map (entryOfKey (tupleKind (WN P w)))/\(xs.map (·.1)).Nodup
 | .set S n=>h.SetOf (intKind P w) a S n
 | .ins C dx fs=>H dx=some (.own a)/\fs.length<=1000/\dx≠a/\h.get? a=some (zBM C dx) /\
   ∃ mA,h.Ns1 dx mA/\(∀ f,YO (fs.lookup f) (mA f))/\PySem.Within mA (fs.map (·.1))
 | .own _=>∃ o,h.get? a=some o
 | .xd fs=>∃ mA,h.Ns1 a mA/\∀ f,YO (fs.lookup f) (mA f)
 | .rng lo hi=>∃ t u v,h.get? a=some { cls:=.type "range",data:=.fields #[.int lo t,.int hi u,.int 1 v] }
 | .frz o u=>h.get? a=some o/\Ze H h a u
 | .tbl ps=>h.get? a=some { cls:=.none,data:=.fields ps }
 | .met f x=>h.get? a=some (zCZ (.ref f) (.ref x))
 | .ext φ=>φ h/\(∃ o,h.get? a=some o)/\∀ h1 h2:Heap,φ h1->(∀ o,h1.get? a=some o->h2.get? a=some o)->φ h2
def YT (H:Hp) (h:Heap):Prop:=∀ a o,H a=some o->Ze P w H h a o
end
section
variable {P:Program} {w:World} {H H':Hp} {h h':Heap} {a:Addr} {o:HO}
theorem Ze.lt (x:Ze P w H h a o):a<h.objs.size:=by
 cases o with
 | lst xs=>obtain ⟨_,_,_,_,e⟩:=x;exact zAS e
 | tup xs=>obtain ⟨_,_,_,p⟩:=x;exact p.lt
 | dK kvs=>obtain ⟨_,_,_,_,o,_,_,e,_⟩:=x;exact zAS e
 | dT kvs=>obtain ⟨_,_,_,_,o,_,_,e,_⟩:=x;exact zAS e
 | set S n=>obtain ⟨o,_,_,_,e,_⟩:=x;exact zAS e
 | ins C dx fs=>obtain ⟨_,_,_,e,_⟩:=x;exact zAS e
 | own y=>obtain ⟨_,e⟩:=x;exact zAS e
 | xd fs=>obtain ⟨_,⟨_,_,_,e,_⟩,_⟩:=x;exact zAS e
 | rng lo hi=>obtain ⟨_,_,_,e⟩:=x;exact zAS e
 | frz ob u=>obtain ⟨e,_⟩:=x;exact zAS e
 | tbl ps=>exact zAS (show h.get? a=some _ from x)
 | met f y=>exact zAS (show h.get? a=some _ from x)
 | ext φ=>obtain ⟨_,⟨_,e⟩,_⟩:=x;exact zAS e
theorem Paired.mapP {α β:Type} {F G:α->β->Prop}:∀ {l₁:List α} {l₂:List β},Paired F l₁ l₂->(∀ a b,F a b->G a b)->Paired G l₁ l₂
 | _,_,.nil,_=>.nil
 | _,_,.cons r t,f=>.cons (f _ _ r) (Paired.mapP t f)
theorem Ze.stay (x:Ze P w H h a o) (k:∀ b u,(b=a\/H b=some (.own a))->h.get? b=some u->h'.get? b=some u)
  (ho:∀ b,H b=some (.own a)->H' b=some (.own a)) (ht:∀ b xs,H b=some (.tup xs)->H' b=some (.tup xs)):Ze P w H' h' a o:=by
 induction o with
 | lst xs=>obtain ⟨z,its,n,r,e⟩:=x;exact ⟨z,its,n,r,k _ _ (.inl rfl) e⟩
 | tup xs=>obtain ⟨z,its,r,ob,e,c⟩:=x;exact ⟨z,its,r,ob,k _ _ (.inl rfl) e,c⟩
 | dK kvs=>obtain ⟨z,y,vs,r,ob,es,ep,e,c⟩:=x;exact ⟨z,y,vs,r,ob,es,ep,k _ _ (.inl rfl) e,c⟩
 | dT kvs=>
  obtain ⟨z,y,xs,r,ob,es,ep,e,c⟩:=x
  exact ⟨z,y,xs,Paired.mapP r fun p q z=>⟨z.1,ht _ _ z.2.1,z.2.2⟩,ob,es,ep,k _ _ (.inl rfl) e,c⟩
 | set S n=>obtain ⟨ob,es,ep,t,e,c⟩:=x;exact ⟨ob,es,ep,t,k _ _ (.inl rfl) e,c⟩
 | ins C dx fs=>
  obtain ⟨d,z,ne,e,mA,⟨od,es,ep,e2,c⟩,r⟩:=x
  exact ⟨ho _ d,z,ne,k _ _ (.inl rfl) e,mA,⟨od,es,ep,k _ _ (.inr d) e2,c⟩,r⟩
 | own y=>obtain ⟨ob,e⟩:=x;exact ⟨ob,k _ _ (.inl rfl) e⟩
 | xd fs=>obtain ⟨mA,⟨od,es,ep,e,c⟩,r⟩:=x;exact ⟨mA,⟨od,es,ep,k _ _ (.inl rfl) e,c⟩,r⟩
 | rng lo hi=>obtain ⟨t,u,v,e⟩:=x;exact ⟨t,u,v,k _ _ (.inl rfl) e⟩
 | frz ob u ih=>obtain ⟨e,q⟩:=x;exact ⟨k _ _ (.inl rfl) e,ih q⟩
 | tbl ps=>
  have e:h.get? a=some { cls:=.none,data:=.fields ps }:=x
  show h'.get? a=some { cls:=.none,data:=.fields ps }
  exact k a _ (.inl rfl) e
 | met f y=>
  have e:h.get? a=some (zCZ (.ref f) (.ref y)):=x
  show h'.get? a=some (zCZ (.ref f) (.ref y))
  exact k a _ (.inl rfl) e
 | ext φ=>obtain ⟨p,⟨o,e⟩,st⟩:=x;exact ⟨st _ _ p fun o q=>k _ _ (.inl rfl) q,⟨o,k _ _ (.inl rfl) e⟩,st⟩
theorem YT.lt (x:YT P w H h) (e:H a=some o):a<h.objs.size:=(x a o e).lt
theorem YT.fresh (x:YT P w H h) (e:h.objs.size<=a):H a=none:=by
 cases q:H a with
 | none=>rfl
 | some u=>exact absurd (zAb (x.lt q) e) (zBU _)
theorem YT.kept (x:YT P w H h) (k:∀ b u,h.get? b=some u->h'.get? b=some u):YT P w H h':=fun a o e=>
 (x a o e).stay (fun b u _ q=>k b u q) (fun _ q=>q) fun _ _ q=>q
theorem YT.laid (x:YT P w H h) (k:∀ b u,h.get? b=some u->h'.get? b=some u) (hp:h.objs.size<=a) (new:Ze P w (upd H a o) h' a o):YT P w (upd H a o) h':=fun b u e=>by
 have hn:=x.fresh hp
 by_cases hb:b=a
 ·subst hb;rw [ZP] at e;cases e;exact new
 ·rw [ZT hb] at e
  exact (x b u e).stay (fun c v _ q=>k c v q) (fun c q=>by rw [ZT (ZY q hn)];exact q) fun c xs q=>by rw [ZT (ZY q hn)];exact q
end
def Rd (H:Hp) (a:Addr) (u:HO):Prop:=H a=some u\/∃ o,H a=some (.frz o u)
theorem Rd.of {H:Hp} {a:Addr} {u:HO} (h:H a=some u):Rd H a u:=.inl h
theorem Rd.ok {P:Program} {w:World} {H:Hp} {h:Heap} {a:Addr} {u:HO} (r:Rd H a u) (x:YT P w H h):Ze P w H h a u:=by
 rcases r with r | ⟨o,r⟩
 ·exact x a u r
 ·obtain ⟨_,q⟩:=x a _ r
  exact q
def U2:Option HO->Prop
 | some (.lst _)=>True
 | some (.dK _)=>True
 | some (.dT _)=>True
 | some (.set _ _)=>True
 | some (.ins _ _ _)=>True
 | some (.ext _)=>True
 | _=>False
section
variable {P:Program} {w:World} {H:Hp} {h h':Heap} {x e:Addr} {o':HO}
theorem YT.write (ok:YT P w H h) (mu:U2 (H x)) (he:e=x\/H e=some (.own x)) (k:∀ b u,b≠e->h.get? b=some u->h'.get? b=some u) (heo:∃ u,h'.get? e=some u)
  (new:Ze P w (upd H x o') h' x o'):YT P w (upd H x o') h':=fun b u q=>by
 have nown:∀ c y,H c=some (.own y)->c≠x:=fun c y r z=>by subst z;rw [r] at mu;exact mu
 have ntup:∀ c xs,H c=some (.tup xs)->c≠x:=fun c xs r z=>by subst z;rw [r] at mu;exact mu
 by_cases hb:b=x
 ·subst hb;rw [ZP] at q;cases q;exact new
 ·rw [ZT hb] at q
  by_cases hbe:b=e
  ·have q':H b=some (.own x):=by
    rcases he with z | z
    ·exact absurd (hbe.trans z) hb
    ·rw [hbe];exact z
   rw [q] at q';cases q'
   obtain ⟨v,hv⟩:=heo
   exact ⟨v,by rw [hbe];exact hv⟩
  ·refine (ok b u q).stay (fun c v hc r=>k c v ?_ r) (fun c r=>by rw [ZT (nown c b r)];exact r) fun c xs r=>by rw [ZT (ntup c xs r)];exact r
   rcases hc with rfl | hc
   ·exact hbe
   ·rintro rfl
    rcases he with z | z
    ·exact nown c b hc z
    ·rw [hc] at z;cases z;exact hb rfl
end
structure Un (fs ex:List Addr) (H H':Hp) (h h':Heap):Prop where
 keep:∀ b o,h.get? b=some o->H b=none->b∉fs->b∉ex->h'.get? b=some o
 slot:∀ b o,h.get? b=some o->H b=none->b∈fs->b∉ex->∃ sl,h'.get? b=some { o with slots:=sl }
 free:∀ b o,h.get? b=some o->H b=none->b∉ex->H' b=none
 there:∀ b o,h.get? b=some o->b∉ex->∃ o',h'.get? b=some o'
 tups:∀ b xs,H b=some (.tup xs)->H' b=some (.tup xs)
 frzs:∀ b o u,H b=some (.frz o u)->H' b=some (.frz o u)
 tbls:∀ b ps,H b=some (.tbl ps)->∃ more,H' b=some (.tbl (ps++more))
section
variable {fs fs' ex ex':List Addr} {H H1 H2:Hp} {h h1 h2 h':Heap} {a x e:Addr} {o:HO}
theorem Un.any (u:Un fs ex H H1 h h1) {b:Addr} {ob:Obj} (q:h.get? b=some ob) (n:H b=none) (hx:b∉ex):∃ sl,h1.get? b=some { ob with slots:=sl }:=by
 by_cases hb:b∈fs
 ·exact u.slot b ob q n hb hx
 ·exact ⟨ob.slots,u.keep b ob q n hb hx⟩
theorem Un.kept (k:∀ b u,h.get? b=some u->h'.get? b=some u):Un fs ex H H h h':=
 ⟨fun b ob q _ _ _=>k b ob q,fun b ob q _ _ _=>⟨ob.slots,k b ob q⟩,fun _ _ _ n _=>n,fun b ob q _=>⟨ob,k b ob q⟩,fun _ _ q=>q,fun _ _ _ q=>q,fun _ ps q=>⟨#[],by rw [q];simp⟩⟩
theorem Un.refl:Un fs ex H H h h:=Un.kept fun _ _ q=>q
theorem Un.laid (k:∀ b u,h.get? b=some u->h'.get? b=some u) (hp:h.objs.size<=a) (hn:H a=none):Un fs ex H (upd H a o) h h' where
 keep:=fun b u q _ _ _=>k b u q
 slot:=fun b u q _ _ _=>⟨u.slots,k b u q⟩
 free:=fun b u q n _=>by rw [ZT (zAk (zAb (zAS q) hp))];exact n
 there:=fun b u q _=>⟨u,k b u q⟩
 tups:=fun b xs q=>by rw [ZT (ZY q hn)];exact q
 frzs:=fun b u xs q=>by rw [ZT (ZY q hn)];exact q
 tbls:=fun b ps q=>⟨#[],by rw [ZT (ZY q hn),q];simp⟩
theorem Un.write (mu:U2 (H x)) (he:e=x\/H e=some (.own x)) (k:∀ b u,b≠e->h.get? b=some u->h'.get? b=some u) (heo:∃ u,h'.get? e=some u):Un fs ex H (upd H x o) h h':=by
 have hx:∀ b,H b=none->b≠x:=fun b n z=>by subst z;rw [n] at mu;exact mu
 have hb:∀ b,H b=none->b≠e:=fun b n z=>by
  subst z
  rcases he with r | r
  ·exact hx b n r
  ·rw [n] at r;cases r
 have hm:∀ b u,H b=some u->¬ U2 (some u)->b≠x:=fun b u q nm z=>by subst z;rw [q] at mu;exact nm mu
 refine ⟨fun b u q n _ _=>k b u (hb b n) q,fun b u q n _ _=>⟨u.slots,k b u (hb b n) q⟩,fun b u q n _=>by rw [ZT (hx b n)];exact n,fun b u q _=>?_,
  fun b xs q=>by rw [ZT (hm b _ q fun z=>z)];exact q,fun b u xs q=>by rw [ZT (hm b _ q fun z=>z)];exact q,fun b ps q=>⟨#[],by rw [ZT (hm b _ q fun z=>z),q];simp⟩⟩
 by_cases hbe:b=e
 ·subst hbe;exact heo
 ·exact ⟨u,k b u hbe q⟩
end
def Qq (h:Heap) (H:Hp):List Addr:=(zAi h.objs.size).filter fun a=>(H a).isSome
def Vg (h:Heap) (H:Hp):Heap:=zB0 h (Qq h H)
theorem Fk (h:Heap) (H:Hp):(Vg h H).objs.size=h.objs.size:=PySem.W.hideAll_size _ _
theorem Ge {h:Heap} {H:Hp} {b:Addr} {o:Obj} (e:h.get? b=some o) (n:H b=none):(Vg h H).get? b=some o:=
 zDF _ e fun hm=>by
  have q:(H b).isSome=true:=(zCJ.mp hm).2
  rw [n] at q;simp at q
theorem GN {h:Heap} {H:Hp} {b:Addr} {o:Obj} (e:(Vg h H).get? b=some o):h.get? b=some o/\H b=none:=by
 have e':h.get? b=some o:=zDJ (Qq h H) e
 refine ⟨e',?_⟩
 cases q:H b with
 | none=>rfl
 | some x=>
  have hm:b∈Qq h H:=zCJ.mpr ⟨zA2.mpr (zAS e'),by simp [q]⟩
  have z:(Vg h H).get? b=none:=zDA (Qq h H) hm
  rw [z] at e;cases e
def Cd (g h:Heap) (L:Addr):List (Addr×Obj):=(zAi h.objs.size).filterMap fun a=>if a=L\/(g.get? a).isSome=true then none else (h.get? a).map fun o=>(a,o)
def rest (g h:Heap) (L d:Addr):List (Addr×Obj):=(Cd g h L).filter fun p=>decide (p.1≠d)
structure Mod (K:zAA) (mg:Str->Option Value) (base:Heap):Prop where
 kin:K.In base
 glob:base.Ns mainGlobals mg
 blt:∃ mb,base.Ns builtinsNs mb/\∀ x:Str,x ≠ "__name__"->mb x=bootBuiltins x
 nolimit:base.NoLimit
structure Cx where
 prog:Program
 w:World
 K:zAA
 mg:Str->Option Value
 base:Heap
 A:Around
 N:List Str
 s₀:Shared
 H₀:Hp
 env:Env
 outer:List Env
 stack:List Env
 ex:List Addr
 fn:Str->Bool
 calm:Bool
 pn:List (Addr×Obj)
 xe:Value->Shared->Prop
def frs (l:List Env):List Addr:=l.filterMap (·.frame)
abbrev Cx.fs (X:Cx):List Addr:=frs X.outer
def NK (sc:Scope) (x:Str):Prop:=sc.names.lookup x=some .local\/sc.names.lookup x=some .cell\/sc.names.lookup x=some .free
def P0 (sc:Scope) (x:Str):Prop:=sc.names.lookup x=some .local\/sc.names.lookup x=some .cell
def BM (env:Env) (h:Heap) (m:Str->Option Value) (x:Str) (u:Value):Prop:=
 (env.kindOf x=some .local/\m x=some u)\/((env.kindOf x=some .cell\/env.kindOf x=some .free)/\∃ c,env.cells.lookup x=some c/\h.IsCell c (some u))
structure Cx.Ok (X:Cx):Prop where
 mod:Mod X.K X.mg X.base
 kind:X.env.scope.kind=.function
 glob:X.env.globals=mainGlobals
 blt:X.env.builtins=builtinsNs
 above:X.s₀.heap.objs.size<=X.env.locals
 inj:∀ x y c,X.env.cells.lookup x=some c->X.env.cells.lookup y=some c->x=y
 has:∀ x,(X.env.kindOf x=some .cell\/X.env.kindOf x=some .free)->∃ c,X.env.cells.lookup x=some c
 cab:∀ x c,X.fn x=true->X.env.cells.lookup x=some c->X.s₀.heap.objs.size<=c
 hd:X.calm=true->X.A.handled=none
 frames:X.A.frames=some X.stack
 stk:X.stack=X.outer\/(X.stack=X.env :: X.outer/\X.env.frame=some X.env.locals)
 exf:∀ b∈X.ex,b≠X.env.locals/\∀ x c,X.env.cells.lookup x=some c->c≠b
 bs:∀ b o,X.base.get? b=some o->X.s₀.heap.get? b=some o/\X.H₀ b=none
 bsz:X.base.objs.size<=X.s₀.heap.objs.size
 noex:∀ b o,X.base.get? b=some o->b∉X.ex
 exfs:∀ b∈X.ex,b∉X.fs
 funs:X.s₀.heap.FunFrames X.base X.outer
 frf:∀ b∈X.fs,X.H₀ b=none
structure ZF (X:Cx) (pins:List (Addr×Obj)) (σ:List (Option V)) (H:Hp) (s:Shared):Prop where
 ok:X.Ok
 os:s.os=X.s₀.os
 bare:AllBare s.gens
 base:Un X.fs X.ex X.H₀ H X.s₀.heap s.heap
 loc:∃ m,s.heap.Ns X.env.locals m/\∀ (i:Nat) (x:Str) (v:V),X.N[i]? = some x->σ[i]? = some (some v)->NK X.env.scope x->∃ u,ZQ v u/\BM X.env s.heap m x u
 cell:∀ x c,X.env.cells.lookup x=some c->∃ v,s.heap.IsCell c v
 free:H X.env.locals=none
 freeC:∀ x c,X.env.cells.lookup x=some c->H c=none
 pin:∀ p∈X.pn++pins,s.heap.get? p.1=some p.2/\H p.1=none/\p.1≠X.env.locals/\p.1∉X.fs/\∀ v,p.2.data≠.cell v
 hok:YT X.prog X.w H s.heap
 len:σ.length=X.N.length
section
variable {X:Cx} {pins:List (Addr×Obj)} {σ:List (Option V)} {H H':Hp} {s:Shared} {h':Heap}
theorem Cx.Ok.nofr (ok:X.Ok) {b:Addr} {o:Obj} (e:X.base.get? b=some o):b∉X.fs:=fun hb=>by
 have:=(ok.funs.mem hb).1
 rw [e] at this;cases this
theorem ZF.bs (I:ZF X pins σ H s):∀ b o,X.base.get? b=some o->s.heap.get? b=some o/\H b=none:=fun b o e=>
 ⟨I.base.keep b o (I.ok.bs b o e).1 (I.ok.bs b o e).2 (I.ok.nofr e) (I.ok.noex b o e),I.base.free b o (I.ok.bs b o e).1 (I.ok.bs b o e).2 (I.ok.noex b o e)⟩
theorem ZF.bk (I:ZF X pins σ H s):∀ b o,X.base.get? b=some o->s.heap.get? b=some o:=fun b o e=>(I.bs b o e).1
theorem ZF.mod (I:ZF X pins σ H s):Mod X.K X.mg X.base:=I.ok.mod
theorem ZF.kIn (I:ZF X pins σ H s):X.K.In s.heap:=I.ok.mod.kin.keeps I.bk
theorem ZF.lt (I:ZF X pins σ H s):X.env.locals<s.heap.objs.size:=let ⟨_,hn,_⟩:=I.loc;hn.lt
theorem ZF.sz (I:ZF X pins σ H s):X.s₀.heap.objs.size<=s.heap.objs.size:=zA7 I.ok.above (zBb I.lt)
theorem ZF.nofs (I:ZF X pins σ H s) {a:Addr} (h:s.heap.objs.size<=a):a∉X.fs:=fun hb=>by
 obtain ⟨_,o,ho,_⟩:=I.ok.funs.mem hb
 exact absurd (zAb (zAS ho) (zA7 I.sz h)) (zBU _)
theorem ZF.cne (I:ZF X pins σ H s):∀ x c,X.env.cells.lookup x=some c->c≠X.env.locals:=fun x c e z=>by
 obtain ⟨v,o,ho,hd⟩:=I.cell x c e
 obtain ⟨m,⟨o',es,ep,ho',hd',_⟩,_⟩:=I.loc
 rw [z,ho'] at ho;cases ho;rw [hd'] at hd;cases hd
theorem ZF.funs (I:ZF X pins σ H s):s.heap.FunFrames X.base X.outer:=by
 have all:∀ (l:List Env),(∀ b∈frs l,b∈X.fs)->X.s₀.heap.FunFrames X.base l->s.heap.FunFrames X.base l:=by
  intro l
  induction l with
  | nil=>intro _ _;trivial
  | cons env r ih=>
   intro hs hl
   obtain ⟨hk,⟨L,o,hf,hn,ho,hd⟩,hr⟩:=hl
   have hL:L∈X.fs:=hs L (by unfold frs;rw [zBI,hf];exact zAR)
   obtain ⟨sl,e⟩:=I.base.slot L o ho (I.ok.frf L hL) hL fun z=>I.ok.exfs L z hL
   exact ⟨hk,⟨L,_,hf,hn,e,hd⟩,ih (fun b hb=>hs b (by unfold frs;rw [zBI,hf];exact zAP _ hb)) hr⟩
 exact all X.outer (fun _ hb=>hb) I.ok.funs
theorem ZF.stack (I:ZF X pins σ H s):s.heap.FunFrames X.base X.stack:=by
 rcases I.ok.stk with e | ⟨e,hf⟩
 ·rw [e];exact I.funs
 ·rw [e]
  obtain ⟨m,hn,_⟩:=I.loc
  refine .cons (by rw [I.ok.kind];decide) hf hn ?_ I.funs
  exact zBf (zA7 I.ok.bsz I.ok.above)
theorem ZF.stkSub (I:ZF X pins σ H s):∀ b∈frs X.stack,b∈X.env.locals :: X.fs:=fun b hb=>by
 rcases I.ok.stk with e | ⟨e,hf⟩
 ·rw [e] at hb;exact zAP _ hb
 ·rw [e] at hb
  unfold frs at hb
  rw [zBI,hf] at hb
  exact hb
theorem ZF.stkFree (I:ZF X pins σ H s):∀ b∈frs X.stack,H b=none:=fun b hb=>by
 rcases zAd.mp (I.stkSub b hb) with e | hb
 ·rw [e];exact I.free
 ·obtain ⟨_,o,ho,_⟩:=I.ok.funs.mem hb
  exact I.base.free b o ho (I.ok.frf b hb) fun z=>I.ok.exfs b z hb
theorem ZF.step {g':Array GenState} {t':Nat} {d':Drawn} {ch:List Addr} (I:ZF X pins σ H s)
  (hch:∀ b∈ch,(b∈X.ex\/X.s₀.heap.objs.size<=b)/\b≠X.env.locals/\(∀ x c,X.env.cells.lookup x=some c->c≠b)/\∀ p∈X.pn++pins,p.1≠b)
  (keep:∀ b o,b≠X.env.locals->b∉X.fs->b∉ch->s.heap.get? b=some o->H b=none->h'.get? b=some o)
  (slot:∀ b o,b≠X.env.locals->b∈X.fs->b∉ch->s.heap.get? b=some o->H b=none->∃ sl,h'.get? b=some { o with slots:=sl }) (free:∀ b o,b∉ch->s.heap.get? b=some o->H b=none->H' b=none)
  (there:∀ b o,b∉ch->s.heap.get? b=some o->∃ o',h'.get? b=some o')
  (tups:∀ b xs,H b=some (.tup xs)->H' b=some (.tup xs)) (frzs:∀ b o u,H b=some (.frz o u)->H' b=some (.frz o u)) (tbls:∀ b ps,H b=some (.tbl ps)->∃ more,H' b=some (.tbl (ps++more)))
  (ns:∀ m,s.heap.Ns X.env.locals m->h'.Ns X.env.locals m) (hok:YT X.prog X.w H' h') (hg:AllBare g') :
  ZF X pins σ H' { s with heap:=h',gens:=g',drawn:=d',toks:=t' }:=by
 have neL:∀ b o,X.s₀.heap.get? b=some o->b≠X.env.locals:=fun b o e=>zAk (zAb (zAS e) I.ok.above)
 have neC:∀ b o,X.s₀.heap.get? b=some o->b∉X.ex->b∉ch:=fun b o e hx hb=>by
  rcases (hch b hb).1 with z | z
  ·exact hx z
  ·exact absurd (zAb (zAS e) z) (zBU _)
 have cellK:∀ x c,X.env.cells.lookup x=some c->∀ v,s.heap.IsCell c v->h'.IsCell c v:=fun x c e v ⟨o,ho,hd⟩=>by
  have nch:c∉ch:=fun z=>(hch c z).2.2.1 x c e rfl
  by_cases hc:c∈X.fs
  ·obtain ⟨sl,q⟩:=slot c o (I.cne x c e) hc nch ho (I.freeC x c e)
   exact ⟨_,q,hd⟩
  ·exact ⟨o,keep c o (I.cne x c e) hc nch ho (I.freeC x c e),hd⟩
 refine ⟨I.ok,I.os,hg,⟨fun b o e n hb hx=>?_,fun b o e n hb hx=>?_,fun b o e n hx=>?_,fun b o e hx=>?_,fun b xs e=>tups b xs (I.base.tups b xs e),fun b o xs e=>frzs b o xs (I.base.frzs b o xs e),fun b ps e=>?_⟩,?_,fun x c e=>?_,?_,fun x c e=>?_,fun p hp=>?_,hok,I.len⟩
 ·exact keep b o (neL b o e) hb (neC b o e hx) (I.base.keep b o e n hb hx) (I.base.free b o e n hx)
 ·obtain ⟨sl,e1⟩:=I.base.slot b o e n hb hx
  obtain ⟨sl',e2⟩:=slot b _ (neL b o e) hb (neC b o e hx) e1 (I.base.free b o e n hx)
  exact ⟨sl',e2⟩
 ·obtain ⟨o',e1⟩:=I.base.there b o e hx
  exact free b o' (neC b o e hx) e1 (I.base.free b o e n hx)
 ·obtain ⟨o',e1⟩:=I.base.there b o e hx
  exact there b o' (neC b o e hx) e1
 ·obtain ⟨m1,e1⟩:=I.base.tbls b ps e
  obtain ⟨m2,e2⟩:=tbls b _ e1
  exact ⟨m1++m2,by rw [e2,Array.append_assoc]⟩
 ·obtain ⟨m,hn,hl⟩:=I.loc
  refine ⟨m,ns m hn,fun i x v e1 e2 e3=>?_⟩
  obtain ⟨u,r,l⟩:=hl i x v e1 e2 e3
  refine ⟨u,r,?_⟩
  rcases l with l | ⟨k,c,e,z⟩
  ·exact .inl l
  ·exact .inr ⟨k,c,e,cellK x c e _ z⟩
 ·obtain ⟨v,z⟩:=I.cell x c e
  exact ⟨v,cellK x c e v z⟩
 ·obtain ⟨m,⟨o,_,_,ho,_⟩,_⟩:=I.loc
  exact free _ o (fun z=>(hch _ z).2.1 rfl) ho I.free
 ·obtain ⟨v,o,ho,hd⟩:=I.cell x c e
  exact free c o (fun z=>(hch c z).2.2.1 x c e rfl) ho (I.freeC x c e)
 ·obtain ⟨e,n,ne,nf,d⟩:=I.pin p hp
  have nch:p.1∉ch:=fun z=>(hch p.1 z).2.2.2 p hp rfl
  exact ⟨keep p.1 p.2 ne nf nch e n,free p.1 p.2 nch e n,ne,nf,d⟩
theorem ZF.un {t':Nat} (I:ZF X pins σ H s) (u:Un X.fs [] H H' s.heap h') (hok:YT X.prog X.w H' h'):ZF X pins σ H' { s with heap:=h',toks:=t' }:=by
 obtain ⟨m,⟨o,es,ep,ho,r⟩,_⟩:=id I.loc
 obtain ⟨sl,hL⟩:=u.any ho I.free (by simp)
 exact I.step (g':=s.gens) (d':=s.drawn) (ch:=[]) (fun _ z=>nomatch z) (fun b o _ hb _ e n=>u.keep b o e n hb (by simp)) (fun b o _ hb _ e n=>u.slot b o e n hb (by simp)) (fun b o _ e n=>u.free b o e n (by simp)) (fun b o _ e=>u.there b o e (by simp)) u.tups u.frzs u.tbls (fun m' hm=>by
  obtain ⟨o',es',ep',ho',r'⟩:=hm
  rw [ho] at ho';cases ho'
  exact ⟨_,es',ep',hL,r'⟩) hok I.bare
theorem ZF.call {g':Array GenState} {t':Nat} {d':Drawn} {ch:List Addr} (I:ZF X pins σ H s) (u:Un (frs X.stack) ch H H' s.heap h') (hok:YT X.prog X.w H' h') (hg:AllBare g')
  (hch:∀ b∈ch,(b∈X.ex\/X.s₀.heap.objs.size<=b)/\b≠X.env.locals/\(∀ x c,X.env.cells.lookup x=some c->c≠b)/\∀ p∈X.pn++pins,p.1≠b) :
  ZF X pins σ H' { s with heap:=h',gens:=g',drawn:=d',toks:=t' }:=by
 obtain ⟨m,⟨o,es,ep,ho,r⟩,_⟩:=id I.loc
 obtain ⟨sl,hL⟩:=u.any ho I.free fun z=>(hch _ z).2.1 rfl
 exact I.step (ch:=ch) hch (fun b o hL hb hc e n=>u.keep b o e n (fun z=>(zAd.mp (I.stkSub b z)).elim hL hb) hc) (fun b o _ _ hc e n=>u.any e n hc) (fun b o hc e n=>u.free b o e n hc) (fun b o hc e=>u.there b o e hc) u.tups u.frzs u.tbls (fun m' hm=>by
  obtain ⟨o',es',ep',ho',r'⟩:=hm
  rw [ho] at ho';cases ho'
  exact ⟨_,es',ep',hL,r'⟩) hok hg
theorem ZF.turned {t':Nat} {it:Addr} (I:ZF X pins σ H s) (k:∀ b o,b≠it->s.heap.get? b=some o->h'.get? b=some o) (hn:H it=none) (hL:it≠X.env.locals)
  (h1:it∈X.ex\/X.s₀.heap.objs.size<=it) (h2:∀ x c,X.env.cells.lookup x=some c->c≠it) (h3:∀ p∈X.pn++pins,p.1≠it):ZF X pins σ H { s with heap:=h',toks:=t' }:=by
 have nit:∀ b u,H b=some u->b≠it:=fun b u e z=>by rw [z,hn] at e;cases e
 refine I.step (g':=s.gens) (d':=s.drawn) (ch:=[it]) (fun b hb=>?_) (fun b o _ _ hc e _=>k b o (fun z=>hc (by simp [z])) e) (fun b o _ _ hc e _=>⟨o.slots,k b o (fun z=>hc (by simp [z])) e⟩) (fun _ _ _ _ n=>n)
  (fun b o hc e=>⟨o,k b o (fun z=>hc (by simp [z])) e⟩) (fun _ _ e=>e) (fun _ _ _ e=>e) (fun b ps e=>⟨#[],by rw [e];simp⟩) (fun m hm=>?_) (fun b u e=>?_) I.bare
 ·have e:b=it:=by simpa using hb
  subst e
  exact ⟨h1,hL,h2,h3⟩
 ·obtain ⟨o,es,ep,ho,r⟩:=hm
  exact ⟨o,es,ep,k _ o (Ne.symm hL) ho,r⟩
 ·refine (I.hok b u e).stay (fun c v hc q=>k c v ?_ q) (fun _ q=>q) fun _ _ q=>q
  rcases hc with z | z
  ·rw [z];exact nit b u e
  ·exact nit c _ z
theorem ZF.tok (I:ZF X pins σ H s) (t:Nat):ZF X pins σ H { s with toks:=t }:=I.un (h':=s.heap) (t':=t) Un.refl I.hok
theorem ZF.kept {t':Nat} (I:ZF X pins σ H s) (k:∀ b u,s.heap.get? b=some u->h'.get? b=some u):ZF X pins σ H { s with heap:=h',toks:=t' }:=I.un (Un.kept k) (I.hok.kept k)
theorem ZF.laid {a:Addr} {o:HO} {t':Nat} (I:ZF X pins σ H s) (k:∀ b u,s.heap.get? b=some u->h'.get? b=some u) (hp:s.heap.objs.size<=a) (new:Ze X.prog X.w (upd H a o) h' a o) :
  ZF X pins σ (upd H a o) { s with heap:=h',toks:=t' }:=I.un (Un.laid k hp (I.hok.fresh hp)) (I.hok.laid k hp new)
theorem ZF.write {x e:Addr} {o:HO} {t':Nat} (I:ZF X pins σ H s) (mu:U2 (H x)) (he:e=x\/H e=some (.own x)) (k:∀ b u,b≠e->s.heap.get? b=some u->h'.get? b=some u) (heo:∃ u,h'.get? e=some u)
  (new:Ze X.prog X.w (upd H x o) h' x o):ZF X pins σ (upd H x o) { s with heap:=h',toks:=t' }:=I.un (Un.write mu he k heo) (I.hok.write mu he k heo new)
theorem ZF.pins_of {pins':List (Addr×Obj)} (I:ZF X pins σ H s) (h:∀ p∈pins',s.heap.get? p.1=some p.2/\H p.1=none/\p.1≠X.env.locals/\p.1∉X.fs/\∀ v,p.2.data≠.cell v):ZF X pins' σ H s:=
 ⟨I.ok,I.os,I.bare,I.base,I.loc,I.cell,I.free,I.freeC,fun p hp=>(zAg.mp hp).elim (fun z=>I.pin p (zA3 _ z)) (h p),I.hok,I.len⟩
theorem NR {N:List Str} (hN:N.Nodup) {i j:Nat} {x:Str} (a:N[i]? = some x) (b:N[j]? = some x):i=j:=by
 obtain ⟨h1,e1⟩:=zAO.mp a
 obtain ⟨h2,e2⟩:=zAO.mp b
 exact (List.getElem_inj hN).mp (e1.trans e2.symm)
theorem JU {M:Model} {A:Around} {E:Value->Shared->Prop} {i:Nat} {x:Str} {v:V} {u:Value} {Q:Unit->Shared->Prop} (I:ZF X pins σ H s) (hN:X.N.Nodup) (hi:X.N[i]? = some x) (hx:P0 X.env.scope x) (r:ZQ v u)
  (h:∀ s',ZF X pins (σ.set i (some v)) H s'->(∃ a,zBE a s.heap s'.heap/\(a=X.env.locals\/X.env.cells.lookup x=some a))->Q () s') (hf:X.fn x=true\/X.env.scope.names.lookup x=some .local:=by first | exact .inl rfl | exact .inr rfl | assumption):wpAny M A (storeName X.env x u) Q E s:=by
 obtain ⟨m,hn,hl⟩:=id I.loc
 have hcls:(X.env.scope.kind==.class || (X.env.scope.kind==.module&&X.env.locals != X.env.globals))=false:=by rw [I.ok.kind];rfl
 have hiσ:i<σ.length:=by rw [I.len];exact (zAO.mp hi).1
 have cne:=I.cne
 have tracked:∀ {a:Addr} {h':Heap},(∃ o,s.heap.get? a=some o/\H a=none)->zBE a s.heap h'->YT X.prog X.w H h':=fun {a h'} ha hs b ob e=>by
  obtain ⟨_,_,hfree⟩:=ha
  refine (I.hok b ob e).stay (fun c w' hc q=>(hs.2 c ?_).trans q) (fun _ q=>q) fun _ _ q=>q
  rintro rfl
  rcases hc with rfl | hc
  ·rw [hfree] at e;cases e
  ·rw [hfree] at hc;cases hc
 rcases hx with hk | hk
 ·refine wpAny_storeName_local hk hn (fun h' hn' hs=>?_) hcls
  obtain ⟨oL,_,_,hoL,_⟩:=id hn
  refine h _ ⟨I.ok,I.os,I.bare,⟨fun b o e n hb hx=>?_,fun b o e n hb hx=>?_,I.base.free,fun b o e hx=>?_,I.base.tups,I.base.frzs,I.base.tbls⟩,⟨_,hn',fun j y v' e1 e2 e3=>?_⟩,fun y c e=>?_,I.free,I.freeC,fun p hp=>?_,tracked ⟨oL,hoL,I.free⟩ hs,by simpa using I.len⟩ ⟨_,hs,.inl rfl⟩
  ·exact (hs.2 b (zAk (zAb (zAS e) I.ok.above))).trans (I.base.keep b o e n hb hx)
  ·obtain ⟨sl,e1⟩:=I.base.slot b o e n hb hx
   exact ⟨sl,(hs.2 b (zAk (zAb (zAS e) I.ok.above))).trans e1⟩
  ·obtain ⟨o',e1⟩:=I.base.there b o e hx
   exact ⟨o',(hs.2 b (zAk (zAb (zAS e) I.ok.above))).trans e1⟩
  ·by_cases hj:j=i
   ·subst hj
    rw [hi] at e1;cases e1
    rw [zCI hiσ] at e2
    cases e2
    exact ⟨u,r,.inl ⟨hk,by simp⟩⟩
   ·rw [zCU (Ne.symm hj)] at e2
    obtain ⟨u',r',q⟩:=hl j y v' e1 e2 e3
    refine ⟨u',r',?_⟩
    rcases q with ⟨k,e⟩ | ⟨k,c,e,z⟩
    ·refine .inl ⟨k,?_⟩
     have:y≠x:=fun e=>hj (NR hN e1 (e ▸ hi))
     simp [this,e]
    ·exact .inr ⟨k,c,e,z.sameBut hs (cne y c e)⟩
  ·obtain ⟨w',z⟩:=I.cell y c e
   exact ⟨w',z.sameBut hs (cne y c e)⟩
  ·obtain ⟨e,n,ne,nf,d⟩:=I.pin p hp
   exact ⟨(hs.2 p.1 ne).trans e,n,ne,nf,d⟩
 ·have hfn:X.fn x=true:=by
   rcases hf with z | z
   ·exact z
   ·rw [z] at hk;cases hk
  obtain ⟨c,hc⟩:=I.ok.has x (.inl hk)
  obtain ⟨w',z⟩:=I.cell x c hc
  refine wpAny_storeName_cell I.ok.kind hk hc z (fun h' hc' hs=>?_)
  obtain ⟨oc,hoc,hocd⟩:=id z
  refine h { s with heap:=h' } ⟨I.ok,I.os,I.bare,⟨fun b o e n hb hx=>?_,fun b o e n hb hx=>?_,I.base.free,fun b o e hx=>?_,I.base.tups,I.base.frzs,I.base.tbls⟩,⟨m,hn.sameBut hs (Ne.symm (cne x c hc)),fun j y v' e1 e2 e3=>?_⟩,fun y c' e=>?_,I.free,I.freeC,fun p hp=>?_,tracked ⟨oc,hoc,I.freeC x c hc⟩ hs,by simpa using I.len⟩ ⟨c,hs,.inr hc⟩
  ·exact (hs.2 b (zAk (zAb (zAS e) (I.ok.cab x c hfn hc)))).trans (I.base.keep b o e n hb hx)
  ·obtain ⟨sl,e1⟩:=I.base.slot b o e n hb hx
   exact ⟨sl,(hs.2 b (zAk (zAb (zAS e) (I.ok.cab x c hfn hc)))).trans e1⟩
  ·obtain ⟨o',e1⟩:=I.base.there b o e hx
   exact ⟨o',(hs.2 b (zAk (zAb (zAS e) (I.ok.cab x c hfn hc)))).trans e1⟩
  ·by_cases hj:j=i
   ·subst hj
    rw [hi] at e1;cases e1
    rw [zCI hiσ] at e2
    cases e2
    exact ⟨u,r,.inr ⟨.inl hk,c,hc,hc'⟩⟩
   ·rw [zCU (Ne.symm hj)] at e2
    obtain ⟨u',r',q⟩:=hl j y v' e1 e2 e3
    refine ⟨u',r',?_⟩
    rcases q with q | ⟨k,c',e,z'⟩
    ·exact .inl q
    ·refine .inr ⟨k,c',e,z'.sameBut hs ?_⟩
     rintro rfl
     exact hj (NR hN e1 (I.ok.inj _ _ _ e hc ▸ hi))
  ·by_cases hcc:c'=c
   ·subst hcc;exact ⟨_,hc'⟩
   ·obtain ⟨w2,z2⟩:=I.cell y c' e
    exact ⟨w2,z2.sameBut hs hcc⟩
  ·obtain ⟨e,n,ne,nf,d⟩:=I.pin p hp
   refine ⟨(hs.2 p.1 ?_).trans e,n,ne,nf,d⟩
   intro q
   rw [q,hoc] at e
   have q':oc=p.2:=zAh.inj e
   exact d w' (by rw [<-q'];exact hocd)
theorem Nm {M:Model} {A:Around} {E:Value->Shared->Prop} {i:Nat} {x:Str} {v:V} {u:Value} {Q:Unit->Shared->Prop} (I:ZF X pins σ H s) (hN:X.N.Nodup) (hi:X.N[i]? = some x) (hx:P0 X.env.scope x) (r:ZQ v u)
  (h:∀ s',ZF X pins (σ.set i (some v)) H s'->Q () s') (hf:X.fn x=true\/X.env.scope.names.lookup x=some .local:=by first | exact .inl rfl | exact .inr rfl | assumption):wpAny M A (storeName X.env x u) Q E s:=
 JU I hN hi hx r (fun s' I' _=>h s' I') hf
theorem ZF.call' {s':Shared} {ch:List Addr} (I:ZF X pins σ H s) (ho:s'.os=s.os) (u:Un (frs X.stack) ch H H' s.heap s'.heap) (hok:YT X.prog X.w H' s'.heap) (hg:AllBare s'.gens)
  (hch:∀ b∈ch,(b∈X.ex\/X.s₀.heap.objs.size<=b)/\b≠X.env.locals/\(∀ x c,X.env.cells.lookup x=some c->c≠b)/\∀ p∈X.pn++pins,p.1≠b):ZF X pins σ H' s':=by
 obtain ⟨h',g',d',t',o'⟩:=s'
 have e:o'=s.os:=ho
 subst e
 exact I.call (g':=g') (t':=t') (d':=d') u hok hg hch
end
abbrev XK:=Value->Option Addr->Hp->Prop
abbrev St:=List (Option V)
abbrev VK:=V->Hp->Prop
abbrev TE:=St->Hp->VK->Prop
abbrev TT:=St->Hp->(Bool->Hp->Prop)->Prop
abbrev TA:=St->Hp->(List V->Hp->Prop)->Prop
structure Yb where
 nx:St->Hp->Prop
 rt:VK
 bk:St->Hp->Prop:=fun _ _=>False
 ct:St->Hp->Prop:=fun _ _=>False
abbrev TS:=Yb->St->Hp->Prop
def EP (X:Cx) (pins:List (Addr×Obj)) (σ:St) (Q:VK) (u:Value) (s':Shared):Prop:=∃ v H',ZF X pins σ H' s'/\ZQ v u/\Q v H'
def TP (X:Cx) (pins:List (Addr×Obj)) (σ:St) (Q:Bool->Hp->Prop) (b:Bool) (s':Shared):Prop:=∃ H',ZF X pins σ H' s'/\Q b H'
def AP (X:Cx) (pins:List (Addr×Obj)) (σ:St) (Q:List V->Hp->Prop) (us:List Value) (s':Shared):Prop:=∃ vs H',ZF X pins σ H' s'/\ZN vs us/\Q vs H'
def SP (X:Cx) (pins:List (Addr×Obj)) (D:Yb) (f:Flow) (s':Shared):Prop:=
 match f with
 | .next=>∃ σ' H',ZF X pins σ' H' s'/\D.nx σ' H'
 | .brk=>∃ σ' H',ZF X pins σ' H' s'/\D.bk σ' H'
 | .cont=>∃ σ' H',ZF X pins σ' H' s'/\D.ct σ' H'
 | .ret u=>∃ v σ' H',ZF X pins σ' H' s'/\ZQ v u/\D.rt v H'
def PE (X:Cx) (e:Expr) (t:TE):Prop:=
 ∀ (pins:List (Addr×Obj)) (s:Shared) (σ:St) (H:Hp) (Q:VK),ZF X pins σ H s->t σ H Q->wpAny (model X.prog X.w) X.A (eval e X.env) (EP X pins σ Q) X.xe s
def PT (X:Cx) (e:Expr) (t:TT):Prop:=
 ∀ (pins:List (Addr×Obj)) (s:Shared) (σ:St) (H:Hp) (Q:Bool->Hp->Prop),ZF X pins σ H s->t σ H Q->wpAny (model X.prog X.w) X.A (isTrue e X.env (eval e X.env)) (TP X pins σ Q) X.xe s
def PW (X:Cx) (e:Expr) (t:TT):Prop:=
 ∀ (whole:Sem Value) (pins:List (Addr×Obj)) (s:Shared) (σ:St) (H:Hp) (Q:Bool->Hp->Prop),ZF X pins σ H s->t σ H Q->wpAny (model X.prog X.w) X.A (isTrue e X.env whole) (TP X pins σ Q) X.xe s
theorem PW.pt {X:Cx} {e:Expr} {t:TT} (h:PW X e t):PT X e t:=h _
def PA (X:Cx) (es:List Expr) (t:TA):Prop:=
 ∀ (pos:Pos) (pins:List (Addr×Obj)) (s:Shared) (σ:St) (H:Hp) (Q:List V->Hp->Prop),ZF X pins σ H s->t σ H Q->wpAny (model X.prog X.w) X.A (spliced (backTo pos (starEach es X.env))) (AP X pins σ Q) X.xe s
def PS (X:Cx) (st:Stmt) (t:TS):Prop:=
 ∀ (pins:List (Addr×Obj)) (s:Shared) (σ:St) (H:Hp) (D:Yb),ZF X pins σ H s->t D σ H->wpAny (model X.prog X.w) X.A (exec st X.env) (SP X pins D) X.xe s
def XW (X:Cx) (st:List Stmt) (t:TS):Prop:=
 ∀ (pins:List (Addr×Obj)) (s:Shared) (σ:St) (H:Hp) (D:Yb),ZF X pins σ H s->t D σ H->wpAny (model X.prog X.w) X.A (execs st X.env) (SP X pins D) X.xe s
theorem Zb {α:Type} {t:Sem α} {Q Q':α->Shared->Prop} {M:Model} {A:Around} {E:Value->Shared->Prop} {s:Shared} (h:wpAny M A t Q E s) (hQ:∀ a s,Q a s->Q' a s):wpAny M A t Q' E s:=wpAny_mono h hQ fun _ _ x=>x
section
variable {X:Cx}
def Of (i:Nat):TE:=fun σ H Q=>∃ v,σ[i]? = some (some v)/\Q v H
def tC (v:V):TE:=fun _ H Q=>Q v H
theorem Ce {i:Nat} {x:Str} {pos:Pos} (hN:X.N[i]? = some x) (hv:NK X.env.scope x) (hd:(x==("__debug__" : Str))=false:=by decide) (hcd:(x==("__classdict__" : Str))=false:=by decide):PE X (.Name x pos) (Of i):=by
 intro pins s σ H Q I h
 obtain ⟨v,e,h⟩:=h
 obtain ⟨m,hn,hl⟩:=I.loc
 obtain ⟨u,r,l⟩:=hl i x v hN e hv
 have fin:EP X pins σ Q u s:=⟨v,H,I,r,h⟩
 rcases l with ⟨hk,hm⟩ | ⟨hk,c,hc,hcell⟩
 ·exact wpAny_Name (wpAny_loadName_local I.ok.kind hk hn hm fin) hd
 ·rcases hk with hk | hk
  ·exact wpAny_Name (wpAny_loadName_cell I.ok.kind hk hc hcell fin) hd
  ·exact wpAny_Name (wpAny_loadName_free I.ok.kind hk hc hcell fin hcd) hd
theorem ZO {i j pos}:PE X (.Constant (.int i) j pos) (tC (.int i)):=fun _ _ _ H _ I h=>wpAny_Constant_int ⟨.int i,H,I.tok _,⟨_,rfl⟩,h⟩
theorem Y8 {b j pos}:PE X (.Constant (.bool b) j pos) (tC (.bl b)):=fun _ _ _ H _ I h=>Constant_bool ⟨.bl b,H,I,rfl,h⟩
theorem U5 {j pos}:PE X (.Constant .none j pos) (tC .non):=fun _ _ _ H _ I h=>Constant_none ⟨.non,H,I,rfl,h⟩
theorem Y3 {x j pos}:PE X (.Constant (.str x) j pos) (tC (.str x)):=fun _ _ _ H _ I h=>Calls.Constant_str ⟨.str x,H,I.tok _,⟨_,rfl⟩,h⟩
def Gl (X:Cx) (x:Str):Prop:=X.env.kindOf x=some .globalImplicit
theorem UA {E:Value->Shared->Prop} {pins:List (Addr×Obj)} {s:Shared} {σ:St} {H:Hp} {x:Str} {u:Value} {pos:Pos} {Q:Value->Shared->Prop} (I:ZF X pins σ H s) (hg:Gl X x) (hm:X.mg x=some u) (h:Q u s)
  (hd:(x==("__debug__" : Str))=false:=by decide):wpAny (model X.prog X.w) X.A (eval (.Name x pos) X.env) Q E s:=
 Calls.Name_function_global I.ok.kind hg (Calls.loadGlobal_global (by rw [I.ok.glob];exact I.mod.glob.keeps I.bk) hm h) hd
theorem Ud {E:Value->Shared->Prop} {pins:List (Addr×Obj)} {s:Shared} {σ:St} {H:Hp} {x:Str} {u:Value} {pos:Pos} {Q:Value->Shared->Prop} (I:ZF X pins σ H s) (hg:Gl X x) (hm:X.mg x=none) (hv:bootBuiltins x=some u) (h:Q u s)
  (hn:x ≠ "__name__" :=by decide) (hd:(x==("__debug__" : Str))=false:=by decide):wpAny (model X.prog X.w) X.A (eval (.Name x pos) X.env) Q E s:=by
 obtain ⟨mb,h1,h2⟩:=I.mod.blt
 exact Calls.Name_function_global I.ok.kind hg (Calls.loadGlobal_builtin (by rw [I.ok.glob];exact I.mod.glob.keeps I.bk) hm (by rw [I.ok.blt];exact h1.keeps I.bk) ((h2 x hn).trans hv) h) hd
theorem Xa {x:Str} {v:V} {u:Value} {pos:Pos} (hg:Gl X x) (hm:X.mg x=some u) (r:ZQ v u) (hd:(x==("__debug__" : Str))=false:=by decide):PE X (.Name x pos) (tC v):=
 fun _ _ _ H _ I h=>UA I hg hm ⟨v,H,I,r,h⟩ hd
theorem X4 {x:Str} {v:V} {u:Value} {pos:Pos} (hg:Gl X x) (hm:X.mg x=none) (hv:bootBuiltins x=some u) (r:ZQ v u) (hn:x ≠ "__name__" :=by decide) (hd:(x==("__debug__" : Str))=false:=by decide):PE X (.Name x pos) (tC v):=
 fun _ _ _ H _ I h=>Ud I hg hm hv ⟨v,H,I,r,h⟩ hn hd
variable {a b:Expr} {ta tb:TE} {pos:Pos}
def PC (X:Cx) (op:CmpOp) (a b:Expr) (t:TE):Prop:=
 ∀ (pins:List (Addr×Obj)) (s:Shared) (σ:St) (H:Hp) (Q:VK),ZF X pins σ H s->t σ H Q ->
  wpAny (model X.prog X.w) X.A (eval a X.env) (fun v s₁=>wpAny (model X.prog X.w) X.A (eval b X.env) (fun u s₂=>wpAny (model X.prog X.w) X.A (compareOp op v u) (EP X pins σ Q) X.xe s₂) X.xe s₁) X.xe s
theorem CO (b:Expr) {op:CmpOp} (h:op≠.In) (h2:op≠.NotIn):behindInMarks op b=false:=by
 have e1:(op==CmpOp.In)=false:=by cases op <;> first | rfl | exact absurd rfl h
 have e2:(op==CmpOp.NotIn)=false:=by cases op <;> first | rfl | exact absurd rfl h2
 cases b <;> simp [behindInMarks,e1,e2]
def D6 (ta:TE):TE:=fun σ H Q=>ta σ H fun x H1=>Q (.bl (!decide (x=.non))) H1
theorem ZQ.none_iff {x:V} {v:Value} (r:ZQ x v):(v==Value.none)=decide (x=.non):=by
 cases x with
 | non=>cases r;rfl
 | bl _=>cases r;rfl
 | int _=>obtain ⟨t,rfl⟩:=r;rfl
 | str _=>obtain ⟨t,rfl⟩:=r;rfl
 | byt _=>obtain ⟨t,rfl⟩:=r;rfl
 | flt _=>obtain ⟨t,rfl⟩:=r;rfl
 | ref _=>cases r;rfl
 | ty _=>cases r;rfl
theorem P9 {j pos'} (ha:PE X a ta):PC X .IsNot a (.Constant .none j pos') (D6 ta):=by
 intro pins s σ H Q I h
 refine Zb (ha pins s σ H _ I h) fun v s1 ⟨x,H1,I1,r1,q1⟩=>?_
 exact Constant_none (isnot_none_gen ⟨.bl _,H1,I1,by rw [r1.none_iff];rfl,q1⟩)
def tB (t:TE):TT:=fun σ H Q=>t σ H fun x H1=>∃ c,x=.bl c/\Q c H1
theorem UY {op:CmpOp} {t:TE} (h:PC X op a b t) (h1:behindInMarks op b=false:=by first | exact CO _ (by decide) (by decide) | rfl):PT X (.Compare a [op] [b] pos) (tB t):=by
 intro pins s σ H Q I hw
 refine wpAny_isTrue_Compare1 (Zb (h pins s σ H _ I hw) fun v s1 h1=>Zb h1 fun u s2 h2=>Zb h2 fun c s3 ⟨x,H1,I1,r1,q1⟩=>?_) h1
 obtain ⟨d,rfl,q⟩:=q1
 cases r1
 exact wpAny_truthy_bool ⟨H1,I1,q⟩
theorem Yu {e:Expr} {t:TE} (h:PE X e t) (he:∀ whole,isTrue e X.env whole=(do let v<-whole;standAt e.pos;holding [v] (truthy v)):=by intro _;rfl):PT X e (tB t):=by
 intro pins s σ H Q I hw
 refine isTrue_plain (Zb (h pins s σ H _ I hw) fun v s1 ⟨x,H1,I1,r1,q1⟩=>?_) (he _)
 obtain ⟨d,rfl,q⟩:=q1
 cases r1
 exact wpAny_truthy_bool ⟨H1,I1,q⟩
variable {tA tB':TT} {rest:List Expr}
def C5 (t u:TT):TT:=fun σ H Q=>t σ H fun c H1=>if c=true then u σ H1 Q else Q false H1
def Hj (t u:TT):TT:=fun σ H Q=>t σ H fun c H1=>if c=true then Q true H1 else u σ H1 Q
def AM (t:TT):TT:=fun σ H Q=>t σ H fun c H1=>Q (!c) H1
theorem O1 (ha:PT X a tA):PW X (.BoolOp .And [a] pos) tA:=by
 intro wh pins s σ H Q I h
 refine isTrue_and (Zb (ha pins s σ H Q I h) fun c s1 e=>?_)
 cases c with
 | true=>exact isTrue_and_nil e
 | false=>exact e
theorem V5 (ha:PT X a tA):PW X (.BoolOp .Or [a] pos) tA:=by
 intro wh pins s σ H Q I h
 refine isTrue_or (Zb (ha pins s σ H Q I h) fun c s1 e=>?_)
 cases c with
 | false=>exact isTrue_or_nil e
 | true=>exact e
theorem OF (ha:PT X a tA) (hb:PW X (.BoolOp .And (b :: rest) pos) tB'):PW X (.BoolOp .And (a :: b :: rest) pos) (C5 tA tB'):=by
 intro wh pins s σ H Q I h
 refine isTrue_and (Zb (ha pins s σ H _ I h) fun c s1 ⟨H1,I1,q1⟩=>?_)
 cases c with
 | true=>exact hb wh pins s1 σ H1 Q I1 q1
 | false=>exact ⟨H1,I1,q1⟩
theorem Vy (ha:PT X a tA) (hb:PW X (.BoolOp .Or (b :: rest) pos) tB'):PW X (.BoolOp .Or (a :: b :: rest) pos) (Hj tA tB'):=by
 intro wh pins s σ H Q I h
 refine isTrue_or (Zb (ha pins s σ H _ I h) fun c s1 ⟨H1,I1,q1⟩=>?_)
 cases c with
 | true=>exact ⟨H1,I1,q1⟩
 | false=>exact hb wh pins s1 σ H1 Q I1 q1
theorem WW (ha:PT X a tA):PT X (.UnaryOp .Not a pos) (AM tA):=by
 intro pins s σ H Q I h
 exact isTrue_not (ha pins s σ H (fun c H1=>Q (!c) H1) I h)
def F1 (ta tb:TE):TE:=fun σ H Q=>ta σ H fun x H1=>∃ c,x=.bl c/\if c=true then tb σ H1 Q else Q (.bl false) H1
def Ev (ta:TE):TE:=fun σ H Q=>ta σ H fun x H1=>∃ c,x=.bl c/\Q (.bl (!c)) H1
theorem UD {op} {t:TE} (h:PE X a t):PE X (.BoolOp op [a] pos) t:=fun pins s σ H Q I hw=>BoolOp_one (h pins s σ H Q I hw)
theorem VY (ha:PE X a ta) (hb:PE X (.BoolOp .And (b :: rest) pos) tb):PE X (.BoolOp .And (a :: b :: rest) pos) (F1 ta tb):=by
 intro pins s σ H Q I h
 refine BoolOp_and (Zb (ha pins s σ H _ I h) fun v s1 ⟨x,H1,I1,r1,q1⟩=>?_)
 obtain ⟨c,rfl,q1⟩:=q1
 cases r1
 refine wpAny_truthy_bool ?_
 cases c with
 | true=>exact hb pins s1 σ H1 Q I1 q1
 | false=>exact ⟨.bl false,H1,I1,rfl,q1⟩
theorem JY (ha:PE X a ta):PE X (.UnaryOp .Not a pos) (Ev ta):=by
 intro pins s σ H Q I h
 refine UnaryOp_ (Zb (ha pins s σ H _ I h) fun v s1 ⟨x,H1,I1,r1,q1⟩=>?_)
 obtain ⟨c,rfl,q1⟩:=q1
 cases r1
 exact not_of (wpAny_truthy_bool ⟨.bl (!c),H1,I1,rfl,q1⟩)
end
def ZM (K:zAA) (H:Hp) (a:Addr) (xs:List V):Prop:=
 Rd H a (.lst xs) \/
  ∃ (o:Obj) (its:Array Value) (n:Nat),K.lookup a=some o/\o.cls=.type "list" /\ o.dict=none/\o.data=.seq its n/\its.size<=sizeLine/\ZN xs its.toList
def Zj (K:zAA) (H:Hp) (a:Addr) (xs:List V):Prop:=
 Rd H a (.tup xs) \/
  ∃ (o:Obj) (its:Array Value) (n:Nat),K.lookup a=some o/\o.cls=.type "tuple" /\ o.data=.seq its n/\its.size<=sizeLine/\ZN xs its.toList
def Em:Value->Option V
 | .none=>some .non
 | .bool b=>some (.bl b)
 | .int i _=>some (.int i)
 | .str x _=>some (.str x)
 | .bytes b _=>some (.byt b)
 | .float b _=>some (.flt b)
 | .ref a=>some (.ref a)
 | .type n=>some (.ty n)
 | _=>none
theorem ZQ.abs {x:V} {u:Value} (r:ZQ x u):Em u=some x:=by
 cases x with
 | non=>cases r;rfl
 | bl _=>cases r;rfl
 | int _=>obtain ⟨t,rfl⟩:=r;rfl
 | str _=>obtain ⟨t,rfl⟩:=r;rfl
 | byt _=>obtain ⟨t,rfl⟩:=r;rfl
 | flt _=>obtain ⟨t,rfl⟩:=r;rfl
 | ref _=>cases r;rfl
 | ty _=>cases r;rfl
theorem ZQ.inj {x y:V} {u:Value} (r:ZQ x u) (q:ZQ y u):x=y:=zAh.inj (r.abs.symm.trans q.abs)
theorem ZN.inj:∀ {xs ys:List V} {us:List Value},ZN xs us->ZN ys us->xs=ys
 | _,_,_,.nil,.nil=>rfl
 | _,_,_,.cons r t,.cons r' t'=>by rw [r.inj r',ZN.inj t t']
section
variable {X:Cx} {pins:List (Addr×Obj)} {σ:St} {H:Hp} {s:Shared} {a:Addr} {xs ys:List V}
theorem ZM.of {K:zAA} (h:H a=some (.lst xs)):ZM K H a xs:=.inl (.inl h)
theorem Zj.of {K:zAA} (h:H a=some (.tup xs)):Zj K H a xs:=.inl (.inl h)
theorem ZF.list (I:ZF X pins σ H s) (h:ZM X.K H a xs):∃ its:List Value,ZN xs its/\PlainL s.heap a its.toArray/\xs.length<=sizeLine:=by
 rcases h with h | ⟨o,its,n,hk,hc,hd,hs,hz,r⟩
 ·obtain ⟨z,its,n,r,e⟩:=h.ok I.hok
  exact ⟨its,r,⟨_,n,e,rfl,rfl,rfl⟩,z⟩
 ·refine ⟨its.toList,r,⟨o,n,I.kIn a o hk,hc,hd,by simpa using hs⟩,?_⟩
  have e:=r.length
  simp only [zB1] at e
  omega
theorem ZF.tuple (I:ZF X pins σ H s) (h:Zj X.K H a xs):∃ its:List Value,ZN xs its/\IsTup s.heap a its.toArray/\xs.length<=sizeLine:=by
 rcases h with h | ⟨o,its,n,hk,hc,hs,hz,r⟩
 ·obtain ⟨z,its,r,p⟩:=h.ok I.hok
  exact ⟨its,r,p,z⟩
 ·refine ⟨its.toList,r,⟨o,I.kIn a o hk,hc,n,by simpa using hs⟩,?_⟩
  have e:=r.length
  simp only [zB1] at e
  omega
theorem ZF.list_inj (I:ZF X pins σ H s) (h:ZM X.K H a xs) (h':ZM X.K H a ys):xs=ys:=by
 obtain ⟨its,r,⟨o,n,e,_,_,d⟩,_⟩:=I.list h
 obtain ⟨its',r',⟨o',n',e',_,_,d'⟩,_⟩:=I.list h'
 rw [e] at e';cases e'
 rw [d] at d'
 injection d' with d1 _
 have:its=its':=by simpa using congrArg zDH d1
 subst this
 exact r.inj r'
theorem ZF.tuple_inj (I:ZF X pins σ H s) (h:Zj X.K H a xs) (h':Zj X.K H a ys):xs=ys:=by
 obtain ⟨its,r,⟨o,e,_,n,d⟩,_⟩:=I.tuple h
 obtain ⟨its',r',⟨o',e',_,n',d'⟩,_⟩:=I.tuple h'
 rw [e] at e';cases e'
 rw [d] at d'
 injection d' with d1 _
 have:its=its':=by simpa using congrArg zDH d1
 subst this
 exact r.inj r'
end
abbrev Cx.wish (X:Cx) (E:Value->Shared->Prop):Cx:={ X with xe:=E }
abbrev Cx.nox (X:Cx):Cx:=X.wish fun _ _=>False
theorem Cx.Ok.wish {X:Cx} (ok:X.Ok) (E:Value->Shared->Prop):(X.wish E).Ok:=
 ⟨ok.mod,ok.kind,ok.glob,ok.blt,ok.above,ok.inj,ok.has,ok.cab,ok.hd,ok.frames,ok.stk,ok.exf,ok.bs,ok.bsz,ok.noex,ok.exfs,ok.funs,ok.frf⟩
theorem Cx.Ok.unwish {X:Cx} {E:Value->Shared->Prop} (ok:(X.wish E).Ok):X.Ok:=
 ⟨ok.mod,ok.kind,ok.glob,ok.blt,ok.above,ok.inj,ok.has,ok.cab,ok.hd,ok.frames,ok.stk,ok.exf,ok.bs,ok.bsz,ok.noex,ok.exfs,ok.funs,ok.frf⟩
section
variable {X:Cx} {pins:List (Addr×Obj)} {σ:St} {H:Hp} {s:Shared} {E:Value->Shared->Prop}
theorem ZF.wish (I:ZF X pins σ H s) (E:Value->Shared->Prop):ZF (X.wish E) pins σ H s:=⟨I.ok.wish E,I.os,I.bare,I.base,I.loc,I.cell,I.free,I.freeC,I.pin,I.hok,I.len⟩
theorem ZF.unwish (I:ZF (X.wish E) pins σ H s):ZF X pins σ H s:=⟨I.ok.unwish,I.os,I.bare,I.base,I.loc,I.cell,I.free,I.freeC,I.pin,I.hok,I.len⟩
theorem SP.unwish {D:Yb} {f:Flow} {s':Shared} (h:SP (X.wish E) pins D f s'):SP X pins D f s':=by
 cases f with
 | next=>obtain ⟨σ',H',I,q⟩:=h;exact ⟨σ',H',I.unwish,q⟩
 | brk=>obtain ⟨σ',H',I,q⟩:=h;exact ⟨σ',H',I.unwish,q⟩
 | cont=>obtain ⟨σ',H',I,q⟩:=h;exact ⟨σ',H',I.unwish,q⟩
 | ret u=>obtain ⟨v,σ',H',I,r,q⟩:=h;exact ⟨v,σ',H',I.unwish,r,q⟩
theorem XW.nox {st:List Stmt} {t:TS} (h:XW X.nox st t):XW X st t:=fun pins s σ H D I hw=>
 wpAny_mono (h pins s σ H D (I.wish _) hw) (fun _ _ q=>q.unwish) fun _ _ z=>False.elim z
end
section
variable {X:Cx} {st:Stmt} {rest:List Stmt} {t u:TS} {e:Expr} {te:TE} {pos:Pos}
def Hx:TS:=fun D σ H=>D.nx σ H
def BB (t u:TS):TS:=fun D σ H=>t { D with nx:=u D } σ H
theorem Z8:XW X [] Hx:=fun _ _ σ H _ I h=>wpAny_execs_nil ⟨σ,H,I,h⟩
theorem ZS (h1:PS X st t) (h2:XW X rest u):XW X (st :: rest) (BB t u):=by
 intro pins s σ H D I h
 refine wpAny_execs_cons (Zb (h1 pins s σ H { D with nx:=u D } I h) fun f s1 q=>?_)
 cases f with
 | next=>
  obtain ⟨σ',H',I',q⟩:=q
  exact h2 pins s1 σ' H' D I' q
 | ret v=>exact q
 | brk=>exact q
 | cont=>exact q
theorem ZW (h1:PS X st t):XW X [st] t:=by
 intro pins s σ H D I h
 refine wpAny_execs_cons (Zb (h1 pins s σ H D I h) fun f s1 q=>?_)
 cases f with
 | next=>exact wpAny_execs_nil q
 | ret v=>exact q
 | brk=>exact q
 | cont=>exact q
theorem ZF.quiet {pins:List (Addr×Obj)} {σ:St} {H:Hp} {s:Shared} (I:ZF X pins σ H s):interactive X.env=false:=by simp [interactive,I.ok.kind]
def FW (te:TE):TS:=fun D σ H=>te σ H fun _ H1=>D.nx σ H1
theorem XX (he:PE X e te) (hs:swapsWith e none pos.line X.env=pure false:=by rfl):PS X (.Expr e pos) (FW te):=by
 intro pins s σ H D I h
 exact wpAny_Expr_any (Zb (he pins s σ H _ I h) fun v s1 ⟨x,H1,I1,r1,q1⟩=>⟨σ,H1,I1,q1⟩) I.quiet hs
def Kz (te:TE):TS:=fun D σ H=>te σ H D.rt
theorem Zi (he:PE X e te):PS X (.Return (some e) pos) (Kz te):=by
 intro pins s σ H D I h
 exact wpAny_Return_some (Zb (he pins s σ H _ I h) fun v s1 ⟨x,H1,I1,r1,q1⟩=>⟨x,σ,H1,I1,r1,q1⟩)
def C6 (c:TT) (t u:TS):TS:=fun D σ H=>c σ H fun b H1=>if b=true then t D σ H1 else u D σ H1
theorem Z5 {c:Expr} {a b:List Stmt} {tc:TT} (hc:PT X c tc) (ha:XW X a t) (hb:XW X b u):PS X (.If c a b pos) (C6 tc t u):=by
 intro pins s σ H D I h
 refine wpAny_If (Zb (hc pins s σ H _ I h) fun d s1 ⟨H1,I1,q1⟩=>?_)
 cases d with
 | true=>exact ha pins s1 σ H1 D I1 q1
 | false=>exact hb pins s1 σ H1 D I1 q1
def GR:TS:=fun _ _ _=>False
theorem UF {sts:List Stmt}:XW X sts GR:=fun _ _ _ _ _ _ h=>h.elim
end
abbrev TG:=V->St->Hp->(St->Hp->Prop)->Prop
abbrev UX:=List V->St->Hp->(St->Hp->Prop)->Prop
def PG (X:Cx) (target:Expr) (t:TG):Prop:=
 ∀ (pins:List (Addr×Obj)) (s:Shared) (σ:St) (H:Hp) (v:V) (u:Value) (Q:St->Hp->Prop),ZF X pins σ H s->ZQ v u->t v σ H Q ->
  wpAny (model X.prog X.w) X.A (assign target X.env u) (fun _ s'=>∃ σ' H',ZF X pins σ' H' s'/\Q σ' H') X.xe s
def P7 (X:Cx) (ts:List Expr) (t:UX):Prop:=
 ∀ (pins:List (Addr×Obj)) (s:Shared) (σ:St) (H:Hp) (vs:List V) (us:List Value) (Q:St->Hp->Prop),ZF X pins σ H s->ZN vs us->t vs σ H Q ->
  wpAny (model X.prog X.w) X.A (assignInOrder ((assignEach ts X.env).map (·.2)) us) (fun _ s'=>∃ σ' H',ZF X pins σ' H' s'/\Q σ' H') X.xe s
abbrev Mw:=V->V->V->Hp->(Hp->Prop)->Prop
def JZ (X:Cx) (t:Mw):Prop:=
 ∀ (pins:List (Addr×Obj)) (s:Shared) (σ:St) (H:Hp) (o i v:V) (ov iv u:Value) (Q:Hp->Prop),ZF X pins σ H s->ZQ o ov->ZQ i iv->ZQ v u->t o i v H Q ->
  wpAny (model X.prog X.w) X.A (setItem ov iv u) (fun _ s'=>∃ H',ZF X pins σ H' s'/\Q H') X.xe s
section
variable {X:Cx} {pos:Pos}
def Uy (i:Nat):TG:=fun v σ H Q=>Q (σ.set i (some v)) H
theorem Y6 {i:Nat} {x:Str} (hN:X.N.Nodup) (hi:X.N[i]? = some x) (hx:P0 X.env.scope x) (hf:X.fn x=true\/X.env.scope.names.lookup x=some .local:=by first | exact .inl rfl | exact .inr rfl | assumption):PG X (.Name x pos) (Uy i):=by
 intro pins s σ H v u Q I r h
 exact wpAny_assign_Name (Nm I hN hi hx r (fun s' I'=>⟨_,H,I',h⟩) hf)
def C9:UX:=fun vs σ H Q=>vs=[]/\Q σ H
def HN (t:TG) (u:UX):UX:=fun vs σ H Q=>∃ v r,vs=v :: r/\t v σ H fun σ' H'=>u r σ' H' Q
theorem Qa:P7 X [] C9:=by
 intro pins s σ H vs us Q I r h
 obtain ⟨e,h⟩:=h
 subst e
 cases r
 exact assignInOrder_nil ⟨σ,H,I,h⟩
theorem VR {e:Expr} {es:List Expr} {t:TG} {u:UX} (h1:PG X e t) (h2:P7 X es u)
  (hs:(assignEach (e :: es) X.env).map (·.2)=assign e X.env :: (assignEach es X.env).map (·.2):=by rfl):P7 X (e :: es) (HN t u):=by
 intro pins s σ H vs us Q I r h
 obtain ⟨v,vr,e1,h⟩:=h
 subst e1
 cases r with
 | cons r rr=>
  rw [hs]
  refine assignInOrder_cons (Zb (h1 pins s σ H _ _ _ I r h) fun _ s1 ⟨σ1,H1,I1,q1⟩=>?_)
  exact h2 pins s1 σ1 H1 _ _ Q I1 rr q1
def Go (K:zAA) (n:Nat) (t:UX):TG:=fun v σ H Q=>∃ a xs,v=.ref a/\Zj K H a xs/\xs.length=n/\t xs σ H Q
theorem QD {es:List Expr} {k:Nat} {t:UX} {n:Nat} (hc:X.calm=true) (h:P7 X es t)
  (hn:(assignEach es X.env).length=n:=by rfl) (hst:(assignEach es X.env).findIdx? (·.1)=none:=by rfl):PG X (.Tuple es k pos) (Go X.K n t):=by
 intro pins s σ H v u Q I r hw
 obtain ⟨a,xs,e1,hq,hl,hw⟩:=hw
 subst e1
 cases r
 obtain ⟨its,rv,ht,hz⟩:=I.tuple hq
 refine assign_Tuple_tuple (I.ok.hd hc) ht (by simp [hn,<-hl,rv.length]) hst fun h' hx=>?_
 have I1:ZF X pins σ H { s with heap:=h' }:=I.kept (t':=s.toks) fun b o e=>hx b o (zAk (zAS e)) e
 exact h pins _ σ H xs _ Q I1 (by simpa using rv) hw
def Ch (to ti:TE) (t:Mw):TG:=fun v σ H Q=>to σ H fun o H1=>ti σ H1 fun i H2=>t o i v H2 fun H3=>Q σ H3
theorem Nb {o i:Expr} {to ti:TE} {t:Mw} (ho:PE X o to) (hi:PE X i ti) (hs:JZ X t)
  (ha:∀ v,assign (.Subscript o i pos) X.env v=(do
   let ov<-holding [v] (eval o X.env)
   let iv<-holding [v,ov] (eval i X.env)
   standAt pos
   holding [v,ov,iv] (setItem ov iv v)
   release [v,ov,iv] []):=by intro _;rfl):PG X (.Subscript o i pos) (Ch to ti t):=by
 intro pins s σ H v u Q I r h
 rw [ha]
 refine wpAny_bind (wpAny_holding (Zb (ho pins s σ H _ I h) fun ov s1 ⟨x,H1,I1,r1,q1⟩=>?_))
 refine wpAny_bind (wpAny_holding (Zb (hi pins s1 σ H1 _ I1 q1) fun iv s2 ⟨y,H2,I2,r2,q2⟩=>?_))
 refine wpAny_bind (wpAny_standAt (wpAny_bind (wpAny_holding (Zb (hs pins s2 σ H2 x y v ov iv u _ I2 r1 r2 r q2) fun _ s3 ⟨H3,I3,q3⟩=>?_))))
 exact wpAny_release ⟨σ,H3,I3,q3⟩
def LV (te:TE) (g:TG):TS:=fun D σ H=>te σ H fun x H1=>g x σ H1 D.nx
theorem Vw {tg e:Expr} {te:TE} {g:TG} (he:PE X e te) (hg:PG X tg g) (hs:swapsWithSole [tg] e pos.line X.env=pure false:=by rfl) (hw:swappedStores [tg] e X.env=pure none:=by rfl)
  (h1:(assignEach [tg] X.env).map (·.2)=[assign tg X.env]:=by rfl):PS X (.Assign [tg] e pos) (LV te g):=by
 intro pins s σ H D I h
 refine wpAny_Assign_stores (Zb (he pins s σ H _ I h) fun v s1 ⟨x,H1,I1,r1,q1⟩=>?_) hs hw
 rw [h1]
 exact Zb (hg pins s1 σ H1 x v _ I1 r1 q1) fun _ s2 q=>q
theorem Zm {i:Nat} {x:Str} {e:Expr} {te:TE} {pos':Pos} (hN:X.N.Nodup) (hi:X.N[i]? = some x) (hx:P0 X.env.scope x) (he:PE X e te) (hs:swapsWith e (some (.Name x pos')) pos.line X.env=pure false:=by rfl) (hf:X.fn x=true\/X.env.scope.names.lookup x=some .local:=by first | exact .inl rfl | exact .inr rfl | assumption) :
  PS X (.Assign [.Name x pos'] e pos) (LV te (Uy i)):=by
 intro pins s σ H D I h
 refine wpAny_Assign_Name (Zb (he pins s σ H _ I h) fun v s1 ⟨y,H1,I1,r1,q1⟩=>?_) hs
 exact Nm I1 hN hi hx r1 (fun s2 I2=>⟨_,H1,I2,q1⟩) hf
end
section
variable {X:Cx} {pos:Pos}
def Bl (c:TT) (tb:TS):TS:=fun D σ H=>∃ W:Nat->St->Hp->Prop,(∃ m,W m σ H)/\∀ m σ H,W m σ H ->
 c σ H fun b H1=>if b=true then ∃ N:St->Hp->Prop,(∀ σ' H',N σ' H'->∃ m',m'<m/\W m' σ' H')/\tb { D with nx:=N,ct:=N,bk:=D.nx } σ H1 else D.nx σ H1
theorem UR {c:Expr} {body:List Stmt} {tc:TT} {tb:TS} (hp:PassesOwn (model X.prog X.w) X.A X.env X.xe) (hc:PT X c tc) (hb:XW X body tb):PS X (.While c body [] pos) (Bl tc tb):=by
 intro pins s σ H D I h
 obtain ⟨W,⟨m0,w0⟩,turn⟩:=h
 refine wpAny_While (codeAny_whileLoop (fun n s'=>∃ σ' H',ZF X pins σ' H' s'/\W n σ' H') ?_ m0 ⟨σ,H,I,w0⟩)
 rintro n s1 ⟨σ1,H1,I1,w1⟩
 refine wpAny_passesOwn hp (Zb (hc pins s1 σ1 H1 _ I1 (turn n σ1 H1 w1)) fun b s2 ⟨H2,I2,q2⟩=>?_)
 cases b with
 | true=>
  obtain ⟨N,hN,q2⟩:=q2
  rw [if_pos rfl]
  refine wpAny_passesOwn hp (Zb (hb pins s2 σ1 H2 _ I2 q2) fun f s3 q3=>?_)
  cases f with
  | next=>
   obtain ⟨σ3,H3,I3,n3⟩:=q3
   obtain ⟨m',hm,w3⟩:=hN σ3 H3 n3
   exact ⟨m',hm,σ3,H3,I3,w3⟩
  | cont=>
   obtain ⟨σ3,H3,I3,n3⟩:=q3
   obtain ⟨m',hm,w3⟩:=hN σ3 H3 n3
   exact ⟨m',hm,σ3,H3,I3,w3⟩
  | brk=>exact q3
  | ret v=>exact q3
 | false=>
  rw [if_neg zAF]
  exact wpAny_execs_nil ⟨σ1,H2,I2,q2⟩
end
structure It where
 go:Nat->Hp->Prop
 yld:Nat->Hp->V->Hp->Prop
 stop:Nat->Hp->Prop
def Xf (X:Cx) (pins:List (Addr×Obj)) (H:Hp) (b:Addr):Prop:=
 H b=none/\b≠X.env.locals/\b∉X.fs/\(b∈X.ex\/X.s₀.heap.objs.size<=b)/\(∀ x c,X.env.cells.lookup x=some c->c≠b)/\∀ p∈X.pn++pins,p.1≠b
theorem ZF.fpOk {X:Cx} {pins:List (Addr×Obj)} {σ:St} {H H':Hp} {s:Shared} {b:Addr} (I:ZF X pins σ H s) (hb:s.heap.objs.size<=b) (hn:H' b=none):Xf X pins H' b:=by
 refine ⟨hn,zCT (zAb I.lt hb),I.nofs hb,.inr (zA7 I.sz hb),fun x c e z=>?_,fun p hp z=>?_⟩
 ·obtain ⟨v,q⟩:=I.cell x c e
  exact absurd (zAb q.lt (by rw [z];exact hb)) (zBU _)
 ·exact absurd (zAb (zAS (I.pin p hp).1) (by rw [z];exact hb)) (zBU _)
structure Wf (P:Program) (w:World) (K:zAA) (tg:Expr) (J:It) (fp:List Addr) (it:Addr) (tn:Nat->Heap->Prop):Prop where
 mem:it∈fp
 obj:∀ i h,tn i h->∀ b∈fp,∃ o,h.get? b=some o/\∀ v,o.data≠.cell v
 keep:∀ i h h',tn i h->(∀ b∈fp,∀ o,h.get? b=some o->h'.get? b=some o)->tn i h'
 item:∀ (X:Cx),X.prog=P->X.w=w->X.K=K->X.calm=true->∀ (i:Nat) (pins:List (Addr×Obj)) (s:Shared) (σ:St) (H:Hp) (E:Value->Shared->Prop),ZF X pins σ H s->(∀ b∈fp,Xf X pins H b)->tn i s.heap->J.go i H ->
  wpAny (model P w) X.A (pyNext (.ref it)) (fun r s1=>∃ u,r=some u /\
   wpAny (model P w) X.A (letOwnedTupleGo tg (.ref it) u) (fun _ s2=>∃ x H',ZF X pins σ H' s2/\ZQ x u/\J.yld i H x H'/\tn (i+1) s2.heap/\∀ b∈fp,H' b=none) E s1) E s
 done:∀ (X:Cx),X.prog=P->X.w=w->X.K=K->X.calm=true->∀ (i:Nat) (pins:List (Addr×Obj)) (s:Shared) (σ:St) (H:Hp) (E:Value->Shared->Prop),ZF X pins σ H s->(∀ b∈fp,Xf X pins H b)->tn i s.heap->J.stop i H ->
  wpAny (model P w) X.A (pyNext (.ref it)) (fun r s1=>r=none/\ZF X pins σ H s1) E s
 self:∀ (A:Around) (i:Nat) (s:Shared) (Q:Value->Shared->Prop) (E:Value->Shared->Prop),tn i s.heap->Q (.ref it) s->wpAny (model P w) A (pyIter (.ref it)) Q E s
abbrev TI:=St->Hp->(It->Hp->Prop)->Prop
def KR (X:Cx) (pins:List (Addr×Obj)) (σ:St) (tg:Expr) (R:It->Hp->Prop) (itv:Value) (s2:Shared):Prop:=
 ∃ (it:Addr) (fp:List Addr) (tn:Nat->Heap->Prop) (J:It) (H':Hp),itv=.ref it/\ZF X pins σ H' s2/\Wf X.prog X.w X.K tg J fp it tn/\tn 0 s2.heap/\(∀ b∈fp,Xf X pins H' b)/\R J H'
def PI (X:Cx) (tg iter:Expr) (wi:TI):Prop:=
 ∀ (pins:List (Addr×Obj)) (s:Shared) (σ:St) (H:Hp) (R:It->Hp->Prop),ZF X pins σ H s->wi σ H R ->
  wpAny (model X.prog X.w) X.A (eval iter X.env) (fun v s1=>wpAny (model X.prog X.w) X.A (pyIter v) (KR X pins σ tg R) X.xe s1) X.xe s
theorem Qj {M:Model} {A:Around} {E:Value->Shared->Prop} {s:Shared} {tg:Expr} {it:Addr} {u:Value} {o:Obj} {n:String} {vs:Array Value} {Q:Unit->Shared->Prop} (ho:s.heap.get? it=some o) (hc:o.cls=.type n) (hd:o.data=.fields vs)
  (hn:["enumerate","zip","dict_itemiterator","dict_reverseitemiterator","odict_iterator","itertools.zip_longest","itertools.pairwise"].contains n=false) (hQ:Q () s):wpAny M A (letOwnedTupleGo tg (.ref it) u) Q E s:=by
 unfold letOwnedTupleGo
 cases tg <;> first
  | exact wpAny_pure hQ
  | (cases u <;> first
    | exact wpAny_pure hQ
    | (refine wpAny_bind (wpAny_load ho ?_);rw [hc,hd];show wpAny M A (if (["enumerate","zip","dict_itemiterator","dict_reverseitemiterator","odict_iterator","itertools.zip_longest","itertools.pairwise"].contains n&&vs[0]? == some (rawInt _))=true then _ else _) Q E s;rw [if_neg (by intro h;rw [hn,zBh] at h;cases h)];exact wpAny_pure hQ))
def QC (K:zAA) (a:Addr):It:=
 ⟨fun i H=>∃ xs x,ZM K H a xs/\xs[i]? = some x,fun i H x H'=>H'=H/\∀ xs,ZM K H a xs->xs[i]? = some x,fun i H=>∃ xs,ZM K H a xs/\xs.length<=i⟩
def IK (K:zAA) (a:Addr):It:=
 ⟨fun i H=>∃ xs x,Zj K H a xs/\xs[i]? = some x,fun i H x H'=>H'=H/\∀ xs,Zj K H a xs->xs[i]? = some x,fun i H=>∃ xs,Zj K H a xs/\xs.length<=i⟩
def US (lo:Int) (n:Nat):It:=⟨fun i _=>i<n,fun i H x H'=>H'=H/\x=.int (lo+i),fun i _=>n<=i⟩
theorem Ej {P:Program} {w:World} {K:zAA} {tg:Expr} (a it:Addr):Wf P w K tg (QC K a) [it] it (fun i h=>h.IsListIter it a i) where
 mem:=by simp
 obj:=fun i h st b hb=>by
  have e:b=it:=by simpa using hb
  subst e
  obtain ⟨o,e,c,d⟩:=st
  exact ⟨o,e,fun v z=>by rw [d] at z;cases z⟩
 keep:=fun i h h' st k=>st.at fun o e=>k it (by simp) o e
 item:=by
  intro X hP hw hK hc i pins s σ H E I hf st hg
  subst hP hw hK
  obtain ⟨xs,x,hq,hx⟩:=hg
  obtain ⟨its,rv,p,hz⟩:=I.list hq
  obtain ⟨u,hu,ru⟩:=rv.get hx
  obtain ⟨f0,f1,f2,f3,f4,f5⟩:=hf it (by simp)
  refine wpAny_pyNext_list_item st p.isList (x:=u) (by simpa using hu) fun h' st' sb=>?_
  have I1:ZF X pins σ H { s with heap:=h' }:=I.turned (t':=s.toks) (fun b o hb e=>(sb.2 b hb).trans e) f0 f1 f3 f4 f5
  obtain ⟨o,e,c,d⟩:=id st'
  exact ⟨u,rfl,Qj (s:={ s with heap:=h' }) e c d (by decide) ⟨x,H,I1,ru,⟨rfl,fun ys hy=>by rw [I.list_inj hy hq];exact hx⟩,st',fun b hb=>(hf b hb).1⟩⟩
 done:=by
  intro X hP hw hK hc i pins s σ H E I hf st hg
  subst hP hw hK
  obtain ⟨xs,hq,hx⟩:=hg
  obtain ⟨its,rv,p,hz⟩:=I.list hq
  obtain ⟨f0,f1,f2,f3,f4,f5⟩:=hf it (by simp)
  have hl:=rv.length
  exact wpAny_pyNext_list_end (I.ok.hd hc) st p.isList (by simp;omega) fun h' eb=>⟨rfl,I.turned (t':=s.toks) (fun b o hb e=>eb b o hb e) f0 f1 f3 f4 f5⟩
 self:=fun _ _ _ _ _ st h=>wpAny_pyIter_listiter st h
theorem BU {P:Program} {w:World} {K:zAA} {tg:Expr} (a it:Addr):Wf P w K tg (IK K a) [it] it (fun i h=>h.IsTupleIter it a i) where
 mem:=by simp
 obj:=fun i h st b hb=>by
  have e:b=it:=by simpa using hb
  subst e
  obtain ⟨o,e,c,d⟩:=st
  exact ⟨o,e,fun v z=>by rw [d] at z;cases z⟩
 keep:=fun i h h' st k=>st.at fun o e=>k it (by simp) o e
 item:=by
  intro X hP hw hK hc i pins s σ H E I hf st hg
  subst hP hw hK
  obtain ⟨xs,x,hq,hx⟩:=hg
  obtain ⟨its,rv,p,hz⟩:=I.tuple hq
  obtain ⟨u,hu,ru⟩:=rv.get hx
  obtain ⟨f0,f1,f2,f3,f4,f5⟩:=hf it (by simp)
  refine wpAny_pyNext_tuple_item st (show s.heap.IsTuple a its.toArray from p) (x:=u) (by simpa using hu) fun h' st' sb=>?_
  have I1:ZF X pins σ H { s with heap:=h' }:=I.turned (t':=s.toks) (fun b o hb e=>(sb.2 b hb).trans e) f0 f1 f3 f4 f5
  obtain ⟨o,e,c,d⟩:=id st'
  exact ⟨u,rfl,Qj (s:={ s with heap:=h' }) e c d (by decide) ⟨x,H,I1,ru,⟨rfl,fun ys hy=>by rw [I.tuple_inj hy hq];exact hx⟩,st',fun b hb=>(hf b hb).1⟩⟩
 done:=by
  intro X hP hw hK hc i pins s σ H E I hf st hg
  subst hP hw hK
  obtain ⟨xs,hq,hx⟩:=hg
  obtain ⟨its,rv,p,hz⟩:=I.tuple hq
  obtain ⟨f0,f1,f2,f3,f4,f5⟩:=hf it (by simp)
  have hl:=rv.length
  exact wpAny_pyNext_tuple_end (I.ok.hd hc) st (show s.heap.IsTuple a its.toArray from p) (by simp;omega) fun h' eb=>⟨rfl,I.turned (t':=s.toks) (fun b o hb e=>eb b o hb e) f0 f1 f3 f4 f5⟩
 self:=fun _ _ _ _ _ st h=>wpAny_pyIter_tupleiter st h
theorem DZ {P:Program} {w:World} {K:zAA} {tg:Expr} (it:Addr) (lo:Int) (n:Nat):Wf P w K tg (US lo n) [it] it (fun i h=>IsRangeIter h it (lo+(i:Nat) * 1) ((n:Int) - (i:Nat)) 1) where
 mem:=by simp
 obj:=fun i h st b hb=>by
  have e:b=it:=by simpa using hb
  subst e
  exact ⟨_,st,fun v z=>by
   have z':Data.fields _=Data.cell v:=z
   cases z'⟩
 keep:=fun i h h' st k=>k it (by simp) _ st
 item:=by
  intro X hP hw hK hc i pins s σ H E I hf st hg
  subst hP hw hK
  obtain ⟨f0,f1,f2,f3,f4,f5⟩:=hf it (by simp)
  have W:=Walks.range (prog:=X.prog) (w:=X.w) (I.ok.hd hc) it lo 1 n
  refine W.item i s _ _ hg st fun v h' tk hv st' kk=>?_
  obtain ⟨t,rfl⟩:=hv
  have I1:ZF X pins σ H { s with heap:=h',toks:=tk }:=I.turned (fun b o hb e=>kk b o (by simpa using hb) e) f0 f1 f3 f4 f5
  refine ⟨_,rfl,Qj (s:={ s with heap:=h',toks:=tk }) (n:= "range_iterator") st' rfl rfl (by decide) ⟨.int (lo+i),H,I1,⟨t,?_⟩,⟨rfl,rfl⟩,st',fun b hb=>(hf b hb).1⟩⟩
  rw [Int.mul_one]
 done:=by
  intro X hP hw hK hc i pins s σ H E I hf st hg
  subst hP hw hK
  obtain ⟨f0,f1,f2,f3,f4,f5⟩:=hf it (by simp)
  exact wpAny_pyNext_range_end (I.ok.hd hc) st (by have:n<=i:=hg;omega) fun h' eb=>⟨rfl,I.turned (t':=s.toks) (fun b o hb e=>eb b o hb e) f0 f1 f3 f4 f5⟩
 self:=fun _ _ _ _ _ st h=>wpAny_pyIter_rangeiter st h
section
variable {X:Cx} {tg:Expr}
def AQ (K:zAA) (tl:TE):TI:=fun σ H R=>tl σ H fun x H1=>∃ a,x=.ref a/\(∃ xs,ZM K H1 a xs)/\R (QC K a) H1
def GK (K:zAA) (tl:TE):TI:=fun σ H R=>tl σ H fun x H1=>∃ a,x=.ref a/\(∃ xs,Zj K H1 a xs)/\R (IK K a) H1
theorem WJ {l:Expr} {tl:TE} (hl:PE X l tl):PI X tg l (AQ X.K tl):=by
 intro pins s σ H R I h
 refine Zb (hl pins s σ H _ I h) fun v s1 ⟨x,H1,I1,r1,q1⟩=>?_
 obtain ⟨a,e,⟨xs,hq⟩,q⟩:=q1
 subst e
 cases r1
 obtain ⟨its,rv,p,hz⟩:=I1.list hq
 refine wpAny_pyIter_list p.isList ?_
 refine ⟨s1.heap.objs.size,[s1.heap.objs.size],_,_,H1,rfl,I1.kept (t':=s1.toks) fun b o e=>zAG _ e,Ej a _,⟨_,zAT _ rfl,rfl,rfl⟩,fun b hb=>?_,q⟩
 have e:b=s1.heap.objs.size:=by simpa using hb
 subst e
 exact I1.fpOk (zAH _) (I1.hok.fresh (zAH _))
theorem Px {l:Expr} {tl:TE} (hl:PE X l tl):PI X tg l (GK X.K tl):=by
 intro pins s σ H R I h
 refine Zb (hl pins s σ H _ I h) fun v s1 ⟨x,H1,I1,r1,q1⟩=>?_
 obtain ⟨a,e,⟨xs,hq⟩,q⟩:=q1
 subst e
 cases r1
 obtain ⟨its,rv,p,hz⟩:=I1.tuple hq
 refine wpAny_pyIter_tuple (show s1.heap.IsTuple a its.toArray from p) ?_
 refine ⟨s1.heap.objs.size,[s1.heap.objs.size],_,_,H1,rfl,I1.kept (t':=s1.toks) fun b o e=>zAG _ e,BU a _,⟨_,zAT _ rfl,rfl,rfl⟩,fun b hb=>?_,q⟩
 have e:b=s1.heap.objs.size:=by simpa using hb
 subst e
 exact I1.fpOk (zAH _) (I1.hok.fresh (zAH _))
theorem II {pins:List (Addr×Obj)} {σ:St} {H:Hp} {s:Shared} {R:It->Hp->Prop} {E:Value->Shared->Prop} {lo hi:Int} {t u v:Tok} {tk:Nat} (I:ZF X pins σ H s) (h1 : -(2 ^ 62)<=lo) (h2:lo<2 ^ 62) (h3 : -(2 ^ 62)<=hi) (h4:hi<2 ^ 62)
  (q:R (US lo (hi - lo).toNat) H):wpAny (model X.prog X.w) X.A (pyIter (.ref s.heap.objs.size)) (KR X pins σ tg R) E { s with heap:=s.heap.push { cls:=.type "range",data:=.fields #[.int lo t,.int hi u,.int 1 v] },toks:=tk }:=by
 refine wpAny_pyIter_range (IsRange.new ..) (small_one h1 h2 h3 h4) ?_
 have I1:ZF X pins σ H { s with heap:=s.heap.push { cls:=.type "range",data:=.fields #[.int lo t,.int hi u,.int 1 v] },toks:=tk }:=I.kept fun b o e=>zAG _ e
 refine ⟨(s.heap.push { cls:=.type "range",data:=.fields #[.int lo t,.int hi u,.int 1 v] }).objs.size,[(s.heap.push { cls:=.type "range",data:=.fields #[.int lo t,.int hi u,.int 1 v] }).objs.size],_,_,H,rfl,
  I1.kept (t':=tk) fun b o e=>zAG _ e,DZ _ lo (hi - lo).toNat,?_,fun b hb=>?_,q⟩
 ·have e1:lo+((0:Nat):Int) * 1=lo:=by simp
  have e2:(((hi - lo).toNat:Nat):Int) - ((0:Nat):Int)=Builtin.Range.rangeSize lo hi 1:=by rw [rangeSize_one];split <;> omega
  show IsRangeIter _ _ (lo+((0:Nat):Int) * 1) ((((hi - lo).toNat:Nat):Int) - ((0:Nat):Int)) 1
  rw [e1,e2]
  exact zAT _ rfl
 ·have e:b=(s.heap.push { cls:=.type "range",data:=.fields #[.int lo t,.int hi u,.int 1 v] }).objs.size:=by simpa using hb
  subst e
  exact I1.fpOk (zAH _) (I1.hok.fresh (zAH _))
def GV (ta:TA):TI:=fun σ H R=>ta σ H fun vs H1=>∃ j:Int,vs=[.int j] /\ -(2 ^ 62)<=j/\j<2 ^ 62/\R (US 0 j.toNat) H1
def ED (ta:TA):TI:=fun σ H R=>ta σ H fun vs H1=>∃ i j:Int,vs=[.int i,.int j]/\(-(2 ^ 62)<=i/\i<2 ^ 62 /\ -(2 ^ 62)<=j/\j<2 ^ 62)/\R (US i (j - i).toNat) H1
theorem V2 {a:Expr} {ta:TA} {p pos:Pos} (hg:Gl X "range") (hm:X.mg "range" = none) (ha:PA X [a] ta) (hs:starEach [a] X.env=[(false,eval a X.env)]:=by rfl):PI X tg (.Call (.Name "range" p) [a] [] pos) (GV ta):=by
 intro pins s σ H R I h
 refine Call_ (Ud I hg hm boot_range (PyProof.Rows.callWith_type1 (Zb (ha pos pins s σ H _ I h) fun us s1 ⟨vs,H1,I1,r1,q1⟩=>?_) hs rfl))
 obtain ⟨j,e,q1,q2,q⟩:=q1
 subst e
 cases r1 with
 | cons r rr=>
  cases rr
  obtain ⟨t,rfl⟩:=r
  exact call_range_1 (II I1 (by omega) (by omega) q1 q2 (by simpa using q))
theorem Mb {a b:Expr} {ta:TA} {p pos:Pos} (hg:Gl X "range") (hm:X.mg "range" = none) (ha:PA X [a,b] ta) (hs:starEach [a,b] X.env=[(false,eval a X.env),(false,eval b X.env)]:=by rfl) (hs2:starEach [b] X.env=[(false,eval b X.env)]:=by rfl) :
  PI X tg (.Call (.Name "range" p) [a,b] [] pos) (ED ta):=by
 intro pins s σ H R I h
 refine Call_ (Ud I hg hm boot_range (PyProof.Rows.callWith_type1 (Zb (ha pos pins s σ H _ I h) fun us s1 ⟨vs,H1,I1,r1,q1⟩=>?_) (by rw [hs,hs2]) (by rw [hs2];rfl)))
 obtain ⟨i,j,e,⟨q1,q2,q3,q4⟩,q⟩:=q1
 subst e
 cases r1 with
 | cons r rr=>
  cases rr with
  | cons r' rr=>
   cases rr
   obtain ⟨t,rfl⟩:=r
   obtain ⟨t',rfl⟩:=r'
   exact call_range_2 (II I1 q1 q2 q3 q4 q)
def Bx (wi:TI) (g:TG) (tb:TS):TS:=fun D σ H=>wi σ H fun J H1=>∃ W:Nat->Nat->St->Hp->Prop,(∃ m,W 0 m σ H1)/\∀ i m σ H,W i m σ H ->
 (J.stop i H/\D.nx σ H)\/(J.go i H/\∃ N:St->Hp->Prop,(∀ σ' H',N σ' H'->∃ m',m'<m/\W (i+1) m' σ' H')/\∀ x H',J.yld i H x H'->g x σ H' fun σ2 H2=>tb { D with nx:=N,ct:=N,bk:=D.nx } σ2 H2)
def Qf (fp:List Addr) (h:Heap):List (Addr×Obj):=fp.filterMap fun b=>(h.get? b).map fun o=>(b,o)
theorem Pg {fp:List Addr} {h:Heap} {b:Addr} {o:Obj} (hb:b∈fp) (e:h.get? b=some o):(b,o)∈Qf fp h:=zB7.mpr ⟨b,hb,by rw [e];rfl⟩
theorem GW {fp:List Addr} {h:Heap} {p:Addr×Obj} (hp:p∈Qf fp h):p.1∈fp/\h.get? p.1=some p.2:=by
 obtain ⟨b,hb,e⟩:=zB7.mp hp
 cases q:h.get? b with
 | none=>rw [q] at e;cases e
 | some o=>
  rw [q] at e
  have e':(b,o)=p:=zAh.inj e
  subst e'
  exact ⟨hb,q⟩
theorem ZF.pinned {pins:List (Addr×Obj)} {σ:St} {H:Hp} {s:Shared} {fp:List Addr} (I:ZF X pins σ H s) (hf:∀ b∈fp,Xf X pins H b) (ho:∀ b∈fp,∃ o,s.heap.get? b=some o/\∀ v,o.data≠.cell v):ZF X (pins++Qf fp s.heap) σ H s:=
 I.pins_of fun p hp=>(zAg.mp hp).elim (fun z=>I.pin p (zAa _ z)) fun z=>by
  obtain ⟨hb,e⟩:=GW z
  obtain ⟨f0,f1,f2,_⟩:=hf p.1 hb
  obtain ⟨o,e',d⟩:=ho p.1 hb
  rw [e] at e';cases e'
  exact ⟨e,f0,f1,f2,d⟩
theorem ZF.unpinned {pins pl:List (Addr×Obj)} {σ:St} {H:Hp} {s:Shared} (I:ZF X (pins++pl) σ H s):ZF X pins σ H s:=I.pins_of fun p hp=>I.pin p (zAa _ (zA3 _ hp))
theorem VJ {iter:Expr} {body:List Stmt} {wi:TI} {g:TG} {tb:TS} {pos:Pos} (hp:PassesOwn (model X.prog X.w) X.A X.env X.xe) (hc:X.calm=true) (hi:PI X tg iter wi) (hg:PG X tg g) (hb:XW X body tb)
  (hs:∀ x,foldedSetIterable iter X.env x=pure x:=by intro _;rfl):PS X (.For tg iter body [] pos) (Bx wi g tb):=by
 intro pins s σ H D I h
 refine wpAny_For (Zb (hi pins s σ H _ I h) fun v s1 h1=>Zb h1 fun itv s2 h2=>?_) hs
 obtain ⟨it,fp,tn,J,H2,e,I2,T,st2,f2,W,⟨m0,w0⟩,turn⟩:=h2
 subst e
 have stat:∀ {H':Hp},(∀ b∈fp,H' b=none)->∀ b∈fp,Xf X pins H' b:=fun hn b hb=>⟨hn b hb,(f2 b hb).2⟩
 refine codeAny_forLoop_any (fun n s'=>∃ i σ' H',ZF X pins σ' H' s'/\tn i s'.heap/\(∀ b∈fp,H' b=none)/\W i n σ' H') ?_ m0 ⟨0,σ,H2,I2,st2,fun b hb=>(f2 b hb).1,w0⟩
 rintro n s3 ⟨i,σ3,H3,I3,st3,fr3,w3⟩
 rcases turn i n σ3 H3 w3 with ⟨stop,qn⟩ | ⟨go,N,hN,step⟩
 ·refine wpAny_passesOwn hp (Zb (T.done X rfl rfl rfl hc i pins s3 σ3 H3 X.xe I3 (stat fr3) st3 stop) fun r s4 ⟨hr,I4⟩=>?_)
  subst hr
  exact wpAny_execs_nil ⟨σ3,H3,I4,qn⟩
 ·refine wpAny_passesOwn hp (Zb (T.item X rfl rfl rfl hc i pins s3 σ3 H3 X.xe I3 (stat fr3) st3 go) fun r s4 ⟨u,hr,h4⟩=>?_)
  subst hr
  refine wpAny_passesOwn hp (Zb h4 fun _ s5 ⟨x,H5,I5,r5,y5,st5,fr5⟩=>?_)
  have I5':=I5.pinned (stat fr5) (T.obj _ _ st5)
  refine wpAny_passesOwn hp (Zb (hg _ s5 σ3 H5 x u _ I5' r5 (step x H5 y5)) fun _ s6 ⟨σ6,H6,I6,q6⟩=>?_)
  refine wpAny_passesOwn hp (Zb (hb _ s6 σ6 H6 _ I6 q6) fun f s7 q7=>?_)
  have again:∀ {σ7:St} {H7:Hp},ZF X (pins++Qf fp s5.heap) σ7 H7 s7->N σ7 H7->∃ m,m<n/\∃ i σ' H',ZF X pins σ' H' s7/\tn i s7.heap/\(∀ b∈fp,H' b=none)/\W i m σ' H':=fun {σ7 H7} I7 n7=>by
   obtain ⟨m',hm,w7⟩:=hN σ7 H7 n7
   refine ⟨m',hm,i+1,σ7,H7,I7.unpinned,T.keep _ _ _ st5 fun b hb o e=>(I7.pin (b,o) (zAa _ (zAa _ (Pg hb e)))).1,fun b hb=>?_,w7⟩
   obtain ⟨o,e,d⟩:=T.obj _ _ st5 b hb
   exact (I7.pin (b,o) (zAa _ (zAa _ (Pg hb e)))).2.1
  cases f with
  | next=>obtain ⟨σ7,H7,I7,n7⟩:=q7;exact again I7 n7
  | cont=>obtain ⟨σ7,H7,I7,n7⟩:=q7;exact again I7 n7
  | brk=>obtain ⟨σ7,H7,I7,q7⟩:=q7;exact ⟨σ7,H7,I7.unpinned,q7⟩
  | ret v=>obtain ⟨x7,σ7,H7,I7,r7,q7⟩:=q7;exact ⟨x7,σ7,H7,I7.unpinned,r7,q7⟩
end
theorem Pf {K:zAA} {a:Addr} {xs:List V} {g:TG} {tb:TS} {D:Yb} {σ:St} {H:Hp} (Pv:Nat->St->Hp->Prop) (h0:Pv 0 σ H) (hl:∀ i σ H,i<=xs.length->Pv i σ H->ZM K H a xs)
  (hs:∀ i x σ H,xs[i]? = some x->Pv i σ H->g x σ H fun σ2 H2=>tb { D with nx:=Pv (i+1),ct:=Pv (i+1),bk:=D.nx } σ2 H2) (hd:∀ σ H,Pv xs.length σ H->D.nx σ H) :
  ∃ W:Nat->Nat->St->Hp->Prop,(∃ m,W 0 m σ H)/\∀ i m σ H,W i m σ H ->
   ((QC K a).stop i H/\D.nx σ H)\/((QC K a).go i H/\∃ N:St->Hp->Prop,(∀ σ' H',N σ' H'->∃ m',m'<m/\W (i+1) m' σ' H')/\∀ x H',(QC K a).yld i H x H'->g x σ H' fun σ2 H2=>tb { D with nx:=N,ct:=N,bk:=D.nx } σ2 H2):=by
 refine ⟨fun i m σ H=>m=xs.length - i/\i<=xs.length/\Pv i σ H,⟨xs.length,by simp,zAe _,h0⟩,?_⟩
 rintro i m σ H ⟨rfl,hi,p⟩
 have q:=hl i σ H hi p
 by_cases hlt:i<xs.length
 ·refine .inr ⟨⟨xs,xs[i],q,by simp [hlt]⟩,Pv (i+1),fun σ' H' p'=>⟨xs.length - (i+1),by omega,rfl,hlt,p'⟩,fun x H' y=>?_⟩
  obtain ⟨e,y⟩:=y
  subst e
  exact hs i x σ _ (y xs q) p
 ·have e:i=xs.length:=by omega
  subst e
  exact .inl ⟨⟨xs,q,zAH _⟩,hd σ H p⟩
theorem Ue {lo:Int} {n:Nat} {g:TG} {tb:TS} {D:Yb} {σ:St} {H:Hp} (Pv:Nat->St->Hp->Prop) (h0:Pv 0 σ H)
  (hs:∀ i σ H,i<n->Pv i σ H->g (.int (lo+i)) σ H fun σ2 H2=>tb { D with nx:=Pv (i+1),ct:=Pv (i+1),bk:=D.nx } σ2 H2) (hd:∀ σ H,Pv n σ H->D.nx σ H) :
  ∃ W:Nat->Nat->St->Hp->Prop,(∃ m,W 0 m σ H)/\∀ i m σ H,W i m σ H ->
   ((US lo n).stop i H/\D.nx σ H)\/((US lo n).go i H/\∃ N:St->Hp->Prop,(∀ σ' H',N σ' H'->∃ m',m'<m/\W (i+1) m' σ' H')/\∀ x H',(US lo n).yld i H x H'->g x σ H' fun σ2 H2=>tb { D with nx:=N,ct:=N,bk:=D.nx } σ2 H2):=by
 refine ⟨fun i m σ H=>m=n - i/\i<=n/\Pv i σ H,⟨n,by simp,zAe _,h0⟩,?_⟩
 rintro i m σ H ⟨rfl,hi,p⟩
 by_cases hlt:i<n
 ·refine .inr ⟨hlt,Pv (i+1),fun σ' H' p'=>⟨n - (i+1),by omega,rfl,hlt,p'⟩,fun x H' y=>?_⟩
  obtain ⟨e,y⟩:=y
  subst e y
  exact hs i σ _ hlt p
 ·have e:i=n:=by omega
  subst e
  exact .inl ⟨zAH _,hd σ H p⟩
abbrev R2:=V->V->Hp->VK->Prop
def YV (X:Cx) (f:Value->Value->Sem Value) (r:R2):Prop:=
 ∀ (pins:List (Addr×Obj)) (s:Shared) (σ:St) (H:Hp) (x y:V) (v u:Value) (Q:VK),ZF X pins σ H s->ZQ x v->ZQ y u->r x y H Q ->
  wpAny (model X.prog X.w) X.A (f v u) (EP X pins σ Q) X.xe s
def Ma (X:Cx) (f:Value->Sem Value) (r:V->Hp->VK->Prop):Prop:=
 ∀ (pins:List (Addr×Obj)) (s:Shared) (σ:St) (H:Hp) (x:V) (v:Value) (Q:VK),ZF X pins σ H s->ZQ x v->r x H Q ->
  wpAny (model X.prog X.w) X.A (f v) (EP X pins σ Q) X.xe s
def WT (X:Cx) (f:Value) (r:List V->Hp->VK->Prop):Prop:=
 ∀ (pins:List (Addr×Obj)) (s:Shared) (σ:St) (H:Hp) (xs:List V) (us:List Value) (Q:VK),ZF X pins σ H s->ZN xs us->r xs H Q ->
  wpAny (model X.prog X.w) X.A (call f us) (EP X pins σ Q) X.xe s
def Uv (r:R2) (ta tb:TE):TE:=fun σ H Q=>ta σ H fun x H1=>tb σ H1 fun y H2=>r x y H2 Q
def Du (r:V->Hp->VK->Prop) (ta:TE):TE:=fun σ H Q=>ta σ H fun x H1=>r x H1 Q
def rI (C:Int->Int->Prop) (g:Int->Int->V):R2:=fun x y H Q=>∃ i j,x=.int i/\y=.int j/\C i j/\Q (g i j) H
def UH (g:Int->Int->V):R2:=fun x y H Q=>∃ i j,x=.int i/\y=.int j/\Q (g i j) H
def rU (g:Int->V):V->Hp->VK->Prop:=fun x H Q=>∃ i,x=.int i/\Q (g i) H
section
variable {X:Cx} {a b c:Expr} {ta tb tc:TE} {pos:Pos}
theorem OZ (ha:PE X a ta) (hb:PE X b tb) {pins:List (Addr×Obj)} {s:Shared} {σ:St} {H:Hp} {R:V->V->Hp->Prop} (I:ZF X pins σ H s)
  (h:ta σ H fun x H1=>tb σ H1 fun y H2=>R x y H2) {Q:Value->Shared->Prop} {f:Value->Value->Sem Value}
  (hf:∀ v u s2 x y H2,ZF X pins σ H2 s2->ZQ x v->ZQ y u->R x y H2->wpAny (model X.prog X.w) X.A (f v u) Q X.xe s2) :
  wpAny (model X.prog X.w) X.A (eval a X.env) (fun v s₁=>wpAny (model X.prog X.w) X.A (eval b X.env) (fun u s₂=>wpAny (model X.prog X.w) X.A (f v u) Q X.xe s₂) X.xe s₁) X.xe s:=by
 refine Zb (ha pins s σ H _ I h) fun v s1 ⟨x,H1,I1,r1,q1⟩=>?_
 refine Zb (hb pins s1 σ H1 _ I1 q1) fun u s2 ⟨y,H2,I2,r2,q2⟩=>?_
 exact hf v u s2 x y H2 I2 r1 r2 q2
theorem Zs {op:Operator} {r:R2} (ho:YV X (binaryOp op) r) (ha:PE X a ta) (hb:PE X b tb):PE X (.BinOp a op b pos) (Uv r ta tb):=by
 intro pins s σ H Q I h
 exact wpAny_BinOp (OZ ha hb I h fun v u s2 x y H2 I2 rx ry q=>ho pins s2 σ H2 x y v u Q I2 rx ry q)
theorem QE {op:UnaryOp} {r:V->Hp->VK->Prop} (ho:Ma X (unaryOp op) r) (ha:PE X a ta):PE X (.UnaryOp op a pos) (Du r ta):=by
 intro pins s σ H Q I h
 exact UnaryOp_ (Zb (ha pins s σ H _ I h) fun v s1 ⟨x,H1,I1,r1,q1⟩=>ho pins s1 σ H1 x v Q I1 r1 q1)
theorem QH {f:Value->Value->Sem Value} {C:Int->Int->Prop} {g:Int->Int->Int}
  (rule:∀ (i j:Int) (t u:Tok) (s:Shared) (Q:Value->Shared->Prop) (E:Value->Shared->Prop),C i j->Q (.int (g i j) s.toks) { s with toks:=s.toks+1 }->wpAny (model X.prog X.w) X.A (f (.int i t) (.int j u)) Q E s) :
  YV X f (rI C fun i j=>.int (g i j)):=by
 intro pins s σ H x y v u Q I rx ry h
 obtain ⟨i,j,rfl,rfl,hc,q⟩:=h
 obtain ⟨t,rfl⟩:=rx
 obtain ⟨t',rfl⟩:=ry
 exact rule i j t t' s _ _ hc ⟨.int (g i j),H,I.tok _,⟨_,rfl⟩,q⟩
theorem IS {f:Value->Value->Sem Value} {g:Int->Int->Int}
  (rule:∀ (i j:Int) (t u:Tok) (s:Shared) (Q:Value->Shared->Prop) (E:Value->Shared->Prop),Q (.int (g i j) s.toks) { s with toks:=s.toks+1 }->wpAny (model X.prog X.w) X.A (f (.int i t) (.int j u)) Q E s) :
  YV X f (UH fun i j=>.int (g i j)):=by
 intro pins s σ H x y v u Q I rx ry h
 obtain ⟨i,j,rfl,rfl,q⟩:=h
 obtain ⟨t,rfl⟩:=rx
 obtain ⟨t',rfl⟩:=ry
 exact rule i j t t' s _ _ ⟨.int (g i j),H,I.tok _,⟨_,rfl⟩,q⟩
theorem Pm {f:Value->Value->Sem Value} {g:Int->Int->Bool}
  (rule:∀ (i j:Int) (t u:Tok) (s:Shared) (Q:Value->Shared->Prop) (E:Value->Shared->Prop),Q (.bool (g i j)) s->wpAny (model X.prog X.w) X.A (f (.int i t) (.int j u)) Q E s) :
  YV X f (UH fun i j=>.bl (g i j)):=by
 intro pins s σ H x y v u Q I rx ry h
 obtain ⟨i,j,rfl,rfl,q⟩:=h
 obtain ⟨t,rfl⟩:=rx
 obtain ⟨t',rfl⟩:=ry
 exact rule i j t t' s _ _ ⟨.bl (g i j),H,I,rfl,q⟩
def F5 (i j:Int):Prop:=0<j/\j<1073741824
def D5 (i j:Int):Prop:=0<=j/\j<=1000000/\i.natAbs<2 ^ 64
def Vm (i j:Int):Prop:=(-(2 ^ 64)<i/\i<2 ^ 64)\/(-(2 ^ 64)<j/\j<2 ^ 64)
theorem Vm.ok {i j:Int} (h:Vm i j):IntMulOk i j:=by
 rcases h with ⟨h1,h2⟩ | ⟨h1,h2⟩
 ·exact .of_left (intBits_le_64 h1 h2)
 ·exact .of_right (intBits_le_64 h1 h2)
theorem Xg:YV X (binaryOp .Add) (UH fun i j=>.int (i+j)):=IS fun _ _ _ _ _ _ _ q=>add_int q
theorem Wh:YV X (binaryOp .Sub) (UH fun i j=>.int (i - j)):=IS fun _ _ _ _ _ _ _ q=>sub_int q
theorem Ua:YV X (binaryOp .Mult) (rI Vm fun i j=>.int (i * j)):=QH fun _ _ _ _ _ _ _ hc q=>mul_int q hc.ok
theorem OB:YV X (binaryOp .FloorDiv) (rI F5 fun i j=>.int (i / j)):=QH fun i j _ _ _ _ _ hc q=>by
 have h1:(0:Int)<j:=hc.1
 have h2:j<1073741824:=hc.2
 exact floordiv_int (by omega) (by rw [zC6 i (by omega)];exact q) (.inl (PyProof.noPylong_small (by omega)))
theorem UE:YV X (binaryOp .Mod) (rI (fun _ j=>0<j) fun i j=>.int (i % j)):=QH fun i j _ _ _ _ _ hc q=>by
 have h1:(0:Int)<j:=hc
 exact mod_int' (by omega) (by rw [Int.fmod_eq_emod_of_nonneg i (by omega)];exact q)
theorem Qe:YV X (binaryOp .Pow) (rI D5 fun i j=>.int (i ^ j.toNat)):=QH fun _ _ _ _ _ _ _ hc q=>pow_int_small hc.1 hc.2.1 hc.2.2 q
theorem Fo {f:Value->Sem Value} {g:Int->Int}
  (rule:∀ (i:Int) (t:Tok) (s:Shared) (Q:Value->Shared->Prop) (E:Value->Shared->Prop),Q (.int (g i) s.toks) { s with toks:=s.toks+1 }->wpAny (model X.prog X.w) X.A (f (.int i t)) Q E s) :
  Ma X f (rU fun i=>.int (g i)):=by
 intro pins s σ H x v Q I rx h
 obtain ⟨i,rfl,q⟩:=h
 obtain ⟨t,rfl⟩:=rx
 exact rule i t s _ _ ⟨.int (g i),H,I.tok _,⟨_,rfl⟩,q⟩
theorem QW:Ma X (unaryOp .USub) (rU fun i=>.int (-i)):=Fo fun _ _ _ _ _ q=>neg_int q
end
def IV:V->V->Bool
 | .non,.non=>true | .non,.int _=>true | .int _,.non=>true | .non,.bl _=>true | .bl _,.non=>true | .non,.str _=>true | .str _,.non=>true
 | .int _,.int _=>true | .bl _,.bl _=>true | .str _,.str _=>true | .byt _,.byt _=>true
 | .int _,.str _=>true | .str _,.int _=>true | .bl _,.str _=>true | .str _,.bl _=>true
 | _,_=>false
def AR:R2:=fun x y H Q=>IV x y=true/\Q (.bl (decide (x=y))) H
def Eo:R2:=fun x y H Q=>IV x y=true/\Q (.bl (!decide (x=y))) H
theorem Im {i j:Int}:decide (V.int i=V.int j)=(i==j):=by
 rw [zBp]
 simp
theorem Ld {i j:Bool}:decide (V.bl i=V.bl j)=(i==j):=by
 rw [zBp]
 simp
theorem Jt {i j:Str}:decide (V.str i=V.str j)=(i==j):=by
 rw [zBp]
 simp
theorem Ie {i j:Array UInt8}:decide (V.byt i=V.byt j)=(i.toList==j.toList):=by
 rw [zBp]
 cases i
 cases j
 simp
section
variable {X:Cx} {a b c:Expr} {ta tb tc:TE} {pos:Pos}
theorem YS {pins:List (Addr×Obj)} {σ:St} {H:Hp} {s:Shared} {Q:VK} {k k':Bool} (I:ZF X pins σ H s) (q:Q (.bl k) H) (e:k=k'):EP X pins σ Q (.bool k') s:=by
 subst e
 exact ⟨.bl k,H,I,rfl,q⟩
theorem X2:YV X (compareOp .Eq) AR:=by
 intro pins s σ H x y v u Q I rx ry h
 obtain ⟨hs,q⟩:=h
 cases x with
 | non=>
  cases rx
  cases y with
  | non=>cases ry;exact PySem.EqNone.eq_none_none (YS I q (by simp))
  | bl j=>cases ry;exact PySem.EqNone.eq_none_bool (YS I q (by simp))
  | int j=>obtain ⟨t',rfl⟩:=ry;exact PySem.EqNone.eq_none_int (YS I q (by simp))
  | str j=>obtain ⟨t',rfl⟩:=ry;exact PySem.EqNone.eq_none_str (YS I q (by simp))
  | _=>exact absurd (show false=true from hs) zAF
 | bl i=>
  cases rx
  cases y with
  | non=>cases ry;exact PySem.EqNone.eq_bool_none (YS I q (by simp))
  | bl j=>cases ry;exact eq_bool (YS I q Ld)
  | str j=>obtain ⟨t',rfl⟩:=ry;exact PySem.EqMixed.eq_bool_str (YS I q (by simp))
  | _=>exact absurd (show false=true from hs) zAF
 | int i=>
  obtain ⟨t,rfl⟩:=rx
  cases y with
  | non=>cases ry;exact PySem.EqNone.eq_int_none (YS I q (by simp))
  | int j=>obtain ⟨t',rfl⟩:=ry;exact eq_int (YS I q Im)
  | str j=>obtain ⟨t',rfl⟩:=ry;exact PySem.EqMixed.eq_int_str (YS I q (by simp))
  | _=>exact absurd (show false=true from hs) zAF
 | str i=>
  obtain ⟨t,rfl⟩:=rx
  cases y with
  | non=>cases ry;exact PySem.EqNone.eq_str_none (YS I q (by simp))
  | bl j=>cases ry;exact PySem.EqMixed.eq_str_bool (YS I q (by simp))
  | int j=>obtain ⟨t',rfl⟩:=ry;exact PySem.EqMixed.eq_str_int (YS I q (by simp))
  | str j=>obtain ⟨t',rfl⟩:=ry;exact eq_str (YS I q Jt)
  | _=>exact absurd (show false=true from hs) zAF
 | byt i=>
  obtain ⟨t,rfl⟩:=rx
  cases y with
  | byt j=>obtain ⟨t',rfl⟩:=ry;exact PySem.W.eq_bytes (YS I q Ie)
  | _=>exact absurd (show false=true from hs) zAF
 | _=>cases y <;> exact absurd (show false=true from hs) zAF
theorem CU:YV X (compareOp .NotEq) Eo:=by
 intro pins s σ H x y v u Q I rx ry h
 obtain ⟨hs,q⟩:=h
 cases x with
 | non=>
  cases rx
  cases y with
  | non=>cases ry;exact PySem.EqNone.ne_none_none (YS I q (by simp))
  | bl j=>cases ry;exact PySem.EqNone.ne_none_bool (YS I q (by simp))
  | int j=>obtain ⟨t',rfl⟩:=ry;exact PySem.EqNone.ne_none_int (YS I q (by simp))
  | str j=>obtain ⟨t',rfl⟩:=ry;exact PySem.EqNone.ne_none_str (YS I q (by simp))
  | _=>exact absurd (show false=true from hs) zAF
 | bl i=>
  cases rx
  cases y with
  | non=>cases ry;exact PySem.EqNone.ne_bool_none (YS I q (by simp))
  | bl j=>cases ry;exact ne_bool (YS I q (congrArg not Ld))
  | str j=>obtain ⟨t',rfl⟩:=ry;exact PySem.EqMixed.ne_bool_str (YS I q (by simp))
  | _=>exact absurd (show false=true from hs) zAF
 | int i=>
  obtain ⟨t,rfl⟩:=rx
  cases y with
  | non=>cases ry;exact PySem.EqNone.ne_int_none (YS I q (by simp))
  | int j=>obtain ⟨t',rfl⟩:=ry;exact ne_int (YS I q (congrArg not Im))
  | str j=>obtain ⟨t',rfl⟩:=ry;exact PySem.EqMixed.ne_int_str (YS I q (by simp))
  | _=>exact absurd (show false=true from hs) zAF
 | str i=>
  obtain ⟨t,rfl⟩:=rx
  cases y with
  | non=>cases ry;exact PySem.EqNone.ne_str_none (YS I q (by simp))
  | bl j=>cases ry;exact PySem.EqMixed.ne_str_bool (YS I q (by simp))
  | int j=>obtain ⟨t',rfl⟩:=ry;exact PySem.EqMixed.ne_str_int (YS I q (by simp))
  | str j=>obtain ⟨t',rfl⟩:=ry;exact ne_str (YS I q (congrArg not Jt))
  | _=>exact absurd (show false=true from hs) zAF
 | byt i=>
  obtain ⟨t,rfl⟩:=rx
  cases y with
  | byt j=>obtain ⟨t',rfl⟩:=ry;exact PySem.W.ne_bytes (YS I q (congrArg not Ie))
  | _=>exact absurd (show false=true from hs) zAF
 | _=>cases y <;> exact absurd (show false=true from hs) zAF
theorem Ug:YV X (compareOp .Lt) (UH fun i j=>.bl (decide (i<j))):=Pm fun _ _ _ _ _ _ _ q=>lt_int q
theorem U4:YV X (compareOp .LtE) (UH fun i j=>.bl (decide (i<=j))):=Pm fun _ _ _ _ _ _ _ q=>le_int q
theorem Vx:YV X (compareOp .Gt) (UH fun i j=>.bl (decide (j<i))):=Pm fun _ _ _ _ _ _ _ q=>gt_int q
theorem CV:YV X (compareOp .GtE) (UH fun i j=>.bl (decide (j<=i))):=Pm fun _ _ _ _ _ _ _ q=>ge_int q
theorem Z2 (b:Expr) {op:CmpOp} (h:op≠.In:=by decide) (h2:op≠.NotIn:=by decide):behindInMarks op b=false:=by
 have e1:(op==CmpOp.In)=false:=by cases op <;> first | rfl | exact absurd rfl h
 have e2:(op==CmpOp.NotIn)=false:=by cases op <;> first | rfl | exact absurd rfl h2
 cases b <;> simp [behindInMarks,e1,e2]
theorem Xm {op:CmpOp} {r:R2} (ho:YV X (compareOp op) r) (ha:PE X a ta) (hb:PE X b tb) (hm:behindInMarks op b=false):PE X (.Compare a [op] [b] pos) (Uv r ta tb):=by
 intro pins s σ H Q I h
 exact wpAny_Compare1 (OZ ha hb I h fun v u s2 x y H2 I2 rx ry q=>ho pins s2 σ H2 x y v u Q I2 rx ry q) hm
def JD (t:TE):TT:=fun σ H Q=>t σ H fun x H'=>∃ k,x=.bl k/\Q k H'
theorem Yn {op:CmpOp} {r:R2} (ho:YV X (compareOp op) r) (ha:PE X a ta) (hb:PE X b tb) (hm:behindInMarks op b=false):PT X (.Compare a [op] [b] pos) (JD (Uv r ta tb)):=by
 intro pins s σ H Q I h
 refine wpAny_isTrue_Compare1 (Zb (ha pins s σ H _ I h) fun v s1 ⟨x,H1,I1,r1,q1⟩=>Zb (hb pins s1 σ H1 _ I1 q1) fun u s2 ⟨y,H2,I2,r2,q2⟩=>
  Zb (ho pins s2 σ H2 x y v u _ I2 r1 r2 q2) fun c s3 ⟨z,H3,I3,r3,k,e,q3⟩=>?_) hm
 subst e
 cases r3
 exact wpAny_truthy_bool ⟨H3,I3,q3⟩
def KH (r r':R2) (ta tb tc:TE):TE:=fun σ H Q=>ta σ H fun x H1=>tb σ H1 fun y H2=>r x y H2 fun z H3=>∃ k,z=.bl k /\
 (if k=true then tc σ H3 fun w' H4=>r' y w' H4 Q else Q (.bl false) H3)
theorem FX {op op':CmpOp} {r r':R2} (ho:YV X (compareOp op) r) (ho':YV X (compareOp op') r') (ha:PE X a ta) (hb:PE X b tb) (hc:PE X c tc)
  (hm:lastMarks [op,op'] [b,c]=false:=by with_unfolding_all rfl):PE X (.Compare a [op,op'] [b,c] pos) (KH r r' ta tb tc):=by
 intro pins s σ H Q I h
 refine Compare_chain (Zb (ha pins s σ H _ I h) fun v s1 ⟨x,H1,I1,r1,q1⟩=>chain_link (Zb (hb pins s1 σ H1 _ I1 q1) fun u s2 ⟨y,H2,I2,r2,q2⟩=>
  Zb (ho pins s2 σ H2 x y v u _ I2 r1 r2 q2) fun d s3 ⟨z,H3,I3,r3,k,e,q3⟩=>?_)) hm
 subst e
 cases r3
 refine wpAny_truthy_bool ?_
 cases k with
 | false=>exact ite_ff ⟨.bl false,H3,I3,rfl,q3⟩
 | true=>exact ite_tt (chain_last (Zb (hc pins s3 σ H3 _ I3 q3) fun w' s4 ⟨z',H4,I4,r4,q4⟩=>ho' pins s4 σ H4 y z' u w' Q I4 r2 r4 q4))
theorem Js {op op':CmpOp} {r r':R2} (ho:YV X (compareOp op) r) (ho':YV X (compareOp op') r') (ha:PE X a ta) (hb:PE X b tb) (hc:PE X c tc)
  (hm:lastMarks [op,op'] [b,c]=false:=by with_unfolding_all rfl):PT X (.Compare a [op,op'] [b,c] pos) (JD (KH r r' ta tb tc)):=by
 intro pins s σ H Q I h
 refine isTrue_chain (Zb (ha pins s σ H _ I h) fun v s1 ⟨x,H1,I1,r1,q1⟩=>test_link (Zb (hb pins s1 σ H1 _ I1 q1) fun u s2 ⟨y,H2,I2,r2,q2⟩=>
  Zb (ho pins s2 σ H2 x y v u _ I2 r1 r2 q2) fun d s3 ⟨z,H3,I3,r3,k,e,q3⟩=>?_)) hm
 subst e
 cases r3
 refine wpAny_truthy_bool ?_
 cases k with
 | false=>
  obtain ⟨k',e',q'⟩:=q3
  cases e'
  exact ite_ff ⟨H3,I3,q'⟩
 | true=>
  refine ite_tt (test_last (Zb (hc pins s3 σ H3 _ I3 q3) fun w' s4 ⟨z',H4,I4,r4,q4⟩=>Zb (ho' pins s4 σ H4 y z' u w' _ I4 r2 r4 q4) fun d' s5 ⟨z2,H5,I5,r5,k2,e2,q5⟩=>?_))
  subst e2
  cases r5
  exact wpAny_truthy_bool ⟨H5,I5,q5⟩
theorem Ui:(sizeLine:Nat)<2 ^ 63:=by rw [sizeLine_eq];decide
theorem FJ:YV X (binaryOp .Add) (fun x y H Q=>∃ i j,x=.str i/\y=.str j/\i.length+j.length<=sizeLine/\Q (.str (i++j)) H):=by
 intro pins s σ H x y v u Q I rx ry h
 obtain ⟨i,j,rfl,rfl,hz,q⟩:=h
 obtain ⟨t,rfl⟩:=rx
 obtain ⟨t',rfl⟩:=ry
 exact add_str (fun t' tk=>⟨.str (i++j),H,I.tok _,⟨_,rfl⟩,q⟩) hz
theorem Wg {x:V} {us:List Value} (r:ZN [x] us):∃ u,us=[u]/\ZQ x u:=by
 cases r with
 | cons r1 r2=>cases r2;exact ⟨_,rfl,r1⟩
theorem PN {x y:V} {us:List Value} (r:ZN [x,y] us):∃ u w',us=[u,w']/\ZQ x u/\ZQ y w':=by
 cases r with
 | cons r1 r2=>
  cases r2 with
  | cons r3 r4=>cases r4;exact ⟨_,_,rfl,r1,r3⟩
theorem Ou:WT X (.builtin "abs") (fun xs H Q=>∃ i,xs=[.int i]/\Q (.int (if i<0 then -i else i)) H):=by
 intro pins s σ H xs us Q I r h
 obtain ⟨i,rfl,q⟩:=h
 obtain ⟨u,rfl,t,rfl⟩:=Wg r
 exact call_abs_int fun u tk=>⟨.int (if i<0 then -i else i),H,I.tok _,⟨_,rfl⟩,q⟩
theorem O0 (hc:X.calm=true):WT X (.builtin "max") (fun xs H Q=>∃ i j,xs=[.int i,.int j]/\Q (.int (if j > i then j else i)) H):=by
 intro pins s σ H xs us Q I r h
 obtain ⟨i,j,rfl,q⟩:=h
 obtain ⟨u,w',rfl,⟨t,rfl⟩,⟨t',rfl⟩⟩:=PN r
 refine max_two_ints (I.ok.hd hc) fun h' tk k=>⟨_,H,I.kept k,?_,q⟩
 by_cases hj:j > i
 ·rw [if_pos hj,if_pos hj];exact ⟨_,rfl⟩
 ·rw [if_neg hj,if_neg hj];exact ⟨_,rfl⟩
theorem IW (hc:X.calm=true):WT X (.builtin "min") (fun xs H Q=>∃ i j,xs=[.int i,.int j]/\Q (.int (if j<i then j else i)) H):=by
 intro pins s σ H xs us Q I r h
 obtain ⟨i,j,rfl,q⟩:=h
 obtain ⟨u,w',rfl,⟨t,rfl⟩,⟨t',rfl⟩⟩:=PN r
 refine min_two_ints (I.ok.hd hc) fun h' tk k=>⟨_,H,I.kept k,?_,q⟩
 by_cases hj:j<i
 ·rw [if_pos hj,if_pos hj];exact ⟨_,rfl⟩
 ·rw [if_neg hj,if_neg hj];exact ⟨_,rfl⟩
theorem QA:WT X (.type "int") (fun xs H Q=>(∃ i,xs=[.int i]/\Q (.int i) H)\/∃ k,xs=[.bl k]/\Q (.int (if k then 1 else 0)) H):=by
 intro pins s σ H xs us Q I r h
 rcases h with ⟨i,rfl,q⟩ | ⟨k,rfl,q⟩
 ·obtain ⟨u,rfl,t,rfl⟩:=Wg r
  exact call_int_int ⟨.int i,H,I,⟨_,rfl⟩,q⟩
 ·obtain ⟨u,rfl,r1⟩:=Wg r
  cases r1
  exact call_int_bool ⟨.int (if k then 1 else 0),H,I.tok _,⟨_,rfl⟩,q⟩
end
structure WA (h:Heap) (x dx C:Addr) (mA:Str->Option Value):Prop where
 obj:h.get? x=some (zBM C dx)
 ns:h.Ns1 dx mA
 ne:dx≠x
theorem Ia {h:Heap} {dx:Addr} {mA:Str->Option Value} (n:h.Ns1 dx mA):∃ od,h.get? dx=some od/\∀ name,zB3 name od=some (mA name):=by
 obtain ⟨o,es,ep,ho,hd,hk,_,hm⟩:=n
 refine ⟨o,ho,fun name=>?_⟩
 have e:=hm name
 unfold nsFind findBy at e
 rw [<-Array.find?_toList] at e
 unfold zB3
 rw [hd]
 dsimp only
 split
 ·rename_i y q
  rw [q] at e
  exact congrArg some e
 ·rename_i q
  rw [q] at e
  have a:es.toList.any (·.refKey)=false:=by
   rw [List.any_eq_false]
   intro y hy
   obtain ⟨z,t,hkey⟩:=hk y (zDL.mp hy)
   simp [DictEntry.refKey,hkey]
  have a':¬ es.toList.any (·.refKey)=true:=by rw [a];exact zAF
  rw [if_neg a']
  exact congrArg some e
theorem WA.look {h:Heap} {x dx C:Addr} {mA:Str->Option Value} (I:WA h x dx C mA):∃ od,zCq h x (zBM C dx) C (some od)/\∀ name,zB3 name od=some (mA name):=
 let ⟨od,ho,hl⟩:=Ia I.ns
 ⟨od,⟨I.obj,rfl,rfl,ho⟩,hl⟩
section
variable {prog:Program} {w:World} {A:Around} {E:Value->Shared->Prop} {s:Shared} {K:zAA} {x dx C f:Addr} {mA:Str->Option Value} {name:Str} {v:Value}
theorem G5 {expr:Bool} {Q:Value->Shared->Prop} (X:K.In s.heap) (I:WA s.heap x dx C mA) (hg:zBd K C name=true) (hh:zBN K C=true)
  (ha:zAW K (.ref C) name=some none) (hv:mA name=some v) (hv':PySem.W.handedIn v=true) (h:Q v { s with toks:=s.toks+1 }) :
  wpAny (model prog w) A (getAttr (.ref x) name expr) Q E s:=by
 obtain ⟨od,J,hl⟩:=I.look
 exact PySem.W.get_value X J (zCQ hg).1 (PySem.W.findObj_own hh ha rfl (by rw [hl,hv])) hv' h
theorem Gg {pl:Sem Bool} {Q:Value×List Value->Shared->Prop} (X:K.In s.heap) (I:WA s.heap x dx C mA) (hg:zBd K C name=true)
  (hf:zAW K (.ref C) name=some (some (.ref f))) (ht:zBg K (.ref f)=true) (hv:mA name=none) (h:Q (.ref f,[.ref x]) s) :
  wpAny (model prog w) A (getMethod (.ref x) name pl) Q E s:=by
 obtain ⟨od,J,hl⟩:=I.look
 exact PySem.W.method_fn X J (zCQ hg).1 (zCQ hg).2 hf (beq_iff_eq.mp ht) (by show (zB3 name od).map (·.isSome)=some false;rw [hl,hv];rfl) h
theorem EL {ns:List Str} {Q:Unit->Shared->Prop} (X:K.In s.heap) (I:WA s.heap x dx C mA)
  (hs:zAW K (.ref C) "__setattr__" = some (some (.builtin "object.__setattr__"))) (hp:zB5 K C=true) (ht:zCe K C name=some none) (hh:zBN K C=true)
  (hw:PySem.Within mA ns) (hsz:ns.length<=sizeLine)
  (h:∀ h',WA h' x dx C (fun y=>if y=name then some v else mA y)->zBE dx s.heap h'->Q () { s with heap:=h',toks:=s.toks+2 }) :
  wpAny (model prog w) A (setAttr (.ref x) name v) Q E s:=by
 obtain ⟨od,J,hl⟩:=I.look
 refine PySem.W.set_plain X J hs (PySem.W.osa_open (s:={ s with toks:=s.toks+1 }) (r:=none) X J hp ht fun b=>?_)
 obtain ⟨cd,hc,hd'⟩:=zCA hh
 have hx:s.heap.get? x=some ⟨.ref C,some dx,.plain,#[]⟩:=I.obj
 refine wpAny_bind (wpAny_pure (wpAny_bind (wpAny_bind (wpAny_loadPart hx (wpAny_bind (zAx.here (s:={ s with toks:=s.toks+1 }) (zCR X hc) ?_))))))
 rw [hd']
 refine wpAny_pure (a:=some dx) (wpAny_bind (wpAny_pure (wpAny_bind ?_)))
 refine wpAny_nsSet1 (s:={ s with toks:=s.toks+1 }) I.ns fun h' hn2 hs2=>?_
 obtain ⟨oD,esD,epD,hoD,hdD,hcD⟩:=hn2.count (PySem.Within.cons name v hw)
 refine wpAny_bind (wpAny_lookBehind hoD (by rw [hdD];exact pastItsLine_dict (zA7 hcD (by rw [zAX];omega))) ?_)
 exact wpAny_pure (h _ ⟨(hs2.2 _ (Ne.symm I.ne)).trans I.obj,hn2,I.ne⟩ hs2)
theorem HB {R:Result->Shared->Prop} {vs:List Value} {kw:List (Str×Value)} (X:K.In s.heap) (hm:zCF K C=true)
  (hi:zAW K (.ref C) "__init__" = some (some (.ref f))) (hf:zA4 K (.ref f)=some (.type "function"))
  (h:codeAny (model prog w) (A.under (.builtin "type.__call__" ⟨.ref C :: vs,kw⟩)) (.call (.ref f) ⟨.ref (s.heap.objs.size+1) :: vs,kw⟩) (PySem.W.InitBack (s.heap.objs.size+1) R)
   { s with heap:=(s.heap.push zBF).push (zBM C s.heap.objs.size) }) :
  codeAny (model prog w) A (.call (.ref C) ⟨vs,kw⟩) R s:=by
 obtain ⟨hh,g,d,t,os⟩:=s
 exact PySem.W.make_core (PySem.W.makes_of X hm) (zBt X hi) (fun self=>PySem.W.bind_fn X self hf) (.inl rfl) h
end
def Yh (f:Str) (v:V):List (Str×V)->List (Str×V)
 | []=>[(f,v)]
 | (g,x) :: r=>if g=f then (g,v) :: r else (g,x) :: Yh f v r
theorem Kq (f g:Str) (v:V):∀ fs:List (Str×V),(Yh f v fs).lookup g=if g=f then some v else fs.lookup g
 | []=>by
  show zBT g [(f,v)]=_
  by_cases h:g=f
  ·have hb:(g==f)=true:=beq_iff_eq.mpr h
   simp only [zBT,hb,if_pos h]
  ·have hb:(g==f)=false:=beq_eq_false_iff_ne.mpr h
   simp only [zBT,hb,if_neg h]
 | (k,x) :: r=>by
  have ih:=Kq f g v r
  rw [show Yh f v ((k,x) :: r)=(if k=f then (k,v) :: r else (k,x) :: Yh f v r) from rfl]
  by_cases hk:k=f
  ·rw [if_pos hk]
   by_cases h:g=k
   ·have hb:(g==k)=true:=beq_iff_eq.mpr h
    simp only [zBT,hb,if_pos (h.trans hk)]
   ·have hb:(g==k)=false:=beq_eq_false_iff_ne.mpr h
    simp only [zBT,hb,if_neg (fun e:g=f=>h (e.trans hk.symm))]
  ·rw [if_neg hk]
   by_cases h:g=k
   ·have hb:(g==k)=true:=beq_iff_eq.mpr h
    simp only [zBT,hb,if_neg (fun e:g=f=>hk (h.symm.trans e))]
   ·have hb:(g==k)=false:=beq_eq_false_iff_ne.mpr h
    simp only [zBT,hb]
    exact ih
theorem MO (f:Str) (v:V):∀ fs:List (Str×V),f∈(Yh f v fs).map (·.1)/\∀ g,g∈fs.map (·.1)->g∈(Yh f v fs).map (·.1)
 | []=>⟨by simp [Yh],fun g h=>by simp at h⟩
 | (k,x) :: r=>by
  obtain ⟨i1,i2⟩:=MO f v r
  rw [show Yh f v ((k,x) :: r)=(if k=f then (k,v) :: r else (k,x) :: Yh f v r) from rfl]
  by_cases hk:k=f
  ·rw [if_pos hk]
   subst hk
   exact ⟨by simp,fun g h=>by simpa using h⟩
  ·rw [if_neg hk]
   refine ⟨?_,fun g h=>?_⟩
   ·rw [zAr]
    exact zAP _ i1
   ·rw [zAr] at h ⊢
    rcases zAd.mp h with e | e
    ·exact zAd.mpr (.inl e)
    ·exact zAP _ (i2 g e)
theorem LQ (f:Str) (v:V):∀ fs:List (Str×V),(Yh f v fs).length<=fs.length+1
 | []=>by simp [Yh]
 | (k,x) :: r=>by
  have ih:=LQ f v r
  rw [show Yh f v ((k,x) :: r)=(if k=f then (k,v) :: r else (k,x) :: Yh f v r) from rfl]
  by_cases hk:k=f
  ·rw [if_pos hk,zAX,zAX];omega
  ·rw [if_neg hk,zAX,zAX];omega
theorem YO.some_of {v:V} {o:Option Value} (r:YO (some v) o):∃ u,o=some u/\ZQ v u:=by
 cases o with
 | none=>exact (show False from r).elim
 | some u=>exact ⟨u,rfl,r⟩
theorem YO.none_of {o:Option Value} (r:YO none o):o=none:=by
 cases o with
 | none=>rfl
 | some u=>exact (show False from r).elim
theorem KQ {v:V} {u:Value} (r:ZQ v u):PySem.W.handedIn u=true:=by
 cases v with
 | non=>cases (show u=Value.none from r);rfl
 | bl b=>cases (show u=Value.bool b from r);rfl
 | int i=>obtain ⟨t,e⟩:=(show ∃ t,u=Value.int i t from r);cases e;rfl
 | str x=>obtain ⟨t,e⟩:=(show ∃ t,u=Value.str x t from r);cases e;rfl
 | byt b=>obtain ⟨t,e⟩:=(show ∃ t,u=Value.bytes b t from r);cases e;rfl
 | flt b=>obtain ⟨t,e⟩:=(show ∃ t,u=Value.float b t from r);cases e;rfl
 | ref a=>cases (show u=Value.ref a from r);rfl
 | ty n=>cases (show u=Value.type n from r);rfl
section
variable {P:Program} {w:World} {H H':Hp} {h h':Heap} {a C dx:Addr} {fs fs':List (Str×V)}
theorem Pi (hok:YT P w H h) (e:H a=some (.ins C dx fs)):∃ mA,WA h a dx C mA/\(∀ f,YO (fs.lookup f) (mA f))/\PySem.Within mA (fs.map (·.1))/\fs.length<=1000/\H dx=some (.own a):=by
 obtain ⟨d,z,ne,ob,mA,n,r,q⟩:=(show Ze P w H h a (.ins C dx fs) from hok a _ e)
 exact ⟨mA,⟨ob,n,ne⟩,r,q,z,d⟩
end
structure WD (K:zAA) (C:Addr):Prop where
 pg:zBd K C Str.empty=true
 hd:zBN K C=true
 po:zB5 K C=true
 sa:zAW K (.ref C) "__setattr__" = some (some (.builtin "object.__setattr__"))
theorem WD.get {K:zAA} {C:Addr} (c:WD K C) (f:Str):zBd K C f=true:=c.pg
def Zt (K:zAA) (C:Addr) (f:Str):Prop:=zAW K (.ref C) f=some none
theorem Zt.taker {K:zAA} {C:Addr} {f:Str} (n:Zt K C f):zCe K C f=some none:=by
 unfold zCe
 rw [show zAW K (.ref C) f=some none from n]
 rfl
structure Wx (K:zAA) (C:Addr) (m:Str) (f:Addr):Prop where
 at_:zAW K (.ref C) m=some (some (.ref f))
 fn:zBg K (.ref f)=true
 kp:zAp K (.ref f)=true
section
variable {X:Cx} {pins:List (Addr×Obj)} {σ:St} {H:Hp} {s:Shared} {a C dx:Addr} {fs:List (Str×V)} {f:Str} {v:V} {A:Around} {E:Value->Shared->Prop}
theorem Jy {b:Bool} {Q:Value->Shared->Prop} (I:ZF X pins σ H s) (e:H a=some (.ins C dx fs)) (c:WD X.K C) (n:Zt X.K C f) (l:fs.lookup f=some v)
  (h:∀ u s',ZF X pins σ H s'->ZQ v u->Q u s'):wpAny (model X.prog X.w) A (getAttr (.ref a) f b) Q E s:=by
 obtain ⟨mA,O,r,_,_,_⟩:=Pi I.hok e
 obtain ⟨u,hu,ru⟩:=YO.some_of (v:=v) (o:=mA f) (by rw [<-l];exact r f)
 exact G5 I.kIn O (c.get f) c.hd n hu (KQ ru) (h u _ (I.tok _) ru)
theorem KY {m:Str} {g:Addr} {pl:Sem Bool} {Q:Value×List Value->Shared->Prop} (I:ZF X pins σ H s) (e:H a=some (.ins C dx fs)) (c:WD X.K C) (k:Wx X.K C m g) (l:fs.lookup m=none)
  (h:Q (.ref g,[.ref a]) s):wpAny (model X.prog X.w) A (getMethod (.ref a) m pl) Q E s:=by
 obtain ⟨mA,O,r,_,_,_⟩:=Pi I.hok e
 have hn:mA m=none:=YO.none_of (by rw [<-l];exact r m)
 exact Gg I.kIn O (c.get m) k.at_ k.fn hn h
theorem Kx {y:V} {u:Value} {Q:Unit->Shared->Prop} (I:ZF X pins σ H s) (e:H a=some (.ins C dx fs)) (c:WD X.K C) (n:Zt X.K C f) (hl:fs.length<1000) (ry:ZQ y u)
  (h:∀ s',ZF X pins σ (upd H a (.ins C dx (Yh f y fs))) s'->Q () s'):wpAny (model X.prog X.w) A (setAttr (.ref a) f u) Q E s:=by
 obtain ⟨mA,O,r,wi,_,ho⟩:=Pi I.hok e
 have hz:(fs.map (·.1)).length<=sizeLine:=by rw [zAD,sizeLine_eq];omega
 refine EL I.kIn O c.sa c.po n.taker c.hd wi hz fun h' O' sb=>h _ ?_
 have hd:∃ o,h'.get? dx=some o:=let ⟨o,_,_,e',_⟩:=O'.ns;⟨o,e'⟩
 refine I.write (x:=a) (e:=dx) (by rw [e];exact True.intro) (.inr ho) (fun b q hb z=>(sb.2 b hb).trans z) hd ?_
 refine ⟨by rw [ZT O.ne];exact ho,?_,O.ne,O'.obj,_,O'.ns,fun g=>?_,fun g hg=>?_⟩
 ·have:=LQ f y fs;omega
 ·show YO ((Yh f y fs).lookup g) (if g=f then some u else mA g)
  rw [Kq]
  by_cases q:g=f
  ·rw [if_pos q,if_pos q];exact ry
  ·rw [if_neg q,if_neg q];exact r g
 ·by_cases q:g=f
  ·rw [q];exact (MO f y fs).1
  ·refine (MO f y fs).2 g (wi g fun z=>hg ?_)
   show (if g=f then some u else mA g)=none
   rw [if_neg q];exact z
theorem ZF.made (I:ZF X pins σ H s):ZF X pins σ (upd (upd H s.heap.objs.size (.own (s.heap.objs.size+1))) (s.heap.objs.size+1) (.ins C s.heap.objs.size []))
  { s with heap:=(s.heap.push zBF).push (zBM C s.heap.objs.size) }:=by
 have e1:(s.heap.push zBF).get? s.heap.objs.size=some zBF:=zAT s.heap rfl
 have e2:((s.heap.push zBF).push (zBM C s.heap.objs.size)).get? (s.heap.objs.size+1)=some (zBM C s.heap.objs.size):=by
  have:=zAT (s.heap.push zBF) (o:=zBM C s.heap.objs.size) rfl
  rwa [zCW] at this
 have e3:(s.heap.push zBF).Ns s.heap.objs.size (fun _=>none):=⟨zBF,#[],_,e1,rfl,(fun e he=>absurd he (by simp)),fun _=>rfl⟩
 have I1:=I.laid (a:=s.heap.objs.size) (o:=.own (s.heap.objs.size+1)) (h':=s.heap.push zBF) (t':=s.toks) (fun b u q=>zAG _ q) (zAH _) ⟨_,e1⟩
 refine I1.laid (a:=s.heap.objs.size+1) (o:=.ins C s.heap.objs.size []) (t':=s.toks) (fun b u q=>zAG _ q) (Nat.le_of_eq (zCW _ _)) ?_
 have ne:s.heap.objs.size≠s.heap.objs.size+1:=zAk (zBm _)
 refine ⟨by rw [ZT ne,ZP],zAe _,ne,e2,fun _=>none,(Heap.Ns1.of_empty e3).at fun o q=>zAG _ q,fun _=>True.intro,fun y hy=>absurd rfl hy⟩
theorem LH {prog:Program} {w:World} {env:Env} {e:Expr} {f:Str} {pos:Pos} {s:Shared} {Q:Value->Shared->Prop} (hb:attributeBase e f env (eval e env)=eval e env)
  (h:wpAny (model prog w) A (eval e env) (fun o s₁=>wpAny (model prog w) A (getAttr o f true) Q E s₁) E s):wpAny (model prog w) A (eval (.Attribute e f pos) env) Q E s:=
 Attribute_any_ h (by rw [arm_eval_Attribute,hb])
end
def Bp (K:zAA) (ta:TE) (f:Str):TE:=fun σ H Q=>ta σ H fun x H1=>∃ a C dx fs v,x=.ref a/\H1 a=some (.ins C dx fs)/\WD K C/\Zt K C f/\fs.lookup f=some v/\Q v H1
def Hh (K:zAA) (ta tv:TE) (f:Str):TS:=fun D σ H=>tv σ H fun y H1=>ta σ H1 fun x H2=>∃ a C dx fs,x=.ref a/\H2 a=some (.ins C dx fs)/\WD K C/\Zt K C f/\fs.length<1000 /\
 D.nx σ (upd H2 a (.ins C dx (Yh f y fs)))
def KL (X:Cx) (op:Operator) (rd:V->V->Hp->VK->Prop):Prop:=
 ∀ (pins:List (Addr×Obj)) (s:Shared) (σ:St) (H:Hp) (x y:V) (u v:Value) (Q:VK),ZF X pins σ H s->ZQ x u->ZQ y v->rd x y H Q->wpAny (model X.prog X.w) X.A (inplaceOp op u v) (EP X pins σ Q) X.xe s
def Fh (K:zAA) (ta tv:TE) (rd:V->V->Hp->VK->Prop) (f:Str):TS:=fun D σ H=>ta σ H fun x H1=>∃ a C dx fs v,x=.ref a/\H1 a=some (.ins C dx fs)/\WD K C/\Zt K C f/\fs.lookup f=some v /\
 tv σ H1 fun y H2=>rd v y H2 fun z H3=>∃ dx' fs',H3 a=some (.ins C dx' fs')/\fs'.length<1000/\D.nx σ (upd H3 a (.ins C dx' (Yh f z fs')))
section
variable {X:Cx} {o e value:Expr} {f:Str} {pos pos' tpos:Pos} {ta tv:TE}
theorem Xp (he:PE X e ta) (hb:attributeBase e f X.env (eval e X.env)=eval e X.env):PE X (.Attribute e f pos) (Bp X.K ta f):=by
 intro pins s σ H Q I h
 refine LH hb (Zb (he pins s σ H _ I h) fun u s1 ⟨x,H1,I1,rx,a,C,dx,fs,v,ex,ea,c,n,l,q⟩=>?_)
 subst ex
 obtain rfl:u=Value.ref a:=rx
 exact Jy I1 ea c n l fun u' s2 I2 ru=>⟨v,H1,I2,ru,q⟩
theorem Vk (ha:PE X o ta) (hv:PE X value tv) (hs:swapsWith value (some (.Attribute o f pos')) pos.line X.env=pure false):PS X (.Assign [.Attribute o f pos'] value pos) (Hh X.K ta tv f):=by
 intro pins s σ H D I h
 refine plainObj_wpAny_Assign_Attribute (Zb (hv pins s σ H _ I h) fun u s1 ⟨y,H1,I1,ry,q⟩=>Zb (ha pins s1 σ H1 _ I1 q) fun ov s2 ⟨x,H2,I2,rx,a,C,dx,fs,ex,ea,c,n,l,q2⟩=>?_) hs
 subst ex
 obtain rfl:ov=Value.ref a:=rx
 exact Kx I2 ea c n l ry fun s3 I3=>⟨σ,_,I3,q2⟩
theorem KG {op:Operator} {rd:V->V->Hp->VK->Prop} (ha:PE X o ta) (hv:PE X value tv) (hop:KL X op rd):PS X (.AugAssign (.Attribute o f tpos) op value pos) (Fh X.K ta tv rd f):=by
 intro pins s σ H D I h
 refine wpAny_AugAssign_AttributeAny (Zb (ha pins s σ H _ I h) fun ov s1 ⟨x,H1,I1,rx,a,C,dx,fs,v,ex,ea,c,n,l,q⟩=>?_)
 subst ex
 obtain rfl:ov=Value.ref a:=rx
 refine Jy I1 ea c n l fun u s2 I2 ru=>Zb (hv pins s2 σ H1 _ I2 q) fun w3 s3 ⟨y,H2,I3,ry,q3⟩=>Zb (hop pins s3 σ H2 v y u w3 _ I3 ru ry q3) fun w4 s4 ⟨z,H3,I4,rz,dx',fs',ea',l',q4⟩=>?_
 exact Kx I4 ea' c n l' rz fun s5 I5=>⟨σ,_,I5,q4⟩
def BQ:V->V->Hp->VK->Prop:=fun x y H Q=>∃ i j,x=.int i/\y=.int j/\Q (.int (i - j)) H
theorem JF:KL X .Sub BQ:=by
 rintro pins s σ H x y u v Q I rx ry ⟨i,j,rfl,rfl,q⟩
 obtain ⟨t,rfl⟩:=(show ∃ t,u=Value.int i t from rx)
 obtain ⟨t',rfl⟩:=(show ∃ t',v=Value.int j t' from ry)
 exact PyProof.Rows.isub_int ⟨.int (i - j),H,I.tok _,⟨_,rfl⟩,q⟩
end
section
variable {X:Cx} {pins:List (Addr×Obj)} {σ:St} {H:Hp} {s:Shared} {A:Around} {E:Value->Shared->Prop} {Q:Value->Shared->Prop} {c:Value} {b:Bool}
inductive YZ (K:zAA) (H:Hp):V->Value->Prop where
 | non:YZ K H .non (.type "NoneType")
 | bl (x:Bool):YZ K H (.bl x) (.type "bool")
 | int (i:Int):YZ K H (.int i) (.type "int")
 | str (x:Str):YZ K H (.str x) (.type "str")
 | flt (x:UInt64):YZ K H (.flt x) (.type "float")
 | lst {a:Addr} {xs:List V} (e:H a=some (.lst xs)):YZ K H (.ref a) (.type "list")
 | frz {a:Addr} {o:Obj} {xs:List V} (e:H a=some (.frz o (.lst xs))):YZ K H (.ref a) (.type "list")
 | tup {a:Addr} {xs:List V} (e:H a=some (.tup xs)):YZ K H (.ref a) (.type "tuple")
 | dK {a:Addr} {kvs:List (Zc×V)} (e:H a=some (.dK kvs)):YZ K H (.ref a) (.type "dict")
 | dT {a:Addr} {kvs:List (List Zc×V)} (e:H a=some (.dT kvs)):YZ K H (.ref a) (.type "dict")
 | ins {a C dx:Addr} {fs:List (Str×V)} (e:H a=some (.ins C dx fs)) (cl:WD K C) (ha:zAW K (.ref C) "__class__" = some (some (.builtin "object.__class__")))
   (hn:PySem.W.specialIn K (.builtin "object.__class__") "__get__" = some (some (.builtin "getset_descriptor.__get__"))) (htk:PySem.W.takesIn K (.builtin "object.__class__")=some true)
   (hm:zAs K C (.type "object")=some true):YZ K H (.ref a) (.ref C)
theorem D4 {x:V} {u t:Value} (I:ZF X pins σ H s) (rx:ZQ x u) (ty:YZ X.K H x t) (e:zAV X.K t c=some b) (h:∀ tk,Q (.bool b) { s with toks:=tk }) :
  wpAny (model X.prog X.w) A (call (.builtin "isinstance") [u,c]) Q E s:=by
 cases ty with
 | non=>cases (show u=Value.none from rx);exact zA5 PySem.W.kitx_none I.kIn True.intro e (fun z=>nomatch z) h
 | bl y=>cases (show u=Value.bool y from rx);exact zA5 PySem.W.kitx_bool I.kIn True.intro e (fun z=>nomatch z) h
 | int i=>obtain ⟨t,q⟩:=(show ∃ t,u=Value.int i t from rx);cases q;exact zA5 PySem.W.kitx_int I.kIn True.intro e (fun z=>nomatch z) h
 | str y=>obtain ⟨t,q⟩:=(show ∃ t,u=Value.str y t from rx);cases q;exact zA5 PySem.W.kitx_str I.kIn True.intro e (fun z=>nomatch z) h
 | flt y=>obtain ⟨t,q⟩:=(show ∃ t,u=Value.float y t from rx);cases q;exact zA5 PySem.W.kitx_float I.kIn True.intro e (fun z=>nomatch z) h
 | @lst a xs ea=>
  cases (show u=Value.ref a from rx)
  obtain ⟨_,_,n,_,h1⟩:=(show Ze X.prog X.w H s.heap a (.lst xs) from I.hok a _ ea)
  exact zA5 PySem.W.kitx_list I.kIn ⟨_,h1,rfl⟩ e (fun z=>nomatch z) h
 | @frz a ob xs ea=>
  cases (show u=Value.ref a from rx)
  obtain ⟨_,_,_,n,_,h1⟩:=(show Ze X.prog X.w H s.heap a (.frz ob (.lst xs)) from I.hok a _ ea)
  exact zA5 PySem.W.kitx_list I.kIn ⟨_,h1,rfl⟩ e (fun z=>nomatch z) h
 | @tup a xs ea=>
  cases (show u=Value.ref a from rx)
  obtain ⟨_,_,_,p⟩:=(show Ze X.prog X.w H s.heap a (.tup xs) from I.hok a _ ea)
  obtain ⟨o,h1,h2,_⟩:=p
  exact zA5 PySem.W.kitx_tuple I.kIn ⟨o,h1,h2⟩ e (fun z=>nomatch z) h
 | @dK a kvs ea=>
  cases (show u=Value.ref a from rx)
  obtain ⟨_,_,vs,_,p⟩:=(show Ze X.prog X.w H s.heap a (.dK kvs) from I.hok a _ ea)
  obtain ⟨o,es,ep,h1,h2,_⟩:=p
  exact zA5 PySem.W.kitx_dict I.kIn ⟨o,h1,h2.1⟩ e (fun z=>nomatch z) h
 | @dT a kvs ea=>
  cases (show u=Value.ref a from rx)
  obtain ⟨_,_,xs,_,o,es,ep,h1,h2,_⟩:=(show Ze X.prog X.w H s.heap a (.dT kvs) from I.hok a _ ea)
  exact zA5 PySem.W.kitx_dict I.kIn ⟨o,h1,h2.1⟩ e (fun z=>nomatch z) h
 | @ins a C dx fs ea cl ha hn htk hm=>
  cases (show u=Value.ref a from rx)
  obtain ⟨mA,O,_⟩:=Pi I.hok ea
  obtain ⟨od,J,_⟩:=O.look
  exact zA5 (PySem.W.kitx_own (cl.get _) cl.hd ha hn htk hm) I.kIn J e (fun z=>nomatch z) h
end
structure ZZ (k:Nat) (A:Around):Prop where
 hd:A.handled=none
 dp:A.depth+3 * k+5<recursionLimit
 un:A.units+16 * k+200<cLine
theorem ZZ.mono {j k:Nat} {A:Around} (r:ZZ k A) (h:j<=k):ZZ j A:=⟨r.hd,by have:=r.dp;omega,by have:=r.un;omega⟩
theorem ZZ.deeper {k:Nat} {A:Around} (r:ZZ (k+1) A) (env:Env):ZZ k (A.deeper env):=
 ⟨r.hd,by have:=r.dp;show A.depth+1+3 * k+5<_;omega,by have:=r.un;show A.units+3+16 * k+200<_;omega⟩
theorem ZZ.in1 {k:Nat} {A:Around} (r:ZZ (k+1) A):ZZ k A.in1:=
 ⟨r.hd,by have:=r.dp;show A.depth+3 * k+5<_;omega,by have:=r.un;show A.units+1+16 * k+200<_;omega⟩
theorem Fd {A:Around} {C:Addr} {us:List Value} {kw:List (Str×Value)}:(A.under (.builtin "type.__call__" ⟨.ref C :: us,kw⟩)).depth=A.depth+1:=by
 first | rfl | simp [Around.under,Code.weight,Code.isCreation,Code.isGuard,Code.isCaller,Code.frames,Code.isFrame,guardIds]
theorem AL {A:Around} {C:Addr} {us:List Value} {kw:List (Str×Value)}:(A.under (.builtin "type.__call__" ⟨.ref C :: us,kw⟩)).units=A.units+1:=by
 first | rfl | simp [Around.under,Code.cUnits,Code.frames,Code.isFrame]
theorem ZZ.make {k:Nat} {A:Around} (r:ZZ (k+1) A) (C:Addr) (us:List Value) (kw:List (Str×Value)):ZZ k (A.under (.builtin "type.__call__" ⟨.ref C :: us,kw⟩)):=
 ⟨r.hd,by have:=r.dp;rw [Fd];omega,by have:=r.un;rw [AL];omega⟩
theorem ZZ.depth {k:Nat} {A:Around} (r:ZZ k A):A.depth<recursionLimit:=by have:=r.dp;omega
theorem ZZ.units {k:Nat} {A:Around} (r:ZZ k A):A.units+64<cLine:=by have:=r.un;omega
theorem ZZ.units0 {k:Nat} {A:Around} (r:ZZ k A):A.units<cLine:=by have:=r.un;omega
def WX:TA:=fun _ H Q=>Q [] H
def Ym (ta:TE) (tr:TA):TA:=fun σ H Q=>ta σ H fun x H1=>tr σ H1 fun xs H2=>Q (x :: xs) H2
section
variable {X:Cx} {e:Expr} {es:List Expr} {te:TE} {t:TA} {pos:Pos}
theorem ZG:PA X [] WX:=fun _ _ _ _ H Q I h=>Calls.spliced_nil ⟨[],H,I,.nil,h⟩
theorem ZX (ha:PE X e te) (hr:PA X es t) (hs:starEach (e :: es) X.env=(false,eval e X.env) :: starEach es X.env:=by rfl):PA X (e :: es) (Ym te t):=by
 intro pos pins s σ H Q I h
 rw [hs]
 show wpAny _ _ (spliced ((false,eval e X.env) :: backTo pos (starEach es X.env))) _ _ s
 refine Calls.spliced_cons (Zb (ha pins s σ H _ I h) fun u s1 ⟨x,H1,I1,r1,q1⟩=>?_)
 exact Zb (hr pos pins s1 σ H1 _ I1 q1) fun us s2 ⟨xs,H2,I2,r2,q2⟩=>⟨x :: xs,H2,I2,.cons r1 r2,q2⟩
def En (t:TA):TE:=fun σ H Q=>t σ H fun xs H1=>xs.length<=sizeLine/\∀ p,H1 p=none->Q (.ref p) (upd H1 p (.tup xs))
def IZ (t:TA):TE:=fun σ H Q=>t σ H fun xs H1=>xs.length<=sizeLine/\∀ p,H1 p=none->Q (.ref p) (upd H1 p (.lst xs))
theorem YU {x1} (h:PA X es t):PE X (.Tuple es x1 pos) (En t):=by
 intro pins s σ H Q I hq
 refine wpAny_Tuple_spliced (Zb (h pos pins s σ H _ I hq) fun us s1 ⟨xs,H1,I1,r,z,q⟩=>⟨by rw [<-r.length];exact z,?_⟩)
 have hf:H1 s1.heap.objs.size=none:=I1.hok.fresh (zAH _)
 refine ⟨.ref s1.heap.objs.size,upd H1 s1.heap.objs.size (.tup xs),I1.laid (t':=s1.toks) (fun b u e=>zAG _ e) (zAH _) ?_,rfl,q _ hf⟩
 exact ⟨z,us,r,⟨_,zAT _ rfl,rfl,_,rfl⟩⟩
theorem Ye (h:PA X es t):PE X (.List es pos) (IZ t):=by
 intro pins s σ H Q I hq
 refine wpAny_List_spliced (Zb (h pos pins s σ H _ I hq) fun us s1 ⟨xs,H1,I1,r,z,q⟩=>⟨by rw [<-r.length];exact z,?_⟩)
 have hf:H1 s1.heap.objs.size=none:=I1.hok.fresh (zAH _)
 refine ⟨.ref s1.heap.objs.size,upd H1 s1.heap.objs.size (.lst xs),I1.laid (t':=s1.toks) (fun b u e=>zAG _ e) (zAH _) ?_,rfl,q _ hf⟩
 exact ⟨z,us,0,r,zAT _ rfl⟩
end
abbrev Sp:=List V->Hp->VK->XK->Prop
abbrev Xo:=List Env->Hp->Shared->XK->Value->Shared->Prop
structure Xv (P:Program) (w:World) (K:zAA) (mg:Str->Option Value) (base:Heap) (A:Around) (outer:List Env) (s:Shared) (H:Hp):Prop where
 frames:A.frames=some outer
 mod:Mod K mg base
 bs:∀ b o,base.get? b=some o->s.heap.get? b=some o/\H b=none
 bsz:base.objs.size<=s.heap.objs.size
 funs:s.heap.FunFrames base outer
 frf:∀ b∈frs outer,H b=none
 hok:YT P w H s.heap
 bare:AllBare s.gens
def CE (outer:List Env) (P:Program) (w:World) (H:Hp) (s:Shared) (Q:VK) (u:Value) (s':Shared):Prop:=
 ∃ v H',s'.os=s.os/\AllBare s'.gens/\Un (frs outer) [] H H' s.heap s'.heap/\YT P w H' s'.heap/\ZQ v u/\Q v H'
def CR (CX:Xo) (outer:List Env) (P:Program) (w:World) (H:Hp) (s:Shared) (Q:VK) (E:XK) (r:Result) (s':Shared):Prop:=
 match r with
 | .ok (.ret u)=>CE outer P w H s Q u s'
 | .ok _=>False
 | .error e=>CX outer H s E e s'
structure ZK (P:Program) (w:World) (K:zAA) (mg:Str->Option Value) (base:Heap) (CX:Xo) (k:Nat) (f:Addr) (fd:FuncData) (ps:List Str) (sp:Sp):Prop where
 len:∀ vs H Q E,sp vs H Q E->vs.length=ps.length
 run:∀ (A:Around) (outer:List Env) (s:Shared) (H:Hp) (args:Args) (us:List Value) (vs:List V) (Q:VK) (E:XK),ZZ k A->Xv P w K mg base A outer s H->BindsTo s fd args (ps.zip us)->ZN vs us->sp vs H Q E ->
  codeAny (model P w) A (.call (.ref f) args) (CR CX outer P w H s Q E) s
theorem ZK.imp {P:Program} {w:World} {K:zAA} {mg:Str->Option Value} {base:Heap} {CX:Xo} {k:Nat} {f:Addr} {fd:FuncData} {ps:List Str} {sp sp':Sp} (F:ZK P w K mg base CX k f fd ps sp)
  (h:∀ vs H Q E,sp' vs H Q E->sp vs H Q E):ZK P w K mg base CX k f fd ps sp':=
 ⟨fun vs H Q E q=>F.len vs H Q E (h _ _ _ _ q),fun A outer s H args us vs Q E hr he hb hv hs=>F.run A outer s H args us vs Q E hr he hb hv (h _ _ _ _ hs)⟩
theorem Xv.make {P:Program} {w:World} {K:zAA} {mg:Str->Option Value} {base:Heap} {A:Around} {outer:List Env} {s:Shared} {H:Hp} (e:Xv P w K mg base A outer s H) (C:Addr) (us:List Value) (kw:List (Str×Value)) :
  Xv P w K mg base (A.under (.builtin "type.__call__" ⟨.ref C :: us,kw⟩)) outer s H:=⟨by first | exact e.frames | (simpa [Around.under,Code.envs,Code.isFrame,pushEnvs] using e.frames),e.mod,e.bs,e.bsz,e.funs,e.frf,e.hok,e.bare⟩
section
variable {X:Cx} {pins:List (Addr×Obj)} {σ:St} {H:Hp} {s s':Shared}
theorem ZF.env0 (I:ZF X pins σ H s):Xv X.prog X.w X.K X.mg X.base X.A X.stack s H:=
 ⟨I.ok.frames,I.ok.mod,I.bs,zA7 I.ok.bsz I.sz,I.stack,I.stkFree,I.hok,I.bare⟩
theorem ZF.after {Q:VK} {u:Value} (I:ZF X pins σ H s) (h:CE X.stack X.prog X.w H s Q u s'):EP X pins σ Q u s':=by
 obtain ⟨v,H',os,bare,un,hok,r,q⟩:=h
 obtain ⟨hh,g,d,t,os'⟩:=s'
 obtain rfl:os'=s.os:=os
 exact ⟨v,H',I.call (h':=hh) (g':=g) (d':=d) (t':=t) (ch:=[]) un hok bare (fun b z=>absurd z (by simp)),r,q⟩
end
def PR (sp:Sp) (dvs:List V) (E:XK) (t:TA):TE:=fun σ H Q=>t σ H fun vs H1=>sp (vs++dvs) H1 Q E
def PM (C:Addr) (m:Str) (sp:Sp) (dvs:List V) (E:XK) (ta:TE) (t:TA):TE:=fun σ H Q=>ta σ H fun x H1=>∃ a dx fs,x=.ref a/\H1 a=some (.ins C dx fs)/\fs.lookup m=none /\
 t σ H1 fun vs H2=>sp (x :: (vs++dvs)) H2 Q E
def Pu (C:Addr) (sp:Sp) (dvs:List V) (E:XK) (t:TA):TE:=fun σ H Q=>t σ H fun vs H1=>∀ x dx,H1 x=none->H1 dx=none->dx≠x ->
 sp (.ref x :: (vs++dvs)) (upd (upd H1 dx (.own x)) x (.ins C dx [])) (fun v H2=>v=.non/\Q (.ref x) H2) E
def Zq (K:zAA) (fd:FuncData) (ps:List Str) (ds:List Value):Prop:=
 ∀ (s:Shared) (us:List Value),K.In s.heap->(us++ds).length=ps.length->BindsTo s fd ⟨us,[]⟩ (ps.zip (us++ds))
theorem Zq.all {K:zAA} {fd:FuncData} {ps:List Str} (h:∀ us:List Value,us.length=ps.length->bindArgs fd ⟨us,[]⟩=pure (ps.zip us)):Zq K fd ps []:=fun s us _ hl=>by
 rw [zAz] at hl ⊢
 exact .of_eq (h us hl)
def Wk (CX:Xo) (X:Cx) (E:XK):Prop:=∀ (pins:List (Addr×Obj)) (σ:St) (H:Hp) (s:Shared) (e:Value) (s':Shared),ZF X pins σ H s->CX X.stack H s E e s'->X.xe e s'
section
variable {X:Cx} {CX:Xo} {k:Nat} {f C:Addr} {fd:FuncData} {ps:List Str} {sp:Sp} {dvs:List V} {ds:List Value} {E:XK} {x m:Str} {p pos apos:Pos} {e o:Expr} {es:List Expr} {ta:TE} {t:TA}
theorem O8 {pins:List (Addr×Obj)} {σ:St} {H:Hp} {s:Shared} {Q:VK} {us:List Value} {vs:List V} (F:ZK X.prog X.w X.K X.mg X.base CX k f fd ps sp) (hr:ZZ k X.A) (hb:Zq X.K fd ps ds) (hd:ZN dvs ds) (hx:Wk CX X E)
  (I:ZF X pins σ H s) (r:ZN vs us) (h:sp (vs++dvs) H Q E):wpAny (model X.prog X.w) X.A (call (.ref f) us) (EP X pins σ Q) X.xe s:=by
 have r2:ZN (vs++dvs) (us++ds):=r.append hd
 have hl:(us++ds).length=ps.length:=by rw [<-r2.length];exact F.len _ _ _ _ h
 refine wpAny_call (codeAny_mono (F.run X.A X.stack s H ⟨us,[]⟩ (us++ds) (vs++dvs) Q E hr I.env0 (hb s us I.kIn hl) r2 h) fun r s' hq=>?_)
 cases r with
 | error e=>exact hx pins σ H s e s' I hq
 | ok fl=>
  cases fl with
  | ret u=>exact I.after hq
  | next=>exact False.elim hq
  | brk=>exact False.elim hq
  | cont=>exact False.elim hq
theorem Nr (F:ZK X.prog X.w X.K X.mg X.base CX k f fd ps sp) (hr:ZZ k X.A) (hg:Gl X x) (hm:X.mg x=some (.ref f)) (hk:zAp X.K (.ref f)=true) (hb:Zq X.K fd ps ds) (hd:ZN dvs ds) (hx:Wk CX X E)
  (ha:PA X (e :: es) t) (hdb:(x==("__debug__" : Str))=false:=by decide) (he:starEach (e :: es) X.env=(false,eval e X.env) :: starEach es X.env:=by rfl) (hpl:(backTo pos (starEach es X.env)).any (·.1)=false:=by rfl) :
  PE X (.Call (.Name x p) (e :: es) [] pos) (PR sp dvs E t):=by
 intro pins s σ H Q I h
 refine wpAny_Call_Name_kw (UA I hg hm ?_ hdb)
 refine zBn (h₀:=X.base) I.ok.mod.kin hk (Zb (ha pos pins s σ H _ I h) fun us s1 ⟨vs,H1,I1,r,q⟩=>⟨I1.kIn,?_⟩) he hpl
 exact O8 F hr hb hd hx I1 r q
theorem Gp {pl:Sem Bool} (he:PE X o ta) (c:WD X.K C) (hm:Wx X.K C m f) (F:ZK X.prog X.w X.K X.mg X.base CX k f fd ps sp) (hr:ZZ k X.A) (hb:Zq X.K fd ps ds) (hd:ZN dvs ds) (hx:Wk CX X E) (ha:PA X (e :: es) t)
  (hst:starEach (e :: es) X.env=(false,eval e X.env) :: starEach es X.env:=by rfl) (hpl:(backTo pos (starEach es X.env)).any (·.1)=false:=by rfl)
  (ht:eval (.Call (.Attribute o m apos) (e :: es) [] pos) X.env=(do
   let ov<-eval o X.env
   standAt apos.atName
   let (f,first)<-holding [ov] (getMethod ov m pl)
   callWith pos f first (backTo pos (starEach (e :: es) X.env)) (backToKw pos (keywordEach [] X.env))):=by rfl) :
  PE X (.Call (.Attribute o m apos) (e :: es) [] pos) (PM C m sp dvs E ta t):=by
 intro pins s σ H Q I h
 refine zC7 (pl:=pl) (Zb (he pins s σ H _ I h) fun u s1 ⟨x,H1,I1,rx,a,dx,fs,ex,ea,l,q⟩=>?_) ht
 subst ex
 obtain rfl:u=Value.ref a:=rx
 refine KY I1 ea c hm l ?_
 refine zBn (first:=[.ref a]) (h₀:=X.base) I.ok.mod.kin hm.kp (Zb (ha pos pins s1 σ H1 _ I1 q) fun us s2 ⟨vs,H2,I2,r,q2⟩=>⟨I2.kIn,?_⟩) hst hpl
 exact O8 (us:=.ref a :: us) (vs:=.ref a :: vs) F hr hb hd hx I2 (.cons rfl r) q2
theorem Dw {pl:Sem Bool} (he:PE X o ta) (c:WD X.K C) (hm:Wx X.K C m f) (F:ZK X.prog X.w X.K X.mg X.base CX k f fd ps sp) (hr:ZZ k X.A) (hb:Zq X.K fd ps ds) (hd:ZN dvs ds) (hx:Wk CX X E)
  (ht:eval (.Call (.Attribute o m apos) [] [] pos) X.env=(do
   let ov<-eval o X.env
   standAt apos.atName
   let (f,first)<-holding [ov] (getMethod ov m pl)
   callWith pos f first (backTo pos (starEach [] X.env)) (backToKw pos (keywordEach [] X.env))):=by rfl) :
  PE X (.Call (.Attribute o m apos) [] [] pos) (PM C m sp dvs E ta WX):=by
 intro pins s σ H Q I h
 refine zC7 (pl:=pl) (Zb (he pins s σ H _ I h) fun u s1 ⟨x,H1,I1,rx,a,dx,fs,ex,ea,l,q⟩=>?_) ht
 subst ex
 obtain rfl:u=Value.ref a:=rx
 refine KY I1 ea c hm l ?_
 exact zCS (first:=[.ref a]) I1.kIn hm.kp (O8 (us:=[.ref a]) (vs:=[.ref a]) F hr hb hd hx I1 (.cons rfl .nil) q)
structure Mk (K:zAA) (C f:Addr):Prop where
 makes:zCF K C=true
 init:zAW K (.ref C) "__init__" = some (some (.ref f))
 fn:zBg K (.ref f)=true
 kp:zAp K (.ref C)=true
theorem JB {pins:List (Addr×Obj)} {σ:St} {H:Hp} {s:Shared} {Q:VK} {us:List Value} {vs:List V} (M:Mk X.K C f) (F:ZK X.prog X.w X.K X.mg X.base CX k f fd ps sp) (hr:ZZ (k+1) X.A) (hb:Zq X.K fd ps ds) (hd:ZN dvs ds)
  (hx:Wk CX X E) (I:ZF X pins σ H s) (r:ZN vs us)
  (h:∀ x dx,H x=none->H dx=none->dx≠x->sp (.ref x :: (vs++dvs)) (upd (upd H dx (.own x)) x (.ins C dx [])) (fun v H2=>v=.non/\Q (.ref x) H2) E) :
  wpAny (model X.prog X.w) X.A (call (.ref C) us) (EP X pins σ Q) X.xe s:=by
 have hq:=h (s.heap.objs.size+1) s.heap.objs.size (I.hok.fresh (zB4 _)) (I.hok.fresh (zAH _)) (zAk (zBm _))
 have I2:=ZF.made (C:=C) I
 have r2:ZN (V.ref (s.heap.objs.size+1) :: (vs++dvs)) (Value.ref (s.heap.objs.size+1) :: (us++ds)):=.cons rfl (r.append hd)
 have hl:(Value.ref (s.heap.objs.size+1) :: us++ds).length=ps.length:=by
  have e:=r2.length
  rw [F.len _ _ _ _ hq] at e
  exact e.symm
 refine wpAny_call (HB (f:=f) I.kIn M.makes M.init (beq_iff_eq.mp M.fn) (codeAny_mono (F.run _ X.stack _ _ ⟨Value.ref (s.heap.objs.size+1) :: us,[]⟩ (Value.ref (s.heap.objs.size+1) :: (us++ds)) _ _ E (hr.make C us [])
  (I2.env0.make C us []) (hb _ (Value.ref (s.heap.objs.size+1) :: us) I2.kIn hl) r2 hq) fun r s' hq'=>?_))
 cases r with
 | error e=>exact hx pins σ _ _ e s' I2 hq'
 | ok fl=>
  cases fl with
  | ret u=>
   obtain ⟨v,H',I3,rv,ev,q3⟩:=I2.after hq'
   subst ev
   exact ⟨rv,⟨V.ref (s.heap.objs.size+1),H',I3,rfl,q3⟩⟩
  | next=>exact False.elim hq'
  | brk=>exact False.elim hq'
  | cont=>exact False.elim hq'
theorem HA (M:Mk X.K C f) (F:ZK X.prog X.w X.K X.mg X.base CX k f fd ps sp) (hr:ZZ (k+1) X.A) (hg:Gl X x) (hm:X.mg x=some (.ref C)) (hb:Zq X.K fd ps ds) (hd:ZN dvs ds) (hx:Wk CX X E)
  (ha:PA X (e :: es) t) (hdb:(x==("__debug__" : Str))=false:=by decide) (he:starEach (e :: es) X.env=(false,eval e X.env) :: starEach es X.env:=by rfl) (hpl:(backTo pos (starEach es X.env)).any (·.1)=false:=by rfl) :
  PE X (.Call (.Name x p) (e :: es) [] pos) (Pu C sp dvs E t):=by
 intro pins s σ H Q I h
 refine wpAny_Call_Name_kw (UA I hg hm ?_ hdb)
 refine zBn (h₀:=X.base) I.ok.mod.kin M.kp (Zb (ha pos pins s σ H _ I h) fun us s1 ⟨vs,H1,I1,r,q⟩=>⟨I1.kIn,?_⟩) he hpl
 exact JB M F hr hb hd hx I1 r q
theorem Fg (M:Mk X.K C f) (F:ZK X.prog X.w X.K X.mg X.base CX k f fd ps sp) (hr:ZZ (k+1) X.A) (hg:Gl X x) (hm:X.mg x=some (.ref C)) (hb:Zq X.K fd ps ds) (hd:ZN dvs ds) (hx:Wk CX X E)
  (hdb:(x==("__debug__" : Str))=false:=by decide):PE X (.Call (.Name x p) [] [] pos) (Pu C sp dvs E WX):=by
 intro pins s σ H Q I h
 refine wpAny_Call_Name_kw (UA I hg hm ?_ hdb)
 exact zCS I.kIn M.kp (JB (us:=[]) M F hr hb hd hx I .nil h)
end
def PK (X:Cx) (kws:List Keyword) (t:TA):Prop:=
 ∀ (pos:Pos) (pins:List (Addr×Obj)) (s:Shared) (σ:St) (H:Hp) (Q:List V->Hp->Prop),ZF X pins σ H s->t σ H Q->wpAny (model X.prog X.w) X.A (evalAll ((backToKw pos (keywordEach kws X.env)).map (·.2))) (AP X pins σ Q) X.xe s
section
variable {X:Cx} {CX:Xo} {k:Nat} {f C:Addr} {fd:FuncData} {ps ks:List Str} {sp:Sp} {E:XK} {x m:Str} {p pos apos kpos:Pos} {e o:Expr} {es:List Expr} {kws:List Keyword} {te ta:TE} {t tk:TA} {nm:Option Str}
theorem JT:PK X [] WX:=fun _ _ _ _ H Q I h=>wpAny_evalAll_nil ⟨[],H,I,.nil,h⟩
theorem Kc (ha:PE X e te) (hr:PK X kws t):PK X (⟨nm,e,kpos⟩ :: kws) (Ym te t):=by
 intro pos pins s σ H Q I h
 show wpAny _ _ (evalAll ((do let v<-eval e X.env;standAt pos;pure v) :: (backToKw pos (keywordEach kws X.env)).map (·.2))) _ _ s
 refine wpAny_evalAll_cons (wpAny_bind (Zb (ha pins s σ H _ I h) fun u s1 ⟨x,H1,I1,r1,q1⟩=>wpAny_bind (wpAny_standAt (wpAny_pure ?_))))
 exact Zb (hr pos pins s1 σ H1 _ I1 q1) fun us s2 ⟨xs,H2,I2,r2,q2⟩=>⟨x :: xs,H2,I2,.cons r1 r2,q2⟩
variable {g:List Value->List Value->List Value} {gV:List V->List V->List V}
end
structure ZC (N P:List Str) (sc:Scope):Prop where
 kind:sc.kind=.function
 co:sc.isCoroutine=false
 gen:sc.isGenerator=false
 nd:N.Nodup
 pre:N.take P.length=P
 par:∀ x∈P,sc.names.lookup x=some .local\/sc.names.lookup x=some .cell
 nofree:∀ y∈sc.names,y.2≠.free
theorem KA {kindOf:Str->Option NameKind} {x:Str}:∀ {binds:List (Str×Value)} {m:Str->Option Value},(∀ v,(x,v)∉binds)->bindL kindOf binds m x=m x
 | [],_,_=>rfl
 | (n,v) :: r,m,h=>by
  unfold bindL
  rw [KA fun w hw=>h w (zAP _ hw)]
  split
  ·have:x≠n:=by rintro rfl;exact h v zAR
   simp [this]
  ·rfl
theorem IB {kindOf:Str->Option NameKind} {x:Str}:∀ {binds:List (Str×Value)} {m:Str->Option Value},(∀ v,(x,v)∉binds)->bindC kindOf binds m x=m x
 | [],_,_=>rfl
 | (n,v) :: r,m,h=>by
  unfold bindC
  rw [IB fun w hw=>h w (zAP _ hw)]
  split
  ·rfl
  ·have:x≠n:=by rintro rfl;exact h v zAR
   simp [this]
theorem J9 {kindOf:Str->Option NameKind} {x:Str} {v:Value}:∀ {P:List Str} {vs:List Value} {i:Nat} {m:Str->Option Value},P.Nodup->P[i]? = some x->vs[i]? = some v->kindOf x=some .local ->
  bindL kindOf (P.zip vs) m x=some v
 | [],_,_,_,_,h,_,_=>by simp at h
 | _ :: _,[],_,_,_,_,h,_=>by simp at h
 | p :: P,w :: vs,0,m,nd,h1,h2,hk=>by
  simp at h1 h2;subst h1;subst h2
  show bindL kindOf ((p,w) :: P.zip vs) m p=_
  unfold bindL
  rw [KA fun v hv=>(zBP.mp nd).1 (zCx hv).1,if_pos hk]
  simp
 | p :: P,w :: vs,i+1,m,nd,h1,h2,hk=>by
  show bindL kindOf ((p,w) :: P.zip vs) m x=_
  unfold bindL
  exact J9 (i:=i) (zBP.mp nd).2 (by simpa using h1) (by simpa using h2) hk
theorem Iu {kindOf:Str->Option NameKind} {x:Str} {v:Value}:∀ {P:List Str} {vs:List Value} {i:Nat} {m:Str->Option Value},P.Nodup->P[i]? = some x->vs[i]? = some v->kindOf x≠some .local ->
  bindC kindOf (P.zip vs) m x=some v
 | [],_,_,_,_,h,_,_=>by simp at h
 | _ :: _,[],_,_,_,_,h,_=>by simp at h
 | p :: P,w :: vs,0,m,nd,h1,h2,hk=>by
  simp at h1 h2;subst h1;subst h2
  show bindC kindOf ((p,w) :: P.zip vs) m p=_
  unfold bindC
  rw [IB fun v hv=>(zBP.mp nd).1 (zCx hv).1,if_neg hk]
  simp
 | p :: P,w :: vs,i+1,m,nd,h1,h2,hk=>by
  show bindC kindOf ((p,w) :: P.zip vs) m x=_
  unfold bindC
  exact Iu (i:=i) (zBP.mp nd).2 (by simpa using h1) (by simpa using h2) hk
def Vb (N:List Str) (vs:List V):St:=vs.map some++zBW (N.length - vs.length) none
def Xt (CX:Xo) (P:Program) (w:World) (K:zAA) (mg:Str->Option Value) (base:Heap) (N:List Str) (qual:Str) (scope:Scope) (f:Addr) (cd:Value) (A:Around) (outer:List Env) (s:Shared) (H:Hp) (E:XK):Cx where
 prog:=P
 w:=w
 K:=K
 mg:=mg
 base:=base
 A:=A.deeper (envOfC qual scope s.heap.objs.size f cd)
 N:=N
 s₀:=s
 H₀:=H
 env:=envOfC qual scope s.heap.objs.size f cd
 outer:=outer
 stack:=envOfC qual scope s.heap.objs.size f cd :: outer
 ex:=[]
 calm:=true
 fn:=fun _=>true
 pn:=[]
 xe:=fun e s'=>wpAny (model P w) (A.deeper (envOfC qual scope s.heap.objs.size f cd)) (leaving (envOfC qual scope s.heap.objs.size f cd) e) (fun _ s''=>CX outer H s E e s'') (fun e' s''=>CX outer H s E e' s'') s'
theorem LL {sc:Scope} {n:Nat} {x:Str} (h:sc.names.lookup x=some .cell):∃ c,(cellsFrom n sc.names []).lookup x=some c:=by
 have q:=zC1 sc.names n [] (.inl h)
 exact zBj.mp q
theorem B4 {CX:Xo} {P:Program} {w:World} {K:zAA} {mg:Str->Option Value} {base:Heap} {N ps:List Str} {qual:Str} {scope:Scope} {f:Addr} {cd:Value} {A:Around} {outer:List Env} {s s1:Shared} {H:Hp} {E:XK} {us:List Value} {vs:List V}
  (S:ZC N ps scope) (hd:A.handled=none) (e0:Xv P w K mg base A outer s H) (hl:vs.length=ps.length) (r:ZN vs us)
  (x:InCallC s s.heap.objs.size (bindL (envOfC qual scope s.heap.objs.size f cd).kindOf (ps.zip us) fun _=>none) (cellsFrom (s.heap.objs.size+1) scope.names []) (bindC (envOfC qual scope s.heap.objs.size f cd).kindOf (ps.zip us) fun _=>none) s1) :
  ZF (Xt CX P w K mg base N qual scope f cd A outer s H E) [] (Vb N vs) H s1:=by
 have hpl:ps.length<=N.length:=by have:=congrArg zCD S.pre;rw [zBk] at this;omega
 obtain ⟨h1,tk,rfl,hk⟩:=x.done
 have noA:∀ b:Addr,b∉(Xt CX P w K mg base N qual scope f cd A outer s H E).ex:=fun b z=>absurd (show b∈([]:List Addr) from z) (by simp)
 refine ⟨⟨e0.mod,S.kind,rfl,rfl,zAH _,fun y z c h1 h2=>?_,fun y hy=>?_,fun y c _ h=>?_,fun _=>hd,Around.frames_deeper e0.frames,.inr ⟨rfl,rfl⟩,fun b z=>absurd z (noA b),e0.bs,e0.bsz,fun b _ _=>noA b,fun b z=>absurd z (noA b),e0.funs,e0.frf⟩,
  rfl,e0.bare,Un.kept hk,⟨_,x.toInCall.ns,fun i y v h1 h2 h3=>?_⟩,fun y c h=>⟨_,x.cell y c h⟩,e0.hok.fresh (zAH _),fun y c h=>?_,fun p hp=>absurd (show p∈([]:List (Addr×Obj)) from hp) (by simp),e0.hok.kept hk,?_⟩
 ·exact name_of_addr x.apart (PySem.mem_of_lookup h1) (PySem.mem_of_lookup h2)
 ·have hy:scope.names.lookup y=some .cell\/scope.names.lookup y=some .free:=hy
  rcases hy with hy | hy
  ·exact LL hy
  ·exact absurd rfl (S.nofree _ (PySem.mem_of_lookup hy))
 ·exact zBb (x.above y c (PySem.mem_of_lookup h))
 ·have hi:i<vs.length:=by
   unfold Vb at h2
   by_cases hi:i<vs.length
   ·exact hi
   ·rw [zAw (by simpa using hi)] at h2
    rw [List.getElem?_replicate] at h2
    split at h2 <;> cases h2
  have ha:vs[i]? = some v:=by
   unfold Vb at h2
   rw [zA0 (by simpa using hi),zAN] at h2
   cases e:vs[i]? with
   | none=>rw [e] at h2;cases h2
   | some a=>rw [e] at h2;cases h2;rfl
  obtain ⟨u,hu,rv⟩:=r.get ha
  have hp:ps[i]? = some y:=by
   rw [<-S.pre,List.getElem?_take_of_lt (by omega)];exact h1
  have ndP:ps.Nodup:=by rw [<-S.pre];exact S.nd.sublist (List.take_sublist _ _)
  refine ⟨u,rv,?_⟩
  rcases S.par y (zAK hp) with k | k
  ·exact .inl ⟨k,J9 ndP hp hu k⟩
  ·obtain ⟨c,e⟩:=LL (n:=s.heap.objs.size+1) k
   refine .inr ⟨.inl k,c,e,?_⟩
   have q:=x.cell y c e
   rw [Iu ndP hp hu (by show scope.names.lookup y≠_;rw [k];decide)] at q
   exact q
 ·exact e0.hok.fresh (zBb (x.above y c (PySem.mem_of_lookup h)))
 ·unfold Vb
  show _=N.length
  rw [zAL,zAD,List.length_replicate]
  omega
theorem JA {CX:Xo} {P:Program} {w:World} {K:zAA} {mg:Str->Option Value} {base:Heap} {k:Nat} {f:Addr} {name qual:Str} {params:Arguments} {body:List Stmt} {scope:Scope} {dV kV doc pm cdv ct oc:Value} {an od:Option Addr}
  {osl:Array (Option Value)} {N ps:List Str} {sp:Sp} (lk:K.lookup f=some ⟨oc,od,.func (zBA name qual params body scope dV kV doc pm an cdv ct),osl⟩) (hcd:zBS K cdv qual=true) (S:ZC N ps scope)
  (len:∀ vs H Q E,sp vs H Q E->vs.length=ps.length)
  (hbody:∀ (A:Around) (outer:List Env) (s:Shared) (H:Hp) (vs:List V) (Q:VK) (E:XK),ZZ k (A.deeper (envOfC qual scope s.heap.objs.size f cdv))->sp vs H Q E ->
   ∃ t,XW (Xt CX P w K mg base N qual scope f cdv A outer s H E) body t/\t { nx:=fun _ H'=>Q .non H',rt:=Q } (Vb N vs) H) :
  ZK P w K mg base CX (k+1) f (zBA name qual params body scope dV kV doc pm an cdv ct) ps sp:=by
 refine ⟨len,fun A outer s H args us vs Q E hr e0 hb r hsp=>?_⟩
 have hl:=len _ _ _ _ hsp
 have KX:K.In s.heap:=e0.mod.kin.keeps fun b o e=>(e0.bs b o e).1
 have lim:s.heap.NoLimit:=e0.mod.nolimit.keeps fun b o e=>(e0.bs b o e).1
 have hkind:∀ y∈ps.zip us,scope.names.lookup y.1=some .local\/(scope.names.lookup y.1=some .cell/\((cellsFrom (s.heap.objs.size+1) scope.names []).lookup y.1).isSome=true):=fun ⟨n,v⟩ hy=>by
  rcases S.par n (zCx hy).1 with q | q
  ·exact .inl q
  ·exact .inr ⟨q,zC1 _ _ _ (.inl q)⟩
 refine codeAny_call_function hr.depth (KX _ _ lk) rfl S.co S.gen rfl (PySem.W.codeRec_of KX hcd) (hb _ _ _ _ ?_)
 refine wpAny_newFunctionEnv_cells S.kind hkind fun env he s1 x=>?_
 subst he
 refine ⟨lim.keeps x.toInCall.keep,codeAny_func ?_⟩
 obtain ⟨t,ht,hq⟩:=hbody A outer s H vs Q E (hr.deeper _) hsp
 have I:ZF (Xt CX P w K mg base N qual scope f cdv A outer s H E) [] (Vb N vs) H s1:=B4 S hr.hd e0 hl r x
 refine wpAny_mono (ht [] s1 (Vb N vs) H _ I hq) (fun fl s' hs=>?_) fun e s' hs=>hs
 have fin:∀ {σ':St} {H':Hp} {v:V} {u:Value},ZF (Xt CX P w K mg base N qual scope f cdv A outer s H E) [] σ' H' s'->ZQ v u->Q v H'->CE outer P w H s Q u s':=
  fun {σ' H' v u} J rv q=>⟨v,H',J.os,J.bare,J.base,J.hok,rv,q⟩
 cases fl with
 | ret u=>
  obtain ⟨v,σ',H',J,rv,q⟩:=hs
  exact fin J rv q
 | next=>
  obtain ⟨σ',H',J,q⟩:=hs
  exact fin (v:=V.non) (u:=Value.none) J rfl q
 | brk=>
  obtain ⟨_,_,_,q⟩:=hs
  exact False.elim q
 | cont=>
  obtain ⟨_,_,_,q⟩:=hs
  exact False.elim q
section
variable {X:Cx} {x:Str} {p pos:Pos} {e:Expr} {es:List Expr} {t:TA} {id T:String} {r:List V->Hp->VK->Prop}
def LJ (r:List V->Hp->VK->Prop) (t:TA):TE:=fun σ H Q=>t σ H fun vs H1=>r vs H1 Q
theorem Zw (hc:WT X (.builtin id) r) (hg:Gl X x) (hm:X.mg x=none) (hv:bootBuiltins x=some (.builtin id)) (ha:PA X (e :: es) t) (hn:x ≠ "__name__" :=by decide) (hdb:(x==("__debug__" : Str))=false:=by decide)
  (he:starEach (e :: es) X.env=(false,eval e X.env) :: starEach es X.env:=by rfl) (hpl:(backTo pos (starEach es X.env)).any (·.1)=false:=by rfl):PE X (.Call (.Name x p) (e :: es) [] pos) (LJ r t):=by
 intro pins s σ H Q I h
 refine wpAny_Call_Name_kw (Ud I hg hm hv ?_ hn hdb)
 exact PyProof.Rows.callWith_builtin1 (Zb (ha pos pins s σ H _ I h) fun us s1 ⟨vs,H1,I1,r1,q1⟩=>hc pins s1 σ H1 vs us Q I1 r1 q1) he hpl
theorem Xh (hc:WT X (.type T) r) (hg:Gl X x) (hm:X.mg x=none) (hv:bootBuiltins x=some (.type T)) (ha:PA X (e :: es) t) (hn:x ≠ "__name__" :=by decide) (hdb:(x==("__debug__" : Str))=false:=by decide)
  (he:starEach (e :: es) X.env=(false,eval e X.env) :: starEach es X.env:=by rfl) (hpl:(backTo pos (starEach es X.env)).any (·.1)=false:=by rfl):PE X (.Call (.Name x p) (e :: es) [] pos) (LJ r t):=by
 intro pins s σ H Q I h
 refine wpAny_Call_Name_kw (Ud I hg hm hv ?_ hn hdb)
 exact PyProof.Rows.callWith_type1 (Zb (ha pos pins s σ H _ I h) fun us s1 ⟨vs,H1,I1,r1,q1⟩=>hc pins s1 σ H1 vs us Q I1 r1 q1) he hpl
end
end L2
namespace HT
open PySem PyProof.Rows
theorem rcLt_int (A:Around) (s:Shared) (a:Int) (t:Tok) (c:Int) (u:Tok) (prog:Program) (w:World) (E:Value->Shared->Prop) (Q:Value->Shared->Prop) (h:Q (.bool (decide (a<c))) s) :
  wpAny (model prog w) A (richCompare .Lt (.int a t) (.int c u)) Q E s:=
 (PyProof.Rows.lt_int h:wpAny (model prog w) A (compareOp .Lt (.int a t) (.int c u)) Q E s)
section
open PySem.SeqAt
open PySem.AutoSeq1 (wpAny_loadPart')
open PySem.MeetsSeq PySem.MeetsSeq2 PySem.MeetsSeq3
end
section
variable {prog:Program} {w:World} {A:Around} {E:Value->Shared->Prop} {s:Shared}
def sIx (n d:Nat):Option Int->Nat
 | none=>d
 | some v=>if v<0 then (v+(n:Int)).toNat else min v.toNat n
theorem sIx_nat (n d k:Nat):sIx n d (some (k:Int))=min k n:=by
 show (if (k:Int)<0 then ((k:Int)+(n:Int)).toNat else min (k:Int).toNat n)=min k n
 rw [if_neg (by omega),zBs]
end
end HT
namespace L2
open PySem PySem.Spec PyProof.Rows
abbrev TO:=St->Hp->(Option Int->Hp->Prop)->Prop
def PO (X:Cx) (e:Option Expr) (t:TO):Prop:=
 ∀ (pins:List (Addr×Obj)) (s:Shared) (σ:St) (H:Hp) (Q:Option Int->Hp->Prop),ZF X pins σ H s->t σ H Q ->
  wpAny (model X.prog X.w) X.A (evalPart e X.env) (fun u s'=>∃ o H',ZF X pins σ H' s'/\IsPart u o/\Q o H') X.xe s
def FQ (t:TE):TO:=fun σ H Q=>t σ H fun x H1=>∃ i,x=.int i/\Q (some i) H1
theorem JK {ns:List Int}:∀ {us:List Value},ZN (ns.map V.int) us->IntsAre us ns:=by
 induction ns with
 | nil=>intro us r;rw [zB8] at r;cases r;exact .nil
 | cons n ns ih=>
  intro us r
  rw [zAr] at r
  cases r with
  | cons r1 r2=>
   obtain ⟨t,e⟩:=r1
   subst e
   exact .cons n t (ih r2)
section
variable {X:Cx} {e:Expr} {te:TE} {lo hi:Option Expr} {tl th:TO} {pos p2:Pos}
theorem LT (h:PE X e te):PO X (some e) (FQ te):=by
 intro pins s σ H Q I hw
 rw [evalPart_some]
 refine Zb (h pins s σ H _ I hw) fun u s1 ⟨x,H1,I1,r1,q1⟩=>?_
 obtain ⟨i,rfl,q⟩:=q1
 obtain ⟨t,rfl⟩:=r1
 exact ⟨some i,H1,I1,.int i t,q⟩
def Lk (X:Cx) (r:V->Option Int->Option Int->Hp->VK->Prop):Prop:=
 ∀ (pins:List (Addr×Obj)) (s:Shared) (σ:St) (H:Hp) (x:V) (v vl vu:Value) (lo hi:Option Int) (sl:Addr) (Q:VK),ZF X pins σ H s->ZQ x v->s.heap.IsSliceOf sl vl vu .none->IsPart vl lo->IsPart vu hi->r x lo hi H Q ->
  ∃ T id,typeLookup (.type T) "__getitem__" = pure (some (.builtin id))/\s.TypeIs v T/\wpAny (model X.prog X.w) X.A (getItem v (.ref sl)) (EP X pins σ Q) X.xe s
def FT (r:V->Option Int->Option Int->Hp->VK->Prop) (te:TE) (tl th:TO):TE:=fun σ H Q=>te σ H fun x H1=>tl σ H1 fun l H2=>th σ H2 fun u H3=>r x l u H3 Q
theorem FP {r:V->Option Int->Option Int->Hp->VK->Prop} (hr:Lk X r) (he:PE X e te) (hl:PO X lo tl) (hu:PO X hi th):PE X (.Subscript e (.Slice lo hi none p2) pos) (FT r te tl th):=by
 intro pins s σ H Q I h
 refine Subscript_ (Zb (he pins s σ H _ I h) fun v s1 ⟨x,H1,I1,r1,q1⟩=>?_)
 refine wpAny_Slice (Zb (hl pins s1 σ H1 _ I1 q1) fun vl s2 ⟨l,H2,I2,pl,q2⟩=>Zb (hu pins s2 σ H2 _ I2 q2) fun vu s3 ⟨u,H3,I3,pu,q3⟩=>?_)
 rw [evalPart_none]
 refine wpAny_pure ?_
 have I4:ZF X pins σ H3 { s3 with heap:=s3.heap.push { cls:=.type "slice",data:=.fields #[vl,vu,.none] } }:=I3.kept (t':=s3.toks) fun b ob q=>zAG _ q
 obtain ⟨T,id,hT,ht,hg⟩:=hr pins { s3 with heap:=s3.heap.push { cls:=.type "slice",data:=.fields #[vl,vu,.none] } } σ H3 x v vl vu l u s3.heap.objs.size Q I4 r1 (Heap.IsSliceOf.new ..) pl pu q3
 show wpAny (model X.prog X.w) X.A (subscriptTail e (.Slice lo hi none p2) v (.ref s3.heap.objs.size)) (EP X pins σ Q) X.xe { s3 with heap:=s3.heap.push { cls:=.type "slice",data:=.fields #[vl,vu,.none] } }
 exact tail_any (ops:=[.ref s3.heap.objs.size,v]) ht hT hg (by with_unfolding_all rfl)
def Uj (xs:List V) (lo hi:Option Int):List V:=(xs.drop (HT.sIx xs.length 0 lo)).take (HT.sIx xs.length xs.length hi - HT.sIx xs.length 0 lo)
theorem Fm (xs:List V) (lo hi:Option Int):(Uj xs lo hi).length<=xs.length:=by
 unfold Uj
 rw [zBk,zCl]
 omega
end
def Vd (n:Nat) (i:Int):Option Nat:=if 0<=i then (if i<n then some i.toNat else none) else if -(n:Int)<=i then some (i+n).toNat else none
def XQ {α:Type} (xs:List α) (i:Int):Option α:=(Vd xs.length i).bind fun j=>xs[j]?
theorem KK {n:Nat} {i:Int} {j:Nat} (h:Vd n i=some j):seqIndex? i n=some j/\j<n /\ -(n:Int)<=i/\i<n:=by
 unfold Vd at h
 by_cases h0:0<=i
 ·rw [if_pos h0] at h
  by_cases h1:i<n
  ·rw [if_pos h1] at h
   have e:i.toNat=j:=zAh.inj h
   exact ⟨by rw [seqIndex_of h0 h1,e],by omega,by omega,h1⟩
  ·rw [if_neg h1] at h;cases h
 ·rw [if_neg h0] at h
  by_cases h1 : -(n:Int)<=i
  ·rw [if_pos h1] at h
   have e:(i+n).toNat=j:=zAh.inj h
   exact ⟨by rw [seqIndex_neg (by omega) h1,e],by omega,h1,by omega⟩
  ·rw [if_neg h1] at h;cases h
theorem MD {α:Type} {xs:List α} {i:Int} {v:α} (h:XQ xs i=some v):∃ j,seqIndex? i xs.length=some j/\xs[j]? = some v/\j<xs.length /\ -(xs.length:Int)<=i/\i<xs.length:=by
 unfold XQ at h
 cases e:Vd xs.length i with
 | none=>rw [e] at h;cases h
 | some j=>
  rw [e] at h
  obtain ⟨h1,h2,h3,h4⟩:=KK e
  exact ⟨j,h1,h,h2,h3,h4⟩
theorem XL {α:Type} {xs:List α} {j:Nat} {v:α} (h:xs[j]? = some v):XQ xs (j:Int)=some v:=by
 have hj:j<xs.length:=(zAO.mp h).1
 have e:Vd xs.length (j:Int)=some j:=by
  unfold Vd
  rw [if_pos (by omega),if_pos (by omega)];simp
 unfold XQ;rw [e];exact h
theorem LF {α:Type} (xs:List α) (v:α):XQ (xs++[v]) (-1)=some v:=by
 have hl:(xs++[v]).length=xs.length+1:=by simp
 have e:Vd (xs++[v]).length (-1)=some xs.length:=by
  unfold Vd
  rw [hl,if_neg (by decide),if_pos (by omega)]
  congr 1
  omega
 unfold XQ
 rw [e]
 show (xs++[v])[xs.length]? = some v
 simp
def Fy (b:Expr):Prop:=∀ o i,subscripted b false o i=operate [o,i] (getItem o i)
def Vj (X:Cx) (r:R2):Prop:=
 ∀ (value slice:Expr) (pins:List (Addr×Obj)) (s:Shared) (σ:St) (H:Hp) (x y:V) (v u:Value) (Q:VK),ZF X pins σ H s->ZQ x v->ZQ y u->r x y H Q ->
  subscripted slice false v u=operate [v,u] (getItem v u)->wpAny (model X.prog X.w) X.A (subscriptTail value slice v u) (EP X pins σ Q) X.xe s
def JV (X:Cx) (id:String) (r:V->List V->Hp->VK->Prop):Prop:=
 ∀ (pins:List (Addr×Obj)) (s:Shared) (σ:St) (H:Hp) (x:V) (xs:List V) (v:Value) (us:List Value) (Q:VK),ZF X pins σ H s->ZQ x v->ZN xs us->r x xs H Q ->
  wpAny (model X.prog X.w) X.A (call (.builtin id) (v :: us)) (EP X pins σ Q) X.xe s
section
variable {X:Cx} {a b:Expr} {ta tb:TE} {pos:Pos}
theorem Vj.or {r r':R2} (h:Vj X r) (h':Vj X r'):Vj X (fun x y H Q=>r x y H Q\/r' x y H Q):=by
 intro value slice pins s σ H x y v u Q I rx ry q hs
 rcases q with q | q
 ·exact h value slice pins s σ H x y v u Q I rx ry q hs
 ·exact h' value slice pins s σ H x y v u Q I rx ry q hs
theorem Zo {r:R2} (hr:Vj X r) (ha:PE X a ta) (hb:PE X b tb) (hs:Fy b):PE X (.Subscript a b pos) (Uv r ta tb):=by
 intro pins s σ H Q I h
 exact Subscript_ (OZ ha hb I h fun v u s2 x y H2 I2 rx ry q=>hr a b pins s2 σ H2 x y v u Q I2 rx ry q (hs _ _))
def Ke (K:zAA):R2:=fun x y H Q=>∃ p xs i v,x=.ref p/\y=.int i/\ZM K H p xs/\XQ xs i=some v/\Q v H
def Xc (K:zAA):R2:=fun x y H Q=>∃ p xs i v,x=.ref p/\y=.int i/\Zj K H p xs/\XQ xs i=some v/\Q v H
def Lu:R2:=fun x y H Q=>∃ z i c,x=.str z/\y=.int i/\z.length<=sizeLine/\XQ z.cps.toList i=some c/\Q (.str ⟨#[c]⟩) H
theorem Zn:Vj X (Ke X.K):=by
 intro value slice pins s σ H x y v u Q I rx ry h hs
 obtain ⟨p,xs,i,z,rfl,rfl,hq,he,q⟩:=h
 cases rx
 obtain ⟨t,rfl⟩:=ry
 obtain ⟨its,r,pl,hz⟩:=I.list hq
 obtain ⟨j,h1,h2,h3,h4,h5⟩:=MD he
 obtain ⟨w,ew,rw'⟩:=r.get h2
 have hl:=r.length
 have hn:=Ui
 have fin:EP X pins σ Q w s:=⟨z,H,I,rw',q⟩
 by_cases h0:0<=i
 ·have hj:i.toNat=j:=by
   rw [seqIndex_of h0 h5] at h1
   exact zAh.inj h1
  exact item_listR pl.isList h0 (by omega) (by rw [hj];simpa using ew) fin hs
 ·have hj:(i+(its.toArray.size:Int)).toNat=j:=by
   rw [seqIndex_neg (by omega) h4] at h1
   rw [zAI,<-hl]
   exact zAh.inj h1
  exact subscriptTail_builtinR (x:=w) pl.isList.typeIs slot_list_getitem.lookup
   (wpAny_getItem_list_neg (Q:=fun r s'=>r=w/\EP X pins σ Q r s') pl.isList (by omega) (by rw [zAI] <;> omega) (by omega) (by rw [hj];simpa using ew) ⟨rfl,fin⟩) hs
theorem Zl:Vj X (Xc X.K):=by
 intro value slice pins s σ H x y v u Q I rx ry h hs
 obtain ⟨p,xs,i,z,rfl,rfl,hq,he,q⟩:=h
 cases rx
 obtain ⟨t,rfl⟩:=ry
 obtain ⟨its,r,pl,hz⟩:=I.tuple hq
 obtain ⟨j,h1,h2,h3,h4,h5⟩:=MD he
 obtain ⟨w,ew,rw'⟩:=r.get h2
 have hl:=r.length
 have hn:=Ui
 have fin:EP X pins σ Q w s:=⟨z,H,I,rw',q⟩
 exact subscriptTail_builtinR (x:=w) pl.typeIs slot_tuple_getitem.lookup
  (getItem_tuple (j:=j) (Q:=fun r s'=>r=w/\EP X pins σ Q r s') pl (by omega) (by omega) (by rw [zAI,<-hl];exact h1) (by simpa using ew) ⟨rfl,fin⟩) hs
theorem Il:Vj X Lu:=by
 intro value slice pins s σ H x y v u Q I rx ry h hs
 obtain ⟨z,i,c,rfl,rfl,hz,he,q⟩:=h
 obtain ⟨t,rfl⟩:=rx
 obtain ⟨t',rfl⟩:=ry
 obtain ⟨j,h1,h2,h3,h4,h5⟩:=MD he
 have hl:z.cps.toList.length=z.length:=by simp [Str.length]
 rw [hl] at h1 h4 h5
 have hn:=Ui
 exact tail_any (typeIs_str s z t) slot_str_getitem.lookup (getItem_str (c:=c) (by
  have e1:decide (i < -(2 ^ 63:Int))=false:=decide_eq_false (by omega)
  have e2:decide (i ≥ 2 ^ 63)=false:=decide_eq_false (by omega)
  rw [e1,e2,Bool.or_false]) (by rw [h1];simpa using h2) ⟨.str ⟨#[c]⟩,H,I.tok _,⟨_,rfl⟩,q⟩) hs
def YB (K:zAA):R2:=fun x y H Q=>Ke K x y H Q\/Xc K x y H Q\/Lu x y H Q
theorem YH:Vj X (YB X.K):=Zn.or (Zl.or Il)
theorem Dn (its:List Value) (n j:Nat) (u:Value):Obj.mapSeq (·.setIfInBounds j u) { cls:=.type "list",data:=.seq its.toArray n }={ cls:=.type "list",data:=.seq (its.set j u).toArray n }:=by
 simp [Obj.mapSeq]
theorem ZF.lst {pins:List (Addr×Obj)} {σ:St} {H:Hp} {s:Shared} {p:Addr} {xs:List V} (I:ZF X pins σ H s) (h:H p=some (.lst xs)) :
  ∃ (its:List Value) (n:Nat),ZN xs its/\s.heap.get? p=some { cls:=.type "list",data:=.seq its.toArray n }/\xs.length<=sizeLine:=by
 obtain ⟨z,its,n,r,e⟩:=I.hok p _ h
 exact ⟨its,n,r,e,z⟩
theorem ZF.lstUpd {pins:List (Addr×Obj)} {σ:St} {H:Hp} {s:Shared} {p:Addr} {xs ys:List V} {its its':List Value} {n n':Nat} {f:Obj->Obj} (I:ZF X pins σ H s) (h:H p=some (.lst xs))
  (ho:s.heap.get? p=some { cls:=.type "list",data:=.seq its.toArray n }) (hf:f { cls:=.type "list",data:=.seq its.toArray n }={ cls:=.type "list",data:=.seq its'.toArray n' }) (r:ZN ys its') (hz:ys.length<=sizeLine) (t:Nat) :
  ZF X pins σ (upd H p (.lst ys)) { s with heap:=s.heap.update p f,toks:=t }:=by
 have e:(s.heap.update p f).get? p=some { cls:=.type "list",data:=.seq its'.toArray n' }:=by
  rw [zA1 f ho (by rw [hf] <;> rfl),hf]
 refine I.write (x:=p) (e:=p) (by rw [h];trivial) (.inl rfl) (fun b u hb q=>(zAl _ _ (Ne.symm hb)).trans q) ⟨_,e⟩ ?_
 exact ⟨hz,its',n',r,e⟩
def D7:V->V->V->Hp->(Hp->Prop)->Prop:=fun o i v H Q=>∃ p xs k j,o=.ref p/\i=.int k/\H p=some (.lst xs)/\Vd xs.length k=some j/\Q (upd H p (.lst (xs.set j v)))
theorem Mr:JZ X D7:=by
 intro pins s σ H o i v ov iv u Q I ro ri rv h
 obtain ⟨p,xs,k,j,rfl,rfl,hp,hj,q⟩:=h
 cases ro
 obtain ⟨t,rfl⟩:=ri
 obtain ⟨its,n,r,ho,hz⟩:=I.lst hp
 obtain ⟨h1,h2,h3,h4⟩:=KK hj
 have hl:=r.length
 have hn:=Ui
 have I':ZF X pins σ (upd H p (.lst (xs.set j v))) { s with heap:=s.heap.update p (Obj.mapSeq (·.setIfInBounds j u)) }:=
  I.lstUpd hp ho (Dn its n j u) (r.set rv j) (by rw [List.length_set];exact hz) s.toks
 by_cases h0:0<=k
 ·have hk:k.toNat=j:=by
   rw [seqIndex_of h0 h4] at h1
   exact zAh.inj h1
  exact PySem.W.ki_setAt ho h0 (by omega) (by rw [zAI,<-hl];exact h4) (by rw [hk];exact ⟨_,I',q⟩)
 ·have hk:(k+(its.toArray.size:Int)).toNat=j:=by
   rw [seqIndex_neg (by omega) h3] at h1
   rw [zAI,<-hl]
   exact zAh.inj h1
  exact PySem.W.ki_setBack ho (by omega) (by rw [zAI,<-hl];exact h3) (by omega) (by rw [hk];exact ⟨_,I',q⟩)
theorem BV (lo hi:Option Int) (n:Nat):(sliceBounds lo hi none n).1=((HT.sIx n 0 lo:Nat):Int)/\(sliceBounds lo hi none n).2.1=((HT.sIx n n hi:Nat):Int)/\(sliceBounds lo hi none n).2.2=1:=by
 refine ⟨?_,?_,rfl⟩
 ·cases lo with
  | none=>simp [sliceBounds,HT.sIx]
  | some i=>
   simp only [sliceBounds,HT.sIx,Option.getD_none,show (1:Int) > 0 by decide,if_true]
   by_cases h:i<0
   ·simp only [h,if_true] <;> omega
   ·simp only [h,if_false] <;> omega
 ·cases hi with
  | none=>simp [sliceBounds,HT.sIx]
  | some i=>
   simp only [sliceBounds,HT.sIx,Option.getD_none,show (1:Int) > 0 by decide,if_true]
   by_cases h:i<0
   ·simp only [h,if_true] <;> omega
   ·simp only [h,if_false] <;> omega
theorem Cs (its:List Value) (lo hi:Option Int):slicePick its.toArray lo hi none=((its.drop (HT.sIx its.length 0 lo)).take (HT.sIx its.length its.length hi - HT.sIx its.length 0 lo)).toArray:=by
 obtain ⟨h1,h2,h3⟩:=BV lo hi its.toArray.size
 unfold slicePick
 rw [h1,h2,h3]
 simp only [sliceRange_one,pick_run,zAI] <;> rfl
def HS (K:zAA):V->Option Int->Option Int->Hp->VK->Prop:=fun x lo hi H Q=>∃ a xs,x=.ref a/\ZM K H a xs/\∀ p,H p=none->Q (.ref p) (upd H p (.lst (Uj xs lo hi)))
theorem Ho:Lk X (HS X.K):=by
 intro pins s σ H x v vl vu lo hi sl Q I rx hs pl pu h
 obtain ⟨a,xs,rfl,hx,q⟩:=h
 cases rx
 obtain ⟨its,r,ht,hz⟩:=I.list hx
 have hlen:=r.length
 refine ⟨"list",_,slot_list_getitem.lookup,ht.isList.typeIs,?_⟩
 refine wpAny_getItem_list_slice ht.isList hs pl pu .none (by simp) ?_ (by rw [zAI] <;> omega)
 rw [Cs,<-hlen]
 refine ⟨.ref s.heap.objs.size,_,I.laid (t':=s.toks) (o:=.lst (Uj xs lo hi)) (fun b ob q=>zAG _ q) (zAH _) ?_,rfl,q _ (I.hok.fresh (zAH _))⟩
 exact ⟨zA7 (Fm xs lo hi) hz,_,0,(r.drop (HT.sIx xs.length 0 lo)).take (HT.sIx xs.length xs.length hi - HT.sIx xs.length 0 lo),zAT _ rfl⟩
theorem XH:WT X (.builtin "len") (fun xs H Q=>∃ p ys,xs=[.ref p]/\(ZM X.K H p ys\/Zj X.K H p ys)/\Q (.int ys.length) H):=by
 intro pins s σ H xs us Q I r h
 obtain ⟨p,ys,rfl,hq,q⟩:=h
 obtain ⟨u,rfl,rx⟩:=Wg r
 cases rx
 have hn:=Ui
 rcases hq with hq | hq
 ·obtain ⟨its,r',pl,hz⟩:=I.list hq
  have hlen:=r'.length
  exact Calls.call_len_list pl.isList (by simp only [zAI] <;> omega) ⟨.int ys.length,H,I.tok _,⟨s.toks+1,by rw [zAI,hlen]⟩,q⟩
 ·obtain ⟨its,r',pl,hz⟩:=I.tuple hq
  have hlen:=r'.length
  exact len_tuple pl (by simp only [zAI] <;> omega) ⟨.int ys.length,H,I.tok _,⟨s.toks+1,by rw [zAI,hlen]⟩,q⟩
theorem GO:WT X (.builtin "len") (fun xs H Q=>∃ z,xs=[.str z]/\z.length<=sizeLine/\Q (.int z.length) H):=by
 intro pins s σ H xs us Q I r h
 obtain ⟨z,rfl,hz,q⟩:=h
 obtain ⟨u,rfl,t,rfl⟩:=Wg r
 have hn:=Ui
 exact len_str (by omega) ⟨.int z.length,H,I.tok _,⟨_,rfl⟩,q⟩
theorem UC:WT X (.type "list") (fun xs H Q=>∃ p ys,xs=[.ref p]/\(ZM X.K H p ys\/Zj X.K H p ys)/\∀ l,H l=none->Q (.ref l) (upd H l (.lst ys))):=by
 intro pins s σ H xs us Q I r h
 obtain ⟨p,ys,rfl,hq,q⟩:=h
 obtain ⟨u,rfl,rx⟩:=Wg r
 cases rx
 have fin:∀ (its:List Value),ZN ys its->ys.length<=sizeLine->∀ (h':Heap) (c':Nat),(∀ b o',s.heap.get? b=some o'->h'.get? b=some o') ->
   h'.get? s.heap.objs.size=some { cls:=.type "list",dict:=none,data:=.seq its.toArray c',slots:=#[] }->EP X pins σ Q (.ref s.heap.objs.size) { s with heap:=h' }:=fun its r' hz h' c' kp e=>
  ⟨.ref s.heap.objs.size,_,I.laid (t':=s.toks) kp (zAH _) (show Ze X.prog X.w _ h' _ (.lst ys) from ⟨hz,its,c',r',e⟩),rfl,q _ (I.hok.fresh (zAH _))⟩
 rcases hq with hq | hq
 ·obtain ⟨its,r',pl,hz⟩:=I.list hq
  have hlen:=r'.length
  obtain ⟨o,ho,hc,n,hd⟩:=pl.isList
  exact call_list_seq p (.inl rfl) ho hc hd (fun h' c' kp e=>fin its r' hz h' c' kp e) (by simp only [zAI] <;> omega)
 ·obtain ⟨its,r',pl,hz⟩:=I.tuple hq
  have hlen:=r'.length
  obtain ⟨o,ho,hc,n,hd⟩:=pl
  exact call_list_seq p (.inr rfl) ho hc hd (fun h' c' kp e=>fin its r' hz h' c' kp e) (by simp only [zAI] <;> omega)
theorem Uw:WT X (.type "tuple") (fun xs H Q=>∃ p ys,xs=[.ref p]/\((ZM X.K H p ys/\∀ l,H l=none->Q (.ref l) (upd H l (.tup ys)))\/(Zj X.K H p ys/\Q (.ref p) H))):=by
 intro pins s σ H xs us Q I r h
 obtain ⟨p,ys,rfl,h⟩:=h
 obtain ⟨u,rfl,rx⟩:=Wg r
 cases rx
 rcases h with ⟨hq,q⟩ | ⟨hq,q⟩
 ·obtain ⟨its,r',pl,hz⟩:=I.list hq
  have hlen:=r'.length
  refine call_tuple_list pl.isList (fun h' kp=>?_) (by simp only [zAI] <;> omega)
  have I1:ZF X pins σ H { s with heap:=h' }:=I.kept (t':=s.toks) kp
  have I2:ZF X pins σ (upd H h'.objs.size (.tup ys)) { s with heap:=h'.push { cls:=.type "tuple",data:=.seq its.toArray } }:=
   I1.laid (t':=s.toks) (fun b o e=>zAG _ e) (zAH _) (show Ze X.prog X.w _ _ _ (.tup ys) from ⟨hz,its,r',IsTup.new _ _⟩)
  exact ⟨.ref h'.objs.size,_,I2,rfl,q _ (I1.hok.fresh (zAH _))⟩
 ·obtain ⟨its,r',pl,hz⟩:=I.tuple hq
  exact call_tuple_same pl ⟨.ref p,H,I,rfl,q⟩
def Oq (K:zAA) (T:String) (x:V) (H:Hp):Prop:=match x with
 | .str _=>T = "str"
 | .int _=>T = "int"
 | .ref p=>(T = "list" /\ ∃ xs,ZM K H p xs)\/(T = "tuple" /\ ∃ o,K.lookup p=some o/\o.cls=.type "tuple" /\ o.dict=none) \/
   (T = "dict" /\ ((∃ kvs,H p=some (.dK kvs))\/∃ kvs,H p=some (.dT kvs)))\/(T = "set" /\ ∃ S n,H p=some (.set S n))
 | _=>False
theorem K3 {pins:List (Addr×Obj)} {σ:St} {H:Hp} {s:Shared} {T:String} {x:V} {v:Value} (I:ZF X pins σ H s) (r:ZQ x v) (ty:Oq X.K T x H) :
  s.TypeIs v T/\∀ a,v=.ref a->∃ ob,s.heap.get? a=some ob/\ob.dict=none:=by
 cases x with
 | str z=>
  obtain ⟨t,rfl⟩:=r
  cases (show T = "str" from ty)
  exact ⟨typeIs_str s z t,fun _ e=>nomatch e⟩
 | int i=>
  obtain ⟨t,rfl⟩:=r
  cases (show T = "int" from ty)
  exact ⟨typeIs_int s i t,fun _ e=>nomatch e⟩
 | ref p=>
  cases r
  rcases ty with ⟨rfl,xs,hq⟩ | ⟨rfl,o,hk,hc,hd⟩ | ⟨rfl,hk⟩ | ⟨rfl,S,n,hk⟩
  ·obtain ⟨its,_,pl,_⟩:=I.list hq
   refine ⟨pl.isList.typeIs,fun a e=>?_⟩
   cases e
   obtain ⟨o,n,e,c,hd,_⟩:=pl
   exact ⟨o,e,hd⟩
  ·refine ⟨⟨o,I.kIn p o hk,hc⟩,fun a e=>?_⟩
   cases e
   exact ⟨o,I.kIn _ o hk,hd⟩
  ·have z:∃ o,s.heap.get? p=some o/\o.ExactDict:=by
    rcases hk with ⟨kvs,hk⟩ | ⟨kvs,hk⟩
    ·obtain ⟨_,_,_,_,o,_,_,e,ex,_⟩:=I.hok p _ hk
     exact ⟨o,e,ex⟩
    ·obtain ⟨_,_,_,_,o,_,_,e,ex,_⟩:=I.hok p _ hk
     exact ⟨o,e,ex⟩
   obtain ⟨o,e,ex⟩:=z
   refine ⟨⟨o,e,ex.1⟩,fun a e2=>?_⟩
   cases e2
   exact ⟨o,e,ex.2.1⟩
  ·obtain ⟨o,_,_,_,e,ex,_⟩:=I.hok p _ hk
   refine ⟨⟨o,e,ex.1⟩,fun a e2=>?_⟩
   cases e2
   exact ⟨o,e,ex.2.1⟩
 | _=>exact False.elim ty
def Ci (K:zAA) (T:String) (r:V->List V->Hp->VK->Prop) (to:TE):TE:=fun σ H Q=>to σ H fun x H1=>Oq K T x H1/\r x [] H1 Q
def Bt (K:zAA) (T:String) (r:V->List V->Hp->VK->Prop) (to:TE) (t:TA):TE:=fun σ H Q=>to σ H fun x H1=>Oq K T x H1/\t σ H1 fun xs H2=>r x xs H2 Q
variable {o e:Expr} {es:List Expr} {to:TE} {t:TA} {name:Str} {apos cpos:Pos} {T id:String} {r:V->List V->Hp->VK->Prop}
theorem Jb (pa:PlainAttrs T) (slot:Slot T name id) (hty:typeOf (.builtin id)=pure (.type "method_descriptor")) (hm:JV X id r) (ho:PE X o to)
  (hbase:attributeBase o name X.env (eval o X.env)=eval o X.env:=by rfl) (hline:(apos.endLine==cpos.line)=true:=by rfl):PE X (.Call (.Attribute o name apos) [] [] cpos) (Ci X.K T r to):=by
 intro pins s σ H Q I h
 refine wpAny_Call_method0_late hbase hline (Zb (ho pins s σ H _ I h) fun v s1 ⟨x,H1,I1,r1,ty,q1⟩=>?_)
 obtain ⟨h1,h2⟩:=K3 I1 r1 ty
 exact ⟨T,id,pa,slot,hty,h1,h2,Calls.callWith_builtin rfl (PySem.evalArgs_none (hm pins s1 σ H1 x [] v [] Q I1 r1 .nil q1))⟩
theorem VV (pa:PlainAttrs T) (slot:Slot T name id) (hty:typeOf (.builtin id)=pure (.type "method_descriptor")) (hm:JV X id r) (ho:PE X o to) (ha:PA X (e :: es) t)
  (hbase:attributeBase o name X.env (eval o X.env)=eval o X.env:=by rfl)
  (hfew:((backTo cpos (starEach (e :: es) X.env)).all (fun x=>!x.1)&&(backToKw cpos (keywordEach [] X.env)).all (fun x=>x.1.isSome)
   && decide ((e :: es).length+([]:List Keyword).length+(if ([]:List Keyword).isEmpty then 0 else 1)<30))=true:=by rfl)
  (hline:(apos.endLine==cpos.line)=true:=by rfl) (hs:starEach (e :: es) X.env=(false,eval e X.env) :: starEach es X.env:=by rfl) (hplain:(backTo cpos (starEach es X.env)).any (·.1)=false:=by rfl) :
  PE X (.Call (.Attribute o name apos) (e :: es) [] cpos) (Bt X.K T r to t):=by
 intro pins s σ H Q I h
 refine wpAny_Call_method_late hbase hfew hline rfl (Zb (ho pins s σ H _ I h) fun v s1 ⟨x,H1,I1,r1,ty,q1⟩=>?_)
 obtain ⟨h1,h2⟩:=K3 I1 r1 ty
 refine ⟨T,id,pa,slot,hty,h1,h2,?_⟩
 have hA:=ha cpos pins s1 σ H1 _ I1 q1
 rw [hs] at hA ⊢
 refine Calls.callWith_builtin (by show (false || (backTo cpos (starEach es X.env)).any (·.1))=false;rw [hplain] <;> rfl) (Calls.evalArgs_plain ?_)
 exact Zb hA fun us s2 ⟨vs,H2,I2,r2,q2⟩=>hm pins s2 σ H2 x vs v us Q I2 r1 r2 q2
end
def No (X:Cx) (id:String) (r:V->List V->Hp->VK->Prop):Prop:=
 ∀ (pins:List (Addr×Obj)) (s:Shared) (σ:St) (H:Hp) (x:V) (xs:List V) (v:Value) (us:List Value) (Q:VK),ZF X pins σ H s->ZQ x v->ZN xs us->r x xs H Q ->
  wpAny (model X.prog X.w) X.A (call (.builtin id) (v :: us)) (EP X pins σ Q) X.xe s
theorem ZN.one:∀ {x:V} {us:List Value},ZN [x] us->∃ u,us=[u]/\ZQ x u
 | _,_,.cons r .nil=>⟨_,rfl,r⟩
theorem ZN.zero:∀ {us:List Value},ZN [] us->us=[]
 | _,.nil=>rfl
theorem ZN.dropLast {xs:List V} {us:List Value} (h:ZN xs us):ZN xs.dropLast us.dropLast:=by
 induction h with
 | nil=>exact .nil
 | cons r t ih=>
  cases t with
  | nil=>exact .nil
  | cons q t'=>exact .cons r ih
theorem Ea {α:Type} (l:List α):l.eraseIdx (l.length - 1)=l.dropLast:=by
 induction l with
 | nil=>rfl
 | cons a r ih=>
  cases r with
  | nil=>rfl
  | cons b r=>
   have e:(a :: b :: r).length - 1=((b :: r).length - 1)+1:=by
    have h1:(a :: b :: r).length=r.length+2:=rfl
    have h2:(b :: r).length=r.length+1:=rfl
    omega
   rw [e,List.eraseIdx_cons_succ,ih]
   all_goals rfl
section
variable {X:Cx} {pins:List (Addr×Obj)} {σ:St} {H:Hp} {s:Shared} {l b:Addr} {xs ys zs:List V}
theorem ZF.lset {its its':List Value} {n:Nat} {f:Array Value->Array Value} {t':Nat} (I:ZF X pins σ H s) (hH:H l=some (.lst xs))
  (e:s.heap.get? l=some { cls:=.type "list",data:=.seq its.toArray n }) (hf:f its.toArray=its'.toArray) (hv:ZN ys its') (hz:ys.length<=sizeLine) :
  ZF X pins σ (upd H l (.lst ys)) { s with heap:=s.heap.update l (Obj.mapSeq f),toks:=t' }:=by
 have q:=PySem.IsL.update e f
 rw [hf] at q
 refine I.write (x:=l) (e:=l) (by rw [hH];exact trivial) (.inl rfl) (fun b' u hb hu=>(zAl s.heap (Obj.mapSeq f) (Ne.symm hb)).trans hu) ⟨_,q⟩ ?_
 exact ⟨hz,its',_,hv,q⟩
theorem ZF.lnew {its:List Value} {t':Nat} (I:ZF X pins σ H s) (hv:ZN ys its) (hz:ys.length<=sizeLine) :
  ZF X pins σ (upd H s.heap.objs.size (.lst ys)) { s with heap:=s.heap.push { cls:=.type "list",data:=.seq its.toArray },toks:=t' }:=
 I.laid (fun _ _ q=>zAG _ q) (zAH _) ⟨hz,its,0,hv,zAT _ rfl⟩
theorem ZF.fresh (I:ZF X pins σ H s):H s.heap.objs.size=none:=I.hok.fresh (zAH _)
theorem ZF.lstM (I:ZF X pins σ H s) (hH:H l=some (.lst xs)):xs.length<=sizeLine/\∃ (its:List Value) (n:Nat),ZN xs its/\xs.length=its.length/\s.heap.get? l=some { cls:=.type "list",data:=.seq its.toArray n }:=by
 obtain ⟨z,its,n,r,e⟩:=I.hok l _ hH
 exact ⟨z,its,n,r,r.length,e⟩
end
section
variable {X:Cx}
def HD:V->List V->Hp->VK->Prop:=fun x vs H Q=>∃ l xs y,x=.ref l/\vs=[y]/\H l=some (.lst xs)/\xs.length<sizeLine/\Q .non (upd H l (.lst (xs++[y])))
theorem VO:No X "list.append" HD:=by
 intro pins s σ H x vs v us Q I rx rv h
 obtain ⟨l,xs,y,rfl,rfl,hH,hz,q⟩:=h
 cases rx
 obtain ⟨u,rfl,ru⟩:=rv.one
 obtain ⟨z,its,n,r,hl,e⟩:=I.lstM hH
 refine call_meets F.slot_list_append ⟨_,e,rfl⟩ F.entry_list_append (F.args_list_append_2 _ _) (PySem.list_append l its.toArray n u (by rw [zAI];omega)) ⟨e,?_⟩
 refine ⟨.non,_,I.lset (its':=its++[u]) hH e (by simp) (r.append (.cons ru .nil)) ?_,rfl,q⟩
 rw [zAL,zBw]
 omega
def HY:V->List V->Hp->VK->Prop:=fun x vs H Q=>∃ l xs y,x=.ref l/\vs=[]/\H l=some (.lst xs)/\xs[xs.length - 1]? = some y/\Q y (upd H l (.lst xs.dropLast))
theorem Fb:No X "list.pop" HY:=by
 intro pins s σ H x vs v us Q I rx rv h
 obtain ⟨l,xs,y,rfl,rfl,hH,hy,q⟩:=h
 cases rx
 have hus:=rv.zero
 subst hus
 obtain ⟨z,its,n,r,hl,e⟩:=I.lstM hH
 obtain ⟨u,hu,ru⟩:=r.get hy
 have hy':its.toArray[its.toArray.size - 1]? = some u:=by
  show its.toArray[its.length - 1]? = some u
  rw [<-zBB,<-hl]
  exact hu
 refine call_meets F.slot_list_pop ⟨_,e,rfl⟩ F.entry_list_pop (F.args_list_pop_1 _) (MeetsSeq.list_pop_last l its.toArray n u hy' (by rw [zAI];omega)) ⟨e,?_⟩
 refine ⟨y,_,I.lset (its':=its.dropLast) hH e ?_ r.dropLast ?_,ru,q⟩
 ·show its.toArray.eraseIdxIfInBounds (its.toArray.size - 1)=its.dropLast.toArray
  rw [zAI,List.eraseIdxIfInBounds_toArray,Ea]
 ·rw [List.length_dropLast]
  omega
def Cq:V->List V->Hp->VK->Prop:=fun x vs H Q=>∃ l xs,x=.ref l/\vs=[]/\H l=some (.lst xs)/\Q .non (upd H l (.lst []))
theorem Ca:No X "list.clear" Cq:=by
 intro pins s σ H x vs v us Q I rx rv h
 obtain ⟨l,xs,rfl,rfl,hH,q⟩:=h
 cases rx
 have hus:=rv.zero
 subst hus
 obtain ⟨z,its,n,r,hl,e⟩:=I.lstM hH
 refine call_meets F.slot_list_clear ⟨_,e,rfl⟩ F.entry_list_clear (F.args_list_clear_1 _) (AutoSeq1.list_clear_list_0 l its.toArray n (by rw [zAI];omega)) ⟨e,?_⟩
 exact ⟨.non,_,I.lset (its':=[]) (ys:=[]) hH e rfl .nil (zAe _),rfl,q⟩
def Jo:R2:=fun x y H Q=>∃ l b xs zs,x=.ref l/\y=.ref b/\H l=some (.lst xs)/\H b=some (.lst zs)/\xs.length+zs.length<=sizeLine/\∀ p,H p=none->Q (.ref p) (upd H p (.lst (xs++zs)))
theorem Pc:YV X (binaryOp .Add) Jo:=by
 intro pins s σ H x y v u Q I rx ry h
 obtain ⟨l,b,xs,zs,rfl,rfl,hH,hB,hz,q⟩:=h
 cases rx
 cases ry
 obtain ⟨z,its,n,r,hl,e⟩:=I.lstM hH
 obtain ⟨z2,its2,n2,r2,hl2,e2⟩:=I.lstM hB
 refine PySem.P.add_list e e2 ?_ (by rw [zAI,zAI];omega)
 have ea:its.toArray++its2.toArray=(its++its2).toArray:=by simp
 rw [ea]
 exact ⟨.ref _,_,I.lnew (t':=s.toks) (r.append r2) (by rw [zAL];omega),rfl,q _ I.fresh⟩
end
section
variable {prog:Program} {w:World} {A:Around} {E:Value->Shared->Prop} {s:Shared}
set_option maxRecDepth 100000 in
end
section
variable {X:Cx}
end
end L2
namespace Att
open PySem PySem.W PySem.Calls PyProof.Rows
theorem E5 {P:Params} {h:Heap}:∀ (ns:List Int) (vs:List Value),WellAll P h vs (ns.map WData.int)->IntsAre vs ns:=by
 intro ns
 induction ns with
 | nil=>
  intro vs w
  rw [zB8] at w
  cases w
  exact .nil
 | cons n ns ih=>
  intro vs w
  rw [zAr] at w
  cases w with
  | cons a b=>
   cases a
   exact .cons _ _ (ih _ b)
theorem Gv {l:OpenLaw} {n:Nat} (hn:l.most=some n) {P:Params} {h:Heap} {args:List WData} {vals:List Value}
  (hpre:l.row.toRowW.claim.pre args=true) (hwl:WellAll P h vals args) :
  ∃ a vs ns,vals=[Value.ref a]/\args=[WData.list (ns.map WData.int)]/\h.get? a=some { cls:=.type "list",data:=.seq vs.toArray }/\IntsAre vs ns/\ns.length<=n:=by
 have hsh:WShape.hasAll [] args [.list .int]=true:=(pre_splitW hpre).1
 have hc:l.pre.holds [] { args:=args }=true:=(pre_splitW hpre).2
 obtain ⟨d,r,rfl,h1,h2⟩:=hasAllW_cons hsh
 obtain rfl:=hasAllW_nil h2
 obtain ⟨xs,rfl,h3⟩:=hasW_list h1
 obtain ⟨ns,rfl⟩:=items_int h3
 have hlen:ns.length<=n:=by
  unfold OpenLaw.pre at hc
  have h4:(WTm.not (.lt (.lit (.int (n:Int))) (.len (.arg 0)))).holds [] { args:=[.list (ns.map .int)] }=true:=by
   have h4:=(holds_andW hc).1
   rw [hn] at h4
   exact h4
  have h5:=condW_of h4 (w_not (w_lt w_lit (w_len_list (w_arg rfl))))
  rw [zAD] at h5
  refine zCs fun q=>?_
  have q':(n:Int)<((ns.length:Nat):Int):=by omega
  first
   | (rw [decide_eq_true q'] at h5;exact absurd h5 (by decide))
   | (simp at h5;omega)
 cases hwl with
 | cons w1 w2=>
  cases w2
  cases w1 with
  | list ho hall=>exact ⟨_,_,ns,rfl,rfl,ho,E5 ns _ hall,hlen⟩
theorem GB (l:OpenLaw) (args:List WData):l.row.toRowW.claim.post args (.bool true) args=true:=
 postW_of (r:=l.row.toRowW) (X:=(true==true))
  (show WShape.has [] (.bool true) .bool=true by first | rfl | decide | simp [WShape.has,WShape.arms,WShape.armsAll])
  (show (WTm.eq .res (.lit (.bool true))).value [] { args:=args,res:=some (.bool true),after:=args }=some (.bool (true==true)) from w_eq_bool (w_res rfl) w_lit) rfl
theorem attach_call {l:OpenLaw} {n:Nat} {q:Program} {loose:List Str} {XP:(Str->Option Value)->Heap->Prop} {YP:World->Heap->Prop} {d:DefRec}
  (hn:l.most=some n) (hdf:d.params.defaults=[])
  (call:∀ (w:World) (s₀ s₁:Shared) (mg mb:Str->Option Value) (fa:Addr) (o:Obj) (pm cd doc:Value) (a:Addr) (vs:List Value) (ns:List Int),
   Ground q loose [] XP w s₀ mg mb s₁.heap->YP w s₁.heap ->
   s₁.heap.get? fa=some o->o.data=.func (docDef d.name d.params d.body d.scope pm cd doc)->s₁.heap.CodeRec cd d.name->mg d.name=some (.ref fa) ->
   s₁.heap.get? a=some { cls:=.type "list",data:=.seq vs.toArray }->IntsAre vs ns->ns.length<=n->s₁.gens=#[] ->
   codeAny (model l.prog w) callerA (.call (.ref fa) ⟨[.ref a],[]⟩) (fun r s'=>r=.ok (.ret (.bool true))/\OldK s₁.heap s'.heap/\s'.os=s₁.os/\AllBare s'.gens) s₁) :
  WalkO q loose XP YP l.row.toRowW d [] (fun f vs=>PySem.call f vs):=by
 intro w s₀ s₁ mg mb G Y fa o pm cd doc dV kV ho hd hcd hD hmg hg args vals as hpre hlay hrd hwl hlo
 obtain rfl:dV=.none:=Dflts.none hD hdf
 obtain rfl:kV=.none:=Dflts.noKw hD
 obtain ⟨a,vs,ns,rfl,rfl,hobj,hints,hlen⟩:=Gv hn hpre hwl
 refine enter_call (codeAny_mono (call w s₀ s₁ mg mb fa o pm cd doc a vs ns G Y ho (fd_plain hd) hcd hmg hobj hints hlen hg) fun r s' hq=>?_)
 obtain ⟨rfl,h2,h3,h4⟩:=hq
 exact ⟨.inl ⟨.bool true,.bool true,[],rfl,fun _=>rfl,.bool true,GB l _,fun _=>⟨zDE.nil,fun _ hm=>(nomatch hm)⟩⟩,h2,h3,h4⟩
section
variable {prog:Program} {w:World} {A:Around} {E:Value->Shared->Prop} {s:Shared} {K:Frag}
def AS (h:Heap) (L d:Addr):List (Addr×Obj):=(zAi h.objs.size).filterMap fun a=>if a=L\/a=d then none else (h.get? a).map fun o=>(a,o)
end
end Att
namespace L2
open PySem PySem.Spec PyProof.Rows
theorem Nc:∀ {vs:List Value} {ns:List Int},IntsAre vs ns->ZN (ns.map V.int) vs
 | _,_,.nil=>.nil
 | _,_,.cons n t h=>.cons ⟨t,rfl⟩ (Nc h)
def Nx (H:Hp):Prop:=∀ b,H b=none\/∃ o xs,H b=some (.frz o (.lst xs))
theorem AK {P:Program} {w:World} {K:zAA} {mg mb:Str->Option Value} {CX:Xo} {k:Nat} {fa a:Addr} {fd:FuncData} {x:Str} {sp:Sp} {s₁:Shared} {vs:List Value} {ns:List Int}
  (KX:K.In s₁.heap) (hns:s₁.heap.Ns mainGlobals mg) (hb:s₁.heap.Ns builtinsNs mb) (hbb:∀ x:Str,x ≠ "__name__"->mb x=bootBuiltins x) (hlim:s₁.heap.NoLimit) (hg:s₁.gens=#[])
  (ha:s₁.heap.get? a=some { cls:=.type "list",data:=.seq vs.toArray }) (hi:IntsAre vs ns) (hl:ns.length<=sizeLine) (hr:ZZ k callerA)
  (F:∀ base:Heap,K.In base->base.Ns mainGlobals mg->ZK P w K mg base CX k fa fd [x] sp) (hbind:∀ (s:Shared) (u:Value),BindsTo s fd ⟨[u],[]⟩ [(x,u)])
  (hsp:∀ H:Hp,Nx H->ZM K H a (ns.map V.int)->sp [.ref a] H (fun v _=>v=.bl true) fun _ _ _=>False)
  (hCX:∀ H e s',CX [] H s₁ (fun _ _ _=>False) e s'->False) :
  codeAny (model P w) callerA (.call (.ref fa) ⟨[.ref a],[]⟩) (fun r s'=>r=.ok (.ret (.bool true))/\OldK s₁.heap s'.heap/\s'.os=s₁.os/\AllBare s'.gens) s₁:=by
 have rv:=Nc hi
 have lenV:=hi.length
 have core:∀ H:Hp,Nx H->ZM K H a (ns.map V.int)->YT P w H s₁.heap->(∀ b,H b≠none->b=a)->(H a≠none->K.lookup a=none) ->
   codeAny (model P w) callerA (.call (.ref fa) ⟨[.ref a],[]⟩) (fun r s'=>r=.ok (.ret (.bool true))/\OldK s₁.heap s'.heap/\s'.os=s₁.os/\AllBare s'.gens) s₁:=by
  intro H hO hS hok hA hK
  have base_of:∀ {b:Addr} {o:Obj},s₁.heap.get? b=some o->H b=none->(Vg s₁.heap H).get? b=some o:=fun e n=>Ge e n
  have noA:∀ {b:Addr} {o:Obj} {es:Array DictEntry} {ep:Nat},s₁.heap.get? b=some o->o.data=.dict es ep->H b=none:=fun {b o es ep} e d=>by
   cases q:H b with
   | none=>rfl
   | some u=>
    have e':b=a:=hA b (by rw [q];simp)
    subst e'
    rw [ha] at e;cases e
    have d':Data.seq vs.toArray _=Data.dict es ep:=d
    cases d'
  have nsK:∀ {b:Addr} {m:Str->Option Value},s₁.heap.Ns b m->(Vg s₁.heap H).Ns b m:=fun {b m} ⟨o,es,ep,e,d,r⟩=>⟨o,es,ep,base_of e (noA e d),d,r⟩
  have hKb:K.In (Vg s₁.heap H):=fun b o e=>base_of (KX b o e) (by
   cases q:H b with
   | none=>rfl
   | some u=>
    have e':b=a:=hA b (by rw [q];simp)
    subst e'
    rw [hK (by rw [q];simp)] at e;cases e)
  have hM:Mod K mg (Vg s₁.heap H):=⟨hKb,nsK hns,⟨mb,nsK hb,hbb⟩,let ⟨mc,h1,h2⟩:=hlim;⟨mc,nsK h1,h2⟩⟩
  have e0:Xv P w K mg (Vg s₁.heap H) callerA [] s₁ H:=⟨rfl,hM,fun b o e=>GN e,Nat.le_of_eq (Fk _ _),trivial,fun b hb=>absurd (show b∈([]:List Addr) from hb) (by simp),hok,.of_eq hg⟩
  refine codeAny_mono ((F _ hKb (nsK hns)).run callerA [] s₁ H ⟨[.ref a],[]⟩ [.ref a] [.ref a] _ _ hr e0 (hbind s₁ (.ref a)) (.cons rfl .nil) (hsp H hO hS)) fun r s' h=>?_
  cases r with
  | error e=>exact (hCX H e s' h).elim
  | ok fl=>
   cases fl with
   | next=>exact False.elim h
   | brk=>exact False.elim h
   | cont=>exact False.elim h
   | ret u=>
    obtain ⟨v,H',os,bare,un,hok',r',q⟩:=h
    have q':v=.bl true:=q
    subst q'
    obtain rfl:u=Value.bool true:=r'
    refine ⟨rfl,OldK.of_keep fun b o e=>?_,os,bare⟩
    cases q:H b with
    | none=>exact un.keep b o e q (by intro z;exact absurd (show b∈([]:List Addr) from z) (by simp)) (by simp)
    | some u=>
     rcases hO b with z | ⟨ob,xs,z⟩
     ·rw [q] at z;cases z
     ·have z2:=un.frzs b ob _ z
      obtain ⟨e1,_⟩:=hok b _ z
      obtain ⟨e2,_⟩:=hok' b _ z2
      rw [e] at e1;cases e1
      exact e2
 cases hk:K.lookup a with
 | some o=>
  have e:=KX a o hk
  rw [ha] at e
  cases e
  refine core (fun _=>none) (fun _=>.inl rfl) (.inr ⟨_,vs.toArray,_,hk,rfl,rfl,rfl,by rw [zAI,lenV];exact hl,by simpa using rv⟩) (fun b u z=>by have z':(none:Option HO)=some u:=z;cases z') (fun b z=>absurd rfl z) fun z=>absurd rfl z
 | none=>
  refine core (fun b=>if b=a then some (.frz { cls:=.type "list",data:=.seq vs.toArray } (.lst (ns.map V.int))) else none) (fun b=>?_) (.inl (.inr ⟨{ cls:=.type "list",data:=.seq vs.toArray },if_pos rfl⟩)) (fun b u z=>?_) (fun b z=>?_) fun _=>hk
  ·by_cases hb:b=a
   ·exact .inr ⟨_,_,if_pos hb⟩
   ·exact .inl (if_neg hb)
  ·by_cases hb:b=a
   ·have z':=(if_pos hb).symm.trans z
    cases z'
    subst hb
    exact ⟨ha,by rw [zAD];exact hl,vs,_,rv,ha⟩
   ·have z':=(if_neg hb).symm.trans z
    cases z'
  ·by_cases hb:b=a
   ·exact hb
   ·exact absurd (if_neg hb) z
abbrev AT {K:zAA} {h:Heap} (_:K.In h):zAA:=K
theorem PQ {l:zCf} {n k:Nat} {q:Program} {loose:List Str} {XP:(Str->Option Value)->Heap->Prop} {YP:World->Heap->Prop} {d:DefRec} {K:Params->zAA} {CX:World->Xo} {sp:World->Sp} {x:Str}
  (hn:l.most=some n) (hn2:n<=sizeLine) (hdf:d.params.defaults=[]) (hr:ZZ k callerA)
  (hY:∀ (w:World) (h:Heap),YP w h->(K w.params).In h)
  (F:∀ (w:World) (mg:Str->Option Value) (fa:Addr) (h:Heap),(K w.params).In h->h.Ns mainGlobals mg->mg d.name=some (.ref fa) ->
   ∃ fd:FuncData,(∀ (s:Shared) (u:Value),BindsTo s fd ⟨[u],[]⟩ [(x,u)]) /\
    ∀ base:Heap,(K w.params).In base->base.Ns mainGlobals mg->ZK l.prog w (K w.params) mg base (CX w) k fa fd [x] (sp w))
  (hsp:∀ (w:World) (H:Hp) (a:Addr) (ns:List Int),ns.length<=n->Nx H->ZM (K w.params) H a (ns.map V.int)->sp w [.ref a] H (fun v _=>v=.bl true) fun _ _ _=>False)
  (hCX:∀ (w:World) (H:Hp) (s:Shared) (e:Value) (s':Shared),CX w [] H s (fun _ _ _=>False) e s'->False) :
  PySem.W.WalkO q loose XP YP l.row.toRowW d [] (fun f vs=>PySem.call f vs):=by
 refine Att.attach_call hn hdf fun w s₀ s₁ mg mb fa o pm cd doc a vs ns G Y ho hd hcd hmg hobj hints hlen hg=>?_
 have KX:=hY w _ Y
 obtain ⟨fd,hb,hF⟩:=F w mg fa _ KX G.T.g hmg
 exact AK KX G.T.g G.T.b G.T.builtins G.T.nolimit hg hobj hints (zA7 hlen hn2) hr hF hb (fun H hO hS=>hsp w H a ns hlen hO hS) fun H e s'=>hCX w H s₁ e s'
def Xn (s:Stmt) (j:Nat):Stmt:=match s with
 | .ClassDef _ _ _ body _ _ _ _ _ _ _=>body.getD j (.Pass ⟨0,0,0,0⟩)
 | _=>.Pass ⟨0,0,0,0⟩
def Wc (s:Stmt):Arguments:=match s with
 | .FunctionDef _ a _ _ _ _ _ _ _ _=>a
 | _=>{ posonlyargs:=[],args:=[],vararg:=none,kwonlyargs:=[],kw_defaults:=[],kwarg:=none,defaults:=[] }
def Xu (s:Stmt):List Stmt:=match s with
 | .FunctionDef _ _ b _ _ _ _ _ _ _=>b
 | _=>[]
def Zf (s:Stmt):Scope:=match s with
 | .FunctionDef _ _ _ _ _ _ sc _ _ _=>sc
 | _=>{ kind:=.function,names:=[],isGenerator:=false,isCoroutine:=false }
abbrev ZV:Xo:=fun _ _ _ _ _ _=>False
abbrev E0:XK:=fun _ _ _=>False
theorem Yr {X:Cx}:Wk ZV X E0:=fun _ _ _ _ _ _ _ h=>h.elim
structure Zk (K:zAA) (x qual:Str) (st:Stmt) (f:Addr) (fd:FuncData):Prop where
 ex:∃ (oc:Value) (od:Option Addr) (kV doc pm:Value) (an:Option Addr) (cdv ct:Value) (osl:Array (Option Value)),
  fd=zBA x qual (Wc st) (Xu st) (Zf st) .none kV doc pm an cdv ct/\K.lookup f=some ⟨oc,od,.func fd,osl⟩/\zBS K cdv qual=true
 kp:zAp K (.ref f)=true
section
variable {P:Program} {w:World} {K:zAA} {mg:Str->Option Value} {base:Heap}
theorem Zk.ok {x qual:Str} {st:Stmt} {f:Addr} {fd:FuncData} {N ps:List Str} {k:Nat} {sp:Sp} (F:Zk K x qual st f fd) (S:ZC N ps (Zf st)) (len:∀ vs H Q E,sp vs H Q E->vs.length=ps.length)
  (hbody:∀ (cdv:Value) (A:Around) (outer:List Env) (s:Shared) (H:Hp) (vs:List V) (Q:VK) (E:XK),ZZ k (A.deeper (envOfC qual (Zf st) s.heap.objs.size f cdv))->sp vs H Q E ->
   ∃ t,XW (Xt ZV P w K mg base N qual (Zf st) f cdv A outer s H E).nox (Xu st) t/\t { nx:=fun _ H'=>Q .non H',rt:=Q } (Vb N vs) H):ZK P w K mg base ZV (k+1) f fd ps sp:=by
 obtain ⟨oc,od,kV,doc,pm,an,cdv,ct,osl,rfl,lk,hcd⟩:=F.ex
 refine JA lk hcd S len fun A outer s H vs Q E hr hsp=>?_
 obtain ⟨t,h,q⟩:=hbody cdv A outer s H vs Q E hr hsp
 exact ⟨t,h.nox,q⟩
theorem Zk.binds {x qual:Str} {st:Stmt} {f:Addr} {fd:FuncData} {ps:List Str} (F:Zk K x qual st f fd)
  (h:∀ (kV doc pm:Value) (an:Option Addr) (cdv ct:Value) (us:List Value),us.length=ps.length->bindArgs (zBA x qual (Wc st) (Xu st) (Zf st) .none kV doc pm an cdv ct) ⟨us,[]⟩=pure (ps.zip us)):Zq K fd ps []:=by
 obtain ⟨oc,od,kV,doc,pm,an,cdv,ct,osl,rfl,lk,hcd⟩:=F.ex
 exact .all (h kV doc pm an cdv ct)
theorem Vq {x qual:Str} {st:Stmt} {f:Addr} {oc:Value} {od an:Option Addr} {osl:Array (Option Value)} {kV doc pm cdv ct:Value} (l:K.lookup f=some ⟨oc,od,.func (zBA x qual (Wc st) (Xu st) (Zf st) .none kV doc pm an cdv ct),osl⟩)
  (c:zBS K cdv qual=true) (k:zAp K (.ref f)=true):Zk K x qual st f (zBA x qual (Wc st) (Xu st) (Zf st) .none kV doc pm an cdv ct):=⟨⟨oc,od,kV,doc,pm,an,cdv,ct,osl,rfl,l,c⟩,k⟩
end
theorem Us {A:Around} {k:Nat} (hr:ZZ k A):A.units+1<cLine:=Nat.lt_of_le_of_lt (Nat.add_le_add_left (by decide:1<=64) _) hr.units
theorem Yp {n:Nat} (h:n<=1000):n<sizeLine:=Nat.lt_of_le_of_lt h (by decide)
section
variable {X:Cx}
theorem pv (i:Nat) {x:Str} {pos:Pos} (hN:X.N[i]? = some x:=by rfl) (hv:NK X.env.scope x:=by first | exact Or.inl rfl | exact Or.inr (Or.inl rfl) | exact Or.inr (Or.inr rfl)) (hd:(x==("__debug__" : Str))=false:=by decide)
  (hcd:(x==("__classdict__" : Str))=false:=by decide):PE X (.Name x pos) (Of i):=Ce hN hv hd hcd
end
theorem Zp {A B:Prop} (h:B):if false=true then A else B:=by
 rw [if_neg zAF]
 exact h
theorem Zy {A B:Prop} (h:A):if true=true then A else B:=by
 rw [if_pos rfl]
 exact h
theorem Xs {c A B:Prop} [Decidable c] (h1:c->A) (h2:¬ c->B):if c then A else B:=by
 by_cases h:c
 ·rw [if_pos h]
  exact h1 h
 ·rw [if_neg h]
  exact h2 h
theorem B1 {c A B:Prop} [Decidable c] (hc:c) (h:B):if (!decide c)=true then A else B:=by
 rw [decide_eq_true hc]
 exact Zp h
def ZA (H H':Hp):Prop:=∀ b o,H b=some o->H' b=some o
theorem ZA.refl (H:Hp):ZA H H:=fun _ _ h=>h
theorem ZA.trans {H H1 H2:Hp} (a:ZA H H1) (b:ZA H1 H2):ZA H H2:=fun c o h=>b c o (a c o h)
theorem ZA.free {H H':Hp} (e:ZA H H') {l:Addr} (h:H' l=zCh):H l=zCh:=by
 cases q:H l with
 | none=>rfl
 | some o=>
  rw [e l o q] at h
  cases h
theorem ZA.seq {K:zAA} {H H':Hp} {a:Addr} {xs:List V} (e:ZA H H') (h:ZM K H a xs):ZM K H' a xs:=by
 rcases h with (h | ⟨o,h⟩) | h
 ·exact .inl (.inl (e _ _ h))
 ·exact .inl (.inr ⟨o,e _ _ h⟩)
 ·exact .inr h
section
variable {prog:Program} {w:World} {A:Around} {R:Result->Shared->Prop} {s:Shared}
theorem B0 {elt target iter:Expr} {ifs:List Expr} {scope:Scope} {pos:Pos} {it acc:Value} {env:Env} (I:Nat->Shared->Prop)
  (turn:∀ n s,I n s->wpAny (model prog w) A (pyNext it) (fun r s₁=>match r with
   | none=>R (.ok .next) s₁
   | some v=>wpAny (model prog w) A (letOwnedTupleGo target it v) (fun _ s₀=>wpAny (model prog w) A (assign target env v) (fun _ s₂=>
     wpAny (model prog w) A (forIn ifs true fun c r=>if r=true then do let ok<-isTrue c env (eval c env);pure (ForInStep.yield ok) else pure (ForInStep.yield r)) (fun ok s₃=>
      if ok=true then wpAny (model prog w) A (eval elt env) (fun x s₄=>
       wpAny (model prog w) A (call (.builtin "list.append") [acc,x]) (fun _ s₅=>∃ m,m<n/\I m s₅) (notedBy (model prog w) A env fun e s'=>R (.error e) s') s₄) (notedBy (model prog w) A env fun e s'=>R (.error e) s') s₃
      else ∃ m,m<n/\I m s₃) (notedBy (model prog w) A env fun e s'=>R (.error e) s') s₂) (notedBy (model prog w) A env fun e s'=>R (.error e) s') s₀) (notedBy (model prog w) A env fun e s'=>R (.error e) s') s₁) (notedBy (model prog w) A env fun e s'=>R (.error e) s') s)
  (n:Nat) (h:I n s) :
  codeAny (model prog w) A (.compLoop (.ListComp elt [⟨target,iter,ifs,0⟩] scope pos) 0 it acc env) R s:=by
 refine codeAny_loop rfl I (fun n s hI=>?_) n h
 show wpAny _ A ((compTurn (.ListComp elt [⟨target,iter,ifs,0⟩] scope pos) 0 it acc env).onRaise (fun x=>do noteFrame x env;theTreesLotGoes x)) _ _ s
 refine wpAny_noted ?_
 rw [compTurn_list]
 refine wpAny_bind (wpAny_standAt (wpAny_bind (wpAny_mono (turn n s hI) (fun r s₁ h₁=>?_) fun _ _ h'=>h')))
 cases r with
 | none=>exact wpAny_pure h₁
 | some v=>
  refine wpAny_bind (wpAny_mono h₁ (fun _ s₀ h₀=>?_) fun _ _ h'=>h')
  refine wpAny_bind (wpAny_mono h₀ (fun _ s₂ h₂=>wpAny_bind (wpAny_mono h₂ (fun ok s₃ h₃=>?_) fun _ _ h'=>h')) fun _ _ h'=>h')
  cases ok with
  | false=>exact wpAny_pure ⟨rfl,h₃⟩
  | true=>
   exact wpAny_bind (wpAny_bind (wpAny_mono h₃ (fun x s₄ h₄=>wpAny_bind (wpAny_mono h₄ (fun _ s₅ h₅=>wpAny_pure (wpAny_pure ⟨rfl,h₅⟩)) fun _ _ h'=>h')) fun _ _ h'=>h'))
end
def XJ (env:Env) (l:List (Str×NameKind)):List (Str×Addr)->List (Str×Addr):=fun cs=>l.foldl (fun cs p=>if p.2==.free then (p.1,(env.cells.lookup p.1).getD 0) :: cs else cs) cs
def QR (env:Env) (l:List (Str×NameKind)):Prop:=∀ p∈l,p.2=.free->∃ c,env.cells.lookup p.1=some c
theorem LD {env:Env} {scope:Scope} (h:QR env scope.names):closureFor scope env=pure (XJ env scope.names []):=by
 have all:∀ (l:List (Str×NameKind)) (cs:List (Str×Addr)),QR env l->(forIn l cs fun x r=>if (x.2==.free)=true then do let a<-cellOf env x.1;pure (ForInStep.yield ((x.1,a) :: r)) else pure (ForInStep.yield r):Sem (List (Str×Addr)))=pure (XJ env l cs):=by
  intro l
  induction l with
  | nil=>intro cs _;rfl
  | cons p r ih=>
   intro cs hf
   have e:XJ env (p :: r) cs=XJ env r (if p.2==.free then (p.1,(env.cells.lookup p.1).getD 0) :: cs else cs):=rfl
   rw [zCy,e]
   cases hk:(p.2==NameKind.free) with
   | true=>
    obtain ⟨c,hc⟩:=hf p zAR (eq_of_beq hk)
    have hcell:cellOf env p.1=pure c:=by unfold cellOf;rw [hc]
    simp only [if_true,hcell,pure_bind]
    rw [ih _ fun q hq=>hf q (zAP _ hq),hc]
    rfl
   | false=>
    simp only [zA6,if_false,pure_bind]
    exact ih _ fun q hq=>hf q (zAP _ hq)
 have:=all scope.names [] h
 simpa [closureFor] using this
theorem K9 {env:Env}:∀ {l:List (Str×NameKind)} {cs:List (Str×Addr)} {x:Str} {c:Addr},QR env l->(XJ env l cs).lookup x=some c->cs.lookup x=some c\/env.cells.lookup x=some c
 | [],_,_,_,_,h=>.inl h
 | p :: r,cs,x,c,hf,h=>by
  have h':(XJ env r (if p.2==.free then (p.1,(env.cells.lookup p.1).getD 0) :: cs else cs)).lookup x=some c:=h
  rcases K9 (fun q hq=>hf q (zAP _ hq)) h' with q | q
  ·cases hk:(p.2==NameKind.free) with
   | true=>
    rw [hk,if_pos rfl,zA8] at q
    cases e:x==p.1 with
    | true=>
     rw [e] at q
     obtain ⟨d,hd⟩:=hf p zAR (eq_of_beq hk)
     refine .inr ?_
     rw [eq_of_beq e,hd]
     rw [hd] at q
     exact q
    | false=>
     rw [e] at q
     exact .inl q
   | false=>
    rw [hk,if_neg zAF] at q
    exact .inl q
  ·exact .inr q
theorem Lr {env:Env} {x:Str}:∀ {l:List (Str×NameKind)} {cs:List (Str×Addr)},(cs.lookup x).isSome=true->((XJ env l cs).lookup x).isSome=true
 | [],_,h=>h
 | p :: r,cs,h=>by
  show ((XJ env r (if p.2==.free then (p.1,(env.cells.lookup p.1).getD 0) :: cs else cs)).lookup x).isSome=true
  refine Lr ?_
  cases hk:(p.2==NameKind.free) with
  | true=>
   rw [if_pos rfl,zA8]
   cases e:x==p.1 with
   | true=>rfl
   | false=>exact h
  | false=>rw [if_neg zAF];exact h
theorem Lc {env:Env} {x:Str}:∀ {l:List (Str×NameKind)} {cs:List (Str×Addr)},(x,NameKind.free)∈l->((XJ env l cs).lookup x).isSome=true
 | [],_,h=>by cases h
 | p :: r,cs,h=>by
  show ((XJ env r (if p.2==.free then (p.1,(env.cells.lookup p.1).getD 0) :: cs else cs)).lookup x).isSome=true
  rcases zAd.mp h with e | h
  ·subst e
   refine Lr ?_
   show (zBT x ((x,(env.cells.lookup x).getD 0) :: cs)).isSome=true
   rw [zA8,beq_self_eq_true]
   rfl
  ·exact Lc h
def YX (env:Env) (cl:List (Str×Addr)):Prop:=∀ x c,cl.lookup x=some c->env.cells.lookup x=some c
theorem YX.get {env:Env} {cl:List (Str×Addr)} {x:Str} {c:Addr} (h:YX env cl) (e:cl.lookup x=some c):env.cells.lookup x=some c:=h x c e
theorem Id {env:Env} {l:List (Str×NameKind)} (h:QR env l):YX env (XJ env l []):=fun x c e=>by
 rcases K9 h e with q | q
 ·cases q
 ·exact q
theorem K2 {env:Env}:∀ {names:List (Str×NameKind)} {x:Str},names.lookup x=some .free ->
  (names.map fun (n,k)=>if (k==NameKind.free&&env.scope.kind==.function&&env.kindOf n==some .cell) then (n,NameKind.cell) else (n,k)).lookup x=some .cell \/
  (names.map fun (n,k)=>if (k==NameKind.free&&env.scope.kind==.function&&env.kindOf n==some .cell) then (n,NameKind.cell) else (n,k)).lookup x=some .free
 | [],_,h=>by simp at h
 | (n,k) :: r,x,h=>by
  rw [zA8] at h
  simp only [zAr]
  cases hx:x==n with
  | true=>
   rw [hx] at h
   cases h
   split
   ·exact .inl (by rw [zA8,hx])
   ·exact .inr (by rw [zA8,hx])
  | false=>
   rw [hx] at h
   have ih:=K2 (env:=env) h
   split
   ·rw [zA8,hx];exact ih
   ·rw [zA8,hx];exact ih
theorem Jm {env:Env}:∀ {names:List (Str×NameKind)} {x:Str},(∀ y∈names,y.2≠.cell) ->
  ((names.map fun (n,k)=>if (k==NameKind.free&&env.scope.kind==.function&&env.kindOf n==some .cell) then (n,NameKind.cell) else (n,k)).lookup x=some .cell \/
  (names.map fun (n,k)=>if (k==NameKind.free&&env.scope.kind==.function&&env.kindOf n==some .cell) then (n,NameKind.cell) else (n,k)).lookup x=some .free)->(x,NameKind.free)∈names
 | [],_,_,h=>by simp at h
 | (n,k) :: r,x,hc,h=>by
  have hr:∀ y∈r,y.2≠.cell:=fun y hy=>hc y (zAP _ hy)
  simp only [zAr] at h
  cases hx:x==n with
  | true=>
   have en:=eq_of_beq hx
   subst en
   by_cases hk:k=.free
   ·subst hk;exact zAR
   ·have hb:(k==NameKind.free)=false:=by simpa using hk
    simp only [hb,zBh,zA6,if_false,zA8,beq_self_eq_true] at h
    rcases h with h | h
    ·exact absurd (zAh.inj h) (hc _ zAR)
    ·exact absurd (zAh.inj h) hk
  | false=>
   refine zAP _ (Jm (env:=env) hr ?_)
   split at h
   ·simpa only [zA8,hx] using h
   ·simpa only [zA8,hx] using h
def Z0 (X:Cx) (scope:Scope):List Nat->List Str->Prop
 | [],[]=>True
 | i :: is,y :: ys=>X.N[i]? = some y/\(X.env.kindOf y=some .cell\/X.env.kindOf y=some .free)/\scope.names.lookup y=some .free/\Z0 X scope is ys
 | _,_=>False
theorem Z0.len {X:Cx} {scope:Scope}:∀ {is:List Nat} {ys:List Str},Z0 X scope is ys->is.length=ys.length
 | [],[],_=>rfl
 | _ :: _,_ :: _,h=>congrArg (· + 1) h.2.2.2.len
theorem Z0.get {X:Cx} {scope:Scope}:∀ {is:List Nat} {ys:List Str} {j:Nat} {y:Str},Z0 X scope is ys->ys[j]? = some y ->
  ∃ i,is[j]? = some i/\X.N[i]? = some y/\(X.env.kindOf y=some .cell\/X.env.kindOf y=some .free)/\scope.names.lookup y=some .free
 | [],[],_,_,_,h=>by simp at h
 | i :: _,z :: _,0,y,f,h=>by
  simp at h
  subst h
  exact ⟨i,rfl,f.1,f.2.1,f.2.2.1⟩
 | _ :: is,_ :: ys,j+1,y,f,h=>by
  obtain ⟨i,e,r⟩:=Z0.get (j:=j) f.2.2.2 (by simpa using h)
  exact ⟨i,by simpa using e,r⟩
def XI (X:Cx) (N:List Str) (scope:Scope) (cl:List (Str×Addr)) (C:Addr) (s:Shared) (H:Hp) (fp:List Addr) (E:Value->Shared->Prop):Cx where
 prog:=X.prog
 w:=X.w
 K:=X.K
 mg:=X.mg
 base:=X.base
 A:=X.A
 N:=N
 s₀:=s
 H₀:=H
 env:=compEnvC scope cl C X.env
 outer:=X.stack
 stack:=X.stack
 ex:=fp
 fn:=fun _=>false
 calm:=X.calm
 pn:=[]
 xe:=E
def QQ (σ:St) (ix:List Nat) (x:V):St:=some x :: ix.map fun i=>(σ[i]?).join
def UJ (X:Cx) (ifs:List Expr) (tt:TT):Prop:=
 ∀ (pins:List (Addr×Obj)) (s:Shared) (σ:St) (H:Hp) (Q:Bool->Hp->Prop),ZF X pins σ H s->tt σ H Q ->
  wpAny (model X.prog X.w) X.A (forIn ifs true fun c r=>if r=true then do let ok<-isTrue c X.env (eval c X.env);pure (ForInStep.yield ok) else pure (ForInStep.yield r)) (TP X pins σ Q) X.xe s
def OT:TT:=fun _ H Q=>Q true H
theorem X6 {X:Cx}:UJ X [] OT:=fun _ _ _ H _ I h=>wpAny_tests_nil ⟨H,I,h⟩
theorem O6 {X:Cx} {c:Expr} {t:TT} (h:PT X c t):UJ X [c] t:=fun pins s σ H Q I hw=>wpAny_tests_one (h pins s σ H Q I hw)
def WB (J:It) (σ:St) (ix:List Nat) (tt:TT) (te:TE) (H1:Hp) (Q:VK):Prop:=
 ∀ D,H1 D=none->∃ W:Nat->Nat->Hp->Prop,(∃ m,W 0 m (upd H1 D (.lst [])))/\∀ i m H,W i m H ->
  (J.stop i H/\Q (.ref D) H)\/(J.go i H/\∀ x H',J.yld i H x H'->tt (QQ σ ix x) H' fun c H2=>
   if c=true then te (QQ σ ix x) H2 fun y H3=>∃ ys m',H3 D=some (.lst ys)/\ys.length<sizeLine/\m'<m/\W (i+1) m' (upd H3 D (.lst (ys++[y])))
   else ∃ m',m'<m/\W (i+1) m' H2)
def Ik (wi:TI) (ix:List Nat) (tt:TT) (te:TE):TE:=fun σ H Q=>wi σ H fun J H1=>WB J σ ix tt te H1 Q
section
variable {X:Cx} {pins:List (Addr×Obj)} {σ:St} {H:Hp} {s:Shared}
theorem Db {ix:List Nat} {j:Nat} {v:V} (h:(ix.map fun i=>(σ[i]?).join)[j]? = some (some v)):∃ i,ix[j]? = some i/\σ[i]? = some (some v):=by
 rw [zAN] at h
 cases e:ix[j]? with
 | none=>rw [e] at h;cases h
 | some i=>
  rw [e] at h
  have h':(σ[i]?).join=some v:=zAh.inj h
  refine ⟨i,rfl,?_⟩
  cases q:σ[i]? with
  | none=>rw [q] at h';cases h'
  | some o=>
   rw [q] at h'
   cases o with
   | none=>cases h'
   | some z=>cases h';rfl
def QB (env:Env) (l:List (Str×NameKind)):Bool:=l.all fun p=>!(p.2==.free) || env.kindOf p.1==some .cell || env.kindOf p.1==some .free
theorem JQ {X:Cx} {l:List (Str×NameKind)} (ok:X.Ok) (h:QB X.env l=true):QR X.env l:=fun p hp hk=>by
 have q:=zAM.mp h p hp
 rw [hk] at q
 have q':(X.env.kindOf p.1==some .cell || X.env.kindOf p.1==some .free)=true:=by simpa using q
 rcases Bool.or_eq_true_iff.mp q' with q | q
 ·exact ok.has p.1 (.inl (eq_of_beq q))
 ·exact ok.has p.1 (.inr (eq_of_beq q))
def Ur (scope:Scope) (x:Str):Bool:=scope.kind==.function&&scope.names.lookup x==some .local&&scope.names.all (fun p=>!(p.2==.cell))&&scope.names.all (fun p=>!(p.2==.local) || scope.names.lookup p.1==some .local)
structure Ve (scope:Scope) (x:Str):Prop where
 kind:scope.kind=.function
 own:scope.names.lookup x=some .local
 cell:∀ y∈scope.names,y.2≠.cell
 names:∀ y∈scope.names,y.2=.local->scope.names.lookup y.1=some .local
theorem Pl {scope:Scope} {x:Str} (h:Ur scope x=true):Ve scope x:=by
 unfold Ur at h
 rw [zAJ,zAJ,zAJ] at h
 obtain ⟨⟨⟨h1,h2⟩,h3⟩,h4⟩:=h
 refine ⟨eq_of_beq h1,eq_of_beq h2,fun y hy z=>?_,fun y hy z=>?_⟩
 ·have:=zAM.mp h3 y hy
  rw [z] at this
  cases this
 ·have:=zAM.mp h4 y hy
  rw [z] at this
  have q:(scope.names.lookup y.1==some NameKind.local)=true:=by simpa using this
  exact eq_of_beq q
theorem Lz {scope:Scope} {env:Env} (hcell:∀ y∈scope.names,y.2≠.cell) (y:Str) (h:(relabel scope env).names.lookup y=some .cell\/(relabel scope env).names.lookup y=some .free):∃ c,(XJ env scope.names []).lookup y=some c:=
 zBj.mp (Lc (Jm hcell h))
def K5 (i:Nat) (t:TE):TS:=fun D σ H=>t σ H fun v H1=>D.nx (σ.set i (some v)) H1
end
def PY (xs:List Str) (σ:St) (ix:List Nat):St:=xs.map (fun _=>(none:Option V))++ix.map fun i=>(σ[i]?).join
def OQ (J:It) (k:Nat) (g:TG) (σ:St) (ix:List Nat) (tt:TT) (te:TE) (H1:Hp) (Q:VK):Prop:=
 ∀ D,H1 D=none->∃ W:Nat->Nat->Hp->Prop,(∃ m,W 0 m (upd H1 D (.lst [])))/\∀ i m H,W i m H ->
  (J.stop i H/\Q (.ref D) H)\/(J.go i H/\∀ x H',J.yld i H x H'->∀ os:St,os.length=k->g x (os++ix.map fun i=>(σ[i]?).join) H' fun σ6 H6=>(∃ os':St,os'.length=k/\σ6=os'++ix.map fun i=>(σ[i]?).join)/\tt σ6 H6 fun c H2=>
   if c=true then te σ6 H2 fun y H3=>∃ ys m',H3 D=some (.lst ys)/\ys.length<sizeLine/\m'<m/\W (i+1) m' (upd H3 D (.lst (ys++[y])))
   else ∃ m',m'<m/\W (i+1) m' H2)
def Jl (k:Nat) (g:TG) (wi:TI) (ix:List Nat) (tt:TT) (te:TE):TE:=fun σ H Q=>wi σ H fun J H1=>OQ J k g σ ix tt te H1 Q
section
variable {X:Cx} {pins:List (Addr×Obj)} {σ:St} {H:Hp} {s:Shared}
theorem G0 {xs:List Str} {ys:List Str} {ix:List Nat} {scope:Scope} {cl:List (Str×Addr)} {fp:List Addr} {E:Value->Shared->Prop} {h₁:Heap} {D C n:Nat} {tk:Nat} {m:Str->Option Value}
  (I:ZF X pins σ H s) (hf:∀ b∈fp,Xf X pins H b/\b<s.heap.objs.size) (sub:YX X.env cl) (hkind:scope.kind=.function)
  (hhas:∀ y,((relabel scope X.env).names.lookup y=some .cell\/(relabel scope X.env).names.lookup y=some .free)->∃ c,cl.lookup y=some c) (fo:Z0 X scope ix ys)
  (hD:s.heap.objs.size<=D) (hC:s.heap.objs.size<=C) (hDC:D≠C) (hns:h₁.Ns C m) (k:∀ b o,s.heap.get? b=some o->h₁.get? b=some o)
  (hd:h₁.get? D=some { cls:=.type "list",data:=.seq ([]:List Value).toArray n }) :
  ZF (XI X (xs++ys) scope cl C s H fp E) [] (PY xs σ ix) (upd H D (.lst [])) { s with heap:=h₁,toks:=tk }:=by
 have lt_of_cell:∀ y c,cl.lookup y=some c->c<s.heap.objs.size:=fun y c e=>by
  obtain ⟨v,q⟩:=I.cell y c (sub.get e)
  exact q.lt
 refine ⟨⟨I.ok.mod,hkind,I.ok.glob,I.ok.blt,hC,fun y z c h1 h2=>I.ok.inj y z c (sub.get h1) (sub.get h2),hhas,fun y c h _=>absurd h (by simp [XI]),I.ok.hd,I.ok.frames,.inl rfl,fun b hb=>⟨?_,fun y c e=>?_⟩,I.bs,zA7 I.ok.bsz I.sz,fun b o e hb=>?_,fun b hb z=>?_,I.stack,I.stkFree⟩,
  rfl,I.bare,Un.laid k hD (I.hok.fresh hD),⟨m,hns,fun j y v e1 e2 e3=>?_⟩,fun y c e=>?_,?_,fun y c e=>?_,fun p hp=>absurd (show p∈([]:List (Addr×Obj)) from hp) (by simp),I.hok.laid k hD ?_,?_⟩
 ·exact zAk (zAb (hf b hb).2 hC)
 ·exact (hf b hb).1.2.2.2.2.1 y c (sub.get e)
 ·obtain ⟨_,_,_,z,_⟩:=(hf b hb).1
  rcases z with z | z
  ·exact I.ok.noex b o e z
  ·exact absurd (zAb (zAS (I.ok.bs b o e).1) z) (zBU _)
 ·obtain ⟨_,z1,z2,_⟩:=(hf b hb).1
  rcases zAd.mp (I.stkSub b z) with q | q
  ·exact z1 q
  ·exact z2 q
 ·by_cases hj:j<xs.length
  ·exfalso
   have e3:(xs.map (fun _=>(none:Option V))++ix.map fun i=>(σ[i]?).join)[j]? = some (some v):=e2
   rw [zA0 (by rw [zAD];exact hj),zAN,zAE hj] at e3
   cases e3
  ·have e0:(xs++ys)[j]? = some y:=e1
   have e1':ys[j - xs.length]? = some y:=by rw [zAw (zCs hj)] at e0;exact e0
   have e3:(xs.map (fun _=>(none:Option V))++ix.map fun i=>(σ[i]?).join)[j]? = some (some v):=e2
   have e2':(ix.map fun i=>(σ[i]?).join)[j - xs.length]? = some (some v):=by
    rw [zAw (by rw [zAD];exact zCs hj),zAD] at e3
    exact e3
   obtain ⟨i,q1,q2⟩:=Db e2'
   obtain ⟨i',p1,p2,p3,p4'⟩:=fo.get e1'
   rw [q1] at p1
   cases p1
   have p4:(relabel scope X.env).names.lookup y=some .cell\/(relabel scope X.env).names.lookup y=some .free:=K2 p4'
   obtain ⟨c,p5⟩:=hhas y p4
   obtain ⟨m0,hn0,hl⟩:=I.loc
   obtain ⟨u,r,l⟩:=hl i y v p2 q2 (.inr p3)
   refine ⟨u,r,.inr ⟨p4,c,p5,?_⟩⟩
   rcases l with ⟨l1,_⟩ | ⟨_,c',l2,l3⟩
   ·rcases p3 with p3 | p3
    ·rw [l1] at p3;cases p3
    ·rw [l1] at p3;cases p3
   ·rw [sub.get p5] at l2
    cases l2
    obtain ⟨o,ho,hd'⟩:=l3
    exact ⟨o,k _ _ ho,hd'⟩
 ·obtain ⟨v,o,ho,hd'⟩:=I.cell y c (sub.get e)
  exact ⟨v,o,k _ _ ho,hd'⟩
 ·show upd H D (.lst []) C=none
  rw [ZT (Ne.symm hDC)]
  exact I.hok.fresh hC
 ·show upd H D (.lst []) c=none
  rw [ZT (zAk (zAb (lt_of_cell y c e) hD))]
  exact I.freeC y c (sub.get e)
 ·exact ⟨zAe _,[],n,.nil,hd⟩
 ·show (PY xs σ ix).length=(xs++ys).length
  unfold PY
  rw [zAL,zAD,zAD,fo.len,zAL]
theorem Iq {elt iter tg:Expr} {xs:List Str} {g:TG} {ifs:List Expr} {scope:Scope} {cl:List (Str×Addr)} {pos:Pos} {ix:List Nat} {ys:List Str} {tt:TT} {te:TE} {it:Addr} {fp:List Addr} {tn:Nat->Heap->Prop} {J:It} {Q:VK} {E:Value->Shared->Prop}
  {RR:Value->Addr->Result->Shared->Prop}
  (hc:X.calm=true) (hg:∀ C s H fp E,PG (XI X (xs++ys) scope cl C s H fp E) tg g) (ht:∀ C s H fp E,UJ (XI X (xs++ys) scope cl C s H fp E) ifs tt) (he:∀ C s H fp E,PE (XI X (xs++ys) scope cl C s H fp E) elt te)
  (sub:YX X.env cl) (hkind:scope.kind=.function) (hcell:∀ y∈scope.names,y.2≠.cell)
  (hhas:∀ y,((relabel scope X.env).names.lookup y=some .cell\/(relabel scope X.env).names.lookup y=some .free)->∃ c,cl.lookup y=some c) (fo:Z0 X scope ix ys)
  (I:ZF X pins σ H s) (T:Wf X.prog X.w X.K tg J fp it tn) (st:tn 0 s.heap) (hf:∀ b∈fp,Xf X pins H b) (q:OQ J xs.length g σ ix tt te H Q)
  (hRR:∀ D C s' H' m,s.heap.objs.size<=C->ZF X pins σ H' s'->Xf X pins H' C->s'.heap.Ns C m->Q (.ref D) H'->RR (.ref D) C (.ok .next) s') :
  wpAny (model X.prog X.w) X.A (newList []) (fun acc s₃=>wpAny (model X.prog X.w) X.A (newFunctionEnv scope X.env.globals cl [] X.env.qual none .none (some X.env)) (fun cenv s₄=>
   codeAny (model X.prog X.w) X.A (.compStart (.ListComp elt [⟨tg,iter,ifs,0⟩] scope pos) 0 (.ref it) acc { cenv with scope:=relabel scope X.env }) (RR acc cenv.locals) s₄) E s₃) E s:=by
 refine wpAny_newObj_type (wpAny_newFunctionEnv hcell (by intro y hy;simp at hy) (fun h₁ hns₁ hsb₁=>?_) hkind)
 dsimp only at hns₁ hsb₁ ⊢
 generalize hH2:s.heap.push { cls:=.type "list",dict:=none,data:=.seq ([]:List Value).toArray }=H2 at hns₁ hsb₁ ⊢
 have hC:H2.objs.size=s.heap.objs.size+1:=by rw [<-hH2,zCW]
 have hDC:s.heap.objs.size≠H2.objs.size:=by rw [hC];exact zAk (zBm _)
 have hCle:s.heap.objs.size<=H2.objs.size:=by rw [hC];exact zB4 _
 have below:∀ b,b<s.heap.objs.size->b≠H2.objs.size/\b≠s.heap.objs.size:=fun b hb=>⟨by rw [hC];exact zAk (Nat.lt_succ_of_lt hb),zAk hb⟩
 have old:∀ b o,s.heap.get? b=some o->h₁.get? b=some o:=fun b o e=>hsb₁.extBut b o (below b (zAS e)).1 (zAG _ (hH2 ▸ zAG _ e))
 have hacc:∃ n,h₁.get? s.heap.objs.size=some { cls:=.type "list",data:=.seq ([]:List Value).toArray n }:=⟨_,hsb₁.extBut _ _ hDC (zAG _ (hH2 ▸ zAT _ rfl))⟩
 obtain ⟨nD,hacc⟩:=hacc
 have hf':∀ b∈fp,Xf X pins H b/\b<s.heap.objs.size:=fun b hb=>⟨hf b hb,by obtain ⟨o,e,_⟩:=T.obj 0 _ st b hb;exact zAS e⟩
 have hDn:H s.heap.objs.size=none:=I.hok.fresh (zAH _)
 obtain ⟨W,⟨m0,w0⟩,turn⟩:=q _ hDn
 generalize hE:notedBy (model X.prog X.w) X.A (compEnvC scope cl H2.objs.size X.env) (fun e s'=>RR (.ref s.heap.objs.size) H2.objs.size (.error e) s')=EE
 have I0:ZF (XI X (xs++ys) scope cl H2.objs.size s H fp EE) [] (PY xs σ ix) (upd H s.heap.objs.size (.lst [])) { s with heap:=h₁,toks:=s.toks+([]:List (Str×Value)).length }:=
  G0 I hf' sub hkind hhas fo (zAH _) hCle hDC hns₁ old hacc
 have st1:tn 0 h₁:=T.keep _ _ _ st fun b _ o e=>old b o e
 have fr1:∀ b∈fp,upd H s.heap.objs.size (.lst []) b=none:=fun b hb=>by rw [ZT (below b (hf' b hb).2).2];exact (hf b hb).1
 have stat:∀ {H':Hp},(∀ b∈fp,H' b=none)->∀ b∈fp,Xf (XI X (xs++ys) scope cl H2.objs.size s H fp EE) [] H' b:=fun hn b hb=>
  ⟨hn b hb,(I0.ok.exf b hb).1,I0.ok.exfs b hb,.inl hb,(I0.ok.exf b hb).2,fun p hp=>absurd (show p∈([]:List (Addr×Obj)) from hp) (by simp)⟩
 have loop:∀ s₃:Shared,s₃={ s with heap:=h₁,toks:=s.toks+([]:List (Str×Value)).length } ->
   codeAny (model X.prog X.w) X.A (.compLoop (.ListComp elt [⟨tg,iter,ifs,0⟩] scope pos) 0 (.ref it) (.ref s.heap.objs.size) (compEnvC scope cl H2.objs.size X.env)) (RR (.ref s.heap.objs.size) H2.objs.size) s₃:=by
  rintro s₃ rfl
  refine B0 (fun n s'=>∃ i σ' H',ZF (XI X (xs++ys) scope cl H2.objs.size s H fp EE) [] σ' H' s'/\(∃ os:St,os.length=xs.length/\σ'=os++ix.map fun i=>(σ[i]?).join)/\tn i s'.heap/\(∀ b∈fp,H' b=none)/\W i n H') ?_ m0 ⟨0,_,_,I0,⟨_,zAD _,rfl⟩,st1,fr1,w0⟩
  rintro n s3 ⟨i,σ3,H3,I3,⟨o3,ho3,hσ3⟩,st3,fr3,w3⟩
  rw [hE]
  rcases turn i n H3 w3 with ⟨stop,qn⟩ | ⟨go,step⟩
  ·refine Zb (T.done (XI X (xs++ys) scope cl H2.objs.size s H fp EE) rfl rfl rfl hc i [] s3 σ3 H3 EE I3 (stat fr3) st3 stop) fun r s4 ⟨hr,I4⟩=>?_
   subst hr
   obtain ⟨m4,hn4,_⟩:=I4.loc
   have Ix:ZF X pins σ H3 s4:=I.call' (s':=s4) (ch:=fp) I4.os I4.base I4.hok I4.bare fun b hb=>by
    obtain ⟨_,z1,_,z3,z4,z5⟩:=hf b hb
    exact ⟨z3,z1,z4,z5⟩
   exact hRR _ _ s4 H3 m4 hCle Ix (I.fpOk hCle I4.free) hn4 qn
  ·refine Zb (T.item (XI X (xs++ys) scope cl H2.objs.size s H fp EE) rfl rfl rfl hc i [] s3 σ3 H3 EE I3 (stat fr3) st3 go) fun r s4 ⟨u,hr,h4⟩=>?_
   subst hr
   refine Zb h4 fun _ s5 ⟨xv,H5,I5,r5,y5,st5,fr5⟩=>?_
   have I5':=I5.pinned (stat fr5) (T.obj _ _ st5)
   have again:∀ {σ7:St} {H7:Hp} {s7:Shared} {m':Nat},ZF (XI X (xs++ys) scope cl H2.objs.size s H fp EE) ([]++Qf fp s5.heap) σ7 H7 s7->(∃ os:St,os.length=xs.length/\σ7=os++ix.map fun i=>(σ[i]?).join)->m'<n->W (i+1) m' H7 ->
     ∃ m,m<n/\∃ i σ' H',ZF (XI X (xs++ys) scope cl H2.objs.size s H fp EE) [] σ' H' s7/\(∃ os:St,os.length=xs.length/\σ'=os++ix.map fun i=>(σ[i]?).join)/\tn i s7.heap/\(∀ b∈fp,H' b=none)/\W i m H':=fun {σ7 H7 s7 m'} I7 e7 hm w7=>by
    refine ⟨m',hm,i+1,σ7,H7,I7.unpinned,e7,T.keep _ _ _ st5 fun b hb o e=>(I7.pin (b,o) (zAa _ (zAa _ (Pg hb e)))).1,fun b hb=>?_,w7⟩
    obtain ⟨o,e,d⟩:=T.obj _ _ st5 b hb
    exact (I7.pin (b,o) (zAa _ (zAa _ (Pg hb e)))).2.1
   have stp:=step xv _ y5 o3 ho3
   rw [<-hσ3] at stp
   refine Zb (hg _ _ _ _ _ _ s5 σ3 H5 xv u _ I5' r5 stp) fun _ s6 ⟨σ6,H6,I6,e6,q6⟩=>?_
   refine Zb (ht _ _ _ _ _ _ s6 _ _ _ I6 q6) fun ok s7 ⟨H7,I7,q7⟩=>?_
   cases ok with
   | false=>
    rw [if_neg zAF] at q7 ⊢
    obtain ⟨m',hm,w7⟩:=q7
    exact again I7 e6 hm w7
   | true=>
    rw [if_pos rfl] at q7 ⊢
    refine Zb (he _ _ _ _ _ _ s7 _ _ _ I7 q7) fun y s8 ⟨yv,H8,I8,r8,ys8,m',e8,z8,hm,w8⟩=>?_
    refine Zb (VO _ s8 _ H8 (.ref s.heap.objs.size) [yv] (.ref s.heap.objs.size) [y] (fun _ H9=>W (i+1) m' H9) I8 rfl (.cons r8 .nil) ⟨_,ys8,yv,rfl,rfl,e8,z8,w8⟩) fun _ s9 ⟨_,H9,I9,_,w9⟩=>?_
    exact again I9 e6 hm w9
 exact codeAny_compStart_list (loop _ rfl) (T.self _ 0 _ _ _ st1 (loop _ rfl))
theorem BR {elt iter tg:Expr} (xs:List Str) (x:Str) {g:TG} {ifs:List Expr} {scope:Scope} {pos:Pos} {wi:TI} {tt:TT} {te:TE} (ix:List Nat) (ys:List Str)
  (hc:X.calm=true) (hg:∀ C s H fp E,PG (XI X (xs++ys) scope (XJ X.env scope.names []) C s H fp E) tg g) (hi:PI X tg iter wi) (ht:∀ C s H fp E,UJ (XI X (xs++ys) scope (XJ X.env scope.names []) C s H fp E) ifs tt) (he:∀ C s H fp E,PE (XI X (xs++ys) scope (XJ X.env scope.names []) C s H fp E) elt te)
  (fo:Z0 X scope ix ys) (hk:QB X.env scope.names=true:=by rfl) (hb:Ur scope x=true:=by rfl)
  (hs:∀ x,foldedSetIterable iter X.env x=pure x:=by intro _;rfl) :
  PE X (.ListComp elt [⟨tg,iter,ifs,0⟩] scope pos) (Jl xs.length g wi ix tt te):=by
 intro pins s σ H Q I h
 have B:=Pl hb
 have F:=JQ I.ok hk
 rw [eval_ListComp]
 refine wpAny_comprehension_free (use:=none) rfl hs (LD F) B.kind B.names (Zb (hi pins s σ H _ I h) fun v s1 h1=>Zb h1 fun itv s2 h2=>?_)
 obtain ⟨it,fp,tn,J,H2,e,I2,T,st2,f2,q2⟩:=h2
 subst e
 refine Iq (RR:=fun acc C=>compPost (model X.prog X.w) X.A X.xe none (EP X pins σ Q) acc C) hc hg ht he (Id F) B.kind B.cell (Lz B.cell) fo I2 T st2 f2 q2 ?_
 intro D C s' H' m hC Ix fC hn q
 refine ⟨m,hn,fun h' sb=>⟨.ref D,H',?_,rfl,q⟩⟩
 obtain ⟨f0,f1,_,f3,f4,f5⟩:=fC
 exact Ix.turned (t':=s'.toks) (fun b o hb e=>(sb.2 b hb).trans e) f0 f1 f3 f4 f5
theorem Hv {elt iter tg:Expr} (xs:List Str) (x:Str) {g:TG} {y:Str} {py:Pos} {ifs:List Expr} {scope:Scope} {pos spos:Pos} {wi:TI} {tt:TT} {te:TE} {i:Nat} (ix:List Nat) (ys:List Str)
  (hN:X.N.Nodup) (hiN:X.N[i]? = some y) (hy:X.env.scope.names.lookup y=some .local)
  (hc:X.calm=true) (hg:∀ C s H fp E,PG (XI X (xs++ys) scope (XJ X.env scope.names []) C s H fp E) tg g) (hi:PI X tg iter wi) (ht:∀ C s H fp E,UJ (XI X (xs++ys) scope (XJ X.env scope.names []) C s H fp E) ifs tt) (he:∀ C s H fp E,PE (XI X (xs++ys) scope (XJ X.env scope.names []) C s H fp E) elt te)
  (fo:Z0 X scope ix ys)
  (hsw:swapsWith (.ListComp elt [⟨tg,iter,ifs,0⟩] scope pos) (some (.Name y py)) spos.line X.env=pure true:=by rfl)
  (hk:QB X.env scope.names=true:=by rfl) (hb:Ur scope x=true:=by rfl)
  (hs:∀ x,foldedSetIterable iter X.env x=pure x:=by intro _;rfl) :
  PS X (.Assign [.Name y py] (.ListComp elt [⟨tg,iter,ifs,0⟩] scope pos) spos) (K5 i (Jl xs.length g wi ix tt te)):=by
 intro pins s σ H D I h
 have B:=Pl hb
 have F:=JQ I.ok hk
 rw [exec_Assign_Name_used _ _ _ _ hsw]
 refine wpAny_bind (wpAny_standAt (wpAny_bind ?_))
 show wpAny _ X.A (do let _<-comprehension (.ListComp elt [⟨tg,iter,ifs,0⟩] scope pos) scope X.env _ (newList []) false (eval iter X.env) (some (assign (.Name y py) X.env))) _ _ s
 refine wpAny_bind (wpAny_mono (wpAny_comprehension_free (use:=some (assign (.Name y py) X.env)) (Q:=fun _ s'=>SP X pins D .next s') rfl hs (LD F) B.kind B.names
  (Zb (hi pins s σ H _ I h) fun v s1 h1=>Zb h1 fun itv s2 h2=>?_)) (fun _ s' hq=>wpAny_pure (wpAny_pure hq)) fun _ _ e=>e)
 obtain ⟨it,fp,tn,J,H2,e,I2,T,st2,f2,q2⟩:=h2
 subst e
 refine Iq (RR:=fun acc C=>compPost (model X.prog X.w) X.A X.xe (some (assign (.Name y py) X.env)) (fun _ s'=>SP X pins D .next s') acc C) hc hg ht he (Id F) B.kind B.cell (Lz B.cell) fo I2 T st2 f2 q2 ?_
 intro Dd C s' H' m hC Ix fC hn q
 obtain ⟨f0,f1,_,f3,f4,f5⟩:=fC
 show wpAny _ X.A (assign (.Name y py) X.env (.ref Dd)) _ _ _
 refine wpAny_assign_Name (JU Ix hN hiN (.inl hy) (v:=.ref Dd) rfl (fun s3 I3 ⟨a,sb,ha⟩=>?_) (.inr hy))
 have ne:C≠a:=by
  rcases ha with ha | ha
  ·rw [ha];exact f1
  ·exact fun z=>f4 y a ha z.symm
 refine ⟨m,hn.sameBut sb ne,fun h' sb'=>⟨_,H',?_,q⟩⟩
 exact I3.turned (t':=s3.toks) (fun b o hb e=>(sb'.2 b hb).trans e) f0 f1 f3 f4 f5
end
section
variable {X:Cx} {pins:List (Addr×Obj)} {σ:St} {H:Hp} {s:Shared}
theorem WB.toT {J:It} {ix:List Nat} {tt:TT} {te:TE} {Q:VK} (h:WB J σ ix tt te H Q):OQ J 1 (Uy 0) σ ix tt te H Q:=fun D hD=>by
 obtain ⟨W,h0,hs⟩:=h D hD
 refine ⟨W,h0,fun i m H hw=>(hs i m H hw).imp id fun q=>⟨q.1,fun x H' y os ho=>?_⟩⟩
 match os,ho with
 | [_],_=>exact ⟨⟨[some x],rfl,rfl⟩,q.2 x H' y⟩
def Hu (wi:TI):TI:=fun σ H K=>∃ K0:It->Hp->Prop,wi σ H K0/\∀ J H1,K0 J H1->K J H1
theorem PI.more {tg iter:Expr} {wi:TI} (h:PI X tg iter wi):PI X tg iter (Hu wi):=fun pins s σ H R I ⟨K0,hw,f⟩=>
 wpAny_mono (h pins s σ H K0 I hw) (fun _ _ z=>wpAny_mono z (fun _ _ ⟨it,fp,tn,J,H',a,b,c,d,e,r⟩=>⟨it,fp,tn,J,H',a,b,c,d,e,f _ _ r⟩) fun _ _ z=>z) fun _ _ z=>z
theorem Xr {elt iter:Expr} {x:Str} {px:Pos} {ifs:List Expr} {scope:Scope} {pos:Pos} {wi:TI} {tt:TT} {te:TE} (ix:List Nat) (ys:List Str)
  (hc:X.calm=true) (hi:PI X (.Name x px) iter wi) (ht:∀ C s H fp E,UJ (XI X (x :: ys) scope (XJ X.env scope.names []) C s H fp E) ifs tt) (he:∀ C s H fp E,PE (XI X (x :: ys) scope (XJ X.env scope.names []) C s H fp E) elt te)
  (fo:Z0 X scope ix ys) (hk:QB X.env scope.names=true:=by rfl) (hb:Ur scope x=true:=by rfl) (hnd:(x :: ys).Nodup:=by decide +kernel)
  (hs:∀ x,foldedSetIterable iter X.env x=pure x:=by intro _;rfl) :
  PE X (.ListComp elt [⟨.Name x px,iter,ifs,0⟩] scope pos) (Ik wi ix tt te):=by
 intro pins s σ H Q I h
 have hl:(relabel scope X.env).names.lookup x=some .local:=lookup_relabel_local (Pl hb).own
 exact BR [x] x (g:=Uy 0) ix ys hc (fun _ _ _ _ _=>Y6 (i:=0) hnd rfl (Or.inl hl) (Or.inr hl)) (PI.more hi) ht he fo hk hb hs pins s σ H Q I ⟨_,h,fun _ _ z=>WB.toT z⟩
theorem Ii {elt iter:Expr} {x y:Str} {px py:Pos} {ifs:List Expr} {scope:Scope} {pos spos:Pos} {wi:TI} {tt:TT} {te:TE} {i:Nat} (ix:List Nat) (ys:List Str)
  (hN:X.N.Nodup) (hiN:X.N[i]? = some y) (hy:X.env.scope.names.lookup y=some .local)
  (hc:X.calm=true) (hi:PI X (.Name x px) iter wi) (ht:∀ C s H fp E,UJ (XI X (x :: ys) scope (XJ X.env scope.names []) C s H fp E) ifs tt) (he:∀ C s H fp E,PE (XI X (x :: ys) scope (XJ X.env scope.names []) C s H fp E) elt te)
  (fo:Z0 X scope ix ys)
  (hsw:swapsWith (.ListComp elt [⟨.Name x px,iter,ifs,0⟩] scope pos) (some (.Name y py)) spos.line X.env=pure true:=by rfl)
  (hk:QB X.env scope.names=true:=by rfl) (hb:Ur scope x=true:=by rfl) (hnd:(x :: ys).Nodup:=by decide +kernel)
  (hs:∀ x,foldedSetIterable iter X.env x=pure x:=by intro _;rfl) :
  PS X (.Assign [.Name y py] (.ListComp elt [⟨.Name x px,iter,ifs,0⟩] scope pos) spos) (K5 i (Ik wi ix tt te)):=by
 intro pins s σ H D I h
 have hl:(relabel scope X.env).names.lookup x=some .local:=lookup_relabel_local (Pl hb).own
 exact Hv [x] x (g:=Uy 0) ix ys hN hiN hy hc (fun _ _ _ _ _=>Y6 (i:=0) hnd rfl (Or.inl hl) (Or.inr hl)) (PI.more hi) ht he fo hsw hk hb hs pins s σ H D I ⟨_,h,fun _ _ z=>WB.toT z⟩
end
section
variable {X:Cx}
def Bw (K:zAA):List V->Hp->VK->Prop:=fun xs H Q=>∃ x n t b,xs=[x,.ty n]/\YZ K H x t/\zAV K t (.type n)=some b/\Q (.bl b) H
theorem WC:WT X (.builtin "isinstance") (Bw X.K):=by
 intro pins s σ H xs us Q I r h
 obtain ⟨x,n,t,b,rfl,ty,e,q⟩:=h
 obtain ⟨u,w',rfl,rx,rn⟩:=PN r
 cases (show w'=Value.type n from rn)
 exact D4 I rx ty e fun tk=>⟨.bl b,H,I.tok tk,rfl,q⟩
theorem CQ {K:zAA}:zAV K (.type "bool") (.type "bool")=some true:=by kernel_rfl
theorem LZ {K:zAA}:zAV K (.type "int") (.type "bool")=some false:=by kernel_rfl
theorem Bz {K:zAA}:zAV K (.type "str") (.type "bool")=some false:=by kernel_rfl
theorem Dx {K:zAA}:zAV K (.type "tuple") (.type "bool")=some false:=by kernel_rfl
theorem Pj {K:zAA}:zAV K (.type "int") (.type "int")=some true:=by kernel_rfl
theorem Q1 {K:zAA}:zAV K (.type "str") (.type "int")=some false:=by kernel_rfl
theorem Pe {K:zAA}:zAV K (.type "tuple") (.type "int")=some false:=by kernel_rfl
theorem kit_is' {K:zAA}:zAV K (.type "int") (.type "str")=some false:=by kernel_rfl
theorem U9 {K:zAA}:zAV K (.type "str") (.type "str")=some true:=by kernel_rfl
theorem Qi {K:zAA}:zAV K (.type "tuple") (.type "str")=some false:=by kernel_rfl
theorem IR {K:zAA}:zAV K (.type "int") (.type "tuple")=some false:=by kernel_rfl
theorem Ku {K:zAA}:zAV K (.type "str") (.type "tuple")=some false:=by kernel_rfl
theorem N9 {K:zAA}:zAV K (.type "tuple") (.type "tuple")=some true:=by kernel_rfl
theorem Xi:bootBuiltins "isinstance" = some (.builtin "isinstance"):=by decide +kernel
theorem PJ:bootBuiltins "all" = some (.builtin "all"):=by decide +kernel
theorem Pb:bootBuiltins "max" = some (.builtin "max"):=by decide +kernel
theorem KW:bootBuiltins "min" = some (.builtin "min"):=by decide +kernel
theorem Mn:bootBuiltins "abs" = some (.builtin "abs"):=by decide +kernel
theorem XA:bootBuiltins "len" = some (.builtin "len"):=by decide +kernel
theorem IX:bootBuiltins "bool" = some (.type "bool"):=by decide +kernel
theorem Va:bootBuiltins "int" = some (.type "int"):=by decide +kernel
theorem Qb:bootBuiltins "str" = some (.type "str"):=by decide +kernel
theorem Vo:bootBuiltins "tuple" = some (.type "tuple"):=by decide +kernel
theorem Vc:bootBuiltins "list" = some (.type "list"):=by decide +kernel
theorem J4:YV X (compareOp .LtE) (fun x y H Q=>∃ i j,x=.str i/\y=.str j/\Q (.bl (!decide (j.cps.toList<i.cps.toList))) H):=by
 intro pins s σ H x y v u Q I rx ry h
 obtain ⟨i,j,rfl,rfl,q⟩:=h
 obtain ⟨t,rfl⟩:=rx
 obtain ⟨t',rfl⟩:=ry
 exact PySem.P.le_str (YS I q (by simp))
def CC (i j:Int):Prop:=0<j/\j.natAbs.log2<9000
theorem G1:YV X (binaryOp .FloorDiv) (rI CC fun i j=>.int (i / j)):=QH fun i j _ _ _ _ _ hc q=>by
 have h1:(0:Int)<j:=hc.1
 exact floordiv_int (by omega) (by rw [zC6 i (by omega)];exact q) (.inl (PyProof.noPylong_of_log2 hc.2))
theorem Ps (hc:X.calm=true):WT X (.builtin "all") (fun xs H Q=>∃ (p:Addr) (bs:List Bool),xs=[.ref p]/\ZM X.K H p (bs.map V.bl)/\Q (.bl (bs.all id)) H):=by
 intro pins s σ H xs us Q I r h
 obtain ⟨p,bs,rfl,hq,q⟩:=h
 obtain ⟨u,rfl,rx⟩:=Wg r
 cases rx
 obtain ⟨its,rv,pl,hz⟩:=I.list hq
 have hl:=rv.length
 have hlt:p<s.heap.objs.size:=by obtain ⟨_,e,_⟩:=pl.isList;exact zAS e
 have hne:p≠s.heap.objs.size:=zAk hlt
 have hh:=I.ok.hd hc
 have tr:∀ (i:Nat) (v:Value),its.toArray[i]? = some v->v=.bool (bs.getD i true):=fun i v hv=>by
  have hv':its[i]? = some v:=by simpa using hv
  have hi:i<its.length:=(zAO.mp hv').1
  have hb:i<bs.length:=by rw [zAD] at hl;omega
  obtain ⟨u,e1,e2⟩:=rv.get (i:=i) (x:=.bl bs[i]) (by rw [zAN,zAE hb];rfl)
  rw [hv'] at e1
  cases e1
  rw [show v=Value.bool bs[i] from e2,zAB,zAE hb]
  rfl
 refine call_all_walk (wpAny_pyIter_list pl.isList ?_)
 refine ⟨_,_,_,_,_,_,(fun i=>bs.getD i true),rfl,Walks.list (A:=X.A.in1) hh s.heap.objs.size p hne its.toArray,⟨⟨_,zAT _ rfl,rfl,rfl⟩,pl.isList.push _⟩,fun i v s' Q' E' hP hQ=>?_,fun h' tk hk=>?_⟩
 ·rw [tr i v hP]
  exact wpAny_truthy_bool hQ
 ·have e:(zAi its.toArray.size).all (fun i=>bs.getD i true)=bs.all id:=by
   rw [zAI,<-hl,zAD]
   have e2:bs.all id=((zAi bs.length).map fun i=>bs.getD i true).all id:=by rw [range_getD]
   rw [e2,zCP]
   rfl
  rw [e]
  refine ⟨.bl (bs.all id),H,I.kept (t':=tk) fun b o eb=>hk b o ?_ (zAG _ eb),rfl,q⟩
  intro hm
  exact absurd (zAS eb) (by rw [zAQ.mp hm];exact zBU _)
end
def WQ (b:Int) (l:List Int):Int:=l.foldl (fun a c=>if c > a then c else a) b
def Vs (d:Int):List Int->Int
 | []=>d
 | x :: r=>WQ x r
section
variable {prog:Program} {w:World} {A:Around} {R:Result->Shared->Prop}
theorem Fs (hh:A.handled=none) {I l S:Addr} {its:List Value} {ns:List Int} {kw:List (Str×Value)} (hSI:S≠I) (hSl:S≠l) (hlI:l≠I) (hi:IntsAre its ns) :
  ∀ (k j:Nat) (s:Shared) (b:Int) (tb:Tok) (c:Nat),its.length - j=k->j<=its.length->s.heap.IsListIter I l j->s.heap.IsList l its.toArray->s.heap.get? S=some { cls:=.type "list",dict:=none,data:=.seq #[.int b tb,.int b tb] c,slots:=#[] } ->
   (∀ t h' tk,(∀ a o,a≠I->a≠S->s.heap.get? a=some o->h'.get? a=some o)->R (.ok (.ret (.int (WQ b (ns.drop j)) t))) { s with heap:=h',toks:=tk }) ->
   codeAny (model prog w) A (.builtin "max.loop" ⟨[.ref I,.none,.ref S],kw⟩) R s:=by
 have nm:(toString "max" ++ toString ".loop" : String) = "max.loop" :=by decide
 have W:=Walks.list (prog:=prog) (w:=w) (A:=A.in1) hh I l hlI its.toArray
 have hlen:=IntsAre.length hi
 intro k
 induction k with
 | zero=>
  intro j s b tb c hk hj st hl hS hR
  have hn:j=its.toArray.size:=by rw [zAI];omega
  refine codeAny_builtin zCC ?_;rw [Around.under_plainId zBD _]
  show wpAny _ A.in1 (seqItems? (.ref S) >>= _) _ _ s;refine wpAny_bind (wpAny_seqItems hS rfl ?_)
  show wpAny _ A.in1 (tryCatch (pyNext (.ref I)) _ >>= _) _ _ s;refine wpAny_bind (wpAny_tryCatch (W.done s _ _ (by rw [<-hn];exact ⟨st,hl⟩) fun h' tk hk'=>?_))
  have hS':=hk' S _ (by simpa using hSI) hS
  show wpAny _ A.in1 (updateSeq S (fun _=>#[]) >>= _) _ _ _;refine wpAny_bind (wpAny_updateSeq hS' rfl (wpAny_bind (wpAny_letGo (wpAny_pure ?_))))
  have q:=hR tb (h'.update S (Obj.mapSeq fun _=>#[])) tk fun a o ha hb e=>(zAl _ _ (Ne.symm hb)).trans (hk' a o (by simpa using ha) e)
  rw [List.drop_eq_nil_of_le (by rw [<-hlen];rw [zAI] at hn;omega)] at q
  exact q
 | succ k ih=>
  intro j s b tb c hk hj st hl hS hR
  have hn:j<its.toArray.size:=by rw [zAI];omega
  refine codeAny_builtin zCC ?_;rw [Around.under_plainId zBD _]
  show wpAny _ A.in1 (seqItems? (.ref S) >>= _) _ _ s;refine wpAny_bind (wpAny_seqItems hS rfl ?_)
  show wpAny _ A.in1 (tryCatch (pyNext (.ref I)) _ >>= _) _ _ s;refine wpAny_bind (wpAny_tryCatch (W.item j s _ _ hn ⟨st,hl⟩ fun v h' tk hP st' hk'=>?_))
  have hS':=hk' S _ (by simpa using hSI) hS
  have hjl:j<ns.length:=by rw [<-hlen];rw [zAI] at hn;exact hn
  obtain ⟨tv,hv⟩:∃ t,v=.int ns[j] t:=by
   have r:ZN (ns.map V.int) its:=Nc hi
   obtain ⟨u,e1,t,e2⟩:=r.get (i:=j) (x:=.int ns[j]) (by rw [zAN,zAE hjl];rfl)
   have hP':its[j]? = some v:=by simpa using hP
   rw [hP'] at e1
   cases e1
   exact ⟨t,e2⟩
  subst hv
  have hd:ns.drop j=ns[j] :: ns.drop (j+1):=zB9 hjl
  show wpAny _ A.in1 (tryCatch (holding [_,_] (richCompare .Gt (.int ns[j] tv) (.int b tb) >>= _)) _ >>= _) _ _ _
  refine wpAny_bind (wpAny_tryCatch (wpAny_holding (wpAny_bind (CmpOf.ints_gt (P:=fun i v=>(i=0/\v=.int ns[j] tv)\/(i=1/\v=.int b tb)) (fun i=>if i=0 then ns[j] else b) (fun i v hv=>?_) 0 1 _ _ _ _ _ (.inl ⟨rfl,rfl⟩) (.inr ⟨rfl,rfl⟩) ?_))))
  ·rcases hv with ⟨rfl,rfl⟩ | ⟨rfl,rfl⟩
   ·exact ⟨tv,rfl⟩
   ·exact ⟨tb,rfl⟩
  refine wpAny_bind (wpAny_holding (wpAny_truthy_bool (wpAny_bind (wpAny_letGo (wpAny_pure ?_)))))
  by_cases hb:ns[j] > b
  ·simp only [if_pos,hb,decide_true,Nat.one_ne_zero,if_false,↓reduceIte]
   refine wpAny_bind (wpAny_updateSeq hS' rfl (wpAny_bind (wpAny_letGo ?_)))
   rw [nm]
   refine wpAny_pure ⟨plainId_quiet zBD _,ih (j+1) _ ns[j] tv _ (by omega) (by omega) ?_ ?_ (zA1 _ hS' rfl) fun t h2 tk2 hk2=>?_⟩
   ·obtain ⟨o,e,r⟩:=st'.1
    exact ⟨o,(zAl _ _ hSI).trans e,r⟩
   ·obtain ⟨o,e,r⟩:=st'.2
    exact ⟨o,(zAl _ _ hSl).trans e,r⟩
   ·have q:=hR t h2 tk2 fun a o ha hs e=>hk2 a o ha hs ((zAl _ _ (Ne.symm hs)).trans (hk' a o (by simpa using ha) e))
    rw [hd] at q
    have e2:WQ b (ns[j] :: ns.drop (j+1))=WQ ns[j] (ns.drop (j+1)):=by unfold WQ;rw [zCz,if_pos hb]
    rw [e2] at q
    exact q
  ·simp only [hb,decide_false,Nat.one_ne_zero,if_false,zA6,↓reduceIte]
   refine wpAny_bind (wpAny_letGo ?_)
   rw [nm]
   refine wpAny_pure ⟨plainId_quiet zBD _,ih (j+1) _ b tb c (by omega) (by omega) st'.1 st'.2 hS' fun t h2 tk2 hk2=>?_⟩
   have q:=hR t h2 tk2 fun a o ha hs e=>hk2 a o ha hs (hk' a o (by simpa using ha) e)
   rw [hd] at q
   have e2:WQ b (ns[j] :: ns.drop (j+1))=WQ b (ns.drop (j+1)):=by unfold WQ;rw [zCz,if_neg hb]
   rw [e2] at q
   exact q
end
theorem Dl (a v:Value):argsOk "max" ⟨[a],[(zAy "default",v)]⟩:=by unfold argsOk;kernel_rfl
section
variable {X:Cx}
theorem Hg (hc:X.calm=true) {pins:List (Addr×Obj)} {σ:St} {H:Hp} {s:Shared} {Q:VK} {l:Addr} {ns:List Int} {d:Int} {td:Tok} (I:ZF X pins σ H s) (hq:ZM X.K H l (ns.map V.int)) (q:Q (.int (Vs d ns)) H) :
  wpAny (model X.prog X.w) X.A (call (.builtin "max") [.ref l] [(zAy "default",.int d td)]) (EP X pins σ Q) X.xe s:=by
 have nm:(toString "max" ++ toString ".loop" : String) = "max.loop" :=by decide
 obtain ⟨its,rv,pl,hz⟩:=I.list hq
 have hi:IntsAre its ns:=JK rv
 have hlen:=IntsAre.length hi
 have hh:=I.ok.hd hc
 have hlt:l<s.heap.objs.size:=by obtain ⟨_,e,_⟩:=pl.isList;exact zAS e
 refine PyProof.Rows.kmk_tree PySem.F.kind_max PySem.F.plain_max PySem.F.entry_max (Dl _ _) ?_
 show wpAny _ X.A.in1 (Builtin.Builtins.bindParams "max" ["key","default"] 0 ⟨[],[(zAy "default",.int d td)]⟩ >>= _) _ _ s
 refine wpAny_bind (wpAny_of_eq (show Builtin.Builtins.bindParams "max" ["key","default"] 0 ⟨[],[(zAy "default",.int d td)]⟩=pure [none,some (.int d td)] from rfl) ?_)
 refine wpAny_bind (wpAny_pure (wpAny_bind (wpAny_pyIter_list pl.isList (wpAny_bind (wpAny_newList ?_ (zAe _))))))
 rw [nm]
 have szI:(s.heap.push { cls:=.type "list_iterator",data:=.fields #[.ref l,.int 0 0] }).objs.size=s.heap.objs.size+1:=zCW ..
 have hlI:l≠s.heap.objs.size:=zAk hlt
 have hSI:(s.heap.push { cls:=.type "list_iterator",data:=.fields #[.ref l,.int 0 0] }).objs.size≠s.heap.objs.size:=by rw [szI];exact zCT (zBm _)
 have hSl:(s.heap.push { cls:=.type "list_iterator",data:=.fields #[.ref l,.int 0 0] }).objs.size≠l:=by rw [szI];exact zCT (Nat.lt_succ_of_lt hlt)
 generalize hS:(s.heap.push { cls:=.type "list_iterator",data:=.fields #[.ref l,.int 0 0] }).objs.size=S at *
 have old:∀ a o,s.heap.get? a=some o->((s.heap.push { cls:=.type "list_iterator",data:=.fields #[.ref l,.int 0 0] }).push { cls:=.type "list",data:=.seq ([]:List Value).toArray }).get? a=some o:=fun a o e=>zAG _ (zAG _ e)
 have gI:((s.heap.push { cls:=.type "list_iterator",data:=.fields #[.ref l,.int 0 0] }).push { cls:=.type "list",data:=.seq ([]:List Value).toArray }).IsListIter s.heap.objs.size l 0:=⟨_,zAG _ (zAT _ rfl),rfl,rfl⟩
 have gL:((s.heap.push { cls:=.type "list_iterator",data:=.fields #[.ref l,.int 0 0] }).push { cls:=.type "list",data:=.seq ([]:List Value).toArray }).IsList l its.toArray:=(pl.isList.push _).push _
 have gS:((s.heap.push { cls:=.type "list_iterator",data:=.fields #[.ref l,.int 0 0] }).push { cls:=.type "list",data:=.seq ([]:List Value).toArray }).get? S=some { cls:=.type "list",dict:=none,data:=.seq #[] 0,slots:=#[] }:=by
  rw [<-hS]
  exact zAT _ rfl
 generalize ((s.heap.push { cls:=.type "list_iterator",data:=.fields #[.ref l,.int 0 0] }).push { cls:=.type "list",data:=.seq ([]:List Value).toArray })=h2 at *
 refine wpAny_pure ⟨plainId_quiet zBD _,?_⟩
 have W:=Walks.list (prog:=X.prog) (w:=X.w) (A:=X.A.in1) hh s.heap.objs.size l hlI its.toArray
 refine codeAny_builtin zCC ?_;rw [Around.under_plainId zBD _]
 show wpAny _ X.A.in1 (seqItems? (.ref S) >>= _) _ _ _;refine wpAny_bind (wpAny_seqItems gS rfl ?_)
 show wpAny _ X.A.in1 (tryCatch (pyNext (.ref s.heap.objs.size)) _ >>= _) _ _ _
 have nS:∀ a o,s.heap.get? a=some o->a≠S:=fun a o e z=>by
  have h:=zAS e
  rw [z,szI] at h
  exact absurd h (Nat.not_lt.mpr (zB4 _))
 have keepI:∀ {h':Heap} {tk:Nat} {v:Int} {t:Tok},(∀ a o,a≠s.heap.objs.size->a≠S->h2.get? a=some o->h'.get? a=some o)->v=Vs d ns->EP X pins σ Q (.int v t) { s with heap:=h',toks:=tk }:=fun {h' tk v t} k e=>by
  subst e
  exact ⟨.int (Vs d ns),H,I.kept (t':=tk) fun a o e=>k a o (zAk (zAS e)) (nS a o e) (old a o e),⟨t,rfl⟩,q⟩
 cases ns with
 | nil=>
  have z:its=[]:=zBy hlen
  subst z
  refine wpAny_bind (wpAny_tryCatch (W.done _ _ _ ⟨gI,gL⟩ fun h' tk hk'=>?_))
  show wpAny _ X.A.in1 (rule _ >>= _) _ _ _
  refine wpAny_bind (wpAny_rule (wpAny_pure ?_))
  exact keepI (fun a o ha hs e=>hk' a o (by simpa using ha) e) rfl
 | cons x r=>
  have zl:0<its.toArray.size:=by rw [zAI,hlen];exact Nat.succ_pos _
  refine wpAny_bind (wpAny_tryCatch (W.item 0 _ _ _ zl ⟨gI,gL⟩ fun v h' tk hP st' hk'=>?_))
  have hS':=hk' S _ (by simpa using hSI) gS
  obtain ⟨tv,hv⟩:∃ t,v=.int x t:=by
   obtain ⟨u,e1,t,e2⟩:=rv.get (i:=0) (x:=.int x) rfl
   have hP':its[0]? = some v:=by simpa using hP
   rw [hP'] at e1
   cases e1
   exact ⟨t,e2⟩
  subst hv
  show wpAny _ X.A.in1 (updateSeq S (fun _=>#[.int x tv,.int x tv]) >>= _) _ _ _
  refine wpAny_bind (wpAny_updateSeq hS' rfl ?_)
  rw [nm]
  refine wpAny_pure ⟨plainId_quiet zBD _,Fs hh hSI hSl hlI hi _ 1 _ x tv _ rfl (by rw [hlen];exact Nat.succ_le_succ (zAe _)) ?_ ?_ (zA1 _ hS' rfl) fun t h3 tk3 hk3=>?_⟩
  ·obtain ⟨o,e,r⟩:=st'.1
   exact ⟨o,(zAl _ _ hSI).trans e,r⟩
  ·obtain ⟨o,e,r⟩:=st'.2
   exact ⟨o,(zAl _ _ hSl).trans e,r⟩
  ·exact keepI (fun a o ha hs e=>hk3 a o ha hs ((zAl _ _ (Ne.symm hs)).trans (hk' a o (by simpa using ha) e))) rfl
def Gd (t tk:TA) (K:zAA):TE:=fun σ H Q=>t σ H fun vs H1=>tk σ H1 fun zs H2=>∃ (l:Addr) (ns:List Int) (d:Int),vs=[.ref l]/\zs=[.int d]/\ZM K H2 l (ns.map V.int)/\Q (.int (Vs d ns)) H2
theorem EG {p pos kp:Pos} {e dv:Expr} {t tk:TA} (hc:X.calm=true) (hg:Gl X "max") (hm:X.mg "max" = none) (ha:PA X [e] t) (hk:PK X [⟨some (zAy "default"),dv,kp⟩] tk)
  (he:backTo pos (starEach [e] X.env)=(false,eval e X.env) :: backTo pos (starEach [] X.env):=by rfl) (hplain:(backTo pos (starEach [e] X.env)).any (·.1)=false:=by rfl) :
  PE X (.Call (.Name "max" p) [e] [⟨some (zAy "default"),dv,kp⟩] pos) (Gd t tk X.K):=by
 intro pins s σ H Q I h
 refine wpAny_Call_Name_kw (Ud I hg hm Pb (callWith_kw (Zb (ha pos pins s σ H _ I h) fun us s1 ⟨vs,H1,I1,r,q⟩=>?_) he hplain))
 refine Zb (hk pos pins s1 σ H1 _ I1 q) fun ws s2 ⟨zs,H2,I2,rz,l,ns,d,e1,e2,hq,q2⟩=>?_
 subst e1 e2
 obtain ⟨u,rfl,ru⟩:=Wg r
 obtain ⟨u2,rfl,t2,rfl⟩:=Wg rz
 cases ru
 exact Hg hc I2 hq q2
end
def LK (x:Str):It:=⟨fun i _=>i<x.cps.size,fun i H v H'=>H'=H/\∃ c,x.cps[i]? = some c/\v=.str ⟨#[c]⟩,fun i _=>i=x.cps.size⟩
theorem Kv {P:Program} {w:World} {K:zAA} {tg:Expr} (ty:String) (hty:["enumerate","zip","dict_itemiterator","dict_reverseitemiterator","odict_iterator","itertools.zip_longest","itertools.pairwise"].contains ty=false) (x:Str) (t:Tok) (it:Addr)
  (W:∀ A:Around,A.handled=none->Walks P w A it [it] [it] x.cps.size (SignAt x) (fun i h=>h.IsStrIter it ty x t i))
  (self:∀ (A:Around) (i:Nat) (s:Shared) (Q:Value->Shared->Prop) (E:Value->Shared->Prop),s.heap.IsStrIter it ty x t i->Q (.ref it) s->wpAny (model P w) A (pyIter (.ref it)) Q E s) :
  Wf P w K tg (LK x) [it] it (fun i h=>h.IsStrIter it ty x t i) where
 mem:=by simp
 obj:=fun i h st b hb=>by
  have e:b=it:=by simpa using hb
  subst e
  obtain ⟨o,e,c,d⟩:=st
  exact ⟨o,e,fun v z=>by rw [d] at z;cases z⟩
 keep:=fun i h h' ⟨o,e,r⟩ k=>⟨o,k it (by simp) o e,r⟩
 item:=by
  intro X hP hw hK hc i pins s σ H E I hf st hg
  subst hP hw hK
  obtain ⟨f0,f1,f2,f3,f4,f5⟩:=hf it (by simp)
  refine (W X.A (I.ok.hd hc)).item i s _ _ hg st fun v h' tk hv st' kk=>?_
  obtain ⟨c,u,hx,rfl⟩:=hv
  have I1:ZF X pins σ H { s with heap:=h',toks:=tk }:=I.turned (fun b o hb e=>kk b o (by simpa using hb) e) f0 f1 f3 f4 f5
  obtain ⟨o,e,cl,d⟩:=id st'
  exact ⟨_,rfl,Qj (s:={ s with heap:=h',toks:=tk }) e cl d hty ⟨.str ⟨#[c]⟩,H,I1,⟨u,rfl⟩,⟨rfl,c,hx,rfl⟩,st',fun b hb=>(hf b hb).1⟩⟩
 done:=by
  intro X hP hw hK hc i pins s σ H E I hf st hg
  subst hP hw hK
  obtain ⟨f0,f1,f2,f3,f4,f5⟩:=hf it (by simp)
  have hi:i=x.cps.size:=hg
  subst hi
  exact (W X.A (I.ok.hd hc)).done s _ _ st fun h' tk kk=>⟨rfl,I.turned (fun b o hb e=>kk b o (by simpa using hb) e) f0 f1 f3 f4 f5⟩
 self:=self
section
variable {X:Cx} {tg:Expr}
def Dq (tl:TE):TI:=fun σ H R=>tl σ H fun v H1=>∃ x,v=.str x/\R (LK x) H1
theorem Cc {l:Expr} {tl:TE} (hl:PE X l tl):PI X tg l (Dq tl):=by
 intro pins s σ H R I h
 refine Zb (hl pins s σ H _ I h) fun v s1 ⟨z,H1,I1,r1,x,e,q⟩=>?_
 subst e
 obtain ⟨t,rfl⟩:=r1
 have fp:∀ b∈[s1.heap.objs.size],Xf X pins H1 b:=fun b hb=>by
  rw [zAQ.mp hb]
  exact I1.fpOk (zAH _) (I1.hok.fresh (zAH _))
 cases ha:x.cps.all (· < 128)
 ·exact wpAny_pyIter_wide ha ⟨s1.heap.objs.size,[s1.heap.objs.size],_,_,H1,rfl,I1.kept (t':=s1.toks) fun b o e=>zAG _ e,
   Kv "str_iterator" (by decide) x t _ (fun A hA=>Walks.strWide hA _ x t) (fun A i s Q E st h=>wpAny_pyIter_striter_wide st h),⟨_,zAT _ rfl,rfl,rfl⟩,fp,q⟩
 ·exact wpAny_pyIter_ascii ha ⟨s1.heap.objs.size,[s1.heap.objs.size],_,_,H1,rfl,I1.kept (t':=s1.toks) fun b o e=>zAG _ e,
   Kv "str_ascii_iterator" (by decide) x t _ (fun A hA=>Walks.strAscii hA _ x t) (fun A i s Q E st h=>wpAny_pyIter_striter_ascii st h),⟨_,zAT _ rfl,rfl,rfl⟩,fp,q⟩
end
section
variable {σ:St} {H:Hp} {ix:List Nat} {te:TE} {Q:VK} {K:zAA}
theorem X7 {J:It} {n:Nat} (item:Nat->V->Prop) (Pv:Addr->Nat->List V->Hp->Prop) (hn:n<sizeLine)
  (hgo:∀ D i ys H,i<n->Pv D i ys H->J.go i H) (hy:∀ D i ys H x H',i<n->Pv D i ys H->J.yld i H x H'->H'=H/\item i x) (hstop:∀ D ys H,Pv D n ys H->J.stop n H)
  (h0:∀ D,H D=none->Pv D 0 [] (upd H D (.lst [])))
  (step:∀ D i ys H x,H D=some (.lst ys)->ys.length<=i->i<n->item i x->Pv D i ys H->∀ R:VK,(∀ y H3,H3 D=some (.lst ys)->Pv D (i+1) (ys++[y]) (upd H3 D (.lst (ys++[y])))->R y H3)->te (QQ σ ix x) H R)
  (fin:∀ D ys H,H D=some (.lst ys)->Pv D n ys H->Q (.ref D) H):WB J σ ix OT te H Q:=by
 intro D hD
 refine ⟨fun i m H=>m=n - i/\i<=n/\∃ ys,H D=some (.lst ys)/\ys.length<=i/\Pv D i ys H,⟨n,rfl,zAe _,[],ZP,zAH _,h0 D hD⟩,?_⟩
 rintro i m H ⟨rfl,hi,ys,e,hl,p⟩
 by_cases hlt:i<n
 ·refine .inr ⟨hgo D i ys H hlt p,fun x H' y=>?_⟩
  obtain ⟨rfl,it⟩:=hy D i ys H x H' hlt p y
  unfold OT
  dsimp only
  rw [if_pos rfl]
  refine step D i ys _ x e hl hlt it p _ fun y H3 e3 p3=>?_
  exact ⟨ys,n - (i+1),e3,by omega,by omega,rfl,hlt,ys++[y],ZP,by rw [zAL,zBw];omega,p3⟩
 ·have e':i=n:=by omega
  subst e'
  exact .inl ⟨hstop D ys H p,fin D ys H e p⟩
end
end L2
namespace Tw
open PySem
inductive KT where
 | int (i:Int)
 | str (x:Str)
 | tup (l:List KT)
mutual
def KT.depth:KT->Nat
 | .int _=>0
 | .str _=>0
 | .tup l=>1+depthL l
def depthL:List KT->Nat
 | []=>0
 | t :: r=>max t.depth (depthL r)
end
mutual
def KT.size:KT->Nat
 | .int _=>1
 | .str _=>1
 | .tup l=>1+sizeL l
def sizeL:List KT->Nat
 | []=>0
 | t :: r=>t.size+sizeL r
end
def Wr (c:Nat):Bool:=decide (32<=c)&&decide (c<=126)
def Wv (x:Str):Bool:=decide (x.length<=40)&&x.cps.toList.all Wr
mutual
def KT.fits:KT->Nat->Bool
 | .int i,_=>decide (i.natAbs<10 ^ 60)
 | .str x,_=>Wv x
 | .tup l,r=>decide (0<r)&&(decide (l.length<=4)&&fitsL l (r - 1))
def fitsL:List KT->Nat->Bool
 | [],_=>true
 | t :: l,r=>t.fits r&&fitsL l r
end
theorem QG (r:Nat):∀ l:List KT,fitsL l r=l.all fun t=>t.fits r
 | []=>by simp [fitsL]
 | t :: l=>by rw [fitsL,zDD,QG r l]
mutual
theorem Wd:∀ (t:KT) (r:Nat),t.fits r=true->t.depth<=r
 | .int _,r,_=>by rw [KT.depth];exact zAe _
 | .str _,r,_=>by rw [KT.depth];exact zAe _
 | .tup l,r,h=>by
  rw [KT.fits,zAJ,zAJ] at h
  obtain ⟨h1,_,h3⟩:=h
  have h1':0<r:=of_decide_eq_true h1
  have:=fitsL_depth l (r - 1) h3
  rw [KT.depth]
  omega
theorem fitsL_depth:∀ (l:List KT) (r:Nat),fitsL l r=true->depthL l<=r
 | [],r,_=>by rw [depthL];exact zAe _
 | t :: l,r,h=>by
  rw [fitsL,zAJ] at h
  have a:=Wd t r h.1
  have b:=fitsL_depth l r h.2
  rw [depthL]
  omega
end
def KT.things:KT->List KT
 | .tup l=>l
 | _=>[]
def below (l:List KT):List KT:=l.flatMap KT.things
end Tw
namespace Tw
open PySem PySem.Spec L2
structure ZB (P:Program) (w:World) (K:zAA) (mg:Str->Option Value) (base:Heap) (k:Nat) (x:Str) (ps:List Str) (sp:Sp):Prop where
 ex:∃ f fd,ZK P w K mg base ZV k f fd ps sp/\Zq K fd ps []/\zAp K (.ref f)=true/\mg x=some (.ref f)
theorem Zg {X:Cx} {k:Nat} {x:Str} {ps:List Str} {sp:Sp} {e:Expr} {es:List Expr} {t:TA} {p pos:Pos} (D:ZB X.prog X.w X.K X.mg X.base k x ps sp) (hr:ZZ k X.A) (ha:PA X (e :: es) t) (hg:Gl X x:=by rfl)
  (hdb:(x==("__debug__" : Str))=false:=by decide) (he:starEach (e :: es) X.env=(false,eval e X.env) :: starEach es X.env:=by rfl) (hpl:(backTo pos (starEach es X.env)).any (·.1)=false:=by rfl) :
  PE X (.Call (.Name x p) (e :: es) [] pos) (PR sp [] E0 t):=by
 obtain ⟨f,fd,F,b,kp,m⟩:=D.ex
 exact Nr F hr hg m kp b .nil Yr ha hdb he hpl
mutual
def ZD (H:Hp):KT->V->Prop
 | .int i,v=>v=.int i
 | .str x,v=>v=.str x
 | .tup l,v=>∃ a vs,v=.ref a/\H a=some (.tup vs)/\KeysAt H l vs
def KeysAt (H:Hp):List KT->List V->Prop
 | [],vs=>vs=[]
 | t :: l,vs=>∃ v r,vs=v :: r/\ZD H t v/\KeysAt H l r
end
def Zu (H H':Hp):Prop:=∀ b xs,H b=some (.tup xs)->H' b=some (.tup xs)
mutual
theorem ZD.mono {H H':Hp} (m:Zu H H'):∀ (t:KT) (v:V),ZD H t v->ZD H' t v
 | .int _,_,h=>by rw [ZD] at h ⊢;exact h
 | .str _,_,h=>by rw [ZD] at h ⊢;exact h
 | .tup l,_,h=>by
  rw [ZD] at h ⊢
  obtain ⟨a,vs,e,h1,h2⟩:=h
  exact ⟨a,vs,e,m a vs h1,KeysAt.mono m l vs h2⟩
theorem KeysAt.mono {H H':Hp} (m:Zu H H'):∀ (l:List KT) (vs:List V),KeysAt H l vs->KeysAt H' l vs
 | [],_,h=>by rw [KeysAt] at h ⊢;exact h
 | t :: l,_,h=>by
  rw [KeysAt] at h ⊢
  obtain ⟨v,r,e,h1,h2⟩:=h
  exact ⟨v,r,e,ZD.mono m t v h1,KeysAt.mono m l r h2⟩
end
theorem KeysAt.nil {H:Hp}:KeysAt H [] []:=by rw [KeysAt]
theorem KeysAt.cons {H:Hp} {t:KT} {l:List KT} {v:V} {r:List V} (h:ZD H t v) (hr:KeysAt H l r):KeysAt H (t :: l) (v :: r):=by
 rw [KeysAt]
 exact ⟨v,r,rfl,h,hr⟩
theorem ZD.tup {H:Hp} {a:Addr} {vs:List V} {l:List KT} (e:H a=some (.tup vs)) (h:KeysAt H l vs):ZD H (.tup l) (.ref a):=by
 rw [ZD]
 exact ⟨a,vs,rfl,e,h⟩
theorem ZD.int {H:Hp} (i:Int):ZD H (.int i) (.int i):=by rw [ZD]
theorem ZD.str {H:Hp} (x:Str):ZD H (.str x) (.str x):=by rw [ZD]
theorem KeysAt.append {H:Hp}:∀ {l m:List KT} {vs ws:List V},KeysAt H l vs->KeysAt H m ws->KeysAt H (l++m) (vs++ws)
 | [],m,vs,ws,h,g=>by rw [KeysAt] at h;subst h;exact g
 | t :: l,m,vs,ws,h,g=>by
  rw [KeysAt] at h
  obtain ⟨v,r,rfl,h1,h2⟩:=h
  exact .cons h1 (h2.append g)
theorem KeysAt.length {H:Hp}:∀ {l:List KT} {vs:List V},KeysAt H l vs->l.length=vs.length
 | [],vs,h=>by rw [KeysAt] at h;subst h;rfl
 | t :: l,vs,h=>by
  rw [KeysAt] at h
  obtain ⟨v,r,rfl,_,h2⟩:=h
  rw [zAX,zAX,h2.length]
theorem KeysAt.get {H:Hp}:∀ {l:List KT} {vs:List V} {i:Nat} {v:V},KeysAt H l vs->vs[i]? = some v->∃ t,l[i]? = some t/\ZD H t v
 | [],vs,i,v,h,e=>by rw [KeysAt] at h;subst h;simp at e
 | t :: l,vs,0,v,h,e=>by
  rw [KeysAt] at h
  obtain ⟨v',r,rfl,h1,_⟩:=h
  simp at e
  subst e
  exact ⟨t,rfl,h1⟩
 | t :: l,vs,i+1,v,h,e=>by
  rw [KeysAt] at h
  obtain ⟨v',r,rfl,_,h2⟩:=h
  obtain ⟨t',e1,e2⟩:=h2.get (i:=i) (by simpa using e)
  exact ⟨t',by simpa using e1,e2⟩
theorem KeysAt.take {H:Hp}:∀ {l:List KT} {vs:List V} (n:Nat),KeysAt H l vs->KeysAt H (l.take n) (vs.take n)
 | l,vs,0,_=>by simp only [zC4];exact .nil
 | [],vs,n+1,h=>by rw [KeysAt] at h;subst h;exact .nil
 | t :: l,vs,n+1,h=>by
  rw [KeysAt] at h
  obtain ⟨v',r,rfl,h1,h2⟩:=h
  exact .cons h1 (h2.take n)
theorem KeysAt.drop {H:Hp}:∀ {l:List KT} {vs:List V} (n:Nat),KeysAt H l vs->KeysAt H (l.drop n) (vs.drop n)
 | l,vs,0,h=>h
 | [],vs,n+1,h=>by rw [KeysAt] at h;subst h;exact .nil
 | t :: l,vs,n+1,h=>by
  rw [KeysAt] at h
  obtain ⟨v',r,rfl,h1,h2⟩:=h
  exact h2.drop n
def KT.ty:KT->Value
 | .int _=>.type "int"
 | .str _=>.type "str"
 | .tup _=>.type "tuple"
theorem ZD.ty {H:Hp} {K:zAA} {t:KT} {v:V} (h:ZD H t v):YZ K H v t.ty:=by
 cases t with
 | int i=>rw [ZD] at h;subst h;exact .int i
 | str x=>rw [ZD] at h;subst h;exact .str x
 | tup l=>rw [ZD] at h;obtain ⟨a,vs,rfl,e,_⟩:=h;exact .tup e
def ZE (p:Addr) (H H':Hp):Prop:=∀ b o,H b=some o->b≠p->H' b=some o
theorem ZE.refl (p:Addr) (H:Hp):ZE p H H:=fun _ _ h _=>h
theorem ZE.trans {p:Addr} {H H1 H2:Hp} (a:ZE p H H1) (b:ZE p H1 H2):ZE p H H2:=fun c o h n=>b c o (a c o h n) n
theorem ZE.upd {p:Addr} {H H':Hp} {o:HO} (a:ZE p H H'):ZE p H (L2.upd H' p o):=fun c u h n=>by rw [ZT n];exact a c u h n
theorem ZE.of {p:Addr} {H H':Hp} (a:ZA H H'):ZE p H H':=fun c o h _=>a c o h
theorem ZE.tups {p:Addr} {H H':Hp} {xs:List V} (a:ZE p H H') (h:H p=some (.lst xs)):Zu H H':=fun b ys e=>a b _ e (ZR e h (by intro z;cases z))
theorem ZA.tups {H H':Hp} (a:ZA H H'):Zu H H':=fun b ys e=>a b _ e
theorem Za {H:Hp} {p:Addr} (h:H p=none) (o:HO):ZA H (L2.upd H p o):=fun b u q=>by rw [ZT (ZY q h)];exact q
structure ZH (H:Hp) (p:Addr):Prop where
 ex:∃ a b c d:Int,H p=some (.lst [.int a,.int b,.int c,.int d])/\0<=a/\a<2147483647/\0<=c/\0<=d
theorem ZH.stay {H H':Hp} {p q:Addr} (w:ZH H p) (s:ZE q H H') (n:p≠q):ZH H' p:=by
 obtain ⟨a,b,c,d,e,r⟩:=w.ex
 exact ⟨a,b,c,d,s p _ e n,r⟩
theorem ZH.same {H H':Hp} {p:Addr} (w:ZH H p) (s:ZA H H'):ZH H' p:=by
 obtain ⟨a,b,c,d,e,r⟩:=w.ex
 exact ⟨a,b,c,d,s p _ e,r⟩
theorem ZH.some {H:Hp} {p:Addr} (w:ZH H p):∃ xs,H p=zAh (.lst xs):=by
 obtain ⟨a,b,c,d,e,r⟩:=w.ex
 exact ⟨_,e⟩
theorem ZE.tupsW {p:Addr} {H H':Hp} (a:ZE p H H') (w:ZH H p):Zu H H':=by
 obtain ⟨xs,e⟩:=w.some
 exact a.tups e
def Jc (m:Int):Prop:=0<m/\m.natAbs.log2<9000
def Pq (K:zAA):Sp:=fun vs H Q _=>∃ (a:Addr) (ns:List Int) (k:Int),vs=[.ref a,.int k]/\ZM K H a (ns.map V.int)/\ns.length<=63/\0<=k/\k<=1000 /\
 ∀ (p:Addr) (H':Hp),H p=none->ZA H H'->ZH H' p->Q (.ref p) H'
def Xq:Sp:=fun vs H Q _=>∃ (p:Addr) (m:Int),vs=[.ref p,.int m]/\ZH H p/\Jc m/\∀ (r:Int) (H':Hp),0<=r->r<m->ZH H' p->ZE p H H'->Q (.int r) H'
def QS:Sp:=fun vs H Q _=>∃ (p:Addr),vs=[.ref p]/\ZH H p/\∀ (x:Str) (H':Hp),Wv x=true->ZH H' p->ZE p H H'->Q (.str x) H'
def Vr (n:Nat):Sp:=fun vs H Q _=>∃ (p:Addr) (r:Nat),vs=[.ref p,.int (r:Int)]/\ZH H p/\r<n/\∀ (v:V) (t:KT) (H':Hp),ZD H' t v->t.fits r=true->ZH H' p->ZE p H H'->Q v H'
def PV:Sp:=fun vs H Q _=>∃ i:Int,vs=[.int i]/\Q (.bl (decide (i.natAbs<10 ^ 60))) H
def OC:Sp:=fun vs H Q _=>∃ c:Nat,vs=[.str ⟨#[c]⟩]/\Q (.bl (Wr c)) H
def IN:Sp:=fun vs H Q _=>∃ (v:V) (t:KT) (q:Nat),vs=[v]/\ZD H t v/\t.fits q=true/\∀ H',ZA H H'->Q (.bl (t.fits 3)) H'
def Qn (K:zAA):Sp:=fun vs H Q _=>∃ (a:Addr) (ns:List Int),vs=[.ref a]/\ZM K H a (ns.map V.int)/\ns.length<=63/\∀ H',Q (.bl true) H'
theorem nn {n:Nat} (h:n<=1000):n<=sizeLine:=zBb (Yp h)
theorem OA {x y:V} {i:Int} (h0:0<=i) (h1:i<2):∃ v,XQ [x,y] i=some v/\(v=x\/v=y):=by
 rcases (show i=0\/i=1 by omega) with e | e
 ·subst e;exact ⟨x,rfl,.inl rfl⟩
 ·subst e;exact ⟨y,rfl,.inr rfl⟩
theorem UK {α:Type} {xs:List α} {i:Int} (h0:0<=i) (h1:i<(xs.length:Int)):∃ v,XQ xs i=some v/\v∈xs:=by
 have hk:i.toNat<xs.length:=by omega
 have e:i=((i.toNat:Nat):Int):=by omega
 rw [e]
 exact ⟨xs[i.toNat],XL (zAE hk),zA9 hk⟩
theorem Y4 {m:Int} (h0:0<m) (h1:m.natAbs<2 ^ 250):Jc m:=by
 refine ⟨h0,?_⟩
 have:m.natAbs.log2<250:=(Nat.log2_lt (by omega)).mpr h1
 omega
theorem QT {i j:Int} (h:V.int i=V.int j):i=j:=by injection h
theorem E4 (c:Nat):((!decide ([c]<[32])) && !decide ([126]<[c]))=Wr c:=by
 unfold Wr
 have a:([c]<[32]) ↔ c<32:=by simp [zBa]
 have b:([126]<[c]) ↔ 126<c:=by simp [zBa]
 rw [zBp]
 simp only [zAJ,Bool.not_eq_true',decide_eq_false_iff_not,decide_eq_true_eq,a,b]
 omega
theorem CA (i:Int):decide ((if i<0 then -i else i)<10 ^ (60:Int).toNat)=decide (i.natAbs<10 ^ 60):=by
 have e:((10:Int) ^ (60:Int).toNat)=((10 ^ 60:Nat):Int):=by decide +kernel
 rw [e]
 generalize (10 ^ 60:Nat)=N
 apply decide_eq_decide.mpr
 split <;> omega
end Tw
namespace Tw
open PySem
mutual
def KT.eqb:KT->KT->Bool
 | .int i,.int j=>i==j
 | .str x,.str y=>x==y
 | .tup l,.tup m=>eqbL l m
 | _,_=>false
def eqbL:List KT->List KT->Bool
 | [],[]=>true
 | a :: l,b :: m=>a.eqb b&&eqbL l m
 | _,_=>false
end
mutual
def KT.plt:KT->KT->Bool
 | .int i,.int j=>decide (i<j)
 | .str x,.str y=>decide (x.cps.toList<y.cps.toList)
 | .tup l,.tup m=>pltL l m
 | _,_=>false
def pltL:List KT->List KT->Bool
 | [],[]=>false
 | [],_ :: _=>true
 | _ :: _,[]=>false
 | a :: l,b :: m=>if a.eqb b=true then pltL l m else a.plt b
end
mutual
def KT.cmp:KT->KT->Bool
 | .int _,.int _=>true
 | .str _,.str _=>true
 | .tup l,.tup m=>cmpL l m
 | _,_=>false
def cmpL:List KT->List KT->Bool
 | [],_=>true
 | _ :: _,[]=>true
 | a :: l,b :: m=>if a.eqb b=true then cmpL l m else a.cmp b
end
def KT.kind:KT->Nat
 | .int _=>0
 | .str _=>1
 | .tup _=>2
mutual
def KT.lt:KT->KT->Bool
 | .int i,.int j=>decide (i<j)
 | .int _,.str _=>true
 | .int _,.tup _=>true
 | .str _,.int _=>false
 | .str x,.str y=>decide (x.cps.toList<y.cps.toList)
 | .str _,.tup _=>true
 | .tup _,.int _=>false
 | .tup _,.str _=>false
 | .tup l,.tup m=>ltL l m
def ltL:List KT->List KT->Bool
 | [],[]=>false
 | [],_ :: _=>true
 | _ :: _,[]=>false
 | a :: l,b :: m=>if a.eqb b=true then ltL l m else a.lt b
end
mutual
def KT.st:KT->KT
 | .int i=>.tup [.int 0,.int i]
 | .str x=>.tup [.int 1,.str x]
 | .tup l=>.tup [.int 2,.tup (stL l)]
def stL:List KT->List KT
 | []=>[]
 | t :: l=>t.st :: stL l
end
theorem KU:∀ l:List KT,stL l=l.map KT.st
 | []=>by rw [stL];rfl
 | t :: l=>by rw [stL,KU l];rfl
mutual
theorem VW:∀ (a b:KT),a.eqb b=true->a=b
 | .int i,.int j,h=>by rw [KT.eqb] at h;rw [eq_of_beq h]
 | .str x,.str y,h=>by rw [KT.eqb] at h;rw [eq_of_beq h]
 | .tup l,.tup m,h=>by rw [KT.eqb] at h;rw [eqbL_eq l m h]
 | .int _,.str _,h=>by simp [KT.eqb] at h
 | .int _,.tup _,h=>by simp [KT.eqb] at h
 | .str _,.int _,h=>by simp [KT.eqb] at h
 | .str _,.tup _,h=>by simp [KT.eqb] at h
 | .tup _,.int _,h=>by simp [KT.eqb] at h
 | .tup _,.str _,h=>by simp [KT.eqb] at h
theorem eqbL_eq:∀ (l m:List KT),eqbL l m=true->l=m
 | [],[],_=>rfl
 | a :: l,b :: m,h=>by
  rw [eqbL,zAJ] at h
  rw [VW a b h.1,eqbL_eq l m h.2]
 | [],_ :: _,h=>by simp [eqbL] at h
 | _ :: _,[],h=>by simp [eqbL] at h
end
mutual
theorem VX:∀ a:KT,a.eqb a=true
 | .int i=>by rw [KT.eqb];exact beq_self_eq_true i
 | .str x=>by rw [KT.eqb];exact beq_self_eq_true x
 | .tup l=>by rw [KT.eqb];exact eqbL_self l
theorem eqbL_self:∀ l:List KT,eqbL l l=true
 | []=>by rw [eqbL]
 | a :: l=>by rw [eqbL,VX a,eqbL_self l];rfl
end
theorem Ya {a b:KT}:a.eqb b=true ↔ a=b:=⟨VW a b,fun e=>by rw [e];exact VX b⟩
mutual
theorem Iv:∀ a b:KT,a.st.eqb b.st=a.eqb b
 | .int i,.int j=>by simp [KT.st,KT.eqb,eqbL]
 | .str x,.str y=>by simp [KT.st,KT.eqb,eqbL]
 | .tup l,.tup m=>by simp [KT.st,KT.eqb,eqbL,eqbL_st l m]
 | .int _,.str _=>by simp [KT.st,KT.eqb,eqbL]
 | .int _,.tup _=>by simp [KT.st,KT.eqb,eqbL]
 | .str _,.int _=>by simp [KT.st,KT.eqb,eqbL]
 | .str _,.tup _=>by simp [KT.st,KT.eqb,eqbL]
 | .tup _,.int _=>by simp [KT.st,KT.eqb,eqbL]
 | .tup _,.str _=>by simp [KT.st,KT.eqb,eqbL]
theorem eqbL_st:∀ l m:List KT,eqbL (stL l) (stL m)=eqbL l m
 | [],[]=>by simp [stL,eqbL]
 | a :: l,b :: m=>by simp [stL,eqbL,Iv a b,eqbL_st l m]
 | [],_ :: _=>by simp [stL,eqbL]
 | _ :: _,[]=>by simp [stL,eqbL]
end
theorem Ih:∀ l:List KT,ltL l l=false
 | []=>by rw [ltL]
 | a :: l=>by rw [ltL,VX a,if_pos rfl,Ih l]
theorem KN {l m:List KT} (h:eqbL l m=true):ltL l m=false:=by
 rw [eqbL_eq l m h];exact Ih m
mutual
theorem IQ:∀ a b:KT,a.st.cmp b.st=true
 | .int i,.int j=>by simp [KT.st,KT.eqb,KT.cmp,cmpL]
 | .str x,.str y=>by simp [KT.st,KT.eqb,KT.cmp,cmpL]
 | .tup l,.tup m=>by simp [KT.st,KT.eqb,KT.cmp,cmpL,cmpL_st l m]
 | .int _,.str _=>by simp [KT.st,KT.eqb,KT.cmp,cmpL]
 | .int _,.tup _=>by simp [KT.st,KT.eqb,KT.cmp,cmpL]
 | .str _,.int _=>by simp [KT.st,KT.eqb,KT.cmp,cmpL]
 | .str _,.tup _=>by simp [KT.st,KT.eqb,KT.cmp,cmpL]
 | .tup _,.int _=>by simp [KT.st,KT.eqb,KT.cmp,cmpL]
 | .tup _,.str _=>by simp [KT.st,KT.eqb,KT.cmp,cmpL]
theorem cmpL_st:∀ l m:List KT,cmpL (stL l) (stL m)=true
 | [],_=>by simp [stL,cmpL]
 | _ :: _,[]=>by simp [stL,cmpL]
 | a :: l,b :: m=>by
  rw [stL,stL,cmpL,cmpL_st l m,IQ a b]
  split <;> rfl
end
mutual
theorem Lj:∀ a b:KT,a.st.plt b.st=a.lt b
 | .int i,.int j=>by
  simp only [KT.st,KT.eqb,KT.plt,pltL,KT.lt,beq_self_eq_true,if_true]
  by_cases h:i=j
  ·subst h;simp
  ·simp [h]
 | .str x,.str y=>by
  simp only [KT.st,KT.eqb,KT.plt,pltL,KT.lt,beq_self_eq_true,if_true]
  by_cases h:x=y
  ·subst h;simp
  ·simp [h]
 | .tup l,.tup m=>by
  simp only [KT.st,KT.eqb,KT.plt,pltL,KT.lt,beq_self_eq_true,if_true,eqbL_st,pltL_st l m]
  cases h:eqbL l m with
  | true=>rw [if_pos rfl,KN h]
  | false=>rw [if_neg zAF]
 | .int _,.str _=>by simp [KT.st,KT.eqb,KT.plt,pltL,KT.lt]
 | .int _,.tup _=>by simp [KT.st,KT.eqb,KT.plt,pltL,KT.lt]
 | .str _,.int _=>by simp [KT.st,KT.eqb,KT.plt,pltL,KT.lt]
 | .str _,.tup _=>by simp [KT.st,KT.eqb,KT.plt,pltL,KT.lt]
 | .tup _,.int _=>by simp [KT.st,KT.eqb,KT.plt,pltL,KT.lt]
 | .tup _,.str _=>by simp [KT.st,KT.eqb,KT.plt,pltL,KT.lt]
theorem pltL_st:∀ l m:List KT,pltL (stL l) (stL m)=ltL l m
 | [],[]=>by simp [stL,pltL,ltL]
 | [],_ :: _=>by simp [stL,pltL,ltL]
 | _ :: _,[]=>by simp [stL,pltL,ltL]
 | a :: l,b :: m=>by rw [stL,stL,pltL,ltL,Iv a b,pltL_st l m,Lj a b]
end
mutual
theorem Km:∀ t:KT,t.st.depth<=2 * t.depth+1
 | .int i=>by simp [KT.st,KT.depth,depthL]
 | .str x=>by simp [KT.st,KT.depth,depthL]
 | .tup l=>by
  have:=depthL_st l
  simp only [KT.st,KT.depth,depthL]
  omega
theorem depthL_st:∀ l:List KT,depthL (stL l)<=2 * depthL l+1
 | []=>by simp [stL,depthL]
 | t :: l=>by
  have a:=Km t
  have b:=depthL_st l
  rw [stL,depthL,depthL]
  omega
end
theorem B6 {x:Str} (h:Wv x=true):x.cps.size<=40/\x.cps.toList.all Wr=true:=by
 unfold Wv at h
 rw [zAJ] at h
 exact ⟨of_decide_eq_true h.1,h.2⟩
end Tw
namespace Tw
open PySem PySem.Spec L2 PyProof.Rows
mutual
def ZL (h:Heap):KT->Value->Prop
 | .int i,v=>∃ t,v=.int i t
 | .str x,v=>∃ t,v=.str x t
 | .tup l,v=>∃ (a:Addr) (its:List Value),v=.ref a/\IsTup h a its.toArray/\KVals h l its
def KVals (h:Heap):List KT->List Value->Prop
 | [],vs=>vs=[]
 | t :: l,vs=>∃ v r,vs=v :: r/\ZL h t v/\KVals h l r
end
section
variable {X:Cx} {pins:List (Addr×Obj)} {σ:L2.St} {H:Hp} {s:Shared}
mutual
theorem Wo (I:ZF X pins σ H s):∀ (t:KT) (x:V) (v:Value),ZD H t x->ZQ x v->ZL s.heap t v
 | .int i,x,v,h,r=>by
  rw [ZD] at h
  subst h
  rw [ZL]
  exact r
 | .str y,x,v,h,r=>by
  rw [ZD] at h
  subst h
  rw [ZL]
  exact r
 | .tup l,x,v,h,r=>by
  rw [ZD] at h
  obtain ⟨a,vs,rfl,e,hk⟩:=h
  obtain ⟨its,rv,pl,_⟩:=I.tuple (Zj.of e)
  rw [ZL]
  exact ⟨a,its,r,pl,kvals_of I l vs its hk rv⟩
theorem kvals_of (I:ZF X pins σ H s):∀ (l:List KT) (vs:List V) (us:List Value),KeysAt H l vs->ZN vs us->KVals s.heap l us
 | [],vs,us,h,r=>by
  rw [KeysAt] at h
  subst h
  rw [KVals]
  cases r
  rfl
 | t :: l,vs,us,h,r=>by
  rw [KeysAt] at h
  obtain ⟨v,q,rfl,h1,h2⟩:=h
  cases r with
  | cons r1 r2=>
   rw [KVals]
   exact ⟨_,_,rfl,Wo I t v _ h1 r1,kvals_of I l q _ h2 r2⟩
end
end
theorem Gr {h:Heap} {a:Addr} {its its':List Value} (x:IsTup h a its.toArray) (y:IsTup h a its'.toArray):its=its':=by
 obtain ⟨o,e,_,n,d⟩:=x
 obtain ⟨o',e',_,n',d'⟩:=y
 rw [e] at e'
 cases e'
 rw [d] at d'
 injection d' with d1 _
 simpa using congrArg zDH d1
mutual
theorem ZL.inj {h:Heap}:∀ (a b:KT) (v:Value),ZL h a v->ZL h b v->a.eqb b=true
 | .int i,b,v,x,y=>by
  rw [ZL] at x
  obtain ⟨t,rfl⟩:=x
  cases b with
  | int j=>rw [ZL] at y;obtain ⟨u,e⟩:=y;injection e with e _;rw [KT.eqb,e];exact beq_self_eq_true j
  | str z=>rw [ZL] at y;obtain ⟨u,e⟩:=y;cases e
  | tup m=>rw [ZL] at y;obtain ⟨_,_,e,_⟩:=y;cases e
 | .str w,b,v,x,y=>by
  rw [ZL] at x
  obtain ⟨t,rfl⟩:=x
  cases b with
  | int j=>rw [ZL] at y;obtain ⟨u,e⟩:=y;cases e
  | str z=>rw [ZL] at y;obtain ⟨u,e⟩:=y;injection e with e _;rw [KT.eqb,e];exact beq_self_eq_true z
  | tup m=>rw [ZL] at y;obtain ⟨_,_,e,_⟩:=y;cases e
 | .tup l,b,v,x,y=>by
  rw [ZL] at x
  obtain ⟨p,its,rfl,px,kx⟩:=x
  cases b with
  | int j=>rw [ZL] at y;obtain ⟨u,e⟩:=y;cases e
  | str z=>rw [ZL] at y;obtain ⟨u,e⟩:=y;cases e
  | tup m=>
   rw [ZL] at y
   obtain ⟨q,its',e,py,ky⟩:=y
   cases e
   cases Gr px py
   rw [KT.eqb]
   exact KVals.inj l m its kx ky
theorem KVals.inj {h:Heap}:∀ (l m:List KT) (us:List Value),KVals h l us->KVals h m us->eqbL l m=true
 | [],m,us,x,y=>by
  rw [KVals] at x
  subst x
  cases m with
  | nil=>rw [eqbL]
  | cons b m=>rw [KVals] at y;obtain ⟨_,_,e,_⟩:=y;cases e
 | a :: l,m,us,x,y=>by
  rw [KVals] at x
  obtain ⟨v,r,rfl,x1,x2⟩:=x
  cases m with
  | nil=>rw [KVals] at y;cases y
  | cons b m=>
   rw [KVals] at y
   obtain ⟨v',r',e,y1,y2⟩:=y
   injection e with e1 e2
   subst e1 e2
   rw [eqbL,ZL.inj a b v x1 y1,KVals.inj l m r x2 y2]
   rfl
end
theorem KVals.length {h:Heap}:∀ {l:List KT} {us:List Value},KVals h l us->l.length=us.length
 | [],us,x=>by rw [KVals] at x;subst x;rfl
 | a :: l,us,x=>by
  rw [KVals] at x
  obtain ⟨v,r,rfl,_,x2⟩:=x
  rw [zAX,zAX,x2.length]
theorem KVals.get {h:Heap}:∀ {l:List KT} {us:List Value} {j:Nat} {u:Value},KVals h l us->us[j]? = some u->∃ t,l[j]? = some t/\ZL h t u
 | [],us,j,u,x,e=>by rw [KVals] at x;subst x;simp at e
 | a :: l,us,0,u,x,e=>by
  rw [KVals] at x
  obtain ⟨v,r,rfl,x1,_⟩:=x
  simp at e
  subst e
  exact ⟨a,rfl,x1⟩
 | a :: l,us,j+1,u,x,e=>by
  rw [KVals] at x
  obtain ⟨v,r,rfl,_,x2⟩:=x
  obtain ⟨t,e1,e2⟩:=x2.get (j:=j) (by simpa using e)
  exact ⟨t,by simpa using e1,e2⟩
theorem Vf:∀ {l:List KT} {t:KT},t∈l->t.depth<=depthL l
 | [],_,h=>by cases h
 | u :: l,t,h=>by
  rw [depthL]
  rcases zAd.mp h with e | h
  ·subst e;omega
  ·have:=Vf h;omega
theorem Qk:∀ (l m:List KT),((zAi (min l.length m.length)).all (fun j=>(l.getD j (.int 0)).eqb (m.getD j (.int 0)))&&l.length==m.length)=eqbL l m
 | [],[]=>by simp [eqbL]
 | [],_ :: _=>by simp [eqbL]
 | _ :: _,[]=>by simp [eqbL]
 | a :: l,b :: m=>by
  have ih:=Qk l m
  have e:min (a :: l).length (b :: m).length=min l.length m.length+1:=by simp only [zAX];omega
  rw [e,zDG,zDD,zCP,eqbL,<-ih,Bool.and_assoc]
  simp [Function.comp_def]
theorem U1 {s:Shared}:∀ (n:Nat) (a b:KT) (A:Around) (v u:Value),a.depth<=n->ZL s.heap a v->ZL s.heap b u->A.units+a.depth<cLine->SeqAt.EqAt A s v u (a.eqb b)
 | n,.int i,b,A,v,u,_,x,y,hu=>by
  rw [ZL] at x
  obtain ⟨t,rfl⟩:=x
  have hu':A.units<cLine:=by omega
  cases b with
  | int j=>rw [ZL] at y;obtain ⟨t',rfl⟩:=y;rw [KT.eqb];exact SeqAt.EqAt.int_int i t j t'
  | str z=>rw [ZL] at y;obtain ⟨t',rfl⟩:=y;rw [show (KT.int i).eqb (.str z)=false by simp [KT.eqb]];exact SeqAt.EqAt.int_str i t z t'
  | tup m=>rw [ZL] at y;obtain ⟨p,its,rfl,py,_⟩:=y;rw [show (KT.int i).eqb (.tup m)=false by simp [KT.eqb]];exact SeqAt.EqAt.int_tuple i t py hu'
 | n,.str w,b,A,v,u,_,x,y,hu=>by
  rw [ZL] at x
  obtain ⟨t,rfl⟩:=x
  have hu':A.units<cLine:=by omega
  cases b with
  | int j=>rw [ZL] at y;obtain ⟨t',rfl⟩:=y;rw [show (KT.str w).eqb (.int j)=false by simp [KT.eqb]];exact SeqAt.EqAt.str_int w t j t'
  | str z=>rw [ZL] at y;obtain ⟨t',rfl⟩:=y;rw [KT.eqb];exact SeqAt.EqAt.str_str w t z t'
  | tup m=>rw [ZL] at y;obtain ⟨p,its,rfl,py,_⟩:=y;rw [show (KT.str w).eqb (.tup m)=false by simp [KT.eqb]];exact SeqAt.EqAt.str_tuple w t py hu'
 | 0,.tup l,b,A,v,u,hn,x,y,hu=>by
  rw [KT.depth] at hn
  omega
 | n+1,.tup l,b,A,v,u,hn,x,y,hu=>by
  have x':=x
  rw [ZL] at x
  obtain ⟨p,its,rfl,px,kx⟩:=x
  rw [KT.depth] at hn hu
  have hu':A.units<cLine:=by omega
  cases b with
  | int j=>rw [ZL] at y;obtain ⟨t',rfl⟩:=y;rw [show (KT.tup l).eqb (.int j)=false by simp [KT.eqb]];exact SeqAt.EqAt.tuple_int j t' px hu'
  | str z=>rw [ZL] at y;obtain ⟨t',rfl⟩:=y;rw [show (KT.tup l).eqb (.str z)=false by simp [KT.eqb]];exact SeqAt.EqAt.tuple_str z t' px hu'
  | tup m=>
   have y':=y
   rw [ZL] at y
   obtain ⟨q,its',rfl,py,ky⟩:=y
   by_cases hpq:p=q
   ·subst hpq
    rw [ZL.inj _ _ _ x' y']
    exact SeqAt.EqAt.same _
   ·have lx:=kx.length
    have ly:=ky.length
    have rc:=SeqAt.RcAt.tuples (A:=A) (s:=s) (e:=fun j=>(l.getD j (.int 0)).eqb (m.getD j (.int 0))) px py hu' (fun j h1 h2=>by
     have h1':j<its.length:=by simpa using h1
     have h2':j<its'.length:=by simpa using h2
     obtain ⟨t1,e1,k1⟩:=kx.get (j:=j) (u:=its[j]) (by simp [h1'])
     obtain ⟨t2,e2,k2⟩:=ky.get (j:=j) (u:=its'[j]) (by simp [h2'])
     have d1:=Vf (zAK e1)
     have g1:l.getD j (.int 0)=t1:=by rw [zAB,e1];rfl
     have g2:m.getD j (.int 0)=t2:=by rw [zAB,e2];rfl
     have:=U1 n t1 t2 A.in1 its[j] its'[j] (by omega) k1 k2 (by show A.units+1+t1.depth<cLine;omega)
     show SeqAt.EqAt A.in1 s _ _ ((l.getD j (.int 0)).eqb (m.getD j (.int 0)))
     rw [g1,g2]
     simpa using this)
    have er:((zAi (min its.toArray.size its'.toArray.size)).all (fun j=>(l.getD j (.int 0)).eqb (m.getD j (.int 0)))&&its.toArray.size==its'.toArray.size)=(KT.tup l).eqb (.tup m):=by
     rw [zAI,zAI,<-lx,<-ly,KT.eqb]
     exact Qk l m
    rw [er] at rc
    exact .of_refs hpq rc
def KB (A:Around) (s:Shared) (v u:Value) (b:Bool):Prop:=
 ∀ (prog:Program) (w:World) (E:Value->Shared->Prop) (Q:Value->Shared->Prop),Q (.bool b) s->wpAny (model prog w) A (richCompare .Lt v u) Q E s
section
open PySem.SeqAt
open PySem.AutoSeq1 (wpAny_loadPart')
open PySem.MeetsSeq PySem.MeetsSeq2 PySem.MeetsSeq3
theorem C2 (l b:Addr) (items items2:Array Value) (n n2:Nat) (dd dd2:Option Addr) (sl sl2:Array (Option Value)) (ts us:List KT) :
  Meets (Builtin.«tuple.__lt__» ⟨[.ref l,.ref b],[]⟩)
   (fun A R s=>s.heap.get? l=some { cls:=.type "tuple",dict:=dd,data:=.seq items n,slots:=sl }/\s.heap.get? b=some { cls:=.type "tuple",dict:=dd2,data:=.seq items2 n2,slots:=sl2 } /\
    KVals s.heap ts items.toList/\KVals s.heap us items2.toList/\cmpL ts us=true /\
    (∀ x y v u,x∈ts->ZL s.heap x v->ZL s.heap y u->EqAt A.in1 s v u (x.eqb y))/\(∀ x y v u,x∈ts->ZL s.heap x v->ZL s.heap y u->x.cmp y=true->KB A.in1 s v u (x.plt y)) /\
    R (.ok (.ret (.bool (pltL ts us)))) s):=
 .of_wp fun prog w A R s h=>by
  obtain ⟨hp,g,d,tk,os⟩:=s;obtain ⟨hl,hb,hi,hj,hc,hE,hL,h⟩:=h
  have f2:=AutoSeq1.sub_tuple_tuple
  have z1:items.size=ts.length:=by rw [hi.length];simp
  have z2:items2.size=us.length:=by rw [hj.length];simp
  wp_walk using wpAny_loadPart' hl,wpAny_loadPart' hb,wpAny_forIn_list _ (fun rest b s'=>b.1=none/\s'=⟨hp,g,d,tk,os⟩/\∃ (vs ws:List Value) (ts' us':List KT),rest=vs.zip ws /\
   KVals hp ts' vs/\KVals hp us' ws/\(∀ x∈ts',x∈ts)/\cmpL ts' us'=true/\ts'.length+items2.size=us'.length+items.size/\R (.ok (.ret (.bool (pltL ts' us')))) ⟨hp,g,d,tk,os⟩) _
  case turn=>
   rintro ⟨y,x⟩ rest b s' ⟨hb',rfl,vs,ws,ts',us',hz,hvi,hwi,hin,hcm,hlen,hR⟩
   cases ts' with
   | nil=>rw [KVals] at hvi;subst hvi;rw [List.zip_nil_left] at hz;cases hz
   | cons a ts'=>
    cases us' with
    | nil=>rw [KVals] at hwi;subst hwi;rw [List.zip_nil_right] at hz;cases hz
    | cons c us'=>
     rw [KVals] at hvi hwi
     obtain ⟨v,vr,rfl,ka,hvi'⟩:=hvi
     obtain ⟨u,ur,rfl,kc,hwi'⟩:=hwi
     rw [zB6] at hz
     injection hz with hyx hrest
     injection hyx with hy hx
     subst hy hx
     rw [pltL] at hR
     rw [cmpL] at hcm
     simp only [zAX] at hlen
     have he:=hE a c y x (hin a zAR) ka kc
     refine wpAny_bind (he prog w _ _ ?_)
     cases hq:a.eqb c with
     | true=>
      rw [hq,if_pos rfl] at hR hcm
      wp_walk
      exact ⟨rfl,rfl,_,_,_,_,hrest,hvi',hwi',fun z hz=>hin z (zAP _ hz),hcm,by omega,hR⟩
     | false=>
      rw [hq,if_neg zAF] at hR hcm
      have hri:=hL a c y x (hin a zAR) ka kc hcm prog w
      wp_walk using hri
      exact ⟨_,rfl,by simpa using hR⟩
  case fin=>
   rintro ⟨b1,b2⟩ s' ⟨hb',rfl,vs,ws,ts',us',hz,hvi,hwi,hin,hcm,hlen,hR⟩
   simp only at hb'
   subst hb'
   have hv:pltL ts' us'=decide (items.size<items2.size):=by
    cases ts' with
    | nil=>
     cases us' with
     | nil=>
      simp only [zBQ] at hlen
      rw [pltL]
      exact (decide_eq_false (by omega)).symm
     | cons c us'=>
      simp only [zBQ,zAX] at hlen
      rw [pltL]
      exact (decide_eq_true (by omega)).symm
    | cons a ts'=>
     cases us' with
     | nil=>
      simp only [zBQ,zAX] at hlen
      rw [pltL]
      exact (decide_eq_false (by omega)).symm
     | cons c us'=>
      rw [KVals] at hvi hwi
      obtain ⟨v,vr,rfl,_,_⟩:=hvi
      obtain ⟨u,ur,rfl,_,_⟩:=hwi
      rw [zB6] at hz
      cases hz
   rw [hv] at hR
   wp_walk
   exact ⟨_,rfl,by simpa [Builtin.Tuple.tupleCompareSizes] using hR⟩
  case h=>
   exact ⟨rfl,rfl,items.toList,items2.toList,ts,us,rfl,hi,hj,fun _ hx=>hx,hc,by omega,h⟩
end
theorem N1 {s:Shared}:∀ (n:Nat) (a b:KT) (A:Around) (v u:Value),a.depth<=n->ZL s.heap a v->ZL s.heap b u->a.cmp b=true->A.units+a.depth<cLine->KB A s v u (a.plt b)
 | n,.int i,b,A,v,u,_,x,y,hc,hu=>by
  rw [ZL] at x
  obtain ⟨t,rfl⟩:=x
  cases b with
  | int j=>rw [ZL] at y;obtain ⟨t',rfl⟩:=y;rw [KT.plt];exact fun prog w E Q h=>HT.rcLt_int A s i t j t' prog w E Q h
  | str z=>simp [KT.cmp] at hc
  | tup m=>simp [KT.cmp] at hc
 | n,.str w,b,A,v,u,_,x,y,hc,hu=>by
  rw [ZL] at x
  obtain ⟨t,rfl⟩:=x
  cases b with
  | int j=>simp [KT.cmp] at hc
  | str z=>rw [ZL] at y;obtain ⟨t',rfl⟩:=y;rw [KT.plt];exact fun prog w' E Q h=>(lt_str h:wpAny (model prog w') A (compareOp .Lt (.str w t) (.str z t')) Q E s)
  | tup m=>simp [KT.cmp] at hc
 | 0,.tup l,b,A,v,u,hn,x,y,hc,hu=>by
  rw [KT.depth] at hn
  omega
 | n+1,.tup l,b,A,v,u,hn,x,y,hc,hu=>by
  rw [ZL] at x
  obtain ⟨p,its,rfl,px,kx⟩:=x
  rw [KT.depth] at hn hu
  have hu':A.units<cLine:=by omega
  cases b with
  | int j=>simp [KT.cmp] at hc
  | str z=>simp [KT.cmp] at hc
  | tup m=>
   rw [ZL] at y
   obtain ⟨q,its',rfl,py,ky⟩:=y
   rw [KT.cmp] at hc
   rw [KT.plt]
   intro prog w E Q h
   obtain ⟨⟨cls,dd,data,sl⟩,ho,hcl,nn1,hd⟩:=id px
   obtain ⟨⟨cls2,dd2,data2,sl2⟩,ho2,hcl2,nn2,hd2⟩:=id py
   simp only at hcl hd hcl2 hd2
   subst hcl hd hcl2 hd2
   refine richCompare_meets_room (op:=.Lt) ⟨_,ho,rfl⟩ ⟨_,ho2,rfl⟩ PySem.F.slot_tuple_lt PySem.F.entry_tuple_lt (PySem.F.args_tuple_lt_2 _ _) (C2 p q its.toArray its'.toArray nn1 nn2 dd dd2 sl sl2 l m)
    ⟨ho,ho2,kx,ky,hc,fun x y v u hx k1 k2=>?_,fun x y v u hx k1 k2 k3=>?_,show Value.bool (pltL l m)≠Value.notImplemented/\Q (.bool (pltL l m)) s from ⟨(fun x=>nomatch x),h⟩⟩ hu'
   ·have d1:=Vf hx
    exact U1 x.depth x y A.in1 v u (zAH _) k1 k2 (by show A.units+1+x.depth<cLine;omega)
   ·have d1:=Vf hx
    exact N1 n x y A.in1 v u (by omega) k1 k2 k3 (by show A.units+1+x.depth<cLine;omega)
section
variable {X:Cx}
theorem ZZ.key {k:Nat} {A:Around} (r:ZZ k A) {n:Nat} (h:n<=200):A.units+n<cLine:=by have:=r.un;omega
def GM:R2:=fun x y H Q=>∃ a b,ZD H a x/\ZD H b y/\a.cmp b=true/\a.depth<=200/\Q (.bl (a.plt b)) H
theorem LM {k:Nat} (hr:ZZ k X.A):YV X (compareOp .Lt) GM:=by
 intro pins s σ H x y v u Q I rx ry h
 obtain ⟨a,b,ha,hb,hc,hd,q⟩:=h
 exact N1 a.depth a b X.A v u (zAH _) (Wo I a x v ha rx) (Wo I b y u hb ry) hc (ZZ.key hr hd) X.prog X.w X.xe _ ⟨.bl _,H,I,rfl,q⟩
end
mutual
def XD (w:World):KT->Int
 | .int i=>hashInt i
 | .str x=>LG w (.inr x)
 | .tup l=>reduceHash (Builtin.Tuple.tupleHashOf (hashL w l))
def hashL (w:World):List KT->List Int
 | []=>[]
 | t :: l=>XD w t :: hashL w l
end
theorem IP (w:World):∀ (l m:List KT),hashL w (l++m)=hashL w l++hashL w m
 | [],m=>by rw [hashL];rfl
 | t :: l,m=>by rw [zCG,hashL,hashL,IP w l m];rfl
section
variable {prog:Program} {w:World}
theorem NZ:∀ (n:Nat) (t:KT) {A:Around} {E:Value->Shared->Prop} {s:Shared} {v:Value} {Q:Int->Shared->Prop},t.depth<=n->ZL s.heap t v->A.units+t.depth<cLine->(∀ tk,s.toks<=tk->Q (XD w t) { s with toks:=tk })->wpAny (model prog w) A (pyHash v) Q E s
 | n,.int i,A,E,s,v,Q,_,x,hu,q=>by
  rw [ZL] at x
  obtain ⟨t,rfl⟩:=x
  rw [XD] at q
  exact wpAny_pyHash_int (q _ (zB4 _))
 | n,.str i,A,E,s,v,Q,_,x,hu,q=>by
  rw [ZL] at x
  obtain ⟨t,rfl⟩:=x
  rw [XD] at q
  exact wpAny_pyHash_str (q _ (zB4 _))
 | 0,.tup l,A,E,s,v,Q,hn,x,hu,q=>by rw [KT.depth] at hn;omega
 | n+1,.tup l,A,E,s,v,Q,hn,x,hu,q=>by
  rw [KT.depth] at hn hu
  rw [ZL] at x
  obtain ⟨a,its,rfl,pt,ks⟩:=x
  have hT:=pt.typeIs
  obtain ⟨o,ho,hc,nn,hd⟩:=pt
  unfold pyHash
  first | unfold pyHashByItsType | skip
  first | refine wpAny_bind (wpAny_cRoomFor_or (.inr (by omega)) ?_) | skip
  refine wpAny_bind (wpAny_specialOf hT zBo.lookup ?_)
  show wpAny _ _ (if (some (Value.builtin "tuple.__hash__")==some Value.none)=true then _ else _) Q E s
  rw [if_neg (by rw [beq_builtin_none];exact zAF)]
  refine wpAny_bind (wpAny_specialOf hT zBo.lookup ?_)
  show wpAny _ _ (callSpecialIfBoundUnlessNone? (.ref a) "__hash__" _ >>= _) Q E s
  refine wpAny_bind (wpAny_callSpecialIfBoundUnlessNone?_slot hT zBo (wpAny_call_entry zBo hT PySem.F.entry_tuple_hash ?_ (PySem.F.args_tuple_hash_1 _)))
  show wpAny _ _ (Builtin.Tuple.tupleItemsOf (.ref a) >>= _) _ _ s
  refine wpAny_bind (wpAny_tupleItemsOf ho hd (wpAny_bind ?_))
  rw [<-zCa]
  refine wpAny_forIn_list _ (fun rest (b:Array Int) s'=>∃ dn lf tk,l=dn++lf/\KVals s.heap lf rest/\b.toList=hashL w dn/\s'={ s with toks:=tk }/\s.toks<=tk) _ ?_ ?_ _ _ ⟨[],l,s.toks,rfl,ks,by rw [hashL],rfl,zAH _⟩
  ·rintro x rest b s' ⟨dn,lf,tk,e0,hl,hb,rfl,htk⟩
   cases lf with
   | nil=>rw [KVals] at hl;cases hl
   | cons t lf=>
    rw [KVals] at hl
    obtain ⟨v',r',e,k1,k2⟩:=hl
    injection e with e1 e2
    subst e1 e2
    have hd':t.depth<=depthL l:=by rw [e0];exact Vf (by simp)
    refine wpAny_bind (NZ n t (s:={ s with toks:=tk }) (by omega) k1 (by show A.units+1+_<_;omega) fun tk2 h2=>?_)
    have fin:∃ dn' lf' tk',l=dn'++lf'/\KVals s.heap lf' rest/\(b.push (XD w t)).toList=hashL w dn'/\({ s with toks:=tk2 }:Shared)={ s with toks:=tk' }/\s.toks<=tk':=
     ⟨dn++[t],lf,tk2,by rw [e0];simp,k2,by rw [Array.toList_push,hb,IP,hashL,hashL],rfl,zA7 htk h2⟩
    first | exact wpAny_pure fin | exact wpAny_bind (wpAny_pure (wpAny_pure fin))
  ·rintro b s' ⟨dn,lf,tk,e0,hl,hb,rfl,htk⟩
   cases lf with
   | cons t lf=>rw [KVals] at hl;obtain ⟨_,_,e,_⟩:=hl;cases e
   | nil=>
    rw [zAz] at e0
    subst e0
    show wpAny _ _ (retInt (Builtin.Tuple.tupleHashOf b.toList)) _ _ _
    rw [hb]
    refine wpAny_ret_mkInt ?_
    show wpAny _ _ (if (decide (-(2:Int) ^ 63<=Builtin.Tuple.tupleHashOf (hashL w l))&&decide (Builtin.Tuple.tupleHashOf (hashL w l)<2 ^ 63))=true then _ else _) Q E _
    have q':=q (tk+1) (by omega)
    rw [XD] at q'
    unfold reduceHash at q'
    split
    ·rename_i hr
     rw [if_pos hr] at q'
     exact wpAny_pure q'
    ·rename_i hr
     rw [if_neg hr] at q'
     exact wpAny_bind (wpAny_rule (wpAny_pure q'))
theorem OP:∀ (n:Nat) (t:KT) {A:Around} {E:Value->Shared->Prop} {s:Shared} {v:Value} {Q:Bool->Shared->Prop},t.depth<=n->ZL s.heap t v->Q true s->wpAny (model prog w) A (eqIsQuiet n v) Q E s
 | n,.int i,A,E,s,v,Q,_,x,q=>by
  rw [ZL] at x
  obtain ⟨t,rfl⟩:=x
  rw [eqIsQuiet_byValue n rfl]
  exact wpAny_pure q
 | n,.str i,A,E,s,v,Q,_,x,q=>by
  rw [ZL] at x
  obtain ⟨t,rfl⟩:=x
  rw [eqIsQuiet_byValue n rfl]
  exact wpAny_pure q
 | 0,.tup l,A,E,s,v,Q,hn,x,q=>by rw [KT.depth] at hn;omega
 | n+1,.tup l,A,E,s,v,Q,hn,x,q=>by
  rw [KT.depth] at hn
  rw [ZL] at x
  obtain ⟨a,its,rfl,pt,ks⟩:=x
  have hT:=pt.typeIs
  obtain ⟨o,ho,hc,nn,hd⟩:=pt
  unfold eqIsQuiet
  refine wpAny_bind (wpAny_specialOf hT PySem.F.slot_tuple_eq.lookup ?_)
  show wpAny _ _ (isInstance (.ref a) (.type "tuple") >>= _) _ _ s
  refine wpAny_bind (wpAny_isInstance hT isSubtype_tuple_tuple ?_)
  simp only [zCc,zA6,if_false]
  refine wpAny_bind (wpAny_seqItems ho hd (wpAny_bind ?_))
  show wpAny _ _ (forIn its.toArray _ _) _ _ s
  rw [<-zCa]
  refine wpAny_forIn_list _ (fun rest r s'=>r.1=none/\s'=s/\∃ lf,KVals s.heap lf rest/\depthL lf<=n) _ ?_ ?_ _ _ ⟨rfl,rfl,l,ks,by omega⟩
  ·rintro x rest r s' ⟨hr,rfl,lf,hl,hdp⟩
   cases lf with
   | nil=>rw [KVals] at hl;cases hl
   | cons t lf=>
    rw [KVals] at hl
    obtain ⟨v',r',e,k1,k2⟩:=hl
    injection e with e1 e2
    subst e1 e2
    rw [depthL] at hdp
    refine wpAny_bind (OP n t (by omega) k1 ?_)
    simp only [zCc,zA6,if_false]
    exact wpAny_pure ⟨rfl,rfl,lf,k2,by omega⟩
  ·rintro ⟨r1,r2⟩ s' ⟨hr,rfl,_⟩
   dsimp only at hr
   subst hr
   exact wpAny_pure q
end
structure U3 (w:World) (h:Heap) (ks:List KT) (es:Array DictEntry):Prop where
 len:es.size=ks.length
 ent:∀ (i:Nat) (e:DictEntry),es[i]? = some e->∃ t,ks[i]? = some t/\e.hash=XD w t/\ZL h t e.key/\t.depth<=3
 nd:ks.Nodup
section
variable {prog:Program} {w:World} {A:Around} {E:Value->Shared->Prop} {s:Shared}
theorem U3.uniq {h:Heap} {ks:List KT} {es:Array DictEntry} (x:U3 w h ks es) {i j:Nat} {t:KT} (hi:ks[i]? = some t) (hj:ks[j]? = some t):i=j:=by
 obtain ⟨a,ea⟩:=zAO.mp hi
 exact (zCd a x.nd).mp (hi.trans hj.symm)
theorem U3.get {h:Heap} {ks:List KT} {es:Array DictEntry} (x:U3 w h ks es) {j:Nat} {t:KT} (hj:ks[j]? = some t):∃ e,es[j]? = some e/\e.hash=XD w t/\ZL h t e.key/\t.depth<=3:=by
 obtain ⟨a,_⟩:=zAO.mp hj
 have lt:j<es.size:=by have:=x.len;omega
 have e:es[j]? = some es[j]:=zAc lt
 obtain ⟨t',e1,e2,e3,e4⟩:=x.ent j _ e
 rw [hj] at e1
 cases e1
 exact ⟨_,e,e2,e3,e4⟩
theorem Oe {v:Value} {stored:List Value} {Q:Bool->Shared->Prop} (hv:∃ t,ZL s.heap t v/\t.depth<=8) (hs:∀ u∈stored,∃ t,ZL s.heap t u/\t.depth<=8) (h:Q false s):wpAny (model prog w) A (tableMayTell v stored) Q E s:=by
 unfold tableMayTell
 refine wpAny_ite_split (fun _=>wpAny_pure h) (fun _=>?_)
 obtain ⟨t,kv,dt⟩:=hv
 refine wpAny_bind (OP 8 t dt kv ?_)
 simp only [zCc,zA6,if_false]
 refine wpAny_bind ?_
 refine wpAny_forIn_list _ (fun rest r s'=>s'=s/\r=(none,())/\∀ u∈rest,u∈stored) _ ?_ ?_ _ _ ⟨rfl,rfl,fun _ z=>z⟩
 ·rintro u rest r s' ⟨rfl,rfl,hr⟩
  obtain ⟨t2,kv2,dt2⟩:=hs u (hr u (zAR ..))
  refine wpAny_bind (OP 8 t2 dt2 kv2 ?_)
  simp only [zCc,zA6,if_false]
  exact wpAny_pure ⟨rfl,rfl,fun u hu=>hr u (zAP _ hu)⟩
 ·rintro r s' ⟨rfl,rfl,_⟩
  exact wpAny_pure h
theorem FD {d:Addr} {o:Obj} {es:Array DictEntry} {ep:Nat} {ks:List KT} {t:KT} {v:Value} {Q:Option Nat->Shared->Prop} (hv:ZL s.heap t v) (dt:t.depth<=3) (hu:A.units+3<cLine) (ho:s.heap.get? d=some o) (hd:o.data=.dict es ep) (x:U3 w s.heap ks es)
  (hno:t∉ks->Q none s) (hyes:∀ j,ks[j]? = some t->Q (some j) s):wpAny (model prog w) A (dictFind d v (XD w t)) Q E s:=by
 have inPl:∀ j,ks[j]? = some t->j∈placesWithHash es.size (fun i=>es[i]?.map (·.hash)) (XD w t):=fun j hj=>by
  obtain ⟨e,e1,e2,_⟩:=x.get hj
  obtain ⟨lt,_⟩:=zBJ.mp e1
  unfold placesWithHash
  rw [zCJ,zA2]
  exact ⟨lt,by show (Option.map _ es[j]? == _)=true;rw [e1,zBO,e2];simp⟩
 have ofPl:∀ i,i∈placesWithHash es.size (fun i=>es[i]?.map (·.hash)) (XD w t)->∃ e u,es[i]? = some e/\e.hash=XD w t/\ks[i]? = some u/\ZL s.heap u e.key/\u.depth<=3:=fun i hi=>by
  unfold placesWithHash at hi
  rw [zCJ,zA2] at hi
  have e1:es[i]? = some es[i]:=zAc hi.1
  obtain ⟨u,e2,_,e4,e5⟩:=x.ent i _ e1
  have:(Option.map (·.hash) es[i]? == some (XD w t))=true:=hi.2
  rw [e1,zBO] at this
  exact ⟨_,u,e1,by simpa using this,e2,e4,e5⟩
 have pnd:(placesWithHash es.size (fun i=>es[i]?.map (·.hash)) (XD w t)).Nodup:=by
  unfold placesWithHash
  exact List.nodup_range.filter _
 have eq_at:∀ (u:KT) (e:DictEntry),ZL s.heap u e.key->u.depth<=3->SeqAt.EqAt A s e.key v (u.eqb t):=fun u e k1 d1=>U1 u.depth u t A e.key v (zAH _) k1 hv (by omega)
 have stored:∀ u∈(placesWithHash es.size (fun i=>es[i]?.map (·.hash)) (XD w t)).filterMap (fun i=>es[i]?.map (·.key)),∃ t,ZL s.heap t u/\t.depth<=8:=fun u hu=>by
  obtain ⟨i,hi,e⟩:=zB7.mp hu
  obtain ⟨en,z,e1,_,_,e4,e5⟩:=ofPl i hi
  rw [e1,zBO] at e
  cases e
  exact ⟨z,e4,by omega⟩
 unfold dictFind
 try with_reducible refine wpAny_holding ?_
 refine wpAny_bind (wpAny_dictEntries ho hd ?_)
 generalize hP:placesWithHash es.size (fun i=>es[i]?.map (·.hash)) (XD w t)=pl at inPl ofPl pnd stored
 have plain:wpAny (model prog w) A (dictWalkPlain d v (XD w t) es pl) Q E s:=by
  unfold dictWalkPlain
  refine wpAny_bind ?_
  refine wpAny_forIn_list _ (fun rest b s'=>s'=s/\b=(none,())/\(∀ i∈rest,i∈pl)/\∀ i∈pl,i∈rest\/ks[i]? ≠ some t) _ ?_ ?_ _ _ ⟨rfl,rfl,fun _ z=>z,fun _ z=>.inl z⟩
  ·rintro i rest b s' ⟨rfl,rfl,h1,h2⟩
   obtain ⟨e,u,e1,e2,e3,e4,e5⟩:=ofPl i (h1 i (zAR ..))
   rw [e1]
   dsimp only
   rw [e2,if_pos (by simp)]
   refine wpAny_bind (wpAny_dictEpoch ho hd (wpAny_bind (eq_at u e e4 e5 prog w _ _ (wpAny_bind (wpAny_dictEpoch ho hd ?_)))))
   rw [if_neg (by simp)]
   cases hq:u.eqb t with
   | true=>
    have:u=t:=VW u t hq
    subst this
    rw [if_pos rfl]
    exact wpAny_bind (wpAny_rule (wpAny_pure (wpAny_pure (hyes i e3))))
   | false=>
    rw [if_neg zAF]
    refine wpAny_bind (wpAny_rule (wpAny_pure ⟨rfl,rfl,fun j hj=>h1 j (zAP _ hj),fun j hj=>?_⟩))
    rcases h2 j hj with z | z
    ·rcases zAd.mp z with z | z
     ·subst z
      refine .inr fun z=>?_
      rw [e3] at z
      cases z
      rw [VX] at hq
      cases hq
     ·exact .inl z
    ·exact .inr z
  ·rintro b s' ⟨rfl,rfl,_,h2⟩
   refine wpAny_pure (hno fun z=>?_)
   obtain ⟨j,hj⟩:=zBv.mp z
   rcases h2 j (inPl j hj) with q | q
   ·cases q
   ·exact q hj
 have hitLoop:∀ (f:Nat->Option (Option Nat)×Option Nat->Sem (ForInStep (Option (Option Nat)×Option Nat))) (g:Option (Option Nat)×Option Nat->Sem (Option Nat)),(∀ r,g (some r,none)=pure r)->(∀ h,g (none,h)=pure h) ->
   (∀ i u e (R:ForInStep (Option (Option Nat)×Option Nat)->Shared->Prop),es[i]? = some e->e.hash=XD w t->ZL s.heap u e.key->u.depth<=3->u=t->R (.done (some (some i),none)) s->R (.yield (none,some i)) s->wpAny (model prog w) A (f i (none,none)) R E s) ->
   (∀ i u e hit (R:ForInStep (Option (Option Nat)×Option Nat)->Shared->Prop),es[i]? = some e->e.hash=XD w t->ZL s.heap u e.key->u.depth<=3->u≠t->R (.yield (none,hit)) s->wpAny (model prog w) A (f i (none,hit)) R E s) ->
   wpAny (model prog w) A (forIn pl (none,none) f >>= g) Q E s:=fun f g g1 g2 f1 f2=>by
  refine wpAny_bind ?_
  refine wpAny_forIn_list _ (fun rest b s'=>s'=s/\rest.Nodup/\(∀ i∈rest,i∈pl)/\((b=(none,none)/\∀ i∈pl,i∈rest\/ks[i]? ≠ some t)\/∃ j,b=(none,some j)/\ks[j]? = some t/\j∉rest)) _ ?_ ?_ _ _ ⟨rfl,pnd,fun _ z=>z,.inl ⟨rfl,fun _ z=>.inl z⟩⟩
  ·rintro i rest b s' ⟨rfl,nd,h1,h2⟩
   obtain ⟨e,u,e1,e2,e3,e4,e5⟩:=ofPl i (h1 i (zAR ..))
   have nd':=zBP.mp nd
   have h1':∀ j∈rest,j∈pl:=fun j hj=>h1 j (zAP _ hj)
   by_cases hq:u=t
   ·have e3':=e3
    rw [hq] at e3'
    rcases h2 with ⟨rfl,h2⟩ | ⟨j,rfl,hj,hn⟩
    ·refine f1 i u e _ e1 e2 e4 e5 hq ?_ ?_
     ·show wpAny _ _ (g (some (some i),none)) _ _ _
      rw [g1]
      exact wpAny_pure (hyes i e3')
     ·exact ⟨rfl,nd'.2,h1',.inr ⟨i,rfl,e3',nd'.1⟩⟩
    ·have:i=j:=x.uniq e3' hj
     exact absurd (this ▸ zAR ..) hn
   ·rcases h2 with ⟨rfl,h2⟩ | ⟨j,rfl,hj,hn⟩
    ·refine f2 i u e none _ e1 e2 e4 e5 hq ⟨rfl,nd'.2,h1',.inl ⟨rfl,fun j hj=>?_⟩⟩
     rcases h2 j hj with z | z
     ·rcases zAd.mp z with z | z
      ·subst z
       exact .inr fun z=>hq (by rw [e3] at z;exact zAh.inj z)
      ·exact .inl z
     ·exact .inr z
    ·exact f2 i u e (some j) _ e1 e2 e4 e5 hq ⟨rfl,nd'.2,h1',.inr ⟨j,rfl,hj,fun z=>hn (zAP _ z)⟩⟩
  ·rintro b s' ⟨rfl,_,_,h2⟩
   rcases h2 with ⟨rfl,h2⟩ | ⟨j,rfl,hj,hn⟩
   ·rw [g2]
    refine wpAny_pure (hno fun z=>?_)
    obtain ⟨j,hj⟩:=zBv.mp z
    rcases h2 j (inPl j hj) with q | q
    ·cases q
    ·exact q hj
   ·rw [g2]
    exact wpAny_pure (hyes j hj)
 have vs:(∃ a,v=.ref a)\/(∃ i tk,v=.int i tk)\/∃ y tk,v=.str y tk/\t=.str y:=by
  cases t with
  | int i=>rw [ZL] at hv;obtain ⟨tk,e⟩:=hv;exact .inr (.inl ⟨i,tk,e⟩)
  | str y=>rw [ZL] at hv;obtain ⟨tk,e⟩:=hv;exact .inr (.inr ⟨y,tk,e,rfl⟩)
  | tup l=>rw [ZL] at hv;obtain ⟨a,_,e,_⟩:=hv;exact .inl ⟨a,e⟩
 rcases vs with ⟨a,rfl⟩ | ⟨i,tk,rfl⟩ | ⟨y,tk,rfl,ht⟩
 case' inl=>
  dsimp only
  rw [if_neg (by simp [carriedByValue])]
  have hany:¬ (es.any fun e=>e.key==Value.ref a&&e.hash != XD w t)=true:=by
   rw [<-Array.any_toList,zCH]
   rintro ⟨e,hin,hc⟩
   obtain ⟨j,hj⟩:=zBv.mp hin
   rw [zBB] at hj
   obtain ⟨u,_,e2,e3,_⟩:=x.ent j e hj
   rw [zAJ] at hc
   rw [eq_of_beq hc.1] at e3
   have:u=t:=VW _ _ (ZL.inj _ _ _ e3 hv)
   rw [e2,this] at hc
   simp at hc
  rw [if_neg hany]
  refine wpAny_ite_split (fun _=>wpAny_bind (wpAny_pure ?_)) (fun _=>wpAny_bind (Oe ⟨t,hv,by omega⟩ stored ?_))
 case' inr.inl=>
  dsimp only
  refine wpAny_ite_split (fun _=>plain) (fun _=>?_)
  refine wpAny_ite_split (fun _=>wpAny_bind (wpAny_pure ?_)) (fun _=>wpAny_bind (Oe ⟨t,hv,by omega⟩ stored ?_))
 case' inr.inr=>
  have byStr:wpAny (model prog w) A (foundByValue d (.str y tk) es y) Q E s:=by
   unfold foundByValue
   cases hf:es.findIdx? (fun e=>e.key.isStr y) with
   | none=>
    refine wpAny_pure (hno fun z=>?_)
    obtain ⟨j,hj⟩:=zBv.mp z
    obtain ⟨e,e1,e2,e3,_⟩:=x.get hj
    have:=Array.findIdx?_eq_none_iff.mp hf e (Array.mem_of_getElem? e1)
    rw [ht,ZL] at e3
    obtain ⟨tk',ek⟩:=e3
    rw [ek] at this
    simp [Value.isStr] at this
   | some i=>
    obtain ⟨hlt,hi,_⟩:=Array.findIdx?_eq_some_iff_getElem.mp hf
    have e1:es[i]? = some es[i]:=zAc hlt
    obtain ⟨u,e2,e3,e4,e5⟩:=x.ent i _ e1
    have hut:u=t:=by
     have hs:∃ tk',es[i].key=.str y tk':=by
      cases q:es[i].key with
      | str z tz=>rw [q] at hi;simp [Value.isStr] at hi;exact ⟨tz,by rw [hi]⟩
      | _=>rw [q] at hi;simp [Value.isStr] at hi
     obtain ⟨tk',ek⟩:=hs
     have hk:ZL s.heap (.str y) es[i].key:=by rw [ZL];exact ⟨tk',ek⟩
     rw [ht]
     exact VW _ _ (ZL.inj _ _ _ e4 hk)
    dsimp only
    rw [e1]
    dsimp only
    refine wpAny_bind (wpAny_dictEpoch ho hd (wpAny_bind (eq_at u _ e4 e5 prog w _ _ (wpAny_bind (wpAny_dictEpoch ho hd ?_)))))
    rw [if_neg (by simp),hut,VX,if_pos rfl]
    exact wpAny_bind (wpAny_rule (wpAny_pure (hyes i (by rw [e2,hut]))))
  dsimp only
  refine wpAny_ite_split (fun _=>byStr) (fun _=>?_)
  refine wpAny_ite_split (fun _=>plain) (fun _=>?_)
  refine wpAny_ite_split (fun _=>wpAny_bind (wpAny_pure ?_)) (fun _=>wpAny_bind (Oe ⟨t,hv,by omega⟩ stored ?_))
 all_goals
  rw [if_neg (by simp)]
  refine hitLoop _ _ (fun r=>rfl) (fun h=>rfl) (fun i u e R e1 e2 e4 e5 hq r1 r2=>?_) (fun i u e hit R e1 e2 e4 e5 hq r1=>?_)
  ·rw [e1]
   dsimp only
   rw [e2,if_pos (by simp)]
   refine wpAny_bind (wpAny_dictEpoch ho hd (wpAny_bind (eq_at u e e4 e5 prog w _ _ (wpAny_bind (wpAny_dictEpoch ho hd ?_)))))
   rw [if_neg (by simp),hq,VX,if_pos rfl]
   simp only [Option.isSome_none,zA6,if_false]
   refine wpAny_bind (wpAny_rule (wpAny_ite_split (fun _=>wpAny_pure r1) (fun _=>wpAny_pure r2)))
  ·rw [e1]
   dsimp only
   rw [e2,if_pos (by simp)]
   refine wpAny_bind (wpAny_dictEpoch ho hd (wpAny_bind (eq_at u e e4 e5 prog w _ _ (wpAny_bind (wpAny_dictEpoch ho hd ?_)))))
   have hf:u.eqb t=false:=by
    cases q:u.eqb t with
    | false=>rfl
    | true=>exact absurd (VW _ _ q) hq
   rw [if_neg (by simp),hf,if_neg zAF]
   refine wpAny_bind (wpAny_rule ?_)
   rw [if_neg (by simp)]
   exact wpAny_pure r1
end
end Tw
namespace L2
open PySem PySem.Spec PyProof.Rows
theorem Ze.there {P:Program} {w:World} {H:Hp} {h:Heap} {a:Addr}:∀ {o:HO},Ze P w H h a o->∃ ob,h.get? a=some ob:=by
 intro o x
 induction o with
 | lst xs=>obtain ⟨z,its,n,r,e⟩:=x;exact ⟨_,e⟩
 | tup xs=>obtain ⟨z,its,r,ob,e,c⟩:=x;exact ⟨_,e⟩
 | dK kvs=>obtain ⟨z,y,vs,r,ob,es,ep,e,c⟩:=x;exact ⟨_,e⟩
 | dT kvs=>obtain ⟨z,y,xs,r,ob,es,ep,e,c⟩:=x;exact ⟨_,e⟩
 | set S n=>obtain ⟨ob,es,ep,t,e,c⟩:=x;exact ⟨_,e⟩
 | ins C dx fs=>obtain ⟨d,z,ne,e,_⟩:=x;exact ⟨_,e⟩
 | own y=>exact x
 | xd fs=>obtain ⟨mA,⟨od,es,ep,e,c⟩,r⟩:=x;exact ⟨_,e⟩
 | rng lo hi=>obtain ⟨t,u,v,e⟩:=x;exact ⟨_,e⟩
 | frz ob u ih=>exact ⟨_,x.1⟩
 | tbl ps=>exact ⟨_,x⟩
 | met f y=>exact ⟨_,x⟩
 | ext φ=>exact x.2.1
theorem YT.there {P:Program} {w:World} {H:Hp} {h:Heap} {a:Addr} (x:YT P w H h) (n:H a≠none):∃ ob,h.get? a=some ob:=by
 cases e:H a with
 | none=>exact absurd e n
 | some o=>exact Ze.there (x a o e)
theorem YT.keptT {P:Program} {w:World} {H:Hp} {h h':Heap} (x:YT P w H h) (k:∀ b u,h.get? b=some u->H b≠none->h'.get? b=some u):YT P w H h':=fun a o e=>
 (x a o e).stay (fun b u hb q=>k b u q (by
  rcases hb with rfl | hb
  ·rw [e];exact fun z=>nomatch z
  ·rw [hb];exact fun z=>nomatch z)) (fun _ q=>q) fun _ _ q=>q
section
variable {X:Cx} {pins:List (Addr×Obj)} {σ:St} {H H':Hp} {s s':Shared} {E:XK}
theorem ZF.noloc (I:ZF X pins σ H s):X.s₀.heap.get? X.env.locals=none:=zBf I.ok.above
theorem NW (I:ZF X pins σ H s):∀ b∈frs X.stack,∀ o,s.heap.get? b=some o->∀ vs,o.data≠.fields vs:=fun b hb o q vs z=>by
 obtain ⟨_,o',e,d⟩:=I.stack.mem hb
 rw [q] at e
 cases e
 exact d vs z
end
end L2
namespace L2
open PySem PySem.Spec PySem.W PyProof.Rows
def Y9 (x C:Addr) (h:Heap):Prop:=∃ o,h.get? x=some o/\o.cls=.ref C
theorem Y9.ty {x C:Addr} {h:Heap} (I:Y9 x C h) (M:Model):Looks M h (typeOf (.ref x)) (.ref C):=by
 obtain ⟨o,e,c⟩:=I
 rw [<-c]
 exact Looks.andThen (Looks.ld e) Looks.now
structure XG (K:Frag) (C:Addr):Prop where
 ga:findIn K (.ref C) "__getattribute__" = some (some (.builtin "BaseException.__getattribute__"))
 hk:findIn K (.ref C) "__getattr__" = some none
 mB:mroIn K C (.type "BaseException")=some true
 mO:mroIn K C (.type "object")=some true
 ca:findIn K (.ref C) "__class__" = some (some (.builtin "object.__class__"))
 hn:specialIn K (.builtin "object.__class__") "__get__" = some (some (.builtin "getset_descriptor.__get__"))
 tk:takesIn K (.builtin "object.__class__")=some true
section
variable {prog:Program} {w:World} {A:Around} {E:Value->Shared->Prop} {s:Shared} {K:Frag} {x C:Addr}
theorem Gk {nv:Value} {Q:Unit->Shared->Prop} (X:K.In s.heap) (I:Y9 x C s.heap) (hm:mroIn K C (.type "BaseException")=some true) (hq:Q () s) :
  wpAny (model prog w) A (checkBuiltinCall "BaseException.__getattribute__" ⟨[.ref x,nv],[]⟩) Q E s:=by
 obtain ⟨hh,g,d,t,os⟩:=s
 have k1:builtinKind "BaseException.__getattribute__" = some .slot:=by decide +kernel
 have k2:splitId "BaseException.__getattribute__" = some ("BaseException","__getattribute__"):=by decide +kernel
 have la:=I.ty (model prog w)
 have lb:=looks_mroIn (M:=model prog w) X hm
 have lc:=F.args_bexc_ga (.ref x) nv
 simp only [checkBuiltinCall,k1,k2]
 refine wpAny_bind ?_
 unfold isInstance
 repeat lk
 exact hq
theorem Gu {name:Str} {tk:Tok} {r:Builtin.ObjectAttr.Found} {Q:Fin->Shared->Prop} (X:K.In s.heap) (I:Y9 x C s.heap) (fd:Looks (model prog w) s.heap (Builtin.ObjectAttr.find (.ref x) (.ref C) name) r)
  (h:match r with
   | .value v=>Q (.done (.ret v)) s
   | .bind g a=>wpAny (model prog w) A (call g [a,.ref x,.ref C]) (fun v s'=>Q (.done (.ret v)) s') E s
   | .missing=>False):wpAny (model prog w) A (Builtin.«object.__getattribute__» ⟨[.ref x,.str name tk],[]⟩) Q E s:=by
 obtain ⟨hh,g,d,t,os⟩:=s
 have la:=I.ty (model prog w)
 unfold Builtin.«object.__getattribute__»
 refine wpAny_bind (wpAny_pure ?_)
 refine wpAny_bind (wpAny_pure ?_)
 refine wpAny_bind (la.at ?_)
 refine wpAny_bind (fd.at ?_)
 cases r with
 | value v=>exact wpAny_pure h
 | bind g a=>
  show wpAny _ _ (holding [a] (call g [a,.ref x,.ref C]) >>= ret) _ _ _
  exact wpAny_bind (wpAny_holding (wpAny_mono h (fun v s' z=>wpAny_pure z) fun _ _ z=>z))
 | missing=>exact h.elim
theorem Jh {name:Str} {r:Builtin.ObjectAttr.Found} {expr fill:Bool} {tk:Tok} {Q:Value->Shared->Prop} (X:K.In s.heap) (I:Y9 x C s.heap) (e:XG K C) (fd:Looks (model prog w) s.heap (Builtin.ObjectAttr.find (.ref x) (.ref C) name) r)
  (h:match r with
   | .value v=>handedIn v=true/\Q v s
   | .bind g a=>wpAny (model prog w) A.in1 (call g [a,.ref x,.ref C]) (fun v s'=>handedIn v=true/\Q v s') (fun _ _=>False) s
   | .missing=>False):wpAny (model prog w) A (getAttrBy (.ref x) (.str name tk) fill expr) Q E s:=by
 have FA:=F.excAttr_ValueError
 have la:=I.ty (model prog w)
 have lb:=looks_findIn (M:=model prog w) X e.ga
 have lc:=looks_findIn (M:=model prog w) X e.hk
 have ne:(Value.builtin "BaseException.__getattribute__" == Value.builtin "object.__getattribute__")=false:=by decide +kernel
 obtain ⟨hh,g,d,t,os⟩:=s
 unfold getAttrBy
 refine wpAny_holding (wpAny_bind (la.at (wpAny_bind (lb.at ?_))))
 show wpAny _ _ (if (true&&(Value.builtin "BaseException.__getattribute__" == Value.builtin "object.__getattribute__"))=true then _ else getAttrByItsOwn (.ref x) (.str name tk) (.ref C) (.builtin "BaseException.__getattribute__") fill expr) _ _ _
 rw [ne,if_neg (by decide)]
 unfold getAttrByItsOwn hookBefore
 refine wpAny_bind (lc.at ?_)
 refine wpAny_bind (wpAny_attempt (wpAny_holding ?_))
 unfold callGetattribute
 rw [if_neg (by cases expr <;> decide)]
 unfold boundAndCalled
 rw [FA.ga.bind (.ref x)]
 refine wpAny_bind (wpAny_pure ?_)
 refine wpAny_call (codeAny_call_builtin FA.ga.plain F.entry_bexc_ga (Gk X I e.mB (Gu X I fd ?_)))
 cases r with
 | value v=>exact handed_on h.1 h.2
 | bind g a=>exact wpAny_mono h (fun v s' z=>handed_on z.1 z.2) fun _ _ z=>z.elim
 | missing=>exact h.elim
theorem Fr {R:Result->Shared->Prop} {tp:Value} (X:K.In s.heap) (I:Y9 x C s.heap) (e:XG K C) (h:R (.ok (.ret (.ref C))) s) :
  codeAny (model prog w) A (.call (.builtin "getset_descriptor.__get__") ⟨[.builtin "object.__class__",.ref x,tp],[]⟩) R s:=by
 obtain ⟨hh,gs,dr,tt,oss⟩:=s
 have la:=I.ty (model prog w)
 have lb:=looks_mroIn (M:=model prog w) X e.mO
 refine codeAny_call_builtin KF.slot_gs.plain KF.entry_gs ?_
 refine KF.slot_gs.check _ _ _ _ _ _ _ _ KF.type_class (KF.args_gs _ _ _) ?_
 unfold Builtin.«getset_descriptor.__get__»
 unfold Builtin.Getset_descriptor.descrGet
 rw [dga_obj]
 refine wpAny_bind (wpAny_pure ?_)
 unfold Builtin.Getset_descriptor.descrGetter
 unfold Builtin.Getset_descriptor.descrCheckInstance
 unfold Builtin.Getset_descriptor.descrNameAndClass
 unfold isInstance
 simp only [KF.owner_class]
 repeat lk
 refine ⟨Code.quiet_builtin _ (by decide +kernel),?_⟩
 refine codeAny_builtin KF.entry_class ?_
 unfold Builtin.«object.__class__»
 unfold shownTypeOf
 repeat lk
 exact h
theorem Dh (X:K.In s.heap) (e:XG K C) (M:Model):Looks M s.heap (Builtin.ObjectAttr.find (.ref x) (.ref C) "__class__") (.bind (.builtin "getset_descriptor.__get__") (.builtin "object.__class__")):=by
 have la:=looks_findIn (M:=M) X e.ca
 have lb:=looks_specialIn (M:=M) X e.hn
 have lc:=looks_takesIn (M:=M) X e.tk
 refine Looks.andThen la (Looks.andThen lb ?_)
 exact Looks.andThen (show Looks M s.heap (Builtin.ObjectAttr.dataDescriptor? (some (.builtin "object.__class__")) (some (.builtin "getset_descriptor.__get__"))) (some (_,_)) from Looks.andThen lc Looks.now) (Looks.tag Looks.now)
end
theorem XG.cls {K:Frag} {C:Addr} (e:XG K C):∃ cl d cd sl,K.lookup C=some ⟨cl,d,.cls cd,sl⟩:=by
 obtain ⟨cd,h,_⟩:=zC3.mp e.mB
 unfold clsIn at h
 split at h
 ·rename_i c' d' cd' sl' ho
  exact ⟨c',d',cd',sl',ho⟩
 ·cases h
theorem BP {K:Frag} {x C:Addr} (e:XG K C):KitX K (.ref x) (.ref C) (Y9 x C) where
 ty:=fun M _ _ I=>I.ty M
 it:=fun _ _ X _=>by
  obtain ⟨cl,d,cd,sl,ho⟩:=e.cls
  intro A' Q' E' s' k q
  unfold isType loadHead
  have z:=k _ _ (X _ _ ho)
  exact wpAny_bind (wpAny_loadPart z (wpAny_pure q))
 ne:=fun h tp dd its n sl X htp=>by
  obtain ⟨cl,d,cd,sl',ho⟩:=e.cls
  cases q:(Value.ref C==Value.ref tp) with
  | false=>rfl
  | true=>
   have e2:C=tp:=Value.ref.inj (eq_of_beq q)
   rw [<-e2,X _ _ ho] at htp
   cases htp
 ca:=fun {prog w A E Q s} X I k=>by
  unfold getAttr? getAttrBy?
  refine wpAny_bind (wpAny_mkText (wpAny_bind (wpAny_attempt ?_)))
  refine Jh (s:={ s with toks:=s.toks+1 }) X I e (Dh (s:={ s with toks:=s.toks+1 }) X e _) ?_
  exact wpAny_call (Fr (s:={ s with toks:=s.toks+1 }) X I e ⟨rfl,wpAny_pure k⟩)
end L2
namespace L2
open PySem PySem.Spec PyProof.Rows
def Cx.held (X:Cx) (ea:Addr) (E:Value->Shared->Prop):Cx:={ X with A:=X.A.mark (some (.ref ea)),calm:=false,xe:=E }
section
variable {X:Cx} {pins:List (Addr×Obj)} {σ:St} {H H':Hp} {s s':Shared} {ea:Addr} {E:Value->Shared->Prop}
theorem ZF.held (I:ZF X pins σ H s) (ea:Addr) (E:Value->Shared->Prop):ZF (X.held ea E) pins σ H s:=
 ⟨⟨I.ok.mod,I.ok.kind,I.ok.glob,I.ok.blt,I.ok.above,I.ok.inj,I.ok.has,I.ok.cab,fun z=>absurd z zAF,I.ok.frames,I.ok.stk,I.ok.exf,I.ok.bs,I.ok.bsz,I.ok.noex,I.ok.exfs,I.ok.funs,I.ok.frf⟩,
  I.os,I.bare,I.base,I.loc,I.cell,I.free,I.freeC,I.pin,I.hok,I.len⟩
theorem ZF.unheld (ok:X.Ok) (I:ZF (X.held ea E) pins σ H s):ZF X pins σ H s:=⟨ok,I.os,I.bare,I.base,I.loc,I.cell,I.free,I.freeC,I.pin,I.hok,I.len⟩
theorem ZF.track {a:Addr} {o:HO} (I:ZF X pins σ H s) (h0:X.s₀.heap.get? a=none) (hl:a≠X.env.locals) (hc:∀ x c,X.env.cells.lookup x=some c->c≠a) (hp:∀ p∈X.pn++pins,p.1≠a) (hn:H a=none)
  (new:Ze X.prog X.w (upd H a o) s.heap a o):ZF X pins σ (upd H a o) s:=by
 have nt:∀ {b:Addr} {u:HO},H b=some u->b≠a:=fun {b u} e z=>by rw [z,hn] at e;cases e
 refine ⟨I.ok,I.os,I.bare,⟨I.base.keep,I.base.slot,fun b ob q n hx=>?_,I.base.there,fun b xs q=>?_,fun b ob u q=>?_,fun b ps q=>?_⟩,I.loc,I.cell,?_,fun x c e=>?_,fun p hp'=>?_,fun b u e=>?_,I.len⟩
 ·rw [ZT (fun z=>by rw [z,h0] at q;cases q)]
  exact I.base.free b ob q n hx
 ·have e:=I.base.tups b xs q
  rw [ZT (nt e)];exact e
 ·have e:=I.base.frzs b ob u q
  rw [ZT (nt e)];exact e
 ·obtain ⟨more,e⟩:=I.base.tbls b ps q
  exact ⟨more,by rw [ZT (nt e)];exact e⟩
 ·rw [ZT (Ne.symm hl)];exact I.free
 ·rw [ZT (hc x c e)];exact I.freeC x c e
 ·obtain ⟨e,n,r⟩:=I.pin p hp'
  exact ⟨e,by rw [ZT (hp p hp')];exact n,r⟩
 ·by_cases hb:b=a
  ·subst hb
   rw [ZP] at e
   cases e
   exact new
  ·rw [ZT hb] at e
   exact (I.hok b u e).stay (fun _ _ _ q=>q) (fun c q=>by rw [ZT (nt q)];exact q) fun c xs q=>by rw [ZT (nt q)];exact q
theorem ZF.goes {i:Nat} {n:Str} {M:Model} {A:Around} {Q:Unit->Shared->Prop} {pos:Pos} (I:ZF X pins σ H s) (hN:X.N.Nodup) (hi:X.N[i]? = some n) (hx:X.env.scope.names.lookup n=some .local)
  (h:∀ s',ZF X pins (σ.set i none) H s'->Q () s'):wpAny M A (do bindName X.env n .none;unbindBehindTheSuite X.env n pos) Q E s:=by
 obtain ⟨m,hn,hl⟩:=id I.loc
 have hcls:(X.env.scope.kind==.class || (X.env.scope.kind==.module&&X.env.locals != X.env.globals))=false:=by rw [I.ok.kind];rfl
 have hiσ:i<σ.length:=by rw [I.len];exact (zAO.mp hi).1
 refine wpAny_nameGoes_keeps hx hn hcls fun h' v hn' hs=>h _ ?_
 obtain ⟨oL,_,_,hoL,_⟩:=id hn
 have neL:∀ b o,X.s₀.heap.get? b=some o->b≠X.env.locals:=fun b o e=>zAk (zAb (zAS e) I.ok.above)
 refine ⟨I.ok,I.os,I.bare,⟨fun b o e n hb hx=>?_,fun b o e n hb hx=>?_,I.base.free,fun b o e hx=>?_,I.base.tups,I.base.frzs,I.base.tbls⟩,⟨_,hn',fun j y v' e1 e2 e3=>?_⟩,fun y c e=>?_,I.free,I.freeC,fun p hp=>?_,fun b ob e=>?_,by simpa using I.len⟩
 ·exact (hs.2 b (neL b o e)).trans (I.base.keep b o e n hb hx)
 ·obtain ⟨sl,e1⟩:=I.base.slot b o e n hb hx
  exact ⟨sl,(hs.2 b (neL b o e)).trans e1⟩
 ·obtain ⟨o',e1⟩:=I.base.there b o e hx
  exact ⟨o',(hs.2 b (neL b o e)).trans e1⟩
 ·by_cases hj:j=i
  ·subst hj
   rw [zCI hiσ] at e2
   cases e2
  ·rw [zCU (Ne.symm hj)] at e2
   obtain ⟨u',r',q⟩:=hl j y v' e1 e2 e3
   refine ⟨u',r',?_⟩
   rcases q with ⟨k,e⟩ | ⟨k,c,e,z⟩
   ·refine .inl ⟨k,?_⟩
    have:y≠n:=fun e=>hj (NR hN e1 (e ▸ hi))
    simp [this,e]
   ·exact .inr ⟨k,c,e,z.sameBut hs (I.cne y c e)⟩
 ·obtain ⟨w',z⟩:=I.cell y c e
  exact ⟨w',z.sameBut hs (I.cne y c e)⟩
 ·obtain ⟨e,n,ne,nf,d⟩:=I.pin p hp
  exact ⟨(hs.2 p.1 ne).trans e,n,ne,nf,d⟩
 ·refine (I.hok b ob e).stay (fun c w' hc q=>(hs.2 c ?_).trans q) (fun _ q=>q) fun _ _ q=>q
  rintro rfl
  rcases hc with rfl | hc
  ·rw [I.free] at e;cases e
  ·rw [I.free] at hc;cases hc
end
section
variable {prog:Program} {w:World} {A:Around} {E:Value->Shared->Prop} {s:Shared} {K:zAA} {x C CB:Addr}
theorem HC {b:Bool} {Q:Bool->Shared->Prop} (X:K.In s.heap) (I:Y9 x C s.heap) (ht:zA4 K (.ref CB)=some (.type "type")) (hB:zAs K CB (.type "BaseException")=some true)
  (hC:zAs K C (.ref CB)=some b) (h:Q b s):wpAny (model prog w) A (excMatches (.ref x) (.ref CB)) Q E s:=by
 obtain ⟨hh,g,d,t,os⟩:=s
 have L0:=I.ty (model prog w)
 have L1:=zBz (M:=model prog w) X hB
 have L2:=zBz (M:=model prog w) X hC
 have L3:=zC9 (M:=model prog w) X ht
 have f:=tc_notTuple
 have L4:zAx (model prog w) hh (isType (.ref CB)) true:=by
  obtain ⟨cdD,hcD,_⟩:=zC3.mp hB
  unfold PySem.W.clsIn at hcD
  split at hcD
  ·rename_i c' d' cd' sl' ho
   intro A' Q' E' s' k q
   unfold isType loadHead
   exact wpAny_bind (wpAny_loadPart (k _ _ (X _ _ ho)) (wpAny_pure q))
  ·cases hcD
 unfold excMatches isInstance isExcClass
 refine wpAny_bind (wpAny_bind (L3.at ?_))
 rw [f]
 refine wpAny_pure ?_
 rw [if_neg zAF]
 refine wpAny_bind (wpAny_pure ?_)
 simp only [zCy,List.forIn_nil]
 cases b with
 | true=>
  repeat (first | lk | wp_step)
  all_goals first | exact h | trace_state
 | false=>
  repeat (first | lk | wp_step)
  all_goals first | exact h | trace_state
end
end L2
namespace Tw
open PySem
inductive TG where
 | int (i:Int)
 | str (x:Str)
 | tup (l:List TG)
 | odd (n:String)
mutual
def TG.fits:TG->Nat->Bool
 | .int i,_=>decide (i.natAbs<10 ^ 60)
 | .str x,_=>Wv x
 | .tup l,r=>decide (0<r)&&(decide (l.length<=4)&&gfitsL l (r - 1))
 | .odd _,_=>false
def gfitsL:List TG->Nat->Bool
 | [],_=>true
 | t :: l,r=>t.fits r&&gfitsL l r
end
theorem IO (r:Nat):∀ l:List TG,gfitsL l r=l.all fun t=>t.fits r
 | []=>by simp [gfitsL]
 | t :: l=>by rw [gfitsL,zDD,IO r l]
mutual
def KT.emb:KT->TG
 | .int i=>.int i
 | .str x=>.str x
 | .tup l=>.tup (embL l)
def embL:List KT->List TG
 | []=>[]
 | t :: l=>t.emb :: embL l
end
theorem PH:∀ l:List KT,embL l=l.map KT.emb
 | []=>by rw [embL];rfl
 | t :: l=>by rw [embL,PH l];rfl
mutual
theorem Ot:∀ (t:KT) (r:Nat),t.emb.fits r=t.fits r
 | .int i,r=>by rw [KT.emb,TG.fits,KT.fits]
 | .str x,r=>by rw [KT.emb,TG.fits,KT.fits]
 | .tup l,r=>by rw [KT.emb,TG.fits,KT.fits,embL_fits l (r - 1),PH,zAD]
theorem embL_fits:∀ (l:List KT) (r:Nat),gfitsL (embL l) r=fitsL l r
 | [],r=>by rw [embL,gfitsL,fitsL]
 | t :: l,r=>by rw [embL,gfitsL,fitsL,Ot t r,embL_fits l r]
end
mutual
def TG.neat:TG->Prop
 | .int _=>True
 | .str x=>x.length<=1000
 | .tup l=>l.length<=5/\neatL l
 | .odd _=>True
def neatL:List TG->Prop
 | []=>True
 | t :: l=>t.neat/\neatL l
end
theorem Lh:∀ {l:List TG} {t:TG},neatL l->t∈l->t.neat
 | [],_,_,h=>by cases h
 | u :: l,t,h,hm=>by
  rw [neatL] at h
  rcases zAd.mp hm with e | e
  ·subst e;exact h.1
  ·exact Lh h.2 e
mutual
theorem M8:∀ (t:KT) (r:Nat),t.fits r=true->t.emb.neat
 | .int i,r,h=>by rw [KT.emb,TG.neat];trivial
 | .str x,r,h=>by
  rw [KT.fits] at h
  rw [KT.emb,TG.neat]
  have:=(B6 h).1
  exact zA7 this (by decide)
 | .tup l,r,h=>by
  rw [KT.fits,zAJ,zAJ] at h
  rw [KT.emb,TG.neat,PH,zAD,<-PH]
  have:=of_decide_eq_true h.2.1
  exact ⟨by omega,embL_neat l (r - 1) h.2.2⟩
theorem embL_neat:∀ (l:List KT) (r:Nat),fitsL l r=true->neatL (embL l)
 | [],r,h=>by rw [embL,neatL];trivial
 | t :: l,r,h=>by
  rw [fitsL,zAJ] at h
  rw [embL,neatL]
  exact ⟨M8 t r h.1,embL_neat l r h.2⟩
end
end Tw
namespace L2
open PySem PySem.Spec PyProof.Rows
section
variable {X:Cx}
theorem ZF.big {pins:List (Addr×Obj)} {σ:St} {H:Hp} {s:Shared} (I:ZF X pins σ H s):sysModules<s.heap.objs.size:=by
 have h:mainGlobals<s.heap.objs.size:=(I.mod.glob.keeps I.bk).lt
 exact Nat.lt_trans (by decide) h
theorem GS {P:Program} {w:World} {H:Hp} (h:Heap) (hb:sysModules<h.objs.size):Ze P w H (h.push { cls:=.type "dict",data:=.dict #[] }) h.objs.size (.dK []):=
 ⟨zAe _,beq_eq_false_iff_ne.mpr (Ne.symm (zAk hb)),[],.nil,Heap.DictOf.new h⟩
def Hr:TE:=fun _ H Q=>∀ p,H p=none->Q (.ref p) (upd H p (.dK []))
theorem NA {pos:Pos}:PE X (.Dict [] [] pos) Hr:=fun pins s σ H Q I h=>
 wpAny_Dict_empty ⟨.ref s.heap.objs.size,_,I.laid (a:=s.heap.objs.size) (o:=.dK []) (t':=s.toks) (fun _ _ q=>zAG _ q) (zAH _) (GS s.heap I.big),rfl,h _ (I.hok.fresh (zAH _))⟩
def Vu (x:Str) (n:Int):Str:=⟨(zBW n.toNat x.cps).foldl (· ++ ·) #[]⟩
theorem K4 (a:Array Nat):∀ (k:Nat) (b:Array Nat),((zBW k a).foldl (· ++ ·) b).size=b.size+k * a.size
 | 0,b=>by simp
 | k+1,b=>by
  rw [List.replicate_succ,zCz,K4 a k,Array.size_append,Nat.succ_mul]
  omega
theorem Dm:YV X (binaryOp .Mult) (fun x y H Q=>∃ i n,x=.str i/\y=.int n/\i.length=1/\2<=n/\n<=1000/\Q (.str (Vu i n)) H):=by
 intro pins s σ H x y v u Q I rx ry h
 obtain ⟨i,n,rfl,rfl,hi,h2,h3,q⟩:=h
 obtain ⟨t,rfl⟩:=rx
 obtain ⟨t',rfl⟩:=ry
 have n1:¬ n<1:=by omega
 have n2:¬ ((n==1 || i.length==0)=true):=by rw [hi];simp;omega
 have sz:(Vu i n).length<=sizeLine:=by
  show ((zBW n.toNat i.cps).foldl (· ++ ·) #[]).size<=sizeLine
  have e:i.cps.size=1:=hi
  rw [K4,e]
  exact zBb (Yp (by simp;omega))
 refine PySem.P.mul_str ?_ (fun _ _=>?_) (fun _ _=>?_) ?_
 ·rw [decide_eq_false (by omega),decide_eq_false (by omega)];rfl
 ·rw [hi]
  have:(1:Int)<=(2 ^ 63 - 1) / n:=(Int.le_ediv_iff_mul_le (by omega)).mpr (by omega)
  omega
 ·rw [hi]
  unfold Builtin.Str.tooLong sizeLine
  exact decide_eq_false (by omega)
 ·rw [if_neg n1,if_neg n2]
  exact ⟨sz,⟨.str (Vu i n),H,I.tok _,⟨_,rfl⟩,q⟩⟩
def cV:V->Value
 | .ty n=>.type n
 | .ref a=>.ref a
 | _=>.none
def IU:V->Bool
 | .ty _=>true
 | .ref _=>true
 | _=>false
theorem F3 {c:V} {u:Value} (r:ZQ c u) (h:IU c=true):u=cV c:=by
 cases c with
 | ty n=>exact r
 | ref a=>exact r
 | _=>cases h
theorem Bb {K:zAA} {base:Heap} {mg:Str->Option Value} {x:Str} {C:Addr} {bmB:List Value} {newId:String} (kin:K.In base) (hb:mg x=some (.ref C)) (q:zCV K C bmB newId=true):OwnCls x C bmB newId mg base:=by
 refine ⟨hb,?_⟩
 unfold zCV at q
 split at q
 ·rename_i dd cd sl ho
  split at q
  ·rename_i C' bm k0 k1 k2 k3 n k5 hm hs
   rw [zAJ,zAJ,zAJ,zAJ,zAJ] at q
   obtain ⟨⟨⟨⟨⟨q1,q2⟩,q3⟩,q4⟩,q5⟩,q6⟩:=q
   cases eq_of_beq q1
   cases eq_of_beq q2
   have q3':cd.hasDel=false:=by simpa using q3
   have q6':=eq_of_beq q6
   obtain ⟨nm,bs,mro,ns,qn,hd,sn,sub,ab,col,del⟩:=cd
   dsimp only at hm q3' q5 q6'
   subst hm q3'
   have hsl:sl=#[k0,k1,k2,k3,some (.builtin newId),k5]:=by
    obtain ⟨l⟩:=sl
    simp only at hs
    rw [hs]
   subst hsl
   refine ⟨bm,ns,nm,qn,bs,hd,sn,sub,ab,col,dd,k0,k1,k2,k3,k5,base.nsMap ns,kin _ _ ho,?_⟩
   exact ⟨.of_isNs (PySem.W.isNs_of_in kin q5),PySem.W.nsMap_none_of_in kin q5 q6',zDI kin q4⟩
  ·cases q
 ·cases q
end
section
variable {κ:Type} [DecidableEq κ]
def YA (kvs:List (κ×V)) (k:κ):Option V:=(kvs.find? fun kv=>decide (kv.1=k)).map (·.2)
def Yo (kvs:List (κ×V)) (k:κ) (v:V):List (κ×V):=
 if (kvs.any fun kv=>decide (kv.1=k))=true then kvs.map (fun kv=>if kv.1=k then (kv.1,v) else kv) else kvs++[(k,v)]
def VT (kvs:List (κ×V)) (k:κ):List (κ×V):=kvs.filter fun kv=>decide (kv.1≠k)
theorem W9 {p:κ×V} {r:List (κ×V)} {k:κ} (e:p.1=k):YA (p :: r) k=some p.2:=by simp [YA,zBZ,e]
theorem VI {p:κ×V} {r:List (κ×V)} {k:κ} (e:¬ p.1=k):YA (p :: r) k=YA r k:=by simp [YA,zBZ,e]
theorem UP (k:κ):∀ kvs:List (κ×V),(kvs.any fun kv=>decide (kv.1=k))=(YA kvs k).isSome
 | []=>rfl
 | p :: r=>by
  rw [zDC]
  by_cases e:p.1=k
  ·simp only [W9 e,decide_eq_true e,Bool.true_or,Option.isSome_some]
  ·rw [VI e,decide_eq_false e,Bool.false_or];exact UP k r
theorem KO (k j:κ) (y:V):∀ kvs:List (κ×V),YA (kvs.map fun kv=>if kv.1=k then (kv.1,y) else kv) j=(YA kvs j).map fun x=>if j=k then y else x
 | []=>rfl
 | p :: r=>by
  have ih:=KO k j y r
  rw [zAr]
  by_cases h:p.1=k
  ·rw [if_pos h]
   by_cases e:p.1=j
   ·rw [W9 (p:=(p.1,y)) e,W9 e,zBO,if_pos (e.symm.trans h)]
   ·rw [VI (p:=(p.1,y)) e,VI e,ih]
  ·rw [if_neg h]
   by_cases e:p.1=j
   ·rw [W9 (p:=p) e,W9 e,zBO,if_neg (fun z=>h (e.trans z))]
   ·rw [VI (p:=p) e,VI e,ih]
theorem Jz (k j:κ) (y:V):∀ kvs:List (κ×V),YA kvs k=none->YA (kvs++[(k,y)]) j=if j=k then some y else YA kvs j
 | [],_=>by
  by_cases e:k=j
  ·rw [if_pos e.symm];exact W9 (p:=(k,y)) e
  ·rw [if_neg (fun z=>e z.symm)];exact VI (p:=(k,y)) e
 | p :: r,hn=>by
  rw [zCG]
  have hk:¬ p.1=k:=fun z=>by rw [W9 z] at hn;cases hn
  rw [VI hk] at hn
  have ih:=Jz k j y r hn
  by_cases e:p.1=j
  ·rw [W9 e,W9 e,if_neg (fun z=>hk (e.trans z))]
  ·rw [VI e,VI e,ih]
theorem Q5 (kvs:List (κ×V)) (k j:κ) (y:V):YA (Yo kvs k y) j=if j=k then some y else YA kvs j:=by
 unfold Yo
 by_cases a:(kvs.any fun kv=>decide (kv.1=k))=true
 ·rw [if_pos a,KO]
  rw [UP] at a
  by_cases e:j=k
  ·obtain ⟨x,hx⟩:=zBj.mp a
   rw [if_pos e,e,hx,zBO,if_pos rfl]
  ·rw [if_neg e]
   cases YA kvs j with
   | none=>rfl
   | some x=>rw [zBO,if_neg e]
 ·rw [if_neg a]
  refine Jz k j y kvs ?_
  rw [UP] at a
  cases q:YA kvs k with
  | none=>rfl
  | some x=>rw [q] at a;exact (a rfl).elim
theorem LY (kvs:List (κ×V)) (k:κ) (v:V):(Yo kvs k v).length<=kvs.length+1:=by
 unfold Yo
 split
 ·rw [zAD];omega
 ·rw [zAL,zAX,zBQ];omega
theorem N7 {kvs:List (κ×V)} {k:κ} (v:V) (h:YA kvs k=none):Yo kvs k v=kvs++[(k,v)]:=by
 unfold Yo
 rw [UP,h]
 exact if_neg (by decide)
theorem YO.isSome_eq {o:Option V} {u:Option Value} (r:YO o u):o.isSome=u.isSome:=by
 cases o with
 | none=>cases u with
  | none=>rfl
  | some _=>exact (show False from r).elim
 | some _=>cases u with
  | none=>exact (show False from r).elim
  | some _=>rfl
theorem KV.val {kvs:List (κ×V)} {vs:List (κ×Value)} (r:KV kvs vs) (k:κ):YO (YA kvs k) (valueAt vs k):=by
 unfold KV at r
 induction r with
 | nil=>exact True.intro
 | @cons p q ps qs h t ih=>
  obtain ⟨h1,h2⟩:=h
  by_cases e:p.1=k
  ·have e':q.1=k:=h1.symm.trans e
   have b:valueAt (q :: qs) k=some q.2:=by simp [valueAt,zBZ,e']
   rw [W9 e,b];exact h2
  ·have e':¬ q.1=k:=fun z=>e (h1.trans z)
   have b:valueAt (q :: qs) k=valueAt qs k:=by simp [valueAt,zBZ,e']
   rw [VI e,b];exact ih
theorem KV.any {kvs:List (κ×V)} {vs:List (κ×Value)} (r:KV kvs vs) (k:κ):(kvs.any fun kv=>decide (kv.1=k))=vs.any fun kv=>decide (kv.1=k):=by
 unfold KV at r
 induction r with
 | nil=>rfl
 | cons h t ih=>rw [zDC,zDC,ih,h.1]
theorem KV.repl {kvs:List (κ×V)} {vs:List (κ×Value)} (r:KV kvs vs) (k:κ) {y:V} {u:Value} (ry:ZQ y u) :
  KV (kvs.map fun kv=>if kv.1=k then (kv.1,y) else kv) (vs.map fun kv=>if kv.1=k then (kv.1,u) else kv):=by
 unfold KV at r ⊢
 induction r with
 | nil=>exact .nil
 | @cons p q ps qs h t ih=>
  rw [zAr,zAr]
  refine .cons ?_ ih
  obtain ⟨h1,h2⟩:=h
  by_cases e:p.1=k
  ·rw [if_pos e,if_pos (h1.symm.trans e)];exact ⟨h1,ry⟩
  ·rw [if_neg e,if_neg (fun z=>e (h1.trans z))];exact ⟨h1,h2⟩
theorem KV.put {kvs:List (κ×V)} {vs:List (κ×Value)} (r:KV kvs vs) (k:κ) {y:V} {u:Value} (ry:ZQ y u):KV (Yo kvs k y) (stored vs k u):=by
 unfold Yo stored
 rw [r.any k]
 by_cases e:(vs.any fun kv=>decide (kv.1=k))=true
 ·rw [if_pos e,if_pos e];exact r.repl k ry
 ·rw [if_neg e,if_neg e];exact Paired.snoc r ⟨rfl,ry⟩
theorem KV.drop {kvs:List (κ×V)} {vs:List (κ×Value)} (r:KV kvs vs) (k:κ):KV (VT kvs k) (without vs k):=by
 unfold KV at r ⊢
 unfold VT without
 induction r with
 | nil=>exact .nil
 | @cons p q ps qs h t ih=>
  obtain ⟨h1,h2⟩:=h
  rw [zBl,zBl]
  by_cases e:p.1=k
  ·have a:¬ decide (p.1≠k)=true:=by simp [e]
   have b:¬ decide (q.1≠k)=true:=by simp [h1.symm.trans e]
   rw [if_neg a,if_neg b];exact ih
  ·have e':¬ q.1=k:=fun z=>e (h1.trans z)
   have a:decide (p.1≠k)=true:=by simp [e]
   have b:decide (q.1≠k)=true:=by simp [e']
   rw [if_pos a,if_pos b];exact .cons ⟨h1,h2⟩ ih
theorem KV.length {kvs:List (κ×V)} {vs:List (κ×Value)} (r:KV kvs vs):kvs.length=vs.length:=Paired.length r
theorem G2 (kvs:List (κ×V)) (k:κ):(VT kvs k).length<=kvs.length:=zCL _ _
end
theorem QP {P:Program} {w:World} {k:Zc} {u:Value} (r:ZQ (kV k) u):(WN P w).is k u=true:=by
 cases k with
 | inl i=>obtain ⟨t,e⟩:=(show ∃ t,u=Value.int i t from r);subst e;exact HX P w i t
 | inr x=>obtain ⟨t,e⟩:=(show ∃ t,u=Value.str x t from r);subst e;exact CW P w x t
theorem JC {P:Program} {w:World}:∀ {ks:List Zc} {us:List Value},ZN (ks.map kV) us->ItemsAre (WN P w) ks us
 | [],_,r=>by rw [zB8] at r;cases r;exact .nil
 | k :: ks,_,r=>by
  rw [zAr] at r
  cases r with
  | cons h t=>exact .cons (QP h) (JC t)
abbrev KT (H:Hp):List (List Zc×V)->List (List Zc×Addr×Value)->Prop:=Paired fun p q=>p.1=q.1/\H q.2.1=some (.tup (p.1.map kV))/\ZQ p.2 q.2.2
theorem KT.val {H:Hp} {kvs:List (List Zc×V)} {xs:List (List Zc×Addr×Value)} (r:KT H kvs xs) (k:List Zc):YO (YA kvs k) ((atKey xs k).map (·.2)):=by
 induction r with
 | nil=>exact True.intro
 | @cons p q ps qs h t ih=>
  obtain ⟨h1,_,h2⟩:=h
  by_cases e:p.1=k
  ·have e':q.1=k:=h1.symm.trans e
   have b:atKey (q :: qs) k=some q.2:=by simp [atKey,zBZ,e']
   rw [W9 e,b];exact h2
  ·have e':¬ q.1=k:=fun z=>e (h1.trans z)
   have b:atKey (q :: qs) k=atKey qs k:=by simp [atKey,zBZ,e']
   rw [VI e,b];exact ih
theorem KT.repl {H:Hp} {kvs:List (List Zc×V)} {xs:List (List Zc×Addr×Value)} (r:KT H kvs xs) (k:List Zc) {y:V} {u:Value} (ry:ZQ y u) :
  KT H (kvs.map fun kv=>if kv.1=k then (kv.1,y) else kv) (xs.map (putAt k u)):=by
 induction r with
 | nil=>exact .nil
 | @cons p q ps qs h t ih=>
  rw [zAr,zAr]
  refine .cons ?_ ih
  obtain ⟨h1,h2,h3⟩:=h
  unfold putAt
  by_cases e:p.1=k
  ·rw [if_pos e,if_pos (h1.symm.trans e)];exact ⟨h1,h2,ry⟩
  ·rw [if_neg e,if_neg (fun z=>e (h1.trans z))];exact ⟨h1,h2,h3⟩
theorem KT.put {H:Hp} {kvs:List (List Zc×V)} {xs:List (List Zc×Addr×Value)} (r:KT H kvs xs) (k:List Zc) {b:Addr} {y:V} {u:Value} (hb:H b=some (.tup (k.map kV))) (ry:ZQ y u) :
  KT H (Yo kvs k y) (storedH xs k b u):=by
 have e:(kvs.any fun kv=>decide (kv.1=k))=(atKey xs k).isSome:=by
  rw [UP,(r.val k).isSome_eq,Option.isSome_map]
 unfold Yo storedH
 rw [e]
 by_cases q:(atKey xs k).isSome=true
 ·rw [if_pos q,if_pos q];exact r.repl k ry
 ·rw [if_neg q,if_neg q];exact Paired.snoc r ⟨rfl,hb,ry⟩
theorem KT.keeps {H H':Hp} {kvs:List (List Zc×V)} {xs:List (List Zc×Addr×Value)} (r:KT H kvs xs) (ht:∀ b ys,H b=some (.tup ys)->H' b=some (.tup ys)):KT H' kvs xs:=
 Paired.mapP r fun _ _ z=>⟨z.1,ht _ _ z.2.1,z.2.2⟩
section
variable {P:Program} {w:World} {H:Hp} {h:Heap} {a:Addr}
theorem Ir {u:HO} (ok:YT P w H h) (e:Rd H a u):Ze P w H h a u:=e.ok ok
theorem QU {kvs:List (Zc×V)} (ok:YT P w H h) (e:Rd H a (.dK kvs)):kvs.length<=sizeLine/\(a==sysModules)=false/\∃ vs,KV kvs vs/\h.DictOf (WN P w) a vs:=
 show Ze P w H h a (.dK kvs) from Ir ok e
theorem Lf {kvs:List (Zc×V)} (ok:YT P w H h) (e:H a=some (.dK kvs)):kvs.length<=sizeLine/\(a==sysModules)=false/\∃ vs,KV kvs vs/\h.DictOf (WN P w) a vs:=QU ok (.inl e)
theorem Qr {ks:List Zc} (ok:YT P w H h) (e:H a=some (.tup (ks.map kV))):(tupleKind (WN P w)).is h ks a:=by
 obtain ⟨_,its,r,o,h1,h2,n,h3⟩:=(show Ze P w H h a (.tup (ks.map kV)) from ok a _ e)
 exact ⟨o,its.toArray,n,h1,h2,h3,by simpa using JC r⟩
theorem QN {kvs:List (List Zc×V)} (ok:YT P w H h) (e:Rd H a (.dT kvs)):kvs.length<=sizeLine/\(a==sysModules)=false /\
  ∃ xs,KT H kvs xs/\h.DictOfH (tupleKind (WN P w)) a xs:=by
 obtain ⟨z,y,xs,r,o,es,ep,h1,h2,h3,h4,h5⟩:=(show Ze P w H h a (.dT kvs) from Ir ok e)
 refine ⟨z,y,xs,r,o,es,ep,h1,h2,h3,h4,fun x hx=>?_,h5⟩
 have all:∀ {l:List (List Zc×V)} {m:List (List Zc×Addr×Value)},KT H l m->∀ x∈m,(tupleKind (WN P w)).is h x.1 x.2.1:=by
  intro l m q
  induction q with
  | nil=>intro x hx;exact nomatch hx
  | @cons p q ps qs hq t ih=>
   intro x hx
   rcases zAd.mp hx with e | hx
   ·subst e
    exact Qr ok (by rw [<-hq.1];exact hq.2.1)
   ·exact ih x hx
 exact all r x hx
theorem C4 {kvs:List (List Zc×V)} (ok:YT P w H h) (e:H a=some (.dT kvs)):kvs.length<=sizeLine/\(a==sysModules)=false /\
  ∃ xs,KT H kvs xs/\h.DictOfH (tupleKind (WN P w)) a xs:=QN ok (.inl e)
end
def YK (H:Hp) (a:Addr) (y:V) (r:Option V):Prop:=
 (∃ kvs k,Rd H a (.dK kvs)/\y=kV k/\r=YA kvs k)\/∃ kvs k b,Rd H a (.dT kvs)/\y=.ref b/\H b=some (.tup (k.map kV))/\r=YA kvs k
def WY (H:Hp) (a:Addr) (y v:V) (H':Hp):Prop:=
 (∃ kvs k,H a=some (.dK kvs)/\y=kV k/\kvs.length<sizeLine/\H'=upd H a (.dK (Yo kvs k v))) \/
 ∃ kvs k b,H a=some (.dT kvs)/\y=.ref b/\H b=some (.tup (k.map kV))/\kvs.length<sizeLine/\H'=upd H a (.dT (Yo kvs k v))
theorem YK.k {H:Hp} {a:Addr} {kvs:List (Zc×V)} {k:Zc} (e:H a=some (.dK kvs)):YK H a (kV k) (YA kvs k):=.inl ⟨kvs,k,.inl e,rfl,rfl⟩
theorem WY.k {H:Hp} {a:Addr} {kvs:List (Zc×V)} {k:Zc} {v:V} (e:H a=some (.dK kvs)) (hl:kvs.length<sizeLine):WY H a (kV k) v (upd H a (.dK (Yo kvs k v))):=.inl ⟨kvs,k,e,rfl,hl,rfl⟩
section
variable {X:Cx} {pins:List (Addr×Obj)} {σ:St} {H:Hp} {s:Shared} {a:Addr} {y v:V} {u r:Value} {o:Option V} {A:Around} {E:Value->Shared->Prop}
theorem Ed {Q:Value->Shared->Prop} (hu:A.units+1<cLine) (I:ZF X pins σ H s) (g:YK H a y (some v)) (ry:ZQ y u) (h:∀ w' s',ZF X pins σ H s'->ZQ v w'->Q w' s') :
  wpAny (model X.prog X.w) A (getItem (.ref a) u) Q E s:=by
 rcases g with ⟨kvs,k,e,ey,l⟩ | ⟨kvs,k,b,e,ey,eb,l⟩
 ·subst ey
  obtain ⟨z,hd,vs,rel,dd⟩:=QU I.hok e
  obtain ⟨w',hw,rw'⟩:=YO.some_of (v:=v) (o:=valueAt vs k) (by rw [l];exact rel.val k)
  exact wpAny_getItem_of (QP ry) dd.mapOf hw (h w' _ (I.tok _) rw')
 ·subst ey
  cases (show u=Value.ref b from ry)
  obtain ⟨z,hd,xs,rel,dd⟩:=QN I.hok e
  obtain ⟨w',hw,rw'⟩:=YO.some_of (v:=v) (o:=(atKey xs k).map (·.2)) (by rw [l];exact rel.val k)
  obtain ⟨p,hp,hp2⟩:=zAq.mp hw
  refine wpAny_getItem_heap (tupleKind_room_in1 hu) (Qr I.hok eb) dd hp ?_
  rw [hp2]
  exact h w' _ (I.tok _) rw'
theorem GX {Q:Value->Shared->Prop} (hu:A.units+1<cLine) (I:ZF X pins σ H s) (g:YK H a y o) (ry:ZQ y u) (h:∀ s',ZF X pins σ H s'->Q (.bool (!o.isSome)) s') :
  wpAny (model X.prog X.w) A (compareOp .NotIn u (.ref a)) Q E s:=by
 rcases g with ⟨kvs,k,e,ey,l⟩ | ⟨kvs,k,b,e,ey,eb,l⟩
 ·subst ey
  obtain ⟨z,hd,vs,rel,dd⟩:=QU I.hok e
  refine wpAny_notIn_of (QP ry) hd dd.mapOf ?_
  rw [<-(rel.val k).isSome_eq,<-l]
  exact h _ (I.tok _)
 ·subst ey
  cases (show u=Value.ref b from ry)
  obtain ⟨z,hd,xs,rel,dd⟩:=QN I.hok e
  refine wpAny_notIn_heap (tupleKind_room_in1 hu) (Qr I.hok eb) hd dd ?_
  have q:=(rel.val k).isSome_eq
  rw [Option.isSome_map] at q
  rw [<-q,<-l]
  exact h _ (I.tok _)
theorem PF {h':Heap} {t':Nat} {ob:HO} (I:ZF X pins σ H s) (mu:U2 (H a)) (hs:zBE a s.heap h') (he:∃ q,h'.get? a=some q) (new:Ze X.prog X.w (upd H a ob) h' a ob) :
  ZF X pins σ (upd H a ob) { s with heap:=h',toks:=t' }:=
 I.write (x:=a) (e:=a) mu (.inl rfl) (fun b q hb z=>(hs.2 b hb).trans z) he new
theorem Lg {P:Program} {w:World} {H':Hp} {h':Heap} {kvs:List (Zc×V)} {vs:List (Zc×Value)} (z:kvs.length<=sizeLine) (hd:(a==sysModules)=false) (rel:KV kvs vs) (dd:h'.DictOf (WN P w) a vs) :
  Ze P w H' h' a (.dK kvs):=⟨z,hd,vs,rel,dd⟩
theorem FU {H':Hp} {Q:Unit->Shared->Prop} (hu:A.units+1<cLine) (I:ZF X pins σ H s) (g:WY H a y v H') (ry:ZQ y u) (rv:ZQ v r) (h:∀ s',ZF X pins σ H' s'->Q () s') :
  wpAny (model X.prog X.w) A (setItem (.ref a) u r) Q E s:=by
 rcases g with ⟨kvs,k,e,ey,l,eH⟩ | ⟨kvs,k,b,e,ey,eb,l,eH⟩
 ·subst ey eH
  obtain ⟨z,hd,vs,rel,dd⟩:=Lf I.hok e
  have hz:vs.length<=sizeLine:=by rw [<-rel.length];exact z
  have hl:(Yo kvs k v).length<=sizeLine:=by have:=LY kvs k v;omega
  refine wpAny_setItem_pairs (hsz:=hz) (QP ry) dd fun h' dd' hs=>h _ ?_
  have he:∃ q,h'.get? a=some q:=let ⟨q,_,_,hq,_⟩:=dd';⟨q,hq⟩
  exact PF I (by rw [e];exact True.intro) hs he (Lg hl hd (rel.put k rv) dd')
 ·subst ey eH
  cases (show u=Value.ref b from ry)
  obtain ⟨z,hd,xs,rel,dd⟩:=C4 I.hok e
  have hz:xs.length<=sizeLine:=by rw [<-Paired.length rel];exact z
  have hl:(Yo kvs k v).length<=sizeLine:=by have:=LY kvs k v;omega
  refine wpAny_setItem_heap (hsz:=hz) (tupleKind_room_in1 hu) (Qr I.hok eb) dd fun h' dd' hs=>h _ ?_
  obtain ⟨q,es,ep,hq,h2,h3,h4,_,h5⟩:=dd'
  refine PF I (by rw [e];exact True.intro) hs ⟨q,hq⟩ ⟨hl,hd,_,(rel.put k eb rv).keeps fun c ys ec=>?_,q,es,ep,hq,h2,h3,h4,h5⟩
  rw [ZT (ZR ec e (fun z=>nomatch z))]
  exact ec
end
section
variable {X:Cx} {pins:List (Addr×Obj)} {σ:St} {H:Hp} {s:Shared} {a:Addr} {kvs:List (Zc×V)} {k:Zc} {u:Value} {A:Around} {E:Value->Shared->Prop}
theorem BA {v:V} {more:List Value} {Q:Value->Shared->Prop} (I:ZF X pins σ H s) (e:H a=some (.dK kvs)) (ry:ZQ (kV k) u) (l:YA kvs k=some v) (hm:more=[]\/∃ x,more=[x])
  (h:∀ w' s',ZF X pins σ (upd H a (.dK (VT kvs k))) s'->ZQ v w'->Q w' s'):wpAny (model X.prog X.w) A (call (.builtin "dict.pop") (.ref a :: u :: more)) Q E s:=by
 obtain ⟨z,hd,vs,rel,dd⟩:=Lf I.hok e
 obtain ⟨w',hw,rw'⟩:=YO.some_of (v:=v) (o:=valueAt vs k) (by rw [<-l];exact rel.val k)
 have hp:(keyPart u).isSome=true:=by
  cases k with
  | inl i=>obtain ⟨t,q⟩:=(show ∃ t,u=Value.int i t from ry);subst q;rfl
  | inr x=>obtain ⟨t,q⟩:=(show ∃ t,u=Value.str x t from ry);subst q;rfl
 have ha:argsOk "dict.pop" ⟨.ref a :: u :: more,[]⟩:=by
  rcases hm with q | ⟨x,q⟩
  ·subst q;exact PySem.F.args_dict_pop_2 _ _
  ·subst q;exact PySem.F.args_dict_pop_3 _ _ _
 refine call_meetsIn zC8 dd.typeIs PySem.F.entry_dict_pop ha (meets_dict_pop_there (WN X.prog X.w) a (QP ry) more hm hp)
  ⟨vs,w',dd,by rw [<-rel.length];exact z,hw,fun h' dd' hs=>h w' _ ?_ rw'⟩
 have he:∃ q,h'.get? a=some q:=let ⟨q,_,_,hq,_⟩:=dd';⟨q,hq⟩
 exact PF I (by rw [e];exact True.intro) hs he (Lg (zA7 (G2 kvs k) z) hd (rel.drop k) dd')
end
def Pt (i:Expr):Prop:=∀ ov iv,subscripted i false ov iv=operate [ov,iv] (getItem ov iv)
theorem KS {prog:Program} {w:World} {A:Around} {E:Value->Shared->Prop} {s:Shared} {env:Env} {value slice:Expr} {pos:Pos} {T id:String} {Q:Value->Shared->Prop}
  (hl:typeLookup (.type T) "__getitem__" = pure (some (.builtin id))) (hs:Pt slice)
  (h:wpAny (model prog w) A (eval value env) (fun o s₁=>wpAny (model prog w) A (eval slice env) (fun i s₂=>s₂.TypeIs o T/\wpAny (model prog w) A (getItem o i) Q E s₂) E s₁) E s) :
  wpAny (model prog w) A (eval (.Subscript value slice pos) env) Q E s:=by
 refine Subscript_ (wpAny_mono h (fun o s₁ h₁=>wpAny_mono h₁ (fun i s₂ h₂=>?_) fun _ _ x=>x) fun _ _ x=>x)
 obtain ⟨hT,h₂⟩:=h₂
 unfold subscriptTail
 refine wpAny_bind ?_
 rw [getitemInPython_of_ne hT.not_modules]
 refine wpAny_bind (wpAny_specialOf hT hl ?_)
 have fin:wpAny (model prog w) A (subscripted slice false o i) (fun r s₃=>wpAny (model prog w) A (letTemporaryGo value o r >>= fun _=>pure r) Q E s₃) E s₂:=by
  rw [hs o i]
  exact wpAny_operating (wpAny_mono h₂ (fun r s₃ h₃=>wpAny_bind (wpAny_letTemporaryGo (wpAny_pure h₃))) fun _ _ x=>x)
 first
  | exact wpAny_pure (wpAny_bind fin)
  | exact wpAny_bind (wpAny_pure (wpAny_bind fin))
  | exact wpAny_bind fin
theorem De {X:Cx} {pins:List (Addr×Obj)} {σ:St} {H:Hp} {s:Shared} {a:Addr} {y:V} {o:Option V} (I:ZF X pins σ H s) (g:YK H a y o):s.TypeIs (.ref a) "dict" :=by
 rcases g with ⟨kvs,k,e,_,_⟩ | ⟨kvs,k,b,e,_,_,_⟩
 ·obtain ⟨_,_,vs,_,dd⟩:=QU I.hok e
  exact dd.typeIs
 ·obtain ⟨_,_,xs,_,dd⟩:=QN I.hok e
  exact dd.typeIs
def B2 (td ty:TE):TE:=fun σ H Q=>td σ H fun x H1=>ty σ H1 fun y H2=>∃ a v,x=.ref a/\YK H2 a y (some v)/\Q v H2
def Cg (ty td:TE):TE:=fun σ H Q=>ty σ H fun y H1=>td σ H1 fun x H2=>∃ a o,x=.ref a/\YK H2 a y o/\Q (.bl (!o.isSome)) H2
def Bj (td ty tv:TE):TS:=fun D σ H=>tv σ H fun v H1=>td σ H1 fun x H2=>ty σ H2 fun y H3=>∃ a H4,x=.ref a/\WY H3 a y v H4/\D.nx σ H4
section
variable {X:Cx} {o i e value:Expr} {pos pos' tpos:Pos} {td ty tv:TE}
theorem QZ (hu:X.A.units+1<cLine) (ho:PE X o td) (hi:PE X i ty) (hs:Pt i):PE X (.Subscript o i pos) (B2 td ty):=by
 intro pins s σ H Q I h
 refine KS zCr.lookup hs (Zb (ho pins s σ H _ I h) fun u s1 ⟨x,H1,I1,rx,q1⟩=>Zb (hi pins s1 σ H1 _ I1 q1) fun iv s2 ⟨y,H2,I2,ry,a,v,ex,g,q2⟩=>?_)
 subst ex
 obtain rfl:u=Value.ref a:=rx
 exact ⟨De I2 g,Ed hu I2 g ry fun w' s3 I3 rw'=>⟨v,H2,I3,rw',q2⟩⟩
theorem Mp (hu:X.A.units+1<cLine) (hi:PE X i ty) (ho:PE X o td):PC X .NotIn i o (Cg ty td):=by
 intro pins s σ H Q I h
 refine Zb (hi pins s σ H _ I h) fun iv s1 ⟨y,H1,I1,ry,q1⟩=>Zb (ho pins s1 σ H1 _ I1 q1) fun u s2 ⟨x,H2,I2,rx,a,ov,ex,g,q2⟩=>?_
 subst ex
 obtain rfl:u=Value.ref a:=rx
 exact GX hu I2 g ry fun s3 I3=>⟨.bl (!ov.isSome),H2,I3,rfl,q2⟩
theorem Ja (hu:X.A.units+1<cLine) (ho:PE X o td) (hi:PE X i ty) (hv:PE X value tv) (hs:swapsWith value (some (.Subscript o i pos')) pos.line X.env=pure false) :
  PS X (.Assign [.Subscript o i pos'] value pos) (Bj td ty tv):=by
 intro pins s σ H D I h
 refine wpAny_Assign_Subscript (Zb (hv pins s σ H _ I h) fun r s1 ⟨v,H1,I1,rv,q1⟩=>Zb (ho pins s1 σ H1 _ I1 q1) fun u s2 ⟨x,H2,I2,rx,q2⟩=>Zb (hi pins s2 σ H2 _ I2 q2) fun iv s3 ⟨y,H3,I3,ry,a,H4,ex,g,q3⟩=>?_) hs
 subst ex
 obtain rfl:u=Value.ref a:=rx
 exact FU hu I3 g ry rv fun s4 I4=>⟨σ,H4,I4,q3⟩
end
section
variable {X:Cx} {pos:Pos}
end
structure M1 (X:Cx) (o:Expr) (m:Str) (apos:Pos) (e:Expr) (cpos:Pos):Prop where
 base:attributeBase o m X.env (eval o X.env)=eval o X.env
 few:((backTo cpos (starEach [e] X.env)).all (fun x=>!x.1)&&(backToKw cpos (keywordEach [] X.env)).all (fun x=>x.1.isSome)
  && decide (([e]:List Expr).length+([]:List Keyword).length+(if ([]:List Keyword).isEmpty then 0 else 1)<30))=true
 line:(apos.endLine==cpos.line)=true
 trees:backTo cpos (starEach [e] X.env)=[(false,eval e X.env)]
def LE (H:Hp) (a:Addr):Prop:=(∃ kvs,Rd H a (.dK kvs))\/∃ kvs,Rd H a (.dT kvs)
theorem GE {X:Cx} {pins:List (Addr×Obj)} {σ:St} {H:Hp} {s:Shared} {a:Addr} (I:ZF X pins σ H s) (d:LE H a) :
  s.TypeIs (.ref a) "dict" /\ (∀ b,Value.ref a=.ref b->∃ ob,s.heap.get? b=some ob/\ob.dict=none)/\(a==sysModules)=false:=by
 rcases d with ⟨kvs,e⟩ | ⟨kvs,e⟩
 ·obtain ⟨_,hd,vs,_,dd⟩:=QU I.hok e
  refine ⟨dd.typeIs,fun b q=>?_,hd⟩
  cases q
  obtain ⟨ob,_,_,h1,h2,_⟩:=dd
  exact ⟨ob,h1,h2.2.1⟩
 ·obtain ⟨_,hd,xs,_,dd⟩:=QN I.hok e
  refine ⟨dd.typeIs,fun b q=>?_,hd⟩
  cases q
  obtain ⟨ob,_,_,h1,h2,_⟩:=dd
  exact ⟨ob,h1,h2.2.1⟩
section
variable {X:Cx} {pins:List (Addr×Obj)} {σ:St} {H:Hp} {s:Shared} {a:Addr} {y d:V} {u r:Value} {o:Option V} {A:Around} {E:Value->Shared->Prop}
end
def AB (td ty:TE):TE:=fun σ H Q=>td σ H fun x H1=>∃ a,x=.ref a/\LE H1 a/\ty σ H1 fun y H2=>∃ kvs k v,H2 a=some (.dK kvs)/\y=kV k/\YA kvs k=some v/\Q v (upd H2 a (.dK (VT kvs k)))
section
variable {X:Cx} {o e f:Expr} {apos cpos:Pos} {td ty tx:TE}
theorem FL (ho:PE X o td) (he:PE X e ty) (m:M1 X o "pop" apos e cpos):PE X (.Call (.Attribute o "pop" apos) [e] [] cpos) (AB td ty):=by
 intro pins s σ H Q I h
 refine wpAny_Call_method m.base m.few m.line PySem.F.plainAttrs_dict zC8 PySem.F.type_dict_pop (Zb (ho pins s σ H _ I h) fun u s1 ⟨x,H1,I1,rx,a,ex,d,q1⟩=>?_)
 subst ex
 obtain rfl:u=Value.ref a:=rx
 obtain ⟨t1,t2,_⟩:=GE I1 d
 refine ⟨t1,t2,?_⟩
 rw [m.trees]
 refine Calls.callWith_builtin rfl (Calls.evalArgs_plain (Calls.spliced_cons (Zb (he pins s1 σ H1 _ I1 q1) fun iv s2 ⟨y,H2,I2,ry,kvs,k,v,ea,ey,l,q2⟩=>Calls.spliced_nil ?_)))
 subst ey
 exact BA I2 ea ry l (.inl rfl) fun w' s3 I3 rw'=>⟨v,_,I3,rw',q2⟩
end
section
variable {X:Cx} {pins:List (Addr×Obj)} {σ:St} {H:Hp} {s:Shared} {a:Addr} {kvs:List (Zc×V)} {A:Around} {E:Value->Shared->Prop}
end
section
variable {X:Cx} {pins:List (Addr×Obj)} {σ:St} {H:Hp} {s:Shared} {a:Addr} {y:V} {u:Value} {A:Around} {E:Value->Shared->Prop}
end
section
variable {X:Cx}
end
section
variable {κ:Type} [DecidableEq κ]
theorem Fu {kvs:List (κ×V)} {k:κ} (h:YA kvs k=none):¬ k∈kvs.map (·.1):=by
 intro m
 obtain ⟨p,hp,e⟩:=zAf.mp m
 have q:(kvs.any fun kv=>decide (kv.1=k))=true:=zCH.mpr ⟨p,hp,decide_eq_true e⟩
 rw [UP,h] at q
 exact absurd q (by simp)
theorem JG {kvs:List (κ×V)} {k:κ} {v:V} (h:YA kvs k=some v):k∈kvs.map (·.1):=by
 have q:(kvs.any fun kv=>decide (kv.1=k))=true:=by
  rw [UP,h]
  all_goals rfl
 obtain ⟨p,hp,e⟩:=zCH.mp q
 exact zAf.mpr ⟨p,hp,of_decide_eq_true e⟩
end
end L2
namespace Tw
open PySem PySem.Spec L2 PyProof.Rows
def Uq (d:Addr) (es:Array DictEntry):HO:=.ext fun h=>(d==sysModules)=false/\es.size<=sizeLine/\∃ o ep,h.get? d=some o/\o.ExactDict/\o.data=.dict es ep
abbrev Um (w:World) (x:KT×V×V) (e:DictEntry):Prop:=e.hash=XD w x.1/\ZQ x.2.1 e.key/\ZQ x.2.2 e.val
structure Z3 (w:World) (H:Hp) (d:Addr) (xs:List (KT×V×V)):Prop where
 ex:∃ es,H d=some (Uq d es)/\Paired (Um w) xs es.toList
 key:∀ x∈xs,ZD H x.1 x.2.1/\x.1.depth<=3
 nd:(xs.map (·.1)).Nodup
theorem Ig {P:Program} {w:World} {H:Hp} {h:Heap} {d:Addr} {es:Array DictEntry} (h1:(d==sysModules)=false) (h2:es.size<=sizeLine) (h3:∃ o ep,h.get? d=some o/\o.ExactDict/\o.data=.dict es ep):Ze P w H h d (Uq d es):=by
 refine ⟨⟨h1,h2,h3⟩,?_,?_⟩
 ·obtain ⟨o,ep,g,_⟩:=h3
  exact ⟨o,g⟩
 ·rintro a b ⟨q1,q2,o,ep,g,r⟩ k
  exact ⟨q1,q2,o,ep,k o g,r⟩
theorem QL {α β:Type} {F:α->β->Prop}:∀ {l:List α} {m:List β} {i:Nat} {b:β},Paired F l m->m[i]? = some b->∃ a,l[i]? = some a/\F a b
 | _,_,_,_,.nil,e=>by simp at e
 | _,_,0,_,.cons r _,e=>by simp at e;subst e;exact ⟨_,rfl,r⟩
 | _,_,i+1,b,.cons _ t,e=>by
  obtain ⟨a,h1,h2⟩:=QL (i:=i) (b:=b) t (by simpa using e)
  exact ⟨a,by simpa using h1,h2⟩
theorem Nf {α β:Type} {F:α->β->Prop}:∀ {l:List α} {m:List β},l.length=m.length->(∀ (i:Nat) a b,l[i]? = some a->m[i]? = some b->F a b)->Paired F l m
 | [],[],_,_=>.nil
 | [],_ :: _,h,_=>by simp at h
 | _ :: _,[],h,_=>by simp at h
 | a :: l,b :: m,h,f=>.cons (f 0 a b rfl rfl) (Nf (by simpa using h) fun i x y hx hy=>f (i+1) x y (by simpa using hx) (by simpa using hy))
theorem Ul {α β:Type} {F:α->β->Prop} {a:α} {b:β} (h:F a b):∀ {l:List α} {m:List β},Paired F l m->Paired F (l++[a]) (m++[b])
 | _,_,.nil=>.cons h .nil
 | _,_,.cons r t=>.cons r (Ul h t)
def V1 (xs:List (KT×V×V)) (t:KT):Option V:=(xs.find? fun x=>x.1.eqb t).map (·.2.2)
def Uh (t:KT) (v:V) (x:KT×V×V):KT×V×V:=if x.1.eqb t=true then (x.1,x.2.1,v) else x
def Wq (xs:List (KT×V×V)) (t:KT) (y v:V):List (KT×V×V):=if (xs.any fun x=>x.1.eqb t)=true then xs.map (Uh t v) else xs++[(t,y,v)]
theorem Y5 {xs:List (KT×V×V)} {t:KT}:(xs.any fun x=>x.1.eqb t)=true ↔ t∈xs.map (·.1):=by
 rw [zCH,zAf]
 constructor
 ·rintro ⟨x,hx,e⟩
  exact ⟨x,hx,VW _ _ e⟩
 ·rintro ⟨x,hx,e⟩
  exact ⟨x,hx,by rw [e];exact VX _⟩
theorem OS (t:KT) (v:V) (x:KT×V×V):(Uh t v x).1=x.1/\(Uh t v x).2.1=x.2.1:=by
 unfold Uh
 split <;> exact ⟨rfl,rfl⟩
theorem Ni (xs:List (KT×V×V)) (t:KT) (y v:V):(Wq xs t y v).map (·.1)=if (xs.any fun x=>x.1.eqb t)=true then xs.map (·.1) else xs.map (·.1)++[t]:=by
 unfold Wq
 split
 ·rw [zCK]
  exact zCX fun x _=>(OS t v x).1
 ·rw [zAZ]
  rfl
theorem EF (xs:List (KT×V×V)) (t:KT) (y v:V):(Wq xs t y v).length<=xs.length+1:=by
 have:=congrArg zCD (Ni xs t y v)
 rw [zAD] at this
 rw [this]
 split
 ·rw [zAD];omega
 ·rw [zAL,zAD];simp
theorem LP {xs:List (KT×V×V)} (nd:(xs.map (·.1)).Nodup) {j:Nat} {x:KT×V×V} (e:xs[j]? = some x):V1 xs x.1=some x.2.2:=by
 induction xs generalizing j with
 | nil=>simp at e
 | cons z xs ih=>
  rw [zAr,zBP] at nd
  cases j with
  | zero=>
   simp at e
   subst e
   simp [V1,VX]
  | succ j=>
   have e':xs[j]? = some x:=by simpa using e
   have hne:z.1.eqb x.1=false:=by
    cases q:z.1.eqb x.1 with
    | false=>rfl
    | true=>exact absurd (zAf.mpr ⟨x,zAK e',(VW _ _ q).symm⟩) nd.1
   have:=ih nd.2 e'
   simpa [V1,zBZ,hne] using this
theorem Cn {xs:List (KT×V×V)} {t:KT} (h:t∉xs.map (·.1)):V1 xs t=none:=by
 unfold V1
 rw [Option.map_eq_none_iff,List.find?_eq_none]
 intro x hx z
 exact h (zAf.mpr ⟨x,hx,VW _ _ z⟩)
theorem Z3.same {w:World} {H H':Hp} {d:Addr} {xs:List (KT×V×V)} (x:Z3 w H d xs) (s:ZA H H'):Z3 w H' d xs:=by
 obtain ⟨es,h1,h2⟩:=x.ex
 exact ⟨⟨es,s _ _ h1,h2⟩,fun z hz=>⟨(x.key z hz).1.mono (ZA.tups s),(x.key z hz).2⟩,x.nd⟩
theorem Z3.but {w:World} {H H':Hp} {d p:Addr} {xs:List (KT×V×V)} (x:Z3 w H d xs) (s:ZE p H H') (t:Zu H H') (n:d≠p):Z3 w H' d xs:=by
 obtain ⟨es,h1,h2⟩:=x.ex
 exact ⟨⟨es,s _ _ h1 n,h2⟩,fun z hz=>⟨(x.key z hz).1.mono t,(x.key z hz).2⟩,x.nd⟩
section
variable {X:Cx} {pins:List (Addr×Obj)} {σ:L2.St} {H:Hp} {s:Shared} {A:Around} {E:Value->Shared->Prop}
theorem Z3.es {d:Addr} {xs:List (KT×V×V)} {es:Array DictEntry} (I:ZF X pins σ H s) (x:Z3 X.w H d xs) (r:Paired (Um X.w) xs es.toList):U3 X.w s.heap (xs.map (·.1)) es:=by
 refine ⟨by have:=Paired.length r;simpa using this.symm,fun i e he=>?_,x.nd⟩
 rw [<-zBB] at he
 obtain ⟨z,e1,e2,e3,e4⟩:=QL r he
 have hz:=x.key z (zAK e1)
 exact ⟨z.1,by rw [zAN,e1];rfl,e2,Wo I _ _ _ hz.1 e3,hz.2⟩
theorem Io {d:Addr} {xs:List (KT×V×V)} {es:Array DictEntry} {o:Obj} {ep:Nat} {t:KT} {y:V} {u:Value} {Q:Option Nat->Shared->Prop} (I:ZF X pins σ H s) (x:Z3 X.w H d xs) (r:Paired (Um X.w) xs es.toList) (ho:s.heap.get? d=some o) (hd:o.data=.dict es ep) (hy:ZD H t y) (dt:t.depth<=3) (ry:ZQ y u) (hu:A.units+3<cLine)
  (hno:t∉xs.map (·.1)->Q none s) (hyes:∀ j z e,xs[j]? = some z->z.1=t->es[j]? = some e->Um X.w z e->Q (some j) s):wpAny (model X.prog X.w) A (dictFind d u (XD X.w t)) Q E s:=by
 refine FD (Wo I t y u hy ry) dt hu ho hd (x.es I r) hno fun j hj=>?_
 rw [zAN] at hj
 obtain ⟨z,e1,e2⟩:=zAq.mp hj
 have lt:j<es.size:=by
  have:=Paired.length r
  obtain ⟨a,_⟩:=zAO.mp e1
  simp at this
  omega
 have e3:es[j]? = some es[j]:=zAc lt
 obtain ⟨z',e4,e5⟩:=QL r (by rw [zBB];exact e3)
 rw [e1] at e4
 cases e4
 exact hyes j z _ e1 e2 e3 e5
theorem Ez {d:Addr} {xs:List (KT×V×V)} {t:KT} {y v:V} {u r:Value} {Q:Unit->Shared->Prop} (hu:A.units+4<cLine) (I:ZF X pins σ H s) (x:Z3 X.w H d xs) (hl:xs.length<1000) (hy:ZD H t y) (dt:t.depth<=3) (ry:ZQ y u) (rv:ZQ v r)
  (h:∀ s' H',ZF X pins σ H' s'->ZE d H H'->Z3 X.w H' d (Wq xs t y v)->Q () s'):wpAny (model X.prog X.w) A (setItem (.ref d) u r) Q E s:=by
 obtain ⟨es,hH,rel⟩:=x.ex
 obtain ⟨⟨hsys,hsz,o,ep,ho,hx,hd⟩,_⟩:=I.hok d _ hH
 have len:es.size=xs.length:=by have:=Paired.length rel;simpa using this.symm
 have hT:s.TypeIs (.ref d) "dict" :=⟨o,ho,hx.1⟩
 unfold setItem
 try with_reducible refine wpAny_holding ?_
 refine wpAny_bind (wpAny_sequenceKey hT (by decide) ?_)
 refine wpAny_bind (wpAny_callSpecial?_slot (name:=zAy "__setitem__") hT slot_dict_setitem (wpAny_call_entry slot_dict_setitem hT entry_dict_setitem ?_ (args_dict_setitem _ _ _)))
 show wpAny _ _ (Builtin.Dict.notOrdered "__setitem__" ⟨[.ref d,u,r],[]⟩ >>= _) _ _ s
 refine wpAny_bind (wpAny_notOrdered_dict hT ?_)
 show wpAny _ _ (dictSet d u r >>= _) _ _ s
 refine wpAny_bind ?_
 unfold dictSet
 try with_reducible refine wpAny_holding ?_
 refine wpAny_bind (NZ t.depth t (zAH _) (Wo I t y u hy ry) (by show A.units+1+_<_;omega) fun tk htk=>?_)
 unfold dictSetHashed
 try with_reducible refine wpAny_holding ?_
 have I1:ZF X pins σ H { s with toks:=tk }:=I.tok tk
 have mu:U2 (H d):=by rw [hH];exact True.intro
 have tups:∀ es',Zu H (upd H d (Uq d es')):=fun es' b ws e=>by rw [ZT (ZR e hH (by intro z;cases z))];exact e
 have fin:∀ (es':Array DictEntry) (h':Heap),es'.size<=sizeLine->zBE d s.heap h'->(∃ o ep,h'.get? d=some o/\o.ExactDict/\o.data=.dict es' ep)->Paired (Um X.w) (Wq xs t y v) es'.toList->Q () { s with heap:=h',toks:=tk }:=fun es' h' hz hs hob hp=>by
  refine h _ (upd H d (Uq d es')) (PF I mu hs (by obtain ⟨o,_,g,_⟩:=hob;exact ⟨o,g⟩) (Ig hsys hz hob)) (fun b o e n=>by rw [ZT n];exact e) ⟨⟨es',ZP,hp⟩,fun z hz=>?_,?_⟩
  ·unfold Wq at hz
   split at hz
   ·obtain ⟨z',hz',rfl⟩:=zAf.mp hz
    rw [(OS t v z').1,(OS t v z').2]
    exact ⟨(x.key z' hz').1.mono (tups es'),(x.key z' hz').2⟩
   ·rcases zAg.mp hz with q | q
    ·exact ⟨(x.key z q).1.mono (tups es'),(x.key z q).2⟩
    ·rw [zAQ.mp q]
     exact ⟨hy.mono (tups es'),dt⟩
  ·rw [Ni]
   split
   ·exact x.nd
   ·rename_i hn
    rw [zBr]
    exact ⟨x.nd,by simp,fun a ha b hb=>by rw [zAQ.mp hb];exact fun z=>hn (Y5.mpr (z ▸ ha))⟩
 refine wpAny_bind (Io (A:=A.in1) I1 x rel ho hd hy dt ry (by show A.units+1+3<_;omega) (fun hn=>?_) fun j z e e1 e2 e3 e4=>?_)
 ·have hn':¬ (xs.any fun x=>x.1.eqb t)=true:=fun q=>hn (Y5.mp q)
  refine wpAny_bind (wpAny_rule (wpAny_updateDictKeys (s:={ s with toks:=tk }) (hz:=hsz) ho hd ?_))
  refine wpAny_pure ⟨.none,rfl,wpAny_pure (fin (es.push ⟨XD X.w t,u,r⟩) _ (by rw [Array.size_push,len];exact zBb (Yp (by omega))) (zBE.update ..) ⟨_,ep+1,zA1 _ ho (Obj.isFreed_of_dict (Obj.data_mapDictKeys hd _)),hx.mapDictKeys _,Obj.data_mapDictKeys hd _⟩ ?_)⟩
  unfold Wq
  rw [if_neg hn',Array.toList_push]
  exact Ul ⟨rfl,ry,rv⟩ rel
 ·have hn':(xs.any fun x=>x.1.eqb t)=true:=Y5.mpr (zAf.mpr ⟨z,zAK e1,e2⟩)
  refine wpAny_bind (wpAny_rule (wpAny_bind (wpAny_updateDict (s:={ s with toks:=tk }) ho hd (wpAny_point ?_))))
  refine wpAny_pure ⟨.none,rfl,wpAny_pure (fin (es.modify j fun e=>{ e with val:=r }) _ (by rw [Array.size_modify];exact hsz) (zBE.update ..) ⟨_,ep,zA1 _ ho (Obj.isFreed_of_dict (Obj.data_mapDict hd _)),hx.mapDict _,Obj.data_mapDict hd _⟩ ?_)⟩
  unfold Wq
  rw [if_pos hn']
  have lm:(es.modify j fun e=>{ e with val:=r }).toList.length=es.size:=by rw [zB1];exact Array.size_modify
  refine Nf (by rw [lm,zAD,len]) fun i a b ha hb=>?_
  rw [zAN] at ha
  obtain ⟨a',ea,rfl⟩:=zAq.mp ha
  rw [zBB,Array.getElem?_modify] at hb
  have hes:es[i]? = some (es[i]'(by obtain ⟨l1,_⟩:=zAO.mp ea;omega)):=zAc _
  obtain ⟨a2,ea2,r1,r2,r3⟩:=QL rel (by rw [zBB];exact hes)
  rw [ea] at ea2
  cases ea2
  rw [hes] at hb
  by_cases hij:j=i
  ·subst hij
   rw [if_pos rfl,zBO] at hb
   cases hb
   rw [e1] at ea
   cases ea
   unfold Uh
   rw [e2,VX,if_pos rfl]
   rw [e2] at r1
   exact ⟨r1,r2,rv⟩
  ·rw [if_neg hij] at hb
   cases hb
   have hne:a'.1.eqb t=false:=by
    cases q:a'.1.eqb t with
    | false=>rfl
    | true=>
     have q1:(xs.map (·.1))[i]? = some t:=by rw [zAN,ea];exact congrArg some (VW _ _ q)
     have q2:(xs.map (·.1))[j]? = some t:=by rw [zAN,e1];exact congrArg some e2
     obtain ⟨l1,_⟩:=zAO.mp q2
     exact absurd ((zCd l1 x.nd).mp (q2.trans q1.symm)) hij
   unfold Uh
   rw [hne,if_neg zAF]
   exact ⟨r1,r2,r3⟩
end
end Tw
namespace Srt
open PySem PySem.W PyProof.Rows
structure Ws (lt:Nat->Nat->Bool):Prop where
 asym:∀ i j,lt i j=true->lt j i=false
 trans:∀ i j k,lt j i=false->lt k j=false->lt k i=false
def gt (p:Array Nat) (i:Nat):Nat:=p.getD i 0
theorem V4 (p:Array Nat) (i:Nat):gt p i=(p[i]?).getD 0:=by unfold gt;rw [Array.getD_eq_getD_getElem?]
theorem Ql {p:Array Nat} {i j:Nat} (hj:j<=p.size) (k:Nat):gt (kas_rev p i j) k=if i<=k/\k<j then gt p (i+j - 1 - k) else gt p k:=by
 rw [V4,V4,V4]
 unfold kas_rev
 rw [getElem?_mirror_all hj]
 split <;> rfl
theorem He {p:Array Nat} {k l:Nat} (hk:k<p.size) (hl:l<=k) (x:Nat):gt (bubble p k (k - l)) x=if x=l then gt p k else if l<x/\x<=k then gt p (x - 1) else gt p x:=by
 rw [V4,V4,V4,V4,getElem?_bubble hk (k - l) (by omega)]
 have e:k - (k - l)=l:=by omega
 rw [e]
 split
 ·rfl
 ·split <;> rfl
def PB (n:Nat) (p:Array Nat):Prop:=p.Perm (zBC (zAi n))
theorem PB.size {n:Nat} {p:Array Nat} (h:PB n p):p.size=n:=by rw [h.size_eq];simp
theorem PB.lt {n:Nat} {p:Array Nat} (h:PB n p) {i:Nat} (hi:i<n):gt p i<n:=by
 have hs:=h.size
 rw [V4,zAc (by omega)]
 have:p[i]'(by omega)∈(zBC (zAi n)):=h.mem_iff.mp (Array.getElem_mem _)
 simpa using this
theorem PB.rev {n:Nat} {p:Array Nat} (h:PB n p) (i j:Nat):PB n (kas_rev p i j):=(mirror_perm _ _ _ _).trans h
theorem PB.bub {n:Nat} {p:Array Nat} (h:PB n p) (i j:Nat):PB n (bubble p i j):=(bubble_perm _ _ _).trans h
section
variable {lt:Nat->Nat->Bool} {n:Nat} {cmp:Nat->Nat->(Bool->Shared->Prop)->Shared->Prop} {s:Shared}
def VZ (lt:Nat->Nat->Bool) (p:Array Nat) (k:Nat):Prop:=∀ i j,i<=j->j<k->lt (gt p j) (gt p i)=false
def Vt (lt:Nat->Nat->Bool) (p:Array Nat) (k:Nat):Prop:=∀ i j,i<=j->j<k->lt (gt p i) (gt p j)=false
theorem Ws.irr (O:Ws lt) (i:Nat):lt i i=false:=by
 cases h:lt i i with
 | false=>rfl
 | true=>exact absurd (O.asym i i h) (by rw [h];decide)
def V3 (lt:Nat->Nat->Bool) (n:Nat) (cmp:Nat->Nat->(Bool->Shared->Prop)->Shared->Prop) (s:Shared):Prop:=∀ i j,i<n->j<n->∀ C:Bool->Shared->Prop,C (lt i j) s->cmp i j C s
theorem Mi (O:Ws lt) (hc:V3 lt n cmp s) {p:Array Nat} (hp:PB n p):∀ (f m N:Nat) (Q:Nat->Shared->Prop),f+m=N->N<=n->1<=m->VZ lt p m ->
  (∀ m',m<=m'->m'<=N->VZ lt p m'->(m'=N\/lt (gt p m') (gt p (m' - 1))=true)->Q m' s)->(kas_asc p f m).kasWp cmp Q s
 | 0,m,N,Q,h1,h2,h3,hs,hq=>hq m (zAH _) (by omega) hs (.inl (by omega))
 | f+1,m,N,Q,h1,h2,h3,hs,hq=>by
  refine hc _ _ (hp.lt (i:=m) (by omega)) (hp.lt (i:=m - 1) (by omega)) _ ?_
  show (if lt (gt p m) (gt p (m - 1))=true then KasT.ret m else kas_asc p f (m+1)).kasWp cmp Q s
  cases hl:lt (gt p m) (gt p (m - 1)) with
  | true=>rw [if_pos rfl];exact hq m (zAH _) (by omega) hs (.inr hl)
  | false=>
   rw [if_neg zAF]
   refine Mi O hc hp f (m+1) N Q (by omega) h2 (by omega) (fun i j hij hj=>?_) fun m' g1 g2 g3 g4=>hq m' (by omega) g2 g3 g4
   rcases zAj j m with h | h
   ·exact hs i j hij h
   ·have ej:j=m:=by omega
    subst ej
    rcases zAj i j with h' | h'
    ·exact O.trans _ _ _ (hs i (j - 1) (by omega) (by omega)) hl
    ·have:i=j:=by omega
     rw [this];exact O.irr _
def Ob (lt:Nat->Nat->Bool) (p:Array Nat) (m q:Nat):Prop:=q+1<=m/\∀ i j,m - (q+1)<=i->i<m->m - (q+1)<=j->j<m->lt (gt p i) (gt p j)=false
theorem JP (O:Ws lt) {p:Array Nat} {m q:Nat} (hm:m<=p.size) (hf:Ob lt p m q) (hn:Vt lt p m):Vt lt (kas_rev p (m - (q+1)) m) m:=by
 obtain ⟨h1,h2⟩:=hf
 have g (k:Nat):=Ql (p:=p) (i:=m - (q+1)) hm k
 intro i j hij hj
 rw [g i,g j]
 split
 ·rename_i c1
  rw [if_pos ⟨by omega,by omega⟩]
  exact h2 _ _ (by omega) (by omega) (by omega) (by omega)
 ·rename_i c1
  split
  ·exact hn _ _ (by omega) (by omega)
  ·exact hn _ _ hij hj
theorem Qy (O:Ws lt) (hc:V3 lt n cmp s):∀ (f:Nat) (p:Array Nat) (m q N:Nat) (Q:Array Nat×Nat×Nat->Shared->Prop),PB n p->f+m=N->N<=n->Vt lt p m->Ob lt p m q ->
  (∀ p' m' q',PB n p'->m<=m'->m'<=N->Vt lt p' m'->Ob lt p' m' q'->Q (p',m',q') s)->(kas_desc f p m q).kasWp cmp Q s
 | 0,p,m,q,N,Q,hp,h1,h2,hn,hf,hq=>hq p m q hp (zAH _) (by omega) hn hf
 | f+1,p,m,q,N,Q,hp,h1,h2,hn,hf,hq=>by
  have hf1:=hf.1
  have hs:=hp.size
  refine hc _ _ (hp.lt (i:=m) (by omega)) (hp.lt (i:=m - 1) (by omega)) _ ?_
  show (if lt (gt p m) (gt p (m - 1))=true then (if q > 0 then kas_desc f (kas_rev p (m - (q+1)) m) (m+1) 0 else kas_desc f p (m+1) 0) else .ask (p.getD (m - 1) 0) (p.getD m 0) fun d=>if d=true then .ret (p,m,q) else kas_desc f p (m+1) (q+1):KasT _).kasWp cmp Q s
  have more:∀ p':Array Nat,PB n p'->Vt lt p' m->gt p' m=gt p m->lt (gt p m) (gt p (m - 1))=true->(∀ i,i<m->lt (gt p' i) (gt p (m - 1))=false)->Vt lt p' (m+1):=fun p' _ hn' e hl hb i j hij hj=>by
   rcases zAj j m with h | h
   ·exact hn' i j hij h
   ·have ej:j=m:=by omega
    subst ej
    rcases zAj i j with h' | h'
    ·rw [e]
     exact O.trans _ _ _ (O.asym _ _ hl) (hb i h')
    ·have:i=j:=by omega
     rw [this];exact O.irr _
  cases hl:lt (gt p m) (gt p (m - 1)) with
  | true=>
   rw [if_pos rfl]
   split
   ·have hn':=JP O (by omega) hf hn
    have g (k:Nat):=Ql (p:=p) (i:=m - (q+1)) (j:=m) (by omega) k
    refine Qy O hc f _ (m+1) 0 N Q (hp.rev _ _) (by omega) h2 (more _ (hp.rev _ _) hn' (by rw [g m,if_neg (by omega)]) hl fun i hi=>?_) ⟨by omega,fun i j a1 a2 a3 a4=>?_⟩ fun p' m' q' b1 b2 b3 b4 b5=>hq p' m' q' b1 (by omega) b3 b4 b5
    ·rw [g i]
     split
     ·exact hf.2 _ _ (by omega) (by omega) (by omega) (by omega)
     ·exact hn _ _ (by omega) (by omega)
    ·have:i=j:=by omega
     rw [this];exact O.irr _
   ·refine Qy O hc f _ (m+1) 0 N Q hp (by omega) h2 (more _ hp hn rfl hl fun i hi=>hn _ _ (by omega) (by omega)) ⟨by omega,fun i j a1 a2 a3 a4=>?_⟩ fun p' m' q' b1 b2 b3 b4 b5=>hq p' m' q' b1 (by omega) b3 b4 b5
    have:i=j:=by omega
    rw [this];exact O.irr _
  | false=>
   rw [if_neg zAF]
   refine hc _ _ (hp.lt (i:=m - 1) (by omega)) (hp.lt (i:=m) (by omega)) _ ?_
   show (if lt (gt p (m - 1)) (gt p m)=true then KasT.ret (p,m,q) else kas_desc f p (m+1) (q+1)).kasWp cmp Q s
   cases hd:lt (gt p (m - 1)) (gt p m) with
   | true=>rw [if_pos rfl];exact hq p m q hp (zAH _) (by omega) hn hf
   | false=>
    rw [if_neg zAF]
    refine Qy O hc f _ (m+1) (q+1) N Q hp (by omega) h2 (fun i j hij hj=>?_) ⟨by omega,fun i j a1 a2 a3 a4=>?_⟩ fun p' m' q' b1 b2 b3 b4 b5=>hq p' m' q' b1 (by omega) b3 b4 b5
    ·rcases zAj j m with h | h
     ·exact hn i j hij h
     ·have ej:j=m:=by omega
      subst ej
      rcases zAj i j with h' | h'
      ·exact O.trans _ _ _ hd (hn i (j - 1) (by omega) (by omega))
      ·have:i=j:=by omega
       rw [this];exact O.irr _
    ·rcases zAj i m with h | h
     ·rcases zAj j m with h' | h'
      ·exact hf.2 i j (by omega) h (by omega) h'
      ·have ej:j=m:=by omega
       subst ej
       exact O.trans _ _ _ hd (hf.2 i (j - 1) (by omega) h (by omega) (by omega))
     ·have ei:i=m:=by omega
      subst ei
      rcases zAj j i with h' | h'
      ·exact O.trans _ _ _ (hf.2 (i - 1) j (by omega) (by omega) (by omega) h') hl
      ·have:i=j:=by omega
       rw [this];exact O.irr _
theorem BI {p:Array Nat} {m:Nat} (hm:m<=p.size) (hn:Vt lt p m):VZ lt (kas_rev p 0 m) m:=fun i j hij hj=>by
 have g (k:Nat):=Ql (p:=p) (i:=0) hm k
 rw [g i,g j,if_pos ⟨by omega,by omega⟩,if_pos ⟨by omega,by omega⟩]
 exact hn _ _ (by omega) (by omega)
theorem IF (O:Ws lt) (hc:V3 lt n cmp s) {p:Array Nat} (hp:PB n p) {m N:Nat} {Q:Nat×Array Nat->Shared->Prop} (h1:1<=m) (h2:m<=N) (h3:N<=n) (hn:Vt lt p m)
  (hq:∀ m' p',PB n p'->1<=m'->m'<=N->VZ lt p' m'->Q (m',p') s):(kas_tail3 m N p).kasWp cmp Q s:=by
 unfold kas_tail3
 rw [KasT.kasWp_bind]
 exact Mi O hc (hp.rev 0 m) (N - m) m N _ (by omega) h3 h1 (BI (by have:=hp.size;omega) hn) fun m' g1 g2 g3 _=>hq m' _ (hp.rev 0 m) (by omega) g2 g3
theorem Jv (O:Ws lt) (hc:V3 lt n cmp s) {p:Array Nat} (hp:PB n p) {m N:Nat} {Q:Nat×Array Nat->Shared->Prop} (h2:m+1<=N) (h3:N<=n) (hn:Vt lt p (m+1))
  (hq:∀ m' p',PB n p'->1<=m'->m'<=N->VZ lt p' m'->Q (m',p') s):(kas_descPart m N p).kasWp cmp Q s:=by
 unfold kas_descPart
 rw [KasT.kasWp_bind]
 refine Qy O hc (N - (m+1)) p (m+1) 0 N _ hp (by omega) h3 hn ⟨by omega,fun i j a1 a2 a3 a4=>?_⟩ fun p' m' q' b1 b2 b3 b4 b5=>?_
 ·have:i=j:=by omega
  rw [this];exact O.irr _
 ·have hs:=b1.size
  show (if q' > 0 then kas_tail3 m' N (kas_rev p' (m' - (q'+1)) m') else kas_tail3 m' N p').kasWp cmp Q s
  split
  ·exact IF O hc (b1.rev _ _) (by omega) b3 h3 (JP O (by omega) b5 b4) hq
  ·exact IF O hc b1 (by omega) b3 h3 b4 hq
theorem Gj (O:Ws lt) (hc:V3 lt n cmp s) {p:Array Nat} (hp:PB n p) {Q:Nat×Array Nat->Shared->Prop} (h1:1<=n)
  (hq:∀ m' p',PB n p'->1<=m'->m'<=n->VZ lt p' m'->Q (m',p') s):(kas_count n p).kasWp cmp Q s:=by
 unfold kas_count
 rw [KasT.kasWp_bind]
 have hs:=hp.size
 refine Mi O hc hp (n - 1) 1 n _ (by omega) (zAH _) (zAH _) (fun i j hij hj=>?_) fun m g1 g2 g3 g4=>?_
 ·have:i=j:=by omega
  rw [this];exact O.irr _
 ·split
  ·exact hq m p hp g1 g2 g3
  ·rename_i hne
   have hm:m<n:=by have:m≠n:=fun e=>hne (by rw [e];simp);omega
   have hl:lt (gt p m) (gt p (m - 1))=true:=by
    rcases g4 with g4 | g4
    ·omega
    ·exact g4
   split
   ·rename_i hgt
    refine hc _ _ (hp.lt (i:=0) (by omega)) (hp.lt (i:=m - 1) (by omega)) _ ?_
    show (if lt (gt p 0) (gt p (m - 1))=true then KasT.ret (m,p) else kas_descPart m n (kas_rev p 0 m)).kasWp cmp Q s
    cases h0:lt (gt p 0) (gt p (m - 1)) with
    | true=>rw [if_pos rfl];exact hq m p hp g1 g2 g3
    | false=>
     rw [if_neg zAF]
     have al:∀ i j,i<m->j<m->lt (gt p i) (gt p j)=false:=fun i j hi hj=>
      O.trans _ _ _ (g3 j (m - 1) (by omega) (by omega)) (O.trans _ _ _ h0 (g3 0 i (by omega) hi))
     have g (k:Nat):=Ql (p:=p) (i:=0) (j:=m) (by omega) k
     refine Jv O hc (hp.rev 0 m) (by omega) (zAH _) (fun i j hij hj=>?_) hq
     rw [g i,g j]
     rcases zAj j m with h | h
     ·rw [if_pos ⟨by omega,by omega⟩,if_pos ⟨by omega,by omega⟩]
      exact al _ _ (by omega) (by omega)
     ·have ej:j=m:=by omega
      subst ej
      rcases zAj i j with h' | h'
      ·rw [if_pos ⟨by omega,h'⟩,if_neg (by omega)]
       exact O.trans _ _ _ (O.asym _ _ hl) (al _ _ (by omega) (by omega))
      ·have:i=j:=by omega
       rw [this,if_neg (by omega)];exact O.irr _
   ·have em:m=1:=by omega
    subst em
    refine Jv O hc hp (by omega) (zAH _) (fun i j hij hj=>?_) hq
    rcases zAj i j with h' | h'
    ·have ei:i=0:=by omega
     have ej:j=1:=by omega
     subst ei ej
     exact O.asym _ _ hl
    ·have:i=j:=by omega
     rw [this];exact O.irr _
theorem Mf (O:Ws lt) (hc:V3 lt n cmp s) {p:Array Nat} (hp:PB n p) {k:Nat} (hk:k<n) (hs:VZ lt p k):∀ (f l r:Nat) (Q:Nat->Shared->Prop),l<=r->r<=k->r - l<=f->(∀ i,i<l->lt (gt p k) (gt p i)=false)->(∀ i,r<=i->i<k->lt (gt p k) (gt p i)=true) ->
  (∀ l',l'<=k->(∀ i,i<l'->lt (gt p k) (gt p i)=false)->(∀ i,l'<=i->i<k->lt (gt p k) (gt p i)=true)->Q l' s)->(kas_place p k f l r).kasWp cmp Q s
 | 0,l,r,Q,h1,h2,h3,a,b,hq=>hq l (by omega) a fun i hi=>b i (by omega)
 | f+1,l,r,Q,h1,h2,h3,a,b,hq=>by
  unfold kas_place
  split
  ·exact hq l (by omega) a fun i hi=>b i (by omega)
  ·rename_i hlr
   refine hc _ _ (hp.lt (i:=k) hk) (hp.lt (i:=(l+r) / 2) (by omega)) _ ?_
   show (if lt (gt p k) (gt p ((l+r) / 2))=true then kas_place p k f l ((l+r) / 2) else kas_place p k f ((l+r) / 2+1) r).kasWp cmp Q s
   cases hl:lt (gt p k) (gt p ((l+r) / 2)) with
   | true=>
    rw [if_pos rfl]
    refine Mf O hc hp hk hs f l ((l+r) / 2) Q (by omega) (by omega) (by omega) a (fun i hi hik=>?_) hq
    cases h:lt (gt p k) (gt p i) with
    | true=>rfl
    | false=>
     have:=O.trans _ _ _ (hs ((l+r) / 2) i hi hik) h
     rw [hl] at this
     cases this
   | false=>
    rw [if_neg zAF]
    refine Mf O hc hp hk hs f ((l+r) / 2+1) r Q (by omega) h2 (by omega) (fun i hi=>?_) b hq
    exact O.trans _ _ _ (hs i ((l+r) / 2) (by omega) (by omega)) hl
theorem La (O:Ws lt) (hc:V3 lt n cmp s):∀ (f:Nat) (p:Array Nat) (k:Nat) (Q:Array Nat->Shared->Prop),PB n p->f+k=n->1<=k->VZ lt p k->(∀ p',PB n p'->VZ lt p' n->Q p' s)->(kas_bin f p k).kasWp cmp Q s
 | 0,p,k,Q,hp,h1,h2,hs,hq=>hq p hp (by rw [<-h1,Nat.zero_add];exact hs)
 | f+1,p,k,Q,hp,h1,h2,hs,hq=>by
  unfold kas_bin
  rw [KasT.kasWp_bind]
  have hz:=hp.size
  refine Mf O hc hp (by omega) hs k 0 k _ (zAe _) (zAH _) (by omega) (fun i hi=>absurd hi (by omega)) (fun i hi hk=>absurd hk (by omega)) fun l hl a b=>?_
  have g (x:Nat):=He (p:=p) (k:=k) (l:=l) (by omega) hl x
  refine La O hc f _ (k+1) Q (hp.bub _ _) (by omega) (by omega) (fun i j hij hj=>?_) hq
  rw [g i,g j]
  by_cases e1:i=l
  ·rw [if_pos e1]
   by_cases e2:j=l
   ·rw [if_pos e2];exact O.irr _
   ·rw [if_neg e2,if_pos ⟨by omega,by omega⟩]
    exact O.asym _ _ (b (j - 1) (by omega) (by omega))
  ·rw [if_neg e1]
   by_cases e2:j=l
   ·rw [if_pos e2,if_neg (by omega)]
    exact a i (by omega)
   ·rw [if_neg e2]
    by_cases c1:l<i/\i<=k
    ·rw [if_pos c1,if_pos ⟨by omega,by omega⟩]
     exact hs _ _ (by omega) (by omega)
    ·rw [if_neg c1]
     by_cases c2:l<j/\j<=k
     ·rw [if_pos c2]
      exact hs _ _ (by omega) (by omega)
     ·rw [if_neg c2]
      exact hs _ _ hij (by omega)
theorem sort_ok (O:Ws lt) (hc:V3 lt n cmp s) (h1:1<=n) {Q:Array Nat->Shared->Prop} (hq:∀ p,PB n p->VZ lt p n->Q p s):(kas_sort n).kasWp cmp Q s:=by
 unfold kas_sort
 rw [KasT.kasWp_bind]
 refine Gj O hc (p:=zBC (zAi n)) (Array.Perm.refl _) h1 fun m p hp g1 g2 g3=>?_
 show (if m<n then kas_bin (n - max m 1) p (max m 1) else .ret p:KasT _).kasWp cmp Q s
 split
 ·have e:max m 1=m:=by omega
  rw [e]
  exact La O hc (n - m) p m Q hp (by omega) g1 g3 hq
 ·have e:m=n:=by omega
  subst e
  exact hq p hp g3
end
end Srt
namespace Tw
open PySem
theorem IL:∀ (l m:List Nat),l<m->¬ m<l
 | [],[],h,_=>absurd h (zB2 _)
 | [],_ :: _,_,h=>absurd h (zB2 _)
 | _ :: _,[],h,_=>absurd h (zB2 _)
 | a :: l,b :: m,h,h'=>by
  rw [zBa] at h h'
  rcases h with h | ⟨rfl,h⟩
  ·rcases h' with h' | ⟨rfl,h'⟩
   ·omega
   ·omega
  ·rcases h' with h' | ⟨_,h'⟩
   ·omega
   ·exact IL l m h h'
theorem IJ:∀ (l m:List Nat),¬ l<m->¬ m<l->l=m
 | [],[],_,_=>rfl
 | [],_ :: _,h,_=>absurd (zCi _ _) h
 | _ :: _,[],_,h=>absurd (zCi _ _) h
 | a :: l,b :: m,h,h'=>by
  rw [zBa] at h h'
  have e:a=b:=by
   rcases Nat.lt_trichotomy a b with c | c | c
   ·exact absurd (.inl c) h
   ·exact c
   ·exact absurd (.inl c) h'
  subst e
  rw [IJ l m (fun z=>h (.inr ⟨rfl,z⟩)) fun z=>h' (.inr ⟨rfl,z⟩)]
theorem Kb:∀ (l m k:List Nat),l<m->m<k->l<k
 | _,_,[],_,h=>absurd h (zB2 _)
 | [],_,_ :: _,_,_=>zCi _ _
 | _ :: _,[],_,h,_=>absurd h (zB2 _)
 | a :: l,b :: m,c :: k,h,h'=>by
  rw [zBa] at h h' ⊢
  rcases h with h | ⟨rfl,h⟩
  ·rcases h' with h' | ⟨rfl,h'⟩
   ·exact .inl (Nat.lt_trans h h')
   ·exact .inl h
  ·rcases h' with h' | ⟨rfl,h'⟩
   ·exact .inl h'
   ·exact .inr ⟨rfl,Kb l m k h h'⟩
theorem eqb_comm' (a b:KT):a.eqb b=b.eqb a:=by
 rw [zBp,Ya,Ya]
 exact eq_comm
mutual
theorem QM:∀ (a b:KT),a.lt b=true->b.lt a=false
 | .int i,.int j,h=>by rw [KT.lt] at h ⊢;have:=of_decide_eq_true h;exact decide_eq_false (by omega)
 | .int _,.str _,_=>by rw [KT.lt]
 | .int _,.tup _,_=>by rw [KT.lt]
 | .str _,.int _,h=>by rw [KT.lt] at h;cases h
 | .str x,.str y,h=>by rw [KT.lt] at h ⊢;exact decide_eq_false (IL _ _ (of_decide_eq_true h))
 | .str _,.tup _,_=>by rw [KT.lt]
 | .tup _,.int _,h=>by rw [KT.lt] at h;cases h
 | .tup _,.str _,h=>by rw [KT.lt] at h;cases h
 | .tup l,.tup m,h=>by rw [KT.lt] at h ⊢;exact ltL_asym l m h
theorem ltL_asym:∀ (l m:List KT),ltL l m=true->ltL m l=false
 | [],[],h=>by rw [ltL] at h;cases h
 | [],_ :: _,_=>by rw [ltL]
 | _ :: _,[],h=>by rw [ltL] at h;cases h
 | a :: l,b :: m,h=>by
  rw [ltL] at h ⊢
  rw [eqb_comm' b a]
  cases e:a.eqb b with
  | true=>rw [e,if_pos rfl] at h;rw [if_pos rfl];exact ltL_asym l m h
  | false=>rw [e,if_neg zAF] at h;rw [if_neg zAF];exact QM a b h
end
mutual
theorem Og:∀ (a b:KT),a.lt b=false->b.lt a=false->a=b
 | .int i,.int j,h,h'=>by rw [KT.lt] at h h';have:=of_decide_eq_false h;have:=of_decide_eq_false h';rw [show i=j by omega]
 | .int _,.str _,h,_=>by rw [KT.lt] at h;cases h
 | .int _,.tup _,h,_=>by rw [KT.lt] at h;cases h
 | .str _,.int _,_,h=>by rw [KT.lt] at h;cases h
 | .str x,.str y,h,h'=>by
  rw [KT.lt] at h h'
  have e:=IJ _ _ (of_decide_eq_false h) (of_decide_eq_false h')
  obtain ⟨⟨x⟩⟩:=x
  obtain ⟨⟨y⟩⟩:=y
  dsimp only at e
  rw [e]
 | .str _,.tup _,h,_=>by rw [KT.lt] at h;cases h
 | .tup _,.int _,_,h=>by rw [KT.lt] at h;cases h
 | .tup _,.str _,_,h=>by rw [KT.lt] at h;cases h
 | .tup l,.tup m,h,h'=>by rw [KT.lt] at h h';rw [ltL_total l m h h']
theorem ltL_total:∀ (l m:List KT),ltL l m=false->ltL m l=false->l=m
 | [],[],_,_=>rfl
 | [],_ :: _,h,_=>by rw [ltL] at h;cases h
 | _ :: _,[],_,h=>by rw [ltL] at h;cases h
 | a :: l,b :: m,h,h'=>by
  rw [ltL] at h h'
  rw [eqb_comm' b a] at h'
  cases e:a.eqb b with
  | true=>rw [e,if_pos rfl] at h h';rw [Ya.mp e,ltL_total l m h h']
  | false=>
   rw [e,if_neg zAF] at h h'
   have:=Og a b h h'
   rw [this,VX] at e
   cases e
end
theorem UW (a:KT):a.lt a=false:=by
 cases h:a.lt a with
 | false=>rfl
 | true=>have:=QM a a h;rw [h] at this;cases this
mutual
theorem lt_trans':∀ (a b c:KT),a.lt b=true->b.lt c=true->a.lt c=true
 | .int i,.int j,.int k,h,h'=>by rw [KT.lt] at h h' ⊢;have:=of_decide_eq_true h;have:=of_decide_eq_true h';exact decide_eq_true (by omega)
 | .int _,_,.str _,_,_=>by rw [KT.lt]
 | .int _,_,.tup _,_,_=>by rw [KT.lt]
 | .str _,_,.tup _,_,_=>by rw [KT.lt]
 | .int _,.str _,.int _,_,h=>by rw [KT.lt] at h;cases h
 | .int _,.tup _,.int _,_,h=>by rw [KT.lt] at h;cases h
 | .str _,.int _,_,h,_=>by rw [KT.lt] at h;cases h
 | .str x,.str y,.str z,h,h'=>by rw [KT.lt] at h h' ⊢;exact decide_eq_true (Kb _ _ _ (of_decide_eq_true h) (of_decide_eq_true h'))
 | .str _,.str _,.int _,_,h=>by rw [KT.lt] at h;cases h
 | .str _,.tup _,.str _,_,h=>by rw [KT.lt] at h;cases h
 | .str _,.tup _,.int _,_,h=>by rw [KT.lt] at h;cases h
 | .tup _,.int _,_,h,_=>by rw [KT.lt] at h;cases h
 | .tup _,.str _,_,h,_=>by rw [KT.lt] at h;cases h
 | .tup l,.tup m,.tup k,h,h'=>by rw [KT.lt] at h h' ⊢;exact ltL_trans l m k h h'
 | .tup _,.tup _,.int _,_,h=>by rw [KT.lt] at h;cases h
 | .tup _,.tup _,.str _,_,h=>by rw [KT.lt] at h;cases h
theorem ltL_trans:∀ (l m k:List KT),ltL l m=true->ltL m k=true->ltL l k=true
 | _,[],[],_,h=>by rw [ltL] at h;cases h
 | _,_ :: _,[],_,h=>by rw [ltL] at h;cases h
 | [],_,_ :: _,_,_=>by rw [ltL]
 | _ :: _,[],_ :: _,h,_=>by rw [ltL] at h;cases h
 | a :: l,b :: m,c :: k,h,h'=>by
  rw [ltL] at h h' ⊢
  cases e:a.eqb b with
  | true=>
   rw [e,if_pos rfl] at h
   have ab:=Ya.mp e
   subst ab
   cases e2:a.eqb c with
   | true=>rw [e2,if_pos rfl] at h';rw [if_pos rfl];exact ltL_trans l m k h h'
   | false=>rw [e2,if_neg zAF] at h';rw [if_neg zAF];exact h'
  | false=>
   rw [e,if_neg zAF] at h
   cases e2:b.eqb c with
   | true=>
    have bc:=Ya.mp e2
    subst bc
    rw [e,if_neg zAF]
    exact h
   | false=>
    rw [e2,if_neg zAF] at h'
    have ac:=lt_trans' a b c h h'
    cases e3:a.eqb c with
    | true=>
     have:=Ya.mp e3
     subst this
     rw [UW] at ac
     cases ac
    | false=>rw [if_neg zAF];exact ac
end
theorem le_trans' {a b c:KT} (h1:b.lt a=false) (h2:c.lt b=false):c.lt a=false:=by
 cases h:c.lt a with
 | false=>rfl
 | true=>
  cases h3:a.lt b with
  | true=>rw [lt_trans' c a b h h3] at h2;cases h2
  | false=>rw [Og a b h3 h1,h2] at h;cases h
theorem Cv {a b c:KT} (h1:b.lt a=false) (h2:b.lt c=true):a.lt c=true:=by
 cases h:a.lt c with
 | true=>rfl
 | false=>rw [le_trans' h h1] at h2;cases h2
end Tw
namespace Tw
open PySem PySem.Spec L2 PyProof.Rows
structure Kg (g:KT->KT):Prop where
 plt:∀ t u,(g t).plt (g u)=t.lt u
 cmp:∀ t u,(g t).cmp (g u)=true
 shape:∃ n:Nat,∀ t,∃ (k:Int) (r:List KT),g t=.tup (.int k :: r)/\r.length=n
def Uz (g:KT->KT) (h:Heap) (t:KT) (v:Value):Prop:=ZL h (g t) v
section
variable {prog:Program} {w:World} {A:Around} {E:Value->Shared->Prop} {s:Shared} {g:KT->KT}
theorem LI:∀ {l m:List KT} {vs us:List Value} {i:Nat} {Q:Bool->Shared->Prop},l.length=m.length->KVals s.heap l vs->KVals s.heap m us->cmpL l m=true->A.units+depthL l<cLine->Q (pltL l m) s->PySem.W.KatLex prog w A true false Q (vs.zip us) (i+1) s
 | [],m,vs,us,i,Q,hl,x,y,_,_,h=>by
  rw [KVals] at x
  subst x
  cases m with
  | nil=>rw [pltL] at h;exact PySem.W.kat_nil h
  | cons _ _=>simp at hl
 | a :: l,m,vs,us,i,Q,hl,x,y,hc,hu,h=>by
  cases m with
  | nil=>simp at hl
  | cons b m=>
   rw [KVals] at x y
   obtain ⟨v,r,rfl,x1,x2⟩:=x
   obtain ⟨v',r',rfl,y1,y2⟩:=y
   rw [depthL] at hu
   rw [pltL] at h
   rw [cmpL] at hc
   refine PySem.W.kat_cons (U1 a.depth a b A v v' (zAH _) x1 y1 (by omega) prog w _ _ ?_)
   refine PySem.W.kat_go (fun e=>PySem.W.kat_yes ?_) (fun e=>PySem.W.kat_no ?_)
   ·rw [e,if_pos rfl] at h hc
    exact LI (by simpa using hl) x2 y2 hc (by omega) h
   ·rw [e,if_neg zAF] at h hc
    exact PySem.W.kat_one v v' (N1 a.depth a b A v v' (zAH _) x1 y1 hc (by omega) prog w _ _ h)
theorem Hi (hg:Kg g) {t u:KT} {x y:Value} {Q:Bool->Shared->Prop} (hx:Uz g s.heap t x) (hy:Uz g s.heap u y) (hu:A.units+(g t).depth<cLine) (h:Q (t.lt u) s):wpAny (model prog w) A (keyLt' (tuples' true) x y) Q E s:=by
 obtain ⟨n,sh⟩:=hg.shape
 obtain ⟨k,r,ea,la⟩:=sh t
 obtain ⟨m,q,ec,lc⟩:=sh u
 have hp:=hg.plt t u
 have hc:=hg.cmp t u
 unfold Uz at hx hy
 rw [ea] at hp hc hx hu
 rw [ec] at hp hc hy
 rw [ZL] at hx hy
 obtain ⟨a,its,rfl,⟨⟨cl,dd,da',sl⟩,ho,hcl,n1,hd⟩,kx⟩:=hx
 obtain ⟨c,its2,rfl,⟨⟨cl2,dd2,da2,sl2⟩,ho2,hcl2,n2,hd2⟩,ky⟩:=hy
 have l1:=kx.length
 have l2:=ky.length
 rw [KVals] at kx ky
 obtain ⟨v1,r1,rfl,k1,kx⟩:=kx
 obtain ⟨v2,r2,rfl,k2,ky⟩:=ky
 rw [ZL] at k1 k2
 obtain ⟨tk,rfl⟩:=k1
 obtain ⟨tm,rfl⟩:=k2
 rw [KT.plt,pltL] at hp
 rw [KT.cmp,cmpL] at hc
 rw [KT.depth,depthL] at hu
 refine PySem.W.kat_lt ho hd ho2 hd2 ?_
 have hfin:decide ((Value.int k tk :: r1).toArray.size<(Value.int m tm :: r2).toArray.size)=false:=by
  simp only [zAX] at l1 l2
  simp only [zAI,zAX,decide_eq_false_iff_not]
  omega
 rw [hfin]
 show PySem.W.KatLex prog w A true false Q ((.int k tk,.int m tm) :: r1.zip r2) 0 s
 refine PySem.W.kat_cons (SeqAt.EqAt.int_int k tk m tm prog w _ _ ?_)
 refine PySem.W.kat_go (fun e=>PySem.W.kat_yes ?_) (fun e=>PySem.W.kat_no ?_)
 ·have e1:(KT.int k).eqb (KT.int m)=true:=by rw [KT.eqb];exact e
  rw [e1,if_pos rfl] at hp hc
  refine LI (by rw [la,lc]) kx ky hc (by omega) ?_
  rw [hp]
  exact h
 ·have e1:(KT.int k).eqb (KT.int m)=false:=by rw [KT.eqb];exact e
  rw [e1,if_neg zAF,KT.plt] at hp
  refine oneLt_int ?_
  rw [hp]
  exact h
end
def YR (g:KT->KT) (h:Heap):List KT->List Value->Prop
 | [],[]=>True
 | t :: ts,v :: vs=>Uz g h t v/\YR g h ts vs
 | _,_=>False
theorem YR.len {g:KT->KT} {h:Heap}:∀ {ts:List KT} {vs:List Value},YR g h ts vs->ts.length=vs.length
 | [],[],_=>rfl
 | _ :: _,_ :: _,x=>congrArg (· + 1) x.2.len
 | [],_ :: _,x=>x.elim
 | _ :: _,[],x=>x.elim
theorem YR.get {g:KT->KT} {h:Heap}:∀ {ts:List KT} {vs:List Value},YR g h ts vs->∀ i,i<vs.length->Uz g h (ts.getD i (.int 0)) (vs.getD i Value.none)
 | _ :: _,_ :: _,x,0,_=>x.1
 | _ :: _,_ :: _,x,i+1,hi=>x.2.get i (by simpa using hi)
 | [],[],_,_,hi=>absurd hi (by simp)
 | [],_ :: _,x,_,_=>x.elim
 | _ :: _,[],x,_,_=>x.elim
theorem YR.firsts {g:KT->KT} (hg:Kg g) {h:Heap}:∀ {ts:List KT} {vs:List Value},YR g h ts vs->∃ fs,PySem.W.KatTups h vs fs/\fs.length=vs.length/\∀ v∈fs,∃ k t,v=Value.int k t
 | [],[],_=>⟨[],.nil,rfl,fun v hv=>absurd hv (by simp)⟩
 | t :: ts,v :: vs,x=>by
  obtain ⟨fs,h1,h2,h3⟩:=YR.firsts hg x.2
  obtain ⟨_,sh⟩:=hg.shape
  obtain ⟨k,r,ea,_⟩:=sh t
  have x1:=x.1
  unfold Uz at x1
  rw [ea,ZL] at x1
  obtain ⟨a,its,rfl,⟨o,ho,hc,n,hd⟩,kx⟩:=x1
  rw [KVals] at kx
  obtain ⟨v1,r1,rfl,k1,kx⟩:=kx
  rw [ZL] at k1
  obtain ⟨tk,rfl⟩:=k1
  refine ⟨.int k tk :: fs,.cons ho hc hd rfl h1,by simp [h2],fun v hv=>?_⟩
  rcases zAd.mp hv with rfl | hv
  ·exact ⟨k,tk,rfl⟩
  ·exact h3 v hv
 | [],_ :: _,x=>x.elim
 | _ :: _,[],x=>x.elim
section
variable {prog:Program} {w:World} {A:Around} {E:Value->Shared->Prop} {s:Shared} {g:KT->KT}
theorem Cz (hg:Kg g) {ts:List KT} {ks:List Value} {Q:PyProof.Rows.SortKind->Shared->Prop} (hl:0<ks.length) (h:YR g s.heap ts ks) (hq:Q (tuples' true) s):wpAny (model prog w) A (keyKind' ks.toArray) Q E s:=by
 obtain ⟨fs,h1,h2,h3⟩:=h.firsts hg
 refine PySem.W.kat_kind (T:=.type "int") h1 (by omega) (fun v hv=>?_) (by decide) hq
 obtain ⟨k,t,rfl⟩:=h3 v hv
 exact zAx.of_pure rfl
theorem ET (hg:Kg g) {ts:List KT} {ks vs:List Value} {Q:SortSt->Shared->Prop} (hl:ks.length=vs.length) (h2:2<=vs.length) (h64:vs.length<64) (h:YR g s.heap ts ks) (hu:∀ t∈ts,A.units+(g t).depth<cLine)
  (hq:∀ (p:Array Nat) (st':SortSt),Srt.PB vs.length p->(∀ i j,i<=j->j<vs.length->(ts.getD (p.getD j 0) (.int 0)).lt (ts.getD (p.getD i 0) (.int 0))=false)->arrOf st'=p.map (PySem.W.kas_item (ks.toArray.zip vs.toArray))->failedOf st'=none->Q st' s) :
  wpAny (model prog w) A ((sortRuns').run (SortSt.mk' (tuples' true) (ks.toArray.zip vs.toArray) #[] 7 none)) (fun r s'=>Q r.2 s') E s:=by
 have hln:=h.len
 refine PySem.W.kat_run (G:=fun p s'=>s'=s/\Srt.PB vs.length p/\∀ i j,i<=j->j<vs.length->(ts.getD (p.getD j 0) (.int 0)).lt (ts.getD (p.getD i 0) (.int 0))=false) hl h2 h64 (fun p st' s' a1 a2 a3 a4=>?_) ?_
 ·obtain ⟨rfl,b1,b2⟩:=a4
  exact hq p st' b1 b2 a2 a3
 ·refine Srt.sort_ok (lt:=fun i j=>(ts.getD i (.int 0)).lt (ts.getD j (.int 0))) ⟨fun i j=>QM _ _,fun i j k=>le_trans'⟩ (fun i j hi hj C hC=>?_) (by omega) fun p b1 b2=>⟨rfl,b1,fun i j hij hj=>b2 i j hij hj⟩
  unfold PySem.W.kas_ask
  refine Hi hg (h.get i (by omega)) (h.get j (by omega)) (hu _ ?_) hC
  have hi':i<ts.length:=by omega
  rw [zAB,zAE hi']
  exact zA9 _
end
def U0 (g:KT->KT):Sp:=fun vs H Q _=>∃ (v:V) (t:KT),vs=[v]/\ZD H t v/\t.fits 3=true/\∀ (v':V) (H':Hp),ZD H' (g t) v'->ZA H H'->Q v' H'
theorem Jd {g:KT->KT} {X:Cx} {pins:List (Addr×Obj)} {σ:L2.St} {H:Hp} {s:Shared} (I:ZF X pins σ H s):∀ {ts:List KT} {kvs:List V} {ks:List Value},KeysAt H (ts.map g) kvs->ZN kvs ks->YR g s.heap ts ks
 | [],kvs,ks,h,r=>by
  rw [zB8,KeysAt] at h
  subst h
  cases r
  trivial
 | t :: ts,kvs,ks,h,r=>by
  rw [zAr,KeysAt] at h
  obtain ⟨v,kr,rfl,h1,h2⟩:=h
  cases r with
  | cons ra rb=>exact ⟨Wo I _ _ _ h1 ra,Jd I h2 rb⟩
section
variable {X:Cx} {pins:List (Addr×Obj)} {σ:L2.St}
theorem IC {H:Hp} {s:Shared} {b:Addr} (I:ZF X pins σ H s) (h:s.heap.objs.size<=b):b∉frs X.stack:=fun z=>by
 obtain ⟨_,o,e,_⟩:=I.stack.mem z
 exact absurd (zAS e) (Nat.not_lt.mpr h)
theorem JN {g:KT->KT} {x0:Str} {k:Nat} {f D kS:Addr} {fd:FuncData} {oD:Obj} {H0:Hp} {A:Around} {E:Value->Shared->Prop} {body:Value->PUnit->Sem (ForInStep PUnit)} {all:List KT}
  (F:ZK X.prog X.w X.K X.mg X.base ZV k f fd [x0] (U0 g)) (hb:Zq X.K fd [x0] []) (hr:ZZ k A) (hA:A.frames=X.A.frames) (nD:D∉frs X.stack) (nS:kS∉frs X.stack) (hDS:D≠kS) (hD0:H0 D=none)
  (hbody:∀ x (s:Shared) (R:Shared->Prop),wpAny (model X.prog X.w) A (call (.ref f) [x]) (fun kv s'=>∃ (ks:List Value) (e:Nat),ks.length<64/\s'.heap.get? kS=some (seqObj "list" ks.toArray e)/\R { s' with heap:=s'.heap.update kS (Obj.mapSeq (·.push kv)) }) (fun _ _=>False) s ->
   wpAny (model X.prog X.w) A (body x ⟨⟩) (fun r s'=>r=.yield ⟨⟩/\R s') E s) :
  ∀ (r:List Value) (rU:List V) (rT dT:List KT) (H:Hp) (s:Shared) (ks:List Value) (kvs:List V) (e:Nat),all=dT++rT->all.length<64->ZF X pins σ H s->ZA H0 H->Xf X pins H kS->H D=none->ZN rU r->KeysAt H rT rU->(∀ t∈rT,t.fits 3=true) ->
   s.heap.get? D=some oD->s.heap.get? kS=some (seqObj "list" ks.toArray e)->KeysAt H (dT.map g) kvs->ZN kvs ks ->
   wpAny (model X.prog X.w) A (forIn r PUnit.unit body) (fun _ s'=>∃ (H':Hp) (ks':List Value) (kvs':List V) (e':Nat),ZF X pins σ H' s'/\ZA H0 H'/\Xf X pins H' kS/\H' D=none/\s'.heap.get? D=some oD/\s'.heap.get? kS=some (seqObj "list" ks'.toArray e')/\KeysAt H' (all.map g) kvs'/\ZN kvs' ks') E s
 | [],rU,rT,dT,H,s,ks,kvs,e,ha,hl,I,s0,fp,hD,r,hk,hf,oo,os,hks,rk=>by
  cases r
  have er:rT=[]:=by
   cases rT with
   | nil=>rfl
   | cons t l=>rw [KeysAt] at hk;obtain ⟨_,_,h,_⟩:=hk;cases h
  subst er
  rw [zAz] at ha
  subst ha
  rw [List.forIn_nil]
  exact wpAny_pure ⟨H,ks,kvs,e,I,s0,fp,hD,oo,os,hks,rk⟩
 | x :: r,rU,rT,dT,H,s,ks,kvs,e,ha,hl,I,s0,fp,hD,rr,hk,hf,oo,os,hks,rk=>by
  cases rr with
  | cons ra rb=>
  rename_i u ur
  cases rT with
  | nil=>rw [KeysAt] at hk;cases hk
  | cons t rT=>
  rw [KeysAt] at hk
  obtain ⟨v,vr,ev,hk1,hk2⟩:=hk
  cases ev
  rw [zCy]
  have hlen:ks.length=dT.length:=by
   have a:=hks.length
   have b:=rk.length
   rw [zAD] at a
   omega
  have hlall:dT.length+(rT.length+1)<64:=by rw [ha,zAL,zAX] at hl;omega
  refine wpAny_bind (Zb (hbody x s (fun s'=>∃ (H':Hp) (ks':List Value) (kvs':List V) (e':Nat),ZF X pins σ H' s'/\ZA H0 H'/\ZA H H'/\Xf X pins H' kS/\H' D=none/\s'.heap.get? D=some oD/\s'.heap.get? kS=some (seqObj "list" ks'.toArray e')/\KeysAt H' ((dT++[t]).map g) kvs'/\ZN kvs' ks') ?_) fun q s' hq=>?_)
  ·have env:Xv X.prog X.w X.K X.mg X.base A X.stack s H:=⟨by rw [hA];exact I.ok.frames,I.env0.mod,I.env0.bs,I.env0.bsz,I.env0.funs,I.env0.frf,I.env0.hok,I.env0.bare⟩
   have hsp:U0 g [u] H (fun v' H'=>ZD H' (g t) v'/\ZA H H') E0:=⟨u,t,rfl,hk1,hf t zAR,fun v' H' a b=>⟨a,b⟩⟩
   have r2:ZN [u] [x]:=.cons ra .nil
   refine wpAny_call (codeAny_mono (F.run A X.stack s H ⟨[x],[]⟩ [x] [u] _ E0 hr env (hb s [x] I.kIn rfl) r2 hsp) fun rr s' hq=>?_)
   cases rr with
   | error ev=>exact hq.elim
   | ok fl=>
    cases fl with
    | next=>exact False.elim hq
    | brk=>exact False.elim hq
    | cont=>exact False.elim hq
    | ret kv=>
     obtain ⟨v',H',os',bare,un,hok,rv,kt,sm⟩:=hq
     have J:ZF X pins σ H' s':=I.call' os' un hok bare (fun b hb=>absurd hb (by simp))
     have oo':=un.keep D oD oo hD nD (by simp)
     have oS':=un.keep kS _ os fp.1 nS (by simp)
     have hS':H' kS=none:=un.free kS _ os fp.1 (by simp)
     have hD':H' D=none:=un.free D _ oo hD (by simp)
     refine ⟨ks,e,by omega,oS',?_⟩
     have fp':Xf X pins H' kS:=⟨hS',fp.2⟩
     have ea:(zBC ks).push kv=zBC (ks++[kv]):=by simp
     obtain ⟨c2,hc2⟩:∃ c2,(s'.heap.update kS (Obj.mapSeq (·.push kv))).get? kS=some (seqObj "list" (zBC (ks++[kv])) c2):=⟨_,by rw [<-ea];exact get?_update_seq oS' (·.push kv)⟩
     have sb:=zBE.update s'.heap kS (Obj.mapSeq (·.push kv))
     have J2:ZF X pins σ H' { s' with heap:=s'.heap.update kS (Obj.mapSeq (·.push kv)) }:=J.turned (t':=s'.toks) (it:=kS) (fun b o n q=>(sb.2 b n).trans q) fp'.1 fp'.2.1 fp'.2.2.2.1 fp'.2.2.2.2.1 fp'.2.2.2.2.2
     refine ⟨H',ks++[kv],kvs++[v'],c2,J2,s0.trans sm,sm,fp',hD',(sb.2 D hDS).trans oo',hc2,?_,rk.append (.cons rv .nil)⟩
     rw [zAZ]
     exact (hks.mono (ZA.tups sm) _ _).append (.cons kt .nil)
  ·obtain ⟨rfl,H',ks',kvs',e',J,s0',sm,fp',hD',oo',os',hks',rk'⟩:=hq
   show wpAny (model X.prog X.w) A (forIn r PUnit.unit body) _ E s'
   exact JN F hb hr hA nD nS hDS hD0 hbody r _ rT (dT++[t]) H' s' ks' kvs' e' (by rw [ha];simp) hl J s0' fp' hD' rb (hk2.mono (ZA.tups sm) _ _) (fun z hz=>hf z (zAP _ hz)) oo' os' hks' rk'
end
section
variable {X:Cx} {pins:List (Addr×Obj)} {σ:L2.St} {H:Hp} {s:Shared}
theorem F7 {a:Addr} {o:HO} (I:ZF X pins σ H s) (h0:X.s₀.heap.get? a=none) (hl:a≠X.env.locals) (hc:∀ x c,X.env.cells.lookup x=some c->c≠a) (hp:∀ p∈X.pn++pins,p.1≠a) (hn:H a=none)
  (new:Ze X.prog X.w (upd H a o) s.heap a o):ZF X pins σ (upd H a o) s:=by
 have nt:∀ {b:Addr} {u:HO},H b=some u->b≠a:=fun {b u} e z=>by rw [z,hn] at e;cases e
 refine ⟨I.ok,I.os,I.bare,⟨I.base.keep,I.base.slot,fun b ob q n hx=>?_,I.base.there,fun b xs q=>?_,fun b ob u q=>?_,fun b ps q=>?_⟩,I.loc,I.cell,?_,fun x c e=>?_,fun p hp'=>?_,fun b u e=>?_,I.len⟩
 ·rw [ZT (fun z=>by rw [z,h0] at q;cases q)];exact I.base.free b ob q n hx
 ·have e:=I.base.tups b xs q
  rw [ZT (nt e)];exact e
 ·have e:=I.base.frzs b ob u q
  rw [ZT (nt e)];exact e
 ·obtain ⟨more,e⟩:=I.base.tbls b ps q
  exact ⟨more,by rw [ZT (nt e)];exact e⟩
 ·rw [ZT (Ne.symm hl)];exact I.free
 ·rw [ZT (hc x c e)];exact I.freeC x c e
 ·obtain ⟨e,n,r⟩:=I.pin p hp'
  exact ⟨e,by rw [ZT (hp p hp')];exact n,r⟩
 ·by_cases hb:b=a
  ·subst hb
   rw [ZP] at e
   cases e
   exact new
  ·rw [ZT hb] at e
   exact (I.hok b u e).stay (fun _ _ _ q=>q) (fun c q=>by rw [ZT (nt q)];exact q) fun c xs q=>by rw [ZT (nt q)];exact q
theorem ZN.getD {us:List V} {its:List Value} (r:ZN us its) {i:Nat} (h:i<us.length):ZQ (us.getD i .non) (its.getD i Value.none):=by
 have hl:=r.length
 obtain ⟨u,e1,e2⟩:=r.get (i:=i) (x:=us[i]) (by simp [h])
 rw [zAB,zAB,e1,zAE h]
 exact e2
theorem LW {us:List V} {its:List Value} (r:ZN us its):∀ (l:List Nat),(∀ i∈l,i<us.length)->ZN (l.map fun i=>us.getD i .non) (l.map fun i=>its.getD i Value.none)
 | [],_=>.nil
 | i :: l,h=>.cons (ZN.getD r (h i zAR)) (LW r l fun j hj=>h j (zAP _ hj))
theorem LS {ts:List KT} {us:List V} (hk:KeysAt H ts us):∀ (l:List Nat),(∀ i∈l,i<us.length)->KeysAt H (l.map fun i=>ts.getD i (.int 0)) (l.map fun i=>us.getD i .non)
 | [],_=>.nil
 | i :: l,h=>by
  have hi:=h i zAR
  obtain ⟨t,et,kt⟩:=hk.get (i:=i) (v:=us[i]) (by simp [hi])
  refine .cons (show ZD H (ts.getD i (.int 0)) (us.getD i .non) from ?_) (LS hk l fun j hj=>h j (zAP _ hj))
  rw [zAB,zAB,et,zAE hi]
  exact kt
theorem range_getD {α:Type} (l:List α) (d:α):(zAi l.length).map (fun i=>l.getD i d)=l:=by
 apply zCn
 ·simp
 ·intro i h1 h2
  simp [h2]
theorem Fe {g:KT->KT} (hg:Kg g) (dg:∀ t,(g t).depth<=2 * t.depth+2) {x0:Str} {k:Nat} {f:Addr} {lv:Value} {fd:FuncData} {us:List V} {ts:List KT} {Q:VK} (hr:ZZ (k+2) X.A) (F:ZK X.prog X.w X.K X.mg X.base ZV k f fd [x0] (U0 g)) (hb:Zq X.K fd [x0] []) (I0:ZF X pins σ H s) (hk:KeysAt H ts us) (hf:∀ t∈ts,t.fits 3=true) (h64:us.length<64)
  (hcol:∀ (Q':List Value->Shared->Prop),(∀ (s1:Shared) (its:List Value),ZF X pins σ H s1->ZN us its->Q' its s1)->wpAny (model X.prog X.w) X.A.in1 (collect lv) Q' X.xe s)
  (q:∀ (D:Addr) (ws:List V) (rs:List KT) (H':Hp),ZA H H'->H D=none->H' D=some (.lst ws)->KeysAt H' rs ws->rs.Perm ts->rs.Pairwise (fun a b=>b.lt a=false)->Q (.ref D) H') :
  wpAny (model X.prog X.w) X.A (call (.builtin "sorted") [lv] [(zAy "key",.ref f)]) (EP X pins σ Q) X.xe s:=by
 have hkl:=hk.length
 have hr6:ZZ k X.A.in1.in1:=(ZZ.in1 (k:=k+1) hr).in1
 refine call_function_entry_kw kind_sorted plain_sorted entry_sorted (ksk_s1 _ _) ?_
 unfold Builtin.«sorted»
 refine wpAny_bind (m:=checkCount "sorted" 1 1 _) (wpAny_pure ?_)
 refine wpAny_bind (hcol _ fun s its I rv=>?_)
 have hlen:=rv.length
 refine wpAny_bind (wpAny_newList ?_ (by rw [sizeLine_eq];omega))
 obtain ⟨h1,eh1⟩:∃ h1,s.heap.push (seqObj "list" its.toArray 0)=h1:=⟨_,rfl⟩
 have hoL:h1.get? s.heap.objs.size=some (seqObj "list" its.toArray 0):=by rw [<-eh1];exact zAT _ rfl
 have keep:∀ b o,s.heap.get? b=some o->h1.get? b=some o:=fun b o z=>by rw [<-eh1];exact zAG _ z
 have hs1:h1.objs.size=s.heap.objs.size+1:=by rw [<-eh1,size_push']
 obtain ⟨D,eD⟩:∃ D,s.heap.objs.size=D:=⟨_,rfl⟩
 rw [eD] at hoL
 have hDs:s.heap.objs.size<=D:=by omega
 have hHD:H D=none:=I.hok.fresh hDs
 have fD:Xf X pins H D:=I.fpOk hDs hHD
 have nD:D∉frs X.stack:=IC I hDs
 have h0D:X.s₀.heap.get? D=none:=zBf (zA7 I.sz hDs)
 have I1:ZF X pins σ H { s with heap:=h1 }:=I.kept (t':=s.toks) keep
 show wpAny _ _ _ _ _ { s with heap:=s.heap.push (seqObj "list" its.toArray 0) }
 rw [eh1,eD]
 refine wpAny_bind (wpAny_holding (wpAny_call_entry_kw slot_list_sort ⟨_,hoL,rfl⟩ entry_list_sort ?body (ksk_l1 _ _)))
 rw [ksk_t1]
 unfold ksk_tree
 refine wpAny_bind (listItems_at hoL rfl ?_)
 refine wpAny_bind (listUpdate_at hoL rfl ?_ (by rw [zAI,sizeLine_eq];omega) (zAe _))
 have sb1:=zBE.update h1 D (Obj.mapSeq fun _=>(#[]:Array Value))
 obtain ⟨e1,ho1⟩:∃ e1,(h1.update D (Obj.mapSeq fun _=>(#[]:Array Value))).get? D=some (seqObj "list" #[] e1):=⟨_,get?_update_seq hoL fun _=>#[]⟩
 obtain ⟨h2,eh2⟩:∃ h2,h1.update D (Obj.mapSeq fun _=>(#[]:Array Value))=h2:=⟨_,rfl⟩
 rw [eh2] at ho1 sb1
 show wpAny _ _ _ _ _ { s with heap:=h1.update D (Obj.mapSeq fun _=>(#[]:Array Value)) }
 rw [eh2]
 have I2:ZF X pins σ H { s with heap:=h2 }:=ZF.turned (s:={ s with heap:=h1 }) (t':=s.toks) (it:=D) I1 (fun b o n z=>(sb1.2 b n).trans z) fD.1 fD.2.1 fD.2.2.2.1 fD.2.2.2.2.1 fD.2.2.2.2.2
 refine wpAny_bind (seqEpoch_at ho1 rfl ?_)
 refine wpAny_bind (wpAny_newTuple ?_ (by show its.length<=_;rw [sizeLine_eq];omega))
 refine wpAny_bind (wpAny_newList ?_ (zAe _))
 refine wpAny_holding ?_
 have hs2:h2.objs.size=s.heap.objs.size+1:=by rw [<-eh2,Heap.size_update,hs1]
 obtain ⟨h3,eh3⟩:∃ h3,(h2.push (seqObj "tuple" its.toArray 0)).push (seqObj "list" #[] 0)=h3:=⟨_,rfl⟩
 have ekS:(h2.push (seqObj "tuple" its.toArray 0)).objs.size=s.heap.objs.size+2:=by rw [size_push',hs2]
 have keep3:∀ b o,h2.get? b=some o->h3.get? b=some o:=fun b o z=>by rw [<-eh3];exact zAG _ (zAG _ z)
 have hoS:h3.get? (s.heap.objs.size+2)=some (seqObj "list" (zBC []) 0):=by rw [<-eh3,<-ekS];exact zAT _ rfl
 obtain ⟨kS,ekS2⟩:∃ kS,s.heap.objs.size+2=kS:=⟨_,rfl⟩
 rw [ekS2] at hoS ekS
 have hSs:s.heap.objs.size<=kS:=by omega
 have hDk0:D≠kS:=by omega
 have hHS:H kS=none:=I.hok.fresh hSs
 have fS:Xf X pins H kS:=I.fpOk hSs hHS
 have nS:kS∉frs X.stack:=IC I hSs
 have I3:ZF X pins σ H { s with heap:=h3 }:=I2.kept (t':=s.toks) keep3
 show wpAny _ _ (ksk_rest D (.ref f) false its.toArray e1 (.ref (h2.push (seqObj "tuple" its.toArray 0)).objs.size)) _ _ { s with heap:=(h2.push (seqObj "tuple" its.toArray 0)).push (seqObj "list" #[] 0) }
 rw [eh3,ekS]
 have fin:∀ (H':Hp) (s':Shared) (ks:List Value) (kvs:List V) (e:Nat),ZF X pins σ H' s'->ZA H H'->Xf X pins H' kS->H' D=none->s'.heap.get? D=some (seqObj "list" #[] e1)->s'.heap.get? kS=some (seqObj "list" ks.toArray e)->KeysAt H' (ts.map g) kvs->ZN kvs ks ->
   wpAny (model X.prog X.w) X.A.in1.in1 (ksk_end D false its.toArray e1 (.ref kS) ks.toArray) (fun fin s'=>∃ v,fin=.done (.ret v)/\wpAny (model X.prog X.w) X.A.in1 (ret (.ref D)) (fun fin s'=>∃ v,fin=.done (.ret v)/\EP X pins σ Q v s') X.xe s') X.xe s':=by
  intro H' s' ks kvs e J sm fp hD' oo os hks rk
  have hkl2:ks.length=its.length:=by
   have a:=hks.length
   have b:=rk.length
   rw [zAD] at a
   omega
  have sv:YR g s'.heap ts ks:=Jd J hks rk
  have tail:∀ (st:SortSt) (p:Array Nat),Srt.PB its.length p->(∀ i j,i<=j->j<its.length->(ts.getD (p.getD j 0) (.int 0)).lt (ts.getD (p.getD i 0) (.int 0))=false)->(arrOf st).map (·.2)=zBC (p.toList.map fun i=>its.getD i Value.none)->failedOf st=none ->
    wpAny (model X.prog X.w) X.A.in1.in1 (ksk_tail D false e1 (.ref kS) st) (fun fin s'=>∃ v,fin=.done (.ret v)/\wpAny (model X.prog X.w) X.A.in1 (ret (.ref D)) (fun fin s'=>∃ v,fin=.done (.ret v)/\EP X pins σ Q v s') X.xe s') X.xe s':=by
   intro st p hp hs hout hfail
   have hps:=hp.size
   have hmem:∀ i∈p.toList,i<us.length:=fun i hi=>by
    have:i∈(zBC (zAi its.length)):=hp.mem_iff.mp (zDL.mp hi)
    have:=(zA2.mp (by simpa using this):i<its.length)
    omega
   have hpl:p.toList.length=its.length:=by rw [zB1,hps]
   have s1:=zBE.update s'.heap kS (Obj.mapSeq fun _=>(#[]:Array Value))
   have hDk:D≠kS:=by omega
   have oD1:=(s1.2 D hDk).trans oo
   have s2:=zBE.update (s'.heap.update kS (Obj.mapSeq fun _=>(#[]:Array Value))) D (Obj.mapSeq fun _=>zBC (p.toList.map fun i=>its.getD i Value.none))
   obtain ⟨c2,hc2⟩:∃ c2,((s'.heap.update kS (Obj.mapSeq fun _=>(#[]:Array Value))).update D (Obj.mapSeq fun _=>zBC (p.toList.map fun i=>its.getD i Value.none))).get? D=some (seqObj "list" (zBC (p.toList.map fun i=>its.getD i Value.none)) c2):=⟨_,get?_update_seq oD1 fun _=>zBC (p.toList.map fun i=>its.getD i Value.none)⟩
   unfold ksk_tail
   dsimp only
   rw [hout,if_neg zAF]
   refine wpAny_bind (listUpdate_at os rfl ?_ (by rw [zAI,sizeLine_eq];omega) (zAe _))
   refine wpAny_bind (wpAny_letGo ?_)
   refine wpAny_bind (seqEpoch_at oD1 rfl ?_)
   refine wpAny_bind (listUpdate_at oD1 rfl ?_ (zAe _) (by rw [zAI,zAD,hpl,sizeLine_eq];omega))
   rw [hfail]
   simp only [bne_self_eq_false,zA6,if_false]
   have J1:ZF X pins σ H' { s' with heap:=s'.heap.update kS (Obj.mapSeq fun _=>(#[]:Array Value)) }:=J.turned (t':=s'.toks) (it:=kS) (fun b o n z=>(s1.2 b n).trans z) fp.1 fp.2.1 fp.2.2.2.1 fp.2.2.2.2.1 fp.2.2.2.2.2
   have J2:ZF X pins σ H' { s' with heap:=(s'.heap.update kS (Obj.mapSeq fun _=>(#[]:Array Value))).update D (Obj.mapSeq fun _=>zBC (p.toList.map fun i=>its.getD i Value.none)) }:=ZF.turned (s:={ s' with heap:=s'.heap.update kS (Obj.mapSeq fun _=>(#[]:Array Value)) }) (t':=s'.toks) (it:=D) J1 (fun b o n z=>(s2.2 b n).trans z) hD' fD.2.1 fD.2.2.2.1 fD.2.2.2.2.1 fD.2.2.2.2.2
   have J3:=F7 (a:=D) (o:=.lst (p.toList.map fun i=>us.getD i .non)) J2 h0D fD.2.1 fD.2.2.2.2.1 fD.2.2.2.2.2 hD' ⟨by rw [zAD,hpl,sizeLine_eq];omega,_,c2,LW rv _ hmem,hc2⟩
   have g:=Za hD' (.lst (p.toList.map fun i=>us.getD i .non))
   refine wpAny_pure ⟨.none,rfl,wpAny_pure ⟨_,rfl,.ref D,_,J3,rfl,q D _ (p.toList.map fun i=>ts.getD i (.int 0)) _ (sm.trans g) hHD ZP (LS (hk.mono (ZA.tups (sm.trans g)) _ _) _ hmem) ?_ ?_⟩⟩
   ·have hpp:p.toList.Perm (zAi its.length):=by simpa using Array.perm_iff_toList_perm.mp hp
    have:=hpp.map (fun i=>ts.getD i (KT.int 0))
    rw [show its.length=ts.length by omega,range_getD] at this
    exact this
   ·rw [zC5]
    intro i j hi hj hij
    rw [zAD,hpl] at hi hj
    simp only [zCm]
    have:=hs i j (zBb hij) hj
    have e (x:Nat) (hx:x<its.length):p.getD x 0=p.toList[x]'(by omega):=by simp [Array.getD,hps,hx]
    rw [e i hi,e j hj] at this
    exact this
  unfold ksk_end
  dsimp only
  rw [if_neg zAF,if_neg zAF]
  by_cases h2:its.length<2
  ·rw [if_pos (by rw [zAI];exact h2),if_pos (by rw [zAI];exact h2)]
   refine wpAny_bind (wpAny_pure (wpAny_bind (wpAny_pure ?_)))
   refine tail _ (zBC (zAi its.length)) (Array.Perm.refl _) (fun i j hij hj=>?_) ?_ rfl
   ·have:i=j:=by omega
    rw [this];exact UW _
   ·show ((ks.toArray.zip its.toArray).map (·.2))=_
    apply Array.toList_inj.mp
    rw [Array.toList_map,ksk_zip]
    simp only [List.toList_toArray]
    rw [range_getD,List.map_snd_zip (by omega)]
  ·rw [if_neg (by rw [zAI];exact h2),if_neg (by rw [zAI];exact h2)]
   refine wpAny_bind (Cz hg (by omega) sv ?_)
   refine wpAny_bind (Zb (ET hg (Q:=fun st' s''=>s''=s'/\∃ p:Array Nat,Srt.PB its.length p/\(∀ i j,i<=j->j<its.length->(ts.getD (p.getD j 0) (.int 0)).lt (ts.getD (p.getD i 0) (.int 0))=false)/\arrOf st'=p.map (PySem.W.kas_item (ks.toArray.zip its.toArray))/\failedOf st'=none)
    hkl2 (by omega) (by omega) sv (fun t ht=>?_) fun p st' b1 b2 b3 b4=>⟨rfl,p,b1,b2,b3,b4⟩) fun r s'' hr'=>?_)
   ·have a:=hr6.un
    have d1:=dg t
    have d2:=Wd t 3 (hf t ht)
    omega
   ·obtain ⟨⟨⟩,st'⟩:=r
    obtain ⟨rfl,p,b1,b2,b3,b4⟩:=hr'
    exact tail st' p b1 b2 (PySem.W.kat_snds hkl2 b3) b4
 unfold ksk_rest
 refine wpAny_bind (wpAny_rule ?_)
 first
  | rw [List.forIn_toArray]
  | (rw [<-zCa];simp only [List.toList_toArray])
 refine wpAny_bind (Zb (JN (all:=ts) (H0:=H) (D:=D) (kS:=kS) F hb hr6 rfl nD nS hDk0 hHD (fun x s4 R hx=>?_) its us ts [] H { s with heap:=h3 } [] [] 0 rfl (by omega) I3 (ZA.refl H) fS hHD rv hk hf (keep3 _ _ ho1) hoS .nil .nil) fun _ s4 h4=>?_)
 ·refine wpAny_bind (wpAny_attempt (wpAny_mono hx (fun kv s5 h5=>?_) fun _ _ z=>z.elim))
  obtain ⟨ks,e,l64,o5,R5⟩:=h5
  try dsimp only
  refine wpAny_bind (listUpdate_at o5 rfl ?_ (by rw [zAI,sizeLine_eq];omega) (zA7 (Nat.le_of_eq (Array.size_push ..)) (by rw [zAI,sizeLine_eq];omega)))
  exact wpAny_pure ⟨rfl,R5⟩
 ·obtain ⟨H',ks,kvs,e,J,sm,fp,hD',oo,os,hks,rk⟩:=h4
  try dsimp only
  exact wpAny_bind (listItems_at os rfl (fin H' s4 ks kvs e J sm fp hD' oo os hks rk))
end
end Tw
namespace L2
open PySem PySem.Spec PyProof.Rows
section
variable {prog:Program} {w:World} {A:Around} {E:Value->Shared->Prop} {s:Shared} {T:String} {r d:Addr} {n:Nat} {P:Nat->Value->Prop} {OK:Heap->Prop}
theorem Gq {R:Result->Shared->Prop} (K:zCp prog w T r d n P OK) (hh:A.handled=none) (hok:OK s.heap) (S:Addr) (hSr:S≠r) (hSd:S≠d) (c₀:Nat) (hS:s.heap.get? S=some { cls:=.type "list",data:=.seq #[] c₀ })
  (hR:∀ h' tk acc' c',(∀ b o,b≠S->s.heap.get? b=some o->h'.get? b=some o)->h'.get? S=some { cls:=.type "list",dict:=none,data:=.seq acc' c',slots:=#[] }->ItemsOf P acc' n->R (.ok (.ret (.ref S))) { s with heap:=h',toks:=tk }) (hn:n<=sizeLine) :
  codeAny (model prog w) A (.builtin "list.__iadd__" ⟨[.ref S,.ref r],[]⟩) R s:=by
 refine codeAny_builtin PySem.F.entry_list_iadd ?_
 rw [Around.under_plainId zC0 _]
 exact PySem.W.kdl_extend (R:=R) K hh hok S hSr hSd (.ref S) c₀ hS hR hn
theorem Dg {Q:List Value->Shared->Prop} (K:zCp prog w T r d n P OK) (hh:A.handled=none) (hok:OK s.heap) (hn:n<=sizeLine)
  (hQ:∀ h' tk acc,(∀ b o,s.heap.get? b=some o->h'.get? b=some o)->s.heap.objs.size<h'.objs.size->ItemsOf P acc n->Q acc.toList { s with heap:=h',toks:=tk }):wpAny (model prog w) A (collect (.ref r)) Q E s:=by
 have hlt:=K.there _ hok
 unfold collect
 refine wpAny_bind (wpAny_runValue (codeAny_builtin PySem.F.entry_proto_collect ?_))
 rw [Around.under_plainId PySem.F.plain_proto_collect _]
 show wpAny _ A.in1 (newList [] >>= fun l=>again (.builtin "list.__iadd__" ⟨[l,.ref r],[]⟩)) _ _ s
 refine wpAny_bind (wpAny_newObj_type ?_)
 have hS:(s.heap.push { cls:=.type "list",data:=.seq ([]:List Value).toArray }).get? s.heap.objs.size=some { cls:=.type "list",data:=.seq #[] 0 }:=zAT _ rfl
 refine wpAny_pure ⟨plainId_quiet zC0 _,Gq (s:={ s with heap:=s.heap.push { cls:=.type "list",data:=.seq ([]:List Value).toArray } }) K hh (K.keep _ _ hok fun b _ o e=>zAG _ e) s.heap.objs.size (zCT hlt.1) (zCT hlt.2) _ hS (fun h' tk acc' c' hk hS' hacc=>?_) hn⟩
 show wpAny _ A (load s.heap.objs.size >>= _) _ _ _
 refine wpAny_bind (wpAny_load hS' ?_)
 exact wpAny_pure (hQ h' tk acc' (fun b o e=>hk b o (zAk (zAS e)) (zAG _ e)) (zAS hS') hacc)
end
section
variable {X:Cx}
end
end L2
namespace Tw
open PySem PySem.Spec L2 PyProof.Rows
def Xk (d:Addr) (es:Array DictEntry) (ep:Nat) (h:Heap):Prop:=∃ o,h.get? d=some o/\o.ExactDict/\o.data=.dict es ep
section
variable {prog:Program} {w:World} {A:Around} {E:Value->Shared->Prop} {s:Shared} {d:Addr} {es:Array DictEntry} {ep:Nat}
theorem Xk.type (x:Xk d es ep s.heap):s.TypeIs (.ref d) "dict" :=let ⟨o,g,hx,_⟩:=x;⟨o,g,hx.1⟩
theorem Xk.at {h h':Heap} (x:Xk d es ep h) (k:∀ o,h.get? d=some o->h'.get? d=some o):Xk d es ep h':=let ⟨o,g,r⟩:=x;⟨o,k o g,r⟩
theorem Dr {Q:Value->Shared->Prop} (hd:(d==sysModules)=false) (x:Xk d es ep s.heap) (hQ:Q (.ref s.heap.objs.size) { s with heap:=s.heap.push { cls:=.type "dict_keyiterator",data:=.fields #[.ref d,.int 0 0,.int es.size 0,.int ep 0] } }) :
  wpAny (model prog w) A (pyIter (.ref d)) Q E s:=by
 have hT:=x.type
 obtain ⟨o,ho,hx,hdat⟩:=x
 refine wpAny_pyIter_slot hT zC2 (wpAny_call_entry zC2 hT PySem.F.entry_dict_iter ?_ (PySem.F.args_dict_iter_1 _))
 unfold Builtin.«dict.__iter__»
 refine wpAny_bind ?_
 unfold Builtin.Dict.dictSlotNone
 refine wpAny_bind (wpAny_notOrdered_dict hT (wpAny_pure ?_))
 show wpAny _ _ (Builtin.Dict.showsAll d >>= _) _ _ s
 unfold Builtin.Dict.showsAll
 rw [if_neg (by rw [hd];exact zAF)]
 refine wpAny_bind (wpAny_pure (wpAny_bind (wpAny_dictEntries ho hdat (wpAny_bind (wpAny_dictEpoch ho hdat ?_)))))
 exact wpAny_bind (wpAny_newObj_type (wpAny_pure ⟨_,rfl,"dict_keyiterator",_,⟨_,zAT _ rfl,rfl⟩,zBi.lookup,hQ⟩))
theorem JE {it:Addr} {i:Nat} {Q:Option Value->Shared->Prop} (hh:A.handled=none) (hit:s.heap.IsKeyIter it d i es.size ep) (x:Xk d es ep s.heap)
  (hQ:∀ e h',es[i]? = some e->h'.IsKeyIter it d (i+1) es.size ep->zBE it s.heap h'->Q (some e.key) { s with heap:=h' })
  (hN:∀ h',es[i]? = none->Heap.ExtBut it s.heap h'->Q none { s with heap:=h' }):wpAny (model prog w) A (pyNext (.ref it)) Q E s:=by
 obtain ⟨o,ho,hc,hd⟩:=id hit
 obtain ⟨od,hod,hxd,hdd⟩:=x
 unfold pyNext
 refine wpAny_bind (wpAny_attempt (wpAny_callSpecial?_slot (name:=zAy "__next__") hit.typeIs zBi (wpAny_call_entry zBi hit.typeIs PySem.F.entry_dict_keyiterator_next ?_ (PySem.F.args_dict_keyiterator_next_1 _))))
 refine wpAny_bind (wpAny_pure (wpAny_bind (wpAny_bind ?_)))
 first | refine wpAny_bind (wpAny_typeNameOfWhole_keyiter hit.typeIs (wpAny_pure ?_)) | refine wpAny_bind (wpAny_typeNameOf_keyiter hit.typeIs (wpAny_pure ?_))
 refine wpAny_bind (wpAny_fieldsOf ho hd ?_)
 have hown:Builtin.Dict_items.ownsTuple "dict_keyiterator" = false:=by decide
 simp only [hown,zA6,if_false]
 show wpAny _ _ (if (Value.ref d==Value.none)=true then _ else _) _ _ s
 rw [if_neg (show ¬ ((Value.ref d==Value.none)=true) from zAF)]
 refine wpAny_bind (wpAny_pure (wpAny_bind (wpAny_dictEntries hod hdd ?_)))
 rw [if_neg (by simp)]
 refine wpAny_bind (wpAny_pure (wpAny_bind (wpAny_dictEpoch hod hdd ?_)))
 rw [if_neg (by simp)]
 refine wpAny_pure ?_
 simp only [show ¬ ((i:Int)<0) from by omega,if_false,zBs]
 cases he:es[i]? with
 | some e=>
  refine wpAny_bind ?_
  first | refine wpAny_bind (wpAny_typeNameOfWhole_keyiter hit.typeIs (wpAny_pure ?_)) | refine wpAny_bind (wpAny_typeNameOf_keyiter hit.typeIs (wpAny_pure ?_))
  refine wpAny_bind (wpAny_isOneOf_keyiter hit.typeIs ?_)
  show wpAny _ _ (setField (.ref it) 1 (rawInt ((i:Int)+1)) >>= _) _ _ s
  refine wpAny_bind (wpAny_setField ho hd (by simp) ?_)
  have hit':(s.heap.update it (Obj.mapFields (·.setIfInBounds 1 (rawInt ((i:Int)+1))))).IsKeyIter it d (i+1) es.size ep:=
   ⟨_,zA1 _ ho (Obj.isFreed_of_fields (Obj.data_mapFields hd _)),(Obj.cls_mapFields ..).trans hc,by rw [Obj.data_mapFields hd];simp [rawInt]⟩
  refine wpAny_bind (wpAny_holding (wpAny_bind (wpAny_isOneOf_keyiter (s:={ s with heap:=s.heap.update it (Obj.mapFields (·.setIfInBounds 1 (rawInt ((i:Int)+1)))) }) hit'.typeIs ?_)))
  show wpAny _ _ (pure e.key) _ _ _
  exact wpAny_pure (wpAny_pure ⟨_,rfl,wpAny_pure (hQ e _ he hit' (zBE.update ..))⟩)
 | none=>
  refine wpAny_bind ?_
  first | refine wpAny_bind (wpAny_typeNameOfWhole_keyiter hit.typeIs (wpAny_pure ?_)) | refine wpAny_bind (wpAny_typeNameOf_keyiter hit.typeIs (wpAny_pure ?_))
  show wpAny _ _ (setField (.ref it) 0 .none >>= _) _ _ s
  refine wpAny_bind (wpAny_setField ho hd (by simp) ?_)
  show wpAny _ _ (newExc (.type "StopIteration") [] >>= _) _ _ _
  refine wpAny_bind ?_
  simp only [newExc,newTuple]
  refine wpAny_bind (wpAny_newObj_type ?_ (by size_fits))
  refine wpAny_bind (m:=firstArgMember _ _) (wpAny_of_eq (a:=Value.none) (by first | rfl | (simp only [firstArgMember];rfl)) (wpAny_newObj_type ?_ (by size_fits)))
  simp only [raiseNew]
  refine wpAny_bind (wpAny_handled ?_)
  rw [show A.in1.handled=none from hh]
  refine wpAny_bind (wpAny_pure (wpAny_throw ?_))
  refine wpAny_bind (wpAny_isInstance (T:= "StopIteration") (b:=true) ⟨_,zAT _ rfl,rfl⟩ isSubtype_stop ?_)
  exact wpAny_pure (hN _ he (((zBE.update ..).extBut.push _).push _))
theorem EX (hh:A.handled=none) (I:Addr) (hne:d≠I):Walks prog w A I [I,d] [I] es.size (fun i v=>(es[i]?).map (·.key)=some v) (fun i h=>h.IsKeyIter I d i es.size ep/\Xk d es ep h) where
 sub:=fun b hb=>by simp at hb;simp [hb]
 frame:=fun _ _ _ st hk=>⟨st.1.at fun o e=>hk I (by simp) o e,st.2.at fun o e=>hk d (by simp) o e⟩
 item:=fun i s Q E hi st hQ=>by
  refine JE hh st.1 st.2 (fun e h' he hit' sb=>?_) (fun h' he=>by rw [zAc hi] at he;cases he)
  exact hQ e.key h' s.toks (by rw [he];rfl) ⟨hit',st.2.at fun o z=>(sb.2 d hne).trans z⟩ fun b o hb e=>(sb.2 b (fun h=>hb (by simp [h]))).trans e
 done:=fun s Q E st hQ=>by
  refine JE hh st.1 st.2 (fun e h' he=>by rw [Array.getElem?_eq_none (zAH _)] at he;cases he) (fun h' _ ex=>?_)
  exact hQ h' s.toks fun b o hb e=>ex b o (fun h=>hb (by simp [h])) e
 self:=fun _ _ _ _ st hQ=>wpAny_pyIter_keyiter st.1 hQ
theorem FS (lo:(d==sysModules)=false):zCp prog w "dict" d d es.size (fun i v=>(es[i]?).map (·.key)=some v) (Xk d es ep) where
 type:=fun _ x=>x.type
 there:=fun _ x=>by obtain ⟨o,g,_⟩:=x;exact ⟨zAS g,zAS g⟩
 keep:=fun _ _ x hk=>x.at fun o e=>hk d (.inl rfl) o e
 notList:=by decide
 notTuple:=by decide
 hint:=fun _ _ _ _ x hq=>PySem.W.kdl_hint_dict x.type hq
 iter:=fun _ s hh x=>⟨_,_,(fun _ _ hq=>Dr lo x hq),EX hh _ (by obtain ⟨o,g,_⟩:=x;exact zAk (zAS g)),⟨⟨_,zAT _ rfl,rfl,rfl⟩,x.at fun o e=>zAG _ e⟩⟩
end
section
variable {X:Cx} {pins:List (Addr×Obj)} {σ:L2.St} {H:Hp} {s:Shared} {A:Around} {E:Value->Shared->Prop}
theorem Bc {w:World} {xs:List (KT×V×V)} {es:Array DictEntry} {acc:Array Value} (r:Paired (Um w) xs es.toList) (h:ItemsOf (fun i v=>(es[i]?).map (·.key)=some v) acc es.size):ZN (xs.map (·.2.1)) acc.toList:=by
 have ln:=Paired.length r
 have l2:acc.toList.length=es.size:=by have:=h.1;simpa using this
 refine Nf (by rw [zAD,l2,ln];simp) fun i a b ha hb=>?_
 rw [zAN] at ha
 obtain ⟨z,ez,rfl⟩:=zAq.mp ha
 rw [zBB] at hb
 have:=h.2 i b hb
 obtain ⟨e,ee,rfl⟩:=zAq.mp this
 obtain ⟨z',e1,e2⟩:=QL r (by rw [zBB];exact ee)
 rw [ez] at e1
 cases e1
 exact e2.2.1
theorem Ba {d:Addr} {xs:List (KT×V×V)} {Q:List Value->Shared->Prop} (hh:A.handled=none) (I:ZF X pins σ H s) (x:Z3 X.w H d xs) (hQ:∀ (s1:Shared) (its:List Value),ZF X pins σ H s1->ZN (xs.map (·.2.1)) its->Q its s1):wpAny (model X.prog X.w) A (collect (.ref d)) Q E s:=by
 obtain ⟨es,hH,rel⟩:=x.ex
 obtain ⟨⟨hsys,hsz,o,ep,ho,hx,hd⟩,_⟩:=I.hok d _ hH
 refine Dg (FS (ep:=ep) hsys) hh ⟨o,ho,hx,hd⟩ hsz fun h' tk acc k1 _ hacc=>?_
 exact hQ _ acc.toList (I.kept (t':=tk) k1) (Bc rel hacc)
end
section
variable {X:Cx}
theorem Bn:bootBuiltins "sorted" = some (.builtin "sorted"):=by decide +kernel
def By:TE:=fun _ H Q=>∀ (p:Addr) (H':Hp),H p=none->ZE p H H'->ZA H H'->Z3 X.w H' p []->Q (.ref p) H'
theorem Ic {pos:Pos}:PE X (.Dict [] [] pos) (By (X:=X)):=fun pins s σ H Q I h=>by
 have hn:=I.hok.fresh (zAH s.heap.objs.size)
 refine wpAny_Dict_empty ⟨.ref s.heap.objs.size,_,I.laid (a:=s.heap.objs.size) (o:=Uq s.heap.objs.size #[]) (t':=s.toks) (fun _ _ q=>zAG _ q) (zAH _) (Ig (beq_eq_false_iff_ne.mpr (Ne.symm (zAk I.big))) (zAe _) ⟨_,0,zAT _ rfl,⟨rfl,rfl,rfl⟩,rfl⟩),rfl,?_⟩
 exact h _ _ hn (fun b o e n=>by rw [ZT n];exact e) (Za hn _) ⟨⟨#[],ZP,.nil⟩,fun z hz=>by simp at hz,.nil⟩
def Es (w:World) (td ty tv:TE):TS:=fun D σ H=>tv σ H fun v H1=>td σ H1 fun x H2=>ty σ H2 fun y H3=>∃ (a:Addr) (xs:List (KT×V×V)) (t:KT),x=.ref a/\Z3 w H3 a xs/\xs.length<1000/\ZD H3 t y/\t.depth<=3/\∀ H4,ZE a H3 H4->Z3 w H4 a (Wq xs t y v)->D.nx σ H4
theorem Kt {o i value:Expr} {pos pos':Pos} {td ty tv:TE} (hu:X.A.units+4<cLine) (ho:PE X o td) (hi:PE X i ty) (hv:PE X value tv) (hs:swapsWith value (some (.Subscript o i pos')) pos.line X.env=pure false) :
  PS X (.Assign [.Subscript o i pos'] value pos) (Es X.w td ty tv):=by
 intro pins s σ H D I h
 refine wpAny_Assign_Subscript (Zb (hv pins s σ H _ I h) fun r s1 ⟨v,H1,I1,rv,q1⟩=>Zb (ho pins s1 σ H1 _ I1 q1) fun u s2 ⟨x,H2,I2,rx,q2⟩=>Zb (hi pins s2 σ H2 _ I2 q2) fun iv s3 ⟨y,H3,I3,ry,a,xs,t,ex,dk,lx,ky,dt,q3⟩=>?_) hs
 subst ex
 obtain rfl:u=Value.ref a:=rx
 exact Ez hu I3 dk lx ky dt ry rv fun s4 H4 I4 sx dk4=>⟨σ,H4,I4,q3 H4 sx dk4⟩
def Hw (ts:List KT) (H1:Hp) (Q:VK):Prop:=∀ (D:Addr) (ws:List V) (rs:List KT) (H':Hp),ZA H1 H'->H1 D=none->H' D=some (.lst ws)->KeysAt H' rs ws->rs.Perm ts->rs.Pairwise (fun a b=>b.lt a=false)->Q (.ref D) H'
def Cm (w:World) (t:TA):TE:=fun σ H Q=>t σ H fun vs H1=>∃ (d:Addr) (xs:List (KT×V×V)),vs=[.ref d]/\Z3 w H1 d xs/\(∀ x∈xs,x.1.fits 3=true)/\xs.length<64/\Hw (xs.map (·.1)) H1 Q
theorem IY {g:KT->KT} (hg:Kg g) (dg:∀ t,(g t).depth<=2 * t.depth+2) {k:Nat} {p pos kp p2:Pos} {e:Expr} {x x0:Str} {t:TA} (DS:ZB X.prog X.w X.K X.mg X.base k x [x0] (U0 g)) (hr:ZZ (k+2) X.A) (hgl:Gl X "sorted") (hm:X.mg "sorted" = none) (hgx:Gl X x) (ha:PA X [e] t) (hdx:(x==("__debug__" : Str))=false:=by decide)
  (he:backTo pos (starEach [e] X.env)=(false,eval e X.env) :: backTo pos (starEach [] X.env):=by rfl) (hplain:(backTo pos (starEach [e] X.env)).any (·.1)=false:=by rfl) :
  PE X (.Call (.Name "sorted" p) [e] [⟨some (zAy "key"),.Name x p2,kp⟩] pos) (Cm X.w t):=by
 intro pins s σ H Q I h
 obtain ⟨f,fd,F,b,kp',m⟩:=DS.ex
 refine wpAny_Call_Name_kw (Ud I hgl hm Bn (callWith_kw (Zb (ha pos pins s σ H _ I h) fun us s1 ⟨vs,H1,I1,r,d,xs,e1,dk,hf,h64,q⟩=>?_) he hplain))
 have pk:PK X [⟨some (zAy "key"),.Name x p2,kp⟩] (Ym (tC (.ref f)) WX):=Kc (Xa (v:=.ref f) (pos:=p2) hgx m rfl hdx) JT
 refine Zb (pk pos pins s1 σ H1 (fun zs H2=>zs=[.ref f]/\H2=H1) I1 ⟨rfl,rfl⟩) fun zs s2 ⟨zv,H2,I2,rz,ez,eH⟩=>?_
 subst e1 ez eH
 obtain ⟨u,rfl,ru⟩:=Wg r
 obtain ⟨u2,rfl,ru2⟩:=Wg rz
 cases ru
 cases ru2
 have ka:KeysAt H2 (xs.map (·.1)) (xs.map (·.2.1)):=by
  have:=dk.key
  clear q h64 hf dk
  induction xs with
  | nil=>exact .nil
  | cons z xs ih=>exact .cons (this z (zAR ..)).1 (ih fun z hz=>this z (zAP _ hz))
 exact Fe hg dg hr F b I2 ka (fun t ht=>by obtain ⟨z,hz,rfl⟩:=zAf.mp ht;exact hf z hz) (by rw [zAD];exact h64) (fun Q' hq=>Ba hr.hd I2 dk hq) q
end
end Tw
namespace L2
open PySem PySem.Spec PyProof.Rows
section
variable {X:Cx}
end
section
variable {prog:Program} {w:World} {A:Around} {E:Value->Shared->Prop} {s:Shared}
end
section
variable {X:Cx} {pins:List (Addr×Obj)} {σ:St} {H:Hp} {s:Shared}
end
end L2
namespace Tw
open PySem PySem.Spec L2 PyProof.Rows
def QO:Option V->Option Value->Prop
 | some v,some r=>ZQ v r
 | none,none=>True
 | _,_=>False
mutual
theorem ZL.keep {h h':Heap} (k:∀ b o,h.get? b=some o->h'.get? b=some o):∀ (t:KT) (v:Value),ZL h t v->ZL h' t v
 | .int i,v,x=>by rw [ZL] at x ⊢;exact x
 | .str i,v,x=>by rw [ZL] at x ⊢;exact x
 | .tup l,v,x=>by
  rw [ZL] at x ⊢
  obtain ⟨a,its,e,⟨o,g,r⟩,e2⟩:=x
  exact ⟨a,its,e,⟨o,k _ _ g,r⟩,KVals.keep k l its e2⟩
theorem KVals.keep {h h':Heap} (k:∀ b o,h.get? b=some o->h'.get? b=some o):∀ (l:List KT) (vs:List Value),KVals h l vs->KVals h' l vs
 | [],vs,x=>by rw [KVals] at x ⊢;exact x
 | t :: l,vs,x=>by
  rw [KVals] at x ⊢
  obtain ⟨v,r,e,e1,e2⟩:=x
  exact ⟨v,r,e,ZL.keep k t v e1,KVals.keep k l r e2⟩
end
section
variable {X:Cx} {pins:List (Addr×Obj)} {σ:L2.St} {H:Hp} {s:Shared} {A:Around} {E:Value->Shared->Prop}
theorem Ib {d:Addr} {xs:List (KT×V×V)} (I:ZF X pins σ H s) (x:Z3 X.w H d xs):(d==sysModules)=false/\s.TypeIs (.ref d) "dict" /\ ∀ b,Value.ref d=.ref b->∃ ob,s.heap.get? b=some ob/\ob.dict=none:=by
 obtain ⟨es,hH,rel⟩:=x.ex
 obtain ⟨⟨hsys,hsz,o,ep,ho,hx,hd⟩,_⟩:=I.hok d _ hH
 refine ⟨hsys,⟨o,ho,hx.1⟩,fun b q=>?_⟩
 cases q
 exact ⟨o,ho,hx.2.1⟩
theorem FN {d:Addr} {xs:List (KT×V×V)} {t:KT} {y:V} {u:Value} {Q:Option Value->Shared->Prop} (hu:A.units+4<cLine) (I:ZF X pins σ H s) (x:Z3 X.w H d xs) (hy:ZD H t y) (dt:t.depth<=3) (ry:ZQ y u)
  (h:∀ s' r,ZF X pins σ H s'->(∀ b ob,s.heap.get? b=some ob->s'.heap.get? b=some ob)->QO (V1 xs t) r->Q r s'):wpAny (model X.prog X.w) A (dictGet d u) Q E s:=by
 obtain ⟨es,hH,rel⟩:=x.ex
 obtain ⟨⟨hsys,hsz,o,ep,ho,hx,hd⟩,_⟩:=I.hok d _ hH
 unfold dictGet
 try with_reducible refine wpAny_holding ?_
 refine wpAny_bind (NZ t.depth t (zAH _) (Wo I t y u hy ry) (by omega) fun tk htk=>?_)
 have I1:ZF X pins σ H { s with toks:=tk }:=I.tok tk
 refine wpAny_bind (Io (A:=A) I1 x rel ho hd hy dt ry (by omega) (fun hn=>?_) fun j z e e1 e2 e3 e4=>?_)
 ·refine wpAny_pure (h _ none I1 (fun _ _ e=>e) ?_)
  rw [Cn hn]
  trivial
 ·refine wpAny_bind (wpAny_dictEntries (s:={ s with toks:=tk }) ho hd ?_)
  rw [e3]
  refine wpAny_pure (h _ (some e.val) I1 (fun _ _ e=>e) ?_)
  rw [<-e2,LP x.nd e1]
  exact e4.2.2
theorem GU {d:Addr} {xs:List (KT×V×V)} {t:KT} {y v:V} {u:Value} {Q:Value->Shared->Prop} (hu:A.units+5<cLine) (I:ZF X pins σ H s) (x:Z3 X.w H d xs) (hy:ZD H t y) (dt:t.depth<=3) (ry:ZQ y u) (hv:V1 xs t=some v)
  (h:∀ w' s',ZF X pins σ H s'->ZQ v w'->Q w' s'):wpAny (model X.prog X.w) A (getItem (.ref d) u) Q E s:=by
 obtain ⟨hsys,hT,_⟩:=Ib I x
 unfold getItem
 try with_reducible refine wpAny_holding ?_
 refine wpAny_bind (wpAny_sequenceKey hT (by decide) ?_)
 refine wpAny_bind (wpAny_callSpecial?_slot (name:=zAy "__getitem__") hT slot_dict_getitem (wpAny_call_entry slot_dict_getitem hT entry_dict_getitem ?_ (args_dict_getitem _ _)))
 show wpAny _ _ (dictGet d u >>= _) _ _ s
 refine wpAny_bind (FN (by show A.units+1+4<_;omega) I x hy dt ry fun s' r I' _ ro=>?_)
 rw [hv] at ro
 cases r with
 | none=>exact ro.elim
 | some r=>exact wpAny_pure ⟨r,rfl,wpAny_pure (h r s' I' ro)⟩
end
section
variable {X:Cx} {o i e f:Expr} {pos apos cpos:Pos} {td ty tx:TE}
def IH (w:World) (td ty:TE):TE:=fun σ H Q=>td σ H fun x H1=>ty σ H1 fun y H2=>∃ (a:Addr) (xs:List (KT×V×V)) (t:KT) (v:V),x=.ref a/\Z3 w H2 a xs/\ZD H2 t y/\t.depth<=3/\V1 xs t=some v/\Q v H2
theorem B3 (hu:X.A.units+5<cLine) (ho:PE X o td) (hi:PE X i ty) (hs:Pt i):PE X (.Subscript o i pos) (IH X.w td ty):=by
 intro pins s σ H Q I h
 refine KS zCr.lookup hs (Zb (ho pins s σ H _ I h) fun u s1 ⟨x,H1,I1,rx,q1⟩=>Zb (hi pins s1 σ H1 _ I1 q1) fun iv s2 ⟨y,H2,I2,ry,a,xs,t,v,ex,dk,ky,dt,hv,q2⟩=>?_)
 subst ex
 obtain rfl:u=Value.ref a:=rx
 exact ⟨(Ib I2 dk).2.1,GU hu I2 dk ky dt ry hv fun w' s3 I3 rw'=>⟨v,H2,I3,rw',q2⟩⟩
end
section
variable {prog:Program} {w:World} {A:Around} {E:Value->Shared->Prop} {s:Shared}
end
theorem Paired.ixR {α β:Type} {F:α->β->Prop}:∀ {l:List α} {m:List β} {i:Nat} {u:β},Paired F l m->m[i]? = some u->∃ r,l[i]? = some r/\F r u
 | _,_,_,_,.nil,e=>by simp at e
 | _,_,0,_,.cons r _,e=>by simp at e;subst e;exact ⟨_,rfl,r⟩
 | _,_,i+1,u,.cons _ t,e=>by
  obtain ⟨r,h1,h2⟩:=Paired.ixR (i:=i) (u:=u) t (by simpa using e)
  exact ⟨r,by simpa using h1,h2⟩
section
variable {X:Cx} {pins:List (Addr×Obj)} {σ:L2.St} {H:Hp} {s0 s:Shared} {A:Around}
end
section
variable {X:Cx}
end
end Tw
namespace Tw
open PySem PySem.Spec L2
def WP (N:Addr->Prop) (H:Hp) (n:String) (v:V):Prop:=
 (n = "bool" /\ ∃ b,v=.bl b)\/(n = "NoneType" /\ v=.non)\/(n = "list" /\ ∃ a xs,v=.ref a/\H a=some (.lst xs)/\¬ N a)\/(n = "dict" /\ ∃ a kvs,v=.ref a/\H a=some (.dK kvs)/\¬ N a)
mutual
def Zh (N:Addr->Prop) (H:Hp):TG->V->Prop
 | .int i,v=>v=.int i
 | .str x,v=>v=.str x
 | .tup l,v=>∃ a vs,v=.ref a/\H a=some (.tup vs)/\ThsAt N H l vs
 | .odd n,v=>WP N H n v
def ThsAt (N:Addr->Prop) (H:Hp):List TG->List V->Prop
 | [],vs=>vs=[]
 | t :: l,vs=>∃ v r,vs=v :: r/\Zh N H t v/\ThsAt N H l r
end
structure Ys (N:Addr->Prop) (H H':Hp):Prop where
 tup:Zu H H'
 rest:∀ b o,H b=some o->¬ N b->H' b=some o
theorem Ys.same {N:Addr->Prop} {H H':Hp} (s:ZA H H'):Ys N H H':=⟨ZA.tups s,fun b o e _=>s b o e⟩
mutual
theorem Zh.mono {N:Addr->Prop} {H H':Hp} (m:Ys N H H'):∀ (t:TG) (v:V),Zh N H t v->Zh N H' t v
 | .int _,_,h=>by rw [Zh] at h ⊢;exact h
 | .str _,_,h=>by rw [Zh] at h ⊢;exact h
 | .tup l,_,h=>by
  rw [Zh] at h ⊢
  obtain ⟨a,vs,e,h1,h2⟩:=h
  exact ⟨a,vs,e,m.tup a vs h1,ThsAt.mono m l vs h2⟩
 | .odd n,_,h=>by
  rw [Zh] at h ⊢
  rcases h with h | h | ⟨e,a,xs,e1,e2,e3⟩ | ⟨e,a,xs,e1,e2,e3⟩
  ·exact .inl h
  ·exact .inr (.inl h)
  ·exact .inr (.inr (.inl ⟨e,a,xs,e1,m.rest _ _ e2 e3,e3⟩))
  ·exact .inr (.inr (.inr ⟨e,a,xs,e1,m.rest _ _ e2 e3,e3⟩))
theorem ThsAt.mono {N:Addr->Prop} {H H':Hp} (m:Ys N H H'):∀ (l:List TG) (vs:List V),ThsAt N H l vs->ThsAt N H' l vs
 | [],_,h=>by rw [ThsAt] at h ⊢;exact h
 | t :: l,_,h=>by
  rw [ThsAt] at h ⊢
  obtain ⟨v,r,e,h1,h2⟩:=h
  exact ⟨v,r,e,Zh.mono m t v h1,ThsAt.mono m l r h2⟩
end
mutual
theorem Zh.less {N N':Addr->Prop} {H:Hp} (m:∀ b,N' b->N b):∀ (t:TG) (v:V),Zh N H t v->Zh N' H t v
 | .int _,_,h=>by rw [Zh] at h ⊢;exact h
 | .str _,_,h=>by rw [Zh] at h ⊢;exact h
 | .tup l,_,h=>by
  rw [Zh] at h ⊢
  obtain ⟨a,vs,e,h1,h2⟩:=h
  exact ⟨a,vs,e,h1,ThsAt.less m l vs h2⟩
 | .odd n,_,h=>by
  rw [Zh] at h ⊢
  rcases h with h | h | ⟨e,a,xs,e1,e2,e3⟩ | ⟨e,a,xs,e1,e2,e3⟩
  ·exact .inl h
  ·exact .inr (.inl h)
  ·exact .inr (.inr (.inl ⟨e,a,xs,e1,e2,fun z=>e3 (m a z)⟩))
  ·exact .inr (.inr (.inr ⟨e,a,xs,e1,e2,fun z=>e3 (m a z)⟩))
theorem ThsAt.less {N N':Addr->Prop} {H:Hp} (m:∀ b,N' b->N b):∀ (l:List TG) (vs:List V),ThsAt N H l vs->ThsAt N' H l vs
 | [],_,h=>by rw [ThsAt] at h ⊢;exact h
 | t :: l,_,h=>by
  rw [ThsAt] at h ⊢
  obtain ⟨v,r,e,h1,h2⟩:=h
  exact ⟨v,r,e,Zh.less m t v h1,ThsAt.less m l r h2⟩
end
theorem ThsAt.length {N:Addr->Prop} {H:Hp}:∀ {l:List TG} {vs:List V},ThsAt N H l vs->l.length=vs.length
 | [],vs,h=>by rw [ThsAt] at h;subst h;rfl
 | t :: l,vs,h=>by
  rw [ThsAt] at h
  obtain ⟨v,r,rfl,_,h2⟩:=h
  rw [zAX,zAX,h2.length]
theorem ThsAt.get {N:Addr->Prop} {H:Hp}:∀ {l:List TG} {vs:List V} {i:Nat} {v:V},ThsAt N H l vs->vs[i]? = some v->∃ t,l[i]? = some t/\Zh N H t v
 | [],vs,i,v,h,e=>by rw [ThsAt] at h;subst h;simp at e
 | t :: l,vs,0,v,h,e=>by
  rw [ThsAt] at h
  obtain ⟨v',r,rfl,h1,_⟩:=h
  simp at e
  subst e
  exact ⟨t,rfl,h1⟩
 | t :: l,vs,i+1,v,h,e=>by
  rw [ThsAt] at h
  obtain ⟨v',r,rfl,_,h2⟩:=h
  obtain ⟨t',e1,e2⟩:=h2.get (i:=i) (by simpa using e)
  exact ⟨t',by simpa using e1,e2⟩
mutual
theorem M5 {N:Addr->Prop} {H:Hp}:∀ (t:KT) (v:V),ZD H t v->Zh N H t.emb v
 | .int i,v,h=>by rw [ZD] at h;rw [KT.emb,Zh];exact h
 | .str x,v,h=>by rw [ZD] at h;rw [KT.emb,Zh];exact h
 | .tup l,v,h=>by
  rw [ZD] at h
  obtain ⟨a,vs,e,h1,h2⟩:=h
  rw [KT.emb,Zh]
  exact ⟨a,vs,e,h1,ths_keys l vs h2⟩
theorem ths_keys {N:Addr->Prop} {H:Hp}:∀ (l:List KT) (vs:List V),KeysAt H l vs->ThsAt N H (embL l) vs
 | [],vs,h=>by rw [KeysAt] at h;rw [embL,ThsAt];exact h
 | t :: l,vs,h=>by
  rw [KeysAt] at h
  obtain ⟨v,r,e,h1,h2⟩:=h
  rw [embL,ThsAt]
  exact ⟨v,r,e,M5 t v h1,ths_keys l r h2⟩
end
theorem WP.ty {K:zAA} {N:Addr->Prop} {H:Hp} {n:String} {v:V} (h:WP N H n v):YZ K H v (.type n):=by
 rcases h with ⟨rfl,b,rfl⟩ | ⟨rfl,rfl⟩ | ⟨rfl,a,xs,rfl,e,_⟩ | ⟨rfl,a,xs,rfl,e,_⟩
 ·exact .bl b
 ·exact .non
 ·exact .lst e
 ·exact .dK e
theorem EO {K:zAA} {N:Addr->Prop} {H:Hp} {n:String} {v:V} (h:WP N H n v) :
  ∃ b,zAV K (.type n) (.type "bool")=some b/\(b=false->zAV K (.type n) (.type "int")=some false/\zAV K (.type n) (.type "str")=some false/\zAV K (.type n) (.type "tuple")=some false):=by
 rcases h with ⟨rfl,_⟩ | ⟨rfl,_⟩ | ⟨rfl,_⟩ | ⟨rfl,_⟩
 ·exact ⟨true,CQ,fun z=>absurd z (by decide)⟩
 ·exact ⟨false,by kernel_rfl,fun _=>⟨by kernel_rfl,by kernel_rfl,by kernel_rfl⟩⟩
 ·exact ⟨false,by kernel_rfl,fun _=>⟨by kernel_rfl,by kernel_rfl,by kernel_rfl⟩⟩
 ·exact ⟨false,by kernel_rfl,fun _=>⟨by kernel_rfl,by kernel_rfl,by kernel_rfl⟩⟩
end Tw
namespace L2
open PySem PySem.Spec PyProof.Rows
section
variable {P:Program} {w:World} {H H2:Hp} {h h':Heap} {cs fs ex:List Addr}
end
section
variable {P:Program} {w:World} {K:zAA} {mg:Str->Option Value} {base:Heap}
end
section
variable {P:Program} {w:World} {K:zAA} {mg:Str->Option Value} {base:Heap}
end
section
variable {X:Cx}
end
section
variable {cs:List Addr} {HL Hc H' H3:Hp}
end
section
variable {prog:Program} {w:World} {A:Around} {E:Value->Shared->Prop} {s:Shared}
end
section
variable {X:Cx}
end
section
variable {P:Program} {w:World} {K:zAA} {mg:Str->Option Value} {base:Heap}
end
theorem HK {P:Program} {w:World} {K:zAA} {mg:Str->Option Value} {base:Heap} {CX:Xo} {N:List Str} {qual:Str} {scope:Scope} {f:Addr} {cdv:Value} {A:Around} {outer:List Env} {s:Shared} {H:Hp} {E:XK} :
  PassesOwn (model (Xt CX P w K mg base N qual scope f cdv A outer s H E).prog (Xt CX P w K mg base N qual scope f cdv A outer s H E).w) (Xt CX P w K mg base N qual scope f cdv A outer s H E).A (Xt CX P w K mg base N qual scope f cdv A outer s H E).env (Xt CX P w K mg base N qual scope f cdv A outer s H E).xe:=by
 show PassesOwn (model P w) (A.deeper (envOfC qual scope s.heap.objs.size f cdv)) (envOfC qual scope s.heap.objs.size f cdv) _
 passes_own
def UL:Expr->Bool
 | .Starred _ _=>false
 | _=>true
theorem Yv {e:Expr} {es:List Expr} {env:Env} (h:UL e=true):starEach (e :: es) env=(false,eval e env) :: starEach es env:=by
 cases e <;> first | rfl | cases h
theorem ZI {X:Cx} {e:Expr} {es:List Expr} {te:TE} {t:TA} (ha:PE X e te) (hr:PA X es t) (h:UL e=true:=by rfl):PA X (e :: es) (Ym te t):=ZX ha hr (Yv h)
theorem X8 {X:Cx} {e0 e1 e2:Expr} {t0 t1 t2:TE} (g0:PE X e0 t0) (g1:PE X e1 t1) (g2:PE X e2 t2) (h:[e0,e1,e2].all UL=true:=by rfl):PA X [e0,e1,e2] (Ym t0 (Ym t1 (Ym t2 WX))):=
 (ZX g0 (ZX g1 (ZX g2 ZG (Yv (zAM.mp h e2 (by simp)))) (Yv (zAM.mp h e1 (by simp)))) (Yv (zAM.mp h e0 (by simp))))
theorem WS {X:Cx} {e0 e1 e2 e3:Expr} {t0 t1 t2 t3:TE} (g0:PE X e0 t0) (g1:PE X e1 t1) (g2:PE X e2 t2) (g3:PE X e3 t3) (h:[e0,e1,e2,e3].all UL=true:=by rfl):PA X [e0,e1,e2,e3] (Ym t0 (Ym t1 (Ym t2 (Ym t3 WX)))):=
 (ZX g0 (ZX g1 (ZX g2 (ZX g3 ZG (Yv (zAM.mp h e3 (by simp)))) (Yv (zAM.mp h e2 (by simp)))) (Yv (zAM.mp h e1 (by simp)))) (Yv (zAM.mp h e0 (by simp))))
theorem Hq {X:Cx} {e0 e1 e2 e3 e4:Expr} {t0 t1 t2 t3 t4:TE} (g0:PE X e0 t0) (g1:PE X e1 t1) (g2:PE X e2 t2) (g3:PE X e3 t3) (g4:PE X e4 t4) (h:[e0,e1,e2,e3,e4].all UL=true:=by rfl):PA X [e0,e1,e2,e3,e4] (Ym t0 (Ym t1 (Ym t2 (Ym t3 (Ym t4 WX))))):=
 (ZX g0 (ZX g1 (ZX g2 (ZX g3 (ZX g4 ZG (Yv (zAM.mp h e4 (by simp)))) (Yv (zAM.mp h e3 (by simp)))) (Yv (zAM.mp h e2 (by simp)))) (Yv (zAM.mp h e1 (by simp)))) (Yv (zAM.mp h e0 (by simp))))
theorem G6 {X:Cx} {e0 e1 e2 e3 e4 e5:Expr} {t0 t1 t2 t3 t4 t5:TE} (g0:PE X e0 t0) (g1:PE X e1 t1) (g2:PE X e2 t2) (g3:PE X e3 t3) (g4:PE X e4 t4) (g5:PE X e5 t5) (h:[e0,e1,e2,e3,e4,e5].all UL=true:=by rfl):PA X [e0,e1,e2,e3,e4,e5] (Ym t0 (Ym t1 (Ym t2 (Ym t3 (Ym t4 (Ym t5 WX)))))):=
 (ZX g0 (ZX g1 (ZX g2 (ZX g3 (ZX g4 (ZX g5 ZG (Yv (zAM.mp h e5 (by simp)))) (Yv (zAM.mp h e4 (by simp)))) (Yv (zAM.mp h e3 (by simp)))) (Yv (zAM.mp h e2 (by simp)))) (Yv (zAM.mp h e1 (by simp)))) (Yv (zAM.mp h e0 (by simp))))
end L2
namespace Tw
open PySem PySem.Spec L2
end Tw
namespace L2
open PySem PySem.Spec PyProof.Rows
def Xw (g:Array Value->Prop) (x C:Addr) (od:Option Addr) (h:Heap):Prop:=∃ o vs,h.get? x=some o/\o.cls=.ref C/\o.data=.fields vs/\o.dict=od/\g vs
def Vp:Array Value->Prop:=fun vs=>vs[1]? = some .none
def WL:Array Value->Prop:=fun _=>True
def XO (g:Array Value->Prop) (x C:Addr) (od:Option Addr):HO:=.ext (Xw g x C od)
theorem Xw.is {g:Array Value->Prop} {x C:Addr} {od:Option Addr} {h:Heap} (e:Xw g x C od h):Y9 x C h:=let ⟨o,_,a,b,_⟩:=e;⟨o,a,b⟩
theorem Me {P:Program} {w:World} {H:Hp} {h:Heap} {g:Array Value->Prop} {x C:Addr} {od:Option Addr} (e:Xw g x C od h):Ze P w H h x (XO g x C od):=by
 obtain ⟨o,vs,a,b,c,d⟩:=id e
 exact ⟨e,⟨o,a⟩,fun h1 h2 ⟨o1,vs1,a1,b1,c1,d1⟩ k=>⟨o1,vs1,k o1 a1,b1,c1,d1⟩⟩
abbrev UM:List Value:=[.type "ValueError",.type "Exception",.type "BaseException",.type "object"]
def NP:List Value->Bool
 | .ref _ :: r=>NP r
 | l=>l==UM
theorem Kk (self:Value):∀ {l:List Value},NP l=true->PySem.refuseLoop self "__setattr__" l=pure ()
 | .ref c :: r,e=>(refuseLoop_ref _ _ _ _).trans (Kk self (l:=r) e)
 | .type n :: r,e=>by rw [show (Value.type n :: r)=UM from beq_iff_eq.mp e];exact zCu.passes self
 | [],e=>by cases e
 | .none :: r,e | .bool _ :: r,e | .int _ _ :: r,e | .str _ _ :: r,e | .bytes _ _ :: r,e | .float _ _ :: r,e | .builtin _ :: r,e=>by cases (beq_iff_eq.mp e)
def K7 (K:zAA) (C:Addr):Bool:=(PySem.W.clsIn K C).any fun cd=>NP cd.mro
def NN (K:zAA) (C:Addr):Bool:=
 match K.lookup C with
 | some ⟨.type t,_,.cls cd,sl⟩=>
  (match sl.toList,cd.mro with
  | [_,_,_,_,some (.builtin made),_],.ref D :: up=>t == "type" && (D==C&&(made == "ValueError.__new__" && (PySem.W.tailIn K UM up && !cd.hasDel)))
  | _,_=>false)
 | _=>false
structure Xl (K:zAA) (C fI:Addr) (f:Str):Prop where
 exc:XG K C
 made:NN K C=true
 init:zAW K (.ref C) "__init__" = some (some (.ref fI))
 fn:zBg K (.ref fI)=true
 kp:zAp K (.ref C)=true
 sa:zAW K (.ref C) "__setattr__" = some (some (.builtin "object.__setattr__"))
 no:zAW K (.ref C) f=some none
 hd:zBN K C=true
 over:K7 K C=true
section
variable {g:Array Value->Prop} {X:Cx} {pins:List (Addr×Obj)} {σ:St} {H:Hp} {s:Shared} {a C fI:Addr} {f:Str} {v:V} {A:Around} {E:Value->Shared->Prop}
theorem Iy {y:V} {u:Value} {Q:Unit->Shared->Prop} (I:ZF X pins σ H s) (e:H a=some (XO g a C none)) (c:Xl X.K C fI f) (ry:ZQ y u)
  (h:∀ dx s',H dx=none->dx≠a->ZF X pins σ (upd (upd H dx (.xd [(f,y)])) a (XO g a C (some dx))) s'->Q () s'):wpAny (model X.prog X.w) A (setAttr (.ref a) f u) Q E s:=by
 obtain ⟨o,vs,hx,hc,hda,hdi,hgv⟩:=(I.hok a _ e).1
 obtain ⟨oc,od,oda,osl⟩:=o
 dsimp only at hc hda hdi
 subst hc hda hdi
 have J:zCq s.heap a ⟨.ref C,none,.fields vs,osl⟩ C none:=⟨hx,rfl,rfl,True.intro⟩
 refine PySem.W.set_plain I.kIn J c.sa ?_
 have SF:=zCu
 obtain ⟨cd,hcd,ho⟩:=zCA c.over
 have sub:zAx (model X.prog X.w) s.heap (isInstance (.ref a) (.type "object")) true:=J.type.andThen (zBz I.kIn c.exc.mO)
 refine codeAny_call_builtin SF.slot.plain SF.entry (@PySem.W.check_slot (model X.prog X.w) _ _ { s with toks:=s.toks+1 } "object.__setattr__" "object" "__setattr__" (.ref a) [.str f s.toks,u] [] _ SF.kind SF.split sub (SF.args (.ref a) (.str f s.toks) u) ?_)
 have hm:zAx (model X.prog X.w) s.heap (mroOf (.ref C)) cd.mro:=(zCR I.kIn hcd).andThen .now
 rw [PySem.W.osa_eq,PySem.refuse_eq]
 refine wpAny_bind (wpAny_bind (zAx.here (s:={ s with toks:=s.toks+1 }) J.type (wpAny_bind (zAx.here (s:={ s with toks:=s.toks+1 }) hm ?_))))
 rw [Kk _ ho]
 refine wpAny_pure (wpAny_bind (zAx.here (s:={ s with toks:=s.toks+1 }) J.type (wpAny_bind (zAx.here (s:={ s with toks:=s.toks+1 }) (zBt I.kIn c.no) (wpAny_bind (wpAny_pure ?_))))))
 obtain ⟨cd2,hcd2,hd2⟩:=zCA c.hd
 refine wpAny_bind (wpAny_pure (wpAny_bind (wpAny_bind (wpAny_loadPart hx (wpAny_bind (zAx.here (s:={ s with toks:=s.toks+1 }) (zCR I.kIn hcd2) ?_))))))
 rw [hd2]
 dsimp only
 have hsz:s.heap.get? s.heap.objs.size=none:=zBf (zAH _)
 have hda:a≠s.heap.objs.size:=zAk (zAS hx)
 have hHd:H s.heap.objs.size=none:=I.hok.fresh (zAH _)
 rw [if_neg (by simp),if_neg (by simp [typeHasDict])]
 have hx1:=zAG { cls:=.type "dict",data:=.dict #[] } hx
 refine wpAny_bind (wpAny_alloc' (wpAny_bind (wpAny_update' hx1 (wpAny_pure ?_))))
 generalize eh:((s.heap.push { cls:=.type "dict",data:=.dict #[] }).update a fun o=>{ cls:=o.cls,dict:=some s.heap.objs.size,data:=o.data,slots:=o.slots })=h2
 have ga:h2.get? a=some ⟨.ref C,some s.heap.objs.size,.fields vs,osl⟩:=by
  rw [<-eh]
  exact zA1 _ hx1 rfl
 have gd:h2.get? s.heap.objs.size=some { cls:=.type "dict",data:=.dict #[] }:=by
  rw [<-eh]
  exact (Heap.get?_update_ne _ _ _ _ hda.symm).trans (Heap.get?_push_at rfl rfl)
 have go:∀ b o,b≠a->s.heap.get? b=some o->h2.get? b=some o:=fun b o n q=>by
  rw [<-eh]
  exact (Heap.get?_update_ne _ _ _ _ n).trans (zAG _ q)
 have hnd:h2.Ns s.heap.objs.size (fun _=>none):=⟨_,#[],_,gd,rfl,fun e he=>absurd he (by simp),fun _=>rfl⟩
 show wpAny _ _ (Builtin.ObjectAttr.storeInDict s.heap.objs.size (.str f s.toks) f u) _ _ _
 unfold Builtin.ObjectAttr.storeInDict Builtin.ObjectAttr.newKeyGuard
 refine wpAny_bind (wpAny_pure (wpAny_bind (wpAny_nsSet1 (Heap.Ns1.of_empty hnd) fun h' hn' hs=>?_)))
 obtain ⟨oD,esD,epD,hoD,hdD,hcD⟩:=hn'.count (Within.cons f u Within.nil)
 refine wpAny_bind (wpAny_lookBehind hoD (by rw [hdD];exact pastItsLine_dict (zA7 hcD (by rw [zAX,zBQ,sizeLine_eq];omega))) ?_)
 have ga':h'.get? a=some ⟨.ref C,some s.heap.objs.size,.fields vs,osl⟩:=(hs.2 a hda).trans ga
 have go':∀ b o,b≠a->s.heap.get? b=some o->h'.get? b=some o:=fun b o n q=>(hs.2 b (zAk (zAS q))).trans (go b o n q)
 have nt:∀ {b:Addr} {o:HO},H b=some o->b≠s.heap.objs.size:=fun {b o} q z=>by rw [z,hHd] at q;cases q
 have na:∀ {b:Addr},H b=none->b≠a:=fun {b} q z=>by rw [z,e] at q;cases q
 refine wpAny_pure (h s.heap.objs.size _ hHd hda.symm (I.call' (s':={ s with heap:=h',toks:=_ }) (ch:=[]) rfl ⟨fun b o q n _ _=>go' b o (na n) q,fun b o q n _ _=>⟨o.slots,go' b o (na n) q⟩,fun b o q n _=>?_,fun b o q _=>?_,fun b xs q=>?_,fun b o u q=>?_,fun b ps q=>?_⟩ (fun b ob q=>?_) I.bare (fun b hb=>absurd hb (by simp))))
 ·rw [ZT (na n),ZT (zAk (zAS q))];exact n
 ·by_cases z:b=a
  ·rw [z];exact ⟨_,ga'⟩
  ·exact ⟨o,go' b o z q⟩
 ·rw [ZT (fun z=>by rw [z,e] at q;cases q),ZT (nt q)];exact q
 ·rw [ZT (fun z=>by rw [z,e] at q;cases q),ZT (nt q)];exact q
 ·exact ⟨#[],by rw [ZT (fun z=>by rw [z,e] at q;cases q),ZT (nt q),q];simp⟩
 ·by_cases z:b=a
  ·rw [z,ZP] at q
   cases q
   rw [z]
   exact Me ⟨_,_,ga',rfl,rfl,rfl,hgv⟩
  ·rw [ZT z] at q
   by_cases z2:b=s.heap.objs.size
   ·rw [z2,ZP] at q
    cases q
    rw [z2]
    refine ⟨_,hn',fun g=>?_⟩
    show YO (zBT g [(f,y)]) (if g=f then some u else none)
    by_cases hg:g=f
    ·rw [hg,if_pos rfl];simp only [zBT,beq_self_eq_true];exact ry
    ·rw [if_neg hg];simp only [zBT,beq_eq_false_iff_ne.mpr hg];exact True.intro
   ·rw [ZT z2] at q
    have oc:∀ {c:Addr},H c=some (.own b)->c≠a:=fun {c} hc z=>by rw [z,e] at hc;cases hc
    refine (I.hok b ob q).stay (fun c u hc r=>go' c u ?_ r) (fun c hc=>?_) (fun c xs hc=>?_)
    ·rcases hc with rfl | hc
     ·exact z
     ·exact oc hc
    ·rw [ZT (oc hc),ZT (nt hc)];exact hc
    ·rw [ZT (fun z=>by rw [z,e] at hc;cases hc),ZT (nt hc)];exact hc
theorem Ee {b:Bool} {dx:Addr} {fs:List (Str×V)} {Q:Value->Shared->Prop} (I:ZF X pins σ H s) (e:H a=some (XO g a C (some dx))) (d:H dx=some (.xd fs)) (c:Xl X.K C fI f) (l:fs.lookup f=some v)
  (h:∀ u s',ZF X pins σ H s'->ZQ v u->Q u s'):wpAny (model X.prog X.w) A (getAttr (.ref a) f b) Q E s:=by
 obtain ⟨o,vs,hx,hc,hda,hdi,hgv⟩:=id (I.hok a _ e).1
 obtain ⟨mA,hns,hrel⟩:=I.hok dx _ d
 obtain ⟨u,hu,ru⟩:=YO.some_of (v:=v) (o:=mA f) (by rw [<-l];exact hrel f)
 obtain ⟨od,hod,hlk⟩:=Ia hns
 have J:zCq s.heap a o C (some od):=⟨hx,hc,by unfold PySem.W.notCls;rw [hda],by rw [hdi];exact hod⟩
 obtain ⟨cd,hcd,hhd⟩:=zCA c.hd
 have L:zAx (model X.prog X.w) s.heap (Builtin.ObjectAttr.inOwnDict f (.ref a)) (some u):=PySem.W.looks_own I.kIn J hcd (by unfold PySem.W.ownOf;rw [hhd,if_pos rfl];show zB3 f od=_;rw [hlk,hu])
 have F:zAx (model X.prog X.w) s.heap (Builtin.ObjectAttr.find (.ref a) (.ref C) f) (.value u):=by
  refine zAx.andThen (zBt I.kIn c.no) (zAx.andThen .now (zAx.andThen .now ?_))
  exact zAx.andThen L (zAx.tag zAx.now)
 refine wpAny_bind (wpAny_mkText ?_)
 refine Jh (s:={ s with toks:=s.toks+1 }) I.kIn (I.hok a _ e).1.is c.exc F ⟨KQ ru,h u _ (I.tok _) ru⟩
end
section
variable {prog:Program} {w:World} {A:Around} {E:Value->Shared->Prop} {s:Shared} {K:zAA} {C fI:Addr} {f:Str}
abbrev Vv (h:Heap) (C:Addr) (us:List Value):Heap:=(h.push { cls:=.type "tuple",data:=.seq us.toArray }).push { cls:=.ref C,data:=.fields #[.ref h.objs.size,.none,.none,.none,.bool false,.none] }
theorem F2 {us:List Value} {Q:Value->Shared->Prop} (X:K.In s.heap) (c:Xl K C fI f) (hus:us.length<=sizeLine)
  (h:wpAny (model prog w) (A.under (.builtin "type.__call__" ⟨.ref C :: us,[]⟩)) (call (.ref fI) (.ref (s.heap.objs.size+1) :: us)) (fun r s'=>r=.none/\Q (.ref (s.heap.objs.size+1)) s') E { s with heap:=Vv s.heap C us }) :
  wpAny (model prog w) A (call (.ref C) us) Q E s:=by
 obtain ⟨hh,g,d,t,os⟩:=s
 have n:=c.made
 unfold NN at n
 split at n
 next tt dd cd sl ho=>
  split at n
  next k0 k1 k2 k3 made k5 D up hs hm=>
   simp only [zAJ,beq_iff_eq,Bool.not_eq_true'] at n
   obtain ⟨rfl,rfl,rfl,ht,hdel⟩:=n
   obtain ⟨nm,bs,mro,ns,qn,hd,sn,sub,ab,col,del⟩:=cd
   dsimp only at hm hdel
   subst hm hdel
   obtain ⟨sll⟩:=sl
   dsimp only at hs
   subst hs
   have hC:hh.get? D=some (excClassObj nm qn D ns bs up hd sn sub ab col dd k0 k1 k2 k3 k5 "ValueError.__new__"):=X _ _ ho
   have T:OwnTail hh UM up:=zDI X ht
   have FB:=zCg
   have f1:=tc_lookup
   have f2:=tc_bind (.ref D)
   have hT:(⟨hh,g,d,t,os⟩:Shared).TypeIs (.ref D) "type" :=⟨_,hC,rfl⟩
   refine wpAny_call (codeAny_of_tree (show wpAny _ _ (callAny (.ref D) _) _ _ _ from ?_))
   repeat (any_goals (first | assumption | with_reducible refine wpAny_loadPart_at hC ?_ | wp_step))
   refine ⟨rfl,codeAny_call_builtin_at (Code.quiet_builtin _ (by decide +kernel)) entry_typeCall (wpAny_check_type_call_sub hC ?_)⟩
   repeat (first | with_reducible refine wpAny_loadPart_at hC ?_ | with_reducible refine wpAny_madeBy_exc hC ?_ | wp_step)
   refine codeAny_call_builtin_code (Code.quiet_builtin _ FB.quiet) (wpAny_check_new_subU FB FB.hasB T hC (codeAny_exc_new_subU FB FB.hasB FB T hC ?_ hus))
   show wpAny _ _ _ _ _ _
   have e1:(Vv hh D us).get? (hh.objs.size+1)=some { cls:=.ref D,data:=.fields #[.ref hh.objs.size,.none,.none,.none,.bool false,.none] }:=by heap_get
   have kk:∀ b o,hh.get? b=some o->(Vv hh D us).get? b=some o:=fun b o q=>zAG _ (zAG _ q)
   have hC1:=kk _ _ hC
   have hin:(Value.ref D :: up).contains (.ref D)=true:=by simp
   unfold isInstance
   show wpAny _ _ _ _ _ ⟨Vv hh D us,g,d,t,os⟩
   repeat (first | with_reducible refine wpAny_loadPart_at e1 ?_ | wp_step)
   refine wpAny_isSubtype_exc (C:=D) (h:=Vv hh D us) hC1 ?_
   rw [hin]
   repeat wp_step
   have X1:K.In (Vv hh D us):=fun b o q=>kk b o (X b o q)
   show wpAny _ _ (typeLookup (.ref D) _) _ _ _
   refine (zBt X1 c.init).at ?_
   refine wpAny_holding (wpAny_bind ((PySem.W.bind_fn X1 _ (beq_iff_eq.mp c.fn)).at ?_))
   refine wpAny_bind (wpAny_mono h (fun r s' hr=>?_) fun _ _ z=>z)
   obtain ⟨rfl,hQ⟩:=hr
   wp_walk
   exact hQ
  next=>cases n
 next=>cases n
end
def Pd (H:Hp) (ea C:Addr):Prop:=∃ φ,H ea=some (.ext φ)/\∀ h,φ h->Y9 ea C h
theorem Ju {g:Array Value->Prop} {H:Hp} {ea C:Addr} {od:Option Addr} (e:H ea=some (XO g ea C od)):Pd H ea C:=⟨_,e,fun _ h=>h.is⟩
def QV (K:zAA):List V->Hp->VK->Prop:=fun xs H Q=>∃ ea C c b,xs=[.ref ea,c]/\Pd H ea C/\XG K C/\IU c=true/\zAV K (.ref C) (cV c)=some b/\Q (.bl b) H
def F9 (K:zAA) (ta tv:TE) (f:Str):TS:=fun D σ H=>tv σ H fun y H1=>ta σ H1 fun x H2=>∃ g a C fI,x=.ref a/\H2 a=some (XO g a C none)/\Xl K C fI f/\∀ dx,H2 dx=none->dx≠a->D.nx σ (upd (upd H2 dx (.xd [(f,y)])) a (XO g a C (some dx)))
def Kh (K:zAA) (ta:TE) (f:Str):TE:=fun σ H Q=>ta σ H fun x H1=>∃ g a C dx fs v fI,x=.ref a/\H1 a=some (XO g a C (some dx))/\H1 dx=some (.xd fs)/\Xl K C fI f/\fs.lookup f=some v/\Q v H1
def Qo (K:zAA) (C fI:Addr) (f:Str):Sp:=fun vs H Q _=>Xl K C fI f/\∃ ea y,vs=[.ref ea,y]/\H ea=some (XO Vp ea C none)/\∀ dx,H dx=none->dx≠ea->Q .non (upd (upd H dx (.xd [(f,y)])) ea (XO Vp ea C (some dx)))
section
variable {X:Cx}
theorem P2:WT X (.builtin "isinstance") (QV X.K):=by
 intro pins s σ H xs us Q I r h
 obtain ⟨ea,C,c,b,rfl,⟨φ,e,of⟩,EC,hc,hk,q⟩:=h
 obtain ⟨u,w',rfl,ru,rw'⟩:=PN r
 cases (show u=Value.ref ea from ru)
 rw [F3 rw' hc]
 exact zA5 (BP EC) I.kIn (of _ (I.hok ea _ e).1) hk (fun z=>nomatch z) fun tk=>⟨.bl b,H,I.tok tk,rfl,q⟩
variable {C fI:Addr} {f:Str} {e o value:Expr} {es:List Expr} {ta tv:TE} {t:TA} {pos pos' p:Pos} {x:Str}
theorem FV (ha:PE X o ta) (hv:PE X value tv) (hs:swapsWith value (some (.Attribute o f pos')) pos.line X.env=pure false):PS X (.Assign [.Attribute o f pos'] value pos) (F9 X.K ta tv f):=by
 intro pins s σ H D I h
 refine plainObj_wpAny_Assign_Attribute (Zb (hv pins s σ H _ I h) fun u s1 ⟨y,H1,I1,ry,q⟩=>Zb (ha pins s1 σ H1 _ I1 q) fun ov s2 ⟨x,H2,I2,rx,g,a,C,fI,ex,ea,c,q2⟩=>?_) hs
 subst ex
 obtain rfl:ov=Value.ref a:=rx
 exact Iy I2 ea c ry fun dx s' hd hn I3=>⟨σ,_,I3,q2 dx hd hn⟩
theorem HH (he:PE X e ta) (hb:attributeBase e f X.env (eval e X.env)=eval e X.env):PE X (.Attribute e f pos) (Kh X.K ta f):=by
 intro pins s σ H Q I h
 refine LH hb (Zb (he pins s σ H _ I h) fun u s1 ⟨x,H1,I1,rx,g,a,C,dx,fs,v,fI,ex,ea,ed,c,l,q⟩=>?_)
 subst ex
 obtain rfl:u=Value.ref a:=rx
 exact Ee I1 ea ed c l fun u s' I2 ru=>⟨v,H1,I2,ru,q⟩
theorem ZF.newx {pins:List (Addr×Obj)} {σ:St} {H:Hp} {s:Shared} {h':Heap} {ea:Addr} (I:ZF X pins σ H s) (keeps:∀ b o,s.heap.get? b=some o->h'.get? b=some o) (n:s.heap.get? ea=none) (hx:Xw Vp ea C none h'):ZF X pins σ (upd H ea (XO Vp ea C none)) { s with heap:=h' }:=by
 have hn:H ea=none:=by
  cases z:H ea with
  | none=>rfl
  | some o=>
   obtain ⟨o',q⟩:=I.hok.there (a:=ea) (by rw [z];exact fun y=>nomatch y)
   rw [n] at q
   cases q
 have nt:∀ {b:Addr} {o:HO},H b=some o->b≠ea:=fun {b o} q z=>by rw [z,hn] at q;cases q
 refine I.call' (s':={ s with heap:=h' }) (ch:=[]) rfl ⟨fun b o q _ _ _=>keeps b o q,fun b o q _ _ _=>⟨o.slots,keeps b o q⟩,fun b o q z _=>?_,fun b o q _=>⟨o,keeps b o q⟩,fun b xs q=>?_,fun b o u q=>?_,fun b ps q=>⟨#[],?_⟩⟩ (fun b ob q=>?_) I.bare (fun b hb=>absurd hb (by simp))
 ·rw [ZT (fun y=>by rw [y,n] at q;cases q)];exact z
 ·rw [ZT (nt q)];exact q
 ·rw [ZT (nt q)];exact q
 ·rw [ZT (nt q),q];simp
 ·by_cases z:b=ea
  ·rw [z,ZP] at q
   cases q
   rw [z]
   exact Me hx
  ·rw [ZT z] at q
   exact (I.hok b ob q).stay (fun c u _ r=>keeps c u r) (fun c hc=>by rw [ZT (nt hc)];exact hc) (fun c xs hc=>by rw [ZT (nt hc)];exact hc)
end
theorem AD (f:Array Value->Array Value) (o:Obj):(Obj.mapFields f o).dict=o.dict:=by
 obtain ⟨c,d,da,sl⟩:=o
 cases da <;> rfl
def GT (h B:Heap) (e:Addr) (cls:Value) (od:Option Addr) (fl:Value):Prop:=
 ∃ oe vs T oT ts,(h.get? e=some oe/\oe.cls=cls/\oe.dict=od/\oe.data=.fields vs/\vs[1]? = some (.ref T))/\B.get? T=none/\T≠e/\h.get? T=some oT/\oT.data=.fields ts/\ts[3]? = some fl
def X5 (B:Heap) (l:List Env) (e:Addr) (cls:Value) (od:Option Addr) (fl:Value) (h:Heap):Prop:=B.StaysIn h/\B.get? e=none/\h.FunFrames B l/\GT h B e cls od fl
theorem X5.at {B h:Heap} {l:List Env} {e C:Addr} {od:Option Addr} {fl:Value} (x:X5 B l e (.ref C) od fl h):Xw WL e C od h:=by
 obtain ⟨_,_,_,oe,vs,T,oT,ts,⟨a,b,c,d,_⟩,_⟩:=x
 exact ⟨oe,vs,a,b,d,c,trivial⟩
section
variable {M:Model} {A:Around} {E:Value->Shared->Prop} {s:Shared} {B:Heap} {env:Env} {outer l:List Env} {L e:Addr} {cls:Value} {od:Option Addr} {Q:Unit->Shared->Prop}
theorem LR {oe:Obj} {vs:Array Value} {first:Value} {nx:Bool} (fr:A.frames=some (env :: outer)) (ff:s.heap.FunFrames B (env :: outer)) (eL:env.frame=some L) (ge:s.heap.get? e=some oe) (sb:B.StaysIn s.heap) (eB:B.get? e=none)
  (dd:oe.data=.fields vs) (two:1<vs.size) (h:∀ h',X5 B (env :: outer) e oe.cls oe.dict (rawInt L) h'->s.heap.UpToSlots h'->Q () { s with heap:=h' }) :
  wpAny M A (frameOf env >>= fun a=>entryPlaceOf L nx >>= fun pl=>EntryCells.newEntry first a .none (rawInt L) .none pl >>= fun b=>setField (.ref e) 1 b) Q E s:=by
 have en:e∉(env :: outer).filterMap (·.frame):=fun z=>by
  obtain ⟨_,o,g1,g2⟩:=ff.mem z
  rw [ge] at g1
  cases g1
  exact g2 vs dd
 refine wpAny_bind (wpAny_frameOf_fun fr ff eL fun h1 k1=>wpAny_bind (wpAny_entryPlaceOf fun pl kp=>?_))
 unfold EntryCells.newEntry newFields
 refine wpAny_bind (wpAny_newObj_type ?_ (kp.sizeOk5 _ _ _ _ _))
 have t3:([first,Value.ref L,.none,rawInt L,.none]++(if pl.isEmpty then zBW 6 Value.none else pl)).toArray[3]? = some (rawInt L):=by
  first | (simp;done) | (rcases kp with rfl | ⟨_,_,_,_,_,_,_,rfl⟩ <;> simp)
 generalize ([first,Value.ref L,.none,rawInt L,.none]++(if pl.isEmpty then zBW 6 Value.none else pl)).toArray=ts at t3 ⊢
 have g1:h1.get? e=some oe:=(k1.2.1 e en).trans ge
 have sb1:B.StaysIn h1:=fun b o q=>(k1.2.1 b fun z=>by rw [(ff.mem z).1] at q;cases q).trans (sb b o q)
 have eT:h1.objs.size≠e:=fun z=>zBU _ (by have:=zAS g1;rw [<-z] at this;exact this)
 have g2:=zAG (h:=h1) ({ cls:=.type "traceback",dict:=none,data:=.fields ts }:Obj) g1
 have d3:=Obj.data_mapFields dd (·.setIfInBounds 1 (Value.ref h1.objs.size))
 have g3:=zA1 (Obj.mapFields (·.setIfInBounds 1 (Value.ref h1.objs.size))) g2 (Obj.isFreed_of_fields d3)
 have gT:=(zAl (h1.push ({ cls:=.type "traceback",dict:=none,data:=.fields ts }:Obj)) (Obj.mapFields (·.setIfInBounds 1 (Value.ref h1.objs.size))) eT.symm).trans (zAT h1 rfl)
 have stay:∀ b o,b≠e->h1.get? b=some o->((h1.push ({ cls:=.type "traceback",dict:=none,data:=.fields ts }:Obj)).update e (Obj.mapFields (·.setIfInBounds 1 (Value.ref h1.objs.size)))).get? b=some o:=fun b o n q=>
  (zAl _ _ n.symm).trans (zAG _ q)
 have notE:∀ b o,s.heap.get? b=some o->(∀ ws,o.data≠.fields ws)->b≠e:=fun b o q nf z=>by
  rw [z,ge] at q
  cases q
  exact nf vs dd
 refine wpAny_setField g2 dd two (h _ ⟨fun b o q=>stay b o (fun z=>by rw [z,eB] at q;cases q) (sb1 b o q),eB,ff.of_keeps fun b o q nf=>?_,_,_,h1.objs.size,_,_,⟨g3,Obj.cls_mapFields _ _,AD _ _,d3,by simp [two]⟩,sb1.fresh,eT,gT,rfl,t3⟩ fun b o q nf=>?_)
 ·obtain ⟨sl,z⟩:=k1.2.2 b o q
  exact ⟨_,stay b _ (notE b o q nf) z,rfl⟩
 ·obtain ⟨sl,z⟩:=k1.2.2 b o q
  exact ⟨sl,stay b _ (notE b o q nf) z⟩
theorem Pn {fl:Value} (x:X5 B l e cls od fl s.heap) (h:∀ h',X5 B l e cls od .none h'->s.heap.UpToSlots h'->Q () { s with heap:=h' }):wpAny M A (setFlight (.ref e) none) Q E s:=by
 obtain ⟨sb,eB,ff,oe,vs,T,oT,ts,⟨ge,c1,c2,dd,v1⟩,TB,Te,gT,dT,t3⟩:=x
 have n3:3<ts.size:=(zBJ.mp t3).1
 have far:∀ b,b≠T->(s.heap.update T (Obj.mapFields (·.setIfInBounds 3 ((none:Option Addr).elim Value.none fun f=>rawInt f)))).get? b=s.heap.get? b:=fun b n=>zAl _ _ n.symm
 have notT:∀ b o,s.heap.get? b=some o->(∀ ws,o.data≠.fields ws)->b≠T:=fun b o q nf z=>by
  rw [z,gT] at q
  cases q
  exact nf ts dT
 unfold setFlight
 refine wpAny_bind (wpAny_field ge dd v1 ?_)
 rw [if_pos (show (Value.ref T != Value.none)=true by simp)]
 refine wpAny_setField gT dT n3 (h _ ⟨fun b o q=>(far b fun z=>by rw [z,TB] at q;cases q).trans (sb b o q),eB,ff.of_keeps fun b o q nf=>⟨o,(far b (notT b o q nf)).trans q,rfl⟩,?_⟩ fun b o q nf=>⟨o.slots,(far b (notT b o q nf)).trans q⟩)
 exact ⟨oe,vs,T,_,_,⟨(far e Te.symm).trans ge,c1,c2,dd,v1⟩,TB,Te,zA1 _ gT (Obj.isFreed_of_fields (Obj.data_mapFields dT _)),Obj.data_mapFields dT _,by simp [n3]⟩
theorem EK {oe:Obj} {vs:Array Value} (fr:A.frames=some (env :: outer)) (ff:s.heap.FunFrames B (env :: outer)) (eL:env.frame=some L) (ge:s.heap.get? e=some oe) (sb:B.StaysIn s.heap) (eB:B.get? e=none)
  (dd:oe.data=.fields vs) (v1:vs[1]? = some .none) (h:∀ h',X5 B (env :: outer) e oe.cls oe.dict (rawInt L) h'->s.heap.UpToSlots h'->Q () { s with heap:=h' }):wpAny M A (noteFrame (.ref e) env) Q E s:=by
 unfold noteFrame
 simp only [eL]
 refine wpAny_bind (wpAny_field ge dd v1 ?_)
 rw [if_neg (by decide)]
 exact LR fr ff eL ge sb eB dd (zBJ.mp v1).1 h
theorem KC (fr:A.frames=some (env :: outer)) (eL:env.frame=some L) (x:X5 B (env :: outer) e cls od .none s.heap) (h:∀ h',X5 B (env :: outer) e cls od (rawInt L) h'->s.heap.UpToSlots h'->Q () { s with heap:=h' }) :
  wpAny M A (noteFrame (.ref e) env) Q E s:=by
 obtain ⟨sb,eB,ff,oe,vs,T,oT,ts,⟨ge,c1,c2,dd,v1⟩,TB,Te,gT,dT,t3⟩:=x
 subst c1 c2
 have n3:3<ts.size:=(zBJ.mp t3).1
 have far:∀ b,b≠T->(s.heap.update T (Obj.mapFields (·.setIfInBounds 3 Value.none))).get? b=s.heap.get? b:=fun b n=>zAl _ _ n.symm
 have notT:∀ b o,s.heap.get? b=some o->(∀ ws,o.data≠.fields ws)->b≠T:=fun b o q nf z=>by
  rw [z,gT] at q
  cases q
  exact nf ts dT
 unfold noteFrame
 simp only [eL]
 refine wpAny_bind (wpAny_field ge dd v1 ?_)
 rw [if_pos (show (Value.ref T != Value.none)=true by simp)]
 refine wpAny_bind (wpAny_field gT dT t3 ?_)
 rw [if_neg (show ¬ ((Value.none==rawInt L)=true) by simp [rawInt])]
 refine wpAny_bind (wpAny_setField gT dT n3 ?_)
 refine LR (s:={ s with heap:=_ }) fr (ff.of_keeps fun b o q nf=>⟨o,(far b (notT b o q nf)).trans q,rfl⟩) eL ((far e Te.symm).trans ge) (fun b o q=>(far b fun z=>by rw [z,TB] at q;cases q).trans (sb b o q)) eB dd (zBJ.mp v1).1 fun h' f' u'=>h h' f' fun b o q nf=>?_
 exact u' b o ((far b (notT b o q nf)).trans q) nf
theorem X5.less {fl:Value} {h:Heap} (x:X5 B (env :: outer) e cls od fl h):X5 B outer e cls od fl h:=by
 obtain ⟨a,b,⟨_,_,c⟩,d⟩:=x
 exact ⟨a,b,c,d⟩
theorem HJ (fr:A.frames=some (env :: outer)) (eL:env.frame=some L) (x:X5 B (env :: outer) e cls od .none s.heap) (h:∀ h',X5 B outer e cls od .none h'->s.heap.UpToSlots h'->Q () { s with heap:=h' }):wpAny M A (leaving env (.ref e)) Q E s:=by
 unfold leaving
 exact wpAny_bind (KC fr eL x fun h1 f1 u1=>Pn (s:={ s with heap:=h1 }) f1 fun h2 f2 u2=>h h2 f2.less (u1.trans u2))
theorem FY {oe:Obj} {vs:Array Value} (fr:A.frames=some (env :: outer)) (ff:s.heap.FunFrames B (env :: outer)) (eL:env.frame=some L) (ge:s.heap.get? e=some oe) (sb:B.StaysIn s.heap) (eB:B.get? e=none)
  (dd:oe.data=.fields vs) (v1:vs[1]? = some .none) (h:∀ h',X5 B outer e oe.cls oe.dict .none h'->s.heap.UpToSlots h'->Q () { s with heap:=h' }):wpAny M A (leaving env (.ref e)) Q E s:=by
 unfold leaving
 exact wpAny_bind (EK fr ff eL ge sb eB dd v1 fun h1 f1 u1=>Pn (s:={ s with heap:=h1 }) f1 fun h2 f2 u2=>h h2 f2.less (u1.trans u2))
end
theorem Le {prog:Program} {w:World} {A:Around} {E:Value->Shared->Prop} {s:Shared} {env:Env} {K:zAA} {C:Addr} {x:Sem Value} {Q:Flow->Shared->Prop} (hh:A.handled=none) (mB:zAs K C (.type "BaseException")=some true)
  (ht:zA4 K (.ref C)=some (.type "type"))
  (h:wpAny (model prog w) A x (fun v s1=>∃ e od,v=.ref e/\K.In s1.heap/\Xw Vp e C od s1.heap/\E (.ref e) s1) E s):wpAny (model prog w) A (raiseStmt env (some x) none) Q E s:=by
 unfold raiseStmt
 refine wpAny_bind (wpAny_mono h (fun v s1 h1=>?_) fun _ _ z=>z)
 obtain ⟨e,od,rfl,KX,⟨⟨oc,od',oda,osl⟩,vs,ge,c1,c2,c3,v1⟩,hE⟩:=h1
 dsimp only at c1 c2 c3
 subst c1 c2 c3
 obtain ⟨hp,g,d,tk,os⟩:=s1
 have L0:zAx (model prog w) hp (typeOf (.ref e)) (.ref C):=Y9.ty ⟨_,ge,rfl⟩ _
 have L1:=zBz (M:=model prog w) KX mB
 have L3:=zC9 (M:=model prog w) KX ht
 have ge':hp.get? e=some ⟨.ref C,od',.fields vs,osl⟩:=ge
 unfold excFromValue isExcClass isInstance isType raisedInstance setFlight
 repeat (first | with_reducible refine wpAny_loadPart_at ge' ?_ | with_reducible refine L1.at ?_ | with_reducible refine L0.at ?_ | with_reducible refine L3.at ?_ | wp_step)
 rw [show vs[1]? = some Value.none from v1]
 repeat wp_step
 all_goals first | exact wpAny_raiseNew_none hh hE | trace_state
structure VL (P:Program) (w:World) (outer:List Env) (H:Hp) (s:Shared) (ea:Addr) (cls:Value) (od:Option Addr) (H':Hp) (s':Shared):Prop where
 ex:∃ B:Heap,X5 B outer ea cls od .none s'.heap/\(∀ b o,s'.heap.get? b=some o->H' b≠none->B.get? b=some o)/\(∀ b o,s.heap.get? b=some o->H b=none->b∉frs outer->B.get? b=some o)/\(∀ b o,s.heap.get? b=some o->b∉frs outer->∃ o',B.get? b=some o')
 os:s'.os=s.os
 bare:AllBare s'.gens
 un:Un (frs outer) [] H H' s.heap s'.heap
 hok:YT P w H' s'.heap
 new:s.heap.get? ea=none
 free:H' ea=none
def XM (P:Program) (w:World):Xo:=fun outer H s E e s'=>∃ ea cls od H',e=.ref ea/\VL P w outer H s ea cls od H' s'/\E cls od H'
structure WG (X:Cx) (E:XK):Prop where
 stack:X.stack=X.env :: X.outer
 frame:X.env.frame=some X.env.locals
 ex:X.ex=[]
 calm:X.calm=true
 xe:∀ e s',wpAny (model X.prog X.w) X.A (leaving X.env e) (fun _ s''=>XM X.prog X.w X.outer X.H₀ X.s₀ E e s'') (fun e' s''=>XM X.prog X.w X.outer X.H₀ X.s₀ E e' s'') s'->X.xe e s'
theorem UT {P:Program} {w:World} {K:zAA} {mg:Str->Option Value} {base:Heap} {N:List Str} {qual:Str} {scope:Scope} {f:Addr} {cdv:Value} {A:Around} {outer:List Env} {s:Shared} {H:Hp} {E:XK} :
  WG (Xt (XM P w) P w K mg base N qual scope f cdv A outer s H E) E:=⟨rfl,rfl,rfl,rfl,fun _ _ h=>h⟩
section
variable {X:Cx} {pins:List (Addr×Obj)} {σ:St} {H H':Hp} {s s':Shared} {E:XK}
theorem WG.frs (F:WG X E):frs X.stack=X.env.locals :: X.fs:=by
 rw [F.stack]
 show List.filterMap _ (X.env :: X.outer)=_
 rw [zBI,F.frame]
 rfl
theorem WG.off (F:WG X E) (I:ZF X pins σ H s) {b:Addr} {o:Obj} (q:X.s₀.heap.get? b=some o) (n:b∉L2.frs X.outer):b∉L2.frs X.stack:=fun z=>by
 rw [F.frs] at z
 rcases zAd.mp z with z | z
 ·rw [z,I.noloc] at q;cases q
 ·exact n z
theorem WG.on (F:WG X E) {b:Addr} (n:b∈L2.frs X.outer):b∈L2.frs X.stack:=by
 rw [F.frs]
 exact zAP _ n
theorem Hy {B h3:Heap} {ea:Addr} (F:WG X E) (J:ZF X pins σ H s) (st:B.StaysIn h3) (inB:∀ b o,b≠ea->s.heap.get? b=some o->b∉L2.frs X.stack->B.get? b=some o) (sm:s.heap.UpToSlots h3) (new:X.s₀.heap.get? ea=none) :
  Un (L2.frs X.outer) [] X.H₀ H X.s₀.heap h3:=by
 have bb:=J.base
 rw [F.ex] at bb
 have ne:∀ {b:Addr} {o:Obj},X.s₀.heap.get? b=some o->b≠ea:=fun q z=>by rw [z,new] at q;cases q
 have nf:∀ {b:Addr} {o:Obj},b∈L2.frs X.stack->s.heap.get? b=some o->∀ vs,o.data≠.fields vs:=fun hb q=>NW J _ hb _ q
 refine ⟨fun b o q n hb _=>st b o (inB b o (ne q) (bb.keep b o q n hb (by simp)) (F.off J q hb)),fun b o q n hb _=>?_,bb.free,fun b o q _=>?_,bb.tups,bb.frzs,bb.tbls⟩
 ·obtain ⟨sl,e1⟩:=bb.slot b o q n hb (by simp)
  obtain ⟨sl2,e2⟩:=sm b _ e1 (nf (F.on hb) e1)
  exact ⟨sl2,e2⟩
 ·obtain ⟨o',q'⟩:=bb.there b o q (by simp)
  by_cases hb:b∈L2.frs X.stack
  ·obtain ⟨sl,e1⟩:=sm b o' q' (nf hb q')
   exact ⟨_,e1⟩
  ·exact ⟨o',st b o' (inB b o' (ne q) q' hb)⟩
theorem ZF.untrack {a:Addr} {φ:Heap->Prop} (I:ZF X pins σ (upd H a (.ext φ)) s) (hn:H a=none):ZF X pins σ H s:=by
 have nt:∀ {b:Addr} {u:HO},H b=some u->b≠a:=fun {b u} e z=>by rw [z,hn] at e;cases e
 have dn:∀ {b:Addr},upd H a (.ext φ) b=none->H b=none:=fun {b} e=>by
  by_cases z:b=a
  ·rw [z];exact hn
  ·rw [ZT z] at e;exact e
 have dt:∀ {b:Addr} {u:HO},upd H a (.ext φ) b=some u->(∀ ψ,u≠.ext ψ)->H b=some u:=fun {b u} e k=>by
  by_cases z:b=a
  ·rw [z,ZP] at e
   exact absurd (zAh.inj e).symm (k φ)
  ·rw [ZT z] at e;exact e
 refine ⟨I.ok,I.os,I.bare,⟨I.base.keep,I.base.slot,fun b ob q n hx=>dn (I.base.free b ob q n hx),I.base.there,fun b xs q=>dt (I.base.tups b xs q) (fun _ z=>nomatch z),fun b ob u q=>dt (I.base.frzs b ob u q) (fun _ z=>nomatch z),fun b ps q=>?_⟩,I.loc,I.cell,dn I.free,fun x c e=>dn (I.freeC x c e),fun p hp'=>?_,fun b u e=>?_,I.len⟩
 ·obtain ⟨more,e⟩:=I.base.tbls b ps q
  exact ⟨more,dt e (fun _ z=>nomatch z)⟩
 ·obtain ⟨e,n,r⟩:=I.pin p hp'
  exact ⟨e,dn n,r⟩
 ·have e2:upd H a (.ext φ) b=some u:=by rw [ZT (nt e)];exact e
  exact (I.hok b u e2).stay (fun _ _ _ q=>q) (fun c q=>dt q (fun _ z=>nomatch z)) fun c xs q=>dt q (fun _ z=>nomatch z)
theorem JR {ea C:Addr} {od:Option Addr} (F:WG X E) (J:ZF X pins σ H s) (new:X.s₀.heap.get? ea=none) (hn:H ea=none) (hx:Xw Vp ea C od s.heap) (hE:E (.ref C) od H):X.xe (.ref ea) s:=by
 obtain ⟨oe,vs,ge,c1,c2,c3,v1⟩:=hx
 have fr:X.A.frames=some (X.env :: X.outer):=by rw [J.ok.frames,F.stack]
 have ff:s.heap.FunFrames (zB0 s.heap (ea :: L2.frs X.stack)) (X.env :: X.outer):=by
  have:=PySem.W.funFrames_hide (as:=ea :: L2.frs X.stack) J.stack (fun env he a ha=>zAP _ (zB7.mpr ⟨env,he,ha⟩))
  rw [F.stack] at this ⊢
  exact this
 have inB:∀ b o,b≠ea->s.heap.get? b=some o->b∉L2.frs X.stack->(zB0 s.heap (ea :: L2.frs X.stack)).get? b=some o:=fun b o n q hb=>zDF _ q (fun z=>by
  rcases zAd.mp z with z | z
  ·exact n z
  ·exact hb z)
 have inT:∀ b o,s.heap.get? b=some o->H b≠none->(zB0 s.heap (ea :: L2.frs X.stack)).get? b=some o:=fun b o q n=>inB b o (fun z=>n (by rw [z];exact hn)) q fun z=>n (J.stkFree b z)
 have eB:(zB0 s.heap (ea :: L2.frs X.stack)).get? ea=none:=zDA _ (by simp)
 refine F.xe _ _ (FY fr ff F.frame ge (fun b o q=>zDJ _ q) eB c2 v1 fun h3 fl sm=>?_)
 rw [c1,c3] at fl
 refine ⟨ea,_,od,H,rfl,⟨⟨_,fl,fun b o q n=>?_,fun b o q n hb=>?_,fun b o q hb=>?_⟩,J.os,J.bare,Hy F J fl.1 inB sm new,J.hok.keptT fun b o q n=>fl.1 b o (inT b o q n),new,hn⟩,hE⟩
 ·obtain ⟨o',q'⟩:=J.hok.there n
  have q2:=fl.1 b o' (inT b o' q' n)
  have q3:h3.get? b=some o:=q
  rw [q2] at q3
  rw [<-zAh.inj q3]
  exact inT b o' q' n
 ·have bb:=J.base
  rw [F.ex] at bb
  exact inB b o (fun z=>by rw [z,new] at q;cases q) (bb.keep b o q n hb (by simp)) (F.off J q hb)
 ·obtain ⟨o',q'⟩:=J.base.there b o q (by rw [F.ex];simp)
  exact ⟨o',inB b o' (fun z=>by rw [z,new] at q;cases q) q' (F.off J q hb)⟩
theorem Mv {E1:XK} (F:WG X E) (hE:∀ cls o H,E1 cls o H->E cls o H):Wk (XM X.prog X.w) X E1:=by
 intro pins σ H s e s' I h
 obtain ⟨ea,cls,od,H',rfl,W,q⟩:=h
 obtain ⟨B,fl,inT,inB,inA⟩:=W.ex
 have fr:X.A.frames=some (X.env :: X.outer):=by rw [I.ok.frames,F.stack]
 refine F.xe _ _ (HJ fr F.frame (by rw [<-F.stack];exact fl) fun h2 fl2 sm=>?_)
 have bb:=I.base
 rw [F.ex] at bb
 have nf:∀ {b:Addr} {o:Obj},b∈L2.frs X.stack->s.heap.get? b=some o->∀ vs,o.data≠.fields vs:=fun hb q=>NW I _ hb _ q
 have toB:∀ b o,X.s₀.heap.get? b=some o->X.H₀ b=none->b∉L2.frs X.outer->B.get? b=some o:=fun b o q n hb=>inB b o (bb.keep b o q n hb (by simp)) (bb.free b o q n (by simp)) (F.off I q hb)
 have sl2:∀ b o,s.heap.get? b=some o->b∈L2.frs X.stack->∃ sl,h2.get? b=some { o with slots:=sl }:=fun b o q hb=>by
  obtain ⟨sl,e1⟩:=W.un.slot b o q (I.stkFree b hb) hb (by simp)
  obtain ⟨sl2,e2⟩:=sm b _ e1 (fun vs z=>nf hb q vs z)
  exact ⟨sl2,e2⟩
 have u:Un (L2.frs X.outer) [] X.H₀ H' X.s₀.heap h2:=by
  refine ⟨fun b o q n hb _=>fl2.1 b o (toB b o q n hb),fun b o q n hb _=>?_,fun b o q n _=>?_,fun b o q _=>?_,fun b xs q=>W.un.tups b xs (bb.tups b xs q),fun b o u q=>W.un.frzs b o u (bb.frzs b o u q),fun b ps q=>?_⟩
  ·obtain ⟨sl,e1⟩:=bb.slot b o q n hb (by simp)
   obtain ⟨sl3,e3⟩:=sl2 b _ e1 (F.on hb)
   exact ⟨sl3,e3⟩
  ·obtain ⟨o',q'⟩:=bb.there b o q (by simp)
   exact W.un.free b o' q' (bb.free b o q n (by simp)) (by simp)
  ·obtain ⟨o',q'⟩:=bb.there b o q (by simp)
   by_cases hb:b∈L2.frs X.stack
   ·obtain ⟨sl,e1⟩:=sl2 b o' q' hb
    exact ⟨_,e1⟩
   ·obtain ⟨o2,e2⟩:=inA b o' q' hb
    exact ⟨o2,fl2.1 b o2 e2⟩
  ·obtain ⟨m1,e1⟩:=bb.tbls b ps q
   obtain ⟨m2,e2⟩:=W.un.tbls b _ e1
   exact ⟨m1++m2,by rw [e2,Array.append_assoc]⟩
 refine ⟨ea,cls,od,H',rfl,⟨⟨B,fl2,fun b o q2 n=>?_,toB,fun b o q2 hb=>?_⟩,W.os.trans I.os,W.bare,u,W.hok.keptT fun b o q2 n=>fl2.1 b o (inT b o q2 n),?_,W.free⟩,hE _ _ _ q⟩
 ·obtain ⟨o',q'⟩:=W.hok.there n
  have q3:=fl2.1 b o' (inT b o' q' n)
  have q4:h2.get? b=some o:=q2
  rw [q3] at q4
  rw [<-zAh.inj q4]
  exact inT b o' q' n
 ·obtain ⟨o',q'⟩:=bb.there b o q2 (by simp)
  exact inA b o' q' (F.off I q2 hb)
 ·cases z:X.s₀.heap.get? ea with
  | none=>rfl
  | some o=>
   obtain ⟨o',q'⟩:=bb.there ea o z (by simp)
   rw [W.new] at q'
   cases q'
def Ll (C:Addr) (f:Str) (E:XK) (t:TA):TS:=fun _ σ H=>t σ H fun vs H1=>∃ y,vs=[y]/\∀ dx,H1 dx=none->E (.ref C) (some dx) (upd H1 dx (.xd [(f,y)]))
theorem Gh {k:Nat} {C fI:Addr} {f x:Str} {fd:FuncData} {ps:List Str} {e:Expr} {es:List Expr} {t:TA} {p cpos pos:Pos} (F:WG X E) (c:Xl X.K C fI f) (ht:zA4 X.K (.ref C)=some (.type "type"))
  (FI:ZK X.prog X.w X.K X.mg X.base ZV k fI fd ps (Qo X.K C fI f)) (hr:ZZ (k+1) X.A) (hg:Gl X x) (hm:X.mg x=some (.ref C)) (hb:Zq X.K fd ps [])
  (ha:PA X (e :: es) t) (hdb:(x==("__debug__" : Str))=false:=by decide) (he:starEach (e :: es) X.env=(false,eval e X.env) :: starEach es X.env:=by rfl) (hpl:(backTo cpos (starEach es X.env)).any (·.1)=false:=by rfl) :
  PS X (.Raise (some (.Call (.Name x p) (e :: es) [] cpos)) none pos) (Ll C f E t):=by
 intro pins s σ H D I h
 have hh:=I.ok.hd F.calm
 rw [arm_exec_Raise]
 refine wpAny_bind (wpAny_standAt ?_)
 refine Le hh c.exc.mB ht (wpAny_bind (wpAny_mono ?_ (fun v s3 h3=>wpAny_bind (wpAny_standAt (wpAny_pure h3))) fun _ _ z=>z))
 refine wpAny_Call_Name_kw (UA I hg hm ?_ hdb)
 refine zBn (h₀:=X.base) I.ok.mod.kin c.kp (Zb (ha cpos pins s σ H _ I h) fun us s1 ⟨vs,H1,I1,r,y,ey,q⟩=>⟨I1.kIn,?_⟩) he hpl
 subst ey
 obtain ⟨u,rfl,ry⟩:∃ u,us=[u]/\ZQ y u:=by
  cases r with
  | cons ry r0=>cases r0;exact ⟨_,rfl,ry⟩
 refine F2 I1.kIn c (by show 1<=sizeLine;rw [sizeLine_eq];omega) ?_
 have kk:∀ b o,s1.heap.get? b=some o->(Vv s1.heap C [u]).get? b=some o:=fun b o q=>zAG _ (zAG _ q)
 have e1:(Vv s1.heap C [u]).get? (s1.heap.objs.size+1)=some { cls:=.ref C,data:=.fields #[.ref s1.heap.objs.size,.none,.none,.none,.bool false,.none] }:=by heap_get
 have e0:s1.heap.get? (s1.heap.objs.size+1)=none:=zBf (zB4 _)
 have h0:H1 (s1.heap.objs.size+1)=none:=I1.hok.fresh (zB4 _)
 have new0:X.s₀.heap.get? (s1.heap.objs.size+1)=none:=by
  cases z:X.s₀.heap.get? (s1.heap.objs.size+1) with
  | none=>rfl
  | some o=>
   obtain ⟨o',q'⟩:=I1.base.there _ o z (by rw [F.ex];simp)
   rw [e0] at q'
   cases q'
 have J:=I1.newx (C:=C) (ea:=s1.heap.objs.size+1) (h':=Vv s1.heap C [u]) kk e0 ⟨_,_,e1,rfl,rfl,rfl,rfl⟩
 generalize hea:s1.heap.objs.size+1=ea at *
 have r2:ZN [V.ref ea,y] [Value.ref ea,u]:=.cons rfl (.cons ry .nil)
 have hsp:Qo X.K C fI f [V.ref ea,y] (upd H1 ea (XO Vp ea C none)) (fun v H2=>v=.non/\∃ dx,H2=upd (upd H1 dx (.xd [(f,y)])) ea (XO Vp ea C (some dx))/\H1 dx=none/\dx≠ea) E0:=by
  refine ⟨c,_,y,rfl,ZP,fun dx hd hne=>⟨rfl,dx,?_,?_,hne⟩⟩
  ·funext b
   by_cases z:b=ea
   ·rw [z,ZP,ZP]
   ·rw [ZT z,ZT z]
    by_cases z2:b=dx
    ·rw [z2,ZP,ZP]
    ·rw [ZT z2,ZT z2,ZT z]
  ·rw [ZT hne] at hd;exact hd
 have hl:([Value.ref ea,u]++([]:List Value)).length=ps.length:=by
  have e:=r2.length
  rw [FI.len _ _ _ _ hsp] at e
  exact e.symm
 refine wpAny_call (codeAny_mono (FI.run _ X.stack _ _ ⟨[Value.ref ea,u],[]⟩ _ _ _ E0 (hr.make C [u] []) (J.env0.make C [u] []) (hb _ [Value.ref ea,u] J.kIn hl) r2 hsp) fun r s' hq'=>?_)
 cases r with
 | error e=>exact (Yr pins σ _ _ e s' J hq')
 | ok fl=>
  cases fl with
  | ret u2=>
   obtain ⟨v,H',I3,rv,ev,dx,eH,nd,ne⟩:=J.after hq'
   subst ev eH
   refine ⟨rv,ea,some dx,rfl,I3.kIn,(I3.hok ea _ ZP).1,?_⟩
   have hn:upd H1 dx (.xd [(f,y)]) ea=none:=by rw [ZT (Ne.symm ne)];exact h0
   exact JR F (I3.untrack hn) new0 hn (I3.hok ea _ ZP).1 (q dx nd)
  | next=>exact False.elim hq'
  | brk=>exact False.elim hq'
  | cont=>exact False.elim hq'
end
def Li (K:zAA) (CB:Addr) (i:Nat) (ts:TS) (D:Yb) (σ:St):XK:=fun cls od H2=>∃ C,cls=.ref C/\zAs K C (.ref CB)=some true/\∀ ea,H2 ea=none ->
 ts { nx:=fun σ' H'=>D.nx (σ'.set i none) H',rt:=D.rt,bk:=fun σ' H'=>D.bk (σ'.set i none) H',ct:=fun σ' H'=>D.ct (σ'.set i none) H' } (σ.set i (some (.ref ea))) (upd H2 ea (XO WL ea C od))
theorem Jp {X:Cx} {pins:List (Addr×Obj)} {σ:St} {H H':Hp} {s s':Shared} {ea:Addr} {od:Option Addr} {B h2:Heap} {cls:Value} (I:ZF X pins σ H s) (W:VL X.prog X.w X.stack H s ea cls od H' s') (inT:∀ b o,s'.heap.get? b=some o->H' b≠none->B.get? b=some o)
  (inB:∀ b o,s.heap.get? b=some o->H b=none->b∉frs X.stack->B.get? b=some o) (inA:∀ b o,s.heap.get? b=some o->b∉frs X.stack->∃ o',B.get? b=some o') (st:B.StaysIn h2) (sm:s'.heap.UpToSlots h2) :
  ZF X pins σ H' { s' with heap:=h2 }:=by
 have sl2:∀ b o,s.heap.get? b=some o->b∈frs X.stack->∃ sl,h2.get? b=some { o with slots:=sl }:=fun b o q hb=>by
  obtain ⟨sl,e1⟩:=W.un.slot b o q (I.stkFree b hb) hb (by simp)
  obtain ⟨sl2,e2⟩:=sm b _ e1 (fun vs z=>NW I b hb o q vs z)
  exact ⟨sl2,e2⟩
 refine I.call' (s':={ s' with heap:=h2 }) W.os ⟨fun b o q n hb _=>st b o (inB b o q n hb),fun b o q n hb _=>sl2 b o q hb,W.un.free,fun b o q _=>?_,W.un.tups,W.un.frzs,W.un.tbls⟩ (W.hok.keptT fun b o q n=>st b o (inT b o q n)) W.bare (fun b hb=>absurd hb (by simp))
 by_cases hb:b∈frs X.stack
 ·obtain ⟨sl,e1⟩:=sl2 b o q hb
  exact ⟨_,e1⟩
 ·obtain ⟨o',e1⟩:=inA b o q hb
  exact ⟨o',st b o' e1⟩
section
variable {P:Program} {w:World} {K:zAA} {mg:Str->Option Value} {base:Heap}
theorem Zk.okD {x qual:Str} {st:Stmt} {f:Addr} {fd:FuncData} {N ps:List Str} {k:Nat} {sp:Sp} (F:Zk K x qual st f fd) (S:ZC N ps (Zf st)) (len:∀ vs H Q E,sp vs H Q E->vs.length=ps.length)
  (hbody:∀ (cdv:Value) (A:Around) (outer:List Env) (s:Shared) (H:Hp) (vs:List V) (Q:VK) (E:XK),ZZ k (A.deeper (envOfC qual (Zf st) s.heap.objs.size f cdv))->sp vs H Q E ->
   ∃ t,XW (Xt (XM P w) P w K mg base N qual (Zf st) f cdv A outer s H E) (Xu st) t/\t { nx:=fun _ H'=>Q .non H',rt:=Q } (Vb N vs) H):ZK P w K mg base (XM P w) (k+1) f fd ps sp:=by
 obtain ⟨oc,od,kV,doc,pm,an,cdv,ct,osl,rfl,lk,hcd⟩:=F.ex
 exact JA lk hcd S len fun A outer s H vs Q E hr hsp=>hbody cdv A outer s H vs Q E hr hsp
end
section
variable {X:Cx}
theorem NE (hu:X.A.units<cLine):YV X (compareOp .NotEq) (fun x y H Q=>∃ p b xs,x=.ref p/\y=.ref b/\ZM X.K H p xs/\ZM X.K H b []/\Q (.bl (!xs.isEmpty)) H):=by
 intro pins s σ H x y v u Q I rx ry h
 obtain ⟨p,b,xs,rfl,rfl,h1,h2,q⟩:=h
 cases rx
 cases ry
 obtain ⟨its,r1,p1,z1⟩:=I.list h1
 obtain ⟨its2,r2,p2,z2⟩:=I.list h2
 have l1:=r1.length
 have l2:=r2.length
 have e2:its2=[]:=zBy (by rw [<-l2];rfl)
 subst e2
 cases xs with
 | nil=>
  have e1:its=[]:=zBy (by rw [<-l1];rfl)
  subst e1
  exact PySem.SeqAt.RcNeAt.lists (e:=fun _=>true) p1.isList p2.isList rfl hu (fun j h1 _=>absurd h1 (by simp)) X.prog X.w X.xe _ (YS I q (by simp))
 | cons x r=>exact PySem.SeqAt.RcNeAt.lists_lengths p1.isList p2.isList (by simp;intro e;subst e;simp at l1) hu X.prog X.w X.xe _ (YS I q rfl)
end
end L2
namespace Tw
open PySem PySem.Spec L2
def Zr (i:Nat):Stmt:=PySem.Challenge.pw_twigmap_k31_ways.main.body.getD i (.Pass ⟨0,0,0,0⟩)
abbrev Nn:Stmt:=Zr 13
abbrev Qz:Stmt:=Zr 14
abbrev Q7:Stmt:=Zr 15
abbrev Oh:Stmt:=Zr 16
abbrev LB:Stmt:=Zr 17
abbrev OM:Stmt:=Zr 18
abbrev Oa:Stmt:=Zr 19
abbrev Q6:Stmt:=Zr 20
abbrev OU:Stmt:=Zr 30
abbrev NM:Stmt:=Zr 31
abbrev Ov:Stmt:=Zr 32
abbrev Mm:Stmt:=Zr 33
abbrev Oy:Stmt:=Zr 34
abbrev ML:Stmt:=Zr 35
abbrev MZ:Stmt:=Zr 37
abbrev MX:Stmt:=Zr 38
abbrev OI:Stmt:=Zr 39
abbrev ME:Stmt:=Zr 40
abbrev NY:Stmt:=Zr 41
abbrev Mq:Stmt:=Zr 42
abbrev Nl:Stmt:=Zr 45
abbrev Np:Stmt:=Zr 47
abbrev Mh:Stmt:=Zr 48
abbrev Op:Stmt:=Zr 49
abbrev NC:Stmt:=Zr 50
abbrev Pz:Stmt:=Zr 51
abbrev Qt:Stmt:=Zr 52
abbrev O3:Stmt:=Zr 53
abbrev MJ:Stmt:=Zr 54
abbrev QI:Stmt:=Zr 55
abbrev VU:Stmt:=Zr 56
abbrev Ox:Stmt:=Zr 57
abbrev Q2:Stmt:=Zr 58
abbrev NF:Stmt:=Zr 59
abbrev Nw:Stmt:=Zr 60
abbrev N8:Stmt:=Zr 61
abbrev Nh:Stmt:=Zr 62
abbrev Mc:Stmt:=Zr 63
abbrev Om:Stmt:=Zr 64
abbrev Od:Stmt:=Zr 65
abbrev N3:Stmt:=Zr 66
abbrev NJ:Stmt:=Zr 67
abbrev OY:Stmt:=Zr 68
abbrev MC:Stmt:=Zr 69
abbrev Os:Stmt:=Zr 70
abbrev Ms:Stmt:=Zr 71
abbrev Vn:Stmt:=Zr 72
structure YG (mg:Str->Option Value):Prop where
 isi:mg "isinstance" = none
 bool:mg "bool" = none
 int:mg "int" = none
 str:mg "str" = none
 tuple:mg "tuple" = none
 list:mg "list" = none
 len:mg "len" = none
 all:mg "all" = none
 abs:mg "abs" = none
 max:mg "max" = none
 min:mg "min" = none
 range:mg "range" = none
 sorted:mg "sorted" = none
 ValueError:mg "ValueError" = none
 sum:mg "sum" = none
 signs:∃ t,mg "MOST_SIGNS" = some (.int 40 t)
 things:∃ t,mg "MOST_THINGS" = some (.int 4 t)
 deep:∃ t,mg "MOST_DEEP" = some (.int 3 t)
 rows:∃ t,mg "MOST_ROWS" = some (.int 4 t)
 few:∃ t,mg "FEWEST_BRANCHES" = some (.int 2 t)
 most:∃ t,mg "MOST_BRANCHES" = some (.int 4 t)
 height:∃ t,mg "HEIGHT" = some (.int 0 t)
 least:∃ t,mg "LEAST" = some (.int 1 t)
 greatest:∃ t,mg "GREATEST" = some (.int 2 t)
 many:∃ t,mg "MANY" = some (.int 3 t)
section
variable {P:Program} {w:World} {K:zAA} {mg:Str->Option Value} {base:Heap} {f:Addr} {fd:FuncData}
theorem VE:ZC ["_law_well_here","_law_many","_law_found","_law_first","_law_second"] ["_law_well_here","_law_many"] (Zf Mh):=⟨rfl,rfl,rfl,by decide +kernel,rfl,by decide +kernel,by decide +kernel⟩
theorem Ek (F:Zk K "_law_pull" "_law_pull" Mh f fd):ZK P w K mg base ZV 1 f fd ["_law_well_here","_law_many"] Xq:=by
 refine F.ok VE (fun vs H Q E h=>?_) (fun cdv A outer s H vs Q E hr h=>?_)
 ·obtain ⟨p,m,rfl,_⟩:=h
  rfl
 obtain ⟨p,m,rfl,W,⟨hm,hlog⟩,k⟩:=h
 obtain ⟨a,b,c,d,hw,ha0,ha1,hc,hd⟩:=W.ex
 have nd:=VE.nd
 refine ⟨_,ZS (Z5 (Yn X2 (Zo Zn (pv 0) ZO (fun _ _=>rfl)) ZO (Z2 _)) (ZW (Zi ZO)) Z8)
  (ZS (Vw (Zs Wh (Zo Zn (pv 0) ZO (fun _ _=>rfl)) ZO) (Nb (pv 0) ZO Mr))
  (ZS (Z5 (Yn Vx (Zo Zn (pv 0) ZO (fun _ _=>rfl)) ZO (Z2 _))
   (ZS (Zm (i:=2) nd rfl (Or.inl rfl) (Zs UE (Zo Zn (pv 0) ZO (fun _ _=>rfl)) (pv 1)))
   (ZS (Vw (Zs G1 (Zo Zn (pv 0) ZO (fun _ _=>rfl)) (pv 1)) (Nb (pv 0) ZO Mr))
   (ZW (Zi (pv 2))))) Z8)
  (ZS (Vw (Zs Xg (Zo Zn (pv 0) ZO (fun _ _=>rfl)) ZO) (Nb (pv 0) ZO Mr))
  (ZS (Zm (i:=3) nd rfl (Or.inl rfl) (Zs UE (Zs Ua (Zs Xg (Zo Zn (pv 0) ZO (fun _ _=>rfl)) ZO) (Zs Xg ZO (Zs Ua ZO (Zo Zn (pv 0) ZO (fun _ _=>rfl))))) ZO))
  (ZS (Zm (i:=4) nd rfl (Or.inl rfl) (Zs UE (Zs Ua (Zs Xg (Zs OB (pv 3) ZO) ZO) (Zs Xg (Zs UE (pv 3) ZO) ZO)) ZO))
  (ZW (Zi (Zs UE (Zs OB (pv 4) ZO) (pv 1))))))))),?_⟩
 refine ⟨_,rfl,p,_,_,_,rfl,rfl,ZM.of hw,rfl,rfl,_,rfl,?_⟩
 refine Xs (fun _=>?_) (fun c0=>?_)
 ·exact k 0 H (Int.le_refl 0) hm W (ZE.refl p H)
 have d0:d≠0:=fun e=>c0 (decide_eq_true (by rw [e]))
 refine ⟨_,rfl,p,_,_,_,rfl,rfl,ZM.of hw,rfl,_,_,rfl,rfl,_,rfl,p,_,_,_,rfl,rfl,hw,rfl,?_⟩
 refine ⟨_,rfl,p,_,_,_,rfl,rfl,ZM.of ZP,rfl,_,_,rfl,rfl,_,rfl,?_⟩
 refine Xs (fun c1=>?_) (fun c1=>?_)
 ·refine ⟨_,rfl,p,_,_,_,rfl,rfl,ZM.of ZP,rfl,_,rfl,_,_,rfl,rfl,hm,?_⟩
  refine ⟨_,rfl,p,_,_,_,rfl,rfl,ZM.of ZP,rfl,_,rfl,_,_,rfl,rfl,⟨hm,hlog⟩,_,rfl,p,_,_,_,rfl,rfl,ZP,rfl,?_⟩
  refine ⟨_,rfl,?_⟩
  refine k (c % m) _ (zBq _ (by omega)) (zBX _ hm) ⟨a,b,c / m,d - 1,ZP,ha0,ha1,Int.ediv_nonneg hc (by omega),by omega⟩ (ZE.refl p H).upd.upd
 ·refine ⟨_,rfl,p,_,_,_,rfl,rfl,ZM.of ZP,rfl,_,_,rfl,rfl,_,rfl,p,_,_,_,rfl,rfl,ZP,rfl,?_⟩
  refine ⟨_,rfl,p,_,_,_,rfl,rfl,ZM.of ZP,rfl,_,_,rfl,rfl,_,rfl,p,_,_,_,rfl,rfl,ZM.of ZP,rfl,_,_,rfl,rfl,.inl ⟨by decide,by decide⟩,_,_,rfl,rfl,_,_,rfl,rfl,.inl ⟨by omega,by omega⟩,_,_,rfl,rfl,(by show (0:Int)<2147483629;decide),?_⟩
  generalize hx:(a+1) * (48271+7919 * (b+1)) % 2147483629=x
  have x0:0<=x:=by rw [<-hx];exact zBq _ (by decide)
  have x1:x<2147483629:=by rw [<-hx];exact zBX _ (by decide)
  refine ⟨_,rfl,_,_,rfl,rfl,⟨by decide,by decide⟩,_,_,rfl,rfl,_,rfl,_,_,rfl,rfl,(by show (0:Int)<1009;decide),_,_,rfl,rfl,_,_,rfl,rfl,.inl ⟨by omega,by omega⟩,_,_,rfl,rfl,(by show (0:Int)<1000000007;decide),?_⟩
  refine ⟨_,rfl,_,_,rfl,rfl,⟨by decide,by decide⟩,_,rfl,_,_,rfl,rfl,hm,?_⟩
  exact k _ _ (zBq _ (by omega)) (zBX _ hm) ⟨a,b+1,c,d - 1,ZP,ha0,ha1,hc,by omega⟩ (ZE.refl p H).upd.upd
theorem WU:ZC ["_law_well_here","_law_bound","_law_found","_law_j"] ["_law_well_here","_law_bound"] (Zf Op):=⟨rfl,rfl,rfl,by decide +kernel,rfl,by decide +kernel,by decide +kernel⟩
theorem Fq (F:Zk K "_law_great" "_law_great" Op f fd) (T:YG mg) (DP:ZB P w K mg base 1 "_law_pull" ["_law_well_here","_law_many"] Xq):ZK P w K mg base ZV 2 f fd ["_law_well_here","_law_bound"] Xq:=by
 refine F.ok WU (fun vs H Q E h=>?_) (fun cdv A outer s H vs Q E hr h=>?_)
 ·obtain ⟨p,m,rfl,_⟩:=h
  rfl
 obtain ⟨p,m,rfl,W,hm,k⟩:=h
 obtain ⟨a,b,c,d,hw,_⟩:=W.ex
 have nd:=WU.nd
 refine ⟨_,ZS (Z5 (Yn Vx (Zo Zn (pv 0) ZO (fun _ _=>rfl)) ZO (Z2 _)) (ZW (Zi (Zg DP hr (ZX (pv 0) (ZX (pv 1) ZG))))) Z8)
  (ZS (Zm (i:=2) nd rfl (Or.inl rfl) ZO)
  (ZS (VJ PassesOwn.never rfl (V2 rfl T.range (ZX ZO ZG)) (Y6 (i:=3) nd rfl (Or.inl rfl))
   (ZW (Zm (i:=2) nd rfl (Or.inl rfl) (Zs Xg (Zs Ua (pv 2) ZO) (Zg DP hr (ZX (pv 0) (ZX ZO ZG)))))))
  (ZW (Zi (Zs UE (pv 2) (pv 1)))))),?_⟩
 refine ⟨_,rfl,p,_,_,_,rfl,rfl,ZM.of hw,rfl,_,_,rfl,rfl,_,rfl,?_⟩
 refine Xs (fun _=>?_) (fun _=>?_)
 ·exact ⟨_,rfl,_,rfl,p,m,rfl,W,hm,k⟩
 refine ⟨8,rfl,by decide,by decide,Ue (n:=8) (fun i σ H2=>∃ (z:Int) (j:Option V),σ=[some (.ref p),some (.int m),some (.int z),j]/\ZH H2 p/\ZE p H H2) ⟨0,none,rfl,W,ZE.refl p H⟩ ?_ ?_⟩
 ·rintro i σ H2 hi ⟨z,j,rfl,W2,s2⟩
  refine ⟨_,rfl,_,_,rfl,rfl,.inr ⟨by decide,by decide⟩,_,rfl,p,62500000,rfl,W2,Y4 (by decide) (by decide),fun r H3 _ _ W3 s3=>?_⟩
  exact ⟨_,_,rfl,rfl,_,_,rfl,W3,s2.trans s3⟩
 ·rintro σ H2 ⟨z,j,rfl,W2,s2⟩
  refine ⟨_,rfl,_,rfl,_,_,rfl,rfl,hm.1,?_⟩
  exact k _ _ (zBq _ (by have:=hm.1;omega)) (zBX _ hm.1) W2 s2
end
def YD:Str:= " \"\\~!#$&'()*+,-./0123456789:;<=>?@ABCDEFGHIJKLMNOPQRSTUVWXYZ[]^_`abcdefghijklmnopqrstuvwxyz{|}"
theorem El:YD.cps.toList.length=94:=by decide +kernel
theorem JS:YD.length=94:=by decide +kernel
theorem E7:YD.cps.toList.all Wr=true:=by decide +kernel
theorem LX {i:Int} (h0:0<=i) (h1:i<94):∃ c,XQ YD.cps.toList i=some c/\Wr c=true:=by
 obtain ⟨c,e,m⟩:=UK (xs:=YD.cps.toList) h0 (by rw [El];exact h1)
 exact ⟨c,e,zAM.mp E7 c m⟩
def XB (x:Str) (i:Nat):Prop:=x.cps.size<=i/\x.cps.toList.all Wr=true
theorem XB.ok {x:Str} {i:Nat} (h:XB x i) (hi:i<=40):Wv x=true:=by
 unfold Wv
 rw [zAJ]
 exact ⟨decide_eq_true (zA7 h.1 hi),h.2⟩
theorem XB.more {x:Str} {i c:Nat} (h:XB x i) (hc:Wr c=true):XB (x++(⟨#[c]⟩:Str)) (i+1):=by
 have e:(x++(⟨#[c]⟩:Str)).cps=x.cps++#[c]:=rfl
 refine ⟨?_,?_⟩
 ·rw [e,Array.size_append];exact Nat.succ_le_succ h.1
 ·rw [e,Array.toList_append,List.all_append,h.2];simp [hc]
section
variable {P:Program} {w:World} {K:zAA} {mg:Str->Option Value} {base:Heap} {f:Addr} {fd:FuncData}
abbrev ER:List Str:=["_law_well_here","_law_signs","_law_text_here","_law_few","_law_j","_law_sign"]
theorem VF:ZC ER ["_law_well_here"] (Zf NC):=⟨rfl,rfl,rfl,by decide +kernel,rfl,by decide +kernel,by decide +kernel⟩
theorem C8 (F:Zk K "_law_text" "_law_text" NC f fd) (T:YG mg) (DP:ZB P w K mg base 1 "_law_pull" ["_law_well_here","_law_many"] Xq):ZK P w K mg base ZV 2 f fd ["_law_well_here"] QS:=by
 refine F.ok VF (fun vs H Q E h=>?_) (fun cdv A outer s H vs Q E hr h=>?_)
 ·obtain ⟨p,rfl,_⟩:=h
  rfl
 obtain ⟨p,rfl,W,k⟩:=h
 have nd:=VF.nd
 refine ⟨_,ZS (Zm (i:=1) nd rfl (Or.inl rfl) Y3) (ZS (Zm (i:=2) nd rfl (Or.inl rfl) Y3)
  (ZS (Zm (i:=3) nd rfl (Or.inl rfl) (Zg DP hr (ZX (pv 0) (ZX ZO ZG))))
  (ZS (VJ PassesOwn.never rfl (V2 rfl T.range (ZX (Zg DP hr (ZX (pv 0) (ZX (Zo Zn (Ye (ZX ZO (ZX ZO ZG))) (Zg DP hr (ZX (pv 0) (ZX ZO ZG))) (fun _ _=>rfl)) ZG))) ZG)) (Y6 (i:=4) nd rfl (Or.inl rfl))
   (ZS (Zm (i:=5) nd rfl (Or.inl rfl) Y3)
   (ZS (Z5 (Vy (Yn Vx (pv 3) ZO (Z2 _)) (V5 (Yn X2 (Zg DP hr (ZX (pv 0) (ZX ZO ZG))) ZO (Z2 _)))).pt
    (ZW (Zm (i:=5) nd rfl (Or.inl rfl) (Zo Il (pv 1) (Zg DP hr (ZX (pv 0) (ZX (Zo Zn (Ye (ZX ZO (ZX ZO ZG))) (Zs OB (pv 3) ZO) (fun _ _=>rfl)) ZG))) (fun _ _=>rfl)))) Z8)
   (ZW (Zm (i:=2) nd rfl (Or.inl rfl) (Zs FJ (pv 2) (pv 5)))))))
  (ZW (Zi (pv 2)))))),?_⟩
 refine ⟨_,rfl,p,3,rfl,W,Y4 (by decide) (by decide),fun pl H1 pl0 pl1 W1 s1=>?_⟩
 refine ⟨_,rfl,(by show 2<=sizeLine;decide),fun l hl=>?_⟩
 have W1':ZH (upd H1 l (.lst [.int 4,.int 41])) p:=W1.same (Za hl _)
 refine ⟨_,rfl,p,2,rfl,W1',Y4 (by decide) (by decide),fun r H2 r0 r1 W2 s2=>?_⟩
 have npl:l≠p:=by
  obtain ⟨xs,e⟩:=W1.some
  exact (ZY e hl).symm
 have hl2:H2 l=some (.lst [.int 4,.int 41]):=s2 l _ ZP npl
 obtain ⟨v,hv,hv'⟩:=OA (x:=V.int 4) (y:=V.int 41) r0 r1
 have hb:∃ z:Int,v=.int z/\0<z/\z<=41:=by
  rcases hv' with e | e
  ·exact ⟨4,e,by decide,by decide⟩
  ·exact ⟨41,e,by decide,by decide⟩
 obtain ⟨z,rfl,z0,z1⟩:=hb
 refine ⟨l,_,_,_,rfl,rfl,ZM.of hl2,hv,p,z,rfl,W2,Y4 z0 (by omega),fun n H3 n0 n1 W3 s3=>?_⟩
 have sA:ZE p H H3:=(s1.trans (ZE.of (Za hl _))).trans (s2.trans s3)
 refine ⟨n,rfl,by omega,by omega,Ue (n:=n.toNat) (fun i σ H4=>∃ (x:Str) (j g:Option V),σ=[some (.ref p),some (.str YD),some (.str x),some (.int pl),j,g]/\XB x i/\ZH H4 p/\ZE p H H4)
  ⟨"",none,none,rfl,⟨by decide,by decide⟩,W3,sA⟩ ?_ ?_⟩
 ·rintro i σ H4 hi ⟨x,j,g,rfl,hx,W4,s4⟩
  have fin:∀ (c:Nat) (H5:Hp),Wr c=true->ZH H5 p->ZE p H H5->∃ (y:Str) (j g:Option V),[some (V.ref p),some (.str YD),some (.str (x++(⟨#[c]⟩:Str))),some (.int pl),some (.int (0+(i:Int))),some (.str ⟨#[c]⟩)]=[some (.ref p),some (.str YD),some (.str y),some (.int pl),j,g]/\XB y (i+1)/\ZH H5 p/\ZE p H H5:=
   fun c H5 hc W5 s5=>⟨_,_,_,rfl,hx.more hc,W5,s5⟩
  have hlen:∀ c:Nat,x.length+(⟨#[c]⟩:Str).length<=sizeLine:=fun c=>by
   have h1:x.length<=i:=hx.1
   have h2:(⟨#[c]⟩:Str).length=1:=rfl
   rw [h2]
   exact nn (by omega)
  have yes:∀ H5,ZH H5 p->ZE p H H5->∃ (v:Int),0<v/\v<=94/\XQ [V.int 94,V.int 5] (pl / 2)=some (.int v):=fun H5 _ _=>by
   obtain ⟨v,e,h⟩:=OA (x:=V.int 94) (y:=V.int 5) (i:=pl / 2) (by omega) (by omega)
   rcases h with rfl | rfl
   ·exact ⟨94,by decide,by decide,e⟩
   ·exact ⟨5,by decide,by decide,e⟩
  refine ⟨_,rfl,_,_,rfl,rfl,_,rfl,?_⟩
  refine Xs (fun _=>?_) (fun _=>?_)
  ·refine Zy ?_
   refine ⟨_,rfl,_,rfl,(by show 2<=sizeLine;decide),fun l2 hl2=>?_⟩
   obtain ⟨v,v0,v1,ev⟩:=yes H4 W4 s4
   refine ⟨_,rfl,_,_,rfl,rfl,⟨by decide,by decide⟩,l2,_,_,_,rfl,rfl,ZM.of ZP,ev,p,v,rfl,W4.same (Za hl2 _),Y4 v0 (by omega),fun u H5 u0 u1 W5 s5=>?_⟩
   obtain ⟨c,ec,hc⟩:=LX u0 (by omega)
   refine ⟨YD,_,c,rfl,rfl,(by rw [JS];exact nn (by decide)),ec,?_⟩
   exact ⟨_,rfl,_,rfl,_,_,rfl,rfl,hlen c,fin c H5 hc W5 ((s4.trans (ZE.of (Za hl2 _))).trans s5)⟩
  ·refine ⟨_,rfl,p,8,rfl,W4,Y4 (by decide) (by decide),fun y H6 _ _ W6 s6=>⟨rfl,_,rfl,?_⟩⟩
   refine Xs (fun _=>?_) (fun _=>?_)
   ·refine ⟨_,rfl,_,rfl,(by show 2<=sizeLine;decide),fun l2 hl2=>?_⟩
    obtain ⟨v,v0,v1,ev⟩:=yes H6 W6 (s4.trans s6)
    refine ⟨_,rfl,_,_,rfl,rfl,⟨by decide,by decide⟩,l2,_,_,_,rfl,rfl,ZM.of ZP,ev,p,v,rfl,W6.same (Za hl2 _),Y4 v0 (by omega),fun u H5 u0 u1 W5 s5=>?_⟩
    obtain ⟨c,ec,hc⟩:=LX u0 (by omega)
    refine ⟨YD,_,c,rfl,rfl,(by rw [JS];exact nn (by decide)),ec,?_⟩
    exact ⟨_,rfl,_,rfl,_,_,rfl,rfl,hlen c,fin c H5 hc W5 (((s4.trans s6).trans (ZE.of (Za hl2 _))).trans s5)⟩
   ·exact ⟨_,rfl,_,rfl,_,_,rfl,rfl,hlen 97,fin 97 H6 (by decide) W6 (s4.trans s6)⟩
 ·rintro σ H4 ⟨x,j,g,rfl,hx,W4,s4⟩
  exact ⟨_,rfl,k x H4 (hx.ok (by omega)) W4 s4⟩
theorem V8:ZC ["_law_well_here","_law_room","_law_way_here"] ["_law_well_here","_law_room"] (Zf Pz):=⟨rfl,rfl,rfl,by decide +kernel,rfl,by decide +kernel,by decide +kernel⟩
theorem Fx {k:Nat}:ZK P w K mg base ZV k f fd ["_law_well_here","_law_room"] (Vr 0):=by
 have no:∀ vs H Q E,¬ Vr 0 vs H Q E:=fun vs H Q E h=>by
  obtain ⟨p,r,_,_,h1,_⟩:=h
  omega
 exact ⟨fun vs H Q E h=>absurd h (no vs H Q E),fun A outer s H args us vs Q E _ _ _ _ h=>absurd h (no vs H Q E)⟩
theorem GF {n:Nat} (F:Zk K "_law_key" "_law_key" Pz f fd) (T:YG mg) (DP:ZB P w K mg base 1 "_law_pull" ["_law_well_here","_law_many"] Xq) (DG:ZB P w K mg base 2 "_law_great" ["_law_well_here","_law_bound"] Xq)
  (DT:ZB P w K mg base 2 "_law_text" ["_law_well_here"] QS) (DK:ZB P w K mg base (n+2) "_law_key" ["_law_well_here","_law_room"] (Vr n)):ZK P w K mg base ZV (n+3) f fd ["_law_well_here","_law_room"] (Vr (n+1)):=by
 refine F.ok V8 (fun vs H Q E h=>?_) (fun cdv A outer s H vs Q E hr h=>?_)
 ·obtain ⟨p,r,rfl,_⟩:=h
  rfl
 obtain ⟨p,r,rfl,W,hn,k⟩:=h
 have nd:=V8.nd
 have hr1:=hr.mono (show 1<=n+2 by omega)
 have hr2:=hr.mono (show 2<=n+2 by omega)
 refine ⟨_,ZS (Zm (i:=2) nd rfl (Or.inl rfl) (Zg DP hr1 (ZX (pv 0) (ZX ZO ZG))))
  (ZS (Z5 (Yn Ug (pv 2) ZO (Z2 _)) (ZW (Zi (Zs Wh (Zg DP hr1 (ZX (pv 0) (ZX ZO ZG))) ZO))) Z8)
  (ZS (Z5 (Yn X2 (pv 2) ZO (Z2 _)) (ZW (Zi (Zs Xg (Zs Wh (Zg DG hr2 (ZX (pv 0) (ZX (Zs Wh (Zs Ua ZO (Zs Qe ZO ZO)) ZO) ZG))) (Zs Qe ZO ZO)) ZO))) Z8)
  (ZS (Z5 (Vy (Yn Ug (pv 2) ZO (Z2 _)) (V5 (Yn X2 (pv 1) ZO (Z2 _)))).pt (ZW (Zi (Zg DT hr2 (ZX (pv 0) ZG)))) Z8)
  (ZW (Zi (Xh Uw rfl T.tuple Vo (ZX (Xr [0,1] ["_law_well_here","_law_room"] rfl (V2 rfl T.range (ZX (Zg DP hr1 (ZX (pv 0) (ZX ZO ZG))) ZG)) (fun _ _ _ _ _=>X6)
   (fun _ _ _ _ _=>Zg DK hr (ZX (pv 1) (ZX (Zs Wh (pv 2) ZO) ZG))) ⟨rfl,.inl rfl,rfl,rfl,.inl rfl,rfl,trivial⟩) ZG))))))),?_⟩
 refine ⟨_,rfl,p,8,rfl,W,Y4 (by decide) (by decide),fun y H1 y0 y1 W1 s1=>?_⟩
 refine ⟨_,rfl,_,_,rfl,rfl,_,rfl,?_⟩
 refine Xs (fun _=>?_) (fun c1=>?_)
 ·refine ⟨_,rfl,p,41,rfl,W1,Y4 (by decide) (by decide),fun u H2 u0 u1 W2 s2=>⟨_,_,rfl,rfl,?_⟩⟩
  refine k (.int (u - 20)) (.int (u - 20)) H2 (ZD.int _) ?_ W2 (s1.trans s2)
  rw [KT.fits]
  have e:(10:Nat) ^ 60 > 1000:=by decide
  exact decide_eq_true (by omega)
 refine ⟨_,rfl,rfl,_,rfl,?_⟩
 refine Xs (fun _=>?_) (fun c2=>?_)
 ·refine ⟨_,rfl,_,_,rfl,rfl,⟨by decide,by decide,by decide⟩,_,_,rfl,rfl,.inl ⟨by decide,by decide⟩,_,_,rfl,rfl,p,_,rfl,W1,Y4 (by decide +kernel) (by decide +kernel),fun u H2 u0 u1 W2 s2=>?_⟩
  refine ⟨_,_,rfl,rfl,⟨by decide,by decide,by decide⟩,_,_,rfl,rfl,_,_,rfl,rfl,?_⟩
  refine k _ (.int _) H2 (ZD.int _) ?_ W2 (s1.trans s2)
  have e:((10:Int) ^ (60:Int).toNat)=((10 ^ 60:Nat):Int):=by decide +kernel
  rw [e] at u1
  rw [KT.fits,e]
  generalize (10 ^ 60:Nat)=N at *
  exact decide_eq_true (by omega)
 have txt:QS ([.ref p]++[]) H1 Q E0:=⟨p,rfl,W1,fun x H2 hx W2 s2=>k (.str x) (.str x) H2 (ZD.str x) (by rw [KT.fits];exact hx) W2 (s1.trans s2)⟩
 refine ⟨_,rfl,_,_,rfl,rfl,_,rfl,?_⟩
 refine Xs (fun _=>?_) (fun _=>?_)
 ·exact Zy ⟨_,rfl,txt⟩
 refine ⟨_,rfl,rfl,_,rfl,?_⟩
 refine Xs (fun _=>?_) (fun c3=>?_)
 ·exact ⟨_,rfl,txt⟩
 have r0:r≠0:=fun e=>c3 (decide_eq_true (by rw [e];rfl))
 refine ⟨_,rfl,p,5,rfl,W1,Y4 (by decide) (by decide),fun u H2 u0 u1 W2 s2=>⟨u,rfl,by omega,by omega,?_⟩⟩
 have sB:ZE p H H2:=s1.trans s2
 refine X7 (n:=u.toNat) (fun i x=>x=.int (0+(i:Int))) (fun D i ys H3=>ZH H3 p/\ZE p H H3/\D≠p/\H D=none/\∃ ts,KeysAt H3 ts ys/\ts.length=i/\fitsL ts (r - 1)=true) (Yp (by omega))
  (fun D i ys H3 hi _=>hi) (fun D i ys H3 x H4 hi _ hy=>hy) (fun D ys H3 _=>zAH _) (fun D hD=>?_) (fun D i ys H3 x eD hl hi hx hP R hR=>?_) (fun D ys H3 eD hP=>?_)
 ·have nD:D≠p:=by
   obtain ⟨xs,e⟩:=W2.some
   exact (ZY e hD).symm
  have nH:H D=none:=by
   cases e:H D with
   | none=>rfl
   | some o=>rw [sB D o e nD] at hD;cases hD
  exact ⟨W2.same (Za hD _),sB.trans (ZE.of (Za hD _)),nD,nH,[],.nil,rfl,by rw [fitsL]⟩
 ·obtain ⟨W3,s3,nD,nH,ts,hk,hlen,hf⟩:=hP
  have er:(r:Int) - 1=((r - 1:Nat):Int):=by omega
  refine ⟨_,rfl,_,rfl,_,_,rfl,rfl,p,r - 1,congrArg (fun z=>[V.ref p,V.int z]) er,W3,by omega,fun v t H4 hv ht W4 s4=>?_⟩
  have eD4:=s4 D _ eD nD
  have sD:ZE D H4 (upd H4 D (.lst (ys++[v]))):=(ZE.refl D H4).upd
  have tD:Zu H4 (upd H4 D (.lst (ys++[v]))):=sD.tups eD4
  refine hR v H4 eD4 ⟨W4.stay sD nD.symm,fun b o e n=>?_,nD,nH,ts++[t],((KeysAt.mono (s4.tupsW W3) _ _ hk).append (.cons hv .nil)).mono tD _ _,by simp [hlen],?_⟩
  ·rw [ZT (ZY e nH)]
   exact (s3.trans s4) b o e n
  ·rw [QG] at hf ⊢
   rw [List.all_append,hf]
   simp [ht]
 ·obtain ⟨W3,s3,nD,nH,ts,hk,hlen,hf⟩:=hP
  refine ⟨D,ys,rfl,.inl ⟨ZM.of eD,fun l hl=>?_⟩⟩
  have sl:=Za hl (.tup ys)
  refine k (.ref l) (.tup ts) _ (.tup ZP (hk.mono (ZA.tups sl) _ _)) ?_ (W3.same sl) (s3.trans (ZE.of sl))
  rw [KT.fits,hf,Bool.and_true,zAJ]
  exact ⟨decide_eq_true (by omega),decide_eq_true (by omega)⟩
end
section
variable {P:Program} {w:World} {K:zAA} {mg:Str->Option Value} {base:Heap} {f:Addr} {fd:FuncData}
abbrev EB:List Str:=["_law_script","_law_k","_law_left","_law_cell","_law_digits"]
theorem VC:ZC EB ["_law_script","_law_k"] (Zf Np):=⟨rfl,rfl,rfl,by decide +kernel,rfl,by decide +kernel,by decide +kernel⟩
theorem D3 (F:Zk K "_law_well" "_law_well" Np f fd) (T:YG mg):ZK P w K mg base ZV 1 f fd ["_law_script","_law_k"] (Pq K):=by
 refine F.ok VC (fun vs H Q E h=>?_) (fun cdv A outer s H vs Q E hr h=>?_)
 ·obtain ⟨a,ns,k,rfl,_⟩:=h
  rfl
 obtain ⟨a,ns,k,rfl,hS,hn,k0,k1,q⟩:=h
 have nd:=VC.nd
 refine ⟨_,ZS (Zm (i:=2) nd rfl (Or.inl rfl) (Zo Zn (Ye (ZX ZO (ZX ZO ZG))) (Xh QA rfl T.int Va (ZX (Xm X2 (pv 1) ZO (Z2 _)) ZG)) (fun _ _=>rfl)))
  (ZS (Zm (i:=3) nd rfl (Or.inl rfl) (Zo Zn (Zs Pc (Xh UC rfl T.list Vc (ZX (pv 0) ZG)) (Ye (ZX ZO ZG))) (Zs UE (pv 1) (Zw (O0 rfl) rfl T.max Pb (ZX ZO (ZX (Zw XH rfl T.len XA (ZX (pv 0) ZG)) ZG)))) (fun _ _=>rfl)))
  (ZS (Zm (i:=4) nd rfl (Or.inl rfl) (Zs Ua (Zw Ou rfl T.abs Mn (ZX (pv 3) ZG)) (Xh QA rfl T.int Va (ZX (VY (Xm CV (Zw Ou rfl T.abs Mn (ZX (pv 3) ZG)) (Zs Qe ZO ZO) (Z2 _)) (UD (Xm Ug (pv 1) (Zw XH rfl T.len XA (ZX (pv 0) ZG)) (Z2 _)))) ZG))))
  (ZW (Zi (Ye (ZX (Zs UE (pv 3) ZO) (ZX (Zs Ua ZO (pv 1)) (ZX (pv 4) (ZX (pv 2) ZG))))))))),?_⟩
 refine ⟨(by show 2<=sizeLine;decide),fun l1 hl1=>?_⟩
 have g1:=Za hl1 (.lst [V.int 240,V.int 2400])
 refine ⟨_,rfl,rfl,.inr ⟨_,rfl,?_⟩⟩
 obtain ⟨lv,elv,hlv⟩:∃ z:Int,XQ [V.int 240,V.int 2400] (if decide (V.int k=V.int 0)=true then 1 else 0)=some (.int z)/\0<=z:=by
  split
  ·exact ⟨2400,rfl,by decide⟩
  ·exact ⟨240,rfl,by decide⟩
 refine ⟨l1,_,_,_,rfl,rfl,ZM.of ZP,elv,?_⟩
 refine ⟨_,rfl,a,_,rfl,.inl (g1.seq hS),fun l2 hl2=>?_⟩
 have g2:=g1.trans (Za hl2 (.lst (ns.map V.int)))
 refine ⟨(by show 1<=sizeLine;decide),fun l3 hl3=>?_⟩
 have g3:=g2.trans (Za hl3 (.lst [V.int 0]))
 have n23:l2≠l3:=ZY ZP hl3
 refine ⟨l2,l3,_,_,rfl,rfl,(by rw [ZT n23];exact ZP),ZP,(by rw [zAD];exact nn (by show ns.length+1<=1000;omega)),fun l4 hl4=>?_⟩
 have g4:=g3.trans (Za hl4 (.lst (ns.map V.int++[V.int 0])))
 refine ⟨_,rfl,_,rfl,a,_,rfl,.inl (g4.seq hS),_,_,rfl,?_⟩
 have hlm:(ns.map V.int).length=ns.length:=zAD _
 generalize hM:(if (((ns.map V.int).length:Nat):Int) > 1 then (((ns.map V.int).length:Nat):Int) else 1)=M
 have M1:1<=M/\M<=(ns.length:Int)+1:=by
  rw [hlm] at hM
  rw [<-hM]
  split <;> omega
 refine ⟨_,_,rfl,rfl,by omega,?_⟩
 have i0:0<=k % M:=zBq _ (by omega)
 have i1:k % M<M:=zBX _ (by omega)
 obtain ⟨cv,ecv,mcv⟩:=UK (xs:=ns.map V.int++[V.int 0]) i0 (by rw [zAL,zAD,zBw];omega)
 obtain ⟨cell,rfl⟩:∃ z:Int,cv=.int z:=by
  rcases zAg.mp mcv with m | m
  ·obtain ⟨z,_,e⟩:=zAf.mp m
   exact ⟨z,e.symm⟩
  ·exact ⟨0,zAQ.mp m⟩
 refine ⟨l4,_,_,_,rfl,rfl,ZM.of ZP,ecv,?_⟩
 have dig:∀ b:Bool,0<=(if cell<0 then -cell else cell) * (if b=true then 1 else 0):=fun b=>by
  cases b
  ·simp
  ·simp;split <;> omega
 have cm:∀ (x:Int) (b:Bool),Vm x (if b=true then 1 else 0):=fun x b=>.inr (by cases b <;> exact ⟨by decide,by decide⟩)
 have done:∀ (z:Int) (H5:Hp),0<=z->ZA H H5->∀ l5,H5 l5=none->Q (.ref l5) (upd H5 l5 (.lst [.int (cell % 2147483647),.int (1000 * k),.int z,.int lv])):=fun z H5 z0 s5 l5 hl5=>
  q l5 _ (s5.free hl5) (s5.trans (Za hl5 _)) ⟨_,_,_,_,ZP,zBq _ (by decide),zBX _ (by decide),z0,hlv⟩
 refine ⟨_,rfl,_,rfl,_,rfl,_,rfl,_,_,rfl,rfl,⟨by decide,by decide,by decide⟩,_,_,rfl,rfl,_,rfl,?_⟩
 refine Xs (fun _=>?_) (fun _=>?_)
 ·refine ⟨_,rfl,_,rfl,a,_,rfl,.inl (g4.seq hS),_,_,rfl,rfl,.inr ⟨_,rfl,_,_,rfl,rfl,cm _ _,?_⟩⟩
  refine ⟨_,rfl,_,_,rfl,rfl,(by show (0:Int)<2147483647;decide),_,rfl,_,_,rfl,rfl,.inl ⟨by decide,by decide⟩,_,rfl,_,rfl,(by show 4<=sizeLine;decide),fun l5 hl5=>?_⟩
  exact done _ _ (dig _) g4 l5 hl5
 ·refine .inr ⟨_,rfl,_,_,rfl,rfl,cm _ false,?_⟩
  refine ⟨_,rfl,_,_,rfl,rfl,(by show (0:Int)<2147483647;decide),_,rfl,_,_,rfl,rfl,.inl ⟨by decide,by decide⟩,_,rfl,_,rfl,(by show 4<=sizeLine;decide),fun l5 hl5=>?_⟩
  exact done _ _ (dig false) g4 l5 hl5
theorem Gx:ZC ["number"] ["number"] (Zf Oh):=⟨rfl,rfl,rfl,by decide +kernel,rfl,by decide +kernel,by decide +kernel⟩
theorem CD (F:Zk K "has_few_figures" "has_few_figures" Oh f fd) (T:YG mg):ZK P w K mg base ZV 1 f fd ["number"] PV:=by
 refine F.ok Gx (fun vs H Q E h=>?_) (fun cdv A outer s H vs Q E hr h=>?_)
 ·obtain ⟨i,rfl,_⟩:=h
  rfl
 obtain ⟨i,rfl,q⟩:=h
 refine ⟨_,ZW (Zi (Xm Ug (Zw Ou rfl T.abs Mn (ZX (pv 0) ZG)) (Zs Qe ZO ZO) (Z2 _))),?_⟩
 refine ⟨_,rfl,_,rfl,_,_,rfl,rfl,⟨by decide,by decide,by decide⟩,_,_,rfl,rfl,?_⟩
 have e:=CA i
 rw [<-e] at q
 exact q
theorem C0:ZC ["sign"] ["sign"] (Zf LB):=⟨rfl,rfl,rfl,by decide +kernel,rfl,by decide +kernel,by decide +kernel⟩
theorem CF (F:Zk K "is_sign" "is_sign" LB f fd):ZK P w K mg base ZV 1 f fd ["sign"] OC:=by
 refine F.ok C0 (fun vs H Q E h=>?_) (fun cdv A outer s H vs Q E hr h=>?_)
 ·obtain ⟨c,rfl,_⟩:=h
  rfl
 obtain ⟨c,rfl,q⟩:=h
 refine ⟨_,ZW (Zi (FX J4 J4 Y3 (pv 0) Y3)),?_⟩
 have e1:(zAy " ").cps.toList=[32]:=by decide +kernel
 have e2:(zAy "~").cps.toList=[126]:=by decide +kernel
 have e:=E4 c
 refine ⟨_,rfl,_,_,rfl,rfl,_,rfl,?_⟩
 refine Xs (fun h1=>?_) (fun h1=>?_)
 ·refine ⟨_,_,rfl,rfl,?_⟩
  have h1':(!decide ([c]<[32]))=true:=by rw [<-e1];exact h1
  rw [h1',zCE] at e
  rw [<-e,<-e2] at q
  exact q
 ·have h1':(!decide ([c]<[32]))=false:=by rw [<-e1];exact Bool.eq_false_iff.mpr h1
  rw [h1',zBh] at e
  rw [<-e] at q
  exact q
end
structure Zd (K:zAA) (mg:Str->Option Value) (x:Str) (st:Stmt) (ps:List Str):Prop where
 ex:∃ f fd,Zk K x x st f fd/\Zq K fd ps []/\mg x=some (.ref f)
theorem Zd.of {P:Program} {w:World} {K:zAA} {mg:Str->Option Value} {base:Heap} {x:Str} {st:Stmt} {ps:List Str} {k:Nat} {sp:Sp} (L:Zd K mg x st ps) (h:∀ f fd,Zk K x x st f fd->ZK P w K mg base ZV k f fd ps sp):ZB P w K mg base k x ps sp:=by
 obtain ⟨f,fd,F,b,m⟩:=L.ex
 exact ⟨f,fd,h f fd F,b,F.kp,m⟩
theorem Q8 {K:zAA} {h:Heap} {mg:Str->Option Value} {x:Str} {st:Stmt} {ps:List Str} {f:Addr} {od an:Option Addr} {sl:Array (Option Value)} {oc kV dc pm cd ct:Value} (X:K.In h) (G:h.Ns mainGlobals mg)
  (a:zAY K mainGlobals x=some (some (.ref f))) (l:K.lookup f=some ⟨oc,od,.func (zBA x x (Wc st) (Xu st) (Zf st) .none kV dc pm an cd ct),sl⟩) (c:zBS K cd x=true) (k:zAp K (.ref f)=true)
  (hb:∀ (kV doc pm:Value) (an:Option Addr) (cdv ct:Value) (us:List Value),us.length=ps.length->bindArgs (zBA x x (Wc st) (Xu st) (Zf st) .none kV doc pm an cdv ct) ⟨us,[]⟩=pure (ps.zip us)):Zd K mg x st ps:=
 ⟨f,_,Vq (st:=st) l c k,(Vq (st:=st) l c k).binds hb,zAt X G a⟩
section
variable {P:Program} {w:World} {K:zAA} {mg:Str->Option Value} {base:Heap}
theorem KP (T:YG mg) (L:Zd K mg "_law_key" Pz ["_law_well_here","_law_room"]) (DP:ZB P w K mg base 1 "_law_pull" ["_law_well_here","_law_many"] Xq) (DG:ZB P w K mg base 2 "_law_great" ["_law_well_here","_law_bound"] Xq)
  (DT:ZB P w K mg base 2 "_law_text" ["_law_well_here"] QS):∀ n:Nat,ZB P w K mg base (n+2) "_law_key" ["_law_well_here","_law_room"] (Vr n)
 | 0=>L.of fun _ _ _=>Fx
 | n+1=>L.of fun _ _ F=>GF F T DP DG DT (KP T L DP DG DT n)
end
def PZ (n:Nat):Sp:=fun vs H Q _=>∃ (v:V) (t:TG) (N:Addr->Prop) (r:Nat),vs=[v,.int (r:Int)]/\Zh N H t v/\t.neat/\r<n/\∀ H',ZA H H'->Q (.bl (t.fits r)) H'
def Q0:Sp:=fun vs H Q _=>∃ (v:V) (t:TG) (N:Addr->Prop),vs=[v]/\Zh N H t v/\t.neat/\∀ H',ZA H H'->Q (.bl (t.fits 3)) H'
section
variable {P:Program} {w:World} {K:zAA} {mg:Str->Option Value} {base:Heap} {f:Addr} {fd:FuncData}
theorem Fc {sp:Sp} {k:Nat} {ps:List Str} (no:∀ vs H Q E,¬ sp vs H Q E):ZK P w K mg base ZV k f fd ps sp:=
 ⟨fun vs H Q E h=>absurd h (no vs H Q E),fun A outer s H args us vs Q E _ _ _ _ h=>absurd h (no vs H Q E)⟩
theorem GC:ZC ["thing","room"] ["thing","room"] (Zf Q7):=⟨rfl,rfl,rfl,by decide +kernel,rfl,by decide +kernel,by decide +kernel⟩
theorem DQ {n:Nat} (F:Zk K "fits" "fits" Q7 f fd) (T:YG mg) (DW:ZB P w K mg base 1 "has_few_figures" ["number"] PV) (DS:ZB P w K mg base 1 "is_sign" ["sign"] OC)
  (DF:ZB P w K mg base (n+1) "fits" ["thing","room"] (PZ n)):ZK P w K mg base ZV (n+2) f fd ["thing","room"] (PZ (n+1)):=by
 refine F.ok GC (fun vs H Q E h=>?_) (fun cdv A outer s H vs Q E hr h=>?_)
 ·obtain ⟨v,t,N,r,rfl,_⟩:=h
  rfl
 obtain ⟨v,t,N,r,rfl,hv,hq,hn,k⟩:=h
 have hr1:=hr.mono (show 1<=n+1 by omega)
 obtain ⟨t1,m1⟩:=T.signs
 obtain ⟨t2,m2⟩:=T.things
 refine ⟨_,ZS (Z5 (Yu (Zw WC rfl T.isi Xi (ZX (pv 0) (ZX (X4 (v:=.ty "bool") rfl T.bool IX rfl) ZG)))) (ZW (Zi Y8)) Z8)
  (ZS (Z5 (Yu (Zw WC rfl T.isi Xi (ZX (pv 0) (ZX (X4 (v:=.ty "int") rfl T.int Va rfl) ZG)))) (ZW (Zi (Zg DW hr1 (ZX (pv 0) ZG)))) Z8)
  (ZS (Z5 (Yu (Zw WC rfl T.isi Xi (ZX (pv 0) (ZX (X4 (v:=.ty "str") rfl T.str Qb rfl) ZG))))
   (ZW (Zi (VY (Xm U4 (Zw GO rfl T.len XA (ZX (pv 0) ZG)) (Xa (v:=.int 40) rfl m1 ⟨_,rfl⟩) (Z2 _))
    (UD (Zw (Ps rfl) rfl T.all PJ (ZX (Xr [] [] rfl (Cc (pv 0)) (fun _ _ _ _ _=>X6) (fun _ _ _ _ _=>Zg DS hr1 (ZX (pv 0) ZG)) trivial) ZG)))))) Z8)
  (ZS (Z5 (Yu (Zw WC rfl T.isi Xi (ZX (pv 0) (ZX (X4 (v:=.ty "tuple") rfl T.tuple Vo rfl) ZG))))
   (ZW (Zi (VY (Xm Vx (pv 1) ZO (Z2 _)) (VY (Xm U4 (Zw XH rfl T.len XA (ZX (pv 0) ZG)) (Xa (v:=.int 4) rfl m2 ⟨_,rfl⟩) (Z2 _))
    (UD (Zw (Ps rfl) rfl T.all PJ (ZX (Xr [1] ["room"] rfl (Px (pv 0)) (fun _ _ _ _ _=>X6) (fun _ _ _ _ _=>Zg DF hr (ZX (pv 0) (ZX (Zs Wh (pv 1) ZO) ZG))) ⟨rfl,.inl rfl,rfl,trivial⟩) ZG))))))) Z8)
  (ZW (Zi Y8))))),?_⟩
 cases t with
 | int i=>
  have ev:v=.int i:=by rw [Zh] at hv;exact hv
  subst ev
  refine ⟨_,rfl,_,_,_,_,rfl,.int i,LZ,_,rfl,Zp ?_⟩
  refine ⟨_,rfl,_,_,_,_,rfl,.int i,Pj,_,rfl,Zy ?_⟩
  have kk:=k H (ZA.refl H)
  rw [TG.fits] at kk
  exact ⟨_,rfl,i,rfl,kk⟩
 | str x=>
  have ev:v=.str x:=by rw [Zh] at hv;exact hv
  subst ev
  have hlen:x.length<=1000:=by rw [TG.neat] at hq;exact hq
  refine ⟨_,rfl,_,_,_,_,rfl,.str x,Bz,_,rfl,Zp ?_⟩
  refine ⟨_,rfl,_,_,_,_,rfl,.str x,Q1,_,rfl,Zp ?_⟩
  refine ⟨_,rfl,_,_,_,_,rfl,.str x,U9,_,rfl,Zy ?_⟩
  refine ⟨_,rfl,x,rfl,nn hlen,_,_,rfl,rfl,_,rfl,?_⟩
  refine Xs (fun c=>?_) (fun c=>?_)
  ·have c40:x.length<=40:=by have:=of_decide_eq_true c;omega
   refine ⟨_,rfl,x,rfl,?_⟩
   have hsz:x.cps.size<=40:=c40
   refine X7 (n:=x.cps.size) (fun i z=>∃ c,x.cps[i]? = some c/\z=.str ⟨#[c]⟩) (fun D i ys H3=>ZA H H3/\H D=none/\ys=((x.cps.toList.take i).map Wr).map V.bl) (Yp (by omega))
    (fun D i ys H3 hi _=>hi) (fun D i ys H3 z H4 hi _ hy=>hy) (fun D ys H3 _=>rfl) (fun D hD=>⟨Za hD _,hD,rfl⟩) (fun D i ys H3 z eD hl hi hz hP R hR=>?_) (fun D ys H3 eD hP=>?_)
   ·obtain ⟨c,hc,rfl⟩:=hz
    obtain ⟨s3,nD,rfl⟩:=hP
    refine ⟨_,rfl,c,rfl,?_⟩
    refine hR _ H3 eD ⟨fun b o e=>by rw [ZT (ZY e nD)];exact s3 b o e,nD,?_⟩
    have hc':x.cps.toList[i]? = some c:=by simpa using hc
    rw [zAm,hc']
    simp
   ·obtain ⟨s3,nD,rfl⟩:=hP
    refine ⟨D,_,rfl,ZM.of eD,?_⟩
    have kk:=k H3 s3
    have et:(x.cps.toList.take x.cps.size)=x.cps.toList:=zAU (by simp)
    have ea:(x.cps.toList.map Wr).all id=(TG.str x).fits r:=by
     rw [TG.fits,zCP]
     unfold Wv
     rw [decide_eq_true c40,zCE]
     rfl
    rw [et,ea]
    exact kk
  ·have c40:¬ x.length<=40:=fun z=>c (decide_eq_true (by omega))
   have kk:=k H (ZA.refl H)
   rw [TG.fits] at kk
   unfold Wv at kk
   rw [decide_eq_false c40,zBh] at kk
   exact kk
 | tup l=>
  rw [Zh] at hv
  obtain ⟨a,vs,rfl,ea,hvs⟩:=hv
  have hl:=hvs.length
  rw [TG.neat] at hq
  obtain ⟨hq1,hq2⟩:=hq
  have ty:YZ K H (.ref a) (.type "tuple"):=.tup ea
  refine ⟨_,rfl,_,_,_,_,rfl,ty,Dx,_,rfl,Zp ?_⟩
  refine ⟨_,rfl,_,_,_,_,rfl,ty,Pe,_,rfl,Zp ?_⟩
  refine ⟨_,rfl,_,_,_,_,rfl,ty,Qi,_,rfl,Zp ?_⟩
  refine ⟨_,rfl,_,_,_,_,rfl,ty,N9,_,rfl,Zy ?_⟩
  refine ⟨_,rfl,_,_,rfl,rfl,_,rfl,?_⟩
  refine Xs (fun c1=>?_) (fun c1=>?_)
  ·have r0:0<r:=by
    have:=of_decide_eq_true c1
    omega
   refine ⟨_,rfl,a,vs,rfl,.inr (Zj.of ea),_,_,rfl,rfl,_,rfl,?_⟩
   refine Xs (fun c2=>?_) (fun c2=>?_)
   ·have l4:l.length<=4:=by
     have:=of_decide_eq_true c2
     omega
    refine ⟨_,rfl,a,rfl,⟨vs,Zj.of ea⟩,?_⟩
    refine X7 (n:=vs.length) (fun i z=>vs[i]? = some z) (fun D i ys H3=>ZA H H3/\H D=none/\ys=((l.take i).map fun t=>t.fits (r - 1)).map V.bl) (Yp (by omega))
     (fun D i ys H3 hi hP=>⟨vs,vs[i],Zj.of (hP.1 _ _ ea),by simp [hi]⟩) (fun D i ys H3 z H4 hi hP hy=>⟨hy.1,hy.2 vs (Zj.of (hP.1 _ _ ea))⟩) (fun D ys H3 hP=>⟨vs,Zj.of (hP.1 _ _ ea),zAH _⟩)
     (fun D hD=>⟨Za hD _,hD,rfl⟩) (fun D i ys H3 z eD hl' hi hz hP R hR=>?_) (fun D ys H3 eD hP=>?_)
    ·obtain ⟨s3,nD,rfl⟩:=hP
     obtain ⟨t,et,kt⟩:=hvs.get hz
     have er:(r:Int) - 1=((r - 1:Nat):Int):=by omega
     refine ⟨_,rfl,_,rfl,_,_,rfl,rfl,z,t,N,r - 1,congrArg (fun y=>[z,V.int y]) er,kt.mono (Ys.same s3) _ _,Lh hq2 (zAK et),by omega,fun H4 s4=>?_⟩
     refine hR _ H4 (s4 D _ eD) ⟨fun b o e=>by rw [ZT (ZY e nD)];exact s4 b o (s3 b o e),nD,?_⟩
     rw [zAm,et]
     simp
    ·obtain ⟨s3,nD,rfl⟩:=hP
     refine ⟨D,_,rfl,ZM.of eD,?_⟩
     have kk:=k H3 s3
     rw [TG.fits,decide_eq_true r0,zCE,decide_eq_true l4,zCE,IO] at kk
     have et:l.take vs.length=l:=zAU (by omega)
     rw [et,zCP]
     exact kk
   ·have l4:¬ l.length<=4:=fun z=>c2 (decide_eq_true (by omega))
    have kk:=k H (ZA.refl H)
    rw [TG.fits,decide_eq_false l4,zBh,Bool.and_false] at kk
    exact kk
  ·have r0:¬ 0<r:=fun z=>c1 (decide_eq_true (by omega))
   have kk:=k H (ZA.refl H)
   rw [TG.fits,decide_eq_false r0,zBh] at kk
   exact kk
 | odd n'=>
  rw [Zh] at hv
  have ty:YZ K H v (.type n'):=hv.ty
  obtain ⟨b,kb,kr⟩:=EO (K:=K) hv
  have kk:=k H (ZA.refl H)
  rw [TG.fits] at kk
  cases b with
  | true=>exact ⟨_,rfl,_,_,_,_,rfl,ty,kb,_,rfl,Zy kk⟩
  | false=>
   obtain ⟨k1,k2,k3⟩:=kr rfl
   refine ⟨_,rfl,_,_,_,_,rfl,ty,kb,_,rfl,Zp ?_⟩
   refine ⟨_,rfl,_,_,_,_,rfl,ty,k1,_,rfl,Zp ?_⟩
   refine ⟨_,rfl,_,_,_,_,rfl,ty,k2,_,rfl,Zp ?_⟩
   refine ⟨_,rfl,_,_,_,_,rfl,ty,k3,_,rfl,Zp ?_⟩
   exact kk
theorem Kn (T:YG mg) (L:Zd K mg "fits" Q7 ["thing","room"]) (DW:ZB P w K mg base 1 "has_few_figures" ["number"] PV) (DS:ZB P w K mg base 1 "is_sign" ["sign"] OC):∀ n:Nat,ZB P w K mg base (n+1) "fits" ["thing","room"] (PZ n)
 | 0=>L.of fun _ _ _=>Fc fun vs H Q E h=>by obtain ⟨v,t,N,r,_,_,_,h1,_⟩:=h;omega
 | n+1=>L.of fun _ _ F=>DQ F T DW DS (Kn T L DW DS n)
theorem Cf:ZC ["thing"] ["thing"] (Zf Nn):=⟨rfl,rfl,rfl,by decide +kernel,rfl,by decide +kernel,by decide +kernel⟩
theorem GL (F:Zk K "is_key" "is_key" Nn f fd) (T:YG mg) (DF:ZB P w K mg base 5 "fits" ["thing","room"] (PZ 4)):ZK P w K mg base ZV 6 f fd ["thing"] Q0:=by
 refine F.ok Cf (fun vs H Q E h=>?_) (fun cdv A outer s H vs Q E hr h=>?_)
 ·obtain ⟨v,t,N,rfl,_⟩:=h
  rfl
 obtain ⟨v,t,N,rfl,hv,hq,k⟩:=h
 obtain ⟨t1,m1⟩:=T.deep
 refine ⟨_,ZW (Zi (Zg DF hr (ZX (pv 0) (ZX (Xa (v:=.int 3) rfl m1 ⟨_,rfl⟩) ZG)))),?_⟩
 exact ⟨_,rfl,v,t,N,3,rfl,hv,hq,by decide,k⟩
end
def UO (n:Nat):Sp:=fun vs H Q _=>∃ (v:V) (t:KT) (q:Nat),vs=[v]/\ZD H t v/\t.fits q=true/\t.depth<n/\∀ (v':V) (H':Hp),ZD H' t.st v'->ZA H H'->Q v' H'
def U6:Sp:=fun vs H Q _=>∃ (v u:V) (a b:KT),vs=[v,u]/\ZD H a v/\ZD H b u/\a.fits 3=true/\b.fits 3=true/\∀ H',ZA H H'->Q (.bl (a.lt b)) H'
section
variable {P:Program} {w:World} {K:zAA} {mg:Str->Option Value} {base:Heap} {f:Addr} {fd:FuncData}
theorem Ft:ZC ["key"] ["key"] (Zf Q6):=⟨rfl,rfl,rfl,by decide +kernel,rfl,by decide +kernel,by decide +kernel⟩
theorem Fi {k:Nat}:ZK P w K mg base ZV k f fd ["key"] (UO 0):=by
 have no:∀ vs H Q E,¬ UO 0 vs H Q E:=fun vs H Q E h=>by
  obtain ⟨v,t,q,_,_,_,h1,_⟩:=h
  omega
 exact ⟨fun vs H Q E h=>absurd h (no vs H Q E),fun A outer s H args us vs Q E _ _ _ _ h=>absurd h (no vs H Q E)⟩
theorem EQ {n:Nat} (F:Zk K "standing" "standing" Q6 f fd) (T:YG mg) (DS:ZB P w K mg base (n+1) "standing" ["key"] (UO n)):ZK P w K mg base ZV (n+2) f fd ["key"] (UO (n+1)):=by
 refine F.ok Ft (fun vs H Q E h=>?_) (fun cdv A outer s H vs Q E hr h=>?_)
 ·obtain ⟨v,t,q,rfl,_⟩:=h
  rfl
 obtain ⟨v,t,q,rfl,hv,hq,hn,k⟩:=h
 refine ⟨_,ZS (Z5 (Yu (Zw WC rfl T.isi Xi (ZX (pv 0) (ZX (X4 (v:=.ty "int") rfl T.int Va rfl) ZG)))) (ZW (Zi (YU (ZX ZO (ZX (pv 0) ZG))))) Z8)
  (ZS (Z5 (Yu (Zw WC rfl T.isi Xi (ZX (pv 0) (ZX (X4 (v:=.ty "str") rfl T.str Qb rfl) ZG)))) (ZW (Zi (YU (ZX ZO (ZX (pv 0) ZG))))) Z8)
  (ZW (Zi (YU (ZX ZO (ZX (Xh Uw rfl T.tuple Vo (ZX (Xr [] [] rfl (Px (pv 0)) (fun _ _ _ _ _=>X6) (fun _ _ _ _ _=>Zg DS hr (ZX (pv 0) ZG)) trivial) ZG)) ZG)))))),?_⟩
 cases t with
 | int i=>
  have ev:v=.int i:=by rw [ZD] at hv;exact hv
  subst ev
  refine ⟨_,rfl,_,_,_,_,rfl,hv.ty,Pj,_,rfl,Zy ?_⟩
  refine ⟨_,rfl,(by show 2<=sizeLine;decide),fun p hp=>?_⟩
  refine k _ _ ?_ (Za hp _)
  rw [KT.st]
  exact .tup ZP (.cons (.int 0) (.cons (.int i) .nil))
 | str x=>
  have ev:v=.str x:=by rw [ZD] at hv;exact hv
  subst ev
  refine ⟨_,rfl,_,_,_,_,rfl,hv.ty,Q1,_,rfl,Zp ?_⟩
  refine ⟨_,rfl,_,_,_,_,rfl,hv.ty,U9,_,rfl,Zy ?_⟩
  refine ⟨_,rfl,(by show 2<=sizeLine;decide),fun p hp=>?_⟩
  refine k _ _ ?_ (Za hp _)
  rw [KT.st]
  exact .tup ZP (.cons (.int 1) (.cons (.str x) .nil))
 | tup l=>
  have hv':=hv
  rw [ZD] at hv'
  obtain ⟨a,vs,rfl,ea,hvs⟩:=hv'
  have hl:=hvs.length
  rw [KT.fits,zAJ,zAJ] at hq
  obtain ⟨hq0,hq1,hq2⟩:=hq
  have hl4:l.length<=4:=of_decide_eq_true hq1
  rw [KT.depth] at hn
  refine ⟨_,rfl,_,_,_,_,rfl,hv.ty,Pe,_,rfl,Zp ?_⟩
  refine ⟨_,rfl,_,_,_,_,rfl,hv.ty,Qi,_,rfl,Zp ?_⟩
  refine ⟨_,rfl,a,rfl,⟨vs,Zj.of ea⟩,?_⟩
  refine X7 (n:=vs.length) (fun i z=>vs[i]? = some z) (fun D i ys H3=>ZA H H3/\H D=none/\KeysAt H3 ((l.take i).map KT.st) ys) (Yp (by omega))
   (fun D i ys H3 hi hP=>⟨vs,vs[i],Zj.of (hP.1 _ _ ea),by simp [hi]⟩) (fun D i ys H3 z H4 hi hP hy=>⟨hy.1,hy.2 vs (Zj.of (hP.1 _ _ ea))⟩) (fun D ys H3 hP=>⟨vs,Zj.of (hP.1 _ _ ea),zAH _⟩)
   (fun D hD=>⟨Za hD _,hD,.nil⟩) (fun D i ys H3 z eD hl' hi hz hP R hR=>?_) (fun D ys H3 eD hP=>?_)
  ·obtain ⟨s3,nD,hys⟩:=hP
   obtain ⟨t,et,kt⟩:=hvs.get hz
   have mt:=zAK et
   have htq:t.fits (q - 1)=true:=by
    rw [QG] at hq2
    exact zAM.mp hq2 t mt
   have hdt:=Vf mt
   refine ⟨_,rfl,z,t,q - 1,rfl,kt.mono (ZA.tups s3) _ _,htq,by omega,fun v' H4 k4 s4=>?_⟩
   have eD4:=s4 D _ eD
   have tD:Zu H4 (upd H4 D (.lst (ys++[v']))):=(ZE.refl D H4).upd.tups eD4
   refine hR v' H4 eD4 ⟨fun b o e=>by rw [ZT (ZY e nD)];exact s4 b o (s3 b o e),nD,?_⟩
   rw [zAm,et,zAZ]
   exact ((hys.mono (ZA.tups s4) _ _).append (.cons k4 .nil)).mono tD _ _
  ·obtain ⟨s3,nD,hys⟩:=hP
   have et:l.take vs.length=l:=zAU (by omega)
   rw [et] at hys
   have hyl:=hys.length
   rw [zAD] at hyl
   refine ⟨D,ys,rfl,.inl ⟨ZM.of eD,fun p1 hp1=>?_⟩⟩
   have g1:=Za hp1 (.tup ys)
   refine ⟨(by show 2<=sizeLine;decide),fun p2 hp2=>?_⟩
   have g2:=Za hp2 (.tup [.int 2,.ref p1])
   refine k _ _ ?_ ((s3.trans g1).trans g2)
   rw [KT.st,KU]
   exact .tup ZP (.cons (.int 2) (.cons (.tup (g2 _ _ ZP) (hys.mono (ZA.tups (g1.trans g2)) _ _)) .nil))
theorem Jg (T:YG mg) (L:Zd K mg "standing" Q6 ["key"]):∀ n:Nat,ZB P w K mg base (n+1) "standing" ["key"] (UO n)
 | 0=>L.of fun _ _ _=>Fi
 | n+1=>L.of fun _ _ F=>EQ F T (Jg T L n)
theorem Gw:ZC ["one","other"] ["one","other"] (Zf OM):=⟨rfl,rfl,rfl,by decide +kernel,rfl,by decide +kernel,by decide +kernel⟩
theorem E8 (F:Zk K "ahead" "ahead" OM f fd) (DS:ZB P w K mg base 6 "standing" ["key"] (UO 5)):ZK P w K mg base ZV 7 f fd ["one","other"] U6:=by
 refine F.ok Gw (fun vs H Q E h=>?_) (fun cdv A outer s H vs Q E hr h=>?_)
 ·obtain ⟨v,u,a,b,rfl,_⟩:=h
  rfl
 obtain ⟨v,u,a,b,rfl,ha,hb,fa,fb,k⟩:=h
 refine ⟨_,ZW (Zi (Xm (LM hr) (Zg DS hr (ZX (pv 0) ZG)) (Zg DS hr (ZX (pv 1) ZG)) (Z2 _))),?_⟩
 have da:=Wd a 3 fa
 have db:=Wd b 3 fb
 have ds:=Km a
 refine ⟨_,rfl,v,a,3,rfl,ha,fa,by omega,fun v1 H1 k1 s1=>?_⟩
 refine ⟨_,rfl,u,b,3,rfl,hb.mono (ZA.tups s1) _ _,fb,by omega,fun v2 H2 k2 s2=>?_⟩
 refine ⟨a.st,b.st,k1.mono (ZA.tups s2) _ _,k2,IQ a b,by omega,?_⟩
 rw [Lj]
 exact k H2 (s1.trans s2)
end
mutual
def KT.wide:KT->Nat->Bool
 | .int _,_=>true
 | .str _,_=>true
 | .tup l,r=>decide (0<r)&&(decide (l.length<=100)&&wideL l (r - 1))
def wideL:List KT->Nat->Bool
 | [],_=>true
 | t :: l,r=>t.wide r&&wideL l r
end
theorem MS:∀ (l:List KT) (r:Nat),wideL l r=l.all (·.wide r)
 | [],r=>by rw [wideL];rfl
 | t :: l,r=>by rw [wideL,MS l r];rfl
mutual
theorem JH:∀ (t:KT) (r:Nat),t.fits r=true->t.wide r=true
 | .int _,_,_=>by rw [KT.wide]
 | .str _,_,_=>by rw [KT.wide]
 | .tup l,r,h=>by
  rw [KT.fits,zAJ,zAJ] at h
  rw [KT.wide,zAJ,zAJ]
  have:=of_decide_eq_true h.2.1
  exact ⟨h.1,decide_eq_true (by omega),wideL_of l (r - 1) h.2.2⟩
theorem wideL_of:∀ (l:List KT) (r:Nat),fitsL l r=true->wideL l r=true
 | [],_,_=>by rw [wideL]
 | t :: l,r,h=>by
  rw [fitsL,zAJ] at h
  rw [wideL,zAJ]
  exact ⟨JH t r h.1,wideL_of l r h.2⟩
end
section
variable {P:Program} {w:World} {K:zAA} {mg:Str->Option Value} {base:Heap} {f:Addr} {fd:FuncData}
theorem Kf {sp:Sp} {k:Nat} {ps:List Str} (no:∀ vs H Q E,¬ sp vs H Q E):ZK P w K mg base ZV k f fd ps sp:=
 ⟨fun vs H Q E h=>absurd h (no vs H Q E),fun A outer s H args us vs Q E _ _ _ _ h=>absurd h (no vs H Q E)⟩
theorem B8:ZC ["_law_found","_law_due"] ["_law_found","_law_due"] (Zf Q2):=⟨rfl,rfl,rfl,by decide +kernel,rfl,by decide +kernel,by decide +kernel⟩
end
mutual
def KT.rk:KT->KT
 | .int i=>.tup [.int 0,.int i,.str "",.tup []]
 | .str x=>.tup [.int 1,.int 0,.str x,.tup []]
 | .tup l=>.tup [.int 2,.int 0,.str "",.tup (rkL l)]
def rkL:List KT->List KT
 | []=>[]
 | t :: l=>t.rk :: rkL l
end
theorem LN:∀ l:List KT,rkL l=l.map KT.rk
 | []=>by rw [rkL];rfl
 | t :: l=>by rw [rkL,LN l];rfl
mutual
theorem IG:∀ a b:KT,a.rk.eqb b.rk=a.eqb b
 | .int i,.int j=>by simp [KT.rk,KT.eqb,eqbL]
 | .str x,.str y=>by simp [KT.rk,KT.eqb,eqbL]
 | .tup l,.tup m=>by simp [KT.rk,KT.eqb,eqbL,eqbL_rk l m]
 | .int _,.str _=>by simp [KT.rk,KT.eqb,eqbL]
 | .int _,.tup _=>by simp [KT.rk,KT.eqb,eqbL]
 | .str _,.int _=>by simp [KT.rk,KT.eqb,eqbL]
 | .str _,.tup _=>by simp [KT.rk,KT.eqb,eqbL]
 | .tup _,.int _=>by simp [KT.rk,KT.eqb,eqbL]
 | .tup _,.str _=>by simp [KT.rk,KT.eqb,eqbL]
theorem eqbL_rk:∀ l m:List KT,eqbL (rkL l) (rkL m)=eqbL l m
 | [],[]=>by simp [rkL,eqbL]
 | a :: l,b :: m=>by simp [rkL,eqbL,IG a b,eqbL_rk l m]
 | [],_ :: _=>by simp [rkL,eqbL]
 | _ :: _,[]=>by simp [rkL,eqbL]
end
mutual
theorem Qp:∀ a b:KT,a.rk.cmp b.rk=true
 | .int i,.int j=>by simp [KT.rk,KT.eqb,KT.cmp,cmpL,eqbL]
 | .str x,.str y=>by simp [KT.rk,KT.eqb,KT.cmp,cmpL,eqbL]
 | .tup l,.tup m=>by simp [KT.rk,KT.eqb,KT.cmp,cmpL,cmpL_rk l m]
 | .int _,.str _=>by simp [KT.rk,KT.eqb,KT.cmp,cmpL]
 | .int _,.tup _=>by simp [KT.rk,KT.eqb,KT.cmp,cmpL]
 | .str _,.int _=>by simp [KT.rk,KT.eqb,KT.cmp,cmpL]
 | .str _,.tup _=>by simp [KT.rk,KT.eqb,KT.cmp,cmpL]
 | .tup _,.int _=>by simp [KT.rk,KT.eqb,KT.cmp,cmpL]
 | .tup _,.str _=>by simp [KT.rk,KT.eqb,KT.cmp,cmpL]
theorem cmpL_rk:∀ l m:List KT,cmpL (rkL l) (rkL m)=true
 | [],_=>by simp [rkL,cmpL]
 | _ :: _,[]=>by simp [rkL,cmpL]
 | a :: l,b :: m=>by
  rw [rkL,rkL,cmpL,cmpL_rk l m,Qp a b]
  split <;> rfl
end
mutual
theorem Po:∀ a b:KT,a.rk.plt b.rk=a.lt b
 | .int i,.int j=>by
  simp only [KT.rk,KT.eqb,KT.plt,pltL,eqbL,KT.lt,beq_self_eq_true,if_true]
  by_cases h:i=j
  ·subst h;simp
  ·simp [h]
 | .str x,.str y=>by
  simp only [KT.rk,KT.eqb,KT.plt,pltL,eqbL,KT.lt,beq_self_eq_true,if_true]
  by_cases h:x=y
  ·subst h;simp
  ·simp [h]
 | .tup l,.tup m=>by
  simp only [KT.rk,KT.eqb,KT.plt,pltL,KT.lt,beq_self_eq_true,if_true,eqbL_rk,pltL_rk l m]
  cases h:eqbL l m with
  | true=>rw [if_pos rfl,KN h]
  | false=>rw [if_neg zAF]
 | .int _,.str _=>by simp [KT.rk,KT.eqb,KT.plt,pltL,KT.lt]
 | .int _,.tup _=>by simp [KT.rk,KT.eqb,KT.plt,pltL,KT.lt]
 | .str _,.int _=>by simp [KT.rk,KT.eqb,KT.plt,pltL,KT.lt]
 | .str _,.tup _=>by simp [KT.rk,KT.eqb,KT.plt,pltL,KT.lt]
 | .tup _,.int _=>by simp [KT.rk,KT.eqb,KT.plt,pltL,KT.lt]
 | .tup _,.str _=>by simp [KT.rk,KT.eqb,KT.plt,pltL,KT.lt]
theorem pltL_rk:∀ l m:List KT,pltL (rkL l) (rkL m)=ltL l m
 | [],[]=>by simp [rkL,pltL,ltL]
 | [],_ :: _=>by simp [rkL,pltL,ltL]
 | _ :: _,[]=>by simp [rkL,pltL,ltL]
 | a :: l,b :: m=>by rw [rkL,rkL,pltL,ltL,IG a b,pltL_rk l m,Po a b]
end
mutual
theorem Qh:∀ t:KT,t.rk.depth<=2 * t.depth+2
 | .int i=>by simp [KT.rk,KT.depth,depthL]
 | .str x=>by simp [KT.rk,KT.depth,depthL]
 | .tup l=>by
  have:=depthL_rk l
  simp only [KT.rk,KT.depth,depthL]
  omega
theorem depthL_rk:∀ l:List KT,depthL (rkL l)<=2 * depthL l+2
 | []=>by simp [rkL,depthL]
 | t :: l=>by
  have a:=Qh t
  have b:=depthL_rk l
  rw [rkL,depthL,depthL]
  omega
end
section
variable {P:Program} {w:World} {K:zAA} {mg:Str->Option Value} {base:Heap} {f:Addr} {fd:FuncData}
def Ub (n:Nat):Sp:=fun vs H Q _=>∃ (v:V) (t:KT) (q:Nat),vs=[v]/\ZD H t v/\t.fits q=true/\t.depth<n/\∀ (v':V) (H':Hp),ZD H' t.rk v'->ZA H H'->Q v' H'
theorem FK:ZC ["_law_spot"] ["_law_spot"] (Zf Qt):=⟨rfl,rfl,rfl,by decide +kernel,rfl,by decide +kernel,by decide +kernel⟩
theorem E9 {n:Nat} (F:Zk K "_law_rank" "_law_rank" Qt f fd) (T:YG mg) (DS:ZB P w K mg base (n+1) "_law_rank" ["_law_spot"] (Ub n)):ZK P w K mg base ZV (n+2) f fd ["_law_spot"] (Ub (n+1)):=by
 refine F.ok FK (fun vs H Q E h=>(by obtain ⟨_,_,_,rfl,_⟩:=h;rfl)) (fun cdv A outer s H vs Q E hr h=>?_)
 obtain ⟨v,t,q,rfl,hv,hq,hn,k⟩:=h
 refine ⟨_,ZS (Z5 (Yu (Zw WC rfl T.isi Xi (ZI (pv 0) (ZI (X4 (v:=.ty "int") rfl T.int Va rfl) ZG)))) (ZW (Zi (YU (WS ZO (pv 0) Y3 (YU ZG))))) Z8)
  (ZS (Z5 (Yu (Zw WC rfl T.isi Xi (ZI (pv 0) (ZI (X4 (v:=.ty "str") rfl T.str Qb rfl) ZG)))) (ZW (Zi (YU (WS ZO ZO (pv 0) (YU ZG))))) Z8)
  (ZW (Zi (YU (WS ZO ZO Y3 (Xh Uw rfl T.tuple Vo (ZI (Xr [] [] rfl (Px (pv 0)) (fun _ _ _ _ _=>X6) (fun _ _ _ _ _=>Zg DS hr (ZI (pv 0) ZG)) trivial) ZG))))))),?_⟩
 cases t with
 | int i=>
  have ev:v=.int i:=by rw [ZD] at hv;exact hv
  subst ev
  refine ⟨_,rfl,_,_,_,_,rfl,hv.ty,Pj,_,rfl,Zy ?_⟩
  refine ⟨_,rfl,(by show 0<=sizeLine;decide),fun p0 h0=>⟨(by show 4<=sizeLine;decide),fun p hp=>?_⟩⟩
  have g0:=Za h0 (.tup [])
  have g1:=Za hp (.tup [.int 0,.int i,.str "",.ref p0])
  refine k _ _ ?_ (g0.trans g1)
  rw [KT.rk]
  exact .tup ZP (.cons (.int 0) (.cons (.int i) (.cons (.str _) (.cons (.tup (g1 _ _ ZP) .nil) .nil))))
 | str x=>
  have ev:v=.str x:=by rw [ZD] at hv;exact hv
  subst ev
  refine ⟨_,rfl,_,_,_,_,rfl,hv.ty,Q1,_,rfl,Zp ?_⟩
  refine ⟨_,rfl,_,_,_,_,rfl,hv.ty,U9,_,rfl,Zy ?_⟩
  refine ⟨_,rfl,(by show 0<=sizeLine;decide),fun p0 h0=>⟨(by show 4<=sizeLine;decide),fun p hp=>?_⟩⟩
  have g0:=Za h0 (.tup [])
  have g1:=Za hp (.tup [.int 1,.int 0,.str x,.ref p0])
  refine k _ _ ?_ (g0.trans g1)
  rw [KT.rk]
  exact .tup ZP (.cons (.int 1) (.cons (.int 0) (.cons (.str x) (.cons (.tup (g1 _ _ ZP) .nil) .nil))))
 | tup l=>
  have hv':=hv
  rw [ZD] at hv'
  obtain ⟨a,vs,rfl,ea,hvs⟩:=hv'
  have hl:=hvs.length
  rw [KT.fits,zAJ,zAJ] at hq
  obtain ⟨hq0,hq1,hq2⟩:=hq
  have hl4:l.length<=4:=of_decide_eq_true hq1
  rw [KT.depth] at hn
  refine ⟨_,rfl,_,_,_,_,rfl,hv.ty,Pe,_,rfl,Zp ?_⟩
  refine ⟨_,rfl,_,_,_,_,rfl,hv.ty,Qi,_,rfl,Zp ?_⟩
  refine ⟨_,rfl,a,rfl,⟨vs,Zj.of ea⟩,?_⟩
  refine X7 (n:=vs.length) (fun i z=>vs[i]? = some z) (fun D i ys H3=>ZA H H3/\H D=none/\KeysAt H3 ((l.take i).map KT.rk) ys) (Yp (by omega))
   (fun D i ys H3 hi hP=>⟨vs,vs[i],Zj.of (hP.1 _ _ ea),by simp [hi]⟩) (fun D i ys H3 z H4 hi hP hy=>⟨hy.1,hy.2 vs (Zj.of (hP.1 _ _ ea))⟩) (fun D ys H3 hP=>⟨vs,Zj.of (hP.1 _ _ ea),zAH _⟩)
   (fun D hD=>⟨Za hD _,hD,.nil⟩) (fun D i ys H3 z eD hl' hi hz hP R hR=>?_) (fun D ys H3 eD hP=>?_)
  ·obtain ⟨s3,nD,hys⟩:=hP
   obtain ⟨t,et,kt⟩:=hvs.get hz
   have mt:=zAK et
   have htq:t.fits (q - 1)=true:=by
    rw [QG] at hq2
    exact zAM.mp hq2 t mt
   have hdt:=Vf mt
   refine ⟨_,rfl,z,t,q - 1,rfl,kt.mono (ZA.tups s3) _ _,htq,by omega,fun v' H4 k4 s4=>?_⟩
   have eD4:=s4 D _ eD
   have tD:Zu H4 (upd H4 D (.lst (ys++[v']))):=(ZE.refl D H4).upd.tups eD4
   refine hR v' H4 eD4 ⟨fun b o e=>by rw [ZT (ZY e nD)];exact s4 b o (s3 b o e),nD,?_⟩
   rw [zAm,et,zAZ]
   exact ((hys.mono (ZA.tups s4) _ _).append (.cons k4 .nil)).mono tD _ _
  ·obtain ⟨s3,nD,hys⟩:=hP
   have et:l.take vs.length=l:=zAU (by omega)
   rw [et] at hys
   have hyl:=hys.length
   rw [zAD] at hyl
   refine ⟨D,ys,rfl,.inl ⟨ZM.of eD,fun p1 hp1=>?_⟩⟩
   have g1:=Za hp1 (.tup ys)
   refine ⟨(by show 4<=sizeLine;decide),fun p2 hp2=>?_⟩
   have g2:=Za hp2 (.tup [.int 2,.int 0,.str "",.ref p1])
   refine k _ _ ?_ ((s3.trans g1).trans g2)
   rw [KT.rk,LN]
   exact .tup ZP (.cons (.int 2) (.cons (.int 0) (.cons (.str _) (.cons (.tup (g2 _ _ ZP) (hys.mono (ZA.tups (g1.trans g2)) _ _)) .nil))))
theorem JM (T:YG mg) (L:Zd K mg "_law_rank" Qt ["_law_spot"]):∀ n:Nat,ZB P w K mg base (n+1) "_law_rank" ["_law_spot"] (Ub n)
 | 0=>L.of fun _ _ _=>Kf fun vs H Q E h=>by obtain ⟨v,t,q,_,_,_,h1,_⟩:=h;omega
 | n+1=>L.of fun _ _ F=>E9 F T (JM T L n)
end
end Tw
namespace Tw
open PySem PySem.Spec L2 PyProof.Rows
theorem Ip:Kg KT.rk:=⟨Po,Qp,3,fun t=>by cases t <;> (rw [KT.rk];exact ⟨_,_,rfl,rfl⟩)⟩
def YJ (ts:List KT):Prop:=ts.Pairwise fun a b=>a.lt b=true
theorem Kw {rs:List KT} (nd:rs.Nodup) (h:rs.Pairwise fun a b=>b.lt a=false):YJ rs:=by
 induction rs with
 | nil=>exact .nil
 | cons a rs ih=>
  rw [zBP] at nd
  rw [zBK] at h
  refine zBK.mpr ⟨fun b hb=>?_,ih nd.2 h.2⟩
  cases q:a.lt b with
  | true=>rfl
  | false=>
   have e:=Og a b q (h.1 b hb)
   exact absurd (e ▸ hb) nd.1
theorem OJ {k:Nat} {A:Around} (r:ZZ k A):A.units+4<cLine:=by have:=r.un;omega
theorem Ph {p D:Addr} {H H':Hp} (s:ZE p H H') (w:ZH H' p) (n:H' D=none):H D=none:=by
 cases e:H D with
 | none=>rfl
 | some o=>
  by_cases h:D=p
  ·subst h
   obtain ⟨xs,e'⟩:=w.some
   rw [n] at e'
   cases e'
  ·rw [s D o e h] at n
   cases n
section
variable {P:Program} {w:World} {K:zAA} {mg:Str->Option Value} {base:Heap} {f:Addr} {fd:FuncData}
def Nq:Sp:=fun vs H Q _=>∃ (p:Addr) (n:Nat),vs=[.ref p,.int (n:Int)]/\ZH H p/\n<64/\∀ (D:Addr) (ws:List V) (ts:List KT) (H':Hp),H D=none->H' D=some (.lst ws)->KeysAt H' ts ws->(∀ t∈ts,t.fits 3=true)->YJ ts->ts.length<=n->ZH H' p->ZE p H H'->Q (.ref D) H'
theorem Wt:ZC ["_law_well_here","_law_many","_law_found","_law_j"] ["_law_well_here","_law_many"] (Zf MJ):=⟨rfl,rfl,rfl,by decide +kernel,rfl,by decide +kernel,by decide +kernel⟩
theorem EH (F:Zk K "_law_keys" "_law_keys" MJ f fd) (T:YG mg) (DK:ZB P w K mg base 6 "_law_key" ["_law_well_here","_law_room"] (Vr 4)) (DR:ZB P w K mg base 6 "_law_rank" ["_law_spot"] (Ub 5)) :
  ZK P w K mg base ZV 9 f fd ["_law_well_here","_law_many"] Nq:=by
 refine F.ok Wt (fun vs H Q E h=>(by obtain ⟨_,_,rfl,_⟩:=h;rfl)) (fun cdv A outer s H vs Q E hr h=>?_)
 obtain ⟨p,n,rfl,hw,hn,k⟩:=h
 have nd:=Wt.nd
 have hr6:=hr.mono (show 6<=8 by omega)
 have DS:ZB P w K mg base 6 "_law_rank" ["_law_spot"] (U0 KT.rk):=by
  obtain ⟨g,gd,FG,b,kp,m⟩:=DR.ex
  exact ⟨g,gd,FG.imp fun vs H Q E h=>by
   obtain ⟨v,t,e,a,c,d⟩:=h
   have:=Wd t 3 c
   exact ⟨v,t,3,e,a,c,by omega,d⟩,b,kp,m⟩
 refine ⟨_,ZS (Zm (i:=2) nd rfl (Or.inl rfl) Ic)
  (ZS (VJ PassesOwn.never rfl (V2 rfl T.range (ZI (pv 1) ZG)) (Y6 (i:=3) nd rfl (Or.inl rfl))
   (ZW (Kt (OJ hr) (pv 2) (Zg DK hr6 (ZI (pv 0) (ZI ZO ZG))) Y8 rfl)))
  (ZW (Zi (IY Ip Qh DS hr rfl T.sorted rfl (ZI (pv 2) ZG))))),?_⟩
 intro fa H1 nfa _ s1 dk1
 obtain ⟨xsw,hxw⟩:=hw.some
 have hpf:p≠fa:=ZY hxw nfa
 refine ⟨_,rfl,(n:Int),rfl,by omega,by omega,Ue (n:=(n:Int).toNat) (fun i σ H'=>∃ (xs:List (KT×V×V)) (o:Option V),σ=[some (.ref p),some (.int (n:Int)),some (.ref fa),o]/\Z3 w H' fa xs/\xs.length<=i/\(∀ x∈xs,x.1.fits 3=true)/\ZH H' p/\ZE p H H')
  ⟨[],none,rfl,dk1,zAH _,fun x hx=>by simp at hx,hw.same s1,ZE.of s1⟩ (fun i σ H' hi hP=>?_) (fun σ H' hP=>?_)⟩
 ·obtain ⟨xs,o,rfl,dk,lx,fx,hw',sx⟩:=hP
  refine ⟨_,rfl,_,rfl,p,3,rfl,hw',by omega,fun v t H3 kv ft hw3 sx3=>?_⟩
  have tu:=sx3.tupsW hw'
  refine ⟨fa,xs,t,rfl,dk.but sx3 tu (Ne.symm hpf),by omega,kv,Wd t 3 ft,fun H4 sx4 dk4=>⟨_,_,rfl,dk4,by have:=EF xs t v (.bl true);omega,fun x hx=>?_,hw3.stay sx4 hpf,fun b ob e nb=>?_⟩⟩
  ·have:x.1∈(Wq xs t v (.bl true)).map (·.1):=List.mem_map_of_mem hx
   rw [Ni] at this
   split at this
   ·obtain ⟨z,hz,e⟩:=zAf.mp this
    rw [<-e]
    exact fx z hz
   ·rcases zAg.mp this with q | q
    ·obtain ⟨z,hz,e⟩:=zAf.mp q
     rw [<-e]
     exact fx z hz
    ·rw [zAQ.mp q]
     exact ft
  ·exact sx4 b ob (sx3 b ob (sx b ob e nb) nb) (ZY e nfa)
 ·obtain ⟨xs,o,rfl,dk,lx,fx,hw',sx⟩:=hP
  refine ⟨_,rfl,fa,xs,rfl,dk,fx,by omega,fun D ws rs H5 s5 nD hD ka pm pw=>?_⟩
  have lr:=pm.length_eq
  rw [zAD] at lr
  refine k D ws rs H5 (Ph sx hw' nD) hD ka (fun t ht=>?_) (Kw (pm.nodup_iff.mpr dk.nd) pw) (by omega) (hw'.same s5) (sx.trans (ZE.of s5))
  obtain ⟨z,hz,e⟩:=zAf.mp (pm.mem_iff.mp ht)
  rw [<-e]
  exact fx z hz
end
section
open PySem.SeqAt
open PySem.AutoSeq1 (wpAny_loadPart')
open PySem.MeetsSeq PySem.MeetsSeq2 PySem.MeetsSeq3
end
section
variable {X:Cx}
end
def Py (n:Nat):Sp:=fun vs H Q _=>∃ (v u:V) (t m:KT) (r:Nat),vs=[v,u]/\ZD H t v/\ZD H m u/\m.wide r=true/\r<n/\∀ H',ZA H H'->Q (.bl (t.eqb m)) H'
theorem Ef {l m:List KT} (h:l.length≠m.length):eqbL l m=false:=by
 rw [<-Qk,show (l.length==m.length)=false by simp [h],Bool.and_false]
theorem BZ {l m:List KT} (h:l.length=m.length):((zAi m.length).map fun j=>(l.getD j (.int 0)).eqb (m.getD j (.int 0))).all id=eqbL l m:=by
 rw [<-Qk,h,Nat.min_self,zCP]
 simp
section
variable {P:Program} {w:World} {K:zAA} {mg:Str->Option Value} {base:Heap} {f:Addr} {fd:FuncData}
theorem C7 {n:Nat} (F:Zk K "_law_alike" "_law_alike" Q2 f fd) (T:YG mg) (DA:ZB P w K mg base (n+1) "_law_alike" ["_law_found","_law_due"] (Py n)) :
  ZK P w K mg base ZV (n+2) f fd ["_law_found","_law_due"] (Py (n+1)):=by
 refine F.ok B8 (fun vs H Q E h=>?_) (fun cdv A outer s H vs Q E hr h=>?_)
 ·obtain ⟨v,u,t,m,r,rfl,_⟩:=h
  rfl
 obtain ⟨v,u,t,m,r,rfl,hv,hu,hf,hn,k⟩:=h
 refine ⟨_,ZS (Z5 (Yu (Zw WC rfl T.isi Xi (ZX (pv 1) (ZX (X4 (v:=.ty "tuple") rfl T.tuple Vo rfl) ZG))))
   (ZS (Z5 (PW.pt (Vy (WW (Yu (Zw WC rfl T.isi Xi (ZX (pv 0) (ZX (X4 (v:=.ty "tuple") rfl T.tuple Vo rfl) ZG)))))
    (V5 (Yn CU (Zw XH rfl T.len XA (ZX (pv 0) ZG)) (Zw XH rfl T.len XA (ZX (pv 1) ZG)) (Z2 _))))) (ZW (Zi Y8)) Z8)
   (ZW (Zi (Zw (Ps rfl) rfl T.all PJ (ZX (Xr [0,1] ["_law_found","_law_due"] rfl (V2 rfl T.range (ZX (Zw XH rfl T.len XA (ZX (pv 1) ZG)) ZG)) (fun _ _ _ _ _=>X6)
    (fun _ _ _ _ _=>Zg DA hr (ZX (Zo (r:=YB K) YH (pv 1) (pv 0) (fun _ _=>rfl)) (ZX (Zo (r:=YB K) YH (pv 2) (pv 0) (fun _ _=>rfl)) ZG))) ⟨rfl,.inl rfl,rfl,rfl,.inl rfl,rfl,trivial⟩) ZG))))) Z8)
  (ZS (Z5 (Yu (Zw WC rfl T.isi Xi (ZX (pv 1) (ZX (X4 (v:=.ty "str") rfl T.str Qb rfl) ZG))))
   (ZW (Zi (VY (Zw WC rfl T.isi Xi (ZX (pv 0) (ZX (X4 (v:=.ty "str") rfl T.str Qb rfl) ZG))) (UD (Xm X2 (pv 0) (pv 1) (Z2 _)))))) Z8)
  (ZW (Zi (VY (Zw WC rfl T.isi Xi (ZX (pv 0) (ZX (X4 (v:=.ty "int") rfl T.int Va rfl) ZG)))
   (VY (JY (Zw WC rfl T.isi Xi (ZX (pv 0) (ZX (X4 (v:=.ty "bool") rfl T.bool IX rfl) ZG)))) (UD (Xm X2 (pv 0) (pv 1) (Z2 _)))))))),?_⟩
 have kk:=k H (ZA.refl H)
 cases m with
 | int j=>
  have eu:u=.int j:=by rw [ZD] at hu;exact hu
  subst eu
  refine ⟨_,rfl,_,_,_,_,rfl,.int j,IR,_,rfl,Zp ?_⟩
  refine ⟨_,rfl,_,_,_,_,rfl,.int j,kit_is',_,rfl,Zp ?_⟩
  cases t with
  | int i=>
   have ev:v=.int i:=by rw [ZD] at hv;exact hv
   subst ev
   refine ⟨_,rfl,_,_,_,_,rfl,.int i,Pj,_,rfl,Zy ?_⟩
   refine ⟨_,rfl,_,_,_,_,rfl,.int i,LZ,_,rfl,_,rfl,Zy ?_⟩
   refine ⟨_,rfl,_,rfl,rfl,?_⟩
   rw [KT.eqb] at kk
   have e:decide (V.int i=V.int j)=(i==j):=by
    by_cases z:i=j
    ·subst z;simp
    ·simp [z]
   rw [e]
   exact kk
  | str x=>
   rw [show (KT.str x).eqb (.int j)=false by simp [KT.eqb]] at kk
   exact ⟨_,rfl,_,_,_,_,rfl,hv.ty,Q1,_,rfl,Zp kk⟩
  | tup l=>
   rw [show (KT.tup l).eqb (.int j)=false by simp [KT.eqb]] at kk
   exact ⟨_,rfl,_,_,_,_,rfl,hv.ty,Pe,_,rfl,Zp kk⟩
 | str y=>
  have eu:u=.str y:=by rw [ZD] at hu;exact hu
  subst eu
  refine ⟨_,rfl,_,_,_,_,rfl,.str y,Ku,_,rfl,Zp ?_⟩
  refine ⟨_,rfl,_,_,_,_,rfl,.str y,U9,_,rfl,Zy ?_⟩
  cases t with
  | int i=>
   rw [show (KT.int i).eqb (.str y)=false by simp [KT.eqb]] at kk
   exact ⟨_,rfl,_,_,_,_,rfl,hv.ty,kit_is',_,rfl,Zp kk⟩
  | str x=>
   have ev:v=.str x:=by rw [ZD] at hv;exact hv
   subst ev
   refine ⟨_,rfl,_,_,_,_,rfl,.str x,U9,_,rfl,Zy ?_⟩
   refine ⟨_,rfl,_,rfl,rfl,?_⟩
   rw [KT.eqb] at kk
   have e:decide (V.str x=V.str y)=(x==y):=by
    by_cases z:x=y
    ·subst z;simp
    ·simp [z]
   rw [e]
   exact kk
  | tup l=>
   rw [show (KT.tup l).eqb (.str y)=false by simp [KT.eqb]] at kk
   exact ⟨_,rfl,_,_,_,_,rfl,hv.ty,Qi,_,rfl,Zp kk⟩
 | tup m=>
  have tu:=hu.ty (K:=K)
  rw [ZD] at hu
  obtain ⟨b,us,rfl,eb,hus⟩:=hu
  have hl2:=hus.length
  rw [KT.wide,zAJ,zAJ] at hf
  obtain ⟨f0,f1,f2⟩:=hf
  have r0:=of_decide_eq_true f0
  have l4:=of_decide_eq_true f1
  refine ⟨_,rfl,_,_,_,_,rfl,tu,N9,_,rfl,Zy ?_⟩
  cases t with
  | int i=>
   rw [show (KT.int i).eqb (.tup m)=false by simp [KT.eqb]] at kk
   exact ⟨_,rfl,_,_,_,_,rfl,hv.ty,IR,_,rfl,Zy (Zy kk)⟩
  | str x=>
   rw [show (KT.str x).eqb (.tup m)=false by simp [KT.eqb]] at kk
   exact ⟨_,rfl,_,_,_,_,rfl,hv.ty,Ku,_,rfl,Zy (Zy kk)⟩
  | tup l=>
  have tv:=hv.ty (K:=K)
  rw [ZD] at hv
  obtain ⟨a,vs,rfl,ea,hvs⟩:=hv
  have hl:=hvs.length
  rw [KT.eqb] at k kk
  refine ⟨_,rfl,_,_,_,_,rfl,tv,N9,_,rfl,Zp ?_⟩
  refine ⟨_,rfl,a,vs,rfl,.inr (Zj.of ea),_,rfl,b,us,rfl,.inr (Zj.of eb),rfl,_,rfl,?_⟩
  by_cases luv:vs.length=us.length
  ·refine B1 (by rw [luv]) ?_
   refine ⟨_,rfl,b,us,rfl,.inr (Zj.of eb),_,rfl,by omega,by omega,?_⟩
   rw [zBs]
   refine X7 (n:=us.length) (fun i x=>x=.int (0+(i:Int))) (fun D i ys H3=>ZA H H3/\H D=none/\ys=((zAi i).map fun j=>(l.getD j (.int 0)).eqb (m.getD j (.int 0))).map V.bl) (Yp (by omega))
    (fun D i ys H3 hi _=>hi) (fun D i ys H3 x H4 hi _ hy=>hy) (fun D ys H3 _=>zAH _) (fun D hD=>⟨Za hD _,hD,rfl⟩) (fun D i ys H3 x eD hl' hi hx hP R hR=>?_) (fun D ys H3 eD hP=>?_)
   ·subst hx
    obtain ⟨s3,nD,rfl⟩:=hP
    have hi':i<vs.length:=by omega
    have hiv:vs[i]? = some vs[i]:=by simp [hi']
    have hiu:us[i]? = some us[i]:=by simp [hi]
    obtain ⟨t,et,kt⟩:=hvs.get hiv
    obtain ⟨t',et',kt'⟩:=hus.get hiu
    have ft:t'.wide (r - 1)=true:=by rw [MS] at f2;exact zAM.mp f2 t' (zAK et')
    have av:XQ vs (0+(i:Int))=some vs[i]:=by rw [zCo];exact XL hiv
    have au:XQ us (0+(i:Int))=some us[i]:=by rw [zCo];exact XL hiu
    refine ⟨_,rfl,_,rfl,.inr (.inl ⟨a,vs,_,_,rfl,rfl,Zj.of (s3 _ _ ea),av,_,rfl,_,rfl,.inr (.inl ⟨b,us,_,_,rfl,rfl,Zj.of (s3 _ _ eb),au,vs[i],us[i],t,t',r - 1,rfl,kt.mono (ZA.tups s3) _ _,kt'.mono (ZA.tups s3) _ _,ft,by omega,fun H4 s4=>?_⟩)⟩)⟩
    refine hR _ H4 (s4 D _ eD) ⟨fun b o e=>by rw [ZT (ZY e nD)];exact s4 b o (s3 b o e),nD,?_⟩
    rw [zBY,zAZ,zAZ]
    congr 1
    show [V.bl (t.eqb t')]=[V.bl ((l.getD i (.int 0)).eqb (m.getD i (.int 0)))]
    rw [zAB,zAB,et,et']
    rfl
   ·obtain ⟨s3,nD,rfl⟩:=hP
    refine ⟨D,_,rfl,ZM.of eD,?_⟩
    rw [<-hl2,BZ (by omega)]
    exact k H3 s3
  ·rw [Ef (by omega)] at kk
   rw [decide_eq_false (fun z=>luv (by have:=QT z;omega))]
   exact Zy kk
theorem ID (T:YG mg) (L:Zd K mg "_law_alike" Q2 ["_law_found","_law_due"]):∀ n:Nat,ZB P w K mg base (n+1) "_law_alike" ["_law_found","_law_due"] (Py n)
 | 0=>L.of fun _ _ _=>Kf fun vs H Q E h=>by obtain ⟨v,u,t,m,r,_,_,_,_,h1,_⟩:=h;omega
 | n+1=>L.of fun _ _ F=>C7 F T (ID T L n)
def Nu:Sp:=fun vs H Q _=>∃ (a b:Addr) (xs ys:List V) (ts us:List KT),vs=[.ref a,.ref b]/\H a=some (.lst xs)/\H b=some (.lst ys)/\KeysAt H ts xs/\KeysAt H us ys/\(∀ t∈us,t.fits 3=true)/\us.length<=100/\∀ H',ZA H H'->Q (.bl (eqbL ts us)) H'
theorem HZ:ZC ["_law_found","_law_due"] ["_law_found","_law_due"] (Zf NF):=⟨rfl,rfl,rfl,by decide +kernel,rfl,by decide +kernel,by decide +kernel⟩
theorem G7 (F:Zk K "_law_rows_alike" "_law_rows_alike" NF f fd) (T:YG mg) (DA:ZB P w K mg base 6 "_law_alike" ["_law_found","_law_due"] (Py 5)):ZK P w K mg base ZV 7 f fd ["_law_found","_law_due"] Nu:=by
 refine F.ok HZ (fun vs H Q E h=>(by obtain ⟨_,_,_,_,_,_,rfl,_⟩:=h;rfl)) (fun cdv A outer s H vs Q E hr h=>?_)
 obtain ⟨a,b,xs,ys,ts,us,rfl,ha,hb,kx,ky,hf,h100,k⟩:=h
 refine ⟨_,ZW (Zi (VY (Zw WC rfl T.isi Xi (ZI (pv 0) (ZI (X4 (v:=.ty "list") rfl T.list Vc rfl) ZG)))
  (UD (Zg DA hr (ZI (Xh Uw rfl T.tuple Vo (ZI (pv 0) ZG)) (ZI (Xh Uw rfl T.tuple Vo (ZI (pv 1) ZG)) ZG)))))),?_⟩
 refine ⟨_,rfl,_,_,_,_,rfl,.lst ha,(by kernel_rfl),_,rfl,Zy ?_⟩
 refine ⟨_,rfl,a,xs,rfl,.inl ⟨ZM.of ha,fun p1 hp1=>?_⟩⟩
 have g1:=Za hp1 (.tup xs)
 refine ⟨_,rfl,b,ys,rfl,.inl ⟨ZM.of (g1 _ _ hb),fun p2 hp2=>?_⟩⟩
 have g2:=Za hp2 (.tup ys)
 have g:=g1.trans g2
 refine ⟨.ref p1,.ref p2,.tup ts,.tup us,4,rfl,.tup (g2 _ _ ZP) (kx.mono (ZA.tups g) _ _),.tup ZP (ky.mono (ZA.tups g) _ _),?_,by decide,fun H' s'=>?_⟩
 ·rw [KT.wide,zAJ,zAJ,MS]
  exact ⟨by decide,decide_eq_true h100,zAM.mpr fun t ht=>JH t 3 (hf t ht)⟩
 ·rw [KT.eqb]
  exact k H' (g.trans s')
end
theorem Wp {H:Hp} {p q:Addr} (W:ZH H p) (h:H q=none):q≠p:=fun z=>by
 obtain ⟨xs,e⟩:=W.some
 rw [z,e] at h;cases h
section
variable {P:Program} {w:World} {K:zAA} {mg:Str->Option Value} {base:Heap} {f:Addr} {fd:FuncData}
def OE:Sp:=fun vs H Q _=>∃ (p:Addr),vs=[.ref p]/\ZH H p/\∀ (v:V) (t:KT) (H':Hp),ZD H' t v->t.fits 3=true->ZH H' p->ZE p H H'->Q v H'
theorem F8:ZC ["_law_well_here"] ["_law_well_here"] (Zf Nw):=⟨rfl,rfl,rfl,by decide +kernel,rfl,by decide +kernel,by decide +kernel⟩
theorem CM (F:Zk K "_law_value" "_law_value" Nw f fd) (DP:ZB P w K mg base 1 "_law_pull" ["_law_well_here","_law_many"] Xq) (DK:ZB P w K mg base 6 "_law_key" ["_law_well_here","_law_room"] (Vr 4)):ZK P w K mg base ZV 7 f fd ["_law_well_here"] OE:=by
 refine F.ok F8 (fun vs H Q E h=>(by obtain ⟨_,rfl,_⟩:=h;rfl)) (fun cdv A outer s H vs Q E hr h=>?_)
 obtain ⟨p,rfl,W,q⟩:=h
 have hr1:=hr.mono (show 1<=6 by decide)
 refine ⟨_,ZS (Z5 (Yn X2 (Zg DP hr1 (ZI (pv 0) (ZI ZO ZG))) ZO (Z2 _)) (ZW (Zi (Zg DK hr (ZI (pv 0) (ZI ZO ZG))))) Z8)
  (ZW (Zi (Zo (r:=YB K) YH (Ye (G6 ZO ZO Y3 (YU (ZI ZO ZG)) Y3 (YU ZG))) (Zg DP hr1 (ZI (pv 0) (ZI ZO ZG))) (fun _ _=>rfl)))),?_⟩
 refine ⟨_,rfl,p,3,rfl,W,Y4 (by decide) (by decide),fun w0 H1 w00 w01 W1 s1=>⟨rfl,_,rfl,?_⟩⟩
 refine Xs (fun c=>?_) (fun c=>?_)
 ·exact ⟨_,rfl,p,3,rfl,W1,by decide,fun v t H3 hv ht W3 s3=>q v t H3 hv ht W3 (s1.trans s3)⟩
 refine ⟨nn (zAC rfl),fun t1 n1=>?_⟩
 have g1:=Za n1 (.tup [.int 1])
 refine ⟨nn (zAC rfl),fun t2 n2=>?_⟩
 have g2:=Za n2 (.tup [])
 refine ⟨nn (zAC rfl),fun d nd'=>?_⟩
 have g3:=Za nd' (.lst [.int 0,.int 1,.str "1",.ref t1,.str "",.ref t2])
 have gA:ZA H1 _:=(g1.trans g2).trans g3
 have nd2:d≠p:=Wp (W1.same (g1.trans g2)) nd'
 refine ⟨_,rfl,p,6,rfl,W1.same gA,Y4 (by decide) (by decide),fun r H3 r0 r1 W3 s3=>?_⟩
 have tA:=s3.tupsW (W1.same gA)
 have sA:ZE p H H3:=(s1.trans (ZE.of gA)).trans s3
 have k1:ZD H3 (.tup [.int 1]) (.ref t1):=.tup (tA _ _ (g3 _ _ (g2 _ _ ZP))) (.cons (.int 1) .nil)
 have k2:ZD H3 (.tup []) (.ref t2):=.tup (tA _ _ (g3 _ _ ZP)) .nil
 have eL:H3 d=some (.lst [.int 0,.int 1,.str "1",.ref t1,.str "",.ref t2]):=s3 d _ ZP nd2
 obtain ⟨v,av,mv⟩:=UK (xs:=[V.int 0,.int 1,.str "1",.ref t1,.str "",.ref t2]) r0 r1
 refine .inl ⟨d,_,_,v,rfl,rfl,ZM.of eL,av,?_⟩
 simp only [zAd,zBV,or_false] at mv
 rcases mv with rfl | rfl | rfl | rfl | rfl | rfl
 ·exact q _ _ H3 (.int 0) (by decide +kernel) W3 sA
 ·exact q _ _ H3 (.int 1) (by decide +kernel) W3 sA
 ·exact q _ _ H3 (.str _) (by decide +kernel) W3 sA
 ·exact q _ _ H3 k1 (by decide +kernel) W3 sA
 ·exact q _ _ H3 (.str _) (by decide +kernel) W3 sA
 ·exact q _ _ H3 k2 (by decide +kernel) W3 sA
end
end Tw
namespace L2
open PySem PySem.Spec PyProof.Rows
section
variable {X:Cx}
theorem C1 (hc:X.calm=true):WT X (.builtin "sum") (fun xs H Q=>∃ (p:Addr) (ns:List Int),xs=[.ref p]/\ZM X.K H p (ns.map V.int)/\Q (.int ns.sum) H):=by
 intro pins s σ H xs us Q I r h
 obtain ⟨p,ns,rfl,hq,q⟩:=h
 obtain ⟨u,rfl,ru⟩:=Wg r
 cases ru
 obtain ⟨its,rv,pl,hz⟩:=I.list hq
 have hi:=JK rv
 obtain ⟨ys,e⟩:=hi.allInts.items
 have hl:=pl.isList
 rw [e] at hl
 have en:ys.toList.map (·.1)=ns:=by
  rw [<-nums_intItems,<-e]
  exact hi.numsOf
 refine sum_intListG (I.ok.hd hc) hl fun h' tk t' hk=>⟨.int ns.sum,H,I.kept (t':=tk) hk,⟨t',?_⟩,q⟩
 rw [preSum_eq,zAU (by simp),en]
end
end L2
namespace Tw
open PySem PySem.Spec L2 PyProof.Rows
theorem F4:bootBuiltins "sum" = some (.builtin "sum"):=by decide +kernel
structure YC where
 h:Int
 lo:KT
 hi:KT
 m:Int
def YC.d:YC:=⟨0,.int 0,.int 0,0⟩
def YC.kt (L:YC):KT:=.tup [.int L.h,L.lo,L.hi,.int L.m]
def YY (H:Hp) (L:YC) (u:V):Prop:=∃ a vlo vhi,u=.ref a/\H a=some (.tup [.int L.h,vlo,vhi,.int L.m])/\ZD H L.lo vlo/\ZD H L.hi vhi
theorem YY.mono {H H':Hp} {L:YC} {u:V} (x:YY H L u) (m:Zu H H'):YY H' L u:=by
 obtain ⟨a,vlo,vhi,e,e1,k1,k2⟩:=x
 exact ⟨a,vlo,vhi,e,m _ _ e1,k1.mono m _ _,k2.mono m _ _⟩
def YL (H:Hp) (ls:List YC) (us:List V):Prop:=us.length=ls.length/\∀ i u,us[i]? = some u->YY H (ls.getD i .d) u
theorem YL.mono {H H':Hp} {ls:List YC} {us:List V} (x:YL H ls us) (m:Zu H H'):YL H' ls us:=⟨x.1,fun i u e=>(x.2 i u e).mono m⟩
def YC.fit (L:YC):Prop:=L.lo.fits 3=true/\L.hi.fits 3=true
def VG (a b:YC):Bool:=(a.h==b.h)&&a.hi.lt b.lo
def Qu (ls:List YC):Bool:=(zAi (ls.length - 1)).all fun j=>VG (ls.getD j .d) (ls.getD (j+1) .d)
def over (ls:List YC):Option YC:=if 2<=ls.length/\ls.length<=4/\Qu ls=true then some ⟨(ls.getD 0 .d).h+1,(ls.getD 0 .d).lo,(ls.getD (ls.length - 1) .d).hi,(ls.map YC.m).sum⟩ else none
theorem ES {ls:List YC} (h2:2<=ls.length) (h4:ls.length<=4) (h:∀ j,j<ls.length - 1->VG (ls.getD j .d) (ls.getD (j+1) .d)=true):over ls=some ⟨(ls.getD 0 .d).h+1,(ls.getD 0 .d).lo,(ls.getD (ls.length - 1) .d).hi,(ls.map YC.m).sum⟩:=
 if_pos ⟨h2,h4,zAM.mpr fun j hj=>h j (zA2.mp hj)⟩
section
variable {P:Program} {w:World} {K:zAA} {mg:Str->Option Value} {base:Heap} {f:Addr} {fd:FuncData}
def MY:Sp:=fun vs H Q _=>∃ (v u:V) (a b:YC),vs=[v,u]/\YY H a v/\YY H b u/\a.fit/\b.fit/\∀ H',ZA H H'->Q (.bl (VG a b)) H'
theorem CJ:ZC ["label","following"] ["label","following"] (Zf ML):=⟨rfl,rfl,rfl,by decide +kernel,rfl,by decide +kernel,by decide +kernel⟩
theorem HI (F:Zk K "stand_side_by_side" "stand_side_by_side" ML f fd) (T:YG mg) (DA:ZB P w K mg base 7 "ahead" ["one","other"] U6):ZK P w K mg base ZV 8 f fd ["label","following"] MY:=by
 refine F.ok CJ (fun vs H Q E h=>(by obtain ⟨_,_,_,_,rfl,_⟩:=h;rfl)) (fun cdv A outer s H vs Q E hr h=>?_)
 obtain ⟨v,u,a,b,rfl,ha,hb,fa,fb,k⟩:=h
 obtain ⟨t0,m0⟩:=T.height
 obtain ⟨t1,m1⟩:=T.least
 obtain ⟨t2,m2⟩:=T.greatest
 obtain ⟨pa,alo,ahi,rfl,ea,ka1,ka2⟩:=ha
 obtain ⟨pb,blo,bhi,rfl,eb,kb1,kb2⟩:=hb
 refine ⟨_,ZW (Zi (VY (Xm X2 (Zo (r:=YB K) YH (pv 0) (Xa (v:=.int 0) rfl m0 ⟨_,rfl⟩) (fun _ _=>rfl)) (Zo (r:=YB K) YH (pv 1) (Xa (v:=.int 0) rfl m0 ⟨_,rfl⟩) (fun _ _=>rfl)) (Z2 _))
  (UD (Zg DA hr (ZI (Zo (r:=YB K) YH (pv 0) (Xa (v:=.int 2) rfl m2 ⟨_,rfl⟩) (fun _ _=>rfl)) (ZI (Zo (r:=YB K) YH (pv 1) (Xa (v:=.int 1) rfl m1 ⟨_,rfl⟩) (fun _ _=>rfl)) ZG)))))),?_⟩
 refine ⟨_,rfl,.inr (.inl ⟨pa,_,_,.int a.h,rfl,rfl,Zj.of ea,rfl,?_⟩)⟩
 refine ⟨_,rfl,.inr (.inl ⟨pb,_,_,.int b.h,rfl,rfl,Zj.of eb,rfl,rfl,_,rfl,?_⟩)⟩
 by_cases hh:a.h=b.h
 ·rw [decide_eq_true (by rw [hh])]
  refine Zy ?_
  refine ⟨_,rfl,.inr (.inl ⟨pa,_,_,ahi,rfl,rfl,Zj.of ea,rfl,?_⟩)⟩
  refine ⟨_,rfl,.inr (.inl ⟨pb,_,_,blo,rfl,rfl,Zj.of eb,rfl,ahi,blo,a.hi,b.lo,rfl,ka2,kb1,fa.2,fb.1,fun H' s'=>?_⟩)⟩
  have e:a.hi.lt b.lo=VG a b:=by unfold VG;rw [hh,beq_self_eq_true,zCE]
  rw [e]
  exact k H' s'
 ·rw [decide_eq_false (fun z=>hh (QT z))]
  refine Zp ?_
  have e:false=VG a b:=by unfold VG;rw [beq_eq_false_iff_ne.mpr hh,zBh]
  rw [e]
  exact k H (ZA.refl H)
end
section
variable {P:Program} {w:World} {K:zAA} {mg:Str->Option Value} {base:Heap} {f:Addr} {fd:FuncData} {CSh CTw CS CT CH:Addr}
theorem Qw {n:Int} (h:n.natAbs<10 ^ 60) (r:Nat):(KT.int n).fits r=true:=by rw [KT.fits];exact decide_eq_true h
theorem Q3 {H:Hp} {L:YC} {u:V} (h:ZD H L.kt u):YY H L u:=by
 unfold YC.kt at h
 rw [ZD] at h
 obtain ⟨a,vs,rfl,ea,ks⟩:=h
 rw [KeysAt] at ks
 obtain ⟨v1,r1,rfl,k1,ks⟩:=ks
 rw [KeysAt] at ks
 obtain ⟨v2,r2,rfl,k2,ks⟩:=ks
 rw [KeysAt] at ks
 obtain ⟨v3,r3,rfl,k3,ks⟩:=ks
 rw [KeysAt] at ks
 obtain ⟨v4,r4,rfl,k4,ks⟩:=ks
 rw [KeysAt] at ks
 subst ks
 rw [ZD] at k1 k4
 subst k1 k4
 exact ⟨a,v2,v3,rfl,ea,k2,k3⟩
theorem BD:YC.d.fit:=⟨Qw (n:=0) (by decide) 3,Qw (n:=0) (by decide) 3⟩
def Lm (H:Hp) (ks:List KT) (us:List V):Prop:=us.length=ks.length/\∀ i u,us[i]? = some u->∃ a vk vv,u=.ref a/\H a=some (.tup [vk,vv])/\ZD H (ks.getD i (.int 0)) vk
def PU (ks:List KT):KT:=.tup [.int 0,ks.getD 0 (.int 0),ks.getD (ks.length - 1) (.int 0),.int ks.length]
theorem GJ {us:List V} {u:V} (h:us[us.length - 1]? = some u):XQ us (-1)=some u:=by
 have hne:us≠[]:=fun z=>by rw [z] at h;simp at h
 have e:us=us.dropLast++[u]:=by
  have hg:us.getLast hne=u:=by
   rw [zDB]
   exact (zAO.mp h).2
  rw [<-hg,zCt]
 rw [e]
 exact LF _ _
def MT:Sp:=fun vs H Q _=>∃ (l:Addr) (us:List V) (ks:List KT),vs=[.ref l]/\H l=some (.lst us)/\Lm H ks us/\0<us.length/\∀ (H':Hp) (v:V),ZA H H'->ZD H' (PU ks) v->Q v H'
theorem Ct:ZC ["rows"] ["rows"] (Zf Mm):=⟨rfl,rfl,rfl,by decide +kernel,rfl,by decide +kernel,by decide +kernel⟩
theorem Cy (F:Zk K "label_of_rows" "label_of_rows" Mm f fd) (T:YG mg):ZK P w K mg base ZV 1 f fd ["rows"] MT:=by
 refine F.ok Ct (fun vs H Q E h=>(by obtain ⟨_,_,_,rfl,_⟩:=h;rfl)) (fun cdv A outer s H vs Q E hr h=>?_)
 obtain ⟨l,us,ks,rfl,hl,hk,h0,k⟩:=h
 refine ⟨_,ZW (Zi (YU (WS ZO (Zo (r:=YB K) YH (Zo (r:=YB K) YH (pv 0) ZO (fun _ _=>rfl)) ZO (fun _ _=>rfl))
  (Zo (r:=YB K) YH (Zo (r:=YB K) YH (pv 0) (QE QW ZO) (fun _ _=>rfl)) ZO (fun _ _=>rfl)) (Zw XH rfl T.len XA (ZI (pv 0) ZG))))),?_⟩
 have u0:us[0]? = some us[0]:=zAE h0
 have u1:us[us.length - 1]? = some (us[us.length - 1]'(by omega)):=zAE (by omega)
 obtain ⟨a,ak,av,ea,ta,ka⟩:=hk.2 0 _ u0
 obtain ⟨b,bk,bv,eb,tb,kb⟩:=hk.2 _ _ u1
 rw [ea] at u0
 rw [eb] at u1
 refine ⟨_,rfl,.inl ⟨l,us,_,.ref a,rfl,rfl,ZM.of hl,XL (j:=0) u0,.inr (.inl ⟨a,_,_,ak,rfl,rfl,Zj.of ta,rfl,?_⟩)⟩⟩
 refine ⟨_,rfl,1,rfl,.inl ⟨l,us,_,.ref b,rfl,rfl,ZM.of hl,GJ u1,.inr (.inl ⟨b,_,_,bk,rfl,rfl,Zj.of tb,rfl,?_⟩)⟩⟩
 refine ⟨_,rfl,l,us,rfl,.inl (ZM.of hl),nn (zAC rfl),fun p hp=>?_⟩
 have g:=Za hp (.tup [.int 0,ak,bk,.int us.length])
 refine k _ _ g ?_
 unfold PU
 rw [<-hk.1]
 exact .tup ZP (.cons (.int _) (.cons (ka.mono (ZA.tups g) _ _) (.cons (kb.mono (ZA.tups g) _ _) (.cons (.int _) .nil))))
abbrev YQ:=KT×KT
def Ij (r:YQ):KT:=.tup [r.1,r.2]
def YF (rs:List YQ):List KT:=rs.map Ij
def YQ.fit (r:YQ):Prop:=r.1.fits 3=true/\r.2.fits 3=true
structure ZU where
 h:Nat
 rows:List YQ
 bs:List Nat
def ZU.d:ZU:=⟨0,[],[]⟩
def gd (ts:List ZU) (i:Nat):ZU:=ts.getD i .d
theorem Y1 {ts:List ZU} {i:Nat} (h:i<ts.length):ts[i]? = some (gd ts i):=by
 unfold gd
 rw [zAB,zAE h]
 rfl
structure XR (gt:List KT) (ts:List ZU) (i:Nat) (t:ZU):Prop where
 ne:t.rows≠[]
 up:(t.rows.map (·.1)).Pairwise fun a b=>a.lt b=true
 inn:∀ r∈t.rows,r.fit
 leaf:t.h=0->t.bs=[]/\t.rows.length<=4
 stem:t.h≠0->2<=t.bs.length/\t.bs.length<=4/\(∀ b∈t.bs,b<i/\(gd ts b).h+1=t.h)/\t.rows=t.bs.flatMap fun b=>(gd ts b).rows
def WF (gt:List KT) (ts:List ZU):Prop:=∀ i t,ts[i]? = some t->XR gt ts i t
def kindOf (t:ZU):Str:=if t.h=0 then "leaf" else "stem"
theorem We {H H':Hp} {a:Addr} {o:HO} (s:ZA H H') (n:H a=none):ZA H (upd H' a o):=fun b u e=>by rw [ZT (ZY e n)];exact s b u e
abbrev iN (l:List Nat):List V:=l.map fun b=>V.int (b:Nat)
theorem J7 (a b:List YQ):YF (a++b)=YF a++YF b:=zAZ
def rd:YQ:=(.int 0,.int 0)
def Z7 (t:ZU):YC:=⟨t.h,(t.rows.getD 0 rd).1,(t.rows.getD (t.rows.length - 1) rd).1,t.rows.length⟩
theorem UG {H:Hp} {rs:List YQ} {us:List V} {i:Nat} {u:V} (h:KeysAt H (YF rs) us) (e:us[i]? = some u):∃ a vk vv,rs[i]? = some (rs.getD i rd)/\u=.ref a/\H a=some (.tup [vk,vv])/\ZD H (rs.getD i rd).1 vk/\ZD H (rs.getD i rd).2 vv:=by
 obtain ⟨t,et,kt⟩:=h.get e
 unfold YF at et
 rw [zAN] at et
 obtain ⟨r,er,rfl⟩:=zAq.mp et
 have eg:rs.getD i rd=r:=by rw [zAB,er];rfl
 unfold Ij at kt
 rw [ZD] at kt
 obtain ⟨a,vs,rfl,ha,hk⟩:=kt
 rw [KeysAt] at hk
 obtain ⟨v1,r1,rfl,k1,hk⟩:=hk
 rw [KeysAt] at hk
 obtain ⟨v2,r2,rfl,k2,hk⟩:=hk
 rw [KeysAt] at hk
 subst hk
 rw [eg]
 exact ⟨a,v1,v2,er,rfl,ha,k1,k2⟩
theorem YL.snoc {H:Hp} {ls:List YC} {us:List V} {L:YC} {u:V} (h:YL H ls us) (hu:YY H L u):YL H (ls++[L]) (us++[u]):=by
 refine ⟨by rw [zAL,zAL,h.1];rfl,fun i w e=>?_⟩
 rcases zAj i us.length with hi | hi
 ·rw [zA0 hi] at e
  have:=h.2 i w e
  rw [zAB] at this ⊢
  rw [zA0 (by rw [<-h.1];exact hi)]
  exact this
 ·rw [zAw hi] at e
  have hi0:i - us.length=0:=by
   rcases Nat.eq_zero_or_pos (i - us.length) with z | z
   ·exact z
   ·rw [zCM (by simp;omega)] at e;cases e
  rw [hi0] at e
  simp at e
  subst e
  have ei:i=ls.length:=by have:=h.1;omega
  rw [zAB,ei]
  simp
  exact hu
def inT (ts:List ZU) (x:Int):Bool:=decide (0<=x/\x<(ts.length:Int))
def O7 (ls:List YC):Prop:=∀ j,j+1<ls.length->(ls.getD (j+1) .d).h=(ls.getD 0 .d).h/\(ls.getD j .d).hi.lt (ls.getD (j+1) .d).lo=true
theorem VN {ls:List YC}:O7 ls ↔ Qu ls=true:=by
 unfold O7 Qu VG
 rw [zAM]
 constructor
 ·intro h j hj
  have hj':j<ls.length - 1:=zA2.mp hj
  obtain ⟨a,b⟩:=h j (by omega)
  rw [zAJ]
  refine ⟨?_,b⟩
  rw [beq_iff_eq,a]
  cases j with
  | zero=>rfl
  | succ j=>exact (h j (by omega)).1
 ·intro h
  have hh:∀ j,j<ls.length->(ls.getD j .d).h=(ls.getD 0 .d).h:=fun j=>by
   induction j with
   | zero=>intro _;rfl
   | succ j ih=>
    intro hj
    have:=h j (zA2.mpr (by omega))
    rw [zAJ,beq_iff_eq] at this
    rw [<-this.1]
    exact ih (by omega)
  intro j hj
  have:=h j (zA2.mpr (by omega))
  rw [zAJ] at this
  exact ⟨hh (j+1) hj,this.2⟩
theorem Mz {gt:List KT} {ts:List ZU} {i:Nat} {t:ZU} (h:XR gt ts i t):(Z7 t).fit:=by
 have hp:0<t.rows.length:=List.length_pos_iff.mpr h.ne
 have m0:t.rows.getD 0 rd∈t.rows:=by rw [zAB,zAE hp];exact zA9 _
 have m1:t.rows.getD (t.rows.length - 1) rd∈t.rows:=by rw [zAB,zAE (show t.rows.length - 1<t.rows.length by omega)];exact zA9 _
 exact ⟨(h.inn _ m0).1,(h.inn _ m1).1⟩
def Yg (ts:List ZU) (bs:List Nat):List YC:=bs.map fun b=>Z7 (gd ts b)
end
section
variable {P:Program} {w:World} {K:zAA} {mg:Str->Option Value} {base:Heap} {f:Addr} {fd:FuncData} {CSh CTw CS CT CH:Addr}
structure ZJ (P:Program) (w:World) (K:zAA) (mg:Str->Option Value) (base:Heap) (CX:Xo) (k:Nat) (C:Addr) (m:Str) (ps:List Str) (sp:Sp):Prop where
 ex:∃ f fd,Wx K C m f/\ZK P w K mg base CX k f fd ps sp/\Zq K fd ps []
theorem Y0 {X:Cx} {CX:Xo} {k:Nat} {C:Addr} {m:Str} {ps:List Str} {sp:Sp} {E:XK} {o e:Expr} {es:List Expr} {ta:TE} {t:TA} {pos apos:Pos} {pl:Sem Bool} (he:PE X o ta) (c:WD X.K C) (D:ZJ X.prog X.w X.K X.mg X.base CX k C m ps sp) (hr:ZZ k X.A) (hx:Wk CX X E) (ha:PA X (e :: es) t)
  (hst:starEach (e :: es) X.env=(false,eval e X.env) :: starEach es X.env:=by rfl) (hpl:(backTo pos (starEach es X.env)).any (·.1)=false:=by rfl)
  (ht:eval (.Call (.Attribute o m apos) (e :: es) [] pos) X.env=(do
   let ov<-eval o X.env
   standAt apos.atName
   let (f,first)<-holding [ov] (getMethod ov m pl)
   callWith pos f first (backTo pos (starEach (e :: es) X.env)) (backToKw pos (keywordEach [] X.env))):=by rfl) :
  PE X (.Call (.Attribute o m apos) (e :: es) [] pos) (PM C m sp [] E ta t):=by
 obtain ⟨f,fd,M,F,b⟩:=D.ex
 exact Gp he c M F hr b .nil hx ha hst hpl ht
theorem KZ {X:Cx} {CX:Xo} {k:Nat} {C:Addr} {m:Str} {ps:List Str} {sp:Sp} {E:XK} {o:Expr} {ta:TE} {pos apos:Pos} {pl:Sem Bool} (he:PE X o ta) (c:WD X.K C) (D:ZJ X.prog X.w X.K X.mg X.base CX k C m ps sp) (hr:ZZ k X.A) (hx:Wk CX X E)
  (ht:eval (.Call (.Attribute o m apos) [] [] pos) X.env=(do
   let ov<-eval o X.env
   standAt apos.atName
   let (f,first)<-holding [ov] (getMethod ov m pl)
   callWith pos f first (backTo pos (starEach [] X.env)) (backToKw pos (keywordEach [] X.env))):=by rfl) :
  PE X (.Call (.Attribute o m apos) [] [] pos) (PM C m sp [] E ta WX):=by
 obtain ⟨f,fd,M,F,b⟩:=D.ex
 exact Dw he c M F hr b .nil hx ht
abbrev OR:Stmt:=Xn (Zr 29) 0
abbrev M6:Stmt:=Xn (Zr 44) 0
abbrev NG:Stmt:=Xn (Zr 44) 1
abbrev MN:Stmt:=Xn (Zr 44) 3
abbrev N4:Stmt:=Xn (Zr 44) 7
abbrev Nd:Stmt:=Xn (Zr 44) 8
abbrev OX:Stmt:=Xn (Zr 44) 12
abbrev Pk:Stmt:=Xn (Zr 44) 13
abbrev P6:Stmt:=Xn (Zr 44) 18
structure Yi (K:zAA) (mg:Str->Option Value) (CSh CTw:Addr):Prop where
 shelf:mg "Shelf" = some (.ref CSh)
 twig:mg "Twig" = some (.ref CTw)
 cS:WD K CSh
 cT:WD K CTw
 nk:Zt K CSh "kept"
 nf:Zt K CSh "following"
 nl:Zt K CSh "looks"
 nth:Zt K CTw "things"
 ntg:Zt K CTw "tag"
 nab:Zt K CTw "above"
 nho:Zt K CTw "holds"
abbrev Vl (d lk:Addr) (n:Nat):List (Str×V):=[("kept",.ref d),("following",.int n),("looks",.ref lk)]
abbrev Wm (th tg:V) (ab:Addr) (ho:Nat):List (Str×V):=[("things",th),("tag",tg),("above",.ref ab),("holds",.int ho)]
structure Yd (CSh:Addr) (H:Hp) (S d lk:Addr) (n:Nat) (kvs:List (Zc×V)) (ls:List V):Prop where
 self:∃ dx,H S=some (.ins CSh dx (Vl d lk n))
 kept:H d=some (.dK kvs)
 looks:H lk=some (.lst ls)
structure XE (CTw:Addr) (H:Hp) (x:Addr) (th tg:V) (ab:Addr) (ho:Nat) (us:List V):Prop where
 self:∃ dx,H x=some (.ins CTw dx (Wm th tg ab ho))
 above:H ab=some (.lst us)
theorem Yd.same {CSh:Addr} {H H':Hp} {S d lk:Addr} {n:Nat} {kvs:List (Zc×V)} {ls:List V} (h:Yd CSh H S d lk n kvs ls) (s:ZA H H'):Yd CSh H' S d lk n kvs ls:=by
 obtain ⟨⟨dx,e⟩,h2,h3⟩:=h
 exact ⟨⟨dx,s _ _ e⟩,s _ _ h2,s _ _ h3⟩
theorem XE.same {CTw:Addr} {H H':Hp} {x:Addr} {th tg:V} {ab:Addr} {ho:Nat} {us:List V} (h:XE CTw H x th tg ab ho us) (s:ZA H H'):XE CTw H' x th tg ab ho us:=by
 obtain ⟨⟨dx,e⟩,h2⟩:=h
 exact ⟨⟨dx,s _ _ e⟩,s _ _ h2⟩
def OH (CTw:Addr):Sp:=fun vs H Q _=>∃ (x dx:Addr) (th tg:V),vs=[.ref x,th,tg]/\H x=some (.ins CTw dx [])/\∀ (H':Hp) (ab:Addr),(∀ b o,b≠x->H b=some o->H' b=some o)->H ab=none->XE CTw H' x th tg ab 1 []->Q .non H'
theorem HG:ZC ["self","things","tag"] ["self","things","tag"] (Zf OR):=⟨rfl,rfl,rfl,by decide +kernel,rfl,by decide +kernel,by decide +kernel⟩
theorem Dj (F:Zk K "__init__" "Twig.__init__" OR f fd) (L:Yi K mg CSh CTw):ZK P w K mg base ZV 1 f fd ["self","things","tag"] (OH CTw):=by
 refine F.ok HG (fun vs H Q E h=>(by obtain ⟨_,_,_,_,rfl,_⟩:=h;rfl)) (fun cdv A outer s H vs Q E hr h=>?_)
 obtain ⟨x,dx,th,tg,rfl,hx,k⟩:=h
 refine ⟨_,ZS (Vk (pv 0) (pv 1) rfl) (ZS (Vk (pv 0) (pv 2) rfl) (ZS (Vk (pv 0) (Ye ZG) rfl) (ZW (Vk (pv 0) ZO rfl)))),?_⟩
 refine ⟨_,rfl,_,rfl,x,CTw,dx,_,rfl,hx,L.cT,L.nth,zAC rfl,?_⟩
 refine ⟨_,rfl,_,rfl,x,CTw,dx,_,rfl,ZP,L.cT,L.ntg,zAC rfl,?_⟩
 refine ⟨nn (zAC rfl),fun ab hab=>?_⟩
 rw [Pw] at hab ⊢
 have xab:x≠ab:=fun z=>by rw [<-z,ZP] at hab;cases hab
 have nab:H ab=none:=by rw [ZT (Ne.symm xab)] at hab;exact hab
 refine ⟨_,rfl,x,CTw,dx,_,rfl,(by rw [ZT xab];exact ZP),L.cT,L.nab,zAC rfl,?_⟩
 refine ⟨_,rfl,x,CTw,dx,_,rfl,ZP,L.cT,L.nho,zAC rfl,?_⟩
 refine k _ ab (fun b o n e=>?_) nab ⟨⟨dx,ZP⟩,?_⟩
 ·rw [Pw,ZT n,ZT (ZY e nab),ZT n];exact e
 ·rw [Pw,ZT (Ne.symm xab)];exact ZP
def MH (CSh:Addr):Sp:=fun vs H Q _=>∃ (x dx:Addr),vs=[.ref x]/\H x=some (.ins CSh dx [])/\∀ (H':Hp) (d lk:Addr),(∀ b o,b≠x->H b=some o->H' b=some o)->H d=none->H lk=none->d≠lk->Yd CSh H' x d lk 0 [] []->Q .non H'
theorem Bv:ZC ["self"] ["self"] (Zf M6):=⟨rfl,rfl,rfl,by decide +kernel,rfl,by decide +kernel,by decide +kernel⟩
theorem HP (F:Zk K "__init__" "Shelf.__init__" M6 f fd) (L:Yi K mg CSh CTw):ZK P w K mg base ZV 1 f fd ["self"] (MH CSh):=by
 refine F.ok Bv (fun vs H Q E h=>(by obtain ⟨_,_,rfl,_⟩:=h;rfl)) (fun cdv A outer s H vs Q E hr h=>?_)
 obtain ⟨x,dx,rfl,hx,k⟩:=h
 refine ⟨_,ZS (Vk (pv 0) NA rfl) (ZS (Vk (pv 0) ZO rfl) (ZW (Vk (pv 0) (Ye ZG) rfl))),?_⟩
 intro d hd
 have xd:x≠d:=ZY hx hd
 refine ⟨_,rfl,x,CSh,dx,_,rfl,(by rw [ZT xd];exact hx),L.cS,L.nk,zAC rfl,?_⟩
 refine ⟨_,rfl,x,CSh,dx,_,rfl,ZP,L.cS,L.nf,zAC rfl,?_⟩
 refine ⟨nn (zAC rfl),fun lk hlk=>?_⟩
 rw [Pw] at hlk ⊢
 have xl:x≠lk:=fun z=>by rw [<-z,ZP] at hlk;cases hlk
 have hlk1:upd H d (.dK []) lk=none:=by rw [ZT (Ne.symm xl)] at hlk;exact hlk
 have dl:d≠lk:=fun z=>by rw [<-z,ZP] at hlk1;cases hlk1
 have nlk:H lk=none:=by rw [ZT (Ne.symm dl)] at hlk1;exact hlk1
 refine ⟨_,rfl,x,CSh,dx,_,rfl,(by rw [ZT xl];exact ZP),L.cS,L.nl,zAC rfl,?_⟩
 refine k _ d lk (fun b o n e=>?_) hd nlk dl ⟨⟨dx,ZP⟩,?_,?_⟩
 ·rw [ZT n,ZT (ZY e nlk),ZT n,ZT (ZY e hd)];exact e
 ·rw [ZT (Ne.symm xd),ZT dl,ZT (Ne.symm xd)];exact ZP
 ·rw [ZT (Ne.symm xl)];exact ZP
def UB (CSh:Addr):Sp:=fun vs H Q _=>∃ (S d lk:Addr) (n:Nat) (kvs:List (Zc×V)) (ls:List V) (i:Int) (tw:V),vs=[.ref S,.int i]/\Yd CSh H S d lk n kvs ls/\YA kvs (.inl i)=some tw/\Q tw H
theorem Ki:ZC ["self","number"] ["self","number"] (Zf P6):=⟨rfl,rfl,rfl,by decide +kernel,rfl,by decide +kernel,by decide +kernel⟩
theorem AI (F:Zk K "twig_of" "Shelf.twig_of" P6 f fd) (L:Yi K mg CSh CTw):ZK P w K mg base ZV 1 f fd ["self","number"] (UB CSh):=by
 refine F.ok Ki (fun vs H Q E h=>(by obtain ⟨_,_,_,_,_,_,_,_,rfl,_⟩:=h;rfl)) (fun cdv A outer s H vs Q E hr h=>?_)
 obtain ⟨S,d,lk,n,kvs,ls,i,tw,rfl,⟨⟨dx,hS⟩,hd,hl⟩,hv,k⟩:=h
 have hu:=Us hr
 refine ⟨_,ZS (Z5 (UY (Mp hu (pv 1) (Xp (pv 0) rfl))) UF Z8) (ZW (Zi (QZ hu (Xp (pv 0) rfl) (pv 1) (fun _ _=>rfl)))),?_⟩
 have hg:YK H d (.int i) (some tw):=hv ▸ YK.k (k:=Sum.inl i) hd
 refine ⟨_,rfl,_,rfl,S,CSh,dx,_,.ref d,rfl,hS,L.cS,L.nk,rfl,d,some tw,rfl,hg,_,rfl,Zp ?_⟩
 exact ⟨_,rfl,S,CSh,dx,_,.ref d,rfl,hS,L.cS,L.nk,rfl,_,rfl,d,tw,rfl,hg,k⟩
structure Wj (P:Program) (w:World) (K:zAA) (mg:Str->Option Value) (base:Heap) (k:Nat) (C:Addr) (ps:List Str) (sp:Sp):Prop where
 ex:∃ f fd,Mk K C f/\ZK P w K mg base ZV k f fd ps sp/\Zq K fd ps []
structure X3 (CSh CTw:Addr) (H:Hp) (S d lk:Addr) (n:Nat) (kvs:List (Zc×V)) (ls:List V) (i:Int) (x:Addr) (th tg:V) (ab:Addr) (ho:Nat) (us:List V):Prop where
 sh:Yd CSh H S d lk n kvs ls
 val:YA kvs (.inl i)=some (.ref x)
 tw:XE CTw H x th tg ab ho us
theorem X3.same {CSh CTw:Addr} {H H':Hp} {S d lk:Addr} {n:Nat} {kvs:List (Zc×V)} {ls:List V} {i:Int} {x:Addr} {th tg:V} {ab:Addr} {ho:Nat} {us:List V} (h:X3 CSh CTw H S d lk n kvs ls i x th tg ab ho us) (s:ZA H H'):X3 CSh CTw H' S d lk n kvs ls i x th tg ab ho us:=⟨h.sh.same s,h.val,h.tw.same s⟩
def VS (CSh CTw:Addr) (res:V->Nat->List V->V):Sp:=fun vs H Q _=>∃ (S d lk:Addr) (n:Nat) (kvs:List (Zc×V)) (ls:List V) (i:Int) (x:Addr) (th tg:V) (ab:Addr) (ho:Nat) (us:List V),vs=[.ref S,.int i]/\X3 CSh CTw H S d lk n kvs ls i x th tg ab ho us/\Q (res tg ho us) H
theorem Dt:ZC ["self","number"] ["self","number"] (Zf Nd):=⟨rfl,rfl,rfl,by decide +kernel,rfl,by decide +kernel,by decide +kernel⟩
theorem B7 (F:Zk K "outside" "Shelf.outside" Nd f fd) (L:Yi K mg CSh CTw) (DT:ZJ P w K mg base ZV 1 CSh "twig_of" ["self","number"] (UB CSh)):ZK P w K mg base ZV 2 f fd ["self","number"] (VS CSh CTw fun _ ho _=>.int ho):=by
 refine F.ok Dt (fun vs H Q E h=>(by obtain ⟨_,_,_,_,_,_,_,_,_,_,_,_,_,rfl,_⟩:=h;rfl)) (fun cdv A outer s H vs Q E hr h=>?_)
 obtain ⟨S,d,lk,n,kvs,ls,i,x,th,tg,ab,ho,us,rfl,R,k⟩:=h
 refine ⟨_,ZW (Zi (Xp (Y0 (E:=E0) (pv 0) L.cS DT hr Yr (ZI (pv 1) ZG)) rfl)),?_⟩
 obtain ⟨dx,hS⟩:=R.sh.self
 obtain ⟨dt,hx⟩:=R.tw.self
 exact ⟨_,rfl,S,dx,_,rfl,hS,rfl,_,rfl,S,d,lk,n,kvs,ls,i,.ref x,rfl,R.sh,R.val,x,CTw,dt,_,.int ho,rfl,hx,L.cT,L.nho,rfl,k⟩
theorem Ji:ZC ["self","number"] ["self","number"] (Zf Pk):=⟨rfl,rfl,rfl,by decide +kernel,rfl,by decide +kernel,by decide +kernel⟩
theorem DX (F:Zk K "label" "Shelf.label" Pk f fd) (L:Yi K mg CSh CTw) (DT:ZJ P w K mg base ZV 1 CSh "twig_of" ["self","number"] (UB CSh)):ZK P w K mg base ZV 2 f fd ["self","number"] (VS CSh CTw fun tg _ _=>tg):=by
 refine F.ok Ji (fun vs H Q E h=>(by obtain ⟨_,_,_,_,_,_,_,_,_,_,_,_,_,rfl,_⟩:=h;rfl)) (fun cdv A outer s H vs Q E hr h=>?_)
 obtain ⟨S,d,lk,n,kvs,ls,i,x,th,tg,ab,ho,us,rfl,R,k⟩:=h
 refine ⟨_,ZW (Zi (Xp (Y0 (E:=E0) (pv 0) L.cS DT hr Yr (ZI (pv 1) ZG)) rfl)),?_⟩
 obtain ⟨dx,hS⟩:=R.sh.self
 obtain ⟨dt,hx⟩:=R.tw.self
 exact ⟨_,rfl,S,dx,_,rfl,hS,rfl,_,rfl,S,d,lk,n,kvs,ls,i,.ref x,rfl,R.sh,R.val,x,CTw,dt,_,tg,rfl,hx,L.cT,L.ntg,rfl,k⟩
theorem Xb:ZC ["self","number","twig"] ["self","number"] (Zf N4):=⟨rfl,rfl,rfl,by decide +kernel,rfl,by decide +kernel,by decide +kernel⟩
theorem Bs (F:Zk K "holders" "Shelf.holders" N4 f fd) (T:YG mg) (L:Yi K mg CSh CTw) (DT:ZJ P w K mg base ZV 1 CSh "twig_of" ["self","number"] (UB CSh)):ZK P w K mg base ZV 2 f fd ["self","number"] (VS CSh CTw fun _ ho us=>.int ((us.length:Nat)+(ho:Nat):Int)):=by
 refine F.ok Xb (fun vs H Q E h=>(by obtain ⟨_,_,_,_,_,_,_,_,_,_,_,_,_,rfl,_⟩:=h;rfl)) (fun cdv A outer s H vs Q E hr h=>?_)
 obtain ⟨S,d,lk,n,kvs,ls,i,x,th,tg,ab,ho,us,rfl,R,k⟩:=h
 have nd:=Xb.nd
 refine ⟨_,ZS (Zm (i:=2) nd rfl (Or.inl rfl) (Y0 (E:=E0) (pv 0) L.cS DT hr Yr (ZI (pv 1) ZG))) (ZW (Zi (Zs Xg (Zw XH rfl T.len XA (ZI (Xp (pv 2) rfl) ZG)) (Xp (pv 2) rfl)))),?_⟩
 obtain ⟨dx,hS⟩:=R.sh.self
 obtain ⟨dt,hx⟩:=R.tw.self
 refine ⟨_,rfl,S,dx,_,rfl,hS,rfl,_,rfl,S,d,lk,n,kvs,ls,i,.ref x,rfl,R.sh,R.val,?_⟩
 exact ⟨_,rfl,x,CTw,dt,_,.ref ab,rfl,hx,L.cT,L.nab,rfl,ab,us,rfl,.inl (ZM.of R.tw.above),_,rfl,x,CTw,dt,_,.int ho,rfl,hx,L.cT,L.nho,rfl,_,_,rfl,rfl,k⟩
def PD (CTw:Addr):Sp:=fun vs H Q _=>∃ (x:Addr) (th:V) (tg ab:Addr) (ho:Nat) (us:List V) (h:Int) (xs:List V),vs=[.ref x]/\XE CTw H x th (.ref tg) ab ho us/\H tg=some (.tup (.int h :: xs))/\Q (.bl (decide (h > 0))) H
theorem CN:ZC ["twig"] ["twig"] (Zf Nl):=⟨rfl,rfl,rfl,by decide +kernel,rfl,by decide +kernel,by decide +kernel⟩
theorem GQ (F:Zk K "is_stem" "is_stem" Nl f fd) (T:YG mg) (L:Yi K mg CSh CTw):ZK P w K mg base ZV 1 f fd ["twig"] (PD CTw):=by
 refine F.ok CN (fun vs H Q E h=>(by obtain ⟨_,_,_,_,_,_,_,_,rfl,_⟩:=h;rfl)) (fun cdv A outer s H vs Q E hr h=>?_)
 obtain ⟨x,th,tg,ab,ho,us,hh,xs,rfl,W,ht,k⟩:=h
 obtain ⟨t0,m0⟩:=T.height
 obtain ⟨dt,hx⟩:=W.self
 refine ⟨_,ZW (Zi (Xm Vx (Zo (r:=YB K) YH (Xp (pv 0) rfl) (Xa (v:=.int 0) rfl m0 ⟨_,rfl⟩) (fun _ _=>rfl)) ZO (Z2 _))),?_⟩
 exact ⟨_,rfl,x,CTw,dt,_,.ref tg,rfl,hx,L.cT,L.ntg,rfl,.inr (.inl ⟨tg,_,_,.int hh,rfl,rfl,Zj.of ht,XL (j:=0) rfl,_,_,rfl,rfl,k⟩)⟩
def MR (CSh CTw:Addr):Sp:=fun vs H Q _=>∃ (S d lk:Addr) (n:Nat) (kvs:List (Zc×V)) (ls:List V) (i:Int) (x tl tg ab:Addr) (ho:Nat) (as us xs:List V) (h:Int),vs=[.ref S,.int i]/\X3 CSh CTw H S d lk n kvs ls i x (.ref tl) (.ref tg) ab ho as/\H tl=some (.lst us)/\H tg=some (.tup (.int h :: xs))/\lk≠tl/\lk≠ab/\ls.length<=900 /\
 ∀ (H':Hp) (l' t:Addr),(∀ b o,b≠lk->H b=some o->H' b=some o)->H' lk=some (.lst (ls++[.int i]))->H l'=none->H' l'=some (.lst us)->H' t=some (.tup [.str (if h > 0 then "stem" else "leaf"),.ref l'])->Q (.ref t) H'
theorem VD:ZC ["self","number","twig"] ["self","number"] (Zf OX):=⟨rfl,rfl,rfl,by decide +kernel,rfl,by decide +kernel,by decide +kernel⟩
theorem Bg (F:Zk K "look" "Shelf.look" OX f fd) (T:YG mg) (L:Yi K mg CSh CTw) (DT:ZJ P w K mg base ZV 1 CSh "twig_of" ["self","number"] (UB CSh)) (DS:ZB P w K mg base 1 "is_stem" ["twig"] (PD CTw)):ZK P w K mg base ZV 2 f fd ["self","number"] (MR CSh CTw):=by
 refine F.ok VD (fun vs H Q E h=>(by obtain ⟨_,_,_,_,_,_,_,_,_,_,_,_,_,_,_,_,rfl,_⟩:=h;rfl)) (fun cdv A outer s H vs Q E hr h=>?_)
 obtain ⟨S,d,lk,n,kvs,ls,i,x,tl,tg,ab,ho,as,us,xs,hh,rfl,R,htl,htg,ltl,lab,l900,k⟩:=h
 have nd:=VD.nd
 refine ⟨_,ZS (Zm (i:=2) nd rfl (Or.inl rfl) (Y0 (E:=E0) (pv 0) L.cS DT hr Yr (ZI (pv 1) ZG)))
  (ZS (XX (VV zAn zAv zAu VO (Xp (pv 0) rfl) (ZI (pv 1) ZG)))
  (ZS (Z5 (Yu (Zg DS hr (ZI (pv 2) ZG))) (ZW (Zi (YU (ZI Y3 (ZI (Xh UC rfl T.list Vc (ZI (Xp (pv 2) rfl) ZG)) ZG))))) Z8)
  (ZW (Zi (YU (ZI Y3 (ZI (Xh UC rfl T.list Vc (ZI (Xp (pv 2) rfl) ZG)) ZG))))))),?_⟩
 obtain ⟨dx,hS⟩:=R.sh.self
 obtain ⟨dt,hx⟩:=R.tw.self
 refine ⟨_,rfl,S,dx,_,rfl,hS,rfl,_,rfl,S,d,lk,n,kvs,ls,i,.ref x,rfl,R.sh,R.val,?_⟩
 have hlk:=R.sh.looks
 refine ⟨_,rfl,S,CSh,dx,_,.ref lk,rfl,hS,L.cS,L.nl,rfl,.inl ⟨rfl,_,ZM.of hlk⟩,_,rfl,lk,ls,.int i,rfl,rfl,hlk,Yp (by omega),?_⟩
 have ke:∀ b o,b≠lk->H b=some o->upd H lk (.lst (ls++[.int i])) b=some o:=fun b o n e=>by rw [ZT n];exact e
 have xlk:x≠lk:=ZR hx hlk (by intro z;cases z)
 have tglk:tg≠lk:=ZR htg hlk (by intro z;cases z)
 have hx1:=ke _ _ xlk hx
 have htg1:=ke _ _ tglk htg
 have hab1:=ke _ _ (Ne.symm lab) R.tw.above
 have htl1:=ke _ _ (Ne.symm ltl) htl
 have hlk1:upd H lk (.lst (ls++[.int i])) lk=some (.lst (ls++[.int i])):=ZP
 have fin:∀ (w:Str) (l' t:Addr),upd H lk (.lst (ls++[.int i])) l'=none->upd (upd H lk (.lst (ls++[.int i]))) l' (.lst us) t=none->w=(if hh > 0 then ("stem" : Str) else "leaf")->Q (.ref t) (upd (upd (upd H lk (.lst (ls++[.int i]))) l' (.lst us)) t (.tup [.str w,.ref l'])):=fun w l' t hl' ht ew=>by
  have g1:=Za hl' (.lst us)
  have g2:=Za ht (.tup [.str w,.ref l'])
  have g:=g1.trans g2
  have nl':H l'=none:=by
   cases z:H l' with
   | none=>rfl
   | some o=>
    have:l'≠lk:=fun y=>by rw [y,ZP] at hl';cases hl'
    rw [ZT this,z] at hl';cases hl'
  refine k _ l' t (fun b o n e=>g _ _ (ke b o n e)) (g _ _ hlk1) nl' (g2 _ _ ZP) ?_
  rw [ZP,ew]
 refine ⟨_,rfl,x,.ref tl,tg,ab,ho,as,hh,xs,rfl,⟨⟨dt,hx1⟩,hab1⟩,htg1,_,rfl,?_⟩
 by_cases hp:hh > 0
 ·rw [decide_eq_true hp]
  refine Zy ⟨_,rfl,x,CTw,dt,_,.ref tl,rfl,hx1,L.cT,L.nth,rfl,tl,us,rfl,.inl (ZM.of htl1),fun l' hl'=>⟨nn (zAC rfl),fun t ht=>?_⟩⟩
  exact fin _ l' t hl' ht (by rw [if_pos hp])
 ·rw [decide_eq_false hp]
  refine Zp ⟨_,rfl,x,CTw,dt,_,.ref tl,rfl,hx1,L.cT,L.nth,rfl,tl,us,rfl,.inl (ZM.of htl1),fun l' hl'=>⟨nn (zAC rfl),fun t ht=>?_⟩⟩
  exact fin _ l' t hl' ht (by rw [if_neg hp])
structure XN (P:Program) (w:World) (K:zAA) (mg:Str->Option Value) (base:Heap) (nm:Str) (C:Addr):Prop where
 ex:∃ fI fd,Xl K C fI "number" /\ ZK P w K mg base ZV 1 fI fd ["self","number"] (Qo K C fI "number")/\Zq K fd ["self","number"] []
 at_:mg nm=some (.ref C)
 ty:zA4 K (.ref C)=some (.type "type")
theorem B9 {X:Cx} {E:XK} {nm:Str} {C:Addr} {e:Expr} {es:List Expr} {t:TA} {p cpos pos:Pos} (F:WG X E) (N:XN X.prog X.w X.K X.mg X.base nm C) (hr:ZZ 2 X.A) (ha:PA X (e :: es) t) (hg:Gl X nm) (hdb:(nm==("__debug__" : Str))=false:=by decide)
  (he:starEach (e :: es) X.env=(false,eval e X.env) :: starEach es X.env:=by rfl) (hpl:(backTo cpos (starEach es X.env)).any (·.1)=false:=by rfl):PS X (.Raise (some (.Call (.Name nm p) (e :: es) [] cpos)) none pos) (Ll C "number" E t):=by
 obtain ⟨fI,fd,c,G,b⟩:=N.ex
 exact Gh F c N.ty G hr hg N.at_ b ha hdb he hpl
def Up (C:Addr) (x:Int) (E:XK) (H:Hp):Prop:=∀ dx H',ZA H H'->H' dx=some (.xd [("number",.int x)])->E (.ref C) (some dx) H'
theorem Up.go {C:Addr} {x:Int} {E:XK} {H H1:Hp} (r:Up C x E H) (s:ZA H H1) {dx:Addr} (h:H1 dx=none):E (.ref C) (some dx) (upd H1 dx (.xd [("number",.int x)])):=r dx _ (s.trans (Za h _)) ZP
def NV (CSh CT:Addr):Sp:=fun vs H Q E=>∃ (S d lk:Addr) (n:Nat) (kvs:List (Zc×V)) (ls:List V) (x:Int),vs=[.ref S,.int x]/\Yd CSh H S d lk n kvs ls/\(∀ tw,YA kvs (.inl x)=some tw->Q tw H)/\(YA kvs (.inl x)=none->Up CT x E H)
theorem Cw {CT:Addr} (F:Zk K "twig_of" "Shelf.twig_of" P6 f fd) (L:Yi K mg CSh CTw) (N:XN P w K mg base "NoTwig" CT):ZK P w K mg base (XM P w) 3 f fd ["self","number"] (NV CSh CT):=by
 refine F.okD Ki (fun vs H Q E h=>(by obtain ⟨_,_,_,_,_,_,_,rfl,_⟩:=h;rfl)) (fun cdv A outer s H vs Q E hr h=>?_)
 obtain ⟨S,d,lk,n,kvs,ls,x,rfl,⟨⟨dx,hS⟩,hd,hl⟩,k1,k2⟩:=h
 have hu:=Us hr
 refine ⟨_,ZS (Z5 (UY (Mp hu (pv 1) (Xp (pv 0) rfl))) (ZW (B9 UT N hr (ZI (pv 1) ZG) rfl)) Z8) (ZW (Zi (QZ hu (Xp (pv 0) rfl) (pv 1) (fun _ _=>rfl)))),?_⟩
 cases hv:YA kvs (.inl x) with
 | none=>
  have hg:YK H d (.int x) none:=hv ▸ YK.k (k:=Sum.inl x) hd
  refine ⟨_,rfl,_,rfl,S,CSh,dx,_,.ref d,rfl,hS,L.cS,L.nk,rfl,d,none,rfl,hg,_,rfl,Zy ?_⟩
  exact ⟨_,rfl,_,rfl,fun dd hdd=>(k2 hv).go (ZA.refl H) hdd⟩
 | some tw=>
  have hg:YK H d (.int x) (some tw):=hv ▸ YK.k (k:=Sum.inl x) hd
  refine ⟨_,rfl,_,rfl,S,CSh,dx,_,.ref d,rfl,hS,L.cS,L.nk,rfl,d,some tw,rfl,hg,_,rfl,Zp ?_⟩
  exact ⟨_,rfl,S,CSh,dx,_,.ref d,rfl,hS,L.cS,L.nk,rfl,_,rfl,d,tw,rfl,hg,k1 tw hv⟩
def NI (CSh CTw CT:Addr):Sp:=fun vs H Q E=>∃ (S d lk:Addr) (n:Nat) (kvs:List (Zc×V)) (ls:List V) (x:Int),vs=[.ref S,.int x]/\Yd CSh H S d lk n kvs ls /\
 (∀ tw,YA kvs (.inl x)=some tw->∃ (a:Addr) (th tg:V) (ab:Addr) (ho:Nat) (us:List V),tw=.ref a/\XE CTw H a th tg ab ho us/\Q tg H)/\(YA kvs (.inl x)=none->Up CT x E H)
theorem E2 {CT:Addr} (F:Zk K "label" "Shelf.label" Pk f fd) (L:Yi K mg CSh CTw) (DT:ZJ P w K mg base (XM P w) 3 CSh "twig_of" ["self","number"] (NV CSh CT)):ZK P w K mg base (XM P w) 4 f fd ["self","number"] (NI CSh CTw CT):=by
 refine F.okD Ji (fun vs H Q E h=>(by obtain ⟨_,_,_,_,_,_,_,rfl,_⟩:=h;rfl)) (fun cdv A outer s H vs Q E hr h=>?_)
 obtain ⟨S,d,lk,n,kvs,ls,x,rfl,R,k1,k2⟩:=h
 refine ⟨_,ZW (Zi (Xp (Y0 (E:=E) (pv 0) L.cS DT hr (Mv UT fun _ _ _ h=>h) (ZI (pv 1) ZG)) rfl)),?_⟩
 obtain ⟨dx,hS⟩:=R.self
 refine ⟨_,rfl,S,dx,_,rfl,hS,rfl,_,rfl,S,d,lk,n,kvs,ls,x,rfl,R,fun tw hv=>?_,k2⟩
 obtain ⟨a,th,tg,ab,ho,us,rfl,W,q⟩:=k1 tw hv
 obtain ⟨dt,hx⟩:=W.self
 exact ⟨a,CTw,dt,_,tg,rfl,hx,L.cT,L.ntg,rfl,q⟩
end
section
variable {P:Program} {w:World} {K:zAA} {mg:Str->Option Value} {base:Heap} {f:Addr} {fd:FuncData} {CSh CTw CS CT CH:Addr}
structure Zz where
 x:Addr
 th:Addr
 tg:Addr
 ab:Addr
def Zz.d:Zz:=⟨0,0,0,0⟩
structure V9 (CTw:Addr) (H:Hp) (ts:List ZU) (av:Nat->List Nat) (ho:Nat->Nat) (i:Nat) (a:Zz):Prop where
 tw:XE CTw H a.x (.ref a.th) (.ref a.tg) a.ab (ho i) (iN (av i))
 things:∃ us,H a.th=some (.lst us)/\((gd ts i).h=0->KeysAt H (YF (gd ts i).rows) us)/\((gd ts i).h≠0->us=iN (gd ts i).bs)
 tag:YY H (Z7 (gd ts i)) (.ref a.tg)
theorem V9.same {CTw:Addr} {H H':Hp} {ts:List ZU} {av:Nat->List Nat} {ho:Nat->Nat} {i:Nat} {a:Zz} (h:V9 CTw H ts av ho i a) (s:ZA H H'):V9 CTw H' ts av ho i a:=by
 obtain ⟨us,e1,e2,e3⟩:=h.things
 exact ⟨h.tw.same s,⟨us,s _ _ e1,fun z=>(e2 z).mono (ZA.tups s) _ _,e3⟩,h.tag.mono (ZA.tups s)⟩
structure YI (CSh CTw:Addr) (H:Hp) (S d lk:Addr) (ts:List ZU) (av:Nat->List Nat) (ho:Nat->Nat) (as:List Zz) (kvs:List (Zc×V)) (ls:List V):Prop where
 sh:Yd CSh H S d lk ts.length kvs ls
 keys:kvs.map (·.1)=(zAi ts.length).map (fun i:Nat=>(Sum.inl (i:Int):Zc))
 val:∀ i:Nat,i<ts.length->YA kvs (Sum.inl (i:Int))=some (.ref (as.getD i .d).x)
 len:as.length=ts.length
 tw:∀ i:Nat,i<ts.length->V9 CTw H ts av ho i (as.getD i .d)
 own:∀ i:Nat,i<ts.length->(as.getD i .d).x≠S/\(as.getD i .d).ab≠lk/\(as.getD i .d).th≠lk/\(as.getD i .d).ab≠(as.getD i .d).th
 two:∀ i j:Nat,i<ts.length->j<ts.length->i≠j->(as.getD i .d).x≠(as.getD j .d).x/\(as.getD i .d).ab≠(as.getD j .d).ab/\(as.getD i .d).ab≠(as.getD j .d).th/\(as.getD i .d).th≠(as.getD j .d).th
theorem YI.same {CSh CTw:Addr} {H H':Hp} {S d lk:Addr} {ts:List ZU} {av:Nat->List Nat} {ho:Nat->Nat} {as:List Zz} {kvs:List (Zc×V)} {ls:List V} (h:YI CSh CTw H S d lk ts av ho as kvs ls) (s:ZA H H'):YI CSh CTw H' S d lk ts av ho as kvs ls:=
 ⟨h.sh.same s,h.keys,h.val,h.len,fun i hi=>(h.tw i hi).same s,h.own,h.two⟩
theorem V9.frame {CTw:Addr} {H H':Hp} {ts:List ZU} {av:Nat->List Nat} {ho:Nat->Nat} {i:Nat} {a:Zz} (h:V9 CTw H ts av ho i a) (m:Zu H H') (kx:∀ o,H a.x=some o->H' a.x=some o) (kt:∀ o,H a.th=some o->H' a.th=some o) (ka:∀ o,H a.ab=some o->H' a.ab=some o):V9 CTw H' ts av ho i a:=by
 obtain ⟨us,e1,e2,e3⟩:=h.things
 obtain ⟨dx,e4⟩:=h.tw.self
 exact ⟨⟨⟨dx,kx _ e4⟩,ka _ h.tw.above⟩,⟨us,kt _ e1,fun z=>(e2 z).mono m _ _,e3⟩,h.tag.mono m⟩
theorem YI.none {CSh CTw:Addr} {H:Hp} {S d lk:Addr} {ts:List ZU} {av:Nat->List Nat} {ho:Nat->Nat} {as:List Zz} {kvs:List (Zc×V)} {ls:List V} (h:YI CSh CTw H S d lk ts av ho as kvs ls) {x:Int} (hx:inT ts x=false):YA kvs (Sum.inl x)=zCh:=by
 cases z:YA kvs (Sum.inl x) with
 | none=>rfl
 | some v=>
  have:=JG z
  rw [h.keys] at this
  obtain ⟨i,hi,ei⟩:=zAf.mp this
  have e1:=Sum.inl.inj ei
  have e2:=zA2.mp hi
  unfold inT at hx
  have:=of_decide_eq_false hx
  omega
theorem Ow {ts:List ZU} {x:Int} (h:inT ts x=true):∃ i:Nat,x=(i:Int)/\i<ts.length:=by
 unfold inT at h
 have:=of_decide_eq_true h
 exact ⟨x.toNat,by omega,by omega⟩
def QY (av:Nat->List Nat) (b st:Nat):Nat->List Nat:=fun i=>if i=b then av i++[st] else av i
def QF (ho:Nat->Nat) (b:Nat):Nat->Nat:=fun i=>if i=b then ho i - 1 else ho i
theorem YI.touch {CSh CTw:Addr} {H H':Hp} {S d lk:Addr} {ts:List ZU} {av:Nat->List Nat} {ho:Nat->Nat} {as:List Zz} {kvs:List (Zc×V)} {ls:List V} (R:YI CSh CTw H S d lk ts av ho as kvs ls) {b st:Nat} (hb:b<ts.length)
  (hx:∃ dx,H' (as.getD b .d).x=some (.ins CTw dx (Wm (.ref (as.getD b .d).th) (.ref (as.getD b .d).tg) (as.getD b .d).ab (ho b - 1)))) (ha:H' (as.getD b .d).ab=some (.lst (iN (av b++[st]))))
  (k:∀ c o,c≠(as.getD b .d).x->c≠(as.getD b .d).ab->H c=some o->H' c=some o):YI CSh CTw H' S d lk ts (QY av b st) (QF ho b) as kvs ls:=by
 obtain ⟨⟨dS,hS⟩,hd,hl⟩:=R.sh
 have Wb:=R.tw b hb
 obtain ⟨dx0,hx0⟩:=Wb.tw.self
 have hab:=Wb.tw.above
 obtain ⟨us,e1,e2,e3⟩:=Wb.things
 have m:Zu H H':=fun c xs e=>k c _ (ZR e hx0 (by intro z;cases z)) (ZR e hab (by intro z;cases z)) e
 refine ⟨⟨⟨dS,k _ _ (R.own b hb).1.symm (ZR hS hab (by intro z;cases z)) hS⟩,k _ _ (ZR hd hx0 (by intro z;cases z)) (ZR hd hab (by intro z;cases z)) hd,k _ _ (ZR hl hx0 (by intro z;cases z)) (R.own b hb).2.1.symm hl⟩,R.keys,R.val,R.len,fun i hi=>?_,R.own,R.two⟩
 by_cases z:i=b
 ·subst z
  have ea:QY av i st i=av i++[st]:=if_pos rfl
  have eh:QF ho i i=ho i - 1:=if_pos rfl
  refine ⟨⟨?_,?_⟩,⟨us,k _ _ (ZR e1 hx0 (by intro z;cases z)) (R.own i hi).2.2.2.symm e1,fun z=>(e2 z).mono m _ _,e3⟩,Wb.tag.mono m⟩
  ·rw [eh];exact hx
  ·rw [ea];exact ha
 ·have ea:QY av b st i=av i:=if_neg z
  have eh:QF ho b i=ho i:=if_neg z
  have Wi:=R.tw i hi
  obtain ⟨t1,t2,t3,t4⟩:=R.two i b hi hb z
  obtain ⟨s1,s2,s3,s4⟩:=R.two b i hb hi (Ne.symm z)
  obtain ⟨dx1,hx1⟩:=Wi.tw.self
  obtain ⟨vs,f1,_⟩:=Wi.things
  have G:=Wi.frame m (fun o e=>k _ _ t1 (by have:=hx1.symm.trans e;exact ZR hx1 hab (by intro z;cases z)) e) (fun o e=>k _ _ (ZR f1 hx0 (by intro z;cases z)) s3.symm e) (fun o e=>k _ _ (ZR Wi.tw.above hx0 (by intro z;cases z)) t2 e)
  refine ⟨?_,G.things,G.tag⟩
  rw [ea,eh]
  exact G.tw
def Ww (bs:List Nat) (st:Nat) (av:Nat->List Nat):Nat->List Nat:=fun i=>if i∈bs then av i++[st] else av i
def VB (bs:List Nat) (ho:Nat->Nat):Nat->Nat:=fun i=>if i∈bs then ho i - 1 else ho i
theorem Dz {bs:List Nat} {b st:Nat} {av:Nat->List Nat} (h:b∉bs):QY (Ww bs st av) b st=Ww (bs++[b]) st av:=by
 funext i
 unfold QY Ww
 by_cases z:i=b
 ·subst z
  rw [if_pos rfl,if_neg h,if_pos (by simp)]
 ·rw [if_neg z]
  by_cases y:i∈bs
  ·rw [if_pos y,if_pos (by simp [y])]
  ·rw [if_neg y,if_neg (by simp [y,z])]
theorem Bq {bs:List Nat} {b:Nat} {ho:Nat->Nat} (h:b∉bs):QF (VB bs ho) b=VB (bs++[b]) ho:=by
 funext i
 unfold QF VB
 by_cases z:i=b
 ·subst z
  rw [if_pos rfl,if_neg h,if_pos (by simp)]
 ·rw [if_neg z]
  by_cases y:i∈bs
  ·rw [if_pos y,if_pos (by simp [y])]
  ·rw [if_neg y,if_neg (by simp [y,z])]
abbrev Mu:Stmt:=Xn (Zr 44) 21
def NL (CSh CTw:Addr):Sp:=fun vs H Q _=>∃ (S d lk l:Addr) (ts:List ZU) (av:Nat->List Nat) (ho:Nat->Nat) (as:List Zz) (kvs:List (Zc×V)) (ls:List V) (bs:List Nat) (st:Nat),vs=[.ref S,.int st,.ref l]/\YI CSh CTw H S d lk ts av ho as kvs ls/\H l=some (.lst (iN bs))/\bs.Nodup/\(∀ b∈bs,b<ts.length/\1<=ho b/\(av b).length<=900) /\
 (∀ b:Nat,b<ts.length->l≠(as.getD b .d).ab) /\
 ∀ H':Hp,(∀ c o,(∀ b:Nat,b<ts.length->c≠(as.getD b .d).x/\c≠(as.getD b .d).ab)->H c=some o->H' c=some o)->(∀ c,H' c=none->H c=none)->YI CSh CTw H' S d lk ts (Ww bs st av) (VB bs ho) as kvs ls->Q .non H'
abbrev Fw:List Str:=["self","stem","branches","branch","twig"]
theorem XC:ZC Fw ["self","stem","branches"] (Zf Mu):=⟨rfl,rfl,rfl,by decide +kernel,rfl,by decide +kernel,by decide +kernel⟩
theorem Ds (F:Zk K "take_over" "Shelf.take_over" Mu f fd) (L:Yi K mg CSh CTw) (DT:ZJ P w K mg base ZV 1 CSh "twig_of" ["self","number"] (UB CSh)):ZK P w K mg base ZV 2 f fd ["self","stem","branches"] (NL CSh CTw):=by
 refine F.ok XC (fun vs H Q E h=>(by obtain ⟨_,_,_,_,_,_,_,_,_,_,_,_,rfl,_⟩:=h;rfl)) (fun cdv A outer s H vs Q E hr h=>?_)
 obtain ⟨S,d,lk,l,ts,av,ho,as,kvs,ls,bs,st,rfl,R,hl,hnd,hb,hla,k⟩:=h
 have nd:=XC.nd
 refine ⟨_,ZW (VJ PassesOwn.never rfl (WJ (pv 2)) (Y6 (i:=3) nd rfl (Or.inl rfl))
  (ZS (Zm (i:=4) nd rfl (Or.inl rfl) (Y0 (E:=E0) (pv 0) L.cS DT hr Yr (ZI (pv 3) ZG)))
  (ZS (KG (pv 4) ZO JF)
  (ZW (XX (VV zAn zAv zAu VO (Xp (pv 4) rfl) (ZI (pv 1) ZG))))))),?_⟩
 refine ⟨_,rfl,l,rfl,⟨_,ZM.of hl⟩,Pf (K:=K) (a:=l) (xs:=iN bs) (fun i σ H2=>∃ x y:Option V,σ=[some (.ref S),some (.int st),some (.ref l),x,y]/\(∀ c o,(∀ b:Nat,b<ts.length->c≠(as.getD b .d).x/\c≠(as.getD b .d).ab)->H c=some o->H2 c=some o)/\(∀ c,H2 c=none->H c=none)/\YI CSh CTw H2 S d lk ts (Ww (bs.take i) st av) (VB (bs.take i) ho) as kvs ls)
  ⟨_,_,rfl,fun c o _ e=>e,fun c e=>e,(by
   have e1:Ww [] st av=av:=funext fun i=>if_neg (by simp)
   have e2:VB [] ho=ho:=funext fun i=>if_neg (by simp)
   rw [show bs.take 0=[] from rfl,e1,e2];exact R)⟩ ?_ ?_ ?_⟩
 ·rintro i σ H2 _ ⟨x,y,rfl,k2,_,R2⟩
  refine ZM.of (k2 _ _ (fun b hb=>⟨?_,hla b hb⟩) hl)
  obtain ⟨dx,hx⟩:=(R.tw b hb).tw.self
  exact ZR hl hx (by intro z;cases z)
 ·rintro i u σ H2 hu2 ⟨x,y,rfl,k2,k3,R2⟩
  unfold iN at hu2
  rw [zAN] at hu2
  obtain ⟨b,eb,rfl⟩:=zAq.mp hu2
  obtain ⟨hbl,hb1,hb9⟩:=hb b (zAK eb)
  have hnb:b∉bs.take i:=fun z=>by
   have hs:bs=bs.take i++b :: bs.drop (i+1):=by
    have hi:=(zAO.mp eb)
    obtain ⟨hi,e⟩:=hi
    rw [<-e,<-zB9 hi,zBu]
   rw [hs,zBr] at hnd
   exact hnd.2.2 b z b (by simp) rfl
  have eho:VB (bs.take i) ho b=ho b:=if_neg hnb
  have eav:Ww (bs.take i) st av b=av b:=if_neg hnb
  obtain ⟨dS,hS⟩:=R2.sh.self
  have Wb:=R2.tw b hbl
  obtain ⟨dt,hx⟩:=Wb.tw.self
  have hab:=Wb.tw.above
  rw [eho] at hx
  rw [eav] at hab
  refine ⟨_,rfl,S,dS,_,rfl,hS,rfl,_,rfl,S,d,lk,ts.length,kvs,ls,(b:Int),.ref (as.getD b .d).x,rfl,R2.sh,R2.val b hbl,?_⟩
  refine ⟨_,rfl,(as.getD b .d).x,CTw,dt,_,.int (ho b:Nat),rfl,hx,L.cT,L.nho,rfl,_,_,rfl,rfl,dt,_,hx,zAC rfl,?_⟩
  have eh:((ho b:Nat):Int) - 1=((ho b - 1:Nat):Int):=by omega
  have hx3:upd H2 (as.getD b .d).x (.ins CTw dt (Yh "holds" (.int (((ho b:Nat):Int) - 1)) (Wm (.ref (as.getD b .d).th) (.ref (as.getD b .d).tg) (as.getD b .d).ab (ho b)))) (as.getD b .d).x=some (.ins CTw dt (Wm (.ref (as.getD b .d).th) (.ref (as.getD b .d).tg) (as.getD b .d).ab (ho b - 1))):=by rw [ZP,eh];rfl
  have xab:(as.getD b .d).ab≠(as.getD b .d).x:=ZR hab hx (by intro z;cases z)
  have hab3:upd H2 (as.getD b .d).x (.ins CTw dt (Yh "holds" (.int (((ho b:Nat):Int) - 1)) (Wm (.ref (as.getD b .d).th) (.ref (as.getD b .d).tg) (as.getD b .d).ab (ho b)))) (as.getD b .d).ab=some (.lst (iN (av b))):=by rw [ZT xab];exact hab
  have ke3:∀ c o,c≠(as.getD b .d).x->H2 c=some o->upd H2 (as.getD b .d).x (.ins CTw dt (Yh "holds" (.int (((ho b:Nat):Int) - 1)) (Wm (.ref (as.getD b .d).th) (.ref (as.getD b .d).tg) (as.getD b .d).ab (ho b)))) c=some o:=fun c o n e=>by rw [ZT n];exact e
  have no3:∀ c,upd H2 (as.getD b .d).x (.ins CTw dt (Yh "holds" (.int (((ho b:Nat):Int) - 1)) (Wm (.ref (as.getD b .d).th) (.ref (as.getD b .d).tg) (as.getD b .d).ab (ho b)))) c=none->H2 c=none:=fun c e=>by
   by_cases z:c=(as.getD b .d).x
   ·rw [z,ZP] at e;cases e
   ·rw [ZT z] at e;exact e
  generalize upd H2 (as.getD b .d).x (.ins CTw dt (Yh "holds" (.int (((ho b:Nat):Int) - 1)) (Wm (.ref (as.getD b .d).th) (.ref (as.getD b .d).tg) (as.getD b .d).ab (ho b))))=H3 at hx3 hab3 ke3 no3 ⊢
  refine ⟨_,rfl,(as.getD b .d).x,CTw,dt,_,.ref (as.getD b .d).ab,rfl,hx3,L.cT,L.nab,rfl,.inl ⟨rfl,_,ZM.of hab3⟩,_,rfl,(as.getD b .d).ab,_,.int st,rfl,rfl,hab3,Yp (by rw [show (iN (av b)).length=(av b).length from zAD _];omega),?_⟩
  have et:bs.take (i+1)=bs.take i++[b]:=by rw [zAm,eb];rfl
  refine ⟨_,_,rfl,fun c o hc e=>?_,fun c e=>?_,?_⟩
  ·obtain ⟨n1,n2⟩:=hc b hbl
   rw [ZT n2]
   exact ke3 _ _ n1 (k2 c o hc e)
  ·by_cases z:c=(as.getD b .d).ab
   ·rw [z,ZP] at e;cases e
   ·rw [ZT z] at e;exact k3 c (no3 c e)
  ·rw [et,<-Dz hnb,<-Bq hnb]
   refine R2.touch hbl ⟨dt,?_⟩ ?_ fun c o n1 n2 e=>?_
   ·rw [ZT (Ne.symm xab),eho];exact hx3
   ·rw [ZP,eav]
    simp [iN]
   ·rw [ZT n2];exact ke3 _ _ n1 e
 ·rintro σ H2 ⟨x,y,rfl,k2,k3,R2⟩
  rw [show (iN bs).length=bs.length from zAD _,zAU (zAH _)] at R2
  exact k H2 k2 k3 R2
theorem CL {X:Cx} {k:Nat} {C:Addr} {x:Str} {ps:List Str} {sp:Sp} {e:Expr} {es:List Expr} {t:TA} {p pos:Pos} (D:Wj X.prog X.w X.K X.mg X.base k C ps sp) (hr:ZZ (k+1) X.A) (hg:Gl X x) (hm:X.mg x=some (.ref C)) (ha:PA X (e :: es) t)
  (hdb:(x==("__debug__" : Str))=false:=by decide) (he:starEach (e :: es) X.env=(false,eval e X.env) :: starEach es X.env:=by rfl) (hpl:(backTo pos (starEach es X.env)).any (·.1)=false:=by rfl) :
  PE X (.Call (.Name x p) (e :: es) [] pos) (Pu C sp [] E0 t):=by
 obtain ⟨f,fd,M,F,b⟩:=D.ex
 exact HA M F hr hg hm b .nil Yr ha hdb he hpl
theorem GP {X:Cx} {k:Nat} {C:Addr} {x:Str} {ps:List Str} {sp:Sp} {p pos:Pos} (D:Wj X.prog X.w X.K X.mg X.base k C ps sp) (hr:ZZ (k+1) X.A) (hg:Gl X x) (hm:X.mg x=some (.ref C)) (hdb:(x==("__debug__" : Str))=false:=by decide):PE X (.Call (.Name x p) [] [] pos) (Pu C sp [] E0 WX):=by
 obtain ⟨f,fd,M,F,b⟩:=D.ex
 exact Fg M F hr hg hm b .nil Yr hdb
def VH (n:Nat) (av:Nat->List Nat):Nat->List Nat:=fun i=>if i=n then [] else av i
def VQ (n:Nat) (ho:Nat->Nat):Nat->Nat:=fun i=>if i=n then 1 else ho i
theorem QK {ts:List ZU} {t:ZU} {i:Nat} (h:i<ts.length):gd (ts++[t]) i=gd ts i:=by
 unfold gd
 rw [zAB,zA0 h,<-zAB]
theorem O2 {ts:List ZU} {t:ZU}:gd (ts++[t]) ts.length=t:=by
 unfold gd
 rw [zAB,zAw (zAH _)]
 simp
theorem NS {as:List Zz} {a:Zz} {i:Nat} (h:i<as.length):(as++[a]).getD i .d=as.getD i .d:=by
 rw [zAB,zA0 h,<-zAB]
theorem NU {as:List Zz} {a:Zz}:(as++[a]).getD as.length .d=a:=by
 rw [zAB,zAw (zAH _)]
 simp
theorem Lv {CSh CTw:Addr} {H H':Hp} {S d lk:Addr} {ts:List ZU} {av:Nat->List Nat} {ho:Nat->Nat} {as:List Zz} {kvs:List (Zc×V)} {ls:List V} (R:YI CSh CTw H S d lk ts av ho as kvs ls) {t:ZU} {x th tg ab:Addr}
  (fr:∀ b o,b≠S->b≠d->H b=some o->H' b=some o) (nx:H x=none) (nth:H th=none) (nab:H ab=none) (abth:ab≠th) (R':Yd CSh H' S d lk (ts.length+1) (Yo kvs (.inl (ts.length:Int)) (.ref x)) ls) (W:XE CTw H' x (.ref th) (.ref tg) ab 1 [])
  (hth:∃ us,H' th=some (.lst us)/\(t.h=0->KeysAt H' (YF t.rows) us)/\(t.h≠0->us=iN t.bs)) (htg:YY H' (Z7 t) (.ref tg)) :
  YI CSh CTw H' S d lk (ts++[t]) (VH ts.length av) (VQ ts.length ho) (as++[⟨x,th,tg,ab⟩]) (Yo kvs (.inl (ts.length:Int)) (.ref x)) ls:=by
 obtain ⟨⟨dS,hS⟩,hd,hl⟩:=R.sh
 have m:Zu H H':=fun c xs e=>fr c _ (ZR e hS (by intro z;cases z)) (ZR e hd (by intro z;cases z)) e
 have en:(ts++[t]).length=ts.length+1:=by simp
 have nv:YA kvs (Sum.inl (ts.length:Int))=none:=R.none (by unfold inT;exact decide_eq_false (by omega))
 have lt_or:∀ i,i<(ts++[t]).length->i<ts.length\/i=ts.length:=fun i hi=>by rw [en] at hi;omega
 have el:as.length=ts.length:=R.len
 have aL:∀ i,i<ts.length->(as++[(⟨x,th,tg,ab⟩:Zz)]).getD i .d=as.getD i .d:=fun i hi=>NS (by omega)
 have aN:(as++[(⟨x,th,tg,ab⟩:Zz)]).getD ts.length .d=⟨x,th,tg,ab⟩:=by rw [<-el];exact NU
 have old:∀ i,i<ts.length->∃ dx us o,H (as.getD i .d).x=some (.ins CTw dx us)/\H (as.getD i .d).th=some (.lst o)/\H (as.getD i .d).ab=some (.lst (iN (av i))):=fun i hi=>by
  obtain ⟨dx,e1⟩:=(R.tw i hi).tw.self
  obtain ⟨us,e2,_⟩:=(R.tw i hi).things
  exact ⟨dx,_,us,e1,e2,(R.tw i hi).tw.above⟩
 have nS:x≠S:=(ZY hS nx).symm
 have ablk:ab≠lk:=(ZY hl nab).symm
 have thlk:th≠lk:=(ZY hl nth).symm
 refine ⟨by rw [en];exact R',?_,fun i hi=>?_,by simp [el],fun i hi=>?_,fun i hi=>?_,fun i j hi hj hij=>?_⟩
 ·rw [N7 _ nv,zAZ,R.keys,en,zBY,zAZ]
  rfl
 ·rw [Q5]
  rcases lt_or i hi with c | rfl
  ·rw [if_neg (fun z=>by have:=Sum.inl.inj z;omega),aL i c]
   exact R.val i c
  ·rw [if_pos rfl,aN]
 ·rcases lt_or i hi with c | rfl
  ·have Wi:=R.tw i c
   obtain ⟨dx,us,o,e1,e2,e3⟩:=old i c
   have ni:i≠ts.length:=by omega
   have G:=Wi.frame m (fun o' e=>fr _ _ (R.own i c).1 (ZR e1 hd (by intro z;cases z)) e) (fun o' e=>fr _ _ (ZR e2 hS (by intro z;cases z)) (ZR e2 hd (by intro z;cases z)) e) (fun o' e=>fr _ _ (ZR e3 hS (by intro z;cases z)) (ZR e3 hd (by intro z;cases z)) e)
   rw [aL i c]
   refine ⟨?_,?_,?_⟩
   ·rw [show VH ts.length av i=av i from if_neg ni,show VQ ts.length ho i=ho i from if_neg ni];exact G.tw
   ·rw [QK c];exact G.things
   ·rw [QK c];exact G.tag
  ·rw [aN]
   refine ⟨?_,?_,?_⟩
   ·rw [show VH ts.length av ts.length=[] from if_pos rfl,show VQ ts.length ho ts.length=1 from if_pos rfl];exact W
   ·rw [O2];exact hth
   ·rw [O2];exact htg
 ·rcases lt_or i hi with c | rfl
  ·rw [aL i c];exact R.own i c
  ·rw [aN];exact ⟨nS,ablk,thlk,abth⟩
 ·rcases lt_or i hi with c | rfl
  ·rw [aL i c]
   rcases lt_or j hj with c2 | rfl
   ·rw [aL j c2];exact R.two i j c c2 hij
   ·rw [aN]
    obtain ⟨dx,us,o,e1,e2,e3⟩:=old i c
    exact ⟨ZY e1 nx,ZY e3 nab,ZY e3 nth,ZY e2 nth⟩
  ·rw [aN]
   rcases lt_or j hj with c2 | rfl
   ·rw [aL j c2]
    obtain ⟨dx,us,o,e1,e2,e3⟩:=old j c2
    exact ⟨(ZY e1 nx).symm,(ZY e3 nab).symm,(ZY e2 nab).symm,(ZY e2 nth).symm⟩
   ·exact absurd rfl hij
def Q4 (CSh CTw:Addr):Sp:=fun vs H Q _=>∃ (S d lk:Addr) (n:Nat) (kvs:List (Zc×V)) (ls:List V) (th tg:V),vs=[.ref S,th,tg]/\Yd CSh H S d lk n kvs ls/\kvs.length<=900 /\
 ∀ (H':Hp) (x ab:Addr),H x=none->H ab=none->(∀ b o,b≠S->b≠d->H b=some o->H' b=some o)->Yd CSh H' S d lk (n+1) (Yo kvs (.inl (n:Int)) (.ref x)) ls->XE CTw H' x th tg ab 1 []->Q (.int (n:Int)) H'
theorem Xe:ZC ["self","things","label","number"] ["self","things","label"] (Zf MN):=⟨rfl,rfl,rfl,by decide +kernel,rfl,by decide +kernel,by decide +kernel⟩
theorem BY (F:Zk K "put_twig" "Shelf.put_twig" MN f fd) (L:Yi K mg CSh CTw) (DM:Wj P w K mg base 1 CTw ["self","things","tag"] (OH CTw)):ZK P w K mg base ZV 3 f fd ["self","things","label"] (Q4 CSh CTw):=by
 refine F.ok Xe (fun vs H Q E h=>(by obtain ⟨_,_,_,_,_,_,_,_,rfl,_⟩:=h;rfl)) (fun cdv A outer s H vs Q E hr h=>?_)
 obtain ⟨S,d,lk,n,kvs,ls,th,tg,rfl,R,l100,k⟩:=h
 have nd:=Xe.nd
 have hu:=Us hr
 refine ⟨_,ZS (Zm (i:=3) nd rfl (Or.inl rfl) (Xp (pv 0) rfl)) (ZS (Vk (pv 0) (Zs Xg (pv 3) ZO) rfl)
  (ZS (Ja hu (Xp (pv 0) rfl) (pv 3) (CL DM hr rfl L.twig (ZI (pv 1) (ZI (pv 2) ZG))) rfl) (ZW (Zi (pv 3))))),?_⟩
 obtain ⟨⟨dx,hS⟩,hd,hl⟩:=R
 have Sd:S≠d:=ZR hS hd (by intro z;cases z)
 have Sl:S≠lk:=ZR hS hl (by intro z;cases z)
 have dl:d≠lk:=ZR hd hl (by intro z;cases z)
 refine ⟨_,rfl,S,CSh,dx,_,.int n,rfl,hS,L.cS,L.nf,rfl,?_⟩
 refine ⟨_,rfl,_,_,rfl,rfl,_,rfl,S,CSh,dx,_,rfl,hS,L.cS,L.nf,zAC rfl,?_⟩
 have hS1:upd H S (.ins CSh dx (Yh "following" (.int ((n:Int)+1)) (Vl d lk n))) S=some (.ins CSh dx (Vl d lk (n+1))):=ZP
 have hd1:upd H S (.ins CSh dx (Yh "following" (.int ((n:Int)+1)) (Vl d lk n))) d=some (.dK kvs):=by rw [ZT (Ne.symm Sd)];exact hd
 have hl1:upd H S (.ins CSh dx (Yh "following" (.int ((n:Int)+1)) (Vl d lk n))) lk=some (.lst ls):=by rw [ZT (Ne.symm Sl)];exact hl
 have ke1:∀ b o,b≠S->H b=some o->upd H S (.ins CSh dx (Yh "following" (.int ((n:Int)+1)) (Vl d lk n))) b=some o:=fun b o n e=>by rw [ZT n];exact e
 have no1:∀ b,upd H S (.ins CSh dx (Yh "following" (.int ((n:Int)+1)) (Vl d lk n))) b=none->H b=none:=fun b e=>by
  by_cases z:b=S
  ·rw [z,ZP] at e;cases e
  ·rw [ZT z] at e;exact e
 generalize upd H S (.ins CSh dx (Yh "following" (.int ((n:Int)+1)) (Vl d lk n)))=H1 at hS1 hd1 hl1 ke1 no1 ⊢
 refine ⟨_,rfl,_,rfl,fun x dt nx ndt ne=>?_⟩
 have g1:=Za ndt (.own x)
 have nx2:upd H1 dt (.own x) x=none:=by rw [ZT (Ne.symm ne)];exact nx
 have g2:=Za nx2 (.ins CTw dt [])
 have g:=g1.trans g2
 refine ⟨x,dt,th,tg,rfl,ZP,fun H2 ab ke2 nab W=>⟨rfl,?_⟩⟩
 have fr:∀ b o,H1 b=some o->H2 b=some o:=fun b o e=>ke2 b o (ZY e nx) (g b o e)
 have hS2:=fr _ _ hS1
 have hd2:=fr _ _ hd1
 have hl2:=fr _ _ hl1
 have hab1:H1 ab=none:=g.free nab
 obtain ⟨dx2,hx2⟩:=W.self
 have xd:x≠d:=ZR hx2 hd2 (by intro z;cases z)
 have abd:ab≠d:=ZR W.above hd2 (by intro z;cases z)
 refine ⟨_,rfl,S,CSh,dx,_,.ref d,rfl,hS2,L.cS,L.nk,rfl,_,rfl,d,_,rfl,WY.k (k:=Sum.inl (n:Int)) hd2 (Yp (by omega)),?_⟩
 refine ⟨_,rfl,k _ x ab (no1 _ nx) (no1 _ hab1) (fun b o n1 n2 e=>?_) ⟨⟨dx,?_⟩,ZP,?_⟩ ⟨⟨dx2,?_⟩,?_⟩⟩
 ·rw [ZT n2];exact fr b o (ke1 b o n1 e)
 ·rw [ZT Sd];exact hS2
 ·rw [ZT (Ne.symm dl)];exact hl2
 ·rw [ZT xd];exact hx2
 ·rw [ZT abd];exact W.above
end
section
variable {P:Program} {w:World} {K:zAA} {mg:Str->Option Value} {base:Heap} {f:Addr} {fd:FuncData} {CSh CTw CS CT CH:Addr}
theorem Fv {H:Hp} {rs:List YQ} {us:List V} (h:KeysAt H (YF rs) us):Lm H (rs.map (·.1)) us:=by
 have hl:us.length=rs.length:=by have:=h.length;rw [<-this];exact zAD _
 refine ⟨by rw [zAD];exact hl,fun i u e=>?_⟩
 obtain ⟨a,vk,vv,er,e1,e2,k1,_⟩:=UG h e
 refine ⟨a,vk,vv,e1,e2,?_⟩
 rw [zAB,zAN,er]
 exact k1
def Ny:Sp:=fun vs H Q _=>∃ (v:V) (t:KT),vs=[v]/\ZD H t v/\t.fits 3=true/\∀ H',ZA H H'->Q v H'
theorem Jr:ZC ["thing"] ["thing"] (Zf Qz):=⟨rfl,rfl,rfl,by decide +kernel,rfl,by decide +kernel,by decide +kernel⟩
theorem EA (F:Zk K "checked" "checked" Qz f fd) (DI:ZB P w K mg base 6 "is_key" ["thing"] IN):ZK P w K mg base ZV 7 f fd ["thing"] Ny:=by
 refine F.ok Jr (fun vs H Q E h=>(by obtain ⟨_,_,rfl,_⟩:=h;rfl)) (fun cdv A outer s H vs Q E hr h=>?_)
 obtain ⟨v,t,rfl,hv,hf,k⟩:=h
 refine ⟨_,ZS (Z5 (WW (Yu (Zg DI hr (ZI (pv 0) ZG)))) UF Z8) (ZW (Zi (pv 0))),?_⟩
 refine ⟨_,rfl,v,t,3,rfl,hv,hf,fun H1 s1=>⟨_,rfl,?_⟩⟩
 rw [hf]
 exact Zp ⟨_,rfl,k H1 s1⟩
def M2:Sp:=fun vs H Q _=>∃ (l:Addr) (us:List V) (rs:List YQ),vs=[.ref l]/\H l=some (.lst us)/\KeysAt H (YF rs) us/\(∀ r∈rs,r.fit)/\us.length<=100 /\
 ∀ (H':Hp) (l':Addr) (us':List V),ZA H H'->H l'=none->H' l'=some (.lst us')->KeysAt H' (YF rs) us'->Q (.ref l') H'
theorem Hk:ZC ["rows"] ["rows"] (Zf NM):=⟨rfl,rfl,rfl,by decide +kernel,rfl,by decide +kernel,by decide +kernel⟩
theorem BX (F:Zk K "own_rows" "own_rows" NM f fd) (DC:ZB P w K mg base 7 "checked" ["thing"] Ny):ZK P w K mg base ZV 8 f fd ["rows"] M2:=by
 refine F.ok Hk (fun vs H Q E h=>(by obtain ⟨_,_,_,rfl,_⟩:=h;rfl)) (fun cdv A outer s H vs Q E hr h=>?_)
 obtain ⟨l,us,rs,rfl,hl,hk,hf,h100,k⟩:=h
 have lk:us.length=rs.length:=by have:=hk.length;rw [<-this];exact zAD _
 refine ⟨_,ZW (Zi (Xr [] [] rfl (WJ (pv 0)) (fun _ _ _ _ _=>X6)
   (fun _ _ _ _ _=>YU (ZI (Zg DC hr (ZI (Zo (r:=YB K) YH (pv 0) ZO (fun _ _=>rfl)) ZG)) (ZI (Zg DC hr (ZI (Zo (r:=YB K) YH (pv 0) ZO (fun _ _=>rfl)) ZG)) ZG))) trivial)),?_⟩
 refine ⟨_,rfl,l,rfl,⟨us,ZM.of hl⟩,?_⟩
 refine X7 (n:=us.length) (fun i z=>us[i]? = some z) (fun D i ys H3=>ZA H H3/\H D=none/\KeysAt H3 (YF (rs.take i)) ys) (Yp (by omega))
  (fun D i ys H3 hi hP=>⟨us,us[i],ZM.of (hP.1 _ _ hl),by simp [hi]⟩) (fun D i ys H3 z H4 hi hP hy=>⟨hy.1,hy.2 us (ZM.of (hP.1 _ _ hl))⟩) (fun D ys H3 hP=>⟨us,ZM.of (hP.1 _ _ hl),zAH _⟩)
  (fun D hD=>⟨Za hD _,hD,.nil⟩) (fun D i ys H3 z eD hl' hi hz hP R hR=>?_) (fun D ys H3 eD hP=>?_)
 ·obtain ⟨s3,nD,hys⟩:=hP
  obtain ⟨a,vk,vv,er,rfl,e2,k1,k2⟩:=UG hk hz
  have e3:=s3 _ _ e2
  have hfit:=hf _ (zAK er)
  refine ⟨_,rfl,.inr (.inl ⟨a,_,_,vk,rfl,rfl,Zj.of e3,rfl,vk,_,rfl,k1.mono (ZA.tups s3) _ _,hfit.1,fun H4 s4=>?_⟩)⟩
  refine ⟨_,rfl,.inr (.inl ⟨a,_,_,vv,rfl,rfl,Zj.of (s4 _ _ e3),rfl,vv,_,rfl,k2.mono (ZA.tups (s3.trans s4)) _ _,hfit.2,fun H5 s5=>?_⟩)⟩
  refine ⟨nn (zAC rfl),fun q hq=>?_⟩
  have g:=Za hq (.tup [vk,vv])
  have s36:=(s4.trans s5).trans g
  have eD6:=s36 _ _ eD
  have tD:Zu (upd H5 q (.tup [vk,vv])) (upd (upd H5 q (.tup [vk,vv])) D (.lst (ys++[.ref q]))):=fun b xs e=>by rw [ZT (ZR e eD6 (by intro z;cases z))];exact e
  refine hR _ _ eD6 ⟨We (s3.trans s36) nD,nD,?_⟩
  rw [zAm,er,J7]
  refine ((hys.mono (ZA.tups s36) _ _).mono tD _ _).append (.cons (.tup (tD _ _ ZP) (.cons ?_ (.cons ?_ .nil))) .nil)
  ·exact (k1.mono (ZA.tups (s3.trans s36)) _ _).mono tD _ _
  ·exact (k2.mono (ZA.tups (s3.trans s36)) _ _).mono tD _ _
 ·obtain ⟨s3,nD,hys⟩:=hP
  rw [zAU (by omega)] at hys
  exact k H3 D ys s3 nD eD hys
def Oo:Sp:=fun vs H Q _=>∃ (l:Addr) (us:List V) (ks:List KT),vs=[.ref l]/\H l=some (.lst us)/\KeysAt H ks us/\(∀ t∈ks,t.fits 3=true)/\us.length<=100/\ks.Pairwise (fun a b=>a.lt b=true)/\∀ H',ZA H H'->Q (.bl true) H'
theorem BT:ZC ["keys"] ["keys"] (Zf Ov):=⟨rfl,rfl,rfl,by decide +kernel,rfl,by decide +kernel,by decide +kernel⟩
theorem PL {α:Type} {R:α->α->Prop}:∀ {l:List α},l.Pairwise R->∀ {i j:Nat} {a b:α},i<j->l[i]? = some a->l[j]? = some b->R a b
 | [],_,_,_,_,_,_,h,_=>by simp at h
 | x :: l,hp,0,j+1,a,b,_,ha,hb=>by
  simp at ha hb
  subst ha
  exact (zBK.mp hp).1 b (zAK hb)
 | x :: l,hp,i+1,j+1,a,b,hij,ha,hb=>by
  simp at ha hb
  exact PL (zBK.mp hp).2 (by omega) ha hb
theorem BJ (F:Zk K "rise" "rise" Ov f fd) (T:YG mg) (DA:ZB P w K mg base 7 "ahead" ["one","other"] U6):ZK P w K mg base ZV 8 f fd ["keys"] Oo:=by
 refine F.ok BT (fun vs H Q E h=>(by obtain ⟨_,_,_,rfl,_⟩:=h;rfl)) (fun cdv A outer s H vs Q E hr h=>?_)
 obtain ⟨l,us,ks,rfl,hl,hk,hf,h100,hup,k⟩:=h
 have lk:=hk.length
 refine ⟨_,ZW (Zi (Zw (Ps rfl) rfl T.all PJ (ZI (Xr [0] ["keys"] rfl (Mb rfl T.range (ZI ZO (ZI (Zw XH rfl T.len XA (ZI (pv 0) ZG)) ZG))) (fun _ _ _ _ _=>X6)
  (fun _ _ _ _ _=>Zg DA hr (ZI (Zo (r:=YB K) YH (pv 1) (Zs Wh (pv 0) ZO) (fun _ _=>rfl)) (ZI (Zo (r:=YB K) YH (pv 1) (pv 0) (fun _ _=>rfl)) ZG))) ⟨rfl,.inl rfl,rfl,trivial⟩) ZG))),?_⟩
 refine ⟨_,rfl,l,us,rfl,.inl (ZM.of hl),1,(us.length:Int),rfl,⟨by omega,by omega,by omega,by omega⟩,?_⟩
 refine X7 (n:=((us.length:Int) - 1).toNat) (fun i x=>x=.int (1+(i:Int))) (fun D i ys H3=>ZA H H3/\H D=none/\ys=(zBW i true).map V.bl) (Yp (by omega))
  (fun D i ys H3 hi _=>hi) (fun D i ys H3 x H4 hi _ hy=>hy) (fun D ys H3 _=>zAH _) (fun D hD=>⟨Za hD _,hD,rfl⟩) (fun D i ys H3 x eD hl' hi hx hP R hR=>?_) (fun D ys H3 eD hP=>?_)
 ·subst hx
  obtain ⟨s3,nD,rfl⟩:=hP
  have hi1:i+1<us.length:=by omega
  have ua:us[i]? = some (us[i]'(by omega)):=zAE (by omega)
  have ub:us[i+1]? = some us[i+1]:=zAE hi1
  have e1:(1:Int)+(i:Int)=((i+1:Nat):Int):=by omega
  have e0:(1:Int)+(i:Int) - 1=((i:Nat):Int):=by omega
  obtain ⟨a,ea,ka⟩:=hk.get ua
  obtain ⟨b,eb,kb⟩:=hk.get ub
  have hl3:=s3 _ _ hl
  refine ⟨_,rfl,_,rfl,_,_,rfl,rfl,.inl ⟨l,us,_,_,rfl,rfl,ZM.of hl3,(by rw [e0];exact XL ua),?_⟩⟩
  refine ⟨_,rfl,_,rfl,.inl ⟨l,us,_,_,rfl,rfl,ZM.of hl3,(by rw [e1];exact XL ub),?_⟩⟩
  refine ⟨_,_,a,b,rfl,ka.mono (ZA.tups s3) _ _,kb.mono (ZA.tups s3) _ _,hf a (zAK ea),hf b (zAK eb),fun H4 s4=>?_⟩
  rw [PL hup (zBm i) ea eb]
  refine hR _ H4 (s4 D _ eD) ⟨We (s3.trans s4) nD,nD,?_⟩
  rw [List.replicate_succ',zAZ]
  rfl
 ·obtain ⟨s3,nD,rfl⟩:=hP
  refine ⟨D,_,rfl,ZM.of eD,?_⟩
  have e:(zBW ((us.length:Int) - 1).toNat true).all id=true:=by simp
  rw [e]
  exact k H3 s3
def V6 (rs:List YQ):Prop:=(∀ r∈rs,r.fit)/\0<rs.length/\rs.length<=4/\(rs.map (·.1)).Pairwise (fun a b=>a.lt b=true)
def Nz:Sp:=fun vs H Q _=>∃ (l:Addr) (us:List V) (rs:List YQ),vs=[.ref l]/\H l=some (.lst us)/\KeysAt H (YF rs) us/\V6 rs /\
 ∀ (H':Hp) (l':Addr) (us':List V),ZA H H'->H l'=none->H' l'=some (.lst us')->KeysAt H' (YF rs) us'->Q (.ref l') H'
theorem Xy:ZC ["rows","own"] ["rows"] (Zf OU):=⟨rfl,rfl,rfl,by decide +kernel,rfl,by decide +kernel,by decide +kernel⟩
theorem BF (F:Zk K "checked_rows" "checked_rows" OU f fd) (T:YG mg) (DC:ZB P w K mg base 8 "own_rows" ["rows"] M2) (DR:ZB P w K mg base 8 "rise" ["keys"] Oo):ZK P w K mg base ZV 9 f fd ["rows"] Nz:=by
 refine F.ok Xy (fun vs H Q E h=>(by obtain ⟨_,_,_,rfl,_⟩:=h;rfl)) (fun cdv A outer s H vs Q E hr h=>?_)
 obtain ⟨l,us,rs,rfl,hl,hk,⟨hf,h0,h4,hup⟩,k⟩:=h
 have nd:=Xy.nd
 have lk:us.length=rs.length:=by have:=hk.length;rw [<-this];exact zAD _
 obtain ⟨t4,m4⟩:=T.rows
 refine ⟨_,ZS (Zm (i:=1) nd rfl (Or.inl rfl) (Zg DC hr (ZI (pv 0) ZG)))
  (ZS (Z5 (PW.pt (Vy (WW (Js U4 U4 ZO (Zw XH rfl T.len XA (ZI (pv 1) ZG)) (Xa (v:=.int 4) rfl m4 ⟨_,rfl⟩)))
   (V5 (WW (Yu (Zg DR hr (ZI (Xr [] [] rfl (WJ (pv 1)) (fun _ _ _ _ _=>X6) (fun _ _ _ _ _=>Zo (r:=YB K) YH (pv 0) ZO (fun _ _=>rfl)) trivial) ZG))))))) UF Z8)
  (ZW (Zi (pv 1)))),?_⟩
 refine ⟨_,rfl,l,us,rs,rfl,hl,hk,hf,by omega,fun H3 D ys s3 nD eD hrw=>?_⟩
 have ly:ys.length=rs.length:=by have:=hrw.length;rw [<-this];exact zAD _
 refine ⟨_,rfl,D,ys,rfl,.inl (ZM.of eD),_,_,rfl,rfl,_,rfl,?_⟩
 rw [decide_eq_true (show (1:Int)<=(ys.length:Int) by omega)]
 refine Zy ⟨_,_,rfl,rfl,_,rfl,?_⟩
 rw [decide_eq_true (show (ys.length:Int)<=4 by omega)]
 refine Zp ?_
 refine ⟨_,rfl,D,rfl,⟨ys,ZM.of eD⟩,?_⟩
 refine X7 (n:=ys.length) (fun i z=>ys[i]? = some z) (fun D2 i zs H4=>ZA H3 H4/\H3 D2=none/\KeysAt H3 ((rs.map (·.1)).take i) zs) (Yp (by omega))
  (fun D2 i zs H4 hi hP=>⟨ys,ys[i],ZM.of (hP.1 _ _ eD),by simp [hi]⟩) (fun D2 i zs H4 z H5 hi hP hy=>⟨hy.1,hy.2 ys (ZM.of (hP.1 _ _ eD))⟩) (fun D2 zs H4 hP=>⟨ys,ZM.of (hP.1 _ _ eD),zAH _⟩)
  (fun D2 hD2=>⟨Za hD2 _,hD2,.nil⟩) (fun D2 i zs H4 z eD2 hl2 hi hz hP R hR=>?_) (fun D2 zs H4 eD2 hP=>?_)
 ·obtain ⟨s4,nD2,hzs⟩:=hP
  obtain ⟨a,vk,vv,er,rfl,e2,k1,_⟩:=UG hrw hz
  refine ⟨_,rfl,.inr (.inl ⟨a,_,_,vk,rfl,rfl,Zj.of (s4 _ _ e2),rfl,?_⟩)⟩
  refine hR _ H4 eD2 ⟨We s4 nD2,nD2,?_⟩
  rw [zAm,zAN,er]
  exact hzs.append (.cons k1 .nil)
 ·obtain ⟨s4,nD2,hzs⟩:=hP
  rw [zAU (by rw [zAD];omega)] at hzs
  have lz:=hzs.length
  rw [zAD] at lz
  refine ⟨D2,zs,_,rfl,eD2,hzs.mono (ZA.tups s4) _ _,fun t ht=>?_,by omega,hup,fun H5 s5=>⟨_,rfl,Zp ⟨_,rfl,k H5 D ys ((s3.trans s4).trans s5) nD (s5 _ _ (s4 _ _ eD)) (hrw.mono (ZA.tups (s4.trans s5)) _ _)⟩⟩⟩
  obtain ⟨r,hr',rfl⟩:=zAf.mp ht
  exact (hf r hr').1
def WR (rs:List YQ):ZU:=⟨0,rs,[]⟩
def Qg (CSh CTw:Addr):Sp:=fun vs H Q _=>∃ (S d lk l:Addr) (ts:List ZU) (av:Nat->List Nat) (ho:Nat->Nat) (as:List Zz) (kvs:List (Zc×V)) (ls us:List V) (rs:List YQ),vs=[.ref S,.ref l]/\YI CSh CTw H S d lk ts av ho as kvs ls/\ts.length<=900/\H l=some (.lst us)/\KeysAt H (YF rs) us/\V6 rs /\
 ∀ (H':Hp) (a:Zz),H a.x=none->H a.th=none->H a.ab=none->(∀ b o,b≠S->b≠d->H b=some o->H' b=some o) ->
  YI CSh CTw H' S d lk (ts++[WR rs]) (VH ts.length av) (VQ ts.length ho) (as++[a]) (Yo kvs (.inl (ts.length:Int)) (.ref a.x)) ls->Q (.int (ts.length:Nat)) H'
theorem XZ:ZC ["self","rows","own"] ["self","rows"] (Zf NG):=⟨rfl,rfl,rfl,by decide +kernel,rfl,by decide +kernel,by decide +kernel⟩
theorem KM {CSh CTw:Addr} {H:Hp} {S d lk:Addr} {ts:List ZU} {av:Nat->List Nat} {ho:Nat->Nat} {as:List Zz} {kvs:List (Zc×V)} {ls:List V} (R:YI CSh CTw H S d lk ts av ho as kvs ls):kvs.length=ts.length:=by
 have:=congrArg zCD R.keys
 simpa using this
def Yk (ts:List ZU) (bs:List Nat):List YQ:=bs.flatMap fun b=>(gd ts b).rows
def Yz (ts:List ZU) (bs:List Nat):ZU:=⟨(gd ts (bs.getD 0 0)).h+1,Yk ts bs,bs⟩
def Pr (ts:List ZU):List Nat->Prop
 | a :: b :: r=>(Z7 (gd ts a)).hi.lt (Z7 (gd ts b)).lo=true/\Pr ts (b :: r)
 | _=>True
theorem IA {ts:List ZU}:∀ {bs:List Nat},(∀ j,j+1<bs.length->((Yg ts bs).getD j .d).hi.lt ((Yg ts bs).getD (j+1) .d).lo=true)->Pr ts bs
 | [],_=>trivial
 | [_],_=>trivial
 | a :: b :: r,h=>⟨h 0 (by simp),IA (bs:=b :: r) fun j hj=>h (j+1) (by simp at hj ⊢;omega)⟩
theorem Uk {t:ZU} (hne:t.rows≠[]):∃ r rs,t.rows=r :: rs/\(Z7 t).lo=r.1:=by
 cases e:t.rows with
 | nil=>exact absurd e hne
 | cons r rs=>exact ⟨r,rs,rfl,by unfold Z7;rw [e];rfl⟩
theorem OL {t:ZU} (hne:t.rows≠[]):∃ rs r,t.rows=rs++[r]/\(Z7 t).hi=r.1:=by
 rcases zCN t.rows with e | ⟨rs,r,e⟩
 ·exact absurd e hne
 ·rw [zCO] at e
  refine ⟨rs,r,e,?_⟩
  unfold Z7
  rw [e]
  simp [zAB]
theorem D9 {gt:List KT} {ts:List ZU} {i:Nat} {t:ZU} (h:XR gt ts i t) {x:KT} (hx:x∈t.rows.map (·.1)) {y:KT} (hy:(Z7 t).hi.lt y=true):x.lt y=true:=by
 obtain ⟨rs,r,e,eh⟩:=OL h.ne
 have up:=h.up
 rw [e,zAZ] at up hx
 rw [eh] at hy
 rcases zAg.mp hx with hx | hx
 ·have:=(List.pairwise_append.mp up).2.2 x hx r.1 (by simp)
  exact lt_trans' _ _ _ this hy
 ·simp at hx
  rw [hx];exact hy
theorem Eh {gt:List KT} {ts:List ZU} {bs:List Nat} {l:List KT} (hp:l.Pairwise fun a b=>a.lt b=true) {z:KT} (e:l.head? = some z) {x:KT} (hx:x.lt z=true):∀ y∈l,x.lt y=true:=by
 cases l with
 | nil=>cases e
 | cons a l=>
  simp at e
  subst e
  intro y hy
  rcases zAd.mp hy with rfl | hy
  ·exact hx
  ·exact lt_trans' _ _ _ hx ((zBK.mp hp).1 y hy)
theorem Jx {gt:List KT} {ts:List ZU} (hw:WF gt ts):∀ {bs:List Nat},(∀ b∈bs,b<ts.length)->Pr ts bs->((Yk ts bs).map (·.1)).Pairwise (fun a b=>a.lt b=true)/\bs.Nodup
 | [],_,_=>⟨zDE.nil,List.nodup_nil⟩
 | [a],hb,_=>by
  refine ⟨?_,by simp⟩
  have:=(hw a _ (Y1 (hb a (by simp)))).up
  simpa [Yk] using this
 | a :: b :: r,hb,hn=>by
  obtain ⟨h1,h2⟩:=Jx hw (bs:=b :: r) (fun c hc=>hb c (zAP _ hc)) hn.2
  have oa:=hw a _ (Y1 (hb a (by simp)))
  have ob:=hw b _ (Y1 (hb b (by simp)))
  obtain ⟨rb,rs,eb,el⟩:=Uk ob.ne
  have hd:((Yk ts (b :: r)).map (·.1)).head? = some (Z7 (gd ts b)).lo:=by
   rw [el]
   unfold Yk
   rw [zBc,eb]
   rfl
  have cross:∀ x∈(gd ts a).rows.map (·.1),∀ y∈(Yk ts (b :: r)).map (·.1),x.lt y=true:=fun x hx=>Eh (gt:=gt) (ts:=ts) (bs:=[]) h1 hd (D9 oa hx hn.1)
  refine ⟨?_,zBP.mpr ⟨fun hm=>?_,h2⟩⟩
  ·have e:Yk ts (a :: b :: r)=(gd ts a).rows++Yk ts (b :: r):=by simp [Yk]
   rw [e,zAZ]
   exact List.pairwise_append.mpr ⟨oa.up,h1,cross⟩
  ·obtain ⟨ra,rs',ea,_⟩:=Uk oa.ne
   have m1:ra.1∈(gd ts a).rows.map (·.1):=by rw [ea];simp
   have m2:ra.1∈(Yk ts (b :: r)).map (·.1):=zAf.mpr ⟨ra,zCk.mpr ⟨a,hm,by rw [ea];simp⟩,rfl⟩
   have:=cross _ m1 _ m2
   rw [UW] at this
   cases this
theorem V0 {ts:List ZU} {bs:List Nat} {i:Nat} (hi:i<bs.length):(Yg ts bs).getD i .d=Z7 (gd ts (bs.getD i 0)):=by
 unfold Yg
 rw [zAB,zAN,zAE hi,zAB,zAE hi]
 rfl
theorem Jw {gt:List KT} {ts:List ZU} (hw:WF gt ts) {bs:List Nat} (hb:∀ b∈bs,b<ts.length) {L:YC} (h:over (Yg ts bs)=some L) :
  L=Z7 (Yz ts bs)/\bs.Nodup/\2<=bs.length/\bs.length<=4/\(∀ b∈bs,(gd ts b).h+1=(Yz ts bs).h)/\((Yk ts bs).map (·.1)).Pairwise (fun a b=>a.lt b=true)/\Yk ts bs≠[]:=by
 unfold over at h
 split at h
 case isFalse=>cases h
 case isTrue hc=>
  obtain ⟨h2,h4,hk⟩:=hc
  have ll:(Yg ts bs).length=bs.length:=zAD _
  rw [ll] at h2 h4
  have hl:=VN.mpr hk
  unfold O7 at hl
  rw [ll] at hl
  have hnb:Pr ts bs:=IA fun j hj=>(hl j hj).2
  obtain ⟨hup,hnd⟩:=Jx hw hb hnb
  have hh:∀ i,i<bs.length->((Yg ts bs).getD i .d).h=((Yg ts bs).getD 0 .d).h:=fun i hi=>by
   cases i with
   | zero=>rfl
   | succ i=>exact (hl i hi).1
  have hmem:∀ i,i<bs.length->bs.getD i 0∈bs:=fun i hi=>by rw [zAB,zAE hi];exact zA9 _
  have o0:=hw _ _ (Y1 (hb _ (hmem 0 (by omega))))
  have ol:=hw _ _ (Y1 (hb _ (hmem (bs.length - 1) (by omega))))
  have hhb:∀ b∈bs,(gd ts b).h+1=(Yz ts bs).h:=fun b hb'=>by
   obtain ⟨i,hi,e⟩:=List.getElem_of_mem hb'
   have:=hh i hi
   rw [V0 hi,V0 (by omega)] at this
   have e2:bs.getD i 0=b:=by rw [zAB,zAE hi,e];rfl
   rw [e2] at this
   have:=Int.ofNat.inj this
   show (gd ts b).h+1=(gd ts (bs.getD 0 0)).h+1
   omega
  have hne:Yk ts bs≠[]:=fun z=>by
   obtain ⟨r,rs,e,_⟩:=Uk o0.ne
   have:r∈Yk ts bs:=zCk.mpr ⟨_,hmem 0 (by omega),by rw [e];simp⟩
   rw [z] at this
   simp at this
  refine ⟨?_,hnd,h2,h4,hhb,hup,hne⟩
  rw [<-zAh.inj h]
  have elo:((Yg ts bs).getD 0 .d).lo=(Z7 (Yz ts bs)).lo:=by
   rw [V0 (by omega)]
   obtain ⟨r,rs,e,el⟩:=Uk o0.ne
   rw [el]
   cases bs with
   | nil=>simp at h2
   | cons b bs=>
    unfold Z7 Yz Yk
    have e':(gd ts b).rows=r :: rs:=e
    simp only [zBc,e']
    rfl
  have ehi:((Yg ts bs).getD ((Yg ts bs).length - 1) .d).hi=(Z7 (Yz ts bs)).hi:=by
   rw [ll,V0 (by omega)]
   obtain ⟨rs,r,e,el⟩:=OL ol.ne
   rw [el]
   rcases zCN bs with z | ⟨bi,b,z⟩
   ·rw [z] at h2;simp at h2
   ·rw [zCO] at z
    have eb:bs.getD (bs.length - 1) 0=b:=by rw [z];simp [zAB]
    rw [eb] at e
    have er:Yk ts bs=Yk ts bi++rs++[r]:=by rw [z];simp [Yk,e]
    unfold Z7 Yz
    simp only [er]
    simp [zAB]
  have em:((Yg ts bs).map YC.m).sum=(Z7 (Yz ts bs)).m:=by
   have:∀ l:List Nat,((Yg ts l).map YC.m).sum=((Yk ts l).length:Int):=fun l=>by
    induction l with
    | nil=>rfl
    | cons b l ih=>
     have e1:Yg ts (b :: l)=Z7 (gd ts b) :: Yg ts l:=rfl
     have e2:Yk ts (b :: l)=(gd ts b).rows++Yk ts l:=by simp [Yk]
     rw [e1,e2,zAr,zCb,ih,zAL]
     show ((gd ts b).rows.length:Int)+_=_
     omega
   exact this bs
  have eh:((Yg ts bs).getD 0 .d).h+1=(Z7 (Yz ts bs)).h:=by
   rw [V0 (by omega)]
   show ((gd ts (bs.getD 0 0)).h:Int)+1=(((gd ts (bs.getD 0 0)).h+1:Nat):Int)
   omega
  rw [elo,ehi,em,eh]
theorem XR.ext {gt:List KT} {ts:List ZU} {t:ZU} {i:Nat} {u:ZU} (h:XR gt ts i u) (hi:i<=ts.length):XR gt (ts++[t]) i u:=by
 refine ⟨h.ne,h.up,h.inn,h.leaf,fun z=>?_⟩
 obtain ⟨h1,h2,h3,h4⟩:=h.stem z
 have e:∀ b∈u.bs,gd (ts++[t]) b=gd ts b:=fun b hb=>QK (by have:=(h3 b hb).1;omega)
 refine ⟨h1,h2,fun b hb=>⟨(h3 b hb).1,by rw [e b hb];exact (h3 b hb).2⟩,?_⟩
 rw [h4]
 clear h1 h2 h3 h4
 have:∀ l:List Nat,(∀ b∈l,gd (ts++[t]) b=gd ts b)->(l.flatMap fun b=>(gd ts b).rows)=l.flatMap fun b=>(gd (ts++[t]) b).rows:=fun l hl=>by
  induction l with
  | nil=>rfl
  | cons b l ih=>rw [zBc,zBc,hl b (by simp),ih fun c hc=>hl c (zAP _ hc)]
 exact this _ e
theorem WF.push {gt:List KT} {ts:List ZU} {t:ZU} (hw:WF gt ts) (h:XR gt ts ts.length t):WF gt (ts++[t]):=fun i u e=>by
 rcases zAj i ts.length with hi | hi
 ·rw [zA0 hi] at e
  exact (hw i u e).ext (zBb hi)
 ·rw [zAw hi] at e
  have hi0:i - ts.length=0:=by
   rcases Nat.eq_zero_or_pos (i - ts.length) with z | z
   ·exact z
   ·rw [zCM (by simp;omega)] at e;cases e
  rw [hi0] at e
  simp at e
  subst e
  have:i=ts.length:=by omega
  rw [this]
  exact h.ext (zAH _)
theorem Fl {gt:List KT} {ts:List ZU} (hw:WF gt ts) {bs:List Nat} (hb:∀ b∈bs,b<ts.length) {L:YC} (h:over (Yg ts bs)=some L):XR gt ts ts.length (Yz ts bs):=by
 obtain ⟨_,_,h2,h4,hh,hup,hne⟩:=Jw hw hb h
 refine ⟨hne,hup,fun r hr=>?_,fun z=>absurd z (by show (gd ts (bs.getD 0 0)).h+1≠0;omega),fun _=>⟨h2,h4,fun b hb'=>⟨hb b hb',hh b hb'⟩,rfl⟩⟩
 obtain ⟨b,hb',hr'⟩:=zCk.mp hr
 exact (hw b _ (Y1 (hb b hb'))).inn r hr'
theorem Ck {gt:List KT} {ts:List ZU} (hw:WF gt ts) {bs:List Nat} (hb:∀ b∈bs,b<ts.length) (i:Nat):((Yg ts bs).getD i .d).fit:=by
 rcases zAj i bs.length with hi | hi
 ·rw [V0 hi]
  refine Mz (hw _ _ (Y1 (hb _ ?_)))
  rw [zAB,zAE hi]
  exact zA9 _
 ·rw [zAB,zCM (by unfold Yg;rw [zAD];exact hi)]
  exact BD
abbrev Ey:List Str:=["labels","at","many"]
theorem VM:ZC Ey ["labels"] (Zf Oy):=⟨rfl,rfl,rfl,by decide +kernel,rfl,by decide +kernel,by decide +kernel⟩
theorem AF (D:ZB P w K mg base 6 "is_key" ["thing"] Q0):ZB P w K mg base 6 "is_key" ["thing"] IN:=by
 obtain ⟨g,gd,FG,b,kp,m⟩:=D.ex
 refine ⟨g,gd,FG.imp fun vs H Q E h=>?_,b,kp,m⟩
 obtain ⟨v,t,q,e,hk,hf,k⟩:=h
 exact ⟨v,t.emb,fun _=>False,e,M5 t v hk,M8 t q hf,fun H' s'=>by rw [Ot];exact k H' s'⟩
end
theorem BN {ls:List YC} {L:YC} (h:over ls=some L):2<=ls.length/\ls.length<=4/\Qu ls=true/\L=⟨(ls.getD 0 .d).h+1,(ls.getD 0 .d).lo,(ls.getD (ls.length - 1) .d).hi,(ls.map YC.m).sum⟩:=by
 unfold over at h
 split at h
 ·rename_i z
  cases h
  exact ⟨z.1,z.2.1,z.2.2,rfl⟩
 ·cases h
section
variable {P:Program} {w:World} {K:zAA} {mg:Str->Option Value} {base:Heap} {f:Addr} {fd:FuncData} {CSh CTw:Addr}
def MG:Sp:=fun vs H Q _=>∃ (l:Addr) (us:List V) (ls:List YC) (L:YC),vs=[.ref l]/\H l=some (.lst us)/\YL H ls us/\(∀ i,(ls.getD i .d).fit)/\over ls=some L/\∀ H' v,ZA H H'->ZD H' L.kt v->Q v H'
theorem GG (F:Zk K "label_over" "label_over" Oy f fd) (T:YG mg) (DS:ZB P w K mg base 8 "stand_side_by_side" ["label","following"] MY):ZK P w K mg base ZV 9 f fd ["labels"] MG:=by
 refine F.ok VM (fun vs H Q E h=>(by obtain ⟨_,_,_,_,rfl,_⟩:=h;rfl)) (fun cdv A outer s H vs Q E hr h=>?_)
 obtain ⟨l,us,ls,L,rfl,hl,hk,hf,hov,k⟩:=h
 obtain ⟨v2,v4,vc,rfl⟩:=BN hov
 have nd:=VM.nd
 have hlen:=hk.1
 obtain ⟨tf,mf⟩:=T.few
 obtain ⟨tm,mm⟩:=T.most
 obtain ⟨t0,m0⟩:=T.height
 obtain ⟨t1,m1⟩:=T.least
 obtain ⟨t2,m2⟩:=T.greatest
 obtain ⟨t3,m3⟩:=T.many
 refine ⟨_,ZS (Z5 (WW (Js U4 U4 (Xa (v:=.int 2) rfl mf ⟨_,rfl⟩) (Zw XH rfl T.len XA (ZI (pv 0) ZG)) (Xa (v:=.int 4) rfl mm ⟨_,rfl⟩))) UF Z8)
  (ZS (VJ PassesOwn.never rfl (Mb rfl T.range (ZI ZO (ZI (Zw XH rfl T.len XA (ZI (pv 0) ZG)) ZG))) (Y6 (i:=1) nd rfl (Or.inl rfl))
   (ZW (Z5 (WW (Yu (Zg DS hr (ZI (Zo (r:=YB K) YH (pv 0) (Zs Wh (pv 1) ZO) (fun _ _=>rfl)) (ZI (Zo (r:=YB K) YH (pv 0) (pv 1) (fun _ _=>rfl)) ZG))))) UF Z8)))
  (ZS (Zm (i:=2) nd rfl (Or.inl rfl) (Zw (C1 rfl) rfl T.sum F4 (ZI (Xr [] [] rfl (WJ (pv 0)) (fun _ _ _ _ _=>X6) (fun _ _ _ _ _=>Zo (r:=YB K) YH (pv 0) (Xa (v:=.int 3) rfl m3 ⟨_,rfl⟩) (fun _ _=>rfl)) trivial) ZG)))
  (ZW (Zi (YU (WS (Zs Xg (Zo (r:=YB K) YH (Zo (r:=YB K) YH (pv 0) ZO (fun _ _=>rfl)) (Xa (v:=.int 0) rfl m0 ⟨_,rfl⟩) (fun _ _=>rfl)) ZO)
   (Zo (r:=YB K) YH (Zo (r:=YB K) YH (pv 0) ZO (fun _ _=>rfl)) (Xa (v:=.int 1) rfl m1 ⟨_,rfl⟩) (fun _ _=>rfl))
   (Zo (r:=YB K) YH (Zo (r:=YB K) YH (pv 0) (QE QW ZO) (fun _ _=>rfl)) (Xa (v:=.int 2) rfl m2 ⟨_,rfl⟩) (fun _ _=>rfl))
   (pv 2))))))),?_⟩
 have lab:∀ (H':Hp) (i:Nat),ZA H H'->i<us.length->∃ (a:Addr) (vlo vhi:V),us[i]? = some (.ref a)/\H' a=some (.tup [.int (ls.getD i .d).h,vlo,vhi,.int (ls.getD i .d).m])/\ZD H' (ls.getD i .d).lo vlo/\ZD H' (ls.getD i .d).hi vhi:=fun H' i s' hi=>by
  have hu:us[i]? = some us[i]:=zAE hi
  obtain ⟨a,vlo,vhi,e,e1,k1,k2⟩:=(hk.2 i _ hu).mono (ZA.tups s')
  exact ⟨a,vlo,vhi,by rw [hu,e],e1,k1,k2⟩
 refine ⟨_,rfl,l,us,rfl,.inl (ZM.of hl),_,_,rfl,rfl,_,rfl,?_⟩
 have h2:2<=us.length:=by omega
 have h4:us.length<=4:=by omega
 rw [decide_eq_true (show (2:Int)<=(us.length:Int) by omega)]
 refine Zy ⟨_,_,rfl,rfl,_,rfl,?_⟩
 rw [decide_eq_true (show (us.length:Int)<=4 by omega)]
 refine Zp ?_
 refine ⟨_,rfl,l,us,rfl,.inl (ZM.of hl),1,(us.length:Int),rfl,⟨by omega,by omega,by omega,by omega⟩,?_⟩
 refine Ue (lo:=1) (n:=((us.length:Int) - 1).toNat) (fun i σ H2=>∃ x:Option V,σ=[some (.ref l),x,none]/\ZA H H2/\∀ j,j<i->VG (ls.getD j .d) (ls.getD (j+1) .d)=true) ⟨_,rfl,ZA.refl H,fun j hj=>absurd hj (by omega)⟩ ?_ ?_
 ·rintro i σ H2 hi ⟨x,rfl,s2,hok⟩
  have hi1:i+1<us.length:=by omega
  have ua:us[i]? = some (us[i]'(by omega)):=zAE (by omega)
  have ub:us[i+1]? = some us[i+1]:=zAE hi1
  have e1:(1:Int)+(i:Int)=((i+1:Nat):Int):=by omega
  have e0:(1:Int)+(i:Int) - 1=((i:Nat):Int):=by omega
  have hl2:=s2 _ _ hl
  refine ⟨_,rfl,_,rfl,_,_,rfl,rfl,.inl ⟨l,us,_,_,rfl,rfl,ZM.of hl2,(by rw [e0];exact XL ua),?_⟩⟩
  refine ⟨_,rfl,_,rfl,.inl ⟨l,us,_,_,rfl,rfl,ZM.of hl2,(by rw [e1];exact XL ub),?_⟩⟩
  refine ⟨_,_,ls.getD i .d,ls.getD (i+1) .d,rfl,(hk.2 i _ ua).mono (ZA.tups s2),(hk.2 (i+1) _ ub).mono (ZA.tups s2),hf i,hf (i+1),fun H3 s3=>⟨_,rfl,?_⟩⟩
  have hc:VG (ls.getD i .d) (ls.getD (i+1) .d)=true:=zAM.mp vc i (zA2.mpr (by omega))
  rw [hc]
  refine Zp ⟨_,rfl,s2.trans s3,fun j hj=>?_⟩
  rcases zAj j i with c1 | c1
  ·exact hok j c1
  ·have:j=i:=by omega
   rw [this];exact hc
 rintro σ H2 ⟨x,rfl,s2,hok⟩
 have hl2:=s2 _ _ hl
 refine ⟨_,rfl,l,rfl,⟨us,ZM.of hl2⟩,?_⟩
 refine X7 (n:=us.length) (fun i z=>us[i]? = some z) (fun D i ys H3=>ZA H2 H3/\H2 D=none/\ys=((ls.map YC.m).take i).map V.int) (Yp (by omega))
  (fun D i ys H3 hi hP=>⟨us,us[i],ZM.of (hP.1 _ _ hl2),by simp [hi]⟩) (fun D i ys H3 z H4 hi hP hy=>⟨hy.1,hy.2 us (ZM.of (hP.1 _ _ hl2))⟩) (fun D ys H3 hP=>⟨us,ZM.of (hP.1 _ _ hl2),zAH _⟩)
  (fun D hD=>⟨Za hD _,hD,rfl⟩) (fun D i ys H3 z eD hl' hi hz hP R hR=>?_) (fun D ys H3 eD hP=>?_)
 ·obtain ⟨s3,nD,rfl⟩:=hP
  obtain ⟨a,alo,ahi,ua,ea,ka1,ka2⟩:=lab H3 i (s2.trans s3) hi
  rw [ua] at hz
  cases hz
  refine ⟨_,rfl,.inr (.inl ⟨a,_,_,.int (ls.getD i .d).m,rfl,rfl,Zj.of ea,rfl,?_⟩)⟩
  refine hR _ H3 eD ⟨fun b o e=>by rw [ZT (ZY e nD)];exact s3 b o e,nD,?_⟩
  have eg:(ls.map YC.m)[i]? = some (ls.getD i .d).m:=by
   rw [zAN,zAB,zAE (show i<ls.length by omega)]
   rfl
  rw [zAm,eg,zAZ]
  rfl
 ·obtain ⟨s3,nD,rfl⟩:=hP
  rw [zAU (by rw [zAD];omega)] at eD
  refine ⟨D,ls.map YC.m,rfl,ZM.of eD,?_⟩
  have s23:=s2.trans s3
  have hl3:=s23 _ _ hl
  obtain ⟨c,clo,chi,uc,ec,kc1,kc2⟩:=lab H3 0 s23 (by omega)
  obtain ⟨b,blo,bhi,ub,eb,kb1,kb2⟩:=lab H3 (us.length - 1) s23 (by omega)
  have elast:XQ us (-1)=some (.ref b):=by
   have e:us=us.dropLast++[.ref b]:=by
    have hne:us≠[]:=fun z=>by rw [z] at h2;simp at h2
    have hg:us.getLast hne=.ref b:=by
     rw [zDB]
     have:=(zAO.mp ub).2
     exact this
    rw [<-hg,zCt]
   rw [e]
   exact LF _ _
  refine ⟨_,rfl,.inl ⟨l,us,_,.ref c,rfl,rfl,ZM.of hl3,XL (j:=0) uc,.inr (.inl ⟨c,_,_,.int (ls.getD 0 .d).h,rfl,rfl,Zj.of ec,rfl,_,_,rfl,rfl,?_⟩)⟩⟩
  refine ⟨_,rfl,.inl ⟨l,us,_,.ref c,rfl,rfl,ZM.of hl3,XL (j:=0) uc,.inr (.inl ⟨c,_,_,clo,rfl,rfl,Zj.of ec,rfl,?_⟩)⟩⟩
  refine ⟨_,rfl,1,rfl,.inl ⟨l,us,_,.ref b,rfl,rfl,ZM.of hl3,elast,.inr (.inl ⟨b,_,_,bhi,rfl,rfl,Zj.of eb,rfl,?_⟩)⟩⟩
  refine ⟨_,rfl,nn (zAC rfl),fun p hp=>?_⟩
  have g:=Za hp (.tup [.int ((ls.getD 0 .d).h+1),clo,bhi,.int (ls.map YC.m).sum])
  refine k _ _ (s23.trans g) ?_
  rw [<-hlen]
  exact .tup ZP (.cons (.int _) (.cons (kc1.mono (ZA.tups g) _ _) (.cons (kb2.mono (ZA.tups g) _ _) (.cons (.int _) .nil))))
abbrev ON:Stmt:=Xn (Zr 44) 19
abbrev NQ:Stmt:=Xn (Zr 44) 20
abbrev Mo:Stmt:=Xn (Zr 44) 2
def Na (CSh CTw:Addr):Sp:=fun vs H Q _=>∃ (S d lk l:Addr) (ts:List ZU) (av:Nat->List Nat) (ho:Nat->Nat) (as:List Zz) (kvs:List (Zc×V)) (ls:List V) (bs:List Nat),vs=[.ref S,.ref l]/\YI CSh CTw H S d lk ts av ho as kvs ls/\H l=some (.lst (iN bs))/\(∀ b∈bs,b<ts.length)/\bs.length<=100 /\
 ∀ (D:Addr) (us:List V) (H':Hp),ZA H H'->H D=none->H' D=some (.lst us)->YL H' (Yg ts bs) us->Q (.ref D) H'
theorem DU:ZC ["self","numbers"] ["self","numbers"] (Zf ON):=⟨rfl,rfl,rfl,by decide +kernel,rfl,by decide +kernel,by decide +kernel⟩
theorem Nv {bs:List Nat} {i:Nat} {z:V} (h:(iN bs)[i]? = some z):∃ b,bs[i]? = some b/\z=.int (b:Nat):=by
 unfold iN at h
 rw [zAN] at h
 obtain ⟨b,e,rfl⟩:=zAq.mp h
 exact ⟨b,e,rfl⟩
theorem Hf (F:Zk K "labels_of" "Shelf.labels_of" ON f fd) (L:Yi K mg CSh CTw) (DL:ZJ P w K mg base ZV 2 CSh "label" ["self","number"] (VS CSh CTw fun tg _ _=>tg)):ZK P w K mg base ZV 3 f fd ["self","numbers"] (Na CSh CTw):=by
 refine F.ok DU (fun vs H Q E h=>(by obtain ⟨_,_,_,_,_,_,_,_,_,_,_,rfl,_⟩:=h;rfl)) (fun cdv A outer s H vs Q E hr h=>?_)
 obtain ⟨S,d,lk,l,ts,av,ho,as,kvs,ls,bs,rfl,R,hl,hb,h100,k⟩:=h
 have li:(iN bs).length=bs.length:=zAD _
 refine ⟨_,ZW (Zi (Xr [0] ["self"] rfl (WJ (pv 1)) (fun _ _ _ _ _=>X6) (fun _ _ _ _ _=>Y0 (E:=E0) (pv 1) L.cS DL hr Yr (ZI (pv 0) ZG)) ⟨rfl,.inl rfl,rfl,trivial⟩)),?_⟩
 refine ⟨_,rfl,l,rfl,⟨_,ZM.of hl⟩,?_⟩
 refine X7 (n:=(iN bs).length) (fun i z=>(iN bs)[i]? = some z) (fun D i ys H3=>ZA H H3/\H D=none/\YL H3 (Yg ts (bs.take i)) ys) (Yp (by omega))
  (fun D i ys H3 hi hP=>⟨_,(iN bs)[i],ZM.of (hP.1 _ _ hl),zAE hi⟩) (fun D i ys H3 z H4 hi hP hy=>⟨hy.1,hy.2 _ (ZM.of (hP.1 _ _ hl))⟩) (fun D ys H3 hP=>⟨_,ZM.of (hP.1 _ _ hl),zAH _⟩)
  (fun D hD=>⟨Za hD _,hD,rfl,fun i u e=>by simp at e⟩) (fun D i ys H3 z eD hl' hi hz hP RR hRR=>?_) (fun D us H3 eD hP=>?_)
 ·obtain ⟨s3,nD,hk⟩:=hP
  obtain ⟨b,eb,rfl⟩:=Nv hz
  have hbl:=hb b (zAK eb)
  have R3:=R.same s3
  obtain ⟨dx,hS⟩:=R3.sh.self
  refine ⟨_,rfl,S,dx,_,rfl,hS,rfl,_,rfl,S,d,lk,ts.length,kvs,ls,(b:Int),_,_,_,_,_,_,rfl,⟨R3.sh,R3.val b hbl,(R3.tw b hbl).tw⟩,?_⟩
  refine hRR _ H3 eD ⟨We s3 nD,nD,?_⟩
  have tD:Zu H3 (upd H3 D (.lst (ys++[.ref (as.getD b .d).tg]))):=fun c xs e=>by rw [ZT (ZR e eD (by intro z;cases z))];exact e
  rw [zAm,eb]
  have e2:Yg ts (bs.take i++(some b).toList)=Yg ts (bs.take i)++[Z7 (gd ts b)]:=by unfold Yg;simp
  rw [e2]
  exact (hk.snoc (R3.tw b hbl).tag).mono tD
 ·obtain ⟨s3,nD,hk⟩:=hP
  rw [zAU (by omega)] at hk
  exact k D us H3 s3 nD eD hk
def Qm (CSh CTw:Addr):Sp:=fun vs H Q _=>∃ (S l:Addr) (ns:List Int),vs=[.ref S,.ref l]/\H l=some (.lst (ns.map V.int))/\(∃ dx fs,H S=some (.ins CSh dx fs)/\fs.lookup (zAy "outside")=none) /\
 (∀ n∈ns,∃ (d lk:Addr) (m:Nat) (kvs:List (Zc×V)) (ls:List V) (x:Addr) (th tg:V) (ab:Addr) (ho:Nat) (us:List V),X3 CSh CTw H S d lk m kvs ls n x th tg ab ho us/\1<=ho)/\Q .non H
theorem Yy:ZC ["self","numbers","number"] ["self","numbers"] (Zf NQ):=⟨rfl,rfl,rfl,by decide +kernel,rfl,by decide +kernel,by decide +kernel⟩
theorem Br (F:Zk K "check_held" "Shelf.check_held" NQ f fd) (L:Yi K mg CSh CTw) (DO:ZJ P w K mg base ZV 2 CSh "outside" ["self","number"] (VS CSh CTw fun _ ho _=>.int ho)):ZK P w K mg base ZV 3 f fd ["self","numbers"] (Qm CSh CTw):=by
 refine F.ok Yy (fun vs H Q E h=>(by obtain ⟨_,_,_,rfl,_⟩:=h;rfl)) (fun cdv A outer s H vs Q E hr h=>?_)
 obtain ⟨S,l,ns,rfl,hl,⟨dx,fs,hS,hlk⟩,hb,k⟩:=h
 have nd:=Yy.nd
 refine ⟨_,ZW (VJ PassesOwn.never rfl (WJ (pv 1)) (Y6 (i:=2) nd rfl (Or.inl rfl))
  (ZW (Z5 (Yn X2 (Y0 (E:=E0) (pv 0) L.cS DO hr Yr (ZI (pv 2) ZG)) ZO (Z2 _)) UF Z8))),?_⟩
 refine ⟨_,rfl,l,rfl,⟨_,ZM.of hl⟩,Pf (K:=K) (a:=l) (xs:=ns.map V.int) (fun i σ H2=>∃ x:Option V,σ=[some (.ref S),some (.ref l),x]/\H2=H) ⟨_,rfl,rfl⟩ (fun i σ H2 _ hP=>by obtain ⟨_,_,rfl⟩:=hP;exact ZM.of hl) ?_ ?_⟩
 ·rintro i u σ H2 hu2 ⟨x,rfl,rfl⟩
  rw [zAN] at hu2
  obtain ⟨n,en,rfl⟩:=zAq.mp hu2
  obtain ⟨d,lk,m,kvs,ls,x',th,tg,ab,ho,us,R,h1⟩:=hb n (zAK en)
  refine ⟨_,rfl,S,dx,_,rfl,hS,hlk,_,rfl,S,d,lk,m,kvs,ls,n,x',th,tg,ab,ho,us,rfl,R,rfl,_,rfl,?_⟩
  rw [decide_eq_false (fun z=>by have:=QT z;omega)]
  exact Zp ⟨_,rfl,rfl⟩
 ·rintro σ H2 ⟨x,rfl,rfl⟩
  exact k
def Ut (gt:List KT) (CSh CTw:Addr):Sp:=fun vs H Q _=>∃ (S d lk l:Addr) (ts:List ZU) (av:Nat->List Nat) (ho:Nat->Nat) (as:List Zz) (kvs:List (Zc×V)) (ls:List V) (bs:List Nat) (Lb:YC),vs=[.ref S,.ref l]/\YI CSh CTw H S d lk ts av ho as kvs ls/\WF gt ts/\ts.length<=800/\(∀ b∈bs,b<ts.length/\1<=ho b/\(av b).length<=800)/\H l=some (.lst (iN bs))/\over (Yg ts bs)=some Lb /\
  ∀ (H':Hp) (a:Zz),H a.x=none->H a.th=none->H a.ab=none ->
   (∀ c o,c≠S->c≠d->(∀ b:Nat,b<ts.length->c≠(as.getD b .d).x/\c≠(as.getD b .d).ab)->H c=some o->H' c=some o) ->
   YI CSh CTw H' S d lk (ts++[Yz ts bs]) (Ww bs ts.length (VH ts.length av)) (VB bs (VQ ts.length ho)) (as++[a]) (Yo kvs (.inl (ts.length:Int)) (.ref a.x)) ls->Q (.int (ts.length:Nat)) H'
abbrev Fj:List Str:=["self","numbers","branches","label","number"]
theorem XT:ZC Fj ["self","numbers"] (Zf Mo):=⟨rfl,rfl,rfl,by decide +kernel,rfl,by decide +kernel,by decide +kernel⟩
theorem Ec (bs:List Nat):iN bs=(bs.map fun b:Nat=>(b:Int)).map V.int:=by unfold iN;rw [zCK];rfl
theorem HF {gt:List KT} (F:Zk K "put_stem" "Shelf.put_stem" Mo f fd) (T:YG mg) (L:Yi K mg CSh CTw) (DL:ZJ P w K mg base ZV 3 CSh "labels_of" ["self","numbers"] (Na CSh CTw)) (DO:ZB P w K mg base 9 "label_over" ["labels"] MG)
  (DC:ZJ P w K mg base ZV 3 CSh "check_held" ["self","numbers"] (Qm CSh CTw)) (DT:ZJ P w K mg base ZV 3 CSh "put_twig" ["self","things","label"] (Q4 CSh CTw)) (DK:ZJ P w K mg base ZV 2 CSh "take_over" ["self","stem","branches"] (NL CSh CTw)) :
  ZK P w K mg base ZV 10 f fd ["self","numbers"] (Ut gt CSh CTw):=by
 refine F.ok XT (fun vs H Q E h=>(by obtain ⟨_,_,_,_,_,_,_,_,_,_,_,_,rfl,_⟩:=h;rfl)) (fun cdv A outer s H vs Q E hr h=>?_)
 obtain ⟨S,d,lk,l,ts,av,ho,as,kvs,ls,bs,Lb,rfl,R,hw,t800,hbb,hl,hov,q3⟩:=h
 have hb:∀ b∈bs,b<ts.length:=fun b h=>(hbb b h).1
 have nd:=XT.nd
 have hr3:=hr.mono (show 3<=9 by omega)
 have hr2:=hr.mono (show 2<=9 by omega)
 obtain ⟨eL,hnd,hb2,hb4,hhh,hup,hne⟩:=Jw hw hb hov
 refine ⟨_,ZS (Zm (i:=2) nd rfl (Or.inl rfl) (Xh UC rfl T.list Vc (ZI (pv 1) ZG)))
  (ZS (Zm (i:=3) nd rfl (Or.inl rfl) (Zg DO hr (ZI (Y0 (E:=E0) (pv 0) L.cS DL hr3 Yr (ZI (pv 2) ZG)) ZG)))
  (ZS (XX (Y0 (E:=E0) (pv 0) L.cS DC hr3 Yr (ZI (pv 2) ZG)))
  (ZS (Zm (i:=4) nd rfl (Or.inl rfl) (Y0 (E:=E0) (pv 0) L.cS DT hr3 Yr (ZI (pv 2) (ZI (pv 3) ZG))))
  (ZS (XX (Y0 (E:=E0) (pv 0) L.cS DK hr2 Yr (ZI (pv 4) (ZI (pv 2) ZG))))
  (ZW (Zi (pv 4))))))),?_⟩
 refine ⟨_,rfl,l,iN bs,rfl,.inl (ZM.of hl),fun D nD=>?_⟩
 have g1:=Za nD (.lst (iN bs))
 have hD1:upd H D (.lst (iN bs)) D=some (.lst (iN bs)):=ZP
 generalize upd H D (.lst (iN bs))=H1 at g1 hD1 ⊢
 have R1:=R.same g1
 obtain ⟨dx1,hS1⟩:=R1.sh.self
 refine ⟨_,rfl,S,dx1,_,rfl,hS1,rfl,_,rfl,S,d,lk,D,ts,av,ho,as,kvs,ls,bs,rfl,R1,hD1,hb,by omega,fun D2 us H2 s2 nD2 hD2 hk2=>?_⟩
 have s12:=g1.trans s2
 refine ⟨D2,us,Yg ts bs,Lb,rfl,hD2,hk2,Ck hw hb,hov,fun H3 v s3 kv=>?_⟩
 subst eL
 have s13:=s12.trans s3
 have R3:=R.same s13
 obtain ⟨dx3,hS3⟩:=R3.sh.self
 have hD3:H3 D=some (.lst (iN bs)):=s3 _ _ (s2 _ _ hD1)
 refine ⟨_,rfl,S,dx3,_,rfl,hS3,rfl,_,rfl,S,D,bs.map (fun b:Nat=>(b:Int)),rfl,by rw [<-Ec];exact hD3,⟨dx3,_,hS3,rfl⟩,fun n hn=>?_,?_⟩
 ·obtain ⟨b,hb',rfl⟩:=zAf.mp hn
  have hbl:=hbb b hb'
  exact ⟨d,lk,ts.length,kvs,ls,_,_,_,_,_,_,⟨R3.sh,R3.val b hbl.1,(R3.tw b hbl.1).tw⟩,hbl.2.1⟩
 have kl:=Q3 kv
 obtain ⟨tg,vlo,vhi,rfl,htg,_,_⟩:=kl
 have kl4:=Q3 kv
 refine ⟨_,rfl,S,dx3,_,rfl,hS3,rfl,_,rfl,_,rfl,S,d,lk,ts.length,kvs,ls,.ref D,.ref tg,rfl,R3.sh,by rw [KM R];omega,fun H5 x ab nx nab fr R5 W5=>?_⟩
 have tup5:Zu H3 H5:=fun b ys e=>fr b _ (ZR e hS3 (by intro z;cases z)) (ZR e R3.sh.kept (by intro z;cases z)) e
 have hD5:H5 D=some (.lst (iN bs)):=fr _ _ (ZR hD3 hS3 (by intro z;cases z)) (ZR hD3 R3.sh.kept (by intro z;cases z)) hD3
 have PP:=Lv (t:=Yz ts bs) (x:=x) (th:=D) (tg:=tg) (ab:=ab) R (H':=H5) (fun b o n1 n2 e=>fr b o n1 n2 (s13 b o e)) (s13.free nx) nD (s13.free nab) (ZY hD3 nab).symm R5 W5
  ⟨iN bs,hD5,fun z=>absurd z (by show (gd ts (bs.getD 0 0)).h+1≠0;omega),fun _=>rfl⟩ (kl4.mono tup5)
 obtain ⟨dx5,hS5⟩:=R5.self
 have el:as.length=ts.length:=R.len
 have aL:∀ b,b<ts.length->(as++[(⟨x,D,tg,ab⟩:Zz)]).getD b .d=as.getD b .d:=fun b hb=>NS (by omega)
 have aN:(as++[(⟨x,D,tg,ab⟩:Zz)]).getD ts.length .d=⟨x,D,tg,ab⟩:=by rw [<-el];exact NU
 have en:(ts++[Yz ts bs]).length=ts.length+1:=by simp
 refine ⟨_,rfl,S,dx5,_,rfl,hS5,rfl,_,rfl,_,rfl,S,d,lk,D,_,_,_,_,_,ls,bs,ts.length,rfl,PP,hD5,hnd,fun b hb'=>?_,fun b hb'=>?_,fun H6 fr6 no6 R6=>⟨_,rfl,?_⟩⟩
 ·have hbl:=hbb b hb'
  have nb:b≠ts.length:=by omega
  refine ⟨by omega,?_,?_⟩
  ·rw [show VQ ts.length ho b=ho b from if_neg nb];exact hbl.2.1
  ·rw [show VH ts.length av b=av b from if_neg nb];omega
 ·rw [en] at hb'
  rcases zAj b ts.length with c | c
  ·rw [aL b c]
   exact (ZY (R.tw b c).tw.above nD).symm
  ·have:b=ts.length:=by omega
   rw [this,aN]
   exact ZY hD3 nab
 ·refine q3 H6 ⟨x,D,tg,ab⟩ (s13.free nx) nD (s13.free nab) (fun c o n1 n2 n3 e=>?_) R6
  refine fr6 c o (fun b hb'=>?_) (fr c o n1 n2 (s13 c o e))
  rw [en] at hb'
  rcases zAj b ts.length with z | z
  ·rw [aL b z];exact n3 b z
  ·have:b=ts.length:=by omega
   rw [this,aN]
   exact ⟨ZY e (s13.free nx),ZY e (s13.free nab)⟩
end
section
variable {P:Program} {w:World} {K:zAA} {mg:Str->Option Value} {base:Heap} {f:Addr} {fd:FuncData} {CSh CTw:Addr}
theorem Fp (rs:List YQ):(Z7 (WR rs)).kt=PU (rs.map (·.1)):=by
 have lks:(rs.map (·.1)).length=rs.length:=zAD _
 have e0:(rs.map (·.1)).getD 0 (.int 0)=(rs.getD 0 rd).1:=by
  rw [zAB,zAB,zAN]
  cases rs[0]? <;> rfl
 have e1:(rs.map (·.1)).getD (rs.length - 1) (.int 0)=(rs.getD (rs.length - 1) rd).1:=by
  rw [zAB,zAB,zAN]
  cases rs[rs.length - 1]? <;> rfl
 unfold PU Z7 WR YC.kt
 rw [lks,e0,e1]
 rfl
def P3 (CSh CTw:Addr):Sp:=fun vs H Q _=>∃ (S d lk l:Addr) (n:Nat) (kvs:List (Zc×V)) (ls us:List V) (rs:List YQ),vs=[.ref S,.ref l]/\Yd CSh H S d lk n kvs ls/\kvs.length<=900/\H l=some (.lst us)/\KeysAt H (YF rs) us/\V6 rs /\
 ∀ (H':Hp) (x th tg ab:Addr),H x=none->H th=none->H ab=none->ab≠th->(∀ b o,b≠S->b≠d->H b=some o->H' b=some o)->Yd CSh H' S d lk (n+1) (Yo kvs (.inl (n:Int)) (.ref x)) ls->XE CTw H' x (.ref th) (.ref tg) ab 1 [] ->
  (∃ us',H' th=some (.lst us')/\KeysAt H' (YF rs) us')->YY H' (Z7 (WR rs)) (.ref tg)->Q (.int (n:Nat)) H'
theorem G9 (F:Zk K "put_leaf" "Shelf.put_leaf" NG f fd) (L:Yi K mg CSh CTw) (DC:ZB P w K mg base 9 "checked_rows" ["rows"] Nz) (DL:ZB P w K mg base 1 "label_of_rows" ["rows"] MT) (DT:ZJ P w K mg base ZV 3 CSh "put_twig" ["self","things","label"] (Q4 CSh CTw)) :
  ZK P w K mg base ZV 10 f fd ["self","rows"] (P3 CSh CTw):=by
 refine F.ok XZ (fun vs H Q E h=>(by obtain ⟨_,_,_,_,_,_,_,_,_,rfl,_⟩:=h;rfl)) (fun cdv A outer s H vs Q E hr h=>?_)
 obtain ⟨S,d,lk,l,n,kvs,ls,us,rs,rfl,R,l900,hl,hk,G,k⟩:=h
 have nd:=XZ.nd
 have hr1:=hr.mono (show 1<=9 by omega)
 have hr3:=hr.mono (show 3<=9 by omega)
 refine ⟨_,ZS (Zm (i:=2) nd rfl (Or.inl rfl) (Zg DC hr (ZI (pv 1) ZG)))
  (ZW (Zi (Y0 (E:=E0) (pv 0) L.cS DT hr3 Yr (ZI (pv 2) (ZI (Zg DL hr1 (ZI (pv 2) ZG)) ZG))))),?_⟩
 refine ⟨_,rfl,l,us,rs,rfl,hl,hk,G,fun H1 l' us' s1 nl' hl' hk'=>?_⟩
 have R1:=R.same s1
 obtain ⟨dx,hS⟩:=R1.self
 have lu:us'.length=rs.length:=by have:=hk'.length;rw [<-this];exact zAD _
 refine ⟨_,rfl,S,dx,_,rfl,hS,rfl,_,rfl,_,rfl,l',us',rs.map (·.1),rfl,hl',Fv hk',by rw [lu];exact G.2.1,fun H2 v s2 kv=>?_⟩
 rw [<-Fp] at kv
 have kl:=Q3 kv
 obtain ⟨tg,vlo,vhi,rfl,htg,_,_⟩:=kl
 have kl:=Q3 kv
 have s12:=s1.trans s2
 have R2:=R.same s12
 refine ⟨S,d,lk,n,kvs,ls,.ref l',.ref tg,rfl,R2,l900,fun H3 x ab nx nab fr R3 W3=>?_⟩
 obtain ⟨dx2,hS2⟩:=R2.self
 have tup3:Zu H2 H3:=fun b ys e=>fr b _ (ZR e hS2 (by intro z;cases z)) (ZR e R2.kept (by intro z;cases z)) e
 have hl2:=s2 _ _ hl'
 have hl3:H3 l'=some (.lst us'):=fr _ _ (ZR hl2 hS2 (by intro z;cases z)) (ZR hl2 R2.kept (by intro z;cases z)) hl2
 exact k H3 x l' tg ab (s12.free nx) nl' (s12.free nab) (ZY hl2 nab).symm (fun b o n1 n2 e=>fr b o n1 n2 (s12 b o e)) R3 W3 ⟨us',hl3,hk'.mono (fun b xs e=>tup3 b xs (s2 _ _ e)) _ _⟩ (kl.mono tup3)
theorem Et (D:ZJ P w K mg base ZV 10 CSh "put_leaf" ["self","rows"] (P3 CSh CTw)):ZJ P w K mg base ZV 10 CSh "put_leaf" ["self","rows"] (Qg CSh CTw):=by
 obtain ⟨g,gd,M,FG,b⟩:=D.ex
 refine ⟨g,gd,M,FG.imp fun vs H Q E h=>?_,b⟩
 obtain ⟨S,d,lk,l,ts,av,ho,as,kvs,ls,us,rs,e,R,l900,hl,hk,G,k⟩:=h
 refine ⟨S,d,lk,l,ts.length,kvs,ls,us,rs,e,R.sh,by rw [KM R];exact l900,hl,hk,G,fun H' x th tg ab nx nth nab abth fr R' W hth htg=>?_⟩
 obtain ⟨us',h1,h2⟩:=hth
 exact k H' ⟨x,th,tg,ab⟩ nx nth nab fr (Lv (t:=WR rs) R fr nx nth nab abth R' W ⟨us',h1,fun _=>h2,fun z=>absurd rfl z⟩ htg)
abbrev Ng:Stmt:=Xn (Zr 44) 5
abbrev Mx:Stmt:=Xn (Zr 44) 6
structure UI (CSh CTw:Addr) (H:Hp) (S d lk:Addr) (n:Nat) (kvs:List (Zc×V)) (ls:List V) (i:Int) (x:Addr) (th:V) (tg ab:Addr) (ho:Nat):Prop where
 rd:X3 CSh CTw H S d lk n kvs ls i x th (.ref tg) ab ho []
 tag:∃ xs,H tg=some (.tup (.int 0 :: xs))
def Mt (CSh CTw:Addr):Sp:=fun vs H Q _=>∃ (S d lk:Addr) (n:Nat) (kvs:List (Zc×V)) (ls:List V) (i:Int) (x:Addr) (th:V) (tg ab:Addr),vs=[.ref S,.int i]/\UI CSh CTw H S d lk n kvs ls i x th tg ab 0/\Q .non (upd H d (.dK (VT kvs (.inl i))))
theorem W8:ZC ["self","number","twig","branch"] ["self","number"] (Zf Mx):=⟨rfl,rfl,rfl,by decide +kernel,rfl,by decide +kernel,by decide +kernel⟩
theorem Hn (F:Zk K "drop_unheld" "Shelf.drop_unheld" Mx f fd) (L:Yi K mg CSh CTw) (DH:ZJ P w K mg base ZV 2 CSh "holders" ["self","number"] (VS CSh CTw fun _ ho us=>.int ((us.length:Nat)+(ho:Nat):Int))) (DS:ZB P w K mg base 1 "is_stem" ["twig"] (PD CTw)):ZK P w K mg base ZV 3 f fd ["self","number"] (Mt CSh CTw):=by
 refine F.ok W8 (fun vs H Q E h=>(by obtain ⟨_,_,_,_,_,_,_,_,_,_,_,rfl,_⟩:=h;rfl)) (fun cdv A outer s H vs Q E hr h=>?_)
 obtain ⟨S,d,lk,n,kvs,ls,i,x,th,tg,ab,rfl,R,k⟩:=h
 have nd:=W8.nd
 have hr1:=hr.mono (show 1<=2 by decide)
 refine ⟨_,ZS (Z5 (Yn Vx (Y0 (E:=E0) (pv 0) L.cS DH hr Yr (ZI (pv 1) ZG)) ZO (Z2 _)) UF Z8)
  (ZS (Zm (i:=2) nd rfl (Or.inl rfl) (FL (Xp (pv 0) rfl) (pv 1) ⟨rfl,rfl,rfl,rfl⟩))
  (ZW (Z5 (Yu (Zg DS hr1 (ZI (pv 2) ZG))) UF Z8))),?_⟩
 obtain ⟨dx,hS⟩:=R.rd.sh.self
 obtain ⟨xs,ht⟩:=R.tag
 refine ⟨_,rfl,S,dx,_,rfl,hS,rfl,_,rfl,S,d,lk,n,kvs,ls,i,x,th,.ref tg,ab,0,[],rfl,R.rd,_,_,rfl,rfl,_,rfl,Zp ?_⟩
 have hd:=R.rd.sh.kept
 refine ⟨_,rfl,S,CSh,dx,_,.ref d,rfl,hS,L.cS,L.nk,rfl,d,rfl,.inl ⟨kvs,Rd.of hd⟩,_,rfl,kvs,.inl i,.ref x,hd,rfl,R.rd.val,?_⟩
 obtain ⟨dt,hx⟩:=R.rd.tw.self
 have fr:∀ b o,b≠d->H b=some o->upd H d (.dK (VT kvs (.inl i))) b=some o:=fun b o n e=>by rw [ZT n];exact e
 refine ⟨_,rfl,x,th,tg,ab,0,[],0,xs,rfl,⟨⟨dt,fr _ _ (ZR hx hd (by intro z;cases z)) hx⟩,fr _ _ (ZR R.rd.tw.above hd (by intro z;cases z)) R.rd.tw.above⟩,fr _ _ (ZR ht hd (by intro z;cases z)) ht,_,rfl,Zp k⟩
def Oc (CSh CTw:Addr):Sp:=fun vs H Q _=>∃ (S d lk:Addr) (n:Nat) (kvs:List (Zc×V)) (ls:List V) (i:Int) (x:Addr) (th:V) (tg ab:Addr),vs=[.ref S,.int i]/\UI CSh CTw H S d lk n kvs ls i x th tg ab 1/\x≠S /\
 ∀ H',(∀ b o,b≠x->b≠d->H b=some o->H' b=some o)->H' d=some (.dK (VT kvs (.inl i)))->Q .non H'
theorem WI:ZC ["self","number","twig"] ["self","number"] (Zf Ng):=⟨rfl,rfl,rfl,by decide +kernel,rfl,by decide +kernel,by decide +kernel⟩
theorem AO (F:Zk K "let_go" "Shelf.let_go" Ng f fd) (L:Yi K mg CSh CTw) (DC:ZJ P w K mg base ZV 3 CSh "check_held" ["self","numbers"] (Qm CSh CTw)) (DT:ZJ P w K mg base ZV 1 CSh "twig_of" ["self","number"] (UB CSh)) (DD:ZJ P w K mg base ZV 3 CSh "drop_unheld" ["self","number"] (Mt CSh CTw)) :
  ZK P w K mg base ZV 4 f fd ["self","number"] (Oc CSh CTw):=by
 refine F.ok WI (fun vs H Q E h=>(by obtain ⟨_,_,_,_,_,_,_,_,_,_,_,rfl,_⟩:=h;rfl)) (fun cdv A outer s H vs Q E hr h=>?_)
 obtain ⟨S,d,lk,n,kvs,ls,i,x,th,tg,ab,rfl,R,xS,k⟩:=h
 have nd:=WI.nd
 have hr1:=hr.mono (show 1<=3 by decide)
 refine ⟨_,ZS (XX (Y0 (E:=E0) (pv 0) L.cS DC hr Yr (ZI (Ye (ZI (pv 1) ZG)) ZG)))
  (ZS (Zm (i:=2) nd rfl (Or.inl rfl) (Y0 (E:=E0) (pv 0) L.cS DT hr1 Yr (ZI (pv 1) ZG)))
  (ZS (KG (pv 2) ZO JF)
  (ZW (XX (Y0 (E:=E0) (pv 0) L.cS DD hr Yr (ZI (pv 1) ZG)))))),?_⟩
 obtain ⟨dx,hS⟩:=R.rd.sh.self
 refine ⟨_,rfl,S,dx,_,rfl,hS,rfl,_,rfl,nn (zAC rfl),fun l nl=>?_⟩
 have g:=Za nl (.lst [.int i])
 have hl:=ZP (H:=H) (a:=l) (o:=.lst [.int i])
 generalize upd H l (.lst [.int i])=H1 at g hl ⊢
 have hS1:=g _ _ hS
 have R1:=R.rd.same g
 refine ⟨S,l,[i],rfl,hl,⟨dx,_,hS1,rfl⟩,fun m hm=>?_,?_⟩
 ·rw [zAQ.mp hm]
  exact ⟨d,lk,n,kvs,ls,x,th,.ref tg,ab,1,[],R1,zAH _⟩
 refine ⟨_,rfl,S,dx,_,rfl,hS1,rfl,_,rfl,S,d,lk,n,kvs,ls,i,.ref x,rfl,R1.sh,R1.val,?_⟩
 obtain ⟨dt,hx⟩:=R1.tw.self
 obtain ⟨xs,ht⟩:=R.tag
 have ht1:=g _ _ ht
 refine ⟨_,rfl,x,CTw,dt,_,.int (1:Nat),rfl,hx,L.cT,L.nho,rfl,_,_,rfl,rfl,dt,_,hx,zAC rfl,?_⟩
 have hx2:upd H1 x (.ins CTw dt (Yh "holds" (.int (((1:Nat):Int) - 1)) (Wm th (.ref tg) ab 1))) x=some (.ins CTw dt (Wm th (.ref tg) ab 0)):=by rw [ZP];rfl
 have fr:∀ b o,b≠x->H1 b=some o->upd H1 x (.ins CTw dt (Yh "holds" (.int (((1:Nat):Int) - 1)) (Wm th (.ref tg) ab 1))) b=some o:=fun b o n e=>by rw [ZT n];exact e
 generalize upd H1 x (.ins CTw dt (Yh "holds" (.int (((1:Nat):Int) - 1)) (Wm th (.ref tg) ab 1)))=H2 at hx2 fr ⊢
 have hd1:=R1.sh.kept
 have hk1:=R1.sh.looks
 have hS2:=fr _ _ (Ne.symm xS) hS1
 have R2:UI CSh CTw H2 S d lk n kvs ls i x th tg ab 0:=⟨⟨⟨⟨dx,hS2⟩,fr _ _ (ZR hd1 hx (by intro z;cases z)) hd1,fr _ _ (ZR hk1 hx (by intro z;cases z)) hk1⟩,R1.val,⟨⟨dt,hx2⟩,fr _ _ (ZR R1.tw.above hx (by intro z;cases z)) R1.tw.above⟩⟩,⟨xs,fr _ _ (ZR ht1 hx (by intro z;cases z)) ht1⟩⟩
 refine ⟨_,rfl,S,dx,_,rfl,hS2,rfl,_,rfl,S,d,lk,n,kvs,ls,i,x,th,tg,ab,rfl,R2,?_⟩
 exact k _ (fun b o n1 n2 e=>by rw [ZT n2];exact fr _ _ n1 (g _ _ e)) ZP
end
structure XS where
 S:Addr
 d:Addr
 ts:List ZU
 av:Nat->List Nat
 ho:Nat->Nat
 as:List Zz
 kvs:List (Zc×V)
structure Z4 (CSh CTw:Addr) (H:Hp) (X:XS) (lk:Addr) (c:Nat) (ls:List V):Prop where
 sh:Yd CSh H X.S X.d lk c X.kvs ls
 keys:X.kvs.map (·.1)=(zAi X.ts.length).map (fun i:Nat=>(Sum.inl (i:Int):Zc))
 val:∀ i:Nat,i<X.ts.length->YA X.kvs (Sum.inl (i:Int))=some (.ref (X.as.getD i .d).x)
 tw:∀ i:Nat,i<X.ts.length->V9 CTw H X.ts X.av X.ho i (X.as.getD i .d)
 own:∀ i:Nat,i<X.ts.length->(X.as.getD i .d).x≠X.S/\(X.as.getD i .d).ab≠lk/\(X.as.getD i .d).th≠lk
 le:X.ts.length<=c
theorem MV {H H':Hp} {p:Addr} (w:ZH H p) (h:∀ o,H p=zAh o->H' p=zAh o):ZH H' p:=by
 obtain ⟨a,b,c,d,e,r⟩:=w.ex
 exact ⟨a,b,c,d,h _ e,r⟩
section
variable {CSh CTw:Addr} {H H':Hp} {X:XS} {lk lk':Addr} {c c':Nat} {ls ls':List V}
theorem YI.q {S d:Addr} {ts:List ZU} {av:Nat->List Nat} {ho:Nat->Nat} {as:List Zz} {kvs:List (Zc×V)} (R:YI CSh CTw H S d lk ts av ho as kvs ls):Z4 CSh CTw H ⟨S,d,ts,av,ho,as,kvs⟩ lk ts.length ls:=
 ⟨R.sh,R.keys,R.val,R.tw,fun i hi=>⟨(R.own i hi).1,(R.own i hi).2.1,(R.own i hi).2.2.1⟩,zAH _⟩
theorem Z4.frame (R:Z4 CSh CTw H X lk c ls) (sh:Yd CSh H' X.S X.d lk' c' X.kvs ls') (fr:∀ b o,b≠X.S->b≠X.d->b≠lk->H b=some o->H' b=some o) (own:∀ i:Nat,i<X.ts.length->(X.as.getD i .d).ab≠lk'/\(X.as.getD i .d).th≠lk') (le:X.ts.length<=c'):Z4 CSh CTw H' X lk' c' ls':=by
 obtain ⟨⟨dS,hS⟩,hd,hl⟩:=R.sh
 refine ⟨sh,R.keys,R.val,fun i hi=>?_,fun i hi=>⟨(R.own i hi).1,own i hi⟩,le⟩
 have W:=R.tw i hi
 obtain ⟨dx,hx⟩:=W.tw.self
 obtain ⟨us,e1,_⟩:=W.things
 have ha:=W.tw.above
 have o:=R.own i hi
 exact W.frame (fun b xs e=>fr b _ (ZR e hS (by intro z;cases z)) (ZR e hd (by intro z;cases z)) (ZR e hl (by intro z;cases z)) e)
  (fun o' e=>fr _ _ o.1 (ZR hx hd (by intro z;cases z)) (ZR hx hl (by intro z;cases z)) e)
  (fun o' e=>fr _ _ (ZR e1 hS (by intro z;cases z)) (ZR e1 hd (by intro z;cases z)) o.2.2 e)
  (fun o' e=>fr _ _ (ZR ha hS (by intro z;cases z)) (ZR ha hd (by intro z;cases z)) o.2.1 e)
theorem Z4.same (R:Z4 CSh CTw H X lk c ls) (s:ZA H H'):Z4 CSh CTw H' X lk c ls:=R.frame (R.sh.same s) (fun b o _ _ _ e=>s b o e) (fun i hi=>(R.own i hi).2) R.le
def UZ (X:XS) (lk:Addr) (b:Addr):Prop:=b=X.S\/b=X.d\/b=lk
theorem Z4.but (R:Z4 CSh CTw H X lk c ls) {p:Addr} (s:ZE p H H') (hp:¬ UZ X lk p) (own:∀ i:Nat,i<X.ts.length->(X.as.getD i .d).x≠p/\(X.as.getD i .d).ab≠p/\(X.as.getD i .d).th≠p) (t:Zu H H'):Z4 CSh CTw H' X lk c ls:=by
 obtain ⟨⟨dS,hS⟩,hd,hl⟩:=R.sh
 refine ⟨⟨⟨dS,s _ _ hS fun z=>hp (.inl z.symm)⟩,s _ _ hd fun z=>hp (.inr (.inl z.symm)),s _ _ hl fun z=>hp (.inr (.inr z.symm))⟩,R.keys,R.val,fun i hi=>?_,R.own,R.le⟩
 exact (R.tw i hi).frame t (fun o e=>s _ _ e (own i hi).1) (fun o e=>s _ _ e (own i hi).2.2) (fun o e=>s _ _ e (own i hi).2.1)
theorem Z4.rd (R:Z4 CSh CTw H X lk c ls) {i:Nat} (hi:i<X.ts.length):X3 CSh CTw H X.S X.d lk c X.kvs ls (i:Int) (X.as.getD i .d).x (.ref (X.as.getD i .d).th) (.ref (X.as.getD i .d).tg) (X.as.getD i .d).ab (X.ho i) (iN (X.av i)):=⟨R.sh,R.val i hi,(R.tw i hi).tw⟩
theorem Z4.none (R:Z4 CSh CTw H X lk c ls) {x:Int} (hx:inT X.ts x=false):YA X.kvs (Sum.inl x)=zCh:=by
 cases z:YA X.kvs (Sum.inl x) with
 | none=>rfl
 | some v=>
  have:=JG z
  rw [R.keys] at this
  obtain ⟨i,hi,ei⟩:=zAf.mp this
  have e1:=Sum.inl.inj ei
  have e2:=zA2.mp hi
  unfold inT at hx
  have:=of_decide_eq_false hx
  omega
theorem Z4.klen (R:Z4 CSh CTw H X lk c ls):X.kvs.length=X.ts.length:=by
 have:=congrArg zCD R.keys
 simpa using this
end
section
variable {P:Program} {w:World} {K:zAA} {mg:Str->Option Value} {base:Heap} {f:Addr} {fd:FuncData} {CSh CTw:Addr}
theorem Eg (t:ZU):(if ((t.h:Nat):Int) > 0 then ("stem" : Str) else "leaf")=kindOf t:=by
 unfold kindOf
 by_cases h:t.h=0
 ·rw [if_pos h,if_neg (by omega)]
 ·rw [if_neg h,if_pos (by omega)]
def Ol (CSh CTw:Addr):Sp:=fun vs H Q _=>∃ (X:XS) (lk:Addr) (c:Nat) (ls:List V) (i:Nat),vs=[.ref X.S,.int (i:Int)]/\Z4 CSh CTw H X lk c ls/\i<X.ts.length/\ls.length<=900 /\
 ∀ (H':Hp) (tp l:Addr) (us:List V),(∀ b o,b≠lk->H b=some o->H' b=some o)->Z4 CSh CTw H' X lk c (ls++[.int (i:Int)])->H' tp=some (.tup [.str (kindOf (gd X.ts i)),.ref l])->H l=none->H' l=some (.lst us) ->
  ((gd X.ts i).h=0->KeysAt H' (YF (gd X.ts i).rows) us)->((gd X.ts i).h≠0->us=iN (gd X.ts i).bs)->Q (.ref tp) H'
theorem Cr (D:ZJ P w K mg base ZV 2 CSh "look" ["self","number"] (MR CSh CTw)):ZJ P w K mg base ZV 2 CSh "look" ["self","number"] (Ol CSh CTw):=by
 obtain ⟨g,gd',M,FG,b⟩:=D.ex
 refine ⟨g,gd',M,FG.imp fun vs H Q E h=>?_,b⟩
 obtain ⟨X,lk,c,ls,i,e,R,hi,l9,k⟩:=h
 have W:=R.tw i hi
 obtain ⟨us,hu,u1,u2⟩:=W.things
 obtain ⟨a,vlo,vhi,ea,ht,k1,k2⟩:=W.tag
 cases ea
 have o:=R.own i hi
 refine ⟨X.S,X.d,lk,c,X.kvs,ls,i,_,_,_,_,_,_,us,_,_,e,R.rd hi,hu,ht,Ne.symm o.2.2,Ne.symm o.2.1,l9,fun H' l' t fr hlk nl' hl' ht'=>?_⟩
 have hlk0:=R.sh.looks
 have m:Zu H H':=fun b xs e=>fr b _ (ZR e hlk0 (by intro z;cases z)) e
 obtain ⟨⟨dS,hS⟩,hd,_⟩:=R.sh
 have ek:(if (Z7 (gd X.ts i)).h > 0 then ("stem" : Str) else "leaf")=kindOf (gd X.ts i):=Eg _
 rw [ek] at ht'
 exact k H' t l' us fr (R.frame ⟨⟨dS,fr _ _ (ZR hS hlk0 (by intro z;cases z)) hS⟩,fr _ _ (ZR hd hlk0 (by intro z;cases z)) hd,hlk⟩ (fun b o _ _ n e=>fr b o n e) (fun j hj=>(R.own j hj).2) R.le) ht' nl' hl' (fun z=>(u1 z).mono m _ _) u2
def K1 (CSh CTw:Addr):Sp:=fun vs H Q _=>∃ (X:XS) (lk:Addr) (c:Nat) (ls:List V) (i:Nat),vs=[.ref X.S,.int (i:Int)]/\Z4 CSh CTw H X lk c ls/\i<X.ts.length/\Q (.ref (X.as.getD i .d).tg) H
theorem Di (D:ZJ P w K mg base ZV 2 CSh "label" ["self","number"] (VS CSh CTw fun tg _ _=>tg)):ZJ P w K mg base ZV 2 CSh "label" ["self","number"] (K1 CSh CTw):=by
 obtain ⟨g,gd',M,FG,b⟩:=D.ex
 refine ⟨g,gd',M,FG.imp fun vs H Q E h=>?_,b⟩
 obtain ⟨X,lk,c,ls,i,e,R,hi,k⟩:=h
 exact ⟨X.S,X.d,lk,c,X.kvs,ls,i,_,_,_,_,_,_,e,R.rd hi,k⟩
abbrev MK:Stmt:=Xn (Zr 44) 15
abbrev Nt:Stmt:=Xn (Zr 44) 14
def M0 (CSh CTw:Addr):Sp:=fun vs H Q _=>∃ (X:XS) (lk:Addr) (c:Nat) (ls:List V),vs=[.ref X.S]/\Z4 CSh CTw H X lk c ls/\∀ (H':Hp) (lk':Addr),H lk'=none->(∀ b o,b≠X.S->H b=some o->H' b=some o)->Z4 CSh CTw H' X lk' c []->Q .non H'
theorem Gm:ZC ["self"] ["self"] (Zf MK):=⟨rfl,rfl,rfl,by decide +kernel,rfl,by decide +kernel,by decide +kernel⟩
theorem Dy (F:Zk K "forget" "Shelf.forget" MK f fd) (L:Yi K mg CSh CTw):ZK P w K mg base ZV 1 f fd ["self"] (M0 CSh CTw):=by
 refine F.ok Gm (fun vs H Q E h=>(by obtain ⟨_,_,_,_,rfl,_⟩:=h;rfl)) (fun cdv A outer s H vs Q E hr h=>?_)
 obtain ⟨X,lk,c,ls,rfl,R,k⟩:=h
 refine ⟨_,ZW (Vk (pv 0) (Ye ZG) rfl),?_⟩
 refine ⟨nn (zAC rfl),fun l' nl'=>?_⟩
 have g1:=Za nl' (.lst [])
 obtain ⟨⟨dx,hS0⟩,hd,hlk⟩:=R.sh
 have hS:=g1 _ _ hS0
 refine ⟨_,rfl,X.S,CSh,dx,_,rfl,hS,L.cS,L.nl,zAC rfl,?_⟩
 have Sl:X.S≠l':=ZY hS0 nl'
 have fr:∀ b o,b≠X.S->H b=some o->upd (upd H l' (.lst [])) X.S (.ins CSh dx (Yh "looks" (.ref l') (Vl X.d lk c))) b=some o:=fun b o n e=>by rw [ZT n];exact g1 _ _ e
 refine k _ l' nl' fr (R.frame ⟨⟨dx,ZP⟩,fr _ _ (ZR hd hS0 (by intro z;cases z)) hd,(by rw [ZT (Ne.symm Sl)];exact ZP)⟩ (fun b o n _ _ e=>fr b o n e) (fun i hi=>?_) R.le)
 obtain ⟨us,e1,_⟩:=(R.tw i hi).things
 exact ⟨ZY (R.tw i hi).tw.above nl',ZY e1 nl'⟩
def NT (CSh CTw:Addr):Sp:=fun vs H Q _=>∃ (X:XS) (lk:Addr) (c:Nat) (ls:List V),vs=[.ref X.S]/\Z4 CSh CTw H X lk c ls/\∀ p,H p=none->Q (.ref p) (upd H p (.lst ls))
theorem Bo:ZC ["self"] ["self"] (Zf Nt):=⟨rfl,rfl,rfl,by decide +kernel,rfl,by decide +kernel,by decide +kernel⟩
theorem Ga (F:Zk K "looked" "Shelf.looked" Nt f fd) (T:YG mg) (L:Yi K mg CSh CTw):ZK P w K mg base ZV 1 f fd ["self"] (NT CSh CTw):=by
 refine F.ok Bo (fun vs H Q E h=>(by obtain ⟨_,_,_,_,rfl,_⟩:=h;rfl)) (fun cdv A outer s H vs Q E hr h=>?_)
 obtain ⟨X,lk,c,ls,rfl,R,k⟩:=h
 refine ⟨_,ZW (Zi (Xh UC rfl T.list Vc (ZI (Xp (pv 0) rfl) ZG))),?_⟩
 obtain ⟨⟨dx,hS⟩,hd,hlk⟩:=R.sh
 exact ⟨_,rfl,X.S,CSh,dx,_,.ref lk,rfl,hS,L.cS,L.nl,rfl,lk,ls,rfl,.inl (ZM.of hlk),k⟩
def MU (CSh CTw:Addr):Sp:=fun vs H Q _=>∃ (p:Addr) (X:XS) (lk:Addr) (c:Nat) (ls:List V),vs=[.ref p,.ref X.S]/\ZH H p/\Z4 CSh CTw H X lk c ls/\X.ts.length<=900/\p≠lk/\(∀ i:Nat,i<X.ts.length->(X.as.getD i .d).ab≠p/\(X.as.getD i .d).th≠p) /\
 ∀ (H':Hp) (g:Int),(∀ b o,b≠p->b≠X.S->b≠X.d->H b=some o->H' b=some o)->ZH H' p->Z4 CSh CTw H' X lk (c+1) ls->inT X.ts g=false->Q (.int g) H'
theorem Wz:ZC ["_law_well_here","_law_shelf","_law_number"] ["_law_well_here","_law_shelf"] (Zf Om):=⟨rfl,rfl,rfl,by decide +kernel,rfl,by decide +kernel,by decide +kernel⟩
theorem Bf:V6 [(.int 0,.int 0)]:=⟨fun r hr=>by rw [zAQ.mp hr];exact ⟨by decide +kernel,by decide +kernel⟩,by decide,by decide,List.pairwise_singleton _ _⟩
theorem GD {kvs:List (Zc×V)} {k:Zc} {v:V} (h:YA kvs k=none):VT (Yo kvs k v) k=kvs:=by
 have hk:k∉kvs.map (·.1):=Fu h
 rw [N7 v h]
 unfold VT
 rw [zBL]
 have e1:kvs.filter (fun kv=>decide (kv.1≠k))=kvs:=zCY.mpr fun a ha=>decide_eq_true fun z=>hk (zAf.mpr ⟨a,ha,z⟩)
 rw [e1]
 simp
theorem HU (F:Zk K "_law_gone" "_law_gone" Om f fd) (L:Yi K mg CSh CTw) (DP:ZB P w K mg base 1 "_law_pull" ["_law_well_here","_law_many"] Xq) (DL:ZJ P w K mg base ZV 10 CSh "put_leaf" ["self","rows"] (P3 CSh CTw)) (DG:ZJ P w K mg base ZV 4 CSh "let_go" ["self","number"] (Oc CSh CTw)) :
  ZK P w K mg base ZV 11 f fd ["_law_well_here","_law_shelf"] (MU CSh CTw):=by
 refine F.ok Wz (fun vs H Q E h=>(by obtain ⟨_,_,_,_,_,rfl,_⟩:=h;rfl)) (fun cdv A outer s H vs Q E hr h=>?_)
 obtain ⟨p,X,lk,c,ls,rfl,W,R,l9,plk,own,k⟩:=h
 have nd:=Wz.nd
 have hr1:=hr.mono (show 1<=10 by decide)
 have hr4:=hr.mono (show 4<=10 by decide)
 refine ⟨_,ZS (Zm (i:=2) nd rfl (Or.inl rfl) (Y0 (E:=E0) (pv 1) L.cS DL hr Yr (ZI (Ye (ZI (YU (ZI ZO (ZI ZO ZG))) ZG)) ZG)))
  (ZS (XX (Y0 (E:=E0) (pv 1) L.cS DG hr4 Yr (ZI (pv 2) ZG)))
  (ZW (Zi (Zo (r:=YB K) YH (Ye (X8 (pv 2) (QE QW ZO) (Zs Xg (Zs Xg (pv 2) ZO) (Zg DP hr1 (ZI (pv 0) (ZI ZO ZG)))))) (Zg DP hr1 (ZI (pv 0) (ZI ZO ZG))) (fun _ _=>rfl))))),?_⟩
 obtain ⟨⟨dx,hS⟩,hd,hlk⟩:=R.sh
 obtain ⟨pw,hp⟩:=W.some
 refine ⟨_,rfl,X.S,dx,_,rfl,hS,rfl,nn (zAC rfl),fun t0 n0=>⟨nn (zAC rfl),fun l nl=>?_⟩⟩
 have g0:=Za n0 (.tup [.int 0,.int 0])
 have g1:=Za nl (.lst [.ref t0])
 have g:=g0.trans g1
 have et:=g1 _ _ (ZP (H:=H) (a:=t0) (o:=.tup [.int 0,.int 0]))
 have el:=ZP (H:=upd H t0 (.tup [.int 0,.int 0])) (a:=l) (o:=.lst [.ref t0])
 generalize upd (upd H t0 (.tup [.int 0,.int 0])) l (.lst [.ref t0])=H1 at g et el ⊢
 have R1:=R.same g
 refine ⟨X.S,X.d,lk,l,c,X.kvs,ls,[.ref t0],[(.int 0,.int 0)],rfl,R1.sh,by rw [R.klen];exact l9,el,.cons (.tup et (.cons (.int 0) (.cons (.int 0) .nil))) .nil,Bf,fun H2 x th tg ab nx nth nab abth fr sh2 W2 _ htg=>?_⟩
 have nv:YA X.kvs (Sum.inl (c:Int))=none:=R.none (by unfold inT;exact decide_eq_false (by have:=R.le;omega))
 obtain ⟨a,vlo,vhi,ea,htg',_,_⟩:=htg
 cases ea
 obtain ⟨dx2,hS2⟩:=sh2.self
 have xS:x≠X.S:=(ZY (g _ _ hS) nx).symm
 have ev:YA (Yo X.kvs (Sum.inl (c:Int)) (.ref x)) (Sum.inl (c:Int))=some (.ref x):=by rw [Q5,if_pos rfl]
 refine ⟨_,rfl,X.S,dx2,_,rfl,hS2,rfl,_,rfl,X.S,X.d,lk,c+1,Yo X.kvs (Sum.inl (c:Int)) (.ref x),ls,(c:Int),x,.ref th,tg,ab,rfl,⟨⟨sh2,ev,W2⟩,_,htg'⟩,xS,fun H3 fr3 hd3=>?_⟩
 rw [GD nv] at hd3
 obtain ⟨dt,hx2⟩:=W2.self
 have hlk2:=sh2.looks
 have fr03:∀ b o,b≠X.S->b≠X.d->H b=some o->H3 b=some o:=fun b o n1 n2 e=>fr3 b o (ZY (g _ _ e) nx) n2 (fr b o n1 n2 (g b o e))
 have hS3:=fr3 _ _ (Ne.symm xS) (ZR hS2 sh2.kept (by intro z;cases z)) hS2
 have hlk3:=fr3 _ _ (ZR hlk2 hx2 (by intro z;cases z)) (ZR hlk2 sh2.kept (by intro z;cases z)) hlk2
 have R3:Z4 CSh CTw H3 X lk (c+1) ls:=R.frame ⟨⟨dx2,hS3⟩,hd3,hlk3⟩ (fun b o n1 n2 _ e=>fr03 b o n1 n2 e) (fun i hi=>(R.own i hi).2) (by have:=R.le;omega)
 have pS:p≠X.S:=ZR hp hS (by intro z;cases z)
 have pd:p≠X.d:=ZR hp hd (by intro z;cases z)
 have W3:ZH H3 p:=MV W fun o e=>fr03 _ _ pS pd e
 have hN:¬ UZ X lk p:=by
  rintro (z | z | z)
  ·exact pS z
  ·exact pd z
  ·exact plk z
 have own3:∀ i:Nat,i<X.ts.length->(X.as.getD i .d).x≠p/\(X.as.getD i .d).ab≠p/\(X.as.getD i .d).th≠p:=fun i hi=>by
  obtain ⟨dy,hy⟩:=(R.tw i hi).tw.self
  exact ⟨ZR hy hp (by intro z;cases z),own i hi⟩
 refine ⟨_,rfl,1,rfl,_,rfl,_,_,rfl,rfl,_,rfl,p,1000,rfl,W3,Y4 (by decide) (by decide),fun r H4 r0 r1 W4 s4=>⟨_,_,rfl,rfl,nn (zAC rfl),fun q nq=>?_⟩⟩
 have g5:=Za nq (.lst [.int (c:Int),.int (-1),.int ((c:Int)+1+r)])
 have eq:=ZP (H:=H4) (a:=q) (o:=.lst [.int (c:Int),.int (-1),.int ((c:Int)+1+r)])
 have qp:q≠p:=Wp W4 nq
 generalize upd H4 q (.lst [.int (c:Int),.int (-1),.int ((c:Int)+1+r)])=H5 at g5 eq ⊢
 refine ⟨_,rfl,p,3,rfl,W4.same g5,Y4 (by decide) (by decide),fun j H6 j0 j1 W6 s6=>?_⟩
 have eq6:=s6 _ _ eq qp
 obtain ⟨v,av,mv⟩:=UK (xs:=[V.int (c:Int),.int (-1),.int ((c:Int)+1+r)]) j0 j1
 have s36:ZE p H3 H6:=(s4.trans (ZE.of g5)).trans s6
 have R6:=R3.but s36 hN own3 (s36.tupsW W3)
 have fin:∀ z:Int,inT X.ts z=false->Q (.int z) H6:=fun z hz=>k H6 z (fun b o n0 n1 n2 e=>s36 b o (fr03 b o n1 n2 e) n0) W6 R6 hz
 have lc:=R.le
 refine .inl ⟨q,_,_,v,rfl,rfl,ZM.of eq6,av,?_⟩
 simp only [zAd,zBV,or_false] at mv
 rcases mv with rfl | rfl | rfl
 ·exact fin _ (by unfold inT;exact decide_eq_false (by omega))
 ·exact fin _ (by unfold inT;exact decide_eq_false (by omega))
 ·exact fin _ (by unfold inT;exact decide_eq_false (by omega))
end
end Tw
namespace L2
open PySem PySem.Spec PyProof.Rows
section
variable {σ:St} {H:Hp} {ix:List Nat} {te:TE} {Q:VK} {K:zAA}
theorem NX {J:It} {n:Nat} {tt:TT} (item:Nat->V->Prop) (keep:Nat->Bool) (Pv:Addr->Nat->List V->Hp->Prop) (hn:n<sizeLine)
  (hgo:∀ D i ys H,i<n->Pv D i ys H->J.go i H) (hy:∀ D i ys H x H',i<n->Pv D i ys H->J.yld i H x H'->H'=H/\item i x) (hstop:∀ D ys H,Pv D n ys H->J.stop n H)
  (h0:∀ D,H D=none->Pv D 0 [] (upd H D (.lst [])))
  (test:∀ D i ys H x,H D=some (.lst ys)->i<n->item i x->Pv D i ys H->∀ R:Bool->Hp->Prop,(∀ H2,H2 D=some (.lst ys)->Pv D i ys H2->R (keep i) H2)->tt (QQ σ ix x) H R)
  (elt:∀ D i ys H x,H D=some (.lst ys)->i<n->item i x->keep i=true->Pv D i ys H->∀ R:VK,(∀ y H3,H3 D=some (.lst ys)->Pv D (i+1) (ys++[y]) (upd H3 D (.lst (ys++[y])))->R y H3)->te (QQ σ ix x) H R)
  (no:∀ D i ys H,H D=some (.lst ys)->i<n->keep i=false->Pv D i ys H->Pv D (i+1) ys H)
  (fin:∀ D ys H,H D=some (.lst ys)->Pv D n ys H->Q (.ref D) H):WB J σ ix tt te H Q:=by
 intro D hD
 refine ⟨fun i m H=>m=n - i/\i<=n/\∃ ys,H D=some (.lst ys)/\ys.length<=i/\Pv D i ys H,⟨n,rfl,zAe _,[],ZP,zAH _,h0 D hD⟩,?_⟩
 rintro i m H ⟨rfl,hi,ys,e,hl,p⟩
 by_cases hlt:i<n
 ·refine .inr ⟨hgo D i ys H hlt p,fun x H' y=>?_⟩
  obtain ⟨rfl,it⟩:=hy D i ys H x H' hlt p y
  refine test D i ys _ x e hlt it p _ fun H2 e2 p2=>?_
  cases hk:keep i with
  | true=>
   rw [if_pos rfl]
   refine elt D i ys H2 x e2 hlt it hk p2 _ fun y H3 e3 p3=>?_
   exact ⟨ys,n - (i+1),e3,by omega,by omega,rfl,hlt,ys++[y],ZP,by rw [zAL,zBw];omega,p3⟩
  | false=>
   rw [if_neg zAF]
   exact ⟨n - (i+1),by omega,rfl,hlt,ys,e2,Nat.le_succ_of_le hl,no D i ys H2 e2 hlt hk p2⟩
 ·have e':i=n:=by omega
  subst e'
  exact .inl ⟨hstop D ys H p,fin D ys H e p⟩
end
end L2
namespace Tw
open PySem PySem.Spec L2 PyProof.Rows
section
variable {P:Program} {w:World} {K:zAA} {mg:Str->Option Value} {base:Heap} {f:Addr} {fd:FuncData} {CSh CTw CS CT CH:Addr}
def Oi (rs:List KT):Prop:=rs.Pairwise fun a b=>b.lt a=false
theorem Jk {rs:List KT} (h:Oi rs) {i j:Nat} {a b:KT} (hij:i<=j) (ha:rs[i]? = some a) (hb:rs[j]? = some b):b.lt a=false:=by
 obtain ⟨hi,rfl⟩:=zAO.mp ha
 obtain ⟨hj,rfl⟩:=zAO.mp hb
 rcases zAj i j with c | c
 ·exact zC5.mp h i j hi hj c
 ·have:i=j:=by omega
  subst this
  exact UW _
def UV (ts:List KT) (t:KT):Nat:=(ts.filter fun x=>x.lt t).length
theorem EV {ts:List KT} {t:KT} {m:Nat} (hm:m<=ts.length) (h1:∀ i a,i<m->ts[i]? = some a->a.lt t=true) (h2:∀ i a,m<=i->ts[i]? = some a->a.lt t=false):UV ts t=m:=by
 unfold UV
 have e:ts=ts.take m++ts.drop m:=(zBu m ts).symm
 rw [e,zBL,zAL]
 have a1:(ts.take m).filter (fun x=>x.lt t)=ts.take m:=zCY.mpr fun a ha=>by
  obtain ⟨i,hi⟩:=zBe ha
  have hlt:i<m:=by
   have:=(zAO.mp hi).1
   rw [zBk] at this
   omega
  rw [List.getElem?_take,if_pos hlt] at hi
  exact h1 i a hlt hi
 have a2:(ts.drop m).filter (fun x=>x.lt t)=[]:=List.filter_eq_nil_iff.mpr fun a ha=>by
  obtain ⟨j,hj⟩:=zBe ha
  rw [List.getElem?_drop] at hj
  rw [h2 (m+j) a (Nat.le_add_right _ _) hj]
  exact zAF
 rw [a1,a2,zBk]
 simp
 omega
def On (K:zAA):Sp:=fun vs H Q _=>∃ (l:Addr) (us:List V) (ts:List KT) (v:V) (t:KT),vs=[.ref l,v]/\ZM K H l us/\KeysAt H ts us/\(∀ t∈ts,t.fits 3=true)/\us.length<=100/\Oi ts/\ZD H t v/\t.fits 3=true /\
 ∀ H',ZA H H'->Q (.int (UV ts t:Nat)) H'
abbrev Bh:List Str:=["keys","key","low","high","middle"]
theorem WM:ZC Bh ["keys","key"] (Zf Oa):=⟨rfl,rfl,rfl,by decide +kernel,rfl,by decide +kernel,by decide +kernel⟩
theorem Cu (F:Zk K "place_in" "place_in" Oa f fd) (T:YG mg) (DA:ZB P w K mg base 7 "ahead" ["one","other"] U6):ZK P w K mg base ZV 8 f fd ["keys","key"] (On K):=by
 refine F.ok WM (fun vs H Q E h=>(by obtain ⟨_,_,_,_,_,rfl,_⟩:=h;rfl)) (fun cdv A outer s H vs Q E hr h=>?_)
 obtain ⟨l,us,ts,v,t,rfl,hl,hk,hf,h100,ha,hv,ht,q⟩:=h
 have nd:=WM.nd
 have hlen:=hk.length
 refine ⟨_,ZS (Zm (i:=2) nd rfl (Or.inl rfl) ZO)
  (ZS (Zm (i:=3) nd rfl (Or.inl rfl) (Zw XH rfl T.len XA (ZI (pv 0) ZG)))
  (ZS (UR PassesOwn.never (Yn Ug (pv 2) (pv 3) (Z2 _))
   (ZS (Zm (i:=4) nd rfl (Or.inl rfl) (Zs OB (Zs Xg (pv 2) (pv 3)) ZO))
   (ZW (Z5 (Yu (Zg DA hr (ZI (Zo (r:=YB K) YH (pv 0) (pv 4) (fun _ _=>rfl)) (ZI (pv 1) ZG))))
    (ZW (Zm (i:=2) nd rfl (Or.inl rfl) (Zs Xg (pv 4) ZO))) (ZW (Zm (i:=3) nd rfl (Or.inl rfl) (pv 4)))))))
  (ZW (Zi (pv 2))))),?_⟩
 refine ⟨_,rfl,l,us,rfl,.inl hl,?_⟩
 refine ⟨fun m σ H'=>∃ (lo hi:Nat) (x:Option V),σ=[some (.ref l),some v,some (.int (lo:Int)),some (.int (hi:Int)),x]/\ZA H H'/\lo<=hi/\hi<=ts.length/\m=hi - lo/\(∀ i a,i<lo->ts[i]? = some a->a.lt t=true)/\(∀ i a,hi<=i->ts[i]? = some a->a.lt t=false),
  ⟨_,0,us.length,none,rfl,ZA.refl H,zAe _,by omega,rfl,fun i a hi=>absurd hi (by omega),fun i a hi hg=>?_⟩,?_⟩
 ·have:=(zAO.mp hg).1
  omega
 rintro m σ H1 ⟨lo,hi,x,rfl,s1,h1,h2,rfl,g1,g2⟩
 refine ⟨_,rfl,_,rfl,_,_,rfl,rfl,_,rfl,?_⟩
 refine Xs (fun c=>?_) (fun c=>?_)
 ·have hlt:(lo:Int)<(hi:Int):=of_decide_eq_true c
  refine ⟨fun σ' H'=>∃ m',m'<hi - lo/\∃ (lo' hi':Nat) (x:Option V),σ'=[some (.ref l),some v,some (.int (lo':Int)),some (.int (hi':Int)),x]/\ZA H H'/\lo'<=hi'/\hi'<=ts.length/\m'=hi' - lo'/\(∀ i a,i<lo'->ts[i]? = some a->a.lt t=true)/\(∀ i a,hi'<=i->ts[i]? = some a->a.lt t=false),fun _ _ h=>h,?_⟩
  refine ⟨_,rfl,_,rfl,_,_,rfl,rfl,_,_,rfl,rfl,⟨by omega,by decide⟩,?_⟩
  obtain ⟨mid,em,hm1,hm2⟩:∃ mid:Nat,((lo:Int)+(hi:Int)) / 2=(mid:Int)/\lo<=mid/\mid<hi:=⟨((lo+hi) / 2:Nat),by omega,by omega,by omega⟩
  show Uy 4 (V.int (((lo:Int)+(hi:Int)) / 2)) _ _ _
  rw [em]
  have hml:mid<us.length:=by omega
  have hum:us[mid]? = some us[mid]:=by simp [hml]
  obtain ⟨tm,etm,ktm⟩:=hk.get hum
  refine ⟨_,rfl,_,rfl,.inl ⟨l,us,_,us[mid],rfl,rfl,s1.seq hl,XL hum,_,rfl,us[mid],v,tm,t,rfl,ktm.mono (ZA.tups s1) _ _,hv.mono (ZA.tups s1) _ _,hf tm (zAK etm),ht,fun H2 s2=>⟨_,rfl,?_⟩⟩⟩
  cases hc:tm.lt t with
  | true=>
   refine Zy ⟨_,rfl,_,_,rfl,rfl,hi - (mid+1),by omega,mid+1,hi,_,rfl,s1.trans s2,by omega,h2,rfl,fun i a hi' hg=>?_,g2⟩
   exact Cv (Jk ha (show i<=mid by omega) hg etm) hc
  | false=>
   refine Zp ⟨_,rfl,mid - lo,by omega,lo,mid,_,rfl,s1.trans s2,hm1,by omega,rfl,g1,fun i a hi' hg=>?_⟩
   exact le_trans' hc (Jk ha hi' etm hg)
 ·have hge:¬ (lo:Int)<(hi:Int):=fun z=>c (decide_eq_true z)
  refine ⟨_,rfl,?_⟩
  rw [<-EV (ts:=ts) (t:=t) (m:=lo) (by omega) g1 fun i a hi'=>g2 i a (by omega)]
  exact q H1 s1
end
def Yc (ts:List ZU) (k:KT) (i:Nat):Nat:=if (gd ts i).h=0 then UV ((gd ts i).rows.map (·.1)) k else ((gd ts i).bs.filter fun b=>!k.lt (Z7 (gd ts b)).lo).length - 1
def Wn (ts:List ZU) (k:KT) (i:Nat):Nat:=(gd ts i).bs.getD (Yc ts k i) 0
def VP (ts:List ZU) (k:KT):Nat->Nat->List (Nat×Nat)
 | 0,i=>[(i,Yc ts k i)]
 | n+1,i=>(i,Yc ts k i) :: VP ts k n (Wn ts k i)
theorem P4 (ts:List ZU) (k:KT):∀ n i,(VP ts k n i).length=n+1
 | 0,_=>rfl
 | n+1,i=>by rw [VP,zAX,P4]
theorem M4 {gt:List KT} {ts:List ZU} (hw:WF gt ts) {i:Nat} (hi:i<ts.length) (h0:(gd ts i).h≠0) (k:KT):Yc ts k i<(gd ts i).bs.length:=by
 have:=(hw i _ (Y1 hi)).stem h0
 unfold Yc
 rw [if_neg h0]
 have l:=zCL (fun b=>!k.lt (Z7 (gd ts b)).lo) (gd ts i).bs
 omega
theorem M7 {gt:List KT} {ts:List ZU} (hw:WF gt ts) {i:Nat} (hi:i<ts.length) (h0:(gd ts i).h≠0) (k:KT):Wn ts k i<i/\(gd ts (Wn ts k i)).h+1=(gd ts i).h/\(gd ts i).bs[Yc ts k i]? = some (Wn ts k i):=by
 have hl:=M4 hw hi h0 k
 have hs:=(hw i _ (Y1 hi)).stem h0
 have e:(gd ts i).bs[Yc ts k i]? = some (Wn ts k i):=by
  unfold Wn
  rw [zAB,zAE hl]
  rfl
 have:=hs.2.2.1 _ (zAK e)
 exact ⟨this.1,this.2,e⟩
def Yf (N:Addr->Prop) (H:Hp) (t:ZU) (u:V):Prop:=∃ tp l us,u=.ref tp/\H tp=some (.tup [.str (kindOf t),.ref l])/\H l=some (.lst us)/\¬ N l/\(t.h=0->KeysAt H (YF t.rows) us)/\(t.h≠0->us=iN t.bs)
theorem Yf.off {N:Addr->Prop} {H H':Hp} {t:ZU} {u:V} (h:Yf N H t u) (fr:∀ b o,¬ N b->H b=some o->H' b=some o) (m:Zu H H'):Yf N H' t u:=by
 obtain ⟨tp,l,us,e,h1,h2,n,h3,h4⟩:=h
 exact ⟨tp,l,us,e,m _ _ h1,fr _ _ n h2,n,fun z=>(h3 z).mono m _ _,h4⟩
theorem Jj {t:ZU} (h:t.h=0):kindOf t = "leaf" :=if_pos h
theorem JW {t:ZU} (h:t.h≠0):kindOf t = "stem" :=if_neg h
theorem KD (t:ZU):decide (V.str (kindOf t)=V.str "leaf")=decide (t.h=0):=by
 by_cases h:t.h=0
 ·rw [Jj h,decide_eq_true rfl,decide_eq_true h]
 ·rw [JW h,decide_eq_false h]
  decide +kernel
theorem BG {gt:List KT} {ts:List ZU} (hw:WF gt ts) {i:Nat} (hi:i<ts.length):Oi ((gd ts i).rows.map (·.1)):=(hw i _ (Y1 hi)).up.imp fun {a b} q=>QM _ _ q
section
variable {P:Program} {w:World} {K:zAA} {mg:Str->Option Value} {base:Heap} {f:Addr} {fd:FuncData} {CSh CTw:Addr}
def Qv:Sp:=fun vs H Q _=>∃ (N:Addr->Prop) (t:ZU) (u:V),vs=[u]/\Yf N H t u/\Q (.bl (decide (t.h=0))) H
theorem HM:ZC ["found"] ["found"] (Zf Mq):=⟨rfl,rfl,rfl,by decide +kernel,rfl,by decide +kernel,by decide +kernel⟩
theorem GA (F:Zk K "is_leaf" "is_leaf" Mq f fd):ZK P w K mg base ZV 1 f fd ["found"] Qv:=by
 refine F.ok HM (fun vs H Q E h=>(by obtain ⟨_,_,_,rfl,_⟩:=h;rfl)) (fun cdv A outer s H vs Q E hr h=>?_)
 obtain ⟨lk,t,u,rfl,⟨tp,l,us,rfl,h1,_⟩,k⟩:=h
 refine ⟨_,ZW (Zi (Xm X2 (Zo (r:=Xc K) Zl (pv 0) ZO (fun _ _=>rfl)) Y3 (Z2 _))),?_⟩
 refine ⟨_,rfl,tp,_,_,.str (kindOf t),rfl,rfl,Zj.of h1,rfl,rfl,?_⟩
 rw [KD]
 exact k
def Nj:Sp:=fun vs H Q _=>∃ (N:Addr->Prop) (t:ZU) (u:V) (n:Nat),vs=[u,.int (n:Int)]/\Yf N H t u/\(t.h=0->Q .non H)/\(t.h≠0->∃ b,t.bs[n]? = some b/\Q (.int (b:Nat)) H)
theorem AJ:ZC ["found","at"] ["found","at"] (Zf NY):=⟨rfl,rfl,rfl,by decide +kernel,rfl,by decide +kernel,by decide +kernel⟩
theorem CG (F:Zk K "branch_at" "branch_at" NY f fd) (DL:ZB P w K mg base 1 "is_leaf" ["found"] Qv):ZK P w K mg base ZV 2 f fd ["found","at"] Nj:=by
 refine F.ok AJ (fun vs H Q E h=>(by obtain ⟨_,_,_,_,rfl,_⟩:=h;rfl)) (fun cdv A outer s H vs Q E hr h=>?_)
 obtain ⟨lk,t,u,n,rfl,hf,k0,k1⟩:=h
 refine ⟨_,ZS (Z5 (Yu (Zg DL hr (ZI (pv 0) ZG))) (ZW (Zi U5)) Z8) (ZW (Zi (Zo (r:=YB K) YH (Zo (r:=Xc K) Zl (pv 0) ZO (fun _ _=>rfl)) (pv 1) (fun _ _=>rfl)))),?_⟩
 refine ⟨_,rfl,lk,t,u,rfl,hf,_,rfl,?_⟩
 obtain ⟨tp,l,us,rfl,h1,h2,n1,h3,h4⟩:=hf
 by_cases h:t.h=0
 ·rw [decide_eq_true h]
  exact Zy (k0 h)
 ·rw [decide_eq_false h]
  obtain ⟨b,eb,q⟩:=k1 h
  have eu:=h4 h
  subst eu
  refine Zp ⟨_,rfl,tp,_,_,.ref l,rfl,rfl,Zj.of h1,rfl,_,rfl,.inl ⟨l,_,_,.int (b:Nat),rfl,rfl,ZM.of h2,XL (by unfold iN;rw [zAN,eb];rfl),q⟩⟩
def O5 (gt:List KT) (CSh CTw:Addr):Sp:=fun vs H Q _=>∃ (X:XS) (lk:Addr) (c:Nat) (ls:List V) (i:Nat) (u v:V) (k:KT) (N:Addr->Prop),vs=[.ref X.S,u,v]/\Z4 CSh CTw H X lk c ls/\WF gt X.ts/\i<X.ts.length/\Yf N H (gd X.ts i) u/\ZD H k v/\k.fits 3=true/\∀ H',ZA H H'->Q (.int (Yc X.ts k i:Nat)) H'
theorem Xx:ZC ["shelf","found","key","begun"] ["shelf","found","key"] (Zf ME):=⟨rfl,rfl,rfl,by decide +kernel,rfl,by decide +kernel,by decide +kernel⟩
theorem QJ {α:Type} (p:α->Bool) {l:List α} {i:Nat} {b:α} (e:l[i]? = some b):(l.take (i+1)).filter p=(l.take i).filter p++(if p b=true then [b] else []):=by
 rw [zAm,e,Option.toList_some,zBL]
 congr 1
 rw [zBl]
 cases p b <;> rfl
theorem BL {gt:List KT} (F:Zk K "place_within" "place_within" ME f fd) (T:YG mg) (L:Yi K mg CSh CTw) (DL:ZB P w K mg base 1 "is_leaf" ["found"] Qv) (DP:ZB P w K mg base 8 "place_in" ["keys","key"] (On K)) (DA:ZB P w K mg base 7 "ahead" ["one","other"] U6) (DB:ZJ P w K mg base ZV 2 CSh "label" ["self","number"] (K1 CSh CTw)) :
  ZK P w K mg base ZV 9 f fd ["shelf","found","key"] (O5 gt CSh CTw):=by
 refine F.ok Xx (fun vs H Q E h=>(by obtain ⟨_,_,_,_,_,_,_,_,_,rfl,_⟩:=h;rfl)) (fun cdv A outer s H vs Q E hr h=>?_)
 obtain ⟨X,lk,c,ls,i,u,v,k,N,rfl,R,hw,hi,hf,hv,fk,q⟩:=h
 have nd:=Xx.nd
 have hr1:=hr.mono (show 1<=8 by decide)
 have hr2:=hr.mono (show 2<=8 by decide)
 have hr7:=hr.mono (show 7<=8 by decide)
 obtain ⟨t1,m1⟩:=T.least
 refine ⟨_,ZS (Z5 (Yu (Zg DL hr1 (ZI (pv 1) ZG))) (ZW (Zi (Zg DP hr (ZI (Xr [] [] rfl (WJ (Zo (r:=Xc K) Zl (pv 1) ZO (fun _ _=>rfl))) (fun _ _ _ _ _=>X6) (fun _ _ _ _ _=>Zo (r:=Xc K) Zl (pv 0) ZO (fun _ _=>rfl)) trivial) (ZI (pv 2) ZG))))) Z8)
  (ZS (Ii (i:=3) [2,0] ["key","shelf"] nd rfl rfl rfl (WJ (Zo (r:=Xc K) Zl (pv 1) ZO (fun _ _=>rfl))) (fun _ _ _ _ _=>O6 (WW (Yu (Zg DA hr7 (ZI (pv 1) (ZI (Zo (r:=Xc K) Zl (Y0 (E:=E0) (pv 2) L.cS DB hr2 Yr (ZI (pv 0) ZG)) (Xa (v:=.int 1) rfl m1 ⟨_,rfl⟩) (fun _ _=>rfl)) ZG)))))) (fun _ _ _ _ _=>pv 0) ⟨rfl,.inl rfl,rfl,rfl,.inl rfl,rfl,trivial⟩)
  (ZW (Zi (Zw (O0 rfl) rfl T.max Pb (ZI (Zs Wh (Zw XH rfl T.len XA (ZI (pv 3) ZG)) ZO) (ZI ZO ZG)))))),?_⟩
 refine ⟨_,rfl,N,gd X.ts i,u,rfl,hf,_,rfl,?_⟩
 obtain ⟨tp,l,us,rfl,h1,h2,n1,h3,h4⟩:=hf
 have ok:=hw i _ (Y1 hi)
 by_cases h:(gd X.ts i).h=0
 ·rw [decide_eq_true h]
  have kr:=h3 h
  have lr:us.length=(gd X.ts i).rows.length:=by have:=kr.length;rw [<-this];exact zAD _
  have l4:=(ok.leaf h).2
  refine Zy ⟨_,rfl,tp,_,_,.ref l,rfl,rfl,Zj.of h1,rfl,l,rfl,⟨us,ZM.of h2⟩,X7 (n:=us.length) (fun i z=>us[i]? = some z) (fun D j ys H3=>ZA H H3/\H D=none/\KeysAt H (((gd X.ts i).rows.map (·.1)).take j) ys) (Yp (by omega))
   (fun D j ys H3 hj hP=>⟨us,us[j],ZM.of (hP.1 _ _ h2),by simp [hj]⟩) (fun D j ys H3 z H4 hj hP hy=>⟨hy.1,hy.2 us (ZM.of (hP.1 _ _ h2))⟩) (fun D ys H3 hP=>⟨us,ZM.of (hP.1 _ _ h2),zAH _⟩)
   (fun D hD=>⟨Za hD _,hD,.nil⟩) (fun D j ys H3 z eD hl' hj hz hP RR hRR=>?_) (fun D ys H3 eD hP=>?_)⟩
  ·obtain ⟨s3,nD,kys⟩:=hP
   obtain ⟨a,vk,vv,er,rfl,ea,k1,k2⟩:=UG kr hz
   refine ⟨_,rfl,a,_,_,vk,rfl,rfl,Zj.of (s3 _ _ ea),rfl,hRR _ H3 eD ⟨We s3 nD,nD,?_⟩⟩
   rw [zAm,zAN,er]
   exact kys.append (.cons k1 .nil)
  ·obtain ⟨s3,nD,kys⟩:=hP
   rw [zAU (by rw [zAD];omega)] at kys
   have lk':=kys.length
   rw [zAD] at lk'
   refine ⟨_,rfl,D,ys,_,v,k,rfl,ZM.of eD,kys.mono (ZA.tups s3) _ _,fun t ht=>?_,by omega,BG hw hi,hv.mono (ZA.tups s3) _ _,fk,fun H4 s4=>?_⟩
   ·obtain ⟨r,hr',rfl⟩:=zAf.mp ht
    exact (ok.inn r hr').1
   ·have e:Yc X.ts k i=UV ((gd X.ts i).rows.map (·.1)) k:=if_pos h
    rw [<-e]
    exact q H4 (s3.trans s4)
 ·rw [decide_eq_false h]
  have eu:=h4 h
  have ob:=ok.stem h
  have lu:us.length=(gd X.ts i).bs.length:=by rw [eu];exact zAD _
  refine Zp ⟨_,rfl,tp,_,_,.ref l,rfl,rfl,Zj.of h1,rfl,l,rfl,⟨us,ZM.of h2⟩,NX (n:=us.length) (fun i z=>us[i]? = some z) (fun j=>!k.lt (Z7 (gd X.ts ((gd X.ts i).bs.getD j 0))).lo) (fun D j ys H3=>ZA H H3/\H D=none/\ys.length=(((gd X.ts i).bs.take j).filter fun b=>!k.lt (Z7 (gd X.ts b)).lo).length) (Yp (by omega))
   (fun D j ys H3 hj hP=>⟨us,us[j],ZM.of (hP.1 _ _ h2),by simp [hj]⟩) (fun D j ys H3 z H4 hj hP hy=>⟨hy.1,hy.2 us (ZM.of (hP.1 _ _ h2))⟩) (fun D ys H3 hP=>⟨us,ZM.of (hP.1 _ _ h2),zAH _⟩)
   (fun D hD=>⟨Za hD _,hD,rfl⟩) (fun D j ys H3 z eD hj hz hP B hB=>?_) (fun D j ys H3 z eD hj hz hk hP B hB=>?_) (fun D j ys H3 eD hj hk hP=>?_) (fun D ys H3 eD hP=>?_)⟩
  ·obtain ⟨s3,nD,ly⟩:=hP
   rw [eu] at hz
   obtain ⟨b,eb,rfl⟩:=Nv hz
   have ebd:(gd X.ts i).bs.getD j 0=b:=by rw [zAB,eb];rfl
   have hb:=ob.2.2.1 b (zAK eb)
   have hbl:b<X.ts.length:=by omega
   have R3:=R.same s3
   obtain ⟨dx,hS⟩:=R3.sh.self
   obtain ⟨a,vlo,vhi,ea,ht,k1,k2⟩:=(R3.tw b hbl).tag
   cases ea
   have okb:=hw b _ (Y1 hbl)
   refine ⟨_,rfl,_,rfl,X.S,dx,_,rfl,hS,rfl,_,rfl,X,lk,c,ls,b,rfl,R3,hbl,_,_,_,vlo,rfl,rfl,Zj.of ht,rfl,v,vlo,k,(Z7 (gd X.ts b)).lo,rfl,hv.mono (ZA.tups s3) _ _,k1,fk,(Mz okb).1,fun H4 s4=>⟨_,rfl,?_⟩⟩
   have:=hB H4 (s4 _ _ eD) ⟨s3.trans s4,nD,ly⟩
   rw [ebd] at this
   exact this
  ·obtain ⟨s3,nD,ly⟩:=hP
   rw [eu] at hz
   obtain ⟨b,eb,rfl⟩:=Nv hz
   have ebd:(gd X.ts i).bs.getD j 0=b:=by rw [zAB,eb];rfl
   rw [ebd] at hk
   refine ⟨_,rfl,hB _ H3 eD ⟨We s3 nD,nD,?_⟩⟩
   rw [QJ _ eb,if_pos hk,zAL,zAL,ly]
   rfl
  ·obtain ⟨s3,nD,ly⟩:=hP
   have hj':j<(gd X.ts i).bs.length:=by omega
   have eb:(gd X.ts i).bs[j]? = some ((gd X.ts i).bs.getD j 0):=by rw [zAB,zAE hj'];rfl
   refine ⟨s3,nD,?_⟩
   rw [QJ _ eb,if_neg (by rw [hk];exact zAF),zAz]
   exact ly
  ·obtain ⟨s3,nD,ly⟩:=hP
   rw [zAU (by omega)] at ly
   refine ⟨_,rfl,D,ys,rfl,.inl (ZM.of eD),_,_,rfl,rfl,_,_,rfl,?_⟩
   have e:Yc X.ts k i=ys.length - 1:=by rw [ly];exact if_neg h
   have e2:(if (0:Int) > ((ys.length:Nat):Int) - 1 then (0:Int) else ((ys.length:Nat):Int) - 1)=((Yc X.ts k i:Nat):Int):=by
    rw [e]
    split <;> omega
   have:=q H3 s3
   rw [<-e2] at this
   exact this
end
end Tw
namespace L2
open PySem PySem.Spec PyProof.Rows
section
variable {P:Program} {w:World} {K:zAA} {mg:Str->Option Value} {base:Heap}
end
section
variable {M:Model} {A:Around} {E:Value->Shared->Prop} {s:Shared}
end
section
variable {X:Cx} {pins:List (Addr×Obj)} {σ:St} {H:Hp} {s:Shared} {E E1:XK}
end
section
variable {M:Model} {A:Around} {E:Value->Shared->Prop} {s:Shared} {B:Heap} {env:Env} {outer l:List Env} {L e:Addr} {cls:Value} {od:Option Addr} {Q:Unit->Shared->Prop}
end
section
variable {X:Cx} {pins:List (Addr×Obj)} {σ:St} {H:Hp} {s:Shared} {E E1:XK}
end
section
variable {X:Cx} {E:XK}
theorem Ei {x:Str} {C:Addr} {np cpos pos:Pos} (F:WG X E) (O:OwnCls x C [.type "ValueError",.type "Exception",.type "BaseException",.type "object"] "ValueError.__new__" X.mg X.base) (kp:zAp X.K (.ref C)=true) (mB:zAs X.K C (.type "BaseException")=some true)
  (ht:zA4 X.K (.ref C)=some (.type "type")) (hg:Gl X x) (hdb:(x==("__debug__" : Str))=false:=by decide) :
  PS X (.Raise (some (.Call (.Name x np) [] [] cpos)) none pos) (fun _ _ H=>E (.ref C) none H):=by
 intro pins s σ H D I h
 have hh:=I.ok.hd F.calm
 rw [arm_exec_Raise]
 refine wpAny_bind (wpAny_standAt ?_)
 refine Le hh mB ht (wpAny_bind (wpAny_mono ?_ (fun v s3 h3=>wpAny_bind (wpAny_standAt (wpAny_pure h3))) fun _ _ z=>z))
 have FB:=zCg
 obtain ⟨tl,N,nm,q,bs,hdct,sn,sub,ab,col,dd,k0,k1,k2,k3,k5,mN,hC,hN,hni,T⟩:=O.obj
 refine wpAny_Call_Name_kw (UA I hg O.bound ?_ hdb)
 refine zCS I.kIn kp ?_
 obtain ⟨hp,g,d,tk,os⟩:=s
 refine wpAny_call_exc_subU (rest:=[]) FB FB.hasB FB (T.keeps I.bk) (I.bk _ _ hC) (hN.keeps I.bk) hni (fun h' ea hm=>?_) (zAe _)
 obtain ⟨tt,e1,e2,e3⟩:=hm.there
 have J:=I.newx (C:=C) (ea:=ea) (h':=h') hm.keeps hm.new ⟨_,_,e1,rfl,rfl,rfl,rfl⟩
 have hn:H ea=none:=by
  cases z:H ea with
  | none=>rfl
  | some o=>
   obtain ⟨o',q'⟩:=I.hok.there (a:=ea) (by rw [z];exact fun y=>nomatch y)
   have:=hm.new
   rw [q'] at this
   cases this
 have new0:X.s₀.heap.get? ea=none:=by
  cases z:X.s₀.heap.get? ea with
  | none=>rfl
  | some o=>
   obtain ⟨o',q'⟩:=I.base.there ea o z (by rw [F.ex];simp)
   have:=hm.new
   rw [q'] at this
   cases this
 exact ⟨ea,none,rfl,J.kIn,(J.hok ea _ ZP).1,JR F (J.untrack hn) new0 hn (J.hok ea _ ZP).1 h⟩
end
end L2
namespace Tw
open PySem PySem.Spec L2 PyProof.Rows
section
variable {P:Program} {w:World} {K:zAA} {mg:Str->Option Value} {base:Heap} {f:Addr} {fd:FuncData} {CSh CTw CS CT CH:Addr}
def Wy (N:Addr->Prop) (H:Hp) (o:Option KT) (v:V):Prop:=match o with
 | some t=>ZD H t v/\t.fits 3=true
 | none=>∃ g:TG,Zh N H g v/\g.neat/\g.fits 3=false
theorem Wy.mono {N:Addr->Prop} {H H':Hp} {v:V} {o:Option KT} (h:Wy N H o v) (m:Ys N H H'):Wy N H' o v:=by
 cases o with
 | some t=>exact ⟨h.1.mono m.tup,h.2⟩
 | none=>
  obtain ⟨g,h1,h2,h3⟩:=h
  exact ⟨g,h1.mono m,h2,h3⟩
theorem Wy.tg {N:Addr->Prop} {H:Hp} {v:V} {o:Option KT} (h:Wy N H o v):∃ g:TG,Zh N H g v/\g.neat/\g.fits 3=o.isSome:=by
 cases o with
 | some t=>exact ⟨t.emb,M5 t v h.1,M8 t 3 h.2,by rw [Ot];exact h.2⟩
 | none=>exact h
structure Y2 (P:Program) (w:World) (K:zAA) (mg:Str->Option Value) (base:Heap) (k:Nat) (x:Str) (ps:List Str) (sp:Sp):Prop where
 ex:∃ f fd,ZK P w K mg base (XM P w) k f fd ps sp/\Zq K fd ps []/\zAp K (.ref f)=true/\mg x=some (.ref f)
theorem Zd.ofD {P:Program} {w:World} {K:zAA} {mg:Str->Option Value} {base:Heap} {x:Str} {st:Stmt} {ps:List Str} {k:Nat} {sp:Sp} (L:Zd K mg x st ps) (h:∀ f fd,Zk K x x st f fd->ZK P w K mg base (XM P w) k f fd ps sp):Y2 P w K mg base k x ps sp:=by
 obtain ⟨f,fd,F,b,m⟩:=L.ex
 exact ⟨f,fd,h f fd F,b,F.kp,m⟩
theorem O9 {X:Cx} {E:XK} {k:Nat} {x:Str} {ps:List Str} {sp:Sp} {e:Expr} {es:List Expr} {t:TA} {p pos:Pos} (F:WG X E) (D:Y2 X.prog X.w X.K X.mg X.base k x ps sp) (hr:ZZ k X.A) (ha:PA X (e :: es) t) (hg:Gl X x:=by rfl)
  (hdb:(x==("__debug__" : Str))=false:=by decide) (he:starEach (e :: es) X.env=(false,eval e X.env) :: starEach es X.env:=by rfl) (hpl:(backTo pos (starEach es X.env)).any (·.1)=false:=by rfl) :
  PE X (.Call (.Name x p) (e :: es) [] pos) (PR sp [] E t):=by
 obtain ⟨f,fd,FF,b,kp,m⟩:=D.ex
 exact Nr FF hr hg m kp b .nil (Mv F fun _ _ _ h=>h) ha hdb he hpl
abbrev UM:List Value:=[.type "ValueError",.type "Exception",.type "BaseException",.type "object"]
end
structure Lq (K:zAA) (mg:Str->Option Value) (CK:Addr):Prop where
 at_:mg "NoKey" = some (.ref CK)
 exk:zCV K CK UM "ValueError.__new__" = true
 kp:zAp K (.ref CK)=true
 mB:zAs K CK (.type "BaseException")=some true
 ty:zA4 K (.ref CK)=some (.type "type")
def YM:Option Int->V
 | none=>.non
 | some x=>.int x
def Yt (ts:List ZU) (k:KT):Option Nat->List (Nat×Nat)
 | none=>[]
 | some i=>VP ts k (gd ts i).h i
def Z9:Option Nat->Option Int
 | none=>none
 | some i=>some (i:Int)
def YW (N:Addr->Prop) (H:Hp) (ts:List ZU) (p:Nat×Nat) (u:V):Prop:=∃ t fv,u=.ref t/\H t=some (.tup [.int (p.1:Int),.int (p.2:Int),fv])/\Yf N H (gd ts p.1) fv
theorem YW.off {N:Addr->Prop} {H H':Hp} {ts:List ZU} {p:Nat×Nat} {u:V} (h:YW N H ts p u) (fr:∀ b o,¬ N b->H b=some o->H' b=some o) (m:Zu H H'):YW N H' ts p u:=by
 obtain ⟨t,fv,e,h1,h2⟩:=h
 exact ⟨t,fv,e,m _ _ h1,Yf.off h2 fr m⟩
def WV (ts:List ZU):Option Int->Bool
 | none=>true
 | some x=>inT ts x
section
variable {P:Program} {w:World} {K:zAA} {mg:Str->Option Value} {base:Heap} {f:Addr} {fd:FuncData} {CSh CTw CT CK:Addr}
def Qx (CK:Addr):Sp:=fun vs H Q E=>∃ (v:V) (N:Addr->Prop) (o:Option KT),vs=[v]/\Wy N H o v/\(o.isSome=true->∀ H',ZA H H'->Q v H')/\(o=none->∀ H',ZA H H'->E (.ref CK) none H')
theorem Fn (F:Zk K "checked" "checked" Qz f fd) (kin:K.In base) (L:Lq K mg CK) (DI:ZB P w K mg base 6 "is_key" ["thing"] Q0):ZK P w K mg base (XM P w) 7 f fd ["thing"] (Qx CK):=by
 refine F.okD Jr (fun vs H Q E h=>(by obtain ⟨_,_,_,rfl,_⟩:=h;rfl)) (fun cdv A outer s H vs Q E hr h=>?_)
 obtain ⟨v,N,o,rfl,hv,k1,k2⟩:=h
 refine ⟨_,ZS (Z5 (WW (Yu (Zg DI hr (ZI (pv 0) ZG)))) (ZW (Ei UT (Bb kin L.at_ L.exk) L.kp L.mB L.ty rfl)) Z8) (ZW (Zi (pv 0))),?_⟩
 obtain ⟨g,tg,ng,fg⟩:=hv.tg
 refine ⟨_,rfl,v,g,N,rfl,tg,ng,fun H1 s1=>⟨_,rfl,?_⟩⟩
 rw [fg]
 cases o with
 | some t=>exact Zp ⟨_,rfl,k1 rfl H1 s1⟩
 | none=>exact Zy (k2 rfl H1 s1)
def MI (CSh CTw CT CK:Addr):Sp:=fun vs H Q E=>∃ (X:XS) (lk:Addr) (c:Nat) (ls:List V) (r:Option Int) (v:V) (N:Addr->Prop) (o:Option KT),vs=[.ref X.S,YM r,v]/\Z4 CSh CTw H X lk c ls/\Wy N H o v /\
 (∀ x,r=some x->inT X.ts x=false->Up CT x E H)/\(WV X.ts r=true->o=none->∀ H',ZA H H'->E (.ref CK) none H')/\(WV X.ts r=true->o.isSome=true->∀ H',ZA H H'->Q .non H')
theorem Ep:ZC ["shelf","root","key"] ["shelf","root","key"] (Zf OI):=⟨rfl,rfl,rfl,by decide +kernel,rfl,by decide +kernel,by decide +kernel⟩
theorem FH (F:Zk K "check_asked" "check_asked" OI f fd) (L:Yi K mg CSh CTw) (DL:ZJ P w K mg base (XM P w) 4 CSh "label" ["self","number"] (NI CSh CTw CT)) (DC:Y2 P w K mg base 7 "checked" ["thing"] (Qx CK)):ZK P w K mg base (XM P w) 8 f fd ["shelf","root","key"] (MI CSh CTw CT CK):=by
 refine F.okD Ep (fun vs H Q E h=>(by obtain ⟨_,_,_,_,_,_,_,_,rfl,_⟩:=h;rfl)) (fun cdv A outer s H vs Q E hr h=>?_)
 obtain ⟨X,lk,c,ls,r,v,N,o,rfl,R,hv,k1,k2,k3⟩:=h
 have hr4:=hr.mono (show 4<=7 by decide)
 refine ⟨_,ZS (Z5 (UY (P9 (pv 1))) (ZW (XX (Y0 (E:=E) (pv 0) L.cS DL hr4 (Mv UT fun _ _ _ h=>h) (ZI (pv 1) ZG)))) Z8)
  (ZW (XX (O9 UT DC hr (ZI (pv 2) ZG)))),?_⟩
 have last:WV X.ts r=true->Qx CK ([v]++[]) H (fun _ H1=>Q .non H1) E:=fun g=>⟨v,N,o,rfl,hv,fun z H' s'=>k3 g z H' s',fun z H' s'=>k2 g z H' s'⟩
 cases r with
 | none=>
  refine ⟨_,rfl,_,rfl,Zp ⟨_,rfl,last rfl⟩⟩
 | some x=>
  refine ⟨_,rfl,_,rfl,Zy ?_⟩
  obtain ⟨dx,hS⟩:=R.sh.self
  refine ⟨_,rfl,X.S,dx,_,rfl,hS,rfl,_,rfl,X.S,X.d,lk,c,X.kvs,ls,x,rfl,R.sh,fun tw hx=>?_,fun hx=>?_⟩
  ·have hi:inT X.ts x=true:=by
    cases z:inT X.ts x with
    | true=>rfl
    | false=>rw [R.none z] at hx;cases hx
   obtain ⟨i,rfl,hi'⟩:=Ow hi
   rw [R.val i hi'] at hx
   cases hx
   exact ⟨_,_,_,_,_,_,rfl,(R.tw i hi').tw,_,rfl,last hi⟩
  ·have hi:inT X.ts x=false:=by
    cases z:inT X.ts x with
    | false=>rfl
    | true=>
     obtain ⟨i,rfl,hi'⟩:=Ow z
     rw [R.val i hi'] at hx
     cases hx
   exact k1 x rfl hi
structure UN (gt:List KT) (CSh CTw CT CK:Addr) (H:Hp) (X:XS) (lk:Addr) (c:Nat) (ls:List V) (r:Option Int) (v:V) (o:Option KT) (E:XK):Prop where
 sh:Z4 CSh CTw H X lk c ls
 wf:WF gt X.ts
 low:∀ i,i<X.ts.length->(gd X.ts i).h<=60
 few:ls.length<=500
 key:∃ N,Wy N H o v
 no1:∀ x,r=some x->inT X.ts x=false->Up CT x E H
 no2:WV X.ts r=true->o=none->∀ H',ZA H H'->E (.ref CK) none H'
def X9 (p:List (Nat×Nat)):List V:=p.map fun s=>V.int (s.1:Int)
def OD (gt:List KT) (CSh CTw CT CK:Addr):Sp:=fun vs H Q E=>∃ (X:XS) (lk:Addr) (c:Nat) (ls:List V) (r:Option Int) (v:V) (o:Option KT),vs=[.ref X.S,YM r,v]/\UN gt CSh CTw CT CK H X lk c ls r v o E /\
 ∀ (k:KT) (rn:Option Nat),o=some k->r=Z9 rn->(∀ i,rn=some i->i<X.ts.length)->∀ (H':Hp) (D:Addr) (us:List V),(∀ b o,b≠lk->H b=some o->H' b=some o)->Z4 CSh CTw H' X lk c (ls++X9 (Yt X.ts k rn))->H D=none->D≠lk->H' D=some (.lst us)->Paired (YW (fun b=>b=lk\/b=D) H' X.ts) (Yt X.ts k rn) us->Q (.ref D) H'
abbrev FM:List Str:=["shelf","root","key","steps","number","found","at"]
theorem WK:ZC FM ["shelf","root","key"] (Zf MX):=⟨rfl,rfl,rfl,by decide +kernel,rfl,by decide +kernel,by decide +kernel⟩
theorem Ex {ts:List ZU} {r:Option Int} (h:WV ts r=true):∃ rn,r=Z9 rn/\∀ i,rn=some i->i<ts.length:=by
 cases r with
 | none=>exact ⟨none,rfl,fun i h=>by cases h⟩
 | some x=>
  obtain ⟨i,rfl,hi⟩:=Ow h
  exact ⟨some i,rfl,fun j h=>by cases h;exact hi⟩
theorem FE {gt:List KT} (F:Zk K "steps_to" "steps_to" MX f fd) (L:Yi K mg CSh CTw) (DC:Y2 P w K mg base 8 "check_asked" ["shelf","root","key"] (MI CSh CTw CT CK)) (DL:ZJ P w K mg base ZV 2 CSh "look" ["self","number"] (Ol CSh CTw)) (DP:ZB P w K mg base 9 "place_within" ["shelf","found","key"] (O5 gt CSh CTw)) (DB:ZB P w K mg base 2 "branch_at" ["found","at"] Nj) :
  ZK P w K mg base (XM P w) 10 f fd ["shelf","root","key"] (OD gt CSh CTw CT CK):=by
 refine F.okD WK (fun vs H Q E h=>(by obtain ⟨_,_,_,_,_,_,_,rfl,_⟩:=h;rfl)) (fun cdv A outer s H vs Q E hr h=>?_)
 obtain ⟨X,lk,c,ls,r,v,o,rfl,A0,q⟩:=h
 have nd:=WK.nd
 have hr2:=hr.mono (show 2<=9 by decide)
 have hr8:=hr.mono (show 8<=9 by decide)
 refine ⟨_,ZS (XX (O9 UT DC hr8 (X8 (pv 0) (pv 1) (pv 2))))
  (ZS (Zm (i:=3) nd rfl (Or.inl rfl) (Ye ZG))
  (ZS (Zm (i:=4) nd rfl (Or.inl rfl) (pv 1))
  (ZS (UR HK (UY (P9 (pv 4)))
   (ZS (Zm (i:=5) nd rfl (Or.inl rfl) (Y0 (E:=E0) (pv 0) L.cS DL hr2 Yr (ZI (pv 4) ZG)))
   (ZS (Zm (i:=6) nd rfl (Or.inl rfl) (Zg DP hr (X8 (pv 0) (pv 5) (pv 2))))
   (ZS (XX (VV zAn zAv zAu VO (pv 3) (ZI (YU (X8 (pv 4) (pv 6) (pv 5))) ZG)))
   (ZW (Zm (i:=4) nd rfl (Or.inl rfl) (Zg DB hr2 (ZI (pv 5) (ZI (pv 6) ZG)))))))))
  (ZW (Zi (pv 3)))))),?_⟩
 obtain ⟨N,hv⟩:=A0.key
 refine ⟨_,rfl,_,rfl,_,rfl,X,lk,c,ls,r,v,N,o,rfl,A0.sh,hv,A0.no1,A0.no2,fun gr go H1 s1=>?_⟩
 obtain ⟨rn,rfl,hrn⟩:=Ex gr
 obtain ⟨k,rfl⟩:=zBj.mp go
 obtain ⟨kv,fk⟩:=hv
 have R1:=A0.sh.same s1
 refine ⟨nn (zAC rfl),fun D nD=>?_⟩
 have gD:=Za nD (.lst [])
 have eD:=ZP (H:=H1) (a:=D) (o:=.lst [])
 have nD0:H D=none:=s1.free nD
 have Dlk:D≠lk:=(ZY R1.sh.looks nD).symm
 have R2:=R1.same gD
 have s2:=s1.trans gD
 generalize upd H1 D (.lst [])=H2 at gD eD R2 s2 ⊢
 refine ⟨_,rfl,?_⟩
 have hw:=A0.wf
 refine ⟨fun m σ H'=>∃ (cur:Option Nat) (pre:List (Nat×Nat)) (us:List V) (x5 x6:Option V),σ=[some (.ref X.S),some (YM (Z9 rn)),some v,some (.ref D),some (YM (Z9 cur)),x5,x6]/\m=(match cur with | none=>0 | some j=>(gd X.ts j).h+1)/\(∀ j,cur=some j->j<X.ts.length)/\Yt X.ts k rn=pre++Yt X.ts k cur /\
   (∀ b o,b≠lk->H b=some o->H' b=some o)/\Z4 CSh CTw H' X lk c (ls++X9 pre)/\H' D=some (.lst us)/\Paired (YW (fun b=>b=lk\/b=D) H' X.ts) pre us,⟨_,rn,[],[],none,none,rfl,rfl,hrn,rfl,fun b o _ e=>s2 b o e,by rw [show X9 []=[] from rfl,zAz];exact R2,eD,.nil⟩,?_⟩
 rintro m σ H3 ⟨cur,pre,us,x5,x6,rfl,rfl,hcur,epre,fr,R3,eD3,hst⟩
 cases cur with
 | none=>
  refine ⟨_,rfl,_,rfl,Zp ?_⟩
  have e':Yt X.ts k rn=pre:=by rw [epre];exact zAz _
  exact ⟨_,rfl,q k rn rfl rfl hrn H3 D us fr (by rw [e'];exact R3) nD0 Dlk eD3 (by rw [e'];exact hst)⟩
 | some j=>
  have hj:=hcur j rfl
  have hjl:=A0.low j hj
  have lpre:pre.length+((gd X.ts j).h+1)<=61:=by
   have e:=congrArg zCD epre
   rw [zAL] at e
   have e1:(Yt X.ts k (some j)).length=(gd X.ts j).h+1:=P4 _ _ _ _
   have e2:(Yt X.ts k rn).length<=61:=by
    cases rn with
    | none=>exact zAe _
    | some i=>
     have:(Yt X.ts k (some i)).length=(gd X.ts i).h+1:=P4 _ _ _ _
     have:=A0.low i (hrn i rfl)
     omega
   omega
  have few:=A0.few
  have lw:(X9 pre).length=pre.length:=zAD _
  have lus:=Paired.length hst
  refine ⟨_,rfl,_,rfl,Zy ⟨fun σ' H'=>∃ m',m'<(gd X.ts j).h+1/\∃ (cur:Option Nat) (pre:List (Nat×Nat)) (us:List V) (x5 x6:Option V),σ'=[some (.ref X.S),some (YM (Z9 rn)),some v,some (.ref D),some (YM (Z9 cur)),x5,x6]/\m'=(match cur with | none=>0 | some j=>(gd X.ts j).h+1)/\(∀ j,cur=some j->j<X.ts.length)/\Yt X.ts k rn=pre++Yt X.ts k cur /\
   (∀ b o,b≠lk->H b=some o->H' b=some o)/\Z4 CSh CTw H' X lk c (ls++X9 pre)/\H' D=some (.lst us)/\Paired (YW (fun b=>b=lk\/b=D) H' X.ts) pre us,fun _ _ z=>z,?_⟩⟩
  obtain ⟨dx,hS⟩:=R3.sh.self
  refine ⟨_,rfl,X.S,dx,_,rfl,hS,rfl,_,rfl,X,lk,c,_,j,rfl,R3,hj,by rw [zAL];omega,fun H4 tp l ws fr4 R4 htp nl hl w1 w2=>?_⟩
  have hlk3:=R3.sh.looks
  have m34:Zu H3 H4:=fun b xs e=>fr4 b _ (ZR e hlk3 (by intro z;cases z)) e
  have llk:l≠lk:=(ZY hlk3 nl).symm
  have lD:l≠D:=fun z=>by rw [z,eD3] at nl;cases nl
  have lN:¬ (l=lk\/l=D):=fun z=>z.elim llk lD
  have hf4:Yf (fun b=>b=lk\/b=D) H4 (gd X.ts j) (.ref tp):=⟨tp,l,ws,rfl,htp,hl,lN,w1,w2⟩
  have m03:Zu H H3:=fun b xs e=>fr b _ (ZR e A0.sh.sh.looks (by intro z;cases z)) e
  have kv4:=(kv.mono m03 _ _).mono m34 _ _
  refine ⟨_,rfl,_,rfl,_,rfl,X,lk,c,_,j,.ref tp,v,k,_,rfl,R4,hw,hj,hf4,kv4,fk,fun H5 s5=>?_⟩
  have eD5:=s5 _ _ (fr4 _ _ Dlk eD3)
  refine ⟨_,rfl,.inl ⟨rfl,_,ZM.of eD5⟩,_,rfl,_,rfl,_,rfl,nn (zAC rfl),fun t nt=>?_⟩
  have g6:=Za nt (.tup [YM (Z9 (some j)),.int ((Yc X.ts k j:Nat):Int),.ref tp])
  have et:=ZP (H:=H5) (a:=t) (o:=.tup [YM (Z9 (some j)),.int ((Yc X.ts k j:Nat):Int),.ref tp])
  have g56:=s5.trans g6
  generalize upd H5 t (.tup [YM (Z9 (some j)),.int ((Yc X.ts k j:Nat):Int),.ref tp])=H6 at g6 et g56 ⊢
  have eD6:=g6 _ _ eD5
  refine ⟨D,us,.ref t,rfl,rfl,eD6,nn (by omega),?_⟩
  have sD:ZE D H6 (upd H6 D (.lst (us++[.ref t]))):=(ZE.refl D H6).upd
  have tD:=sD.tups eD6
  have R6:=R4.same g56
  have ND:¬ UZ X lk D:=by
   obtain ⟨⟨dS,hS'⟩,hd',_⟩:=R6.sh
   rintro (z | z | z)
   ·exact ZR eD6 hS' (by intro z;cases z) z
   ·exact ZR eD6 hd' (by intro z;cases z) z
   ·exact Dlk z
  have oD:∀ i:Nat,i<X.ts.length->(X.as.getD i .d).x≠D/\(X.as.getD i .d).ab≠D/\(X.as.getD i .d).th≠D:=fun i hi=>by
   have W:=R1.tw i hi
   obtain ⟨dy,hy⟩:=W.tw.self
   obtain ⟨us',e1,_⟩:=W.things
   exact ⟨ZY hy nD,ZY W.tw.above nD,ZY e1 nD⟩
  have R7:=R6.but sD ND oD tD
  have fr7:∀ b o,b≠lk->H3 b=some o->b≠D->upd H6 D (.lst (us++[.ref t])) b=some o:=fun b o n e nb=>by rw [ZT nb];exact g56 _ _ (fr4 b o n e)
  have m37:Zu H3 (upd H6 D (.lst (us++[.ref t]))):=fun b xs e=>tD b xs (g56 _ _ (m34 b xs e))
  have hf7:Yf (fun b=>b=lk\/b=D) (upd H6 D (.lst (us++[.ref t]))) (gd X.ts j) (.ref tp):=by
   exact ⟨tp,l,ws,rfl,tD _ _ (g56 _ _ htp),by rw [ZT lD];exact g56 _ _ hl,lN,fun z=>((w1 z).mono (ZA.tups g56) _ _).mono tD _ _,w2⟩
  have hst7:Paired (YW (fun b=>b=lk\/b=D) (upd H6 D (.lst (us++[.ref t]))) X.ts) (pre++[(j,Yc X.ts k j)]) (us++[.ref t]):=by
   refine Ul (a:=(j,Yc X.ts k j)) ⟨t,.ref tp,rfl,tD _ _ et,hf7⟩ (Paired.mapP hst fun _ _ z=>YW.off z (fun b o n e=>fr7 b o (fun z=>n (.inl z)) e fun z=>n (.inr z)) m37)
  have ew:ls++X9 pre++[V.int (j:Int)]=ls++X9 (pre++[(j,Yc X.ts k j)]):=by unfold X9;simp
  rw [ew] at R7
  have fr':∀ b o,b≠lk->H b=some o->upd H6 D (.lst (us++[.ref t])) b=some o:=fun b o n e=>by rw [ZT (ZY e nD0)];exact g56 _ _ (fr4 b o n (fr b o n e))
  refine ⟨_,rfl,_,rfl,_,gd X.ts j,.ref tp,Yc X.ts k j,rfl,hf7,fun h0=>?_,fun h0=>?_⟩
  ·refine ⟨0,by omega,none,pre++[(j,Yc X.ts k j)],_,_,_,rfl,rfl,(fun i z=>by cases z),?_,fr',R7,ZP,hst7⟩
   rw [epre]
   show pre++VP X.ts k (gd X.ts j).h j=_
   rw [h0]
   exact (zAz _).symm
  ·obtain ⟨n1,n2,n3⟩:=M7 hw hj h0 k
   refine ⟨Wn X.ts k j,n3,(gd X.ts (Wn X.ts k j)).h+1,by omega,some (Wn X.ts k j),pre++[(j,Yc X.ts k j)],_,_,_,rfl,rfl,(fun i z=>by cases z;omega),?_,fr',R7,ZP,hst7⟩
   rw [epre]
   show pre++VP X.ts k (gd X.ts j).h j=_
   rw [<-n2,zCB]
   rfl
end
def Vh (p:Nat×Nat):KT:=.tup [.int (p.1:Int),.int (p.2:Int)]
section
variable {P:Program} {w:World} {K:zAA} {mg:Str->Option Value} {base:Heap} {f:Addr} {fd:FuncData} {CSh CTw CT CK:Addr}
def P8 (gt:List KT) (CSh CTw CT CK:Addr):Sp:=fun vs H Q E=>∃ (X:XS) (lk:Addr) (c:Nat) (ls:List V) (r:Option Int) (v:V) (o:Option KT),vs=[.ref X.S,YM r,v]/\UN gt CSh CTw CT CK H X lk c ls r v o E /\
 ∀ (k:KT) (rn:Option Nat),o=some k->r=Z9 rn->(∀ i,rn=some i->i<X.ts.length)->∀ (H':Hp) (D:Addr) (us:List V),(∀ b o,b≠lk->H b=some o->H' b=some o)->Z4 CSh CTw H' X lk c (ls++X9 (Yt X.ts k rn))->H D=none->D≠lk->H' D=some (.lst us)->KeysAt H' ((Yt X.ts k rn).map Vh) us->Q (.ref D) H'
theorem Ff:ZC ["shelf","root","key"] ["shelf","root","key"] (Zf MZ):=⟨rfl,rfl,rfl,by decide +kernel,rfl,by decide +kernel,by decide +kernel⟩
theorem Ml {ts:List ZU} {rn:Option Nat} (k:KT) (low:∀ i,i<ts.length->(gd ts i).h<=60) (hrn:∀ i,rn=some i->i<ts.length):(Yt ts k rn).length<=61:=by
 cases rn with
 | none=>exact zAe _
 | some i=>
  have:(Yt ts k (some i)).length=(gd ts i).h+1:=P4 _ _ _ _
  have:=low i (hrn i rfl)
  omega
theorem D8 {gt:List KT} (F:Zk K "way_to" "way_to" MZ f fd) (DS:Y2 P w K mg base 10 "steps_to" ["shelf","root","key"] (OD gt CSh CTw CT CK)):ZK P w K mg base (XM P w) 11 f fd ["shelf","root","key"] (P8 gt CSh CTw CT CK):=by
 refine F.okD Ff (fun vs H Q E h=>(by obtain ⟨_,_,_,_,_,_,_,rfl,_⟩:=h;rfl)) (fun cdv A outer s H vs Q E hr h=>?_)
 obtain ⟨X,lk,c,ls,r,v,o,rfl,A0,q⟩:=h
 refine ⟨_,ZW (Zi (Xr [] [] rfl (WJ (O9 UT DS hr (X8 (pv 0) (pv 1) (pv 2)))) (fun _ _ _ _ _=>X6) (fun _ _ _ _ _=>YU (ZI (Zo (r:=Xc K) Zl (pv 0) ZO (fun _ _=>rfl)) (ZI (Zo (r:=Xc K) Zl (pv 0) ZO (fun _ _=>rfl)) ZG))) trivial)),?_⟩
 refine ⟨_,rfl,_,rfl,_,rfl,X,lk,c,ls,r,v,o,rfl,A0,fun k rn ek er hrn H1 S us fr R1 nS Slk hS hst=>?_⟩
 have lw:=Ml k A0.low hrn
 have ln:=Paired.length hst
 refine ⟨S,rfl,⟨us,ZM.of hS⟩,X7 (n:=us.length) (fun i z=>us[i]? = some z) (fun D i ys H3=>ZA H1 H3/\H1 D=none/\KeysAt H3 (((Yt X.ts k rn).map Vh).take i) ys) (Yp (by omega))
  (fun D i ys H3 hi hP=>⟨us,us[i],ZM.of (hP.1 _ _ hS),by simp [hi]⟩) (fun D i ys H3 z H4 hi hP hy=>⟨hy.1,hy.2 us (ZM.of (hP.1 _ _ hS))⟩) (fun D ys H3 hP=>⟨us,ZM.of (hP.1 _ _ hS),zAH _⟩)
  (fun D hD=>⟨Za hD _,hD,.nil⟩) (fun D i ys H3 z eD hl' hi hz hP RR hRR=>?_) (fun D ys H3 eD hP=>?_)⟩
 ·obtain ⟨s3,nD,kys⟩:=hP
  obtain ⟨p,ep,t,fv,rfl,ht,hfv⟩:=Paired.ixR hst hz
  have ht3:=s3 _ _ ht
  refine ⟨_,rfl,t,_,_,_,rfl,rfl,Zj.of ht3,rfl,_,rfl,t,_,_,_,rfl,rfl,Zj.of ht3,rfl,nn (zAC rfl),fun t' nt'=>?_⟩
  have g:=Za nt' (.tup [.int (p.1:Int),.int (p.2:Int)])
  have et:=ZP (H:=H3) (a:=t') (o:=.tup [.int (p.1:Int),.int (p.2:Int)])
  have eD4:=g _ _ eD
  refine hRR _ _ eD4 ⟨We (s3.trans g) nD,nD,?_⟩
  have tD:Zu (upd H3 t' (.tup [.int (p.1:Int),.int (p.2:Int)])) (upd (upd H3 t' (.tup [.int (p.1:Int),.int (p.2:Int)])) D (.lst (ys++[.ref t']))):=(ZE.refl D _).upd.tups eD4
  rw [zAm,zAN,ep]
  exact ((kys.mono (ZA.tups g) _ _).mono tD _ _).append (.cons (.tup (tD _ _ et) (.cons (.int _) (.cons (.int _) .nil))) .nil)
 ·obtain ⟨s3,nD,kys⟩:=hP
  rw [zAU (by rw [zAD];omega)] at kys
  have nD0:H D=none:=by
   cases e:H D with
   | none=>rfl
   | some o'=>
    by_cases z:D=lk
    ·rw [z,R1.sh.looks] at nD;cases nD
    ·rw [fr _ _ z e] at nD;cases nD
  exact q k rn ek er hrn H3 D ys (fun b o' n e=>s3 b o' (fr b o' n e)) (R1.same s3) nD0 (fun z=>by rw [z,R1.sh.looks] at nD;cases nD) eD kys
end
section
variable {P:Program} {w:World} {K:zAA} {mg:Str->Option Value} {base:Heap} {f:Addr} {fd:FuncData} {CSh CTw CS CT CH:Addr}
theorem Gc {X:Cx} {w:World} {o i:Expr} {pos:Pos} {td ty:TE} (hu:X.A.units+5<cLine) (ho:PE X o td) (hi:PE X i ty) (hs:Pt i) (hw:X.w=w:=by rfl):PE X (.Subscript o i pos) (IH w td ty):=by
 subst hw
 exact B3 hu ho hi hs
theorem IM:∀ {a b:List KT},YJ a->YJ b->(∀ k,k∈a ↔ k∈b)->a=b
 | [],[],_,_,_=>rfl
 | [],y :: b,_,_,h=>by simp at h;exact absurd rfl (h y).1
 | x :: a,[],_,_,h=>by simp at h;exact absurd rfl (h x).1
 | x :: a,y :: b,ha,hb,h=>by
  have ha':=zBK.mp ha
  have hb':=zBK.mp hb
  have e:x=y:=by
   rcases zAd.mp ((h x).mp (zAR ..)) with e | q
   ·exact e
   rcases zAd.mp ((h y).mpr (zAR ..)) with e | q'
   ·exact e.symm
   have h1:=hb'.1 x q
   have h2:=ha'.1 y q'
   rw [QM _ _ h1] at h2
   cases h2
  subst e
  have:a=b:=IM ha'.2 hb'.2 fun k=>by
   constructor
   ·intro hk
    rcases zAd.mp ((h k).mp (zAP _ hk)) with e | q
    ·have:=ha'.1 k hk
     rw [e,UW] at this
     cases this
    ·exact q
   ·intro hk
    rcases zAd.mp ((h k).mpr (zAP _ hk)) with e | q
    ·have:=hb'.1 k hk
     rw [e,UW] at this
     cases this
    ·exact q
  rw [this]
theorem Hd {ts:List KT} (h:YJ ts):ts.Nodup:=h.imp fun {a b} q e=>by rw [e,UW] at q;cases q
end
structure XF (w:World) (H:Hp) (D:Addr) (rs:List YQ) (xs:List (KT×V×V)):Prop where
 dk:Z3 w H D xs
 rows:Paired (fun (r:YQ) (x:KT×V×V)=>x.1=r.1/\ZD H r.2 x.2.2) rs xs
theorem XF.keys {w:World} {H:Hp} {D:Addr} {rs:List YQ} {xs:List (KT×V×V)} (h:XF w H D rs xs):xs.map (·.1)=rs.map (·.1):=by
 have:=h.rows
 clear h
 induction this with
 | nil=>rfl
 | cons a t ih=>rw [zAr,zAr,a.1,ih]
theorem XF.but {w:World} {H H':Hp} {D p:Addr} {rs:List YQ} {xs:List (KT×V×V)} (h:XF w H D rs xs) (s:ZE p H H') (t:Zu H H') (n:D≠p):XF w H' D rs xs:=⟨h.dk.but s t n,Paired.mapP h.rows fun _ _ z=>⟨z.1,z.2.mono t _ _⟩⟩
theorem XF.same {w:World} {H H':Hp} {D:Addr} {rs:List YQ} {xs:List (KT×V×V)} (h:XF w H D rs xs) (s:ZA H H'):XF w H' D rs xs:=⟨h.dk.same s,Paired.mapP h.rows fun _ _ z=>⟨z.1,z.2.mono (ZA.tups s) _ _⟩⟩
theorem Df {w:World} {H H':Hp} {d:Addr} {xs:List (KT×V×V)} (dk:Z3 w H d xs) (s:ZE d H H'):Zu H H':=fun b ys e=>by
 obtain ⟨es,h,_⟩:=dk.ex
 exact s b _ e (ZR e h (by unfold Uq;intro z;cases z))
section
variable {P:Program} {w:World} {K:zAA} {mg:Str->Option Value} {base:Heap} {f:Addr} {fd:FuncData}
def NH (w:World):Sp:=fun vs H Q _=>∃ (p:Addr) (m:Int),vs=[.ref p,.int m]/\ZH H p/\0<m/\m<=61/\∀ (D:Addr) (rs:List YQ) (xs:List (KT×V×V)) (H':Hp),H D=none->XF w H' D rs xs->(∀ r∈rs,r.fit)->YJ (rs.map (·.1))->rs.length<=60->ZH H' p->ZE p H H'->Q (.ref D) H'
abbrev Fz:List Str:=["_law_well_here","_law_most","_law_keys_here","_law_model","_law_spot"]
theorem Xz:ZC Fz ["_law_well_here","_law_most"] (Zf Nh):=⟨rfl,rfl,rfl,by decide +kernel,rfl,by decide +kernel,by decide +kernel⟩
theorem HV (F:Zk K "_law_ground" "_law_ground" Nh f fd) (DP:ZB P w K mg base 1 "_law_pull" ["_law_well_here","_law_many"] Xq) (DK:ZB P w K mg base 9 "_law_keys" ["_law_well_here","_law_many"] Nq) (DV:ZB P w K mg base 7 "_law_value" ["_law_well_here"] OE):ZK P w K mg base ZV 10 f fd ["_law_well_here","_law_most"] (NH w):=by
 refine F.ok Xz (fun vs H Q E h=>(by obtain ⟨_,_,rfl,_⟩:=h;rfl)) (fun cdv A outer s H vs Q E hr h=>?_)
 obtain ⟨p,m,rfl,W,m0,m61,k⟩:=h
 have nd:=Xz.nd
 have hr1:=hr.mono (show 1<=9 by decide)
 have hr7:=hr.mono (show 7<=9 by decide)
 have OJ:=ZZ.key hr (n:=4) (by decide)
 refine ⟨_,ZS (Zm (i:=2) nd rfl (Or.inl rfl) (Zg DK hr (ZI (pv 0) (ZI (Zg DP hr1 (ZI (pv 0) (ZI (pv 1) ZG))) ZG))))
  (ZS (Zm (i:=3) nd rfl (Or.inl rfl) Ic)
  (ZS (VJ PassesOwn.never rfl (WJ (pv 2)) (Y6 (i:=4) nd rfl (Or.inl rfl))
   (ZW (Kt OJ (pv 3) (pv 4) (Zg DV hr7 (ZI (pv 0) ZG)) rfl)))
  (ZW (Zi (pv 3))))),?_⟩
 refine ⟨_,rfl,_,rfl,_,rfl,p,m,rfl,W,Y4 (by omega) (by omega),fun n H1 n0 n1 W1 s1=>?_⟩
 have en:n=((n.toNat:Nat):Int):=by omega
 refine ⟨p,n.toNat,congrArg (fun y=>[V.ref p,V.int y]) en,W1,by omega,fun Kl vs ts H2 nK hK kK fK rK lK W2 s2=>?_⟩
 have pK:Kl≠p:=Wp W1 nK
 have s02:=s1.trans s2
 intro D H3 nD sx3 s3 dk3
 have W3:=W2.same s3
 have hK3:=s3 _ _ hK
 have Dp:D≠p:=Wp W2 nD
 have DK':D≠Kl:=fun z=>by rw [z,hK] at nD;cases nD
 have nD0:H D=none:=Ph s02 W2 nD
 have s03:=s02.trans (ZE.of s3)
 have lv:=kK.length
 refine ⟨_,rfl,Kl,rfl,⟨vs,ZM.of hK3⟩,Pf (K:=K) (a:=Kl) (xs:=vs) (fun i σ H'=>∃ (rs:List YQ) (xs:List (KT×V×V)) (x4:Option V),σ=[some (.ref p),some (.int m),some (.ref Kl),some (.ref D),x4]/\XF w H' D rs xs/\rs.map (·.1)=ts.take i/\(∀ r∈rs,r.fit)/\ZH H' p/\ZE p H H'/\H' Kl=some (.lst vs)/\KeysAt H' ts vs)
  ⟨[],[],_,rfl,⟨dk3,.nil⟩,rfl,fun r hr=>by simp at hr,W3,s03,hK3,kK.mono (ZA.tups s3) _ _⟩ (fun i σ H' _ hP=>by obtain ⟨_,_,_,_,_,_,_,_,_,h,_⟩:=hP;exact ZM.of h) ?_ ?_⟩
 ·rintro i u σ H4 hu ⟨rs,xs,x4,rfl,dr,er,fr,W4,s4,hK4,kK4⟩
  have hi:i<vs.length:=(zAO.mp hu).1
  obtain ⟨t,et,kt⟩:=kK4.get hu
  refine ⟨_,rfl,p,rfl,W4,fun v vt H5 kv fv W5 s5=>?_⟩
  have t5:=s5.tupsW W4
  have dr5:=dr.but s5 t5 Dp
  have lx:=Paired.length dr5.rows
  have lrs:rs.length=(ts.take i).length:=by rw [<-er,zAD]
  rw [zBk] at lrs
  refine ⟨_,rfl,_,rfl,D,xs,t,rfl,dr5.dk,by omega,kt.mono t5 _ _,Wd _ 3 (fK t (zAK et)),fun H6 s6 dk6=>?_⟩
  have t6:=Df dr5.dk s6
  have hn:t∉xs.map (·.1):=by
   rw [dr5.keys,er]
   intro z
   obtain ⟨j,hj⟩:=zBe z
   rw [List.getElem?_take] at hj
   split at hj
   ·have:=(zCd (by omega) (Hd rK)).mp (hj.trans et.symm)
    omega
   ·cases hj
  have ep:Wq xs t u v=xs++[(t,u,v)]:=by
   unfold Wq
   rw [if_neg fun z=>hn (Y5.mp z)]
  rw [ep] at dk6
  refine ⟨rs++[(t,vt)],xs++[(t,u,v)],_,rfl,⟨dk6,Ul (a:=((t,vt):YQ)) ⟨rfl,kv.mono t6 _ _⟩ (Paired.mapP dr5.rows fun _ _ z=>⟨z.1,z.2.mono t6 _ _⟩)⟩,?_,fun r hr'=>?_,W5.stay s6 (Ne.symm Dp),fun b o e n=>s6 b o (s5 b o (s4 b o e n) n) (ZY e nD0),s6 _ _ (s5 _ _ hK4 pK) (Ne.symm DK'),(kK4.mono t5 _ _).mono t6 _ _⟩
  ·rw [zAZ,er,zAm,et]
   rfl
  ·rcases zAg.mp hr' with z | z
   ·exact fr r z
   ·rw [zAQ.mp z]
    exact ⟨fK t (zAK et),fv⟩
 ·rintro σ H4 ⟨rs,xs,x4,rfl,dr,er,fr,W4,s4,hK4,kK4⟩
  rw [zAU (by omega)] at er
  have lrs:rs.length=ts.length:=by rw [<-er,zAD]
  exact ⟨_,rfl,k D rs xs H4 nD0 dr fr (by rw [er];exact rK) (by omega) W4 s4⟩
def OW (w:World):Sp:=fun vs H Q _=>∃ (D:Addr) (rs:List YQ) (xs:List (KT×V×V)),vs=[.ref D]/\XF w H D rs xs/\(∀ r∈rs,r.fit)/\YJ (rs.map (·.1))/\rs.length<=60/\∀ (l:Addr) (us:List V) (H':Hp),ZA H H'->H l=none->H' l=some (.lst us)->KeysAt H' (YF rs) us->Q (.ref l) H'
theorem CY:ZC ["_law_model"] ["_law_model"] (Zf O3):=⟨rfl,rfl,rfl,by decide +kernel,rfl,by decide +kernel,by decide +kernel⟩
theorem Bd (F:Zk K "_law_sorted" "_law_sorted" O3 f fd) (T:YG mg) (DR:ZB P w K mg base 6 "_law_rank" ["_law_spot"] (Ub 5)):ZK P w K mg base ZV 9 f fd ["_law_model"] (OW w):=by
 refine F.ok CY (fun vs H Q E h=>(by obtain ⟨_,_,_,rfl,_⟩:=h;rfl)) (fun cdv A outer s H vs Q E hr h=>?_)
 obtain ⟨D,rs,xs,rfl,dr,fr,ris,l60,k⟩:=h
 have hu5:=ZZ.key hr (n:=5) (by decide)
 have DS:ZB P w K mg base 6 "_law_rank" ["_law_spot"] (U0 KT.rk):=by
  obtain ⟨g,gd,FG,b,kp,m⟩:=DR.ex
  exact ⟨g,gd,FG.imp fun vs H Q E h=>by
   obtain ⟨v,t,e,a,c,d⟩:=h
   have:=Wd t 3 c
   exact ⟨v,t,3,e,a,c,by omega,d⟩,b,kp,m⟩
 refine ⟨_,ZW (Zi (Xr [0] ["_law_model"] rfl (WJ (IY Ip Qh DS hr rfl T.sorted rfl (ZI (pv 0) ZG))) (fun _ _ _ _ _=>X6) (fun _ _ _ _ _=>YU (ZI (pv 0) (ZI (Gc (w:=w) hu5 (pv 1) (pv 0) (fun _ _=>rfl)) ZG))) ⟨rfl,.inl rfl,rfl,trivial⟩)),?_⟩
 have lx:=Paired.length dr.rows
 have ek:=dr.keys
 have kf:∀ x∈xs,x.1.fits 3=true:=fun x hx=>by
  have:x.1∈rs.map (·.1):=by rw [<-ek];exact zAf.mpr ⟨x,hx,rfl⟩
  obtain ⟨r,hr',e⟩:=zAf.mp this
  rw [<-e]
  exact (fr r hr').1
 refine ⟨_,rfl,D,xs,rfl,dr.dk,kf,by omega,fun S ws ts H1 s1 nS hS ka pm pw=>?_⟩
 have et:ts=rs.map (·.1):=IM (Kw (pm.nodup_iff.mpr dr.dk.nd) pw) ris fun t=>by rw [pm.mem_iff,ek]
 subst et
 have dr1:=dr.same s1
 have lw:=ka.length
 rw [zAD] at lw
 refine ⟨S,rfl,⟨ws,ZM.of hS⟩,X7 (n:=ws.length) (fun i z=>ws[i]? = some z) (fun E i ys H3=>ZA H1 H3/\H1 E=none/\KeysAt H3 ((YF rs).take i) ys) (Yp (by omega))
  (fun E i ys H3 hi hP=>⟨ws,ws[i],ZM.of (hP.1 _ _ hS),by simp [hi]⟩) (fun E i ys H3 z H4 hi hP hy=>⟨hy.1,hy.2 ws (ZM.of (hP.1 _ _ hS))⟩) (fun E ys H3 hP=>⟨ws,ZM.of (hP.1 _ _ hS),zAH _⟩)
  (fun E hE=>⟨Za hE _,hE,.nil⟩) (fun E i ys H3 z eE hl' hi hz hP RR hRR=>?_) (fun E ys H3 eE hP=>?_)⟩
 ·obtain ⟨s3,nE,kys⟩:=hP
  obtain ⟨t,et,kt⟩:=ka.get hz
  rw [zAN] at et
  obtain ⟨r,er,rfl⟩:=zAq.mp et
  have hix:xs[i]? = some (xs[i]'(by omega)):=zAE (by omega)
  have dr3:=dr1.same s3
  obtain ⟨r',er',e1,e2⟩:=Paired.ixR dr3.rows hix
  rw [er] at er'
  cases er'
  have hv:=LP dr.dk.nd hix
  rw [e1] at hv
  have ff:=(fr r (zAK er)).1
  refine ⟨_,rfl,_,rfl,_,rfl,D,xs,r.1,_,rfl,dr3.dk,kt.mono (ZA.tups s3) _ _,Wd _ 3 ff,hv,nn (zAC rfl),fun q nq=>?_⟩
  have g:=Za nq (.tup [z,(xs[i]'(by omega)).2.2])
  have eq:=ZP (H:=H3) (a:=q) (o:=.tup [z,(xs[i]'(by omega)).2.2])
  have eE4:=g _ _ eE
  refine hRR _ _ eE4 ⟨We (s3.trans g) nE,nE,?_⟩
  have tE:Zu (upd H3 q (.tup [z,(xs[i]'(by omega)).2.2])) (upd (upd H3 q (.tup [z,(xs[i]'(by omega)).2.2])) E (.lst (ys++[.ref q]))):=(ZE.refl E _).upd.tups eE4
  unfold YF
  rw [zAm,zAN,er]
  refine ((kys.mono (ZA.tups g) _ _).mono tE _ _).append (.cons (.tup (tE _ _ eq) (.cons ?_ (.cons ?_ .nil))) .nil)
  ·exact (kt.mono (ZA.tups (s3.trans g)) _ _).mono tE _ _
  ·exact (e2.mono (ZA.tups g) _ _).mono tE _ _
 ·obtain ⟨s3,nE,kys⟩:=hP
  rw [zAU (by unfold YF;rw [zAD];omega)] at kys
  exact k E ys H3 (s1.trans s3) (s1.free nE) eE kys
end
theorem Lo:∀ (n:Nat) (l:List Nat),l.Nodup->(∀ x∈l,x<n)->l.length<=n
 | 0,[],_,_=>zAH _
 | 0,x :: _,_,h=>absurd (h x (zAR ..)) (by omega)
 | n+1,l,nd,h=>by
  have h1:=Lo n (l.erase n) (nd.erase n) fun x hx=>by
   have:=h x (List.mem_of_mem_erase hx)
   have ne:x≠n:=fun z=>by
    rw [z] at hx
    exact (List.Nodup.not_mem_erase nd) hx
   omega
  by_cases hm:n∈l
  ·rw [List.length_erase_of_mem hm] at h1
   omega
  ·rw [List.erase_of_not_mem hm] at h1
   omega
def WZ (H:Hp) (t:ZU) (v:V):Prop:=∃ tp u us,v=.ref tp/\H tp=some (.tup [.str (kindOf t),.ref u])/\H u=some (.tup us)/\(t.h=0->KeysAt H (YF t.rows) us)/\(t.h≠0->us=iN t.bs)
theorem WZ.mono {H H':Hp} {t:ZU} {v:V} (h:WZ H t v) (m:Zu H H'):WZ H' t v:=by
 obtain ⟨tp,u,us,e,h1,h2,h3,h4⟩:=h
 exact ⟨tp,u,us,e,m _ _ h1,m _ _ h2,fun z=>(h3 z).mono m _ _,h4⟩
structure Yq (ts:List ZU) (H:Hp) (kvs:List (Zc×V)) (F:List Nat):Prop where
 nd:F.Nodup
 lt:∀ j∈F,j<ts.length
 no:∀ j:Nat,j∉F->YA kvs (Sum.inl (j:Int))=none
 yes:∀ j:Nat,j∈F->∃ v,YA kvs (Sum.inl (j:Int))=some v/\WZ H (gd ts j) v
 len:kvs.length=F.length
theorem Yq.mono {ts:List ZU} {H H':Hp} {kvs:List (Zc×V)} {F:List Nat} (h:Yq ts H kvs F) (m:Zu H H'):Yq ts H' kvs F:=⟨h.nd,h.lt,h.no,fun j hj=>by
 obtain ⟨v,e,r⟩:=h.yes j hj
 exact ⟨v,e,r.mono m⟩,h.len⟩
theorem Yq.put {ts:List ZU} {H:Hp} {kvs:List (Zc×V)} {F:List Nat} (h:Yq ts H kvs F) {j:Nat} (hj:j<ts.length) (hn:j∉F) {v:V} (hv:WZ H (gd ts j) v):Yq ts H (Yo kvs (Sum.inl (j:Int)) v) (F++[j]):=by
 refine ⟨?_,fun i hi=>?_,fun i hi=>?_,fun i hi=>?_,?_⟩
 ·rw [zBr]
  exact ⟨h.nd,by simp,fun a ha b hb=>by rw [zAQ.mp hb];exact fun z=>hn (z ▸ ha)⟩
 ·rcases zAg.mp hi with z | z
  ·exact h.lt i z
  ·rw [zAQ.mp z];exact hj
 ·have n1:i∉F:=fun z=>hi (zA3 _ z)
  have n2:i≠j:=fun z=>hi (zAa _ (by rw [z];exact zAQ.mpr rfl))
  rw [Q5,if_neg fun z=>n2 (by have:=Sum.inl.inj z;omega)]
  exact h.no i n1
 ·rw [Q5]
  by_cases z:i=j
  ·subst z
   exact ⟨v,if_pos rfl,hv⟩
  ·rw [if_neg fun y=>z (by have:=Sum.inl.inj y;omega)]
   exact h.yes i ((zAg.mp hi).elim id fun y=>absurd (zAQ.mp y) z)
 ·rw [N7 v (h.no j hn),zAL,zAL,h.len]
  rfl
def LA (ts:List ZU) (F:List Nat) (T:List (Option Nat)):Prop:=∀ j∈F,∀ b∈(gd ts j).bs,b∈F\/some b∈T
abbrev Xj (l:List (Option Nat)):List V:=l.map fun x=>YM (Z9 x)
def PX (ts:List ZU):Option Nat->Nat
 | none=>1
 | some j=>5 ^ (gd ts j).h
def Uc (ts:List ZU) (l:List (Option Nat)):Nat:=(l.map (PX ts)).sum
theorem MM {ts:List ZU} {l:List (Option Nat)} {x:Option Nat}:Uc ts l<Uc ts (l++[x]):=by
 unfold Uc
 rw [zAZ,zCv]
 have:0<PX ts x:=by
  cases x with
  | none=>exact Nat.one_pos
  | some j=>exact Nat.pow_pos (by decide)
 simp only [zAr,zB8,zCb,List.sum_nil,Nat.add_zero]
 omega
theorem Cb {ts:List ZU} {gt:List KT} {l:List (Option Nat)} {b:Nat} (hw:WF gt ts) (hb:b<ts.length) (hh:(gd ts b).h≠0):Uc ts (l++(gd ts b).bs.map some)<Uc ts (l++[some b]):=by
 obtain ⟨h1,h2,h3,_⟩:=(hw b _ (Y1 hb)).stem hh
 have key:∀ (bs:List Nat),(∀ c∈bs,(gd ts c).h+1=(gd ts b).h)->((bs.map some).map (PX ts)).sum=bs.length * 5 ^ ((gd ts b).h - 1):=by
  intro bs
  induction bs with
  | nil=>intro _;simp
  | cons c bs ih=>
   intro h
   have hc:=h c (zAR ..)
   rw [zAr,zAr,zCb,ih fun x hx=>h x (zAP _ hx),zAX,Nat.succ_mul]
   show 5 ^ (gd ts c).h+_=_
   rw [show (gd ts c).h=(gd ts b).h - 1 by omega]
   omega
 unfold Uc
 rw [zAZ,zCv,zAZ,zCv,key _ fun c hc=>(h3 c hc).2]
 have e2:PX ts (some b)=5 * 5 ^ ((gd ts b).h - 1):=by
  show 5 ^ (gd ts b).h=_
  have:(gd ts b).h=((gd ts b).h - 1)+1:=by omega
  rw [this,Nat.pow_succ,Nat.mul_comm]
  simp
 have pos:0<5 ^ ((gd ts b).h - 1):=Nat.pow_pos (by decide)
 simp only [zAr,zB8,zCb,List.sum_nil,Nat.add_zero]
 rw [e2]
 have:(gd ts b).bs.length * 5 ^ ((gd ts b).h - 1)<=4 * 5 ^ ((gd ts b).h - 1):=Nat.mul_le_mul_right _ h2
 omega
section
variable {P:Program} {w:World} {K:zAA} {mg:Str->Option Value} {base:Heap} {f:Addr} {fd:FuncData} {CSh CTw:Addr}
def MP (gt:List KT) (CSh CTw:Addr):Sp:=fun vs H Q _=>∃ (X:XS) (lk:Addr) (c:Nat) (ls:List V) (rn:Option Nat) (d:Addr),vs=[.ref X.S,YM (Z9 rn),.ref d]/\Z4 CSh CTw H X lk c ls/\WF gt X.ts/\X.ts.length<=240/\ls.length<=500/\(∀ i,rn=some i->i<X.ts.length)/\H d=some (.dK [])/\d≠X.d /\
 ∀ (H':Hp) (kvs:List (Zc×V)) (F:List Nat) (ls':List V),(∀ b o,b≠lk->b≠d->H b=some o->H' b=some o)->Z4 CSh CTw H' X lk c ls'->ls'.length<=ls.length+X.ts.length->H' d=some (.dK kvs)->Yq X.ts H' kvs F->LA X.ts F []->(∀ i,rn=some i->i∈F)->Q (.ref d) H'
abbrev BH:List Str:=["_law_shelf","_law_root","_law_found","_law_todo","_law_number","_law_kind","_law_what"]
theorem XY:ZC BH ["_law_shelf","_law_root","_law_found"] (Zf Ox):=⟨rfl,rfl,rfl,by decide +kernel,rfl,by decide +kernel,by decide +kernel⟩
structure Yw (CSh CTw:Addr) (H H':Hp) (X:XS) (lk:Addr) (c:Nat) (ls:List V) (d ta:Addr) (todo:List (Option Nat)) (F:List Nat) (kvs:List (Zc×V)) (ls':List V):Prop where
 fr:∀ b o,b≠lk->b≠d->H b=some o->H' b=some o
 sh:Z4 CSh CTw H' X lk c ls'
 len:ls'.length=ls.length+F.length
 hd:H' d=some (.dK kvs)
 rcd:Yq X.ts H' kvs F
 hta:H' ta=some (.lst (Xj todo))
 nta:H ta=none
 tl:ta≠lk
 tw:∀ i:Nat,i<X.ts.length->(X.as.getD i .d).ab≠ta/\(X.as.getD i .d).th≠ta
section
variable {H H' H'':Hp} {X:XS} {lk:Addr} {c:Nat} {ls ls':List V} {d ta:Addr} {todo todo':List (Option Nat)} {F:List Nat} {kvs:List (Zc×V)}
theorem Yw.same (r:Yw CSh CTw H H' X lk c ls d ta todo F kvs ls') (s:ZA H' H''):Yw CSh CTw H H'' X lk c ls d ta todo F kvs ls':=
 ⟨fun b o n1 n2 e=>s b o (r.fr b o n1 n2 e),r.sh.same s,r.len,s _ _ r.hd,r.rcd.mono (ZA.tups s),s _ _ r.hta,r.nta,r.tl,r.tw⟩
theorem Yw.pop (r:Yw CSh CTw H H' X lk c ls d ta todo F kvs ls'):Yw CSh CTw H (upd H' ta (.lst (Xj todo'))) X lk c ls d ta todo' F kvs ls':=by
 have s:ZE ta H' (upd H' ta (.lst (Xj todo'))):=(ZE.refl ta H').upd
 have t:=s.tups r.hta
 obtain ⟨⟨dS,hS⟩,hd,hl⟩:=r.sh.sh
 have N:¬ UZ X lk ta:=by
  rintro (z | z | z)
  ·exact ZR r.hta hS (by intro z;cases z) z
  ·exact ZR r.hta hd (by intro z;cases z) z
  ·exact r.tl z
 refine ⟨fun b o n1 n2 e=>by rw [ZT (ZY e r.nta)];exact r.fr b o n1 n2 e,r.sh.but s N (fun i hi=>?_) t,r.len,s _ _ r.hd (ZR r.hd r.hta (by intro z;cases z)),r.rcd.mono t,ZP,r.nta,r.tl,r.tw⟩
 obtain ⟨dy,hy⟩:=(r.sh.tw i hi).tw.self
 exact ⟨ZR hy r.hta (by intro z;cases z),r.tw i hi⟩
theorem Yw.anew (r:Yw CSh CTw H H' X lk c ls d ta todo F kvs ls') {q:Addr} (nq:H' q=none) (hq:H lk≠none) (hd0:H d≠none):Yw CSh CTw H (upd H' q (.lst (Xj todo'))) X lk c ls d q todo' F kvs ls':=by
 have g:=Za nq (.lst (Xj todo'))
 have r':=r.same g
 have nlk:q≠lk:=(ZY r.sh.sh.looks nq).symm
 have nd:q≠d:=(ZY r.hd nq).symm
 refine ⟨r'.fr,r'.sh,r'.len,r'.hd,r'.rcd,ZP,?_,nlk,fun i hi=>?_⟩
 ·cases e:H q with
  | none=>rfl
  | some o=>rw [r.fr q o nlk nd e] at nq;cases nq
 ·obtain ⟨us,e1,_⟩:=(r.sh.tw i hi).things
  exact ⟨ZY (r.sh.tw i hi).tw.above nq,ZY e1 nq⟩
end
theorem JI (t:ZU):decide (V.str (kindOf t)=V.str "stem")=decide (t.h≠0):=by
 by_cases h:t.h=0
 ·rw [Jj h,decide_eq_false (show ¬ t.h≠0 from fun z=>z h)]
  decide +kernel
 ·rw [JW h,decide_eq_true rfl,decide_eq_true h]
theorem Eu {gt:List KT} (F0:Zk K "_law_reached" "_law_reached" Ox f fd) (T:YG mg) (L:Yi K mg CSh CTw) (DL:ZJ P w K mg base ZV 2 CSh "look" ["self","number"] (Ol CSh CTw)):ZK P w K mg base ZV 3 f fd ["_law_shelf","_law_root","_law_found"] (MP gt CSh CTw):=by
 refine F0.ok XY (fun vs H Q E h=>(by obtain ⟨_,_,_,_,_,_,rfl,_⟩:=h;rfl)) (fun cdv A outer s H vs Q E hr h=>?_)
 obtain ⟨X,lk,c,ls,rn,d,rfl,R,hw,t200,l500,hrn,hd,dXd,k⟩:=h
 have nd:=XY.nd
 have hu:=Us hr
 refine ⟨_,ZS (Zm (i:=3) nd rfl (Or.inl rfl) (Ye (ZI (pv 1) ZG)))
  (ZS (UR PassesOwn.never (Yn (NE hr.units0) (pv 3) (Ye ZG) (Z2 _))
   (ZS (Zm (i:=4) nd rfl (Or.inl rfl) (Jb zAn PySem.F.slot_list_pop PySem.F.type_list_pop Fb (pv 3)))
   (ZW (Z5 (PW.pt (OF (UY (P9 (pv 4))) (O1 (UY (Mp hu (pv 4) (pv 2))))))
    (ZS (Vw (Y0 (E:=E0) (pv 0) L.cS DL hr Yr (ZI (pv 4) ZG)) (QD rfl (VR (Y6 (i:=5) nd rfl (Or.inl rfl)) (VR (Y6 (i:=6) nd rfl (Or.inl rfl)) Qa))))
    (ZS (Ja hu (pv 2) (pv 4) (YU (ZI (pv 5) (ZI (Xh Uw rfl T.tuple Vo (ZI (pv 6) ZG)) ZG))) rfl)
    (ZW (Z5 (Yn X2 (pv 5) Y3 (Z2 _)) (ZW (Zm (i:=3) nd rfl (Or.inl rfl) (Zs Pc (pv 3) (Xh UC rfl T.list Vc (ZI (pv 6) ZG))))) Z8)))) Z8))))
  (ZW (Zi (pv 2)))),?_⟩
 have hlk0:=R.sh.looks
 have dlk:d≠lk:=ZR hd hlk0 (by intro z;cases z)
 have lkne:H lk≠none:=by rw [hlk0];exact fun z=>nomatch z
 have dne:H d≠none:=by rw [hd];exact fun z=>nomatch z
 refine ⟨_,rfl,nn (zAC rfl),fun ta nta=>?_⟩
 have g0:=Za nta (.lst [YM (Z9 rn)])
 have I0:Yw CSh CTw H (upd H ta (.lst [YM (Z9 rn)])) X lk c ls d ta [rn] [] [] ls:=by
  refine ⟨fun b o _ _ e=>g0 b o e,R.same g0,rfl,g0 _ _ hd,⟨.nil,fun j hj=>by simp at hj,fun j _=>rfl,fun j hj=>by simp at hj,rfl⟩,ZP,nta,(ZY hlk0 nta).symm,fun i hi=>?_⟩
  obtain ⟨us,e1,_⟩:=(R.tw i hi).things
  exact ⟨ZY (R.tw i hi).tw.above nta,ZY e1 nta⟩
 refine ⟨fun m σ H'=>∃ (ta:Addr) (todo:List (Option Nat)) (F:List Nat) (kvs:List (Zc×V)) (ls':List V) (x4 x5 x6:Option V),σ=[some (.ref X.S),some (YM (Z9 rn)),some (.ref d),some (.ref ta),x4,x5,x6]/\m=Uc X.ts todo/\Yw CSh CTw H H' X lk c ls d ta todo F kvs ls'/\LA X.ts F todo/\(∀ i,rn=some i->i∈F\/some i∈todo)/\(∀ i,some i∈todo->i<X.ts.length)/\todo.length<=1+4 * F.length,
  ⟨_,ta,[rn],[],[],ls,none,none,none,rfl,rfl,I0,fun j hj=>by simp at hj,fun i hi=>.inr (by rw [hi];exact zAQ.mpr rfl),fun i hi=>hrn i (zAQ.mp hi).symm,zAH _⟩,?_⟩
 rintro m σ H1 ⟨ta,todo,F,kvs,ls',x4,x5,x6,rfl,rfl,r1,clo,root,inn,few⟩
 have lF:=Lo X.ts.length F r1.rcd.nd r1.rcd.lt
 refine ⟨_,rfl,nn (zAC rfl),fun e0 he0=>?_⟩
 have ge:=Za he0 (.lst [])
 have r2:=r1.same ge
 refine ⟨ta,e0,Xj todo,rfl,rfl,ZM.of r2.hta,ZM.of ZP,_,rfl,?_⟩
 generalize upd H1 e0 (.lst [])=H2 at r2 ⊢
 rcases zCN todo with z | ⟨rest,x,z⟩
 ·subst z
  refine Zp ⟨_,rfl,k H2 kvs F ls' r2.fr r2.sh (by rw [r2.len];omega) r2.hd r2.rcd clo fun i hi=>(root i hi).elim id fun z=>by simp at z⟩
 rw [zCO] at z
 subst z
 have ene:(!(Xj (rest++[x])).isEmpty)=true:=by simp [Xj]
 rw [ene]
 have eT:Xj (rest++[x])=Xj rest++[YM (Z9 x)]:=by simp [Xj]
 refine Zy ⟨_,fun _ _ z=>z,?_⟩
 refine ⟨_,rfl,.inl ⟨rfl,_,ZM.of r2.hta⟩,ta,Xj (rest++[x]),YM (Z9 x),rfl,rfl,r2.hta,by rw [eT];simp,?_⟩
 have r3:Yw CSh CTw H (upd H2 ta (.lst (Xj (rest++[x])).dropLast)) X lk c ls d ta rest F kvs ls':=by
  rw [eT,List.dropLast_concat]
  exact r2.pop
 generalize upd H2 ta (.lst (Xj (rest++[x])).dropLast)=H3 at r3 ⊢
 rw [zAL] at few
 have few':rest.length+1<=1+4 * F.length:=few
 have inn':∀ i,some i∈rest->i<X.ts.length:=fun i hi=>inn i (zA3 _ hi)
 cases x with
 | none=>
  refine ⟨_,rfl,_,rfl,Zp (Zp ?_)⟩
  refine ⟨_,MM,ta,rest,F,kvs,ls',_,_,_,rfl,rfl,r3,fun j hj b hb=>(clo j hj b hb).imp id fun z=>?_,fun i hi=>(root i hi).imp id fun z=>?_,inn',by omega⟩
  ·exact (zAg.mp z).elim id fun y=>by simp at y
  ·exact (zAg.mp z).elim id fun y=>by simp at y
 | some j=>
  have hj:=inn j (by simp)
  refine ⟨_,rfl,_,rfl,Zy ?_⟩
  by_cases hF:j∈F
  ·obtain ⟨v,ev,_⟩:=r3.rcd.yes j hF
   have hg:YK H3 d (.int (j:Int)) (some v):=ev ▸ YK.k (k:=Sum.inl (j:Int)) r3.hd
   refine ⟨_,rfl,_,rfl,d,some v,rfl,hg,_,rfl,Zp ?_⟩
   refine ⟨_,MM,ta,rest,F,kvs,ls',_,_,_,rfl,rfl,r3,fun i hi b hb=>?_,fun i hi=>?_,inn',by omega⟩
   ·rcases clo i hi b hb with z | z
    ·exact .inl z
    ·rcases zAg.mp z with y | y
     ·exact .inr y
     ·have:=zAh.inj (zAQ.mp y)
      exact .inl (this ▸ hF)
   ·rcases root i hi with z | z
    ·exact .inl z
    ·rcases zAg.mp z with y | y
     ·exact .inr y
     ·have:=zAh.inj (zAQ.mp y)
      exact .inl (this ▸ hF)
  ·have ev:=r3.rcd.no j hF
   have hg:YK H3 d (.int (j:Int)) none:=ev ▸ YK.k (k:=Sum.inl (j:Int)) r3.hd
   refine ⟨_,rfl,_,rfl,d,none,rfl,hg,_,rfl,Zy ?_⟩
   obtain ⟨dx,hS⟩:=r3.sh.sh.self
   have ll:=r3.len
   refine ⟨_,rfl,X.S,dx,_,rfl,hS,rfl,_,rfl,X,lk,c,ls',j,rfl,r3.sh,hj,by omega,fun H4 tp l us fr4 R4 htp nl hl w1 w2=>?_⟩
   have hd3:=r3.hd
   have m34:Zu H3 H4:=fun b xs e=>fr4 b _ (ZR e r3.sh.sh.looks (by intro z;cases z)) e
   have hd4:=fr4 _ _ dlk hd3
   have hta4:=fr4 _ _ r3.tl r3.hta
   refine ⟨tp,_,rfl,Zj.of htp,rfl,_,_,rfl,_,_,rfl,rfl,?_⟩
   refine ⟨_,rfl,_,rfl,l,us,rfl,.inl ⟨ZM.of hl,fun u nu=>⟨nn (zAC rfl),fun t nt=>?_⟩⟩⟩
   have g5:=Za nu (.tup us)
   have g6:=Za nt (.tup [.str (kindOf (gd X.ts j)),.ref u])
   have g46:=g5.trans g6
   have eu:=g6 _ _ (ZP (H:=H4) (a:=u) (o:=.tup us))
   have et:=ZP (H:=upd H4 u (.tup us)) (a:=t) (o:=.tup [.str (kindOf (gd X.ts j)),.ref u])
   generalize upd (upd H4 u (.tup us)) t (.tup [.str (kindOf (gd X.ts j)),.ref u])=H6 at g46 eu et ⊢
   have hd6:=g46 _ _ hd4
   have hta6:=g46 _ _ hta4
   have hl6:=g46 _ _ hl
   have R6:=R4.same g46
   have lkv:=r3.rcd.len
   refine ⟨_,rfl,_,rfl,d,_,rfl,WY.k (k:=Sum.inl (j:Int)) hd6 (Yp (by omega)),?_⟩
   have rv:WZ H6 (gd X.ts j) (.ref t):=⟨t,u,us,rfl,et,eu,fun z=>(w1 z).mono (ZA.tups g46) _ _,w2⟩
   have rc6:=(((r3.rcd.mono m34).mono (ZA.tups g46)).put hj hF rv)
   have sx:ZE d H6 (upd H6 d (.dK (Yo kvs (Sum.inl (j:Int)) (.ref t)))):=(ZE.refl d H6).upd
   have m67:Zu H6 (upd H6 d (.dK (Yo kvs (Sum.inl (j:Int)) (.ref t)))):=fun b xs e=>sx b _ e (ZR e hd6 (by intro z;cases z))
   have hd7:=ZP (H:=H6) (a:=d) (o:=.dK (Yo kvs (Sum.inl (j:Int)) (.ref t)))
   generalize upd H6 d (.dK (Yo kvs (Sum.inl (j:Int)) (.ref t)))=H7 at sx m67 hd7 ⊢
   have N:¬ UZ X lk d:=by
    obtain ⟨⟨dS,hS'⟩,_,_⟩:=R6.sh
    rintro (z | z | z)
    ·exact ZR hd6 hS' (by intro z;cases z) z
    ·exact dXd z
    ·exact dlk z
   have r7:Yw CSh CTw H H7 X lk c ls d ta rest (F++[j]) (Yo kvs (Sum.inl (j:Int)) (.ref t)) (ls'++[.int (j:Int)]):=by
    refine ⟨fun b o n1 n2 e=>sx b o (g46 b o (fr4 b o n1 (r3.fr b o n1 n2 e))) n2,R6.but sx N (fun i hi=>?_) m67,by rw [zAL,zAL,ll];rfl,hd7,rc6.mono m67,sx _ _ hta6 (ZR hta6 hd6 (by intro z;cases z)),r3.nta,r3.tl,r3.tw⟩
    have W:=R6.tw i hi
    obtain ⟨dy,hy⟩:=W.tw.self
    obtain ⟨us',e1,_⟩:=W.things
    exact ⟨ZR hy hd6 (by intro z;cases z),ZR W.tw.above hd6 (by intro z;cases z),ZR e1 hd6 (by intro z;cases z)⟩
   have hl7:=sx _ _ hl6 (ZR hl6 hd6 (by intro z;cases z))
   have clo':∀ i∈F,∀ b∈(gd X.ts i).bs,b∈F++[j]\/some b∈rest:=fun i hi b hb=>by
    rcases clo i hi b hb with z | z
    ·exact .inl (zA3 _ z)
    ·rcases zAg.mp z with y | y
     ·exact .inr y
     ·exact .inl (zAa _ (zAQ.mpr (zAh.inj (zAQ.mp y))))
   have root':∀ i,rn=some i->i∈F++[j]\/some i∈rest:=fun i hi=>by
    rcases root i hi with z | z
    ·exact .inl (zA3 _ z)
    ·rcases zAg.mp z with y | y
     ·exact .inr y
     ·exact .inl (zAa _ (zAQ.mpr (zAh.inj (zAQ.mp y))))
   have lFj:(F++[j]).length=F.length+1:=by rw [zAL];rfl
   have ok:=hw j _ (Y1 hj)
   refine ⟨_,rfl,rfl,_,rfl,?_⟩
   rw [JI]
   by_cases h0:(gd X.ts j).h=0
   ·rw [decide_eq_false (show ¬ (gd X.ts j).h≠0 from fun z=>z h0)]
    refine Zp ⟨_,MM,ta,rest,F++[j],_,_,_,_,_,rfl,rfl,r7,fun i hi b hb=>?_,root',inn',by omega⟩
    rcases zAg.mp hi with z | z
    ·exact clo' i z b hb
    ·rw [zAQ.mp z,(ok.leaf h0).1] at hb
     simp at hb
   ·rw [decide_eq_true (show (gd X.ts j).h≠0 from h0)]
    obtain ⟨b2,b4,b3,_⟩:=ok.stem h0
    have eus:=w2 h0
    have lus:us.length=(gd X.ts j).bs.length:=by rw [eus];exact zAD _
    have lto:(Xj rest).length=rest.length:=zAD _
    refine Zy ⟨_,rfl,_,rfl,l,us,rfl,.inl (ZM.of hl7),fun q1 n1=>?_⟩
    have g8:=Za n1 (.lst us)
    have r8:=r7.same g8
    refine ⟨ta,q1,Xj rest,us,rfl,rfl,r8.hta,ZP,nn (by omega),fun q2 n2=>?_⟩
    have e9:Xj rest++us=Xj (rest++(gd X.ts j).bs.map some):=by
     rw [eus]
     simp [Xj,iN,YM,Z9]
    rw [e9]
    refine ⟨_,Cb hw hj h0,q2,rest++(gd X.ts j).bs.map some,F++[j],_,_,_,_,_,rfl,rfl,r8.anew n2 lkne dne,fun i hi b hb=>?_,fun i hi=>(root' i hi).imp id fun z=>zA3 _ z,fun i hi=>?_,by rw [zAL,zAD];omega⟩
    ·rcases zAg.mp hi with z | z
     ·exact (clo' i z b hb).imp id fun y=>zA3 _ y
     ·rw [zAQ.mp z] at hb
      exact .inr (zAa _ (zAf.mpr ⟨b,hb,rfl⟩))
    ·rcases zAg.mp hi with z | z
     ·exact inn' i z
     ·obtain ⟨b,hb,e⟩:=zAf.mp z
      cases e
      have:=(b3 i hb).1
      omega
end
theorem Dk {gt:List KT} {ts:List ZU} (hw:WF gt ts) {j:Nat} (hj:j<ts.length) (h0:(gd ts j).h≠0):∃ b,(gd ts j).bs[0]? = some b/\(Z7 (gd ts j)).lo=(Z7 (gd ts b)).lo:=by
 obtain ⟨b2,b4,b3,er⟩:=(hw j _ (Y1 hj)).stem h0
 cases hb:(gd ts j).bs with
 | nil=>rw [hb] at b2;simp at b2
 | cons b bs=>
  refine ⟨b,rfl,?_⟩
  have hbl:b<ts.length:=by
   have:=(b3 b (by rw [hb];exact zAR ..)).1
   omega
  have ne:=(hw b _ (Y1 hbl)).ne
  show ((gd ts j).rows.getD 0 rd).1=((gd ts b).rows.getD 0 rd).1
  rw [er,hb,zBc]
  cases hr:(gd ts b).rows with
  | nil=>exact absurd hr ne
  | cons r rs=>rfl
section
variable {P:Program} {w:World} {K:zAA} {mg:Str->Option Value} {base:Heap} {f:Addr} {fd:FuncData} {CSh CTw:Addr}
structure Yx (gt:List KT) (ts:List ZU) (H:Hp) (d:Addr) (kvs:List (Zc×V)) (F:List Nat):Prop where
 hd:H d=some (.dK kvs)
 rcd:Yq ts H kvs F
 clo:LA ts F []
 wf:WF gt ts
theorem Yx.same {gt:List KT} {ts:List ZU} {H H':Hp} {d:Addr} {kvs:List (Zc×V)} {F:List Nat} (r:Yx gt ts H d kvs F) (s:ZA H H'):Yx gt ts H' d kvs F:=⟨s _ _ r.hd,r.rcd.mono (ZA.tups s),r.clo,r.wf⟩
theorem Yx.get {gt:List KT} {ts:List ZU} {H:Hp} {d:Addr} {kvs:List (Zc×V)} {F:List Nat} (r:Yx gt ts H d kvs F) {j:Nat} (hj:j∈F):∃ tp u us,YK H d (.int (j:Int)) (some (.ref tp))/\H tp=some (.tup [.str (kindOf (gd ts j)),.ref u])/\H u=some (.tup us)/\((gd ts j).h=0->KeysAt H (YF (gd ts j).rows) us)/\((gd ts j).h≠0->us=iN (gd ts j).bs):=by
 obtain ⟨v,ev,tp,u,us,rfl,h1,h2,h3,h4⟩:=r.rcd.yes j hj
 exact ⟨tp,u,us,ev ▸ YK.k (k:=Sum.inl (j:Int)) r.hd,h1,h2,h3,h4⟩
theorem Yx.sub {gt:List KT} {ts:List ZU} {H:Hp} {d:Addr} {kvs:List (Zc×V)} {F:List Nat} (r:Yx gt ts H d kvs F) {j b:Nat} (hj:j∈F) (hb:b∈(gd ts j).bs):b∈F:=(r.clo j hj b hb).elim id fun z=>by simp at z
def O4 (gt:List KT):Sp:=fun vs H Q _=>∃ (ts:List ZU) (d:Addr) (kvs:List (Zc×V)) (F:List Nat) (j:Nat),vs=[.ref d,.int (j:Int)]/\Yx gt ts H d kvs F/\j∈F/\∀ v,ZD H (Z7 (gd ts j)).lo v->Q v H
theorem WE:ZC ["_law_record","_law_number","_law_kind","_law_what"] ["_law_record","_law_number"] (Zf NJ):=⟨rfl,rfl,rfl,by decide +kernel,rfl,by decide +kernel,by decide +kernel⟩
theorem BE {gt:List KT} (F0:Zk K "_law_least" "_law_least" NJ f fd):ZK P w K mg base ZV 1 f fd ["_law_record","_law_number"] (O4 gt):=by
 refine F0.ok WE (fun vs H Q E h=>(by obtain ⟨_,_,_,_,_,rfl,_⟩:=h;rfl)) (fun cdv A outer s H vs Q E hr h=>?_)
 obtain ⟨ts,d,kvs,F,j,rfl,R,hj,k⟩:=h
 have nd:=WE.nd
 have hu:=Us hr
 refine ⟨_,ZS (Vw (QZ hu (pv 0) (pv 1) (fun _ _=>rfl)) (QD rfl (VR (Y6 (i:=2) nd rfl (Or.inl rfl)) (VR (Y6 (i:=3) nd rfl (Or.inl rfl)) Qa))))
  (ZS (UR PassesOwn.never (Yn X2 (pv 2) Y3 (Z2 _))
   (ZW (Vw (QZ hu (pv 0) (Zo (r:=Xc K) Zl (pv 3) ZO (fun _ _=>rfl)) (fun _ _=>rfl)) (QD rfl (VR (Y6 (i:=2) nd rfl (Or.inl rfl)) (VR (Y6 (i:=3) nd rfl (Or.inl rfl)) Qa))))))
  (ZW (Zi (Zo (r:=Xc K) Zl (Zo (r:=Xc K) Zl (pv 3) ZO (fun _ _=>rfl)) ZO (fun _ _=>rfl))))),?_⟩
 obtain ⟨tp,u,us,g1,h1,h2,h3,h4⟩:=R.get hj
 refine ⟨_,rfl,_,rfl,d,.ref tp,rfl,g1,tp,_,rfl,Zj.of h1,rfl,_,_,rfl,_,_,rfl,rfl,?_⟩
 refine ⟨fun m σ H'=>∃ (c:Nat) (u:Addr) (us:List V),σ=[some (.ref d),some (.int (j:Int)),some (.str (kindOf (gd ts c))),some (.ref u)]/\m=(gd ts c).h/\H'=H/\c∈F/\(Z7 (gd ts j)).lo=(Z7 (gd ts c)).lo/\H u=some (.tup us)/\((gd ts c).h=0->KeysAt H (YF (gd ts c).rows) us)/\((gd ts c).h≠0->us=iN (gd ts c).bs),
  ⟨_,j,u,us,rfl,rfl,rfl,hj,rfl,h2,h3,h4⟩,?_⟩
 rintro m σ H1 ⟨c,u,us,rfl,rfl,rfl,hc,elo,h2,h3,h4⟩
 have hcl:=R.rcd.lt c hc
 have ok:=R.wf c _ (Y1 hcl)
 refine ⟨_,rfl,rfl,_,rfl,?_⟩
 rw [JI]
 by_cases h0:(gd ts c).h=0
 ·rw [decide_eq_false (show ¬ (gd ts c).h≠0 from fun z=>z h0)]
  have kr:=h3 h0
  have lr:us.length=(gd ts c).rows.length:=by have:=kr.length;rw [<-this];exact zAD _
  have pos:0<us.length:=by rw [lr];exact List.length_pos_iff.mpr ok.ne
  have hu0:us[0]? = some us[0]:=zAE pos
  obtain ⟨a,vk,vv,er,e1,ea,k1,k2⟩:=UG kr hu0
  rw [e1] at hu0
  refine Zp ⟨_,rfl,u,_,_,.ref a,rfl,rfl,Zj.of h2,XL (j:=0) hu0,a,_,_,vk,rfl,rfl,Zj.of ea,rfl,k vk ?_⟩
  rw [elo]
  exact k1
 ·rw [decide_eq_true (show (gd ts c).h≠0 from h0)]
  obtain ⟨b,eb,el⟩:=Dk R.wf hcl h0
  have hb:=zAK eb
  have hbF:=R.sub hc hb
  have hbh:=((ok.stem h0).2.2.1 b hb).2
  obtain ⟨tp,u',us',g1,e1,e2,e3,e4⟩:=R.get hbF
  have eus:=h4 h0
  refine Zy ⟨_,fun _ _ z=>z,?_⟩
  refine ⟨_,rfl,_,rfl,u,_,_,.int (b:Int),rfl,rfl,Zj.of h2,(by rw [eus];exact XL (j:=0) (by unfold iN;rw [zAN,eb];rfl)),d,.ref tp,rfl,g1,tp,_,rfl,Zj.of e1,rfl,_,_,rfl,_,_,rfl,rfl,?_⟩
  exact ⟨(gd ts b).h,by omega,b,u',us',rfl,rfl,rfl,hbF,elo.trans el,e2,e3,e4⟩
end
def Kd (A:Around) (s:Shared) (v u:Value) (b:Bool):Prop:=
 ∀ (prog:Program) (w:World) (E:Value->Shared->Prop) (Q:Value->Shared->Prop),Q (.bool b) s->wpAny (model prog w) A (richCompare .LtE v u) Q E s
section
open PySem.SeqAt
open PySem.AutoSeq1 (wpAny_loadPart')
open PySem.MeetsSeq PySem.MeetsSeq2 PySem.MeetsSeq3
theorem Gn (l b:Addr) (items items2:Array Value) (n n2:Nat) (dd dd2:Option Addr) (sl sl2:Array (Option Value)) (ts us:List KT) :
  Meets (Builtin.«tuple.__le__» ⟨[.ref l,.ref b],[]⟩)
   (fun A R s=>s.heap.get? l=some { cls:=.type "tuple",dict:=dd,data:=.seq items n,slots:=sl }/\s.heap.get? b=some { cls:=.type "tuple",dict:=dd2,data:=.seq items2 n2,slots:=sl2 } /\
    KVals s.heap ts items.toList/\KVals s.heap us items2.toList/\cmpL ts us=true /\
    (∀ x y v u,x∈ts->ZL s.heap x v->ZL s.heap y u->EqAt A.in1 s v u (x.eqb y))/\(∀ x y v u,x∈ts->ZL s.heap x v->ZL s.heap y u->x.cmp y=true->Kd A.in1 s v u (!y.plt x)) /\
    R (.ok (.ret (.bool (!pltL us ts)))) s):=
 .of_wp fun prog w A R s h=>by
  obtain ⟨hp,g,d,tk,os⟩:=s;obtain ⟨hl,hb,hi,hj,hc,hE,hL,h⟩:=h
  have f2:=AutoSeq1.sub_tuple_tuple
  have z1:items.size=ts.length:=by rw [hi.length];simp
  have z2:items2.size=us.length:=by rw [hj.length];simp
  wp_walk using wpAny_loadPart' hl,wpAny_loadPart' hb,wpAny_forIn_list _ (fun rest b s'=>b.1=none/\s'=⟨hp,g,d,tk,os⟩/\∃ (vs ws:List Value) (ts' us':List KT),rest=vs.zip ws /\
   KVals hp ts' vs/\KVals hp us' ws/\(∀ x∈ts',x∈ts)/\cmpL ts' us'=true/\ts'.length+items2.size=us'.length+items.size/\R (.ok (.ret (.bool (!pltL us' ts')))) ⟨hp,g,d,tk,os⟩) _
  case turn=>
   rintro ⟨y,x⟩ rest b s' ⟨hb',rfl,vs,ws,ts',us',hz,hvi,hwi,hin,hcm,hlen,hR⟩
   cases ts' with
   | nil=>rw [KVals] at hvi;subst hvi;rw [List.zip_nil_left] at hz;cases hz
   | cons a ts'=>
    cases us' with
    | nil=>rw [KVals] at hwi;subst hwi;rw [List.zip_nil_right] at hz;cases hz
    | cons c us'=>
     rw [KVals] at hvi hwi
     obtain ⟨v,vr,rfl,ka,hvi'⟩:=hvi
     obtain ⟨u,ur,rfl,kc,hwi'⟩:=hwi
     rw [zB6] at hz
     injection hz with hyx hrest
     injection hyx with hy hx
     subst hy hx
     rw [pltL,eqb_comm' c a] at hR
     rw [cmpL] at hcm
     simp only [zAX] at hlen
     have he:=hE a c y x (hin a zAR) ka kc
     refine wpAny_bind (he prog w _ _ ?_)
     cases hq:a.eqb c with
     | true=>
      rw [hq,if_pos rfl] at hR hcm
      wp_walk
      exact ⟨rfl,rfl,_,_,_,_,hrest,hvi',hwi',fun z hz=>hin z (zAP _ hz),hcm,by omega,hR⟩
     | false=>
      rw [hq,if_neg zAF] at hR hcm
      have hri:=hL a c y x (hin a zAR) ka kc hcm prog w
      wp_walk using hri
      exact ⟨_,rfl,by simpa using hR⟩
  case fin=>
   rintro ⟨b1,b2⟩ s' ⟨hb',rfl,vs,ws,ts',us',hz,hvi,hwi,hin,hcm,hlen,hR⟩
   simp only at hb'
   subst hb'
   have hv:pltL us' ts'=decide (items2.size<items.size):=by
    cases ts' with
    | nil=>
     cases us' with
     | nil=>
      simp only [zBQ] at hlen
      rw [pltL]
      exact (decide_eq_false (by omega)).symm
     | cons c us'=>
      simp only [zBQ,zAX] at hlen
      rw [pltL]
      exact (decide_eq_false (by omega)).symm
    | cons a ts'=>
     cases us' with
     | nil=>
      simp only [zBQ,zAX] at hlen
      rw [pltL]
      exact (decide_eq_true (by omega)).symm
     | cons c us'=>
      rw [KVals] at hvi hwi
      obtain ⟨v,vr,rfl,_,_⟩:=hvi
      obtain ⟨u,ur,rfl,_,_⟩:=hwi
      rw [zB6] at hz
      cases hz
   rw [hv,show (!decide (items2.size<items.size))=decide (items.size<=items2.size) by by_cases z:items2.size<items.size <;> simp [z] <;> omega] at hR
   wp_walk
   exact ⟨_,rfl,by simpa [Builtin.Tuple.tupleCompareSizes] using hR⟩
  case h=>
   exact ⟨rfl,rfl,items.toList,items2.toList,ts,us,rfl,hi,hj,fun _ hx=>hx,hc,by omega,h⟩
end
theorem Jn {s:Shared}:∀ (n:Nat) (a b:KT) (A:Around) (v u:Value),a.depth<=n->ZL s.heap a v->ZL s.heap b u->a.cmp b=true->A.units+a.depth<cLine->Kd A s v u (!b.plt a)
 | n,.int i,b,A,v,u,_,x,y,hc,hu=>by
  rw [ZL] at x
  obtain ⟨t,rfl⟩:=x
  cases b with
  | int j=>rw [ZL] at y;obtain ⟨t',rfl⟩:=y;rw [KT.plt];exact fun prog w E Q h=>(le_int (by rw [show decide (i<=j) = !decide (j<i) by by_cases z:j<i <;> simp [z] <;> omega];exact h):wpAny (model prog w) A (compareOp .LtE (.int i t) (.int j t')) Q E s)
  | str z=>simp [KT.cmp] at hc
  | tup m=>simp [KT.cmp] at hc
 | n,.str w,b,A,v,u,_,x,y,hc,hu=>by
  rw [ZL] at x
  obtain ⟨t,rfl⟩:=x
  cases b with
  | int j=>simp [KT.cmp] at hc
  | str z=>rw [ZL] at y;obtain ⟨t',rfl⟩:=y;rw [KT.plt];exact fun prog w' E Q h=>(PySem.P.le_str h:wpAny (model prog w') A (compareOp .LtE (.str w t) (.str z t')) Q E s)
  | tup m=>simp [KT.cmp] at hc
 | 0,.tup l,b,A,v,u,hn,x,y,hc,hu=>by
  rw [KT.depth] at hn
  omega
 | n+1,.tup l,b,A,v,u,hn,x,y,hc,hu=>by
  rw [ZL] at x
  obtain ⟨p,its,rfl,px,kx⟩:=x
  rw [KT.depth] at hn hu
  have hu':A.units<cLine:=by omega
  cases b with
  | int j=>simp [KT.cmp] at hc
  | str z=>simp [KT.cmp] at hc
  | tup m=>
   rw [ZL] at y
   obtain ⟨q,its',rfl,py,ky⟩:=y
   rw [KT.cmp] at hc
   rw [KT.plt]
   intro prog w E Q h
   obtain ⟨⟨cls,dd,data,sl⟩,ho,hcl,nn1,hd⟩:=id px
   obtain ⟨⟨cls2,dd2,data2,sl2⟩,ho2,hcl2,nn2,hd2⟩:=id py
   simp only at hcl hd hcl2 hd2
   subst hcl hd hcl2 hd2
   refine richCompare_meets_room (op:=.LtE) ⟨_,ho,rfl⟩ ⟨_,ho2,rfl⟩ PySem.F.slot_tuple_le PySem.F.entry_tuple_le (PySem.F.args_tuple_le_2 _ _) (Gn p q its.toArray its'.toArray nn1 nn2 dd dd2 sl sl2 l m)
    ⟨ho,ho2,kx,ky,hc,fun x y v u hx k1 k2=>?_,fun x y v u hx k1 k2 k3=>?_,show Value.bool (!pltL m l)≠Value.notImplemented/\Q (.bool (!pltL m l)) s from ⟨(fun x=>nomatch x),h⟩⟩ hu'
   ·have d1:=Vf hx
    exact U1 x.depth x y A.in1 v u (zAH _) k1 k2 (by show A.units+1+x.depth<cLine;omega)
   ·have d1:=Vf hx
    exact Jn n x y A.in1 v u (by omega) k1 k2 k3 (by show A.units+1+x.depth<cLine;omega)
section
variable {X:Cx}
def AE:R2:=fun x y H Q=>∃ a b,ZD H a x/\ZD H b y/\a.cmp b=true/\a.depth<=200/\Q (.bl (!b.plt a)) H
theorem AH {k:Nat} (hr:ZZ k X.A):YV X (compareOp .LtE) AE:=by
 intro pins s σ H x y v u Q I rx ry h
 obtain ⟨a,b,ha,hb,hc,hd,q⟩:=h
 exact Jn a.depth a b X.A v u (zAH _) (Wo I a x v ha rx) (Wo I b y u hb ry) hc (ZZ.key hr hd) X.prog X.w X.xe _ ⟨.bl _,H,I,rfl,q⟩
end
theorem JO:∀ (r:List Int) (m x:Int),WQ m (r++[x])=if x > WQ m r then x else WQ m r
 | [],m,x=>rfl
 | y :: r,m,x=>by
  rw [zCG,WQ,WQ]
  exact JO r _ x
theorem G3 {r:List Int} {x:Int} (h:r=[]\/Vs 0 r<x):Vs 0 (r++[x])=x:=by
 cases r with
 | nil=>rfl
 | cons y r=>
  rcases h with z | z
  ·cases z
  ·rw [zCG]
   show WQ y (r++[x])=x
   rw [JO]
   exact if_pos z
theorem Ko:∀ n:Nat,Vs 0 ((zAi (n+1)).map fun i:Nat=>(i:Int))=(n:Int)
 | 0=>rfl
 | n+1=>by
  rw [zBY,zAZ]
  exact G3 (x:=((n+1:Nat):Int)) (.inr (by rw [Ko n];omega))
theorem K8 (p:Nat->Bool):∀ (n:Nat),(∀ i j,i<=j->j<n->p j=true->p i=true)->Vs 0 (((zAi n).filter p).map fun i:Nat=>(i:Int))=((((zAi n).filter p).length - 1:Nat):Int)
 | 0,_=>rfl
 | n+1,h=>by
  cases hp:p n with
  | true=>
   have e:(zAi (n+1)).filter p=zAi (n+1):=zCY.mpr fun i hi=>by
    have:=zA2.mp hi
    exact h i n (by omega) (by omega) hp
   rw [e,Ko,List.length_range]
   rfl
  | false=>
   have e:(zAi (n+1)).filter p=(zAi n).filter p:=by
    rw [zBY,zBL]
    simp [hp]
   rw [e]
   exact K8 p n fun i j h1 h2=>h i j h1 (by omega)
theorem Ky {α:Type} (d:α) (p:α->Bool) (l:List α):∀ n,n<=l.length->((zAi n).filter fun j=>p (l.getD j d)).length=((l.take n).filter p).length
 | 0,_=>rfl
 | n+1,h=>by
  have hn:n<l.length:=by omega
  have eg:l[n]? = some (l.getD n d):=by rw [zAB,zAE hn];rfl
  rw [zBY,zBL,zAL,Ky d p l n (by omega),QJ p eg,zAL]
  congr 1
  rw [zBl]
  cases p (l.getD n d) <;> rfl
theorem HR {gt:List KT} {ts:List ZU} (hw:WF gt ts) {j:Nat} (hj:j<ts.length) (h0:(gd ts j).h≠0):(gd ts j).bs.Pairwise fun a b=>(Z7 (gd ts a)).lo.lt (Z7 (gd ts b)).lo=true:=by
 have ok:=hw j _ (Y1 hj)
 obtain ⟨b2,b4,b3,er⟩:=ok.stem h0
 have up:=ok.up
 rw [er,List.map_flatMap,zDK] at up
 have lo:∀ b∈(gd ts j).bs,(Z7 (gd ts b)).lo∈(gd ts b).rows.map (·.1):=fun b hb=>by
  have hbl:b<ts.length:=by have:=(b3 b hb).1;omega
  obtain ⟨r,rs,e1,e2⟩:=Uk (hw b _ (Y1 hbl)).ne
  rw [e1,e2]
  exact zAR ..
 have:=up.2
 exact this.imp_of_mem fun {a b} ha hb h=>h _ (lo a ha) _ (lo b hb)
theorem Gs {gt:List KT} {ts:List ZU} (hw:WF gt ts) {j:Nat} (hj:j<ts.length) (h0:(gd ts j).h≠0) (k:KT) :
  Vs 0 (((zAi (gd ts j).bs.length).filter fun i=>!k.lt (Z7 (gd ts ((gd ts j).bs.getD i 0))).lo).map fun i:Nat=>(i:Int))=((Yc ts k j:Nat):Int):=by
 have ri:=HR hw hj h0
 rw [K8]
 ·have e:=Ky 0 (fun b=>!k.lt (Z7 (gd ts b)).lo) (gd ts j).bs (gd ts j).bs.length (zAH _)
  rw [List.take_length] at e
  unfold Yc
  rw [if_neg h0,e]
 ·intro a b hab hb hp
  rcases zAj a b with c | c
  ·have ea:(gd ts j).bs[a]? = some ((gd ts j).bs.getD a 0):=by rw [zAB,zAE (by omega)];rfl
   have eb:(gd ts j).bs[b]? = some ((gd ts j).bs.getD b 0):=by rw [zAB,zAE hb];rfl
   have:=PL ri c ea eb
   cases q:k.lt (Z7 (gd ts ((gd ts j).bs.getD a 0))).lo with
   | false=>rfl
   | true=>
    rw [lt_trans' _ _ _ q this] at hp
    cases hp
  ·have:a=b:=by omega
   rw [this]
   exact hp
section
variable {P:Program} {w:World} {K:zAA} {mg:Str->Option Value} {base:Heap} {f:Addr} {fd:FuncData}
def OO (gt:List KT):Sp:=fun vs H Q _=>∃ (ts:List ZU) (d:Addr) (kvs:List (Zc×V)) (F:List Nat) (rn:Option Nat) (v:V) (k:KT),vs=[.ref d,YM (Z9 rn),v]/\Yx gt ts H d kvs F/\(∀ i,rn=some i->i∈F)/\(∀ i,i<ts.length->(gd ts i).h<=60)/\ZD H k v/\k.fits 3=true /\
 ∀ (H':Hp) (D:Addr) (us:List V),ZA H H'->H D=none->H' D=some (.lst us)->KeysAt H' ((Yt ts k rn).map Vh) us->Q (.ref D) H'
abbrev E6:List Str:=["_law_record","_law_root","_law_spot","_law_way_here","_law_number","_law_kind","_law_what","_law_some","_law_at"]
theorem V7:ZC E6 ["_law_record","_law_root","_law_spot"] (Zf OY):=⟨rfl,rfl,rfl,by decide +kernel,rfl,by decide +kernel,by decide +kernel⟩
theorem EN {gt:List KT} (F0:Zk K "_law_way" "_law_way" OY f fd) (T:YG mg) (DR:ZB P w K mg base 6 "_law_rank" ["_law_spot"] (Ub 5)) (DL:ZB P w K mg base 1 "_law_least" ["_law_record","_law_number"] (O4 gt)):ZK P w K mg base ZV 7 f fd ["_law_record","_law_root","_law_spot"] (OO gt):=by
 refine F0.ok V7 (fun vs H Q E h=>(by obtain ⟨_,_,_,_,_,_,_,rfl,_⟩:=h;rfl)) (fun cdv A outer s H vs Q E hr h=>?_)
 obtain ⟨ts,d,kvs,F,rn,v,k,rfl,R,hrn,low,hv,fk,q⟩:=h
 have nd:=V7.nd
 have hu:=Us hr
 have hr1:=hr.mono (show 1<=6 by decide)
 refine ⟨_,ZS (Zm (i:=3) nd rfl (Or.inl rfl) (Ye ZG))
  (ZS (Zm (i:=4) nd rfl (Or.inl rfl) (pv 1))
  (ZS (UR PassesOwn.never (UY (P9 (pv 4)))
   (ZS (Vw (QZ hu (pv 0) (pv 4) (fun _ _=>rfl)) (QD rfl (VR (Y6 (i:=5) nd rfl (Or.inl rfl)) (VR (Y6 (i:=6) nd rfl (Or.inr rfl)) Qa))))
   (ZW (Z5 (Yn X2 (pv 5) Y3 (Z2 _))
    (ZS (XX (VV zAn zAv zAu VO (pv 3) (ZI (YU (ZI (pv 4) (ZI (Zw XH rfl T.len XA (ZI (Xr [2] ["_law_spot"] rfl (Px (pv 6)) (fun _ _ _ _ _=>O6 (Yn (LM hr) (Zg DR hr (ZI (Zo (r:=Xc K) Zl (pv 0) ZO (fun _ _=>rfl)) ZG)) (Zg DR hr (ZI (pv 1) ZG)) (Z2 _))) (fun _ _ _ _ _=>pv 0) ⟨rfl,.inl rfl,rfl,trivial⟩) ZG)) ZG))) ZG)))
    (ZW (Zm (i:=4) nd rfl (Or.inl rfl) U5)))
    (ZS (Ii (i:=7) [0,6,2] ["_law_record","_law_what","_law_spot"] nd rfl rfl rfl (V2 rfl T.range (ZI (Zw XH rfl T.len XA (ZI (pv 6) ZG)) ZG)) (fun _ _ _ _ _=>O6 (Yn (AH hr) (Zg DR hr (ZI (Zg DL hr1 (ZI (pv 1) (ZI (Zo (r:=Xc K) Zl (pv 2) (pv 0) (fun _ _=>rfl)) ZG))) ZG)) (Zg DR hr (ZI (pv 3) ZG)) (Z2 _))) (fun _ _ _ _ _=>pv 0) ⟨rfl,.inl rfl,rfl,rfl,.inl rfl,rfl,rfl,.inl rfl,rfl,trivial⟩)
    (ZS (Zm (i:=8) nd rfl (Or.inl rfl) (EG rfl rfl T.max (ZI (pv 7) ZG) (Kc ZO JT)))
    (ZS (XX (VV zAn zAv zAu VO (pv 3) (ZI (YU (ZI (pv 4) (ZI (pv 8) ZG))) ZG)))
    (ZW (Zm (i:=4) nd rfl (Or.inl rfl) (Zo (r:=Xc K) Zl (pv 6) (pv 8) (fun _ _=>rfl)))))))))))
  (ZW (Zi (pv 3))))),?_⟩
 refine ⟨nn (zAC rfl),fun D nD=>?_⟩
 have gD:=Za nD (.lst [])
 have eD:=ZP (H:=H) (a:=D) (o:=.lst [])
 generalize upd H D (.lst [])=H1 at gD eD ⊢
 refine ⟨_,rfl,?_⟩
 refine ⟨fun m σ H'=>∃ (cur:Option Nat) (pre:List (Nat×Nat)) (us:List V) (x5 x6 x7 x8:Option V),σ=[some (.ref d),some (YM (Z9 rn)),some v,some (.ref D),some (YM (Z9 cur)),x5,x6,x7,x8]/\m=(match cur with | none=>0 | some j=>(gd ts j).h+1)/\(∀ j,cur=some j->j∈F)/\Yt ts k rn=pre++Yt ts k cur/\ZA H H'/\H' D=some (.lst us)/\KeysAt H' (pre.map Vh) us,
  ⟨_,rn,[],[],none,none,none,none,rfl,rfl,hrn,rfl,gD,eD,.nil⟩,?_⟩
 rintro m σ H2 ⟨cur,pre,us,x5,x6,x7,x8,rfl,rfl,hcur,epre,s2,eD2,kus⟩
 have lw:=Ml k low fun i hi=>R.rcd.lt i (hrn i hi)
 have lpre:pre.length<=61:=by
  have e:=congrArg zCD epre
  rw [zAL] at e
  omega
 have lus:us.length=pre.length:=by have:=kus.length;rw [<-this];exact zAD _
 cases cur with
 | none=>
  have e':Yt ts k rn=pre:=by rw [epre];exact zAz _
  exact ⟨_,rfl,_,rfl,Zp ⟨_,rfl,q H2 D us s2 nD eD2 (by rw [e'];exact kus)⟩⟩
 | some j=>
  have hj:=hcur j rfl
  have hjl:=R.rcd.lt j hj
  have ok:=R.wf j _ (Y1 hjl)
  have R2:=R.same s2
  obtain ⟨tp,u,ws,g1,h1,h2,h3,h4⟩:=R2.get hj
  have dk:=Wd k 3 fk
  have fin:∀ {H3:Hp} {t:Addr} {n:Int},ZA H2 H3->n=((Yc ts k j:Nat):Int)->H3 t=none->KeysAt (upd (upd H3 t (.tup [YM (Z9 (some j)),.int n])) D (.lst (us++[.ref t]))) ((pre++[(j,Yc ts k j)]).map Vh) (us++[.ref t])/\ZA H (upd (upd H3 t (.tup [YM (Z9 (some j)),.int n])) D (.lst (us++[.ref t])))/\ZA H2 (upd H3 t (.tup [YM (Z9 (some j)),.int n]))/\upd H3 t (.tup [YM (Z9 (some j)),.int n]) D=some (.lst us):=fun {H3 t n} s3 en nt=>by
   have g:=Za nt (.tup [YM (Z9 (some j)),.int n])
   have et:=ZP (H:=H3) (a:=t) (o:=.tup [YM (Z9 (some j)),.int n])
   have s4:=s3.trans g
   generalize upd H3 t (.tup [YM (Z9 (some j)),.int n])=H4 at g et s4 ⊢
   have eD4:=s4 _ _ eD2
   have tD:Zu H4 (upd H4 D (.lst (us++[.ref t]))):=(ZE.refl D H4).upd.tups eD4
   refine ⟨?_,We (s2.trans s4) nD,s4,eD4⟩
   rw [zAZ]
   refine ((kus.mono (ZA.tups s4) _ _).mono tD _ _).append (.cons (.tup (tD _ _ et) (.cons (.int _) (.cons ?_ .nil))) .nil)
   rw [en]
   exact .int _
  refine ⟨_,rfl,_,rfl,Zy ⟨_,fun _ _ z=>z,?_⟩⟩
  refine ⟨_,rfl,_,rfl,d,.ref tp,rfl,g1,tp,_,rfl,Zj.of h1,rfl,_,_,rfl,_,_,rfl,rfl,?_⟩
  refine ⟨_,rfl,rfl,_,rfl,?_⟩
  rw [KD]
  by_cases h0:(gd ts j).h=0
  ·rw [decide_eq_true h0]
   have kr:=h3 h0
   have lr:ws.length=(gd ts j).rows.length:=by have:=kr.length;rw [<-this];exact zAD _
   have l4:=(ok.leaf h0).2
   refine Zy ⟨_,rfl,.inl ⟨rfl,_,ZM.of eD2⟩,_,rfl,_,rfl,u,rfl,⟨ws,Zj.of h2⟩,NX (n:=ws.length) (fun i z=>ws[i]? = some z) (fun i=>((gd ts j).rows.getD i rd).1.lt k) (fun E i ys H3=>ZA H2 H3/\H2 E=none/\ys.length=((((gd ts j).rows.map (·.1)).take i).filter fun x=>x.lt k).length) (Yp (by omega))
    (fun E i ys H3 hi hP=>⟨ws,ws[i],Zj.of (hP.1 _ _ h2),by simp [hi]⟩) (fun E i ys H3 z H4 hi hP hy=>⟨hy.1,hy.2 ws (Zj.of (hP.1 _ _ h2))⟩) (fun E ys H3 hP=>⟨ws,Zj.of (hP.1 _ _ h2),zAH _⟩)
    (fun E hE=>⟨Za hE _,hE,rfl⟩) (fun E i ys H3 z eE hi hz hP B hB=>?_) (fun E i ys H3 z eE hi hz hk hP B hB=>?_) (fun E i ys H3 eE hi hk hP=>?_) (fun E ys H3 eE hP=>?_)⟩
   ·obtain ⟨s3,nE,ly⟩:=hP
    obtain ⟨a,vk,vv,er,rfl,ea,k1,k2⟩:=UG kr hz
    have ff:=(ok.inn _ (zAK er)).1
    have df:=Wd _ 3 ff
    refine ⟨_,rfl,a,_,_,vk,rfl,rfl,Zj.of (s3 _ _ ea),rfl,vk,_,3,rfl,k1.mono (ZA.tups s3) _ _,ff,by omega,fun v1 H4 kv1 s4=>?_⟩
    refine ⟨_,rfl,v,k,3,rfl,(hv.mono (ZA.tups s2) _ _).mono (ZA.tups (s3.trans s4)) _ _,fk,by omega,fun v2 H5 kv2 s5=>?_⟩
    have d1:=Qh ((gd ts j).rows.getD i rd).1
    refine ⟨_,_,kv1.mono (ZA.tups s5) _ _,kv2,Qp _ _,by omega,_,rfl,?_⟩
    rw [Po]
    exact hB H5 ((s4.trans s5) _ _ eE) ⟨s3.trans (s4.trans s5),nE,ly⟩
   ·obtain ⟨s3,nE,ly⟩:=hP
    obtain ⟨a,vk,vv,er,rfl,ea,k1,k2⟩:=UG kr hz
    refine ⟨_,rfl,hB _ H3 eE ⟨We s3 nE,nE,?_⟩⟩
    rw [QJ _ (by rw [zAN,er];rfl),if_pos hk,zAL,zAL,ly]
    rfl
   ·obtain ⟨s3,nE,ly⟩:=hP
    refine ⟨s3,nE,?_⟩
    have er:(gd ts j).rows[i]? = some ((gd ts j).rows.getD i rd):=by rw [zAB,zAE (by omega)];rfl
    rw [QJ _ (by rw [zAN,er];rfl),if_neg (by rw [hk];exact zAF),zAz]
    exact ly
   ·obtain ⟨s3,nE,ly⟩:=hP
    rw [zAU (by rw [zAD];omega)] at ly
    have en:((ys.length:Nat):Int)=((Yc ts k j:Nat):Int):=by
     have:Yc ts k j=UV ((gd ts j).rows.map (·.1)) k:=if_pos h0
     rw [this,ly]
     rfl
    refine ⟨E,ys,rfl,.inl (ZM.of eE),nn (zAC rfl),fun t nt=>?_⟩
    obtain ⟨f1,f2,f3,f4⟩:=fin (n:=((ys.length:Nat):Int)) s3 en nt
    refine ⟨D,us,.ref t,rfl,rfl,f4,nn (by omega),?_⟩
    refine ⟨0,(show 0<(gd ts j).h+1 by omega),none,pre++[(j,Yc ts k j)],_,_,_,_,_,rfl,rfl,(fun i z=>by cases z),?_,f2,ZP,f1⟩
    rw [epre]
    show pre++VP ts k (gd ts j).h j=_
    rw [h0]
    exact (zAz _).symm
  ·rw [decide_eq_false h0]
   obtain ⟨b2,b4,b3,er⟩:=ok.stem h0
   have eus:=h4 h0
   have lws:ws.length=(gd ts j).bs.length:=by rw [eus];exact zAD _
   have at_b:∀ i,i<(gd ts j).bs.length->(gd ts j).bs[i]? = some ((gd ts j).bs.getD i 0)/\XQ ws (i:Int)=some (.int (((gd ts j).bs.getD i 0:Nat):Int)):=fun i hi=>by
    have e:(gd ts j).bs[i]? = some ((gd ts j).bs.getD i 0):=by rw [zAB,zAE hi];rfl
    exact ⟨e,by rw [eus];exact XL (by unfold iN;rw [zAN,e];rfl)⟩
   have emax:=Gs R.wf hjl h0 k
   refine Zp ⟨_,rfl,u,ws,rfl,.inr (Zj.of h2),_,rfl,by omega,by omega,?_⟩
   rw [zBs]
   refine NX (n:=ws.length) (fun i x=>x=.int (0+(i:Int))) (fun i=>!k.lt (Z7 (gd ts ((gd ts j).bs.getD i 0))).lo) (fun E i ys H3=>ZA H2 H3/\H2 E=none/\ys=(((zAi i).filter fun i=>!k.lt (Z7 (gd ts ((gd ts j).bs.getD i 0))).lo).map fun i:Nat=>(i:Int)).map V.int) (Yp (by omega))
    (fun E i ys H3 hi _=>hi) (fun E i ys H3 x H4 hi _ hy=>hy) (fun E ys H3 _=>zAH _)
    (fun E hE=>⟨Za hE _,hE,rfl⟩) (fun E i ys H3 z eE hi hz hP B hB=>?_) (fun E i ys H3 z eE hi hz hk hP B hB=>?_) (fun E i ys H3 eE hi hk hP=>?_) (fun E ys H3 eE hP=>?_)
   ·obtain ⟨s3,nE,ly⟩:=hP
    subst hz
    obtain ⟨eb,ab⟩:=at_b i (by omega)
    have hbF:=R.sub hj (zAK eb)
    have hbl:=R.rcd.lt _ hbF
    have fb:=(Mz (R.wf _ _ (Y1 hbl))).1
    have df:=Wd _ 3 fb
    have R3:=R2.same s3
    refine ⟨_,rfl,_,rfl,_,rfl,u,_,_,_,rfl,rfl,Zj.of (s3 _ _ h2),(by rw [zCo];exact ab),ts,d,kvs,F,_,rfl,R3,hbF,fun v1 kv1=>?_⟩
    refine ⟨v1,_,3,rfl,kv1,fb,by omega,fun v2 H4 kv2 s4=>?_⟩
    refine ⟨_,rfl,v,k,3,rfl,(hv.mono (ZA.tups s2) _ _).mono (ZA.tups (s3.trans s4)) _ _,fk,by omega,fun v3 H5 kv3 s5=>?_⟩
    have d1:=Qh (Z7 (gd ts ((gd ts j).bs.getD i 0))).lo
    refine ⟨_,_,kv2.mono (ZA.tups s5) _ _,kv3,Qp _ _,by omega,_,rfl,?_⟩
    rw [Po]
    exact hB H5 ((s4.trans s5) _ _ eE) ⟨s3.trans (s4.trans s5),nE,ly⟩
   ·obtain ⟨s3,nE,ly⟩:=hP
    subst hz
    refine ⟨_,rfl,hB _ H3 eE ⟨We s3 nE,nE,?_⟩⟩
    rw [zBY,zBL,zAZ,zAZ,ly,zBl,if_pos hk,zCo]
    rfl
   ·obtain ⟨s3,nE,ly⟩:=hP
    refine ⟨s3,nE,?_⟩
    rw [zBY,zBL,zBl,if_neg (by rw [hk];exact zAF),List.filter_nil,zAz]
    exact ly
   ·obtain ⟨s3,nE,ly⟩:=hP
    rw [lws] at ly
    subst ly
    refine ⟨_,rfl,E,_,0,rfl,rfl,ZM.of eE,?_⟩
    rw [emax]
    have eD3:=s3 _ _ eD2
    refine ⟨_,rfl,.inl ⟨rfl,_,ZM.of eD3⟩,_,rfl,_,rfl,nn (zAC rfl),fun t nt=>?_⟩
    obtain ⟨f1,f2,f3,f4⟩:=fin (n:=((Yc ts k j:Nat):Int)) s3 rfl nt
    refine ⟨D,us,.ref t,rfl,rfl,f4,nn (by omega),?_⟩
    obtain ⟨n1,n2,n3⟩:=M7 R.wf hjl h0 k
    have hnF:=R.sub hj (zAK n3)
    obtain ⟨eb,ab⟩:=at_b (Yc ts k j) (M4 R.wf hjl h0 k)
    have uD:u≠D:=ZR h2 eD2 (by intro z;cases z)
    refine ⟨_,rfl,_,rfl,u,_,_,_,rfl,rfl,Zj.of (by rw [ZT uD];exact f3 _ _ h2),ab,?_⟩
    refine ⟨(gd ts (Wn ts k j)).h+1,(show (gd ts (Wn ts k j)).h+1<(gd ts j).h+1 by omega),some (Wn ts k j),pre++[(j,Yc ts k j)],_,_,_,_,_,rfl,rfl,(fun i z=>by cases z;exact hnF),?_,f2,ZP,f1⟩
    rw [epre]
    show pre++VP ts k (gd ts j).h j=_
    rw [<-n2,zCB]
    rfl
end
end Tw
namespace L2
open PySem PySem.Spec PyProof.Rows
section
variable {X:Cx}
theorem FZ (hu:X.A.units<cLine):YV X (compareOp .NotEq) (fun x y H Q=>∃ (p b:Addr) (ns:List Int),x=.ref p/\y=.ref b/\ZM X.K H p (ns.map V.int)/\ZM X.K H b (ns.map V.int)/\Q (.bl false) H):=by
 intro pins s σ H x y v u Q I rx ry h
 obtain ⟨p,b,ns,rfl,rfl,h1,h2,q⟩:=h
 cases rx
 cases ry
 obtain ⟨its,r1,p1,z1⟩:=I.list h1
 obtain ⟨its2,r2,p2,z2⟩:=I.list h2
 have l1:=r1.length
 have l2:=r2.length
 refine PySem.SeqAt.RcNeAt.lists (e:=fun _=>true) p1.isList p2.isList (by simp;omega) hu (fun j g1 g2=>?_) X.prog X.w X.xe _ (YS I q (by simp))
 have hj:j<ns.length:=by simp at g1;simp at l1;omega
 have hv:(ns.map V.int)[j]? = some (.int ns[j]):=by simp [hj]
 obtain ⟨u1,e1,a1⟩:=r1.get hv
 obtain ⟨u2,e2,a2⟩:=r2.get hv
 obtain ⟨t1,rfl⟩:=a1
 obtain ⟨t2,rfl⟩:=a2
 have k1:its.toArray[j]=Value.int ns[j] t1:=by
  have:its.toArray[j]? = some (Value.int ns[j] t1):=by simpa using e1
  rw [zAc g1] at this
  exact zAh.inj this
 have k2:its2.toArray[j]=Value.int ns[j] t2:=by
  have:its2.toArray[j]? = some (Value.int ns[j] t2):=by simpa using e2
  rw [zAc g2] at this
  exact zAh.inj this
 rw [k1,k2]
 have:=PySem.SeqAt.EqAt.int_int (A:=X.A.in1) (s:=s) ns[j] t1 ns[j] t2
 simpa using this
end
end L2
namespace Tw
open PySem PySem.Spec L2 PyProof.Rows
theorem Iw {X:Cx}:Wk (XM X.prog X.w) X E0:=fun _ _ _ _ _ _ _ h=>by
 obtain ⟨_,_,_,_,_,_,q⟩:=h
 exact q.elim
theorem Co {X:Cx} {k:Nat} {x:Str} {ps:List Str} {sp:Sp} {e:Expr} {es:List Expr} {t:TA} {p pos:Pos} (D:Y2 X.prog X.w X.K X.mg X.base k x ps sp) (hr:ZZ k X.A) (ha:PA X (e :: es) t) (hg:Gl X x:=by rfl)
  (hdb:(x==("__debug__" : Str))=false:=by decide) (he:starEach (e :: es) X.env=(false,eval e X.env) :: starEach es X.env:=by rfl) (hpl:(backTo pos (starEach es X.env)).any (·.1)=false:=by rfl) :
  PE X (.Call (.Name x p) (e :: es) [] pos) (PR sp [] E0 t):=by
 obtain ⟨f,fd,FF,b,kp,m⟩:=D.ex
 exact Nr FF hr hg m kp b .nil Iw ha hdb he hpl
theorem AA {a b:Option Nat} (h:Z9 a=Z9 b):a=b:=by
 cases a with
 | none=>
  cases b with
  | none=>rfl
  | some b=>cases h
 | some a=>
  cases b with
  | none=>cases h
  | some b=>
   have e:(a:Int)=(b:Int):=zAh.inj h
   have:a=b:=by omega
   rw [this]
theorem Mj {ts:List ZU} {rn:Option Nat} (h:∀ i,rn=some i->i<ts.length):WV ts (Z9 rn)=true:=by
 cases rn with
 | none=>rfl
 | some i=>
  have:=h i rfl
  show inT ts (i:Int)=true
  unfold inT
  exact decide_eq_true (by omega)
theorem Is {gt:List KT} {ts:List ZU} (hw:WF gt ts) (k:KT):∀ (n i:Nat),i<ts.length->(gd ts i).h=n->∀ p∈VP ts k n i,p.1<ts.length/\p.2<=4
 | 0,i,hi,hn,p,hp=>by
  rw [VP,zAQ] at hp
  subst hp
  refine ⟨hi,?_⟩
  have l4:=((hw i _ (Y1 hi)).leaf hn).2
  show Yc ts k i<=4
  unfold Yc UV
  rw [if_pos hn]
  have:=zCL (fun x:KT=>x.lt k) ((gd ts i).rows.map (·.1))
  rw [zAD] at this
  omega
 | n+1,i,hi,hn,p,hp=>by
  have h0:(gd ts i).h≠0:=by omega
  rw [VP,zAd] at hp
  rcases hp with rfl | hp
  ·have l:=M4 hw hi h0 k
   have:=((hw i _ (Y1 hi)).stem h0).2.1
   exact ⟨hi,by show Yc ts k i<=4;omega⟩
  ·obtain ⟨n1,n2,_⟩:=M7 hw hi h0 k
   exact Is hw k n _ (by omega) (by omega) p hp
theorem F6 {p:Nat×Nat} (h1:p.1<=1000) (h2:p.2<=1000):(Vh p).fits 3=true:=by
 unfold Vh
 rw [KT.fits,zAJ,zAJ,QG]
 refine ⟨by decide,rfl,zAM.mpr fun t ht=>?_⟩
 simp only [zAd,zBV,or_false] at ht
 have big:(1000:Nat)<10 ^ 60:=by decide
 rcases ht with rfl | rfl
 ·exact Qw (by omega) _
 ·exact Qw (by omega) _
section
variable {P:Program} {w:World} {K:zAA} {mg:Str->Option Value} {base:Heap} {f:Addr} {fd:FuncData} {CSh CTw CT CK:Addr}
def M9 (gt:List KT) (CSh CTw:Addr):Sp:=fun vs H Q _=>∃ (X:XS) (lk:Addr) (c:Nat) (ls:List V) (rn:Option Nat) (d:Addr) (kvs:List (Zc×V)) (F:List Nat) (v:V) (k:KT),vs=[.ref X.S,YM (Z9 rn),.ref d,v]/\Z4 CSh CTw H X lk c ls/\X.ts.length<=900/\Yx gt X.ts H d kvs F/\(∀ i,rn=some i->i∈F)/\(∀ i,i<X.ts.length->(gd X.ts i).h<=60)/\ZD H k v/\k.fits 3=true /\
 ∀ (H':Hp) (lk':Addr) (ls':List V),(∀ b o,b≠lk->b≠X.S->H b=some o->H' b=some o)->Z4 CSh CTw H' X lk' c ls'->(lk'=lk\/H lk'=none)->ls'.length<=100->Q (.bl true) H'
abbrev Bk:List Str:=["_law_shelf","_law_root","_law_record","_law_spot","_law_due","_law_turn","_law_told"]
theorem WO:ZC Bk ["_law_shelf","_law_root","_law_record","_law_spot"] (Zf Os):=⟨rfl,rfl,rfl,by decide +kernel,rfl,by decide +kernel,by decide +kernel⟩
theorem BC {gt:List KT} (F0:Zk K "_law_asked" "_law_asked" Os f fd) (T:YG mg) (L:Yi K mg CSh CTw) (DW:ZB P w K mg base 7 "_law_way" ["_law_record","_law_root","_law_spot"] (OO gt)) (DF:ZJ P w K mg base ZV 1 CSh "forget" ["self"] (M0 CSh CTw)) (DT:Y2 P w K mg base 11 "way_to" ["shelf","root","key"] (P8 gt CSh CTw CT CK)) (DK:ZJ P w K mg base ZV 1 CSh "looked" ["self"] (NT CSh CTw)) (DR:ZB P w K mg base 7 "_law_rows_alike" ["_law_found","_law_due"] Nu) :
  ZK P w K mg base ZV 12 f fd ["_law_shelf","_law_root","_law_record","_law_spot"] (M9 gt CSh CTw):=by
 refine F0.ok WO (fun vs H Q E h=>(by obtain ⟨_,_,_,_,_,_,_,_,_,_,rfl,_⟩:=h;rfl)) (fun cdv A outer s H vs Q E hr h=>?_)
 obtain ⟨X,lk,c,ls,rn,d,kvs,F,v,k,rfl,R,t9,RD,hrn,low,hv,fk,q⟩:=h
 have nd:=WO.nd
 have hr1:=hr.mono (show 1<=11 by decide)
 have hr7:=hr.mono (show 7<=11 by decide)
 refine ⟨_,ZS (Zm (i:=4) nd rfl (Or.inl rfl) (Zg DW hr7 (X8 (pv 2) (pv 1) (pv 3))))
  (ZS (VJ PassesOwn.never rfl (V2 rfl T.range (ZI ZO ZG)) (Y6 (i:=5) nd rfl (Or.inl rfl))
   (ZS (XX (KZ (E:=E0) (pv 0) L.cS DF hr1 Yr))
   (ZS (Zm (i:=6) nd rfl (Or.inl rfl) (Co DT hr (X8 (pv 0) (pv 1) (pv 3))))
   (ZS (Z5 (PW.pt (Vy (Yn (FZ hr.units0) (KZ (E:=E0) (pv 0) L.cS DK hr1 Yr) (Xr [] [] rfl (WJ (pv 4)) (fun _ _ _ _ _=>X6) (fun _ _ _ _ _=>Zo (r:=Xc K) Zl (pv 0) ZO (fun _ _=>rfl)) trivial) (Z2 _)) (V5 (WW (Yu (Zg DR hr7 (ZI (pv 6) (ZI (pv 4) ZG)))))))) (ZW (Zi Y8)) Z8)
   (ZW (XX (Jb zAn PySem.F.slot_list_clear PySem.F.type_list_clear Ca (pv 6))))))))
  (ZW (Zi Y8))),?_⟩
 have hlt:∀ i,rn=some i->i<X.ts.length:=fun i hi=>RD.rcd.lt i (hrn i hi)
 refine ⟨_,rfl,_,rfl,_,rfl,X.ts,d,kvs,F,rn,v,k,rfl,RD,hrn,low,hv,fk,fun H1 D0 us0 s1 nD0 hD0 kD0=>?_⟩
 have lw:=Ml k low hlt
 have l0:us0.length=(Yt X.ts k rn).length:=by have:=kD0.length;rw [<-this];exact zAD _
 have wf:∀ t∈(Yt X.ts k rn).map Vh,t.fits 3=true:=fun t ht=>by
  obtain ⟨p,hp,rfl⟩:=zAf.mp ht
  cases rn with
  | none=>simp [Yt] at hp
  | some i=>
   have:=Is RD.wf k _ i (hlt i rfl) rfl p hp
   exact F6 (by omega) (by omega)
 have R1:=R.same s1
 refine ⟨2,rfl,by decide,by decide,Ue (n:=2) (fun j σ H'=>∃ (x5 x6:Option V) (lk':Addr) (ls':List V),σ=[some (.ref X.S),some (YM (Z9 rn)),some (.ref d),some v,some (.ref D0),x5,x6]/\(∀ b o,b≠lk->b≠X.S->H1 b=some o->H' b=some o)/\Z4 CSh CTw H' X lk' c ls'/\(lk'=lk\/H1 lk'=none)/\(0<j->ls'.length<=100)/\∃ o,H' lk=some o)
  ⟨_,_,lk,ls,rfl,fun b o _ _ e=>e,R1,.inl rfl,fun z=>absurd z (zBU 0),_,R1.sh.looks⟩ ?_ ?_⟩
 ·rintro j σ H2 hj ⟨x5,x6,lk2,ls2,rfl,fr2,R2,hlk2,_,ol,hol⟩
  have hlk1:=R1.sh.looks
  have D0lk:D0≠lk:=(ZY R.sh.looks nD0).symm
  obtain ⟨dS1,hS1⟩:=R1.sh.self
  have D0S:D0≠X.S:=ZR hD0 hS1 (by intro z;cases z)
  obtain ⟨dx,hS⟩:=R2.sh.self
  refine ⟨_,rfl,X.S,dx,_,rfl,hS,rfl,X,lk2,c,ls2,rfl,R2,fun H3 lk3 nlk3 fr3 R3=>?_⟩
  have fr13:∀ b o,b≠lk->b≠X.S->H1 b=some o->H3 b=some o:=fun b o n1 n2 e=>fr3 b o n2 (fr2 b o n1 n2 e)
  have t13:Zu H1 H3:=fun b xs e=>fr13 b _ (ZR e hlk1 (by intro z;cases z)) (ZR e hS1 (by intro z;cases z)) e
  have hv3:=(hv.mono (ZA.tups s1) _ _).mono t13 _ _
  have A0:UN gt CSh CTw CT CK H3 X lk3 c [] (Z9 rn) v (some k) E0:=⟨R3,RD.wf,low,zAe _,⟨fun _=>False,hv3,fk⟩,(fun x ex hx=>by
   have:=Mj hlt
   rw [ex] at this
   rw [show WV X.ts (some x)=inT X.ts x from rfl,hx] at this
   cases this),(fun _ z=>by cases z)⟩
  refine ⟨_,rfl,_,rfl,_,rfl,X,lk3,c,[],Z9 rn,v,some k,rfl,A0,fun k' rn' ek er hr' H4 D us4 fr4 R4 nD Dlk hD kD=>?_⟩
  cases ek
  cases AA er
  obtain ⟨dx4,hS4⟩:=R4.sh.self
  have hlk3:=R3.sh.looks
  have t34:Zu H3 H4:=fun b xs e=>fr4 b _ (ZR e hlk3 (by intro z;cases z)) e
  have D03:=fr13 _ _ D0lk D0S hD0
  have D0lk3:D0≠lk3:=fun z=>by
   rw [<-z] at nlk3
   rw [fr2 _ _ D0lk D0S hD0] at nlk3
   cases nlk3
  have D04:=fr4 _ _ D0lk3 D03
  have k04:=(kD0.mono t13 _ _).mono t34 _ _
  refine ⟨_,rfl,X.S,dx4,_,rfl,hS4,rfl,X,lk3,c,_,rfl,R4,fun p np=>?_⟩
  have gp:=Za np (.lst ([]++X9 (Yt X.ts k rn)))
  have ep:=ZP (H:=H4) (a:=p) (o:=.lst ([]++X9 (Yt X.ts k rn)))
  generalize upd H4 p (.lst ([]++X9 (Yt X.ts k rn)))=H5 at gp ep ⊢
  have D05:=gp _ _ D04
  have k05:=k04.mono (ZA.tups gp) _ _
  refine ⟨_,rfl,D0,rfl,⟨us0,ZM.of D05⟩,X7 (n:=us0.length) (fun i z=>us0[i]? = some z) (fun E i ys H6=>ZA H5 H6/\H5 E=none/\ys=(((Yt X.ts k rn).take i).map fun s=>(s.1:Int)).map V.int) (Yp (by omega))
   (fun E i ys H6 hi hP=>⟨us0,us0[i],ZM.of (hP.1 _ _ D05),by simp [hi]⟩) (fun E i ys H6 z H7 hi hP hy=>⟨hy.1,hy.2 us0 (ZM.of (hP.1 _ _ D05))⟩) (fun E ys H6 hP=>⟨us0,ZM.of (hP.1 _ _ D05),zAH _⟩)
   (fun E hE=>⟨Za hE _,hE,rfl⟩) (fun E i ys H6 z eE hl' hi hz hP RR hRR=>?_) (fun E ys H6 eE hP=>?_)⟩
  ·obtain ⟨s6,nE,ly⟩:=hP
   obtain ⟨t,et,kt⟩:=k05.get hz
   rw [zAN] at et
   obtain ⟨s0,es0,rfl⟩:=zAq.mp et
   unfold Vh at kt
   rw [ZD] at kt
   obtain ⟨a,vs,rfl,ha,hk⟩:=kt
   rw [KeysAt] at hk
   obtain ⟨v1,r1,rfl,k1,hk⟩:=hk
   rw [KeysAt] at hk
   obtain ⟨v2,r2,rfl,k2,hk⟩:=hk
   rw [ZD] at k1
   subst k1
   refine ⟨_,rfl,a,_,_,.int (s0.1:Int),rfl,rfl,Zj.of (s6 _ _ ha),XL (j:=0) rfl,hRR _ H6 eE ⟨We s6 nE,nE,?_⟩⟩
   rw [zAm,es0,zAZ,zAZ,ly]
   rfl
  ·obtain ⟨s6,nE,ly⟩:=hP
   rw [zAU (by omega)] at ly
   subst ly
   have ep6:=s6 _ _ ep
   have s46:=gp.trans s6
   have ew:[]++X9 (Yt X.ts k rn)=((Yt X.ts k rn).map fun s=>(s.1:Int)).map V.int:=by
    unfold X9
    rw [List.nil_append,zCK]
    rfl
   rw [ew] at ep6
   refine ⟨p,E,_,rfl,rfl,ZM.of ep6,ZM.of eE,_,rfl,Zp ?_⟩
   have D06:=s46 _ _ D04
   have hD6:=s46 _ _ hD
   refine ⟨_,rfl,_,rfl,D,D0,us4,us0,_,_,rfl,hD6,D06,kD.mono (ZA.tups s46) _ _,k04.mono (ZA.tups s46) _ _,wf,by rw [zAD];omega,fun H7 s7=>⟨_,rfl,?_⟩⟩
   rw [eqbL_self]
   have s47:=s46.trans s7
   have hD7:=s47 _ _ hD
   refine Zp ⟨_,rfl,.inl ⟨rfl,_,ZM.of hD7⟩,D,_,rfl,rfl,hD7,?_⟩
   have R7:=R4.same s47
   have sD:ZE D H7 (upd H7 D (.lst [])):=(ZE.refl D H7).upd
   have nD3:H3 D=none:=nD
   have ND:¬ UZ X lk3 D:=by
    obtain ⟨⟨dS,hS'⟩,hd',_⟩:=R7.sh
    rintro (z | z | z)
    ·exact ZR hD7 hS' (by intro z;cases z) z
    ·exact ZR hD7 hd' (by intro z;cases z) z
    ·exact Dlk z
   have oD:∀ i:Nat,i<X.ts.length->(X.as.getD i .d).x≠D/\(X.as.getD i .d).ab≠D/\(X.as.getD i .d).th≠D:=fun i hi=>by
    have W:=R3.tw i hi
    obtain ⟨dy,hy⟩:=W.tw.self
    obtain ⟨us',e1,_⟩:=W.things
    exact ⟨ZY hy nD3,ZY W.tw.above nD3,ZY e1 nD3⟩
   have lkS:lk≠X.S:=ZR hlk1 hS1 (by intro z;cases z)
   have hol3:=fr3 _ _ lkS hol
   have lk3n:lk≠lk3:=ZY hol nlk3
   refine ⟨_,_,lk3,_,rfl,fun b o n1 n2 e=>?_,R7.but sD ND oD (sD.tups hD7),.inr ?_,fun _=>by unfold X9;rw [List.nil_append,zAD];omega,ol,by rw [ZT (ZY hol3 nD3)];exact s47 _ _ (fr4 _ _ lk3n hol3)⟩
   ·have e3:=fr13 b o n1 n2 e
    have nb:b≠lk3:=fun z=>by rw [<-z,fr2 b o n1 n2 e] at nlk3;cases nlk3
    rw [ZT (ZY e3 nD3)]
    exact s47 _ _ (fr4 b o nb e3)
   ·cases e:H1 lk3 with
    | none=>rfl
    | some o=>
     by_cases z1:lk3=lk
     ·rw [z1,hol] at nlk3;cases nlk3
     ·by_cases z2:lk3=X.S
      ·rw [z2,hS] at nlk3;cases nlk3
      ·rw [fr2 _ _ z1 z2 e] at nlk3;cases nlk3
 ·rintro σ H2 ⟨x5,x6,lk2,ls2,rfl,fr2,R2,hlk2,hl2,_⟩
  exact q H2 lk2 ls2 (fun b o n1 n2 e=>fr2 b o n1 n2 (s1 b o e)) R2 (hlk2.imp id fun z=>s1.free z) (hl2 (by decide))
end
theorem BS (us:List V) (n s:Nat) (hn:n<=us.length):Uj us (some (n:Int)) (some ((n:Int)+(s:Int)))=(us.drop n).take s:=by
 unfold Uj
 have e:((n:Int)+(s:Int))=((n+s:Nat):Int):=by omega
 rw [e,HT.sIx_nat,HT.sIx_nat,show min n us.length=n by omega,List.take_eq_take_min (i:=s),zCl]
 congr 1
 omega
def YN (N:Addr->Prop) (H:Hp) (ps:List V) (u:V):Prop:=∃ a,u=.ref a/\H a=some (.lst ps)/\¬ N a
theorem YN.go {N:Addr->Prop} {H H':Hp} {ps:List V} {u:V} (h:YN N H ps u) (k:∀ b o,H b=some o->¬ N b->H' b=some o):YN N H' ps u:=by
 obtain ⟨a,e,h1,h2⟩:=h
 exact ⟨a,e,k _ _ h1 h2,h2⟩
def NB (H:Hp) (p D:Addr) (b:Addr):Prop:=b=p\/b=D\/H b≠none
def Uu (stem:Bool) (n:Nat):Prop:=(if stem=true then 2 else 1)<=n/\n<=4
structure Z1 (H H':Hp) (p l D:Addr) (us:List V) (stem:Bool) (pl:List V) (pss:List (List V)) (n:Nat):Prop where
 w:ZH H' p
 sx:ZE p H H'
 hl:H' l=some (.lst us)
 hD:H' D=some (.lst pl)
 nD:H D=none
 lp:l≠p
 lD:l≠D
 Dp:D≠p
 parts:Paired (YN (NB H p D) H') pss pl
 flat:pss.flatten=us.take n
 size:∀ ps∈pss,Uu stem ps.length
 few:pl.length<=n
theorem Z1.go {H H' H'':Hp} {p l D:Addr} {us:List V} {stem:Bool} {pl:List V} {pss:List (List V)} {n:Nat} (r:Z1 H H' p l D us stem pl pss n) (s:ZE p H' H'') (w:ZH H'' p):Z1 H H'' p l D us stem pl pss n:=
 ⟨w,r.sx.trans s,s _ _ r.hl r.lp,s _ _ r.hD r.Dp,r.nD,r.lp,r.lD,r.Dp,Paired.mapP r.parts fun _ _ z=>YN.go z fun b o e n=>s b o e fun z=>n (.inl z),r.flat,r.size,r.few⟩
abbrev JJ:List Str:=["_law_well_here","_law_things","_law_few","_law_stem","_law_parts","_law_at","_law_size"]
theorem VA:ZC JJ ["_law_well_here","_law_things","_law_few","_law_stem"] (Zf QI):=⟨rfl,rfl,rfl,by decide +kernel,rfl,by decide +kernel,by decide +kernel⟩
def Je:Option Stmt->List Stmt
 | some (.While _ b _ _)=>b
 | _=>[]
def OG:List Stmt:=Je ((Xu QI)[2]?)
section
variable {P:Program} {w:World} {K:zAA} {mg:Str->Option Value} {base:Heap} {f:Addr} {fd:FuncData} {cdv:Value} {A:Around} {outer:List Env} {s:Shared} {Hs:Hp} {E:XK}
theorem B5 (T:YG mg):∃ t,XW (Xt ZV P w K mg base JJ "_law_cut" (Zf QI) f cdv A outer s Hs E).nox (OG.drop 2) t/\∀ (D0:Yb) (H H1:Hp) (p l D:Addr) (us pl:List V) (stem:Bool) (fw:Int) (pss:List (List V)) (n sz:Nat),
  Z1 H H1 p l D us stem pl pss n->n<us.length->us.length<=100->1<=sz->sz<=4->Uu stem (min sz (us.length - n)) ->
   (∀ pl' pss' H',Z1 H H' p l D us stem pl' pss' (n+sz)->D0.nx [some (.ref p),some (.ref l),some (.int fw),some (.bl stem),some (.ref D),some (.int ((n+sz:Nat):Int)),some (.int (sz:Int))] H') ->
    t D0 [some (.ref p),some (.ref l),some (.int fw),some (.bl stem),some (.ref D),some (.int (n:Int)),some (.int (sz:Int))] H1:=by
 have nd:=VA.nd
 refine ⟨_,ZS (XX (VV zAn zAv zAu VO (pv 4) (ZI (Xh UC rfl T.list Vc (ZI (FP Ho (pv 1) (LT (pv 5)) (LT (Zs Xg (pv 5) (pv 6)))) ZG)) ZG)))
  (ZW (Zm (i:=5) nd rfl (Or.inl rfl) (Zs Xg (pv 5) (pv 6)))),fun D0 H H1 p l D us pl stem fw pss n sz r hn l100 s1 s4 hok fin=>?_⟩
 refine ⟨_,rfl,.inl ⟨rfl,_,ZM.of r.hD⟩,_,rfl,_,rfl,_,rfl,_,rfl,_,rfl,_,_,rfl,rfl,_,rfl,l,us,rfl,ZM.of r.hl,fun q1 n1=>?_⟩
 rw [BS us n sz (by omega)] at *
 have g1:=Za n1 (.lst ((us.drop n).take sz))
 have e1:=ZP (H:=H1) (a:=q1) (o:=.lst ((us.drop n).take sz))
 generalize upd H1 q1 (.lst ((us.drop n).take sz))=H2 at g1 e1 ⊢
 refine ⟨q1,_,rfl,.inl (ZM.of e1),fun q2 n2=>?_⟩
 have g2:=Za n2 (.lst ((us.drop n).take sz))
 have e2:=ZP (H:=H2) (a:=q2) (o:=.lst ((us.drop n).take sz))
 have g:=g1.trans g2
 have n20:H1 q2=none:=g1.free n2
 generalize upd H2 q2 (.lst ((us.drop n).take sz))=H3 at g2 e2 g ⊢
 have r3:=Z1.go r (ZE.of g) (r.w.same g)
 have hD3:=r3.hD
 have fw':=r.few
 refine ⟨D,pl,.ref q2,rfl,rfl,hD3,nn (by omega),?_⟩
 refine ⟨_,rfl,_,rfl,_,_,rfl,rfl,?_⟩
 have q2N:¬ NB H p D q2:=by
  rintro (z | z | z)
  ·exact Wp r.w n20 z
  ·rw [z,r.hD] at n20;cases n20
  ·exact z (Ph r.sx r.w n20)
 have sD:ZE D H3 (upd H3 D (.lst (pl++[.ref q2]))):=(ZE.refl D H3).upd
 have e:((n:Int)+(sz:Int))=((n+sz:Nat):Int):=by omega
 have lpart:((us.drop n).take sz).length=min sz (us.length - n):=by rw [zBk,zCl]
 have k:=fin (pl++[.ref q2]) (pss++[(us.drop n).take sz]) (upd H3 D (.lst (pl++[.ref q2]))) ⟨r3.w.stay sD (Ne.symm r.Dp),fun b o e n=>by rw [ZT (ZY e r.nD)];exact r3.sx b o e n,by rw [ZT r.lD];exact r3.hl,ZP,r.nD,r.lp,r.lD,r.Dp,Ul ⟨q2,rfl,by rw [ZT (fun z=>q2N (.inr (.inl z)))];exact e2,q2N⟩ (Paired.mapP r3.parts fun _ _ z=>YN.go z fun b o e n=>sD b o e fun z=>n (.inr (.inl z))),by rw [List.flatten_append,r.flat,List.take_add];simp,fun ps hps=>?_,by simp;omega⟩
 ·rw [<-e] at k
  exact k
 ·rcases zAg.mp hps with z | z
  ·exact r.size ps z
  ·rw [zAQ.mp z,lpart]
   exact hok
def Pp:Sp:=fun vs H Q _=>∃ (p l:Addr) (us:List V) (fw:Int) (stem:Bool),vs=[.ref p,.ref l,.int fw,.bl stem]/\ZH H p/\H l=some (.lst us)/\l≠p/\0<=fw/\fw<4/\us.length<=100/\(stem=true->us.length≠1) /\
 ∀ (D:Addr) (pl:List V) (pss:List (List V)) (H':Hp),H D=none->H' D=some (.lst pl)->Paired (YN (NB H p D) H') pss pl->pss.flatten=us->(∀ ps∈pss,Uu stem ps.length)->pl.length<=104->ZH H' p->ZE p H H'->Q (.ref D) H'
theorem LO {q:Addr} {a b c d:Int} {fw:Int} (h0:0<=fw) (h4:fw<4) (lo hi:Int) (ha:lo<=a/\a<=hi) (hb:lo<=b/\b<=hi) (hc:lo<=c/\c<=hi) (hd:lo<=d/\d<=hi):∃ m:Int,XQ [V.int a,.int b,.int c,.int d] fw=some (.int m)/\lo<=m/\m<=hi:=by
 obtain ⟨v,av,mv⟩:=UK (xs:=[V.int a,.int b,.int c,.int d]) h0 h4
 simp only [zAd,zBV,or_false] at mv
 rcases mv with rfl | rfl | rfl | rfl
 ·exact ⟨a,av,ha⟩
 ·exact ⟨b,av,hb⟩
 ·exact ⟨c,av,hc⟩
 ·exact ⟨d,av,hd⟩
theorem G4 (F0:Zk K "_law_cut" "_law_cut" QI f fd) (T:YG mg) (DP:ZB P w K mg base 1 "_law_pull" ["_law_well_here","_law_many"] Xq):ZK P w K mg base ZV 2 f fd ["_law_well_here","_law_things","_law_few","_law_stem"] Pp:=by
 refine F0.ok VA (fun vs H Q E h=>(by obtain ⟨_,_,_,_,_,rfl,_⟩:=h;rfl)) (fun cdv A outer s H vs Q E hr h=>?_)
 obtain ⟨p,l,us,fw,stem,rfl,W,hl,lp,f0,f4,l100,hst,k⟩:=h
 have nd:=VA.nd
 obtain ⟨t,ht,hk⟩:=B5 (P:=P) (w:=w) (K:=K) (base:=base) (f:=f) (cdv:=cdv) (A:=A) (outer:=outer) (s:=s) (Hs:=H) (E:=E) T
 refine ⟨_,ZS (Zm (i:=4) nd rfl (Or.inl rfl) (Ye ZG))
  (ZS (Zm (i:=5) nd rfl (Or.inl rfl) ZO)
  (ZS (UR PassesOwn.never (Yn Ug (pv 5) (Zw XH rfl T.len XA (ZI (pv 1) ZG)) (Z2 _))
   (ZS (Zm (i:=6) nd rfl (Or.inl rfl) (Zs Xg ZO (Zg DP hr (ZI (pv 0) (ZI (Zo (r:=YB K) YH (Ye (WS ZO ZO ZO ZO)) (pv 2) (fun _ _=>rfl)) ZG)))))
   (ZS (Z5 (Yu (pv 3))
    (ZS (Zm (i:=6) nd rfl (Or.inl rfl) (Zw (IW rfl) rfl T.min KW (ZI (Zs Xg ZO (Zg DP hr (ZI (pv 0) (ZI (Zo (r:=YB K) YH (Ye (WS ZO ZO ZO ZO)) (pv 2) (fun _ _=>rfl)) ZG)))) (ZI (Zs Wh (Zw XH rfl T.len XA (ZI (pv 1) ZG)) (pv 5)) ZG))))
    (ZW (Z5 (Yn X2 (Zs Wh (Zs Wh (Zw XH rfl T.len XA (ZI (pv 1) ZG)) (pv 5)) (pv 6)) ZO (Z2 _))
     (ZW (Zm (i:=6) nd rfl (Or.inl rfl) (Zo (r:=YB K) YH (Ye (ZI (Zs Wh (pv 6) ZO) (ZI (Zs Xg (pv 6) ZO) ZG))) (Xh QA rfl T.int Va (ZI (Xm X2 (pv 6) ZO (Z2 _)) ZG)) (fun _ _=>rfl)))) Z8))) Z8) ht)))
  (ZW (Zi (pv 4))))),?_⟩
 refine ⟨nn (zAC rfl),fun D nD=>?_⟩
 have gD:=Za nD (.lst [])
 have eD:=ZP (H:=H) (a:=D) (o:=.lst [])
 generalize upd H D (.lst [])=H1 at gD eD ⊢
 have I0:Z1 H H1 p l D us stem [] [] 0:=⟨W.same gD,ZE.of gD,gD _ _ hl,eD,nD,lp,ZY hl nD,Wp W nD,.nil,rfl,fun ps h=>by simp at h,zAH _⟩
 refine ⟨fun m σ H'=>∃ (pl:List V) (pss:List (List V)) (n:Nat) (x6:Option V),σ=[some (.ref p),some (.ref l),some (.int fw),some (.bl stem),some (.ref D),some (.int (n:Int)),x6]/\m=us.length - n/\Z1 H H' p l D us stem pl pss n/\(stem=true->us.length - n≠1)/\n<=103,⟨_,[],[],0,none,rfl,rfl,I0,hst,zAe _⟩,?_⟩
 rintro m σ H2 ⟨pl,pss,n,x6,rfl,rfl,r,hrest,n103⟩
 refine ⟨_,rfl,_,rfl,l,us,rfl,.inl (ZM.of r.hl),_,_,rfl,rfl,_,rfl,?_⟩
 rcases zAj n us.length with hn | hn
 ·rw [decide_eq_true (show (n:Int)<(us.length:Int) by omega)]
  refine Zy ⟨fun σ' H'=>∃ m',m'<us.length - n/\∃ (pl:List V) (pss:List (List V)) (n:Nat) (x6:Option V),σ'=[some (.ref p),some (.ref l),some (.int fw),some (.bl stem),some (.ref D),some (.int (n:Int)),x6]/\m'=us.length - n/\Z1 H H' p l D us stem pl pss n/\(stem=true->us.length - n≠1)/\n<=103,fun _ _ z=>z,?_⟩
  have go:∀ {D0:Yb} {H3:Hp} (z:Int),Z1 H H3 p l D us stem pl pss n->1<=z->z<=4->Uu stem (min z.toNat (us.length - n))->(stem=true->us.length - (n+z.toNat)≠1)->(∀ σ' H',(∃ m',m'<us.length - n/\∃ (pl:List V) (pss:List (List V)) (n:Nat) (x6:Option V),σ'=[some (.ref p),some (.ref l),some (.int fw),some (.bl stem),some (.ref D),some (.int (n:Int)),x6]/\m'=us.length - n/\Z1 H H' p l D us stem pl pss n/\(stem=true->us.length - n≠1)/\n<=103)->D0.nx σ' H') ->
    t D0 [some (.ref p),some (.ref l),some (.int fw),some (.bl stem),some (.ref D),some (.int (n:Int)),some (.int z)] H3:=fun {D0 H3} z r3 z1 z4 hok hr' fin=>by
   obtain ⟨sz,rfl⟩:∃ sz:Nat,z=(sz:Int):=⟨z.toNat,by omega⟩
   rw [zBs] at hok hr'
   exact hk D0 H H3 p l D us pl stem fw pss n sz r3 hn l100 (by omega) (by omega) hok fun pl' pss' H' r'=>fin _ _ ⟨us.length - (n+sz),by omega,pl',pss',n+sz,_,rfl,rfl,r',hr',by omega⟩
  refine ⟨_,rfl,nn (zAC rfl),fun q nq=>?_⟩
  have gq:=Za nq (.lst [.int 4,.int 1,.int 2,.int 4])
  have eq:=ZP (H:=H2) (a:=q) (o:=.lst [.int 4,.int 1,.int 2,.int 4])
  have r3:=Z1.go r (ZE.of gq) (r.w.same gq)
  generalize upd H2 q (.lst [.int 4,.int 1,.int 2,.int 4])=H3 at gq eq r3 ⊢
  obtain ⟨m1,am1,m10,m14⟩:=LO (q:=q) (a:=4) (b:=1) (c:=2) (d:=4) f0 f4 1 4 (by decide) (by decide) (by decide) (by decide)
  refine ⟨_,rfl,.inl ⟨q,_,_,_,rfl,rfl,ZM.of eq,am1,p,m1,rfl,r3.w,Y4 (by omega) (by omega),fun z1 H4 z10 z11 W4 s4=>⟨_,_,rfl,rfl,?_⟩⟩⟩
  have r4:=Z1.go r3 s4 W4
  refine ⟨_,rfl,_,rfl,?_⟩
  cases stem with
  | false=>
   refine Zp (go (1+z1) r4 (by omega) (by omega) ⟨?_,?_⟩ (fun z=>by cases z) fun _ _ z=>z)
   ·show 1<=min (1+z1).toNat (us.length - n)
    omega
   ·omega
  | true=>
   have hre:=hrest rfl
   refine Zy ⟨_,rfl,nn (zAC rfl),fun q2 nq2=>?_⟩
   have gq2:=Za nq2 (.lst [.int 3,.int 1,.int 3,.int 2])
   have eq2:=ZP (H:=H4) (a:=q2) (o:=.lst [.int 3,.int 1,.int 3,.int 2])
   have r5:=Z1.go r4 (ZE.of gq2) (r4.w.same gq2)
   generalize upd H4 q2 (.lst [.int 3,.int 1,.int 3,.int 2])=H5 at gq2 eq2 r5 ⊢
   obtain ⟨m2,am2,m20,m24⟩:=LO (q:=q2) (a:=3) (b:=1) (c:=3) (d:=2) f0 f4 1 3 (by decide) (by decide) (by decide) (by decide)
   refine ⟨_,rfl,.inl ⟨q2,_,_,_,rfl,rfl,ZM.of eq2,am2,p,m2,rfl,r5.w,Y4 (by omega) (by omega),fun z2 H6 z20 z21 W6 s6=>⟨_,_,rfl,rfl,?_⟩⟩⟩
   have r6:=Z1.go r5 s6 W6
   refine ⟨_,rfl,l,us,rfl,.inl (ZM.of r6.hl),_,rfl,_,_,rfl,rfl,_,_,rfl,?_⟩
   obtain ⟨y,ey,y1,y2,y3⟩:∃ y:Int,(if ((us.length:Nat):Int) - (n:Int)<2+z2 then ((us.length:Nat):Int) - (n:Int) else 2+z2)=y/\2<=y/\y<=4/\y<=((us.length:Nat):Int) - (n:Int):=⟨_,rfl,by split <;> omega,by split <;> omega,by split <;> omega⟩
   rw [ey]
   refine ⟨_,rfl,l,us,rfl,.inl (ZM.of r6.hl),_,rfl,_,_,rfl,rfl,_,rfl,_,_,rfl,rfl,rfl,_,rfl,?_⟩
   by_cases hy:((us.length:Nat):Int) - (n:Int) - y=1
   ·rw [decide_eq_true (congrArg V.int hy)]
    refine Zy ⟨_,rfl,_,_,rfl,rfl,_,rfl,_,_,rfl,rfl,nn (zAC rfl),fun q3 nq3=>?_⟩
    have gq3:=Za nq3 (.lst [.int (y - 1),.int (y+1)])
    have eq3:=ZP (H:=H6) (a:=q3) (o:=.lst [.int (y - 1),.int (y+1)])
    have r7:=Z1.go r6 (ZE.of gq3) (r6.w.same gq3)
    generalize upd H6 q3 (.lst [.int (y - 1),.int (y+1)])=H7 at gq3 eq3 r7 ⊢
    refine ⟨_,rfl,rfl,.inr ⟨_,rfl,?_⟩⟩
    by_cases h2:y=2
    ·subst h2
     refine .inl ⟨q3,_,_,.int (2+1),rfl,rfl,ZM.of eq3,rfl,?_⟩
     exact go (2+1) r7 (by omega) (by omega) ⟨by show 2<=min (2+1:Int).toNat _;omega,by omega⟩ (fun _=>by omega) fun _ _ z=>z
    ·have ed:decide (V.int y=V.int 2)=false:=decide_eq_false fun z=>h2 (QT z)
     rw [ed]
     refine .inl ⟨q3,_,_,.int (y - 1),rfl,rfl,ZM.of eq3,rfl,?_⟩
     exact go (y - 1) r7 (by omega) (by omega) ⟨by show 2<=min (y - 1).toNat _;omega,by omega⟩ (fun _=>by omega) fun _ _ z=>z
   ·rw [decide_eq_false (fun z=>hy (QT z))]
    exact Zp (go y r6 (by omega) (by omega) ⟨by show 2<=min y.toNat _;omega,by omega⟩ (fun _=>by omega) fun _ _ z=>z)
 ·rw [decide_eq_false (show ¬ (n:Int)<(us.length:Int) by omega)]
  have fl:=r.flat
  rw [zAU hn] at fl
  have:=r.few
  exact Zp ⟨_,rfl,k D pl pss H2 r.nD r.hD r.parts fl r.size (by omega) r.w r.sx⟩
end
end Tw
namespace L2
open PySem PySem.Spec PyProof.Rows
def AN (K:zAA) (CB:Addr) (sp:Sp) (t:TA) (i:Nat) (ts:TS):TS:=fun D σ H=>t σ H fun vs H1=>sp (vs++[]) H1 (fun _ H2=>D.nx σ H2) (Li K CB i ts D σ)
theorem CZ {X:Cx} {k:Nat} {f CB:Addr} {fd:FuncData} {ps:List Str} {sp:Sp} {x y n:Str} {p pos1 pos2 py ph pos:Pos} {e:Expr} {es:List Expr} {t:TA} {i:Nat} {b₀:Stmt} {suite:List Stmt} {ts:TS}
  (F:ZK X.prog X.w X.K X.mg X.base (XM X.prog X.w) k f fd ps sp) (hr:ZZ k X.A) (hg:Gl X x) (hm:X.mg x=some (.ref f)) (hk:zAp X.K (.ref f)=true) (hb:Zq X.K fd ps [])
  (ha:∀ E',PA (X.wish E') (e :: es) t) (hst:X.stack=X.env :: X.outer) (hfm:X.env.frame=some X.env.locals) (hex:X.ex=[])
  (hy:Gl X y) (hyC:X.mg y=some (.ref CB)) (hN:X.N.Nodup) (hi:X.N[i]? = some n) (hn:X.env.scope.names.lookup n=some .local)
  (ht:zA4 X.K (.ref CB)=some (.type "type")) (hB:zAs X.K CB (.type "BaseException")=some true) (hs:∀ ea E',XW (X.held ea E') (b₀ :: suite) ts)
  (hdb:(x==("__debug__" : Str))=false:=by decide) (hdy:(y==("__debug__" : Str))=false:=by decide) (he:starEach (e :: es) X.env=(false,eval e X.env) :: starEach es X.env:=by rfl) (hpl:(backTo pos1 (starEach es X.env)).any (·.1)=false:=by rfl)
  (hsw:swapsWith (.Call (.Name x p) (e :: es) [] pos1) none pos2.line X.env=pure false:=by rfl) :
  PS X (.Try [.Expr (.Call (.Name x p) (e :: es) [] pos1) pos2] [.ExceptHandler (some (.Name y py)) (some n) (b₀ :: suite) ph] [] [] pos) (AN X.K CB sp t i ts):=by
 intro pins s σ H D I h
 refine wpAny_Try_except ?_
 have hfr:X.A.frames=some (X.env :: X.outer):=by rw [I.ok.frames,hst]
 have lands:∀ (H1:Hp) (s1:Shared) (ev:Value) (s':Shared),ZF X pins σ H1 s1->XM X.prog X.w X.stack H1 s1 (Li X.K CB i ts D σ) ev s' ->
   wpAny (model X.prog X.w) X.A (noteFrame ev X.env) (fun _ s₂=>wpAny (model X.prog X.w) X.A (setFlight ev none) (fun _ s₃=>wpAny (model X.prog X.w) X.A (handleBy ev X.env [.ExceptHandler (some (.Name y py)) (some n) (b₀ :: suite) ph]) (SP X pins D) X.xe s₃) X.xe s₂) X.xe s':=by
  intro H1 s1 ev s' I1 hx
  obtain ⟨ea,cls,od,H',rfl,W,C,rfl,mC,q⟩:=hx
  obtain ⟨B,fl,inT,inB,inA⟩:=W.ex
  have fl':X5 B (X.env :: X.outer) ea (.ref C) od .none s'.heap:=by rw [<-hst];exact fl
  refine KC hfr hfm fl' fun h4 held4 sm4=>?_
  refine Pn (s:={ s' with heap:=h4 }) held4 fun h5 fl5 sm5=>?_
  have J5:ZF X pins σ H' { s' with heap:=h5 }:=Jp I1 W inT inB inA fl5.1 (sm4.trans sm5)
  refine wpAny_handleBy_cons (codeAny_handlers_test ?_) (by intro q;cases q)
  refine UA (J5.held ea (fun _ _=>False)) hy hyC ?_ hdy
  refine HC (s:={ s' with heap:=h5 }) J5.kIn fl5.at.is ht hB mC ?_
  refine codeAny_handlers_suite_as ?_
  refine Pn (s:={ s' with heap:=h5 }) fl5 fun h6 fl6 sm6=>?_
  have J6:ZF X pins σ H' { s' with heap:=h6 }:=Jp I1 W inT inB inA fl6.1 ((sm4.trans sm5).trans sm6)
  have n0:X.s₀.heap.get? ea=none:=by
   cases z:X.s₀.heap.get? ea with
   | none=>rfl
   | some o=>
    obtain ⟨o',q'⟩:=I1.base.there ea o z (by rw [hex];simp)
    rw [W.new] at q'
    cases q'
  have n1:ea≠X.env.locals:=fun z=>by
   obtain ⟨m,⟨o,_,_,ho,_⟩,_⟩:=I1.loc
   rw [<-z,W.new] at ho
   cases ho
  have n2:∀ x c,X.env.cells.lookup x=some c->c≠ea:=fun x c e z=>by
   obtain ⟨v,o,ho,_⟩:=I1.cell x c e
   rw [z,W.new] at ho
   cases ho
  have n3:∀ p∈X.pn++pins,p.1≠ea:=fun p hp z=>by
   have ho:=(I1.pin p hp).1
   rw [z,W.new] at ho
   cases ho
  have K6:ZF X pins σ (upd H' ea (XO WL ea C od)) { s' with heap:=h6 }:=J6.track n0 n1 n2 n3 W.free (Me fl6.at)
  refine Nm K6 hN hi (.inl hn) (v:=.ref ea) rfl (fun s7 I7=>?_) (.inr hn)
  refine wpAny_mono (hs ea _ pins s7 _ _ _ (I7.held ea _) (q ea W.free)) (fun fl s8 h8=>?_) fun _ _ z=>z
  cases fl with
  | next=>
   obtain ⟨σ8,H8,J8,q8⟩:=h8
   exact (J8.unheld I1.ok).goes hN hi hn fun s9 I9=>⟨_,H8,I9,q8⟩
  | brk=>
   obtain ⟨σ8,H8,J8,q8⟩:=h8
   exact (J8.unheld I1.ok).goes hN hi hn fun s9 I9=>⟨_,H8,I9,q8⟩
  | cont=>
   obtain ⟨σ8,H8,J8,q8⟩:=h8
   exact (J8.unheld I1.ok).goes hN hi hn fun s9 I9=>⟨_,H8,I9,q8⟩
  | ret u=>
   obtain ⟨v8,σ8,H8,J8,r8,q8⟩:=h8
   exact (J8.unheld I1.ok).goes hN hi hn fun s9 I9=>⟨v8,_,H8,I9,r8,q8⟩
 refine wpAny_execs_cons (wpAny_Expr_any ?_ I.quiet hsw)
 have I':=I.wish (fun ev s'=>wpAny (model X.prog X.w) X.A (noteFrame ev X.env) (fun _ s₂=>wpAny (model X.prog X.w) X.A (setFlight ev none) (fun _ s₃=>wpAny (model X.prog X.w) X.A (handleBy ev X.env [.ExceptHandler (some (.Name y py)) (some n) (b₀ :: suite) ph]) (SP X pins D) X.xe s₃) X.xe s₂) X.xe s')
 refine wpAny_Call_Name_kw (UA I hg hm ?_ hdb)
 refine zBn (h₀:=X.base) I.ok.mod.kin hk (Zb (ha _ pos1 pins s σ H _ I' h) fun us s1 ⟨vs,H1,I1,r,q⟩=>⟨I1.kIn,?_⟩) he hpl
 have r2:ZN (vs++[]) (us++[]):=r.append .nil
 have hl:(us++[]).length=ps.length:=by rw [<-r2.length];exact F.len _ _ _ _ q
 refine wpAny_call (codeAny_mono (F.run X.A X.stack s1 H1 ⟨us,[]⟩ (us++[]) (vs++[]) _ _ hr I1.env0 (hb s1 us I1.kIn hl) r2 q) fun rr s' hq=>?_)
 cases rr with
 | error ev=>exact lands H1 s1 ev s' I1.unwish hq
 | ok fl=>
  cases fl with
  | ret u=>
   obtain ⟨v,H2,J,rv,q2⟩:=I1.unwish.after hq
   exact wpAny_execs_nil (wpAny_execs_nil ⟨σ,H2,J,q2⟩)
  | next=>exact False.elim hq
  | brk=>exact False.elim hq
  | cont=>exact False.elim hq
section
variable {X:Cx}
theorem GY (hu:X.A.units<cLine):YV X (compareOp .Eq) (fun x y H Q=>∃ (p b:Addr) (xs ys:List Bool),x=.ref p/\y=.ref b/\ZM X.K H p (xs.map V.bl)/\ZM X.K H b (ys.map V.bl)/\xs.length=ys.length/\Q (.bl ((zAi xs.length).all fun j=>xs.getD j false==ys.getD j false)) H):=by
 intro pins s σ H x y v u Q I rx ry h
 obtain ⟨p,b,xs,ys,rfl,rfl,h1,h2,hl,q⟩:=h
 cases rx
 cases ry
 obtain ⟨its,r1,p1,z1⟩:=I.list h1
 obtain ⟨its2,r2,p2,z2⟩:=I.list h2
 have l1:=r1.length
 have l2:=r2.length
 rw [zAD] at l1 l2
 have ln:its.toArray.size=xs.length:=by simp;omega
 refine PySem.SeqAt.eq_listAt (e:=fun j=>xs.getD j false==ys.getD j false) p1.isList p2.isList (by simp;omega) hu (fun j g1 g2=>?_) (YS I q (by rw [ln]))
 have hj:j<xs.length:=by omega
 have hj2:j<ys.length:=by omega
 have hv:(xs.map V.bl)[j]? = some (.bl (xs.getD j false)):=by rw [zAN,zAB,zAE hj];rfl
 have hv2:(ys.map V.bl)[j]? = some (.bl (ys.getD j false)):=by rw [zAN,zAB,zAE hj2];rfl
 obtain ⟨u1,e1,a1⟩:=r1.get hv
 obtain ⟨u2,e2,a2⟩:=r2.get hv2
 have k1:its.toArray[j]=u1:=by
  have:its.toArray[j]? = some u1:=by simpa using e1
  rw [zAc g1] at this
  exact zAh.inj this
 have k2:its2.toArray[j]=u2:=by
  have:its2.toArray[j]? = some u2:=by simpa using e2
  rw [zAc g2] at this
  exact zAh.inj this
 rw [k1,k2]
 obtain rfl:u1=.bool _:=a1
 obtain rfl:u2=.bool _:=a2
 exact PySem.SeqAt.EqAt.bool_bool _ _
end
end L2
namespace Tw
open PySem PySem.Spec L2 PyProof.Rows
theorem DJ:bootBuiltins "ValueError" = some (.type "ValueError"):=by decide +kernel
theorem Hm {X:Cx} {K:zAA} {e:Expr} {ta:TE} {f:Str} {pos:Pos} (he:PE X e ta) (hb:attributeBase e f X.env (eval e X.env)=eval e X.env) (hK:X.K=K:=by rfl):PE X (.Attribute e f pos) (Kh K ta f):=by
 subst hK
 exact HH he hb
def N5 (K:zAA):R2:=fun x y H Q=>∃ (p b:Addr) (xs ys:List Bool),x=.ref p/\y=.ref b/\ZM K H p (xs.map V.bl)/\ZM K H b (ys.map V.bl)/\xs.length=ys.length/\Q (.bl ((zAi xs.length).all fun j=>xs.getD j false==ys.getD j false)) H
theorem IE {X:Cx} {K:zAA} (hu:X.A.units<cLine) (hK:X.K=K:=by rfl):YV X (compareOp .Eq) (N5 K):=by
 subst hK
 exact GY hu
structure Cl (K:zAA) (mg:Str->Option Value) (CB CT CK CP:Addr):Prop where
 base:mg "TwigError" = some (.ref CB)
 n1:mg "NoTwig" = some (.ref CT)
 n2:mg "NoKey" = some (.ref CK)
 n3:mg "NoPlace" = some (.ref CP)
 ty:zA4 K (.ref CB)=some (.type "type")
 mB:zAs K CB (.type "BaseException")=some true
 subT:zAs K CT (.ref CB)=some true
 subK:zAs K CK (.ref CB)=some true
 xk:XG K CK
 tt:zAV K (.ref CT) (.ref CT)=some true
 tk:zAV K (.ref CT) (.ref CK)=some false
 tp:zAV K (.ref CT) (.ref CP)=some false
 tv:zAV K (.ref CT) (.type "ValueError")=some true
 kt:zAV K (.ref CK) (.ref CT)=some false
 kk:zAV K (.ref CK) (.ref CK)=some true
 kp:zAV K (.ref CK) (.ref CP)=some false
 kv:zAV K (.ref CK) (.type "ValueError")=some true
section
variable {P:Program} {w:World} {K:zAA} {mg:Str->Option Value} {base:Heap} {f:Addr} {fd:FuncData} {CSh CTw CT CK CB CP:Addr}
def Nk (gt:List KT) (CSh CTw:Addr):Sp:=fun vs H Q _=>∃ (X:XS) (lk:Addr) (c:Nat) (ls:List V) (r:Option Int) (v:V) (N:Addr->Prop) (o:Option KT),vs=[.ref X.S,YM r,v]/\Z4 CSh CTw H X lk c ls/\WF gt X.ts/\(∀ i,i<X.ts.length->(gd X.ts i).h<=60)/\ls.length<=500/\Wy N H o v/\(WV X.ts r=true->o=none) /\
 (∀ x,r=some x->inT X.ts x=false->∀ H' t,ZA H H'->H' t=some (.tup [.str "twig",.int x])->Q (.ref t) H')/\(WV X.ts r=true->∀ H' t,ZA H H'->H' t=some (.tup [.str "spot",.bl true])->Q (.ref t) H')
abbrev Gy:List Str:=["_law_shelf","_law_root","_law_spot","e","_law_some"]
theorem XU:ZC Gy ["_law_shelf","_law_root","_law_spot"] (Zf MC):=⟨rfl,rfl,rfl,by decide +kernel,rfl,by decide +kernel,by decide +kernel⟩
theorem Dv {gt:List KT} (F0:Zk K "_law_refusal" "_law_refusal" MC f fd) (T:YG mg) (N:XN P w K mg base "NoTwig" CT) (L:Cl K mg CB CT CK CP) (DW:Y2 P w K mg base 11 "way_to" ["shelf","root","key"] (P8 gt CSh CTw CT CK)):ZK P w K mg base ZV 12 f fd ["_law_shelf","_law_root","_law_spot"] (Nk gt CSh CTw):=by
 refine F0.ok XU (fun vs H Q E h=>(by obtain ⟨_,_,_,_,_,_,_,_,rfl,_⟩:=h;rfl)) (fun cdv A outer s H vs Q E hr h=>?_)
 obtain ⟨X,lk,c,ls,r,v,N0,o,rfl,R,hw,low,few,hv,hbad,k1,k2⟩:=h
 have nd:=XU.nd
 have hu:=hr.units0
 obtain ⟨g,gd',FC,bC,kC,mC⟩:=DW.ex
 obtain ⟨fI,fdI,ef,_,_⟩:=N.ex
 refine ⟨_,ZS (CZ (i:=3) FC hr rfl mC kC bC (fun E'=>X8 (pv 0) (pv 1) (pv 2)) rfl rfl rfl rfl L.base nd rfl rfl L.ty L.mB
   (fun ea E'=>ZS (Zm (i:=4) nd rfl (Or.inl rfl) (Ye (WS (Zw (r:=QV K) P2 rfl T.isi Xi (ZI (pv 3) (ZI (Xa (v:=.ref CT) rfl L.n1 rfl) ZG))) (Zw (r:=QV K) P2 rfl T.isi Xi (ZI (pv 3) (ZI (Xa (v:=.ref CK) rfl L.n2 rfl) ZG)))
     (Zw (r:=QV K) P2 rfl T.isi Xi (ZI (pv 3) (ZI (Xa (v:=.ref CP) rfl L.n3 rfl) ZG))) (JY (Zw (r:=QV K) P2 rfl T.isi Xi (ZI (pv 3) (ZI (X4 (v:=.ty "ValueError") rfl T.ValueError DJ rfl) ZG)))))))
    (ZS (Z5 (Yn (r:=N5 K) (IE hu) (pv 4) (Ye (WS Y8 Y8 Y8 Y8)) (Z2 _)) (ZW (Zi (YU (ZI Y3 (ZI (Hm (pv 3) (by rfl)) ZG))))) Z8)
    (ZW (Zi (YU (ZI Y3 (ZI (Xm (r:=N5 K) (IE hu) (pv 4) (Ye (WS Y8 Y8 Y8 Y8)) (Z2 _)) ZG))))))))
  (ZW (Zi (YU (ZI Y3 ZG)))),?_⟩
 refine ⟨_,rfl,_,rfl,_,rfl,X,lk,c,ls,r,v,o,rfl,⟨R,hw,low,few,⟨N0,hv⟩,fun x ex hx dx H1 s1 edx=>⟨CT,rfl,L.subT,fun ea hea=>?_⟩,fun gr on H1 s1=>⟨CK,rfl,L.subK,fun ea hea=>?_⟩⟩,fun k rn ek er hrn H' D us _ _ _ _ _ _=>?_⟩
 ·have g1:=Za hea (XO WL ea CT (some dx))
  have ee:upd H1 ea (XO WL ea CT (some dx)) ea=some (XO WL ea CT (some dx)):=ZP
  have ix:Pd (upd H1 ea (XO WL ea CT (some dx))) ea CT:=Ju ee
  have ed:=g1 _ _ edx
  have s01:=s1.trans g1
  generalize upd H1 ea (XO WL ea CT (some dx))=H2 at g1 ee ix ed s01 ⊢
  refine ⟨_,rfl,ea,CT,_,true,rfl,ix,ef.exc,rfl,L.tt,_,rfl,ea,CT,_,false,rfl,ix,ef.exc,rfl,L.tk,_,rfl,ea,CT,_,false,rfl,ix,ef.exc,rfl,L.tp,_,rfl,ea,CT,_,true,rfl,ix,ef.exc,rfl,L.tv,_,rfl,nn (zAC rfl),fun q nq=>?_⟩
  have g3:=Za nq (.lst ([true,false,false,false].map V.bl))
  have eq:=ZP (H:=H2) (a:=q) (o:=.lst ([true,false,false,false].map V.bl))
  refine ⟨_,rfl,nn (zAC rfl),fun q2 nq2=>?_⟩
  have g4:=Za nq2 (.lst ([true,false,false,false].map V.bl))
  have g24:=g3.trans g4
  refine ⟨q,q2,[true,false,false,false],[true,false,false,false],rfl,rfl,ZM.of (g4 _ _ eq),ZM.of ZP,rfl,_,rfl,Zy ?_⟩
  refine ⟨_,rfl,WL,ea,CT,dx,_,_,fI,rfl,g24 _ _ ee,g24 _ _ ed,ef,rfl,nn (zAC rfl),fun t nt=>?_⟩
  exact k1 x ex hx _ t ((s01.trans g24).trans (Za nt _)) ZP
 ·have g1:=Za hea (XO WL ea CK none)
  have ee:upd H1 ea (XO WL ea CK none) ea=some (XO WL ea CK none):=ZP
  have ix:Pd (upd H1 ea (XO WL ea CK none)) ea CK:=Ju ee
  have s01:=s1.trans g1
  generalize upd H1 ea (XO WL ea CK none)=H2 at g1 ee ix s01 ⊢
  refine ⟨_,rfl,ea,CK,_,false,rfl,ix,L.xk,rfl,L.kt,_,rfl,ea,CK,_,true,rfl,ix,L.xk,rfl,L.kk,_,rfl,ea,CK,_,false,rfl,ix,L.xk,rfl,L.kp,_,rfl,ea,CK,_,true,rfl,ix,L.xk,rfl,L.kv,_,rfl,nn (zAC rfl),fun q nq=>?_⟩
  have g3:=Za nq (.lst ([false,true,false,false].map V.bl))
  have eq:=ZP (H:=H2) (a:=q) (o:=.lst ([false,true,false,false].map V.bl))
  refine ⟨_,rfl,nn (zAC rfl),fun q2 nq2=>?_⟩
  have g4:=Za nq2 (.lst ([true,false,false,false].map V.bl))
  have g24:=g3.trans g4
  refine ⟨q,q2,[false,true,false,false],[true,false,false,false],rfl,rfl,ZM.of (g4 _ _ eq),ZM.of ZP,rfl,_,rfl,Zp ?_⟩
  refine ⟨_,rfl,nn (zAC rfl),fun q3 nq3=>?_⟩
  have g5:=Za nq3 (.lst ([false,true,false,false].map V.bl))
  refine ⟨q,q3,[false,true,false,false],[false,true,false,false],rfl,rfl,ZM.of (g5 _ _ (g4 _ _ eq)),ZM.of ZP,rfl,nn (zAC rfl),fun t nt=>?_⟩
  exact k2 gr _ t (((s01.trans g24).trans g5).trans (Za nt _)) ZP
 ·have gr:WV X.ts r=true:=by rw [er];exact Mj hrn
  rw [hbad gr] at ek
  cases ek
end
section
variable {P:Program} {w:World} {K:zAA} {mg:Str->Option Value} {base:Heap} {f:Addr} {fd:FuncData} {CSh CTw CS CT CH:Addr}
theorem GH {X:Cx} {e0 e1 e2 e3 e4 e5 e6 e7:Expr} {t0 t1 t2 t3 t4 t5 t6 t7:TE} (g0:PE X e0 t0) (g1:PE X e1 t1) (g2:PE X e2 t2) (g3:PE X e3 t3) (g4:PE X e4 t4) (g5:PE X e5 t5) (g6:PE X e6 t6) (g7:PE X e7 t7) (h:[e0,e1,e2,e3,e4,e5,e6,e7].all UL=true:=by rfl) :
  PA X [e0,e1,e2,e3,e4,e5,e6,e7] (Ym t0 (Ym t1 (Ym t2 (Ym t3 (Ym t4 (Ym t5 (Ym t6 (Ym t7 WX)))))))):=
 (ZX g0 (ZX g1 (ZX g2 (ZX g3 (ZX g4 (ZX g5 (ZX g6 (ZX g7 ZG (Yv (zAM.mp h e7 (by simp)))) (Yv (zAM.mp h e6 (by simp)))) (Yv (zAM.mp h e5 (by simp)))) (Yv (zAM.mp h e4 (by simp)))) (Yv (zAM.mp h e3 (by simp)))) (Yv (zAM.mp h e2 (by simp)))) (Yv (zAM.mp h e1 (by simp)))) (Yv (zAM.mp h e0 (by simp))))
theorem KJ:(Vu "a" 41).length=41:=by decide +kernel
theorem G8:Wv (zAy "\n")=false:=by decide +kernel
def MQ:Sp:=fun vs H Q _=>∃ (p:Addr),vs=[.ref p]/\ZH H p/\∀ (v:V) (H':Hp),Wy (fun b=>b=p\/H b≠none) H' none v->ZH H' p->ZE p H H'->Q v H'
theorem DE:ZC ["_law_well_here"] ["_law_well_here"] (Zf Mc):=⟨rfl,rfl,rfl,by decide +kernel,rfl,by decide +kernel,by decide +kernel⟩
theorem C3 (F:Zk K "_law_bad" "_law_bad" Mc f fd) (DP:ZB P w K mg base 1 "_law_pull" ["_law_well_here","_law_many"] Xq):ZK P w K mg base ZV 2 f fd ["_law_well_here"] MQ:=by
 refine F.ok DE (fun vs H Q E h=>(by obtain ⟨_,rfl,_⟩:=h;rfl)) (fun cdv A outer s H vs Q E hr h=>?_)
 obtain ⟨p,rfl,W,q⟩:=h
 refine ⟨_,ZW (Zi (Zo (r:=YB K) YH (Ye (GH Y8 U5 (Ye (ZI ZO ZG)) (Zs Qe ZO ZO) (Zs Dm Y3 ZO) (YU (Hq ZO ZO ZO ZO ZO)) (YU (ZI Y3 ZG))
  (YU (ZI (YU (ZI (YU (ZI (YU ZG) ZG)) ZG)) ZG)))) (Zg DP hr (ZI (pv 0) (ZI ZO ZG))) (fun _ _=>rfl))),?_⟩
 refine ⟨nn (zAC rfl),fun a1 n1=>?_⟩
 have g1:=Za n1 (.lst [.int 1])
 refine ⟨_,_,rfl,rfl,⟨by decide,by decide,by decide⟩,_,_,rfl,rfl,by decide +kernel,by decide,by decide,nn (zAC rfl),fun a2 n2=>?_⟩
 have g2:=Za n2 (.tup [.int 1,.int 2,.int 3,.int 4,.int 5])
 refine ⟨nn (zAC rfl),fun a3 n3=>?_⟩
 have g3:=Za n3 (.tup [.str (zAy "\n")])
 refine ⟨nn (zAC rfl),fun a4 n4=>?_⟩
 have g4:=Za n4 (.tup [])
 refine ⟨nn (zAC rfl),fun a5 n5=>?_⟩
 have g5:=Za n5 (.tup [.ref a4])
 refine ⟨nn (zAC rfl),fun a6 n6=>?_⟩
 have g6:=Za n6 (.tup [.ref a5])
 refine ⟨nn (zAC rfl),fun a7 n7=>?_⟩
 have g7:=Za n7 (.tup [.ref a6])
 refine ⟨nn (zAC rfl),fun d n8=>?_⟩
 have g8:=Za n8 (.lst [.bl true,.non,.ref a1,.int ((10:Int) ^ (60:Int).toNat),.str (Vu "a" 41),.ref a2,.ref a3,.ref a7])
 have c7:=g7.trans g8
 have c6:=g6.trans c7
 have c5:=g5.trans c6
 have c4:=g4.trans c5
 have c3:=g3.trans c4
 have c2:=g2.trans c3
 have c1:=g1.trans c2
 have b7:=((((((g1.trans g2).trans g3).trans g4).trans g5).trans g6).trans g7)
 have e1:=c2 _ _ (ZP (a:=a1) (o:=.lst [.int 1]))
 have e2:=c3 _ _ (ZP (a:=a2) (o:=.tup [.int 1,.int 2,.int 3,.int 4,.int 5]))
 have e3:=c4 _ _ (ZP (a:=a3) (o:=.tup [.str (zAy "\n")]))
 have e4:=c5 _ _ (ZP (a:=a4) (o:=.tup []))
 have e5:=c6 _ _ (ZP (a:=a5) (o:=.tup [.ref a4]))
 have e6:=c7 _ _ (ZP (a:=a6) (o:=.tup [.ref a5]))
 have e7:=g8 _ _ (ZP (a:=a7) (o:=.tup [.ref a6]))
 have dp:d≠p:=Wp (W.same b7) n8
 have ap:a1≠p:=Wp W n1
 have W1:=W.same c1
 have e8:upd (upd (upd (upd (upd (upd (upd (upd H a1 (.lst [.int 1])) a2 (.tup [.int 1,.int 2,.int 3,.int 4,.int 5])) a3 (.tup [.str (zAy "\n")])) a4 (.tup [])) a5 (.tup [.ref a4])) a6 (.tup [.ref a5])) a7 (.tup [.ref a6])) d (.lst [.bl true,.non,.ref a1,.int ((10:Int) ^ (60:Int).toNat),.str (Vu "a" 41),.ref a2,.ref a3,.ref a7]) d=some (.lst [.bl true,.non,.ref a1,.int ((10:Int) ^ (60:Int).toNat),.str (Vu "a" 41),.ref a2,.ref a3,.ref a7]):=ZP
 generalize upd (upd (upd (upd (upd (upd (upd (upd H a1 (.lst [.int 1])) a2 (.tup [.int 1,.int 2,.int 3,.int 4,.int 5])) a3 (.tup [.str (zAy "\n")])) a4 (.tup [])) a5 (.tup [.ref a4])) a6 (.tup [.ref a5])) a7 (.tup [.ref a6])) d (.lst [.bl true,.non,.ref a1,.int ((10:Int) ^ (60:Int).toNat),.str (Vu "a" 41),.ref a2,.ref a3,.ref a7])=H1 at *
 refine ⟨_,rfl,p,8,rfl,W1,Y4 (by decide) (by decide),fun j H2 j0 j1 W2 s2=>?_⟩
 obtain ⟨v,av,mv⟩:=UK (xs:=[V.bl true,.non,.ref a1,.int ((10:Int) ^ (60:Int).toNat),.str (Vu "a" 41),.ref a2,.ref a3,.ref a7]) j0 j1
 have t2:=s2.tupsW W1
 refine .inl ⟨d,_,_,v,rfl,rfl,ZM.of (s2 _ _ e8 dp),av,?_⟩
 have fin:Wy (fun b=>b=p\/H b≠none) H2 none v->Q v H2:=fun h=>q v H2 h W2 ((ZE.of c1).trans s2)
 refine fin ?_
 have hten:(10:Int) ^ 60<=(10:Int) ^ (60:Int).toNat:=by decide +kernel
 clear av e8
 generalize (10:Int) ^ (60:Int).toNat=M at mv hten
 simp only [zAd,zBV,or_false] at mv
 rcases mv with rfl | rfl | rfl | rfl | rfl | rfl | rfl | rfl
 ·exact ⟨.odd "bool",by rw [Zh];exact .inl ⟨rfl,true,rfl⟩,by rw [TG.neat];trivial,by rw [TG.fits]⟩
 ·exact ⟨.odd "NoneType",by rw [Zh];exact .inr (.inl ⟨rfl,rfl⟩),by rw [TG.neat];trivial,by rw [TG.fits]⟩
 ·exact ⟨.odd "list",by rw [Zh];exact .inr (.inr (.inl ⟨rfl,a1,_,rfl,s2 _ _ e1 ap,fun z=>z.elim ap fun y=>y n1⟩)),by rw [TG.neat];trivial,by rw [TG.fits]⟩
 ·refine ⟨.int M,by rw [Zh],by rw [TG.neat];trivial,?_⟩
  rw [TG.fits]
  refine decide_eq_false fun z=>?_
  have e:((10:Int) ^ 60)=((10 ^ 60:Nat):Int):=by decide +kernel
  rw [e] at hten
  generalize (10 ^ 60:Nat)=T at *
  omega
 ·refine ⟨.str _,by rw [Zh],by rw [TG.neat,KJ];decide,?_⟩
  rw [TG.fits]
  unfold Wv
  rw [KJ]
  rfl
 ·refine ⟨.tup [.int 1,.int 2,.int 3,.int 4,.int 5],?_,?_,?_⟩
  ·rw [Zh]
   exact ⟨a2,_,rfl,t2 _ _ e2,by simp [ThsAt,Zh]⟩
  ·simp [TG.neat,neatL]
  ·simp [TG.fits]
 ·refine ⟨.tup [.str (zAy "\n")],?_,?_,?_⟩
  ·rw [Zh]
   exact ⟨a3,_,rfl,t2 _ _ e3,by simp [ThsAt,Zh]⟩
  ·rw [TG.neat]
   exact ⟨by decide,by rw [neatL,neatL,TG.neat];exact ⟨by decide +kernel,trivial⟩⟩
  ·rw [TG.fits,gfitsL,TG.fits,G8]
   rfl
 ·refine ⟨.tup [.tup [.tup [.tup []]]],?_,?_,?_⟩
  ·rw [Zh]
   refine ⟨a7,_,rfl,t2 _ _ e7,?_⟩
   rw [ThsAt]
   refine ⟨_,_,rfl,?_,by rw [ThsAt]⟩
   rw [Zh]
   refine ⟨a6,_,rfl,t2 _ _ e6,?_⟩
   rw [ThsAt]
   refine ⟨_,_,rfl,?_,by rw [ThsAt]⟩
   rw [Zh]
   refine ⟨a5,_,rfl,t2 _ _ e5,?_⟩
   rw [ThsAt]
   refine ⟨_,_,rfl,?_,by rw [ThsAt]⟩
   rw [Zh]
   exact ⟨a4,_,rfl,t2 _ _ e4,by rw [ThsAt]⟩
  ·simp [TG.neat,neatL]
  ·simp [TG.fits,gfitsL]
end
end Tw
namespace L2
open PySem PySem.Spec PyProof.Rows
def Qd:V->Bool
 | .int _=>true
 | .str _=>true
 | .bl _=>true
 | _=>false
theorem Hz {A:Around} {s:Shared} {v:V} {a b:Value} (h:Qd v=true) (ra:ZQ v a) (rb:ZQ v b):PySem.SeqAt.EqAt A s a b true:=by
 cases v with
 | int i=>
  obtain ⟨t1,rfl⟩:=ra
  obtain ⟨t2,rfl⟩:=rb
  have:=PySem.SeqAt.EqAt.int_int (A:=A) (s:=s) i t1 i t2
  rwa [show (i==i)=true by simp] at this
 | str x=>
  obtain ⟨t1,rfl⟩:=ra
  obtain ⟨t2,rfl⟩:=rb
  have:=PySem.SeqAt.EqAt.str_str (A:=A) (s:=s) x t1 x t2
  rwa [show (x==x)=true by simp] at this
 | bl x=>
  obtain rfl:a=.bool x:=ra
  obtain rfl:b=.bool x:=rb
  exact PySem.SeqAt.EqAt.same _
 | _=>cases h
section
variable {X:Cx}
theorem Jf {pins:List (Addr×Obj)} {σ:St} {H:Hp} {s:Shared} {xs:List V} {its its2:List Value} (hf:∀ v∈xs,Qd v=true) (r1:ZN xs its) (r2:ZN xs its2) (j:Nat) (g1:j<its.toArray.size) (g2:j<its2.toArray.size):PySem.SeqAt.EqAt X.A.in1 s its.toArray[j] its2.toArray[j] true:=by
 have l1:=r1.length
 have hj:j<xs.length:=by simp at g1;omega
 have hv:xs[j]? = some xs[j]:=zAE hj
 obtain ⟨u1,e1,a1⟩:=r1.get hv
 obtain ⟨u2,e2,a2⟩:=r2.get hv
 have k1:its.toArray[j]=u1:=by
  have:its.toArray[j]? = some u1:=by simpa using e1
  rw [zAc g1] at this
  exact zAh.inj this
 have k2:its2.toArray[j]=u2:=by
  have:its2.toArray[j]? = some u2:=by simpa using e2
  rw [zAc g2] at this
  exact zAh.inj this
 rw [k1,k2]
 exact Hz (hf _ (zA9 hj)) a1 a2
def Kp (K:zAA) (b:Bool):R2:=fun x y H Q=>∃ (p q:Addr) (xs:List V),x=.ref p/\y=.ref q/\Zj K H p xs/\Zj K H q xs/\(∀ v∈xs,Qd v=true)/\Q (.bl b) H
theorem Lw (hu:X.A.units<cLine):YV X (compareOp .Eq) (Kp X.K true):=by
 intro pins s σ H x y v u Q I rx ry h
 obtain ⟨p,b,xs,rfl,rfl,h1,h2,hf,q⟩:=h
 cases rx
 cases ry
 obtain ⟨its,r1,p1,z1⟩:=I.tuple h1
 obtain ⟨its2,r2,p2,z2⟩:=I.tuple h2
 have l1:=r1.length
 have l2:=r2.length
 exact PySem.SeqAt.eq_tupleAt (e:=fun _=>true) p1 p2 hu (fun j g1 g2=>Jf (X:=X) (pins:=pins) (σ:=σ) (H:=H) hf r1 r2 j g1 g2) (YS I q (by simp;omega))
theorem IT (hu:X.A.units<cLine):YV X (compareOp .NotEq) (Kp X.K false):=by
 intro pins s σ H x y v u Q I rx ry h
 obtain ⟨p,b,xs,rfl,rfl,h1,h2,hf,q⟩:=h
 cases rx
 cases ry
 obtain ⟨its,r1,p1,z1⟩:=I.tuple h1
 obtain ⟨its2,r2,p2,z2⟩:=I.tuple h2
 have l1:=r1.length
 have l2:=r2.length
 exact PySem.SeqAt.RcNeAt.tuples (e:=fun _=>true) p1 p2 hu (fun j g1 g2=>Jf (X:=X) (pins:=pins) (σ:=σ) (H:=H) hf r1 r2 j g1 g2) X.prog X.w X.xe _ (YS I q (by simp;omega))
end
end L2
namespace Tw
open PySem PySem.Spec L2 PyProof.Rows
section
variable {P:Program} {w:World} {K:zAA} {mg:Str->Option Value} {base:Heap} {f:Addr} {fd:FuncData} {CSh CTw:Addr}
def OV (gt:List KT) (CSh CTw:Addr):Sp:=fun vs H Q _=>∃ (p:Addr) (X:XS) (lk:Addr) (c:Nat) (ls:List V) (rn:Option Nat) (v:V) (k:KT),vs=[.ref p,.ref X.S,YM (Z9 rn),v]/\ZH H p/\Z4 CSh CTw H X lk c ls/\WF gt X.ts/\(∀ i,i<X.ts.length->(gd X.ts i).h<=60)/\ls.length<=500/\X.ts.length<=900/\p≠lk/\(∀ i:Nat,i<X.ts.length->(X.as.getD i .d).ab≠p/\(X.as.getD i .d).th≠p)/\(∀ i,rn=some i->i<X.ts.length)/\ZD H k v/\k.fits 3=true /\
 ∀ (H':Hp),(∀ b o,b≠p->b≠X.S->b≠X.d->H b=some o->H' b=some o)->ZH H' p->Z4 CSh CTw H' X lk (c+1) ls->Q (.bl true) H'
abbrev Da:List Str:=["_law_well_here","_law_shelf","_law_root","_law_spot","_law_bad_here","_law_gone_here"]
theorem XV:ZC Da ["_law_well_here","_law_shelf","_law_root","_law_spot"] (Zf Ms):=⟨rfl,rfl,rfl,by decide +kernel,rfl,by decide +kernel,by decide +kernel⟩
theorem Dc {gt:List KT} (F0:Zk K "_law_refuses" "_law_refuses" Ms f fd) (DB:ZB P w K mg base 2 "_law_bad" ["_law_well_here"] MQ) (DG:ZB P w K mg base 11 "_law_gone" ["_law_well_here","_law_shelf"] (MU CSh CTw)) (DR:ZB P w K mg base 12 "_law_refusal" ["_law_shelf","_law_root","_law_spot"] (Nk gt CSh CTw)) :
  ZK P w K mg base ZV 13 f fd ["_law_well_here","_law_shelf","_law_root","_law_spot"] (OV gt CSh CTw):=by
 refine F0.ok XV (fun vs H Q E h=>(by obtain ⟨_,_,_,_,_,_,_,_,rfl,_⟩:=h;rfl)) (fun cdv A outer s H vs Q E hr h=>?_)
 obtain ⟨p,X,lk,c,ls,rn,v,k,rfl,W,R,hw,low,few,t9,plk,own,hrn,hv,fk,q⟩:=h
 have nd:=XV.nd
 have hu:=hr.units0
 have hr2:=hr.mono (show 2<=12 by decide)
 have hr11:=hr.mono (show 11<=12 by decide)
 refine ⟨_,ZS (Zm (i:=4) nd rfl (Or.inl rfl) (Zg DB hr2 (ZI (pv 0) ZG)))
  (ZS (Zm (i:=5) nd rfl (Or.inl rfl) (Zg DG hr11 (ZI (pv 0) (ZI (pv 1) ZG))))
  (ZS (Z5 (PW.pt (Vy (Yn (IT hu) (Zg DR hr (X8 (pv 1) (pv 2) (pv 4))) (YU (ZI Y3 (ZI Y8 ZG))) (Z2 _)) (V5 (Yn (IT hu) (Zg DR hr (X8 (pv 1) U5 (pv 4))) (YU (ZI Y3 (ZI Y8 ZG))) (Z2 _))))) (ZW (Zi Y8)) Z8)
  (ZW (Zi (VY (Xm (Lw hu) (Zg DR hr (X8 (pv 1) (pv 5) (pv 3))) (YU (ZI Y3 (ZI (pv 5) ZG))) (Z2 _)) (UD (Xm (Lw hu) (Zg DR hr (X8 (pv 1) (pv 5) (pv 4))) (YU (ZI Y3 (ZI (pv 5) ZG))) (Z2 _)))))))),?_⟩
 obtain ⟨⟨dx,hS⟩,hd,hlk⟩:=R.sh
 obtain ⟨pw,hp⟩:=W.some
 have pS:p≠X.S:=ZR hp hS (by intro z;cases z)
 have pd:p≠X.d:=ZR hp hd (by intro z;cases z)
 have hN:¬ UZ X lk p:=by
  rintro (z | z | z)
  ·exact pS z
  ·exact pd z
  ·exact plk z
 have own3:∀ i:Nat,i<X.ts.length->(X.as.getD i .d).x≠p/\(X.as.getD i .d).ab≠p/\(X.as.getD i .d).th≠p:=fun i hi=>by
  obtain ⟨dy,hy⟩:=(R.tw i hi).tw.self
  exact ⟨ZR hy hp (by intro z;cases z),own i hi⟩
 refine ⟨_,rfl,p,rfl,W,fun b H1 hb W1 s1=>?_⟩
 have t1:=s1.tupsW W
 have R1:=R.but s1 hN own3 t1
 refine ⟨_,rfl,_,rfl,p,X,lk,c,ls,rfl,W1,R1,t9,plk,own,fun H2 g fr2 W2 R2 hg=>?_⟩
 have t12:Zu H1 H2:=fun a xs e=>fr2 a _ (fun z=>by obtain ⟨ys,e'⟩:=W1.some;rw [z,e'] at e;cases e) (ZR e R1.sh.self.choose_spec (by intro z;cases z)) (ZR e R1.sh.kept (by intro z;cases z)) e
 have kp:Ys (fun b=>b=p\/H b≠none) H1 H2:=⟨t12,fun a o e n=>fr2 a o (fun z=>n (.inl z)) (fun z=>n (.inr (by rw [z,hS];exact fun y=>nomatch y))) (fun z=>n (.inr (by rw [z,hd];exact fun y=>nomatch y))) e⟩
 have hb2:=hb.mono kp
 have kv2:=(hv.mono t1 _ _).mono t12 _ _
 have fin:∀ {H3:Hp},ZA H2 H3->Q (.bl true) H3:=fun s3=>q _ (fun a o n1 n2 n3 e=>s3 a o (fr2 a o n1 n2 n3 (s1 a o e n1))) (W2.same s3) (R2.same s3)
 have flat1:∀ z∈[V.str "spot",V.bl true],Qd z=true:=fun z hz=>by
  simp only [zAd,zBV,or_false] at hz
  rcases hz with rfl | rfl <;> rfl
 have flat2:∀ z∈[V.str "twig",V.int g],Qd z=true:=fun z hz=>by
  simp only [zAd,zBV,or_false] at hz
  rcases hz with rfl | rfl <;> rfl
 refine ⟨_,rfl,_,rfl,_,rfl,X,lk,c+1,ls,Z9 rn,b,_,none,rfl,R2,hw,low,few,hb2,fun _=>rfl,fun x ex hx=>?_,fun _ H3 t3 s3 e3=>⟨nn (zAC rfl),fun q3 n3=>?_⟩⟩
 ·have:=Mj hrn
  rw [ex,show WV X.ts (some x)=inT X.ts x from rfl,hx] at this
  cases this
 have g3:=Za n3 (.tup [.str "spot",.bl true])
 refine ⟨t3,q3,_,rfl,rfl,Zj.of (g3 _ _ e3),Zj.of ZP,flat1,_,rfl,Zp ?_⟩
 have s23:=s3.trans g3
 refine ⟨_,rfl,_,rfl,X,lk,c+1,ls,none,b,_,none,rfl,R2.same s23,hw,low,few,hb2.mono (Ys.same s23),fun _=>rfl,(fun x ex hx=>by cases ex),fun _ H4 t4 s4 e4=>⟨nn (zAC rfl),fun q4 n4=>?_⟩⟩
 have g4:=Za n4 (.tup [.str "spot",.bl true])
 refine ⟨t4,q4,_,rfl,rfl,Zj.of (g4 _ _ e4),Zj.of ZP,flat1,_,rfl,Zp ?_⟩
 have s24:=(s23.trans s4).trans g4
 refine ⟨_,rfl,_,rfl,_,rfl,X,lk,c+1,ls,some g,v,fun _=>False,some k,rfl,R2.same s24,hw,low,few,⟨kv2.mono (ZA.tups s24) _ _,fk⟩,fun z=>?_,fun x ex hx H5 t5 s5 e5=>?_,fun z=>?_⟩
 ·rw [show WV X.ts (some g)=inT X.ts g from rfl,hg] at z;cases z
 ·cases ex
  refine ⟨_,rfl,nn (zAC rfl),fun q5 n5=>?_⟩
  have g5:=Za n5 (.tup [.str "twig",.int g])
  refine ⟨t5,q5,_,rfl,rfl,Zj.of (g5 _ _ e5),Zj.of ZP,flat2,_,rfl,Zy ?_⟩
  have s25:=(s24.trans s5).trans g5
  refine ⟨_,rfl,_,rfl,_,rfl,X,lk,c+1,ls,some g,b,_,none,rfl,R2.same s25,hw,low,few,hb2.mono (Ys.same s25),fun _=>rfl,fun x ex hx H6 t6 s6 e6=>?_,fun z=>?_⟩
  ·cases ex
   refine ⟨_,rfl,nn (zAC rfl),fun q6 n6=>?_⟩
   have g6:=Za n6 (.tup [.str "twig",.int g])
   exact ⟨t6,q6,_,rfl,rfl,Zj.of (g6 _ _ e6),Zj.of ZP,flat2,fin ((s25.trans s6).trans g6)⟩
  ·rw [show WV X.ts (some g)=inT X.ts g from rfl,hg] at z;cases z
 ·rw [show WV X.ts (some g)=inT X.ts g from rfl,hg] at z;cases z
end
section
variable {X:Cx}
theorem Ht {k0:Nat} (hr:ZZ k0 X.A):YV X (compareOp .NotIn) (fun x y H Q=>∃ (p:Addr) (us:List V) (ts:List KT) (k:KT),y=.ref p/\ZM X.K H p us/\KeysAt H ts us/\ZD H k x/\(∀ t∈ts,t.fits 3=true)/\∀ b,Q (.bl b) H):=by
 intro pins s σ H x y v u Q I rx ry h
 obtain ⟨p,us,ts,k,rfl,hq,ks,kx,hf,q⟩:=h
 cases ry
 obtain ⟨its,r,pl,hz⟩:=I.list hq
 have un:=hr.un
 have ex:∀ y,y∈its.toArray->∃ b,PySem.SeqAt.EqAt X.A.in1 s y v b:=fun y hy=>by
  have hy':y∈its:=by simpa using hy
  obtain ⟨j,hj⟩:=zBe hy'
  have lr:=r.length
  have hl:=(zAO.mp hj).1
  have hu:us[j]? = some (us[j]'(by omega)):=zAE (by omega)
  obtain ⟨u1,e1,a1⟩:=r.get hu
  rw [hj] at e1
  cases e1
  obtain ⟨t,et,kt⟩:=ks.get hu
  have dp:=Wd t 3 (hf t (zAK et))
  exact ⟨_,U1 t.depth t k X.A.in1 y v (zAH _) (Wo I _ _ _ kt a1) (Wo I _ _ _ kx rx) (by show X.A.units+1+_<_;omega)⟩
 refine PySem.SeqAt.notIn_listAt (fun y=>@ite _ (PySem.SeqAt.EqAt X.A.in1 s y v true) (Classical.propDecidable _) true false) pl.isList (fun y hy=>?_) ⟨.bl _,H,I,rfl,q _⟩
 obtain ⟨b,hb⟩:=ex y hy
 by_cases h:PySem.SeqAt.EqAt X.A.in1 s y v true
 ·rw [if_pos h]
  exact h
 ·rw [if_neg h]
  cases b with
  | true=>exact absurd hb h
  | false=>exact hb
end
section
variable {P:Program} {w:World} {K:zAA} {mg:Str->Option Value} {base:Heap} {f:Addr} {fd:FuncData}
def MW:Sp:=fun vs H Q _=>∃ (p kn:Addr) (us:List V) (ts:List KT),vs=[.ref p,.ref kn]/\ZH H p/\H kn=some (.lst us)/\KeysAt H ts us/\(∀ t∈ts,t.fits 3=true)/\kn≠p/\us.length<=300 /\
 ∀ (v:V) (t:KT) (us':List V) (ts':List KT) (H':Hp),ZD H' t v->t.fits 3=true->H' kn=some (.lst us')->KeysAt H' ts' us'->(∀ t∈ts',t.fits 3=true)->us'.length<=us.length+1->ZH H' p->(∀ b o,b≠p->b≠kn->H b=some o->H' b=some o)->Q v H'
theorem X0:ZC ["_law_well_here","_law_known_here","_law_spot"] ["_law_well_here","_law_known_here"] (Zf N8):=⟨rfl,rfl,rfl,by decide +kernel,rfl,by decide +kernel,by decide +kernel⟩
theorem Hl (F0:Zk K "_law_any_key" "_law_any_key" N8 f fd) (T:YG mg) (DP:ZB P w K mg base 1 "_law_pull" ["_law_well_here","_law_many"] Xq) (DK:ZB P w K mg base 6 "_law_key" ["_law_well_here","_law_room"] (Vr 4)):ZK P w K mg base ZV 7 f fd ["_law_well_here","_law_known_here"] MW:=by
 refine F0.ok X0 (fun vs H Q E h=>(by obtain ⟨_,_,_,_,rfl,_⟩:=h;rfl)) (fun cdv A outer s H vs Q E hr h=>?_)
 obtain ⟨p,kn,us,ts,rfl,W,hk,kk,hf,kp,l300,q⟩:=h
 have nd:=X0.nd
 have hr1:=hr.mono (show 1<=6 by decide)
 refine ⟨_,ZS (Z5 (PW.pt (OF (Yn (NE hr.units0) (pv 1) (Ye ZG) (Z2 _)) (O1 (Yn Vx (Zg DP hr1 (ZI (pv 0) (ZI ZO ZG))) ZO (Z2 _))))) (ZW (Zi (Zo (r:=YB K) YH (pv 1) (Zg DP hr1 (ZI (pv 0) (ZI (Zw XH rfl T.len XA (ZI (pv 1) ZG)) ZG))) (fun _ _=>rfl)))) Z8)
  (ZS (Zm (i:=2) nd rfl (Or.inl rfl) (Zg DK hr (ZI (pv 0) (ZI ZO ZG))))
  (ZS (Z5 (Yn (Ht hr) (pv 2) (pv 1) rfl) (ZW (XX (VV zAn zAv zAu VO (pv 1) (ZI (pv 2) ZG)))) Z8)
  (ZW (Zi (pv 2))))),?_⟩
 refine ⟨_,rfl,nn (zAC rfl),fun e0 ne0=>?_⟩
 have g0:=Za ne0 (.lst [])
 refine ⟨kn,e0,us,rfl,rfl,ZM.of (g0 _ _ hk),ZM.of ZP,_,rfl,?_⟩
 have hk0:=g0 _ _ hk
 have W0:=W.same g0
 generalize upd H e0 (.lst [])=H0 at g0 hk0 W0 ⊢
 have more:∀ {H1:Hp},ZE p H0 H1->ZH H1 p->∀ (R:V->Hp->Prop),(∀ v t H2,ZD H2 t v->t.fits 3=true->ZH H2 p->ZE p H0 H2->R v H2)->∃ (p':Addr) (r:Nat),[V.ref p,V.int 3]=[V.ref p',V.int (r:Int)]/\ZH H1 p'/\r<4/\∀ v t H2,ZD H2 t v->t.fits r=true->ZH H2 p'->ZE p' H1 H2->R v H2:=fun s1 W1 R hR=>⟨p,3,rfl,W1,by decide,fun v t H2 kv fv W2 s2=>hR v t H2 kv fv W2 (s1.trans s2)⟩
 have last:∀ {v:V} {t:KT} {H2:Hp},ZD H2 t v->t.fits 3=true->ZH H2 p->ZE p H0 H2->Q v H2:=fun {v t H2} kv fv W2 s2=>q v t us ts H2 kv fv (s2 _ _ hk0 kp) ((kk.mono (ZA.tups g0) _ _).mono (s2.tupsW W0) _ _) hf (by omega) W2 fun b o n1 _ e=>s2 b o (g0 b o e) n1
 have tail:∀ {v:V} {t:KT} {H2:Hp},ZD H2 t v->t.fits 3=true->ZH H2 p->ZE p H0 H2->H2 kn=some (.lst us)/\KeysAt H2 ts us/\(Q v H2)/\Q v (upd H2 kn (.lst (us++[v]))):=fun {v t H2} kv fv W2 s2=>by
  have hk2:=s2 _ _ hk0 kp
  have kk2:=(kk.mono (ZA.tups g0) _ _).mono (s2.tupsW W0) _ _
  have sK:ZE kn H2 (upd H2 kn (.lst (us++[v]))):=(ZE.refl kn H2).upd
  have tK:=sK.tups hk2
  refine ⟨hk2,kk2,last kv fv W2 s2,q v t (us++[v]) (ts++[t]) _ (kv.mono tK _ _) fv ZP ((kk2.mono tK _ _).append (.cons (kv.mono tK _ _) .nil)) (fun z hz=>?_) (by simp) (W2.stay sK (Ne.symm kp)) fun b o n1 n2 e=>by rw [ZT n2];exact s2 b o (g0 b o e) n1⟩
  rcases zAg.mp hz with y | y
  ·exact hf z y
  ·rw [zAQ.mp y];exact fv
 have luu:us.length<1000:=by omega
 cases us with
 | nil=>
  refine Zp (Zp ⟨_,rfl,more (ZE.refl _ _) W0 _ fun v t H2 kv fv W2 s2=>?_⟩)
  obtain ⟨a1,a2,a3,a4⟩:=tail kv fv W2 s2
  refine ⟨_,rfl,_,rfl,kn,_,ts,t,rfl,ZM.of a1,a2,kv,hf,fun b=>⟨_,rfl,?_⟩⟩
  cases b with
  | true=>exact Zy ⟨_,rfl,.inl ⟨rfl,_,ZM.of a1⟩,_,rfl,kn,_,v,rfl,rfl,a1,nn (by omega),_,rfl,a4⟩
  | false=>exact Zp ⟨_,rfl,a3⟩
 | cons u0 us0=>
  refine Zy ⟨_,rfl,p,3,rfl,W0,Y4 (by decide) (by decide),fun z H1 z0 z1 W1 s1=>⟨_,_,rfl,rfl,_,rfl,Xs (fun c=>?_) (fun c=>?_)⟩⟩
  ·have hk1:=s1 _ _ hk0 kp
   refine ⟨_,rfl,_,rfl,_,rfl,kn,_,rfl,.inl (ZM.of hk1),p,_,rfl,W1,Y4 (by simp <;> omega) (by simp at luu ⊢ <;> omega),fun j H2 j0 j1 W2 s2=>?_⟩
   obtain ⟨v,av,mv⟩:=UK (xs:=u0 :: us0) j0 j1
   have hk2:=s2 _ _ hk1 kp
   obtain ⟨i,hi⟩:=zBe mv
   have s02:=s1.trans s2
   obtain ⟨t,et,kt⟩:=((kk.mono (ZA.tups g0) _ _).mono (s02.tupsW W0) _ _).get hi
   exact .inl ⟨kn,_,_,v,rfl,rfl,ZM.of hk2,av,last kt (hf t (zAK et)) W2 s02⟩
  ·refine ⟨_,rfl,more s1 W1 _ fun v t H2 kv fv W2 s2=>?_⟩
   obtain ⟨a1,a2,a3,a4⟩:=tail kv fv W2 s2
   refine ⟨_,rfl,_,rfl,kn,_,ts,t,rfl,ZM.of a1,a2,kv,hf,fun b=>⟨_,rfl,?_⟩⟩
   cases b with
   | true=>exact Zy ⟨_,rfl,.inl ⟨rfl,_,ZM.of a1⟩,_,rfl,kn,_,v,rfl,rfl,a1,nn (by omega),_,rfl,a4⟩
   | false=>exact Zp ⟨_,rfl,a3⟩
end
theorem YJ.sub {l m:List KT} (h:YJ m) (s:l.Sublist m):YJ l:=zDE.sublist s h
theorem Oz (ts:List ZU):∀ pss:List (List Nat),Yk ts pss.flatten=pss.flatMap fun bs=>Yk ts bs
 | []=>rfl
 | bs :: pss=>by
  rw [zBR,zBc,<-Oz ts pss]
  unfold Yk
  rw [List.flatMap_append]
theorem HQ {gt:List KT} {ts:List ZU} (hw:WF gt ts) {bs:List Nat} {h:Nat} (hb:∀ b∈bs,b<ts.length/\(gd ts b).h=h) (h2:2<=bs.length) (h4:bs.length<=4) (hr:YJ ((Yk ts bs).map (·.1))):∃ L,over (Yg ts bs)=some L:=by
 have ll:(Yg ts bs).length=bs.length:=zAD _
 have up:=hr
 unfold YJ Yk at up
 rw [List.map_flatMap,zDK] at up
 refine ⟨_,ES (by omega) (by omega) fun j hj=>?_⟩
 have j0:j<bs.length:=by omega
 have j1:j+1<bs.length:=by omega
 rw [V0 j0,V0 j1]
 have ea:bs[j]? = some (bs.getD j 0):=by rw [zAB,zAE j0];rfl
 have eb:bs[j+1]? = some (bs.getD (j+1) 0):=by rw [zAB,zAE j1];rfl
 have ha:=hb _ (zAK ea)
 have hc:=hb _ (zAK eb)
 have pr:=PL up.2 (zBm j) ea eb
 obtain ⟨rs1,r1,e1,f1⟩:=OL (hw _ _ (Y1 ha.1)).ne
 obtain ⟨r2,rs2,e2,f2⟩:=Uk (hw _ _ (Y1 hc.1)).ne
 unfold VG
 rw [zAJ]
 refine ⟨?_,?_⟩
 ·show (((gd ts (bs.getD j 0)).h:Int)==((gd ts (bs.getD (j+1) 0)).h:Int))=true
  rw [ha.2,hc.2]
  simp
 ·rw [f1,f2]
  refine pr _ ?_ _ ?_
  ·rw [e1,zAZ]
   exact zAa _ (zAQ.mpr rfl)
  ·rw [e2]
   exact zAR ..
theorem Gz {rs ps:List YQ} (hf:∀ r∈rs,r.fit) (hr:YJ (rs.map (·.1))) (hs:ps.Sublist rs) (h1:1<=ps.length) (h4:ps.length<=4):V6 ps:=⟨fun r h=>hf r (hs.subset h),by omega,h4,YJ.sub hr (hs.map _)⟩
theorem Er {α:Type} {pss:List (List α)} {ps:List α} (h:ps∈pss):ps.Sublist pss.flatten:=zCw h
theorem GI {gt:List KT} {ts:List ZU} {rs:List YQ} (g:V6 rs):XR gt ts ts.length (WR rs):=
 ⟨fun z=>by have:=g.2.1;rw [show (WR rs).rows=rs from rfl] at z;rw [z] at this;simp at this,g.2.2.2,g.1,fun _=>⟨rfl,g.2.2.1⟩,fun z=>absurd rfl z⟩
def Z6 {α:Type} (back:Bool) (l:List α):List α:=if back=true then l.reverse else l
theorem Uo {α:Type} (back:Bool) (l:List α):(Z6 back l).length=l.length:=by cases back <;> simp [Z6]
theorem Ly {α:Type} (back:Bool) (l:List α):Z6 back (Z6 back l)=l:=by cases back <;> simp [Z6]
theorem Qc {α β:Type} (f:α->β) (back:Bool) (l:List α):(Z6 back l).map f=Z6 back (l.map f):=by cases back <;> simp [Z6]
theorem Zx {α:Type} {back:Bool} {l:List α} {x:α}:x∈Z6 back l ↔ x∈l:=by cases back <;> simp [Z6]
theorem Fa {back:Bool} {l:List Nat} (h:l.Nodup):(Z6 back l).Nodup:=by
 cases back
 ·exact h
 ·exact (List.reverse_perm l).nodup_iff.mpr h
theorem NO {α β:Type} {F:α->β->Prop} (back:Bool) {l:List α} {m:List β} (h:Paired F l m):Paired F (Z6 back l) (Z6 back m):=by
 cases back
 ·exact h
 ·show Paired F l.reverse m.reverse
  induction h with
  | nil=>exact .nil
  | cons a _ ih=>rw [List.reverse_cons,List.reverse_cons];exact Ul a ih
theorem Cj {back:Bool} {qs:List (List Nat)} (h:qs.flatten.Nodup):(Z6 back qs).flatten.Nodup:=by
 cases back
 ·exact h
 ·show qs.reverse.flatten.Nodup
  have:qs.flatten.Perm qs.reverse.flatten:=(List.reverse_perm qs).symm.flatten
  exact this.nodup_iff.mp h
theorem My {ts L:List ZU} {i:Nat} (h:i<ts.length):gd (ts++L) i=gd ts i:=by
 unfold gd
 rw [zAB,zA0 h,<-zAB]
theorem Do (ts L:List ZU):(zBH ts.length L.length).map (fun b=>(gd (ts++L) b).rows)=L.map (·.rows):=by
 refine zCn (by simp) fun i h1 h2=>?_
 have hi:i<L.length:=by simpa using h2
 rw [zCm,zCm,List.getElem_range']
 unfold gd
 rw [zAB,zAw (by omega),show ts.length+1 * i - ts.length=i by omega,zAE hi]
 rfl
theorem EI {ts L:List ZU} {b:Nat} (h:b∈zBH ts.length L.length):gd (ts++L) b∈L:=by
 rw [List.mem_range'_1] at h
 unfold gd
 rw [zAB,zAw h.1,zAE (show b - ts.length<L.length by omega)]
 exact zA9 _
theorem AC (ts L:List ZU) (back:Bool):Yk (ts++L) (Z6 back (zBH ts.length L.length))=((Z6 back L).map (·.rows)).flatten:=by
 unfold Yk
 rw [zBx,Qc,Do,Qc]
theorem LU {α β:Type} (f:α->β):∀ (pss:List (List β)) (l:List α),pss.flatten=l.map f->∃ qss:List (List α),pss=qss.map (List.map f)/\qss.flatten=l
 | [],l,h=>⟨[],rfl,by
  have:l.map f=[]:=h.symm
  rw [List.map_eq_nil_iff.mp this];rfl⟩
 | ps :: pss,l,h=>by
  rw [zBR] at h
  obtain ⟨l1,l2,rfl,h1,h2⟩:=List.map_eq_append_iff.mp h.symm
  obtain ⟨qss,e1,e2⟩:=LU f pss l2 h2.symm
  exact ⟨l1 :: qss,by rw [zAr,h1,<-e1],by rw [zBR,e2]⟩
theorem JX {H:Hp}:∀ (pss:List (List V)) (rs:List YQ),KeysAt H (YF rs) pss.flatten->∃ qss:List (List YQ),qss.flatten=rs/\Paired (fun q ps=>KeysAt H (YF q) ps) qss pss
 | [],rs,h=>⟨[],by
  have:=h.length
  unfold YF at this
  rw [zAD] at this
  exact (List.length_eq_zero_iff.mp this).symm,.nil⟩
 | ps :: pss,rs,h=>by
  rw [zBR] at h
  have h1:=h.take ps.length
  have h2:=h.drop ps.length
  rw [List.take_left'  rfl] at h1
  rw [List.drop_left' rfl] at h2
  unfold YF at h1 h2
  rw [<-List.map_take] at h1
  rw [<-List.map_drop] at h2
  obtain ⟨qss,e1,e2⟩:=JX pss _ h2
  exact ⟨rs.take ps.length :: qss,by rw [zBR,e1,zBu],.cons h1 e2⟩
theorem P5 {α:Type} {n:Nat}:∀ (qss:List (List α)),(∀ q∈qss,n<=q.length)->n * qss.length<=qss.flatten.length
 | [],_=>by simp
 | q :: qss,h=>by
  have:=P5 qss fun x hx=>h x (zAP _ hx)
  have h1:=h q zAR
  rw [zBR,zAL,zAX,Nat.mul_add]
  omega
section
variable {gt:List KT} {CSh CTw:Addr} {N N2:Addr->Prop} {H0 H H':Hp} {S d lk:Addr} {ls:List V} {ts0 ts ts':List ZU} {av av':Nat->List Nat} {ho ho':Nat->Nat} {as0 as as':List Zz} {kvs kvs':List (Zc×V)}
theorem YI.but (R:YI CSh CTw H S d lk ts av ho as kvs ls) {c:Addr} {o:List V} (s:ZE c H H') (hc:H c=some (.lst o)) (clk:c≠lk) (own:∀ i:Nat,i<ts.length->(as.getD i .d).ab≠c/\(as.getD i .d).th≠c):YI CSh CTw H' S d lk ts av ho as kvs ls:=by
 have t:=s.tups hc
 obtain ⟨⟨dS,hS⟩,hd,hl⟩:=R.sh
 refine ⟨⟨⟨dS,s _ _ hS (ZR hS hc (by intro z;cases z))⟩,s _ _ hd (ZR hd hc (by intro z;cases z)),s _ _ hl (Ne.symm clk)⟩,R.keys,R.val,R.len,fun i hi=>?_,R.own,R.two⟩
 obtain ⟨dx,hx⟩:=(R.tw i hi).tw.self
 exact (R.tw i hi).frame t (fun o e=>s _ _ e (ZR hx hc (by intro z;cases z))) (fun o e=>s _ _ e (own i hi).2) (fun o e=>s _ _ e (own i hi).1)
structure YE (gt:List KT) (CSh CTw:Addr) (N:Addr->Prop) (H0 H:Hp) (S d lk:Addr) (ls:List V) (ts0:List ZU) (as0:List Zz) (ts:List ZU) (av:Nat->List Nat) (ho:Nat->Nat) (as:List Zz) (kvs:List (Zc×V)):Prop where
 sh:YI CSh CTw H S d lk ts av ho as kvs ls
 wf:WF gt ts
 hs:∀ i,i<ts.length->(gd ts i).h<=60
 fr:∀ c o,¬ N c->c≠S->c≠d->(∀ b:Nat,b<ts0.length->c≠(as0.getD b .d).x/\c≠(as0.getD b .d).ab)->H0 c=some o->H c=some o
 gr:∀ c,H c=none->H0 c=none
 le:ts0.length<=ts.length
 old:∀ i,i<ts0.length->as.getD i .d=as0.getD i .d/\gd ts i=gd ts0 i
 new:∀ i,ts0.length<=i->i<ts.length->H0 (as.getD i .d).x=none/\H0 (as.getD i .d).th=none/\H0 (as.getD i .d).ab=none
theorem YE.refl (R:YI CSh CTw H S d lk ts av ho as kvs ls) (hw:WF gt ts) (hs:∀ i,i<ts.length->(gd ts i).h<=60):YE gt CSh CTw N H H S d lk ls ts as ts av ho as kvs:=
 ⟨R,hw,hs,fun c o _ _ _ _ e=>e,fun c e=>e,zAH _,fun i _=>⟨rfl,rfl⟩,fun i h1 h2=>absurd h2 (by omega)⟩
theorem YE.off (r:YE gt CSh CTw N H0 H S d lk ls ts0 as0 ts av ho as kvs) {c:Addr} {o:HO} (e:H0 c=some o) (h:∀ b:Nat,b<ts0.length->c≠(as0.getD b .d).x/\c≠(as0.getD b .d).ab) (b:Nat) (hb:b<ts.length):c≠(as.getD b .d).x/\c≠(as.getD b .d).ab:=by
 rcases zAj b ts0.length with z | z
 ·rw [(r.old b z).1];exact h b z
 ·obtain ⟨n1,_,n3⟩:=r.new b z hb
  exact ⟨ZY e n1,ZY e n3⟩
theorem YE.push (r:YE gt CSh CTw N H0 H S d lk ls ts0 as0 ts av ho as kvs) {t:ZU} {a:Zz} (ok:XR gt ts ts.length t) (h60:t.h<=60) (nx:H a.x=none) (nth:H a.th=none) (nab:H a.ab=none)
  (fr:∀ c o,c≠S->c≠d->(∀ b:Nat,b<ts.length->c≠(as.getD b .d).x/\c≠(as.getD b .d).ab)->H c=some o->H' c=some o) (R':YI CSh CTw H' S d lk (ts++[t]) av' ho' (as++[a]) kvs' ls):YE gt CSh CTw N H0 H' S d lk ls ts0 as0 (ts++[t]) av' ho' (as++[a]) kvs':=by
 have el:as.length=ts.length:=r.sh.len
 have en:(ts++[t]).length=ts.length+1:=by simp
 have aL:∀ i,i<ts.length->(as++[a]).getD i .d=as.getD i .d:=fun i hi=>NS (by omega)
 have aN:(as++[a]).getD ts.length .d=a:=by rw [<-el];exact NU
 have le:=r.le
 refine ⟨R',WF.push r.wf ok,fun i hi=>?_,fun c o n1 n2 n3 n4 e=>fr c o n2 n3 (r.off e n4) (r.fr c o n1 n2 n3 n4 e),fun c e=>r.gr c ?_,by omega,fun i hi=>?_,fun i h1 h2=>?_⟩
 ·rcases zAj i ts.length with z | z
  ·rw [QK z];exact r.hs i z
  ·have:i=ts.length:=by omega
   rw [this,O2];exact h60
 ·cases z:H c with
  | none=>rfl
  | some o=>
   exfalso
   by_cases c1:c=S
   ·obtain ⟨dS,hS⟩:=R'.sh.self
    rw [c1,hS] at e;cases e
   by_cases c2:c=d
   ·rw [c2,R'.sh.kept] at e;cases e
   have:∀ b:Nat,b<ts.length->c≠(as.getD b .d).x/\c≠(as.getD b .d).ab:=fun b hb=>by
    have W:=R'.tw b (by omega)
    rw [aL b hb] at W
    obtain ⟨dx,hx⟩:=W.tw.self
    exact ⟨(ZY hx e).symm,(ZY W.tw.above e).symm⟩
   rw [fr c o c1 c2 this z] at e
   cases e
 ·rw [aL i (by omega),QK (by omega)];exact r.old i hi
 ·rcases zAj i ts.length with z | z
  ·rw [aL i z];exact r.new i h1 z
  ·have:i=ts.length:=by omega
   rw [this,aN]
   exact ⟨r.gr _ nx,r.gr _ nth,r.gr _ nab⟩
structure Xd (H0:Hp) (lk:Addr) (ts0:List ZU) (as0:List Zz) (c:Addr):Prop where
 at_:∃ o,H0 c=some (.lst o)
 lk:c≠lk
 own:∀ i:Nat,i<ts0.length->(as0.getD i .d).ab≠c/\(as0.getD i .d).th≠c
theorem YE.own (r:YE gt CSh CTw N H0 H S d lk ls ts0 as0 ts av ho as kvs) {c:Addr} (ap:Xd H0 lk ts0 as0 c) (i:Nat) (hi:i<ts.length):(as.getD i .d).ab≠c/\(as.getD i .d).th≠c:=by
 rcases zAj i ts0.length with z | z
 ·rw [(r.old i z).1];exact ap.own i z
 ·obtain ⟨_,n2,n3⟩:=r.new i z hi
  obtain ⟨o,e⟩:=ap.at_
  exact ⟨(ZY e n3).symm,(ZY e n2).symm⟩
theorem YE.but (r:YE gt CSh CTw N H0 H S d lk ls ts0 as0 ts av ho as kvs) {c:Addr} {o o':List V} (ap:Xd H0 lk ts0 as0 c) (hN:N c) (hc:H c=some (.lst o)) (s:ZE c H H') (hc':H' c=some (.lst o')):YE gt CSh CTw N H0 H' S d lk ls ts0 as0 ts av ho as kvs:=
 ⟨r.sh.but s hc ap.lk (r.own ap),r.wf,r.hs,fun b u n1 n2 n3 n4 e=>s _ _ (r.fr b u n1 n2 n3 n4 e) fun z=>n1 (z ▸ hN),fun b e=>r.gr b (by
  cases z:H b with
  | none=>rfl
  | some u=>
   exfalso
   by_cases c1:b=c
   ·rw [c1,hc'] at e;cases e
   ·rw [s _ _ z c1] at e;cases e),r.le,r.old,r.new⟩
theorem YE.same (r:YE gt CSh CTw N H0 H S d lk ls ts0 as0 ts av ho as kvs) (s:ZA H H'):YE gt CSh CTw N H0 H' S d lk ls ts0 as0 ts av ho as kvs:=
 ⟨r.sh.same s,r.wf,r.hs,fun b u n1 n2 n3 n4 e=>s _ _ (r.fr b u n1 n2 n3 n4 e),fun b e=>r.gr b (s.free e),r.le,r.old,r.new⟩
theorem YE.trans (r:YE gt CSh CTw N H0 H S d lk ls ts0 as0 ts av ho as kvs) (q:YE gt CSh CTw N2 H H' S d lk ls ts as ts' av' ho' as' kvs') (hN:∀ c,N2 c->H0 c=none\/N c):YE gt CSh CTw N H0 H' S d lk ls ts0 as0 ts' av' ho' as' kvs':=by
 have l1:=r.le
 have l2:=q.le
 refine ⟨q.sh,q.wf,q.hs,fun c o n1 n2 n3 n4 e=>q.fr c o (fun z=>(hN c z).elim (fun y=>by rw [y] at e;cases e) n1) n2 n3 (r.off e n4) (r.fr c o n1 n2 n3 n4 e),fun c e=>r.gr c (q.gr c e),by omega,fun i hi=>?_,fun i h1 h2=>?_⟩
 ·obtain ⟨a1,a2⟩:=q.old i (by omega)
  rw [a1,a2];exact r.old i hi
 ·rcases zAj i ts.length with z | z
  ·rw [(q.old i z).1];exact r.new i h1 z
  ·obtain ⟨m1,m2,m3⟩:=q.new i z h2
   exact ⟨r.gr _ m1,r.gr _ m2,r.gr _ m3⟩
theorem YE.tups (r:YE gt CSh CTw N H0 H S d lk ls ts0 as0 ts av ho as kvs) (R0:YI CSh CTw H0 S d lk ts0 av' ho' as0 kvs' ls) (hN:∀ c,N c->∃ o,H0 c=some (.lst o)):Zu H0 H:=fun c xs e=>by
 obtain ⟨⟨dS,hS⟩,hd,hl⟩:=R0.sh
 refine r.fr c _ (fun z=>?_) (ZR e hS (by intro z;cases z)) (ZR e hd (by intro z;cases z)) (fun b hb=>?_) e
 ·obtain ⟨o,eo⟩:=hN c z
  rw [eo] at e;cases e
 ·obtain ⟨dx,hx⟩:=(R0.tw b hb).tw.self
  exact ⟨ZR e hx (by intro z;cases z),ZR e (R0.tw b hb).tw.above (by intro z;cases z)⟩
theorem Uf (R0:YI CSh CTw H S d lk ts av ho as kvs ls) {c:Addr} (n:H c=none) {o:List V} (e:H' c=some (.lst o)):Xd H' lk ts as c:=
 ⟨⟨o,e⟩,(ZY R0.sh.looks n).symm,fun i hi=>by
  obtain ⟨us,e1,_⟩:=(R0.tw i hi).things
  exact ⟨ZY (R0.tw i hi).tw.above n,ZY e1 n⟩⟩
end
end Tw
namespace L2
open PySem PySem.Spec PyProof.Rows
theorem LC:∀ {xs:List V} {us:List Value} (i:Nat),ZN xs us->(xs[i]? = none/\us[i]? = none)\/∃ x u,xs[i]? = some x/\us[i]? = some u/\ZQ x u
 | _,_,i,.nil=>.inl ⟨by simp,by simp⟩
 | _,_,0,.cons r t=>.inr ⟨_,_,rfl,rfl,r⟩
 | _,_,i+1,.cons r t=>by
  rcases LC i t with ⟨a,b⟩ | ⟨x,u,a,b,c⟩
  ·exact .inl ⟨by simpa using a,by simpa using b⟩
  ·exact .inr ⟨x,u,by simpa using a,by simpa using b,c⟩
theorem N6 {xs:List V} {us:List Value} (r:ZN xs us):∀ idx:List Nat,ZN (idx.filterMap (xs[·]?)) (idx.filterMap (us[·]?))
 | []=>.nil
 | i :: idx=>by
  rw [zBI,zBI]
  rcases LC i r with ⟨a,b⟩ | ⟨x,u,a,b,c⟩
  ·rw [a,b];exact N6 r idx
  ·rw [a,b];exact .cons c (N6 r idx)
section
variable {X:Cx}
end
theorem EZ {α:Type}:∀ (l r:List α),(zAi l.length).filterMap ((l++r)[·]?)=l:=by
 intro l
 induction l with
 | nil=>intro r;rfl
 | cons a l ih=>
  intro r
  rw [zAX,zDG,zBI,List.filterMap_map]
  show a :: List.filterMap (fun i=>(l++r)[i]?) (zAi l.length)=a :: l
  rw [ih]
theorem EY (n:Nat):sliceRange ((n:Int) - 1) (-1) (-1)=(zAi n).reverse:=by
 unfold sliceRange
 have e:(if (-1:Int) > 0 then if ((n:Int) - 1) < -1 then (-1 - ((n:Int) - 1) + -1 - 1) / -1 else 0 else if ((n:Int) - 1) > -1 then (((n:Int) - 1) - -1 - -1 - 1) / - -1 else 0).toNat=n:=by
  rw [if_neg (by decide)]
  by_cases h:0<n
  ·rw [if_pos (by omega),show (- -1:Int)=1 from rfl,Int.ediv_one];omega
  ·rw [if_neg (by omega)];omega
 simp only [e]
 refine zCn (by simp) fun i h1 h2=>?_
 simp at h1
 simp
 omega
theorem Bm {α:Type} (l:List α):(sliceRange ((l.length:Int) - 1) (-1) (-1)).filterMap (l[·]?)=l.reverse:=by
 rw [EY,List.filterMap_reverse]
 have:=EZ l []
 rw [zAz] at this
 rw [this]
section
variable {X:Cx}
def Gf (K:zAA) (te t3:TE):TE:=fun σ H Q=>te σ H fun x H1=>t3 σ H1 fun y H2=>∃ a xs,x=.ref a/\y=.int (-1)/\ZM K H2 a xs/\∀ p,H2 p=none->Q (.ref p) (upd H2 p (.lst xs.reverse))
theorem KI {e e3:Expr} {te t3:TE} {p2 pos:Pos} (he:PE X e te) (h3:PE X e3 t3):PE X (.Subscript e (.Slice none none (some e3) p2) pos) (Gf X.K te t3):=by
 intro pins s σ H Q I h
 refine Subscript_ (Zb (he pins s σ H _ I h) fun v s1 ⟨x,H1,I1,r1,q1⟩=>?_)
 refine wpAny_Slice ?_
 rw [evalPart_none]
 refine wpAny_pure (wpAny_pure ?_)
 rw [evalPart_some]
 refine Zb (h3 pins s1 σ H1 _ I1 q1) fun u s3 ⟨y,H3,I3,r3,q3⟩=>?_
 obtain ⟨a,xs,rfl,rfl,hx,q⟩:=q3
 cases r1
 obtain ⟨tk,rfl⟩:=r3
 have I4:ZF X pins σ H3 { s3 with heap:=s3.heap.push { cls:=.type "slice",data:=.fields #[.none,.none,.int (-1) tk] } }:=I3.kept (t':=s3.toks) fun b ob q=>zAG _ q
 obtain ⟨its,r,ht,hz⟩:=I4.list hx
 have hlen:=r.length
 show wpAny (model X.prog X.w) X.A (subscriptTail e (.Slice none none (some e3) p2) (.ref a) (.ref s3.heap.objs.size)) (EP X pins σ Q) X.xe { s3 with heap:=s3.heap.push { cls:=.type "slice",data:=.fields #[.none,.none,.int (-1) tk] } }
 refine tail_any (ops:=[.ref a,.ref s3.heap.objs.size]) ht.isList.typeIs slot_list_getitem.lookup ?_ (by with_unfolding_all rfl)
 refine wpAny_getItem_list_slice ht.isList (Heap.IsSliceOf.new ..) .none .none (.int (-1) tk) (by simp) ?_ (by rw [zAI] <;> omega)
 have pk:slicePick its.toArray none none (some (-1))=((sliceRange ((its.length:Int) - 1) (-1) (-1)).filterMap (its[·]?)).toArray:=by
  unfold slicePick
  simp [sliceBounds]
 rw [pk]
 have vp:=N6 r (sliceRange ((its.length:Int) - 1) (-1) (-1))
 have ex:(sliceRange ((its.length:Int) - 1) (-1) (-1)).filterMap (xs[·]?)=xs.reverse:=by rw [<-hlen];exact Bm xs
 rw [ex] at vp
 refine ⟨.ref _,_,I4.laid (t':=s3.toks) (o:=.lst xs.reverse) (fun b ob q=>zAG _ q) (zAH _) ?_,rfl,q _ (I4.hok.fresh (zAH _))⟩
 exact ⟨by rw [List.length_reverse];omega,_,0,vp,zAT _ rfl⟩
end
end L2
namespace Tw
open PySem PySem.Spec L2 PyProof.Rows
abbrev Pa:List Str:=["_law_well_here","_law_shelf","_law_rows","_law_few","_law_back","_law_level","_law_stem","_law_numbers","_law_parts","_law_part"]
theorem Y7:ZC Pa ["_law_well_here","_law_shelf","_law_rows"] (Zf VU):=⟨rfl,rfl,rfl,by decide +kernel,rfl,by decide +kernel,by decide +kernel⟩
def EJ:Option Stmt->List Stmt
 | some (.For _ _ b _ _)=>b
 | _=>[]
def JL:List Stmt:=Je ((Xu VU)[4]?)
def Jq:List Stmt:=EJ (JL[2]?)
section
variable {P:Program} {w:World} {K:zAA} {mg:Str->Option Value} {base:Heap} {f:Addr} {fd:FuncData} {cdv:Value} {A:Around} {outer:List Env} {s:Shared} {Hs:Hp} {E:XK} {CSh CTw:Addr}
theorem Eb {gt:List KT} (L:Yi K mg CSh CTw) (hr:ZZ 10 (A.deeper (envOfC "_law_plant" (Zf VU) s.heap.objs.size f cdv))) (DS:ZJ P w K mg base ZV 10 CSh "put_stem" ["self","numbers"] (Ut gt CSh CTw)) (DL:ZJ P w K mg base ZV 10 CSh "put_leaf" ["self","rows"] (Qg CSh CTw)) :
  ∃ t,XW (Xt ZV P w K mg base Pa "_law_plant" (Zf VU) f cdv A outer s Hs E).nox Jq t /\
  (∀ (D0:Yb) (H1 H:Hp) (S d lk nm q:Addr) (x0 x2 x3 x4 x5 x8:Option V) (ts1 ts:List ZU) (as1 as:List Zz) (av:Nat->List Nat) (ho:Nat->Nat) (kvs:List (Zc×V)) (ls nl us:List V) (rs:List YQ),
   YE gt CSh CTw (· = nm) H1 H S d lk ls ts1 as1 ts av ho as kvs->ts.length<=700->Xd H1 lk ts1 as1 nm->H nm=some (.lst nl)->nl.length<=200->H q=some (.lst us)->KeysAt H (YF rs) us->V6 rs ->
   (∀ H' as' kvs',YE gt CSh CTw (· = nm) H1 H' S d lk ls ts1 as1 (ts++[WR rs]) (VH ts.length av) (VQ ts.length ho) as' kvs'->H' nm=some (.lst (nl++[.int (ts.length:Nat)]))->D0.nx [x0,some (.ref S),x2,x3,x4,x5,some (.bl false),some (.ref nm),x8,some (.ref q)] H') ->
   t D0 [x0,some (.ref S),x2,x3,x4,x5,some (.bl false),some (.ref nm),x8,some (.ref q)] H) /\
  (∀ (D0:Yb) (H1 H:Hp) (S d lk nm q:Addr) (x0 x2 x3 x4 x5 x8:Option V) (ts1 ts:List ZU) (as1 as:List Zz) (av:Nat->List Nat) (ho:Nat->Nat) (kvs:List (Zc×V)) (ls nl:List V) (bs:List Nat) (Lb:YC),
   YE gt CSh CTw (· = nm) H1 H S d lk ls ts1 as1 ts av ho as kvs->ts.length<=700->Xd H1 lk ts1 as1 nm->H nm=some (.lst nl)->nl.length<=200->H q=some (.lst (iN bs))->(∀ b∈bs,b<ts.length/\ho b=1/\av b=[])->over (Yg ts bs)=some Lb->(Yz ts bs).h<=60 ->
   (∀ H' as' kvs',YE gt CSh CTw (· = nm) H1 H' S d lk ls ts1 as1 (ts++[Yz ts bs]) (Ww bs ts.length (VH ts.length av)) (VB bs (VQ ts.length ho)) as' kvs'->H' nm=some (.lst (nl++[.int (ts.length:Nat)]))->D0.nx [x0,some (.ref S),x2,x3,x4,x5,some (.bl true),some (.ref nm),x8,some (.ref q)] H') ->
   t D0 [x0,some (.ref S),x2,x3,x4,x5,some (.bl true),some (.ref nm),x8,some (.ref q)] H):=by
 have nd:=Y7.nd
 refine ⟨_,ZW (Z5 (Yu (pv 6))
  (ZW (XX (VV zAn zAv zAu VO (pv 7) (ZI (Y0 (E:=E0) (pv 1) L.cS DS hr Yr (ZI (pv 9) ZG)) ZG))))
  (ZW (XX (VV zAn zAv zAu VO (pv 7) (ZI (Y0 (E:=E0) (pv 1) L.cS DL hr Yr (ZI (pv 9) ZG)) ZG))))),
  fun D0 H1 H S d lk nm q x0 x2 x3 x4 x5 x8 ts1 ts as1 as av ho kvs ls nl us rs r t7 ap hnm l2 hq hk G fin=>?_,fun D0 H1 H S d lk nm q x0 x2 x3 x4 x5 x8 ts1 ts as1 as av ho kvs ls nl bs Lb r t7 ap hnm l2 hq hb hLb h60 fin=>?_⟩
 ·obtain ⟨dS,hS⟩:=r.sh.sh.self
  refine ⟨_,rfl,_,rfl,Zp ⟨_,rfl,.inl ⟨rfl,_,ZM.of hnm⟩,_,rfl,S,dS,_,rfl,hS,rfl,_,rfl,S,d,lk,q,ts,av,ho,as,kvs,ls,us,rs,rfl,r.sh,by omega,hq,hk,G,fun H' a nx nth nab fr R'=>?_⟩⟩
  have r':=r.push (GI G) (zAe _) nx nth nab (fun c o n1 n2 _ e=>fr c o n1 n2 e) R'
  have nmS:nm≠S:=ZR hnm hS (by intro z;cases z)
  have hnm':=fr _ _ nmS (ZR hnm r.sh.sh.kept (by intro z;cases z)) hnm
  refine ⟨nm,nl,_,rfl,rfl,hnm',Yp (by omega),?_⟩
  exact fin _ _ _ (r'.but ap rfl hnm' (ZE.upd (ZE.refl nm H')) ZP) ZP
 ·obtain ⟨dS,hS⟩:=r.sh.sh.self
  refine ⟨_,rfl,_,rfl,Zy ⟨_,rfl,.inl ⟨rfl,_,ZM.of hnm⟩,_,rfl,S,dS,_,rfl,hS,rfl,_,rfl,S,d,lk,q,ts,av,ho,as,kvs,ls,bs,Lb,rfl,r.sh,r.wf,by omega,fun b h=>⟨(hb b h).1,by rw [(hb b h).2.1];exact zAH _,by rw [(hb b h).2.2];exact zAe _⟩,hq,hLb,fun H' a nx nth nab fr R'=>?_⟩⟩
  have r':=r.push (Fl r.wf (fun b h=>(hb b h).1) hLb) h60 nx nth nab fr R'
  have nmS:nm≠S:=ZR hnm hS (by intro z;cases z)
  have ow:=r.own ap
  have hnm':=fr _ _ nmS (ZR hnm r.sh.sh.kept (by intro z;cases z)) (fun b hb=>by
   obtain ⟨dx,hx⟩:=(r.sh.tw b hb).tw.self
   exact ⟨ZR hnm hx (by intro z;cases z),(ow b hb).1.symm⟩) hnm
  refine ⟨nm,nl,_,rfl,rfl,hnm',Yp (by omega),?_⟩
  exact fin _ _ _ (r'.but ap rfl hnm' (ZE.upd (ZE.refl nm H')) ZP) ZP
end
structure Qs (ts:List ZU) (av:Nat->List Nat) (ho:Nat->Nat) (ns:List Nat) (h:Nat) (rs:List YQ):Prop where
 nd:ns.Nodup
 at_:∀ b∈ns,b<ts.length/\(gd ts b).h=h/\ho b=1/\av b=[]
 rows:Yk ts ns=rs
def P1 (gt:List KT) (CSh CTw:Addr) (H1:Hp) (S d lk:Addr) (ls:List V) (ts1:List ZU) (as1:List Zz) (nm:Addr) (Ts:List ZU) (qs:List (List Nat)) (i:Nat) (H:Hp):Prop:=
 ∃ (av:Nat->List Nat) (ho:Nat->Nat) (as:List Zz) (kvs:List (Zc×V)),YE gt CSh CTw (· = nm) H1 H S d lk ls ts1 as1 (ts1++Ts.take i) av ho as kvs/\H nm=some (.lst (iN (zBH ts1.length i)))/\(∀ b,ts1.length<=b->b<ts1.length+i->ho b=1/\av b=[])/\∀ b∈(qs.drop i).flatten,ho b=1/\av b=[]
theorem Ln (n i:Nat):iN (zBH n i)++[V.int ((n+i:Nat):Int)]=iN (zBH n (i+1)):=by
 rw [List.range'_1_concat]
 simp [iN]
theorem Lx {α:Type} {l:List α} {i:Nat} {x:α} (h:l[i]? = some x):l.take (i+1)=l.take i++[x]:=by rw [zAm,h];rfl
theorem FR {α:Type} {l:List α} {i:Nat} {x:α} (h:l[i]? = some x):l.drop i=x :: l.drop (i+1):=by
 obtain ⟨hi,e⟩:=zAO.mp h
 rw [<-e,<-zB9 hi]
theorem HW {ts L:List ZU} {bs:List Nat} (hb:∀ b∈bs,b<ts.length) (h0:0<bs.length):Yz (ts++L) bs=Yz ts bs/\Yg (ts++L) bs=Yg ts bs:=by
 have e1:bs.getD 0 0∈bs:=by rw [zAB,zAE h0];exact zA9 _
 refine ⟨?_,?_⟩
 ·unfold Yz Yk
  rw [My (hb _ e1)]
  congr 1
  rw [zBx,zBx]
  congr 1
  exact zCX fun b h=>by rw [My (hb b h)]
 ·unfold Yg
  exact zCX fun b h=>by rw [My (hb b h)]
theorem Ka {α:Type} {l m:List α} {i:Nat} (h:i<=m.length):(l++m.take i).length=l.length+i:=by simp;omega
section
variable {P:Program} {w:World} {K:zAA} {mg:Str->Option Value} {base:Heap} {f:Addr} {fd:FuncData} {cdv:Value} {A:Around} {outer:List Env} {s:Shared} {Hs:Hp} {E:XK} {CSh CTw:Addr}
theorem Be {gt:List KT} (L:Yi K mg CSh CTw) (hr:ZZ 10 (A.deeper (envOfC "_law_plant" (Zf VU) s.heap.objs.size f cdv))) (DS:ZJ P w K mg base ZV 10 CSh "put_stem" ["self","numbers"] (Ut gt CSh CTw)) (DL:ZJ P w K mg base ZV 10 CSh "put_leaf" ["self","rows"] (Qg CSh CTw)) :
  ∃ t,XW (Xt ZV P w K mg base Pa "_law_plant" (Zf VU) f cdv A outer s Hs E).nox Jq t /\
  ∀ (Ha H1:Hp) (S d lk nm:Addr) (ts1:List ZU) (as1:List Zz) (av:Nat->List Nat) (ho:Nat->Nat) (kvs:List (Zc×V)) (ls us pl:List V) (pss:List (List V)) (rs:List YQ) (hN:Nat) (stem back:Bool) (N:Addr->Prop),
   YI CSh CTw Ha S d lk ts1 av ho as1 kvs ls->YI CSh CTw H1 S d lk ts1 av ho as1 kvs ls->Xd H1 lk ts1 as1 nm->Ha nm≠none->WF gt ts1->(∀ i,i<ts1.length->(gd ts1 i).h<=60)->(∀ b,¬ N b->Ha b=none)->ts1.length<=600->us.length<=60->hN<=60 ->
   Paired (YN N H1) pss pl->pss.flatten=us->(∀ ps∈pss,Uu stem ps.length)->(∀ r∈rs,r.fit)->YJ (rs.map (·.1))->H1 nm=some (.lst []) ->
   ((stem=false/\KeysAt H1 (YF rs) us/\hN=0)\/(stem=true/\∃ ns h,us=iN ns/\Qs ts1 av ho ns h rs/\hN=h+1)) ->
   ∃ (Ts:List ZU) (qs:List (List Nat)),Ts.length=pl.length/\(∀ t∈Ts,t.h=hN)/\((Z6 back Ts).map (·.rows)).flatten=rs/\P1 gt CSh CTw H1 S d lk ls ts1 as1 nm Ts qs 0 H1 /\
    ∀ i u,(Z6 back pl)[i]? = some u->∀ (D0:Yb) (H:Hp) (x0 x2 x3 x4 x5 x8:Option V),P1 gt CSh CTw H1 S d lk ls ts1 as1 nm Ts qs i H->(∀ H',P1 gt CSh CTw H1 S d lk ls ts1 as1 nm Ts qs (i+1) H'->D0.nx [x0,some (.ref S),x2,x3,x4,x5,some (.bl stem),some (.ref nm),x8,some u] H') ->
     t D0 [x0,some (.ref S),x2,x3,x4,x5,some (.bl stem),some (.ref nm),x8,some u] H:=by
 obtain ⟨t,ht,hleaf,hstem⟩:=Eb (P:=P) (w:=w) (K:=K) (mg:=mg) (base:=base) (f:=f) (cdv:=cdv) (A:=A) (outer:=outer) (s:=s) (Hs:=Hs) (E:=E) L hr DS DL
 refine ⟨t,ht,fun Ha H1 S d lk nm ts1 as1 av ho kvs ls us pl pss rs hN stem back N Ra R1 ap nma hw hs hNf t6 l60 h60 prt flat size frs ris hnm lev=>?_⟩
 have stay:∀ {q:Addr} {o:HO} {H:Hp} {ts:List ZU} {av:Nat->List Nat} {ho:Nat->Nat} {as:List Zz} {kvs:List (Zc×V)},¬ N q->H1 q=some o->YE gt CSh CTw (· = nm) H1 H S d lk ls ts1 as1 ts av ho as kvs->H q=some o:=fun {q o H ts av ho as kvs} nq e r=>by
  have nq:=hNf q nq
  obtain ⟨⟨dS,hS⟩,hd,_⟩:=Ra.sh
  refine r.fr q o (fun z=>nma (z ▸ nq)) (ZY hS nq).symm (ZY hd nq).symm (fun b hb=>?_) e
  obtain ⟨dx,hx⟩:=(Ra.tw b hb).tw.self
  exact ⟨(ZY hx nq).symm,(ZY (Ra.tw b hb).tw.above nq).symm⟩
 have tup:∀ {H:Hp} {ts:List ZU} {av:Nat->List Nat} {ho:Nat->Nat} {as:List Zz} {kvs:List (Zc×V)},YE gt CSh CTw (· = nm) H1 H S d lk ls ts1 as1 ts av ho as kvs->Zu H1 H:=fun r=>r.tups R1 fun c z=>⟨[],by rw [z];exact hnm⟩
 have lpl:pl.length=pss.length:=prt.length.symm
 rcases lev with ⟨rfl,hk,rfl⟩ | ⟨rfl,ns,h,rfl,lv,rfl⟩
 ·rw [<-flat] at hk
  obtain ⟨qss,e1,e2⟩:=JX pss rs hk
  have lq:qss.length=pss.length:=e2.length
  have few:=P5 (n:=1) pss fun ps h=>(size ps h).1
  rw [flat] at few
  refine ⟨Z6 back (qss.map WR),[],by rw [Uo,zAD];omega,fun x hx=>?_,?_,?_,?_⟩
  ·obtain ⟨q,_,rfl⟩:=zAf.mp (Zx.mp hx)
   rfl
  ·rw [Ly,zCK,<-e1]
   congr 1
   exact List.map_id' qss
  ·refine ⟨av,ho,as1,kvs,?_,hnm,fun b h1 h2=>absurd h2 (by omega),fun b hb=>by simp at hb⟩
   rw [zC4,zAz]
   exact YE.refl R1 hw hs
  ·intro i u hu D0 H x0 x2 x3 x4 x5 x8 hJ fin
   obtain ⟨av',ho',as',kvs',r,hn,hh,_⟩:=hJ
   obtain ⟨ps,ep,q,rfl,hq,nq⟩:=Paired.ixR (NO back prt) hu
   obtain ⟨rq,er,kq⟩:=Paired.ixR (NO back e2) ep
   have mq:rq∈qss:=Zx.mp (zAK er)
   have mp:ps∈pss:=Zx.mp (zAK ep)
   have lk':rq.length=ps.length:=by
    have:=kq.length
    unfold YF at this
    rwa [zAD] at this
   have sub:rq.Sublist rs:=e1 ▸ Er mq
   have G:V6 rq:=Gz frs ris sub (by have:=(size ps mp).1;rw [lk'];exact this) (by have:=(size ps mp).2;rw [lk'];exact this)
   have eT:(Z6 back (qss.map WR))[i]? = some (WR rq):=by rw [<-Qc,zAN,er];rfl
   have hi:i<(Z6 back (qss.map WR)).length:=(zAO.mp eT).1
   have ll:(Z6 back (qss.map WR)).length=pss.length:=by rw [Uo,zAD];omega
   have el:(ts1++(Z6 back (qss.map WR)).take i).length=ts1.length+i:=Ka (by omega)
   refine hleaf D0 H1 H S d lk nm q x0 x2 x3 x4 x5 x8 ts1 _ as1 as' av' ho' kvs' ls _ ps rq r (by rw [el];omega) ap hn (by simp [iN];omega) (stay nq hq r) (kq.mono (tup r) _ _) G fun H' as'' kvs'' r' hn'=>?_
   rw [zCB,<-Lx eT] at r'
   rw [el] at r' hn'
   rw [Ln] at hn'
   refine fin H' ⟨_,_,_,_,r',hn',fun b b1 b2=>?_,fun b hb=>by simp at hb⟩
   unfold VQ VH
   by_cases z:b=ts1.length+i
   ·rw [if_pos z,if_pos z];exact ⟨rfl,rfl⟩
   ·rw [if_neg z,if_neg z];exact hh b b1 (by omega)
 ·obtain ⟨qss,e1,e2⟩:=LU (fun b:Nat=>V.int (b:Nat)) pss ns flat
  subst e1
  have sz:∀ q∈qss,2<=q.length/\q.length<=4:=fun q hq=>by
   have:=size (iN q) (zAf.mpr ⟨q,hq,rfl⟩)
   unfold Uu iN at this
   rw [zAD] at this
   exact this
  have few:=P5 (n:=2) qss fun q h=>(sz q h).1
  have lns:(iN ns).length=ns.length:=zAD _
  rw [e2] at few
  have inn:∀ q∈qss,∀ b∈q,b∈ns:=fun q hq b hb=>by rw [<-e2];exact zCj.mpr ⟨q,hq,hb⟩
  have ndq:(Z6 back qss).flatten.Nodup:=Cj (by rw [e2];exact lv.nd)
  refine ⟨Z6 back (qss.map (Yz ts1)),Z6 back qss,by rw [Uo,zAD,lpl,zAD],fun x hx=>?_,?_,?_,?_⟩
  ·obtain ⟨q,hq,rfl⟩:=zAf.mp (Zx.mp hx)
   have h2:=(sz q hq).1
   have m0:q.getD 0 0∈q:=by rw [zAB,zAE (show 0<q.length by omega)];exact zA9 _
   show (gd ts1 (q.getD 0 0)).h+1=h+1
   rw [(lv.at_ _ (inn q hq _ m0)).2.1]
  ·rw [Ly,zCK,<-lv.rows,<-e2,Oz,zBx]
   rfl
  ·refine ⟨av,ho,as1,kvs,?_,hnm,fun b h1 h2=>absurd h2 (by omega),fun b hb=>?_⟩
   ·rw [zC4,zAz]
    exact YE.refl R1 hw hs
   ·rw [List.drop_zero] at hb
    obtain ⟨q,hq,hb⟩:=zCj.mp hb
    exact (lv.at_ b (inn q (Zx.mp hq) b hb)).2.2
  ·intro i u hu D0 H x0 x2 x3 x4 x5 x8 hJ fin
   obtain ⟨av',ho',as',kvs',r,hn,hh,hdr⟩:=hJ
   obtain ⟨ps,ep,q,rfl,hq,nq⟩:=Paired.ixR (NO back prt) hu
   rw [<-Qc,zAN] at ep
   obtain ⟨bs,eb,rfl⟩:=zAq.mp ep
   have mq:bs∈qss:=Zx.mp (zAK eb)
   have hb:∀ b∈bs,b<ts1.length:=fun b h=>(lv.at_ b (inn bs mq b h)).1
   obtain ⟨b2,b4⟩:=sz bs mq
   obtain ⟨sT,lT⟩:=HW (L:=(Z6 back (qss.map (Yz ts1))).take i) hb (by omega)
   have ris':YJ ((Yk ts1 bs).map (·.1)):=by
    refine YJ.sub ris ?_
    rw [<-lv.rows,<-e2,Oz]
    refine List.Sublist.map _ ?_
    rw [zBx]
    exact zCw (zAf.mpr ⟨bs,mq,rfl⟩)
   obtain ⟨Lb,hLb⟩:=HQ hw (h:=h) (fun b hb'=>⟨hb b hb',(lv.at_ b (inn bs mq b hb')).2.1⟩) b2 b4 ris'
   have eT:(Z6 back (qss.map (Yz ts1)))[i]? = some (Yz ts1 bs):=by rw [<-Qc,zAN,eb];rfl
   have hi:i<(Z6 back (qss.map (Yz ts1))).length:=(zAO.mp eT).1
   have ll:(Z6 back (qss.map (Yz ts1))).length=qss.length:=by rw [Uo,zAD]
   have el:(ts1++(Z6 back (qss.map (Yz ts1))).take i).length=ts1.length+i:=Ka (by omega)
   have ed:((Z6 back qss).drop i).flatten=bs++((Z6 back qss).drop (i+1)).flatten:=by rw [FR eb,zBR]
   have nd2:(bs++((Z6 back qss).drop (i+1)).flatten).Nodup:=by
    rw [<-ed]
    have e:(Z6 back qss).flatten=((Z6 back qss).take i).flatten++((Z6 back qss).drop i).flatten:=by rw [<-List.flatten_append,zBu]
    rw [e] at ndq
    exact (zBr.mp ndq).2.1
   have m0:bs.getD 0 0∈bs:=by rw [zAB,zAE (show 0<bs.length by omega)];exact zA9 _
   refine hstem D0 H1 H S d lk nm q x0 x2 x3 x4 x5 x8 ts1 _ as1 as' av' ho' kvs' ls _ bs Lb r (by rw [el];omega) ap hn (by simp [iN];omega) (stay nq hq r) (fun b hb'=>⟨by rw [el];have:=hb b hb';omega,hdr b (by rw [ed];exact zA3 _ hb')⟩) (by rw [lT];exact hLb) (by rw [sT];show (gd ts1 (bs.getD 0 0)).h+1<=60;rw [(lv.at_ _ (inn bs mq _ m0)).2.1];exact h60) fun H' as'' kvs'' r' hn'=>?_
   rw [sT,zCB,<-Lx eT] at r'
   rw [el] at r' hn'
   rw [Ln] at hn'
   refine fin H' ⟨_,_,_,_,r',hn',fun b c1 c2=>?_,fun b hb'=>?_⟩
   ·have nb:b∉bs:=fun z=>by have:=hb b z;omega
    unfold VB Ww VQ VH
    rw [if_neg nb,if_neg nb]
    by_cases z:b=ts1.length+i
    ·rw [if_pos z,if_pos z];exact ⟨rfl,rfl⟩
    ·rw [if_neg z,if_neg z];exact hh b c1 (by omega)
   ·have nb:b∉bs:=fun z=>(zBr.mp nd2).2.2 b z b hb' rfl
    have bl:b<ts1.length:=by
     obtain ⟨q',hq',hb''⟩:=zCj.mp hb'
     exact (lv.at_ b (inn q' (Zx.mp (List.mem_of_mem_drop hq')) b hb'')).1
    unfold VB Ww VQ VH
    rw [if_neg nb,if_neg nb,if_neg (by omega),if_neg (by omega)]
    exact hdr b (by rw [ed];exact zAa _ hb')
end
theorem Ks (x y:V) (back:Bool):XQ [x,y] (if back=true then 1 else 0)=some (if back=true then y else x):=by
 cases back
 ·exact XL (j:=0) rfl
 ·exact XL (j:=1) rfl
section
variable {P:Program} {w:World} {K:zAA} {mg:Str->Option Value} {base:Heap} {f:Addr} {fd:FuncData} {cdv:Value} {A:Around} {outer:List Env} {s:Shared} {Hs:Hp} {E:XK} {CSh CTw:Addr}
theorem E3 {gt:List KT} (T:YG mg) (L:Yi K mg CSh CTw) (hr:ZZ 10 (A.deeper (envOfC "_law_plant" (Zf VU) s.heap.objs.size f cdv))) (DC:ZB P w K mg base 2 "_law_cut" ["_law_well_here","_law_things","_law_few","_law_stem"] Pp) (DS:ZJ P w K mg base ZV 10 CSh "put_stem" ["self","numbers"] (Ut gt CSh CTw)) (DL:ZJ P w K mg base ZV 10 CSh "put_leaf" ["self","rows"] (Qg CSh CTw)) :
  ∃ t,XW (Xt ZV P w K mg base Pa "_law_plant" (Zf VU) f cdv A outer s Hs E).nox JL t /\
  ∀ (D0:Yb) (H:Hp) (p S d lk lv:Addr) (fw:Int) (back stem:Bool) (x2 x7 x8 x9:Option V) (ts:List ZU) (as:List Zz) (av:Nat->List Nat) (ho:Nat->Nat) (kvs:List (Zc×V)) (ls us:List V) (rs:List YQ) (hN:Nat),
   ZH H p->YI CSh CTw H S d lk ts av ho as kvs ls->Xd H lk ts as p->WF gt ts->(∀ i,i<ts.length->(gd ts i).h<=60)->ts.length<=600->0<=fw->fw<4->H lv=some (.lst us)->lv≠p->us.length<=60->hN<=60->(∀ r∈rs,r.fit)->YJ (rs.map (·.1)) ->
   ((stem=false/\KeysAt H (YF rs) us/\hN=0)\/(stem=true/\us.length≠1/\∃ ns h,us=iN ns/\Qs ts av ho ns h rs/\hN=h+1)) ->
   (∀ (H':Hp) (ts':List ZU) (av':Nat->List Nat) (ho':Nat->Nat) (as':List Zz) (kvs':List (Zc×V)) (lv':Addr) (ns':List Nat) (y7 y8 y9:Option V),YE gt CSh CTw (· = p) H H' S d lk ls ts as ts' av' ho' as' kvs'->ZH H' p->H' lv'=some (.lst (iN ns'))->lv'≠p->Qs ts' av' ho' ns' hN rs->ts'.length=ts.length+ns'.length->(if stem=true then 2 else 1) * ns'.length<=us.length ->
    D0.nx [some (.ref p),some (.ref S),x2,some (.int fw),some (.bl back),some (.ref lv'),some (.bl true),y7,y8,y9] H') ->
   t D0 [some (.ref p),some (.ref S),x2,some (.int fw),some (.bl back),some (.ref lv),some (.bl stem),x7,x8,x9] H:=by
 have nd:=Y7.nd
 obtain ⟨t,ht,hJ⟩:=Be (P:=P) (w:=w) (K:=K) (mg:=mg) (base:=base) (f:=f) (cdv:=cdv) (A:=A) (outer:=outer) (s:=s) (Hs:=Hs) (E:=E) L hr DS DL
 have hr2:=hr.mono (show 2<=10 by decide)
 refine ⟨_,ZS (Zm (i:=7) nd rfl (Or.inl rfl) (Ye ZG))
  (ZS (Zm (i:=8) nd rfl (Or.inl rfl) (Zg DC hr2 (WS (pv 0) (pv 5) (pv 3) (pv 6))))
  (ZS (VJ PassesOwn.never rfl (WJ (Zo (r:=YB K) YH (Ye (ZI (pv 8) (ZI (KI (pv 8) (QE QW ZO)) ZG))) (Xh QA rfl T.int Va (ZI (pv 4) ZG)) (fun _ _=>rfl))) (Y6 (i:=9) nd rfl (Or.inl rfl)) ht)
  (ZS (Zm (i:=5) nd rfl (Or.inl rfl) (Zo (r:=YB K) YH (Ye (ZI (pv 7) (ZI (KI (pv 7) (QE QW ZO)) ZG))) (Xh QA rfl T.int Va (ZI (pv 4) ZG)) (fun _ _=>rfl)))
  (ZW (Zm (i:=6) nd rfl (Or.inl rfl) Y8))))),?_⟩
 intro D0 H p S d lk lv fw back stem x2 x7 x8 x9 ts as av ho kvs ls us rs hN W R app hw hs t6 f0 f4 hlv lvp l60 h60 frs ris lev fin
 refine ⟨nn (zAC rfl),fun nm nnm=>?_⟩
 have g1:=Za nnm (.lst [])
 have hnm:=ZP (H:=H) (a:=nm) (o:=.lst [])
 generalize upd H nm (.lst [])=Ha at g1 hnm ⊢
 have Wa:=W.same g1
 refine ⟨_,rfl,_,rfl,_,rfl,_,rfl,p,lv,us,fw,stem,rfl,Wa,g1 _ _ hlv,lvp,f0,f4,by omega,fun z=>?_,fun D pl pss Hb nD hD prt flat size l104 Wb sab=>?_⟩
 ·rcases lev with ⟨z',_⟩ | ⟨_,z',_⟩
  ·rw [z] at z';cases z'
  ·exact z'
 have Dnm:D≠nm:=fun z=>by rw [z,hnm] at nD;cases nD
 refine ⟨_,rfl,_,rfl,1,rfl,D,pl,rfl,rfl,ZM.of hD,fun q1 n1=>⟨nn (zAC rfl),fun q2 n2=>?_⟩⟩
 have g2:=Za n1 (.lst pl.reverse)
 have g3:=Za n2 (.lst [.ref D,.ref q1])
 have eq1:=g3 _ _ (ZP (H:=Hb) (a:=q1) (o:=.lst pl.reverse))
 have eq2:=ZP (H:=upd Hb q1 (.lst pl.reverse)) (a:=q2) (o:=.lst [.ref D,.ref q1])
 have g23:=g2.trans g3
 generalize upd (upd Hb q1 (.lst pl.reverse)) q2 (.lst [.ref D,.ref q1])=H1 at g23 eq1 eq2 ⊢
 refine ⟨_,rfl,.inr ⟨back,rfl,.inl ⟨q2,_,_,_,rfl,rfl,ZM.of eq2,Ks _ _ _,?_⟩⟩⟩
 have hI:∃ I,(if back=true then V.ref q1 else V.ref D)=.ref I/\H1 I=some (.lst (Z6 back pl))/\Ha I=none:=by
  cases back
  ·exact ⟨D,rfl,g23 _ _ hD,nD⟩
  ·exact ⟨q1,rfl,eq1,Ph sab Wb n1⟩
 obtain ⟨I,eI,hI1,nI⟩:=hI
 rw [eI]
 have Ra:=R.same g1
 obtain ⟨pw,hp⟩:=W.some
 have hpa:=g1 _ _ hp
 obtain ⟨pwb,hpb⟩:=Wb.some
 have rA:YE gt CSh CTw (· = p) H Ha S d lk ls ts as ts av ho as kvs:=(YE.refl R hw hs).same g1
 have rB:=rA.but app rfl hpa sab hpb
 have rC:=rB.same g23
 have nmp:nm≠p:=Wp W nnm
 have hnm1:=g23 _ _ (sab _ _ hnm nmp)
 have apn:Xd H1 lk ts as nm:=Uf R nnm hnm1
 have tHH1:Zu H H1:=rC.tups R fun c z=>by rw [z];exact app.at_
 obtain ⟨Ts,qs,lT,hT,rT,J0,stp⟩:=hJ Ha H1 S d lk nm ts as av ho kvs ls us pl pss rs hN stem back (NB Ha p D) Ra rC.sh apn (by rw [hnm];exact fun z=>nomatch z) hw hs (fun b nb=>by
   cases z:Ha b with
   | none=>rfl
   | some o=>exact absurd (.inr (.inr (by rw [z];exact fun z=>nomatch z))) nb) t6 l60 h60 (Paired.mapP prt fun _ _ z=>YN.go z fun b o e n=>g23 b o e) flat size frs ris hnm1 (lev.imp (fun ⟨a,b,c⟩=>⟨a,b.mono tHH1 _ _,c⟩) fun ⟨a,_,c⟩=>⟨a,c⟩)
 have stayI:∀ {H:Hp} {ts':List ZU} {av:Nat->List Nat} {ho:Nat->Nat} {as':List Zz} {kvs:List (Zc×V)},YE gt CSh CTw (· = nm) H1 H S d lk ls ts as ts' av ho as' kvs->H I=some (.lst (Z6 back pl)):=fun r=>by
  obtain ⟨⟨dS,hS⟩,hd,_⟩:=Ra.sh
  refine r.fr I _ (ZY hnm nI).symm (ZY hS nI).symm (ZY hd nI).symm (fun b hb=>?_) hI1
  obtain ⟨dx,hx⟩:=(Ra.tw b hb).tw.self
  exact ⟨(ZY hx nI).symm,(ZY (Ra.tw b hb).tw.above nI).symm⟩
 have lord:(Z6 back pl).length=Ts.length:=by rw [Uo,lT]
 refine ⟨I,rfl,⟨_,ZM.of hI1⟩,Pf (K:=K) (a:=I) (xs:=Z6 back pl) (fun i σ H'=>∃ x9':Option V,σ=[some (.ref p),some (.ref S),x2,some (.int fw),some (.bl back),some (.ref lv),some (.bl stem),some (.ref nm),some (.ref D),x9']/\P1 gt CSh CTw H1 S d lk ls ts as nm Ts qs i H')
  ⟨_,rfl,J0⟩ (fun i σ H' _ hP=>by obtain ⟨_,_,_,_,_,_,r,_⟩:=hP;exact ZM.of (stayI r)) ?_ ?_⟩
 ·rintro i u σ H2 hu ⟨x9',rfl,j⟩
  exact stp i u hu _ H2 _ _ _ _ _ _ j fun H' j'=>⟨_,rfl,j'⟩
 ·rintro σ H2 ⟨x9',rfl,j⟩
  rw [lord] at j
  obtain ⟨av',ho',as',kvs',r,hn,hh,_⟩:=j
  rw [zAU (zAH _)] at r
  have few:(if stem=true then 2 else 1) * Ts.length<=us.length:=by
   have:=P5 (n:=if stem=true then 2 else 1) pss fun ps h=>(size ps h).1
   rw [flat] at this
   have e:Ts.length=pss.length:=by rw [lT];exact prt.length.symm
   rw [e];exact this
  have lT60:Ts.length<=60:=by
   split at few <;> omega
  refine ⟨_,rfl,_,rfl,1,rfl,nm,_,rfl,rfl,ZM.of hn,fun q3 n3=>⟨nn (zAC rfl),fun q4 n4=>?_⟩⟩
  have g4:=Za n3 (.lst (iN (zBH ts.length Ts.length)).reverse)
  have g5:=Za n4 (.lst [.ref nm,.ref q3])
  have eq3:=g5 _ _ (ZP (H:=H2) (a:=q3) (o:=.lst (iN (zBH ts.length Ts.length)).reverse))
  have eq4:=ZP (H:=upd H2 q3 (.lst (iN (zBH ts.length Ts.length)).reverse)) (a:=q4) (o:=.lst [.ref nm,.ref q3])
  have g45:=g4.trans g5
  generalize upd (upd H2 q3 (.lst (iN (zBH ts.length Ts.length)).reverse)) q4 (.lst [.ref nm,.ref q3])=H3 at g45 eq3 eq4 ⊢
  refine ⟨_,rfl,.inr ⟨back,rfl,.inl ⟨q4,_,_,_,rfl,rfl,ZM.of eq4,Ks _ _ _,?_⟩⟩⟩
  obtain ⟨⟨dS,hS⟩,hd,_⟩:=R.sh
  obtain ⟨pw1,hp1⟩:=(Wb.same g23).some
  have W2:ZH H2 p:=MV (Wb.same g23) fun o e=>r.fr p o (Ne.symm nmp) (ZR hp hS (by intro z;cases z)) (ZR hp hd (by intro z;cases z)) (fun b hb=>by
   obtain ⟨dx,hx⟩:=(R.tw b hb).tw.self
   exact ⟨ZR hp hx (by intro z;cases z),(app.own b hb).1.symm⟩) e
  have hL:∃ l',(if back=true then V.ref q3 else V.ref nm)=.ref l'/\H3 l'=some (.lst (iN (Z6 back (zBH ts.length Ts.length))))/\l'≠p:=by
   cases back
   ·exact ⟨nm,rfl,g45 _ _ hn,nmp⟩
   ·refine ⟨q3,rfl,?_,Wp W2 n3⟩
    rw [eq3]
    unfold iN Z6
    rw [if_pos rfl,List.map_reverse]
  obtain ⟨l',el,hl',l'p⟩:=hL
  rw [el]
  have rF:YE gt CSh CTw (· = p) H H3 S d lk ls ts as (ts++Ts) av' ho' as' kvs':=(rC.trans r fun c z=>.inl (by rw [z];exact nnm)).same g45
  have ln:(Z6 back (zBH ts.length Ts.length)).length=Ts.length:=by rw [Uo,List.length_range']
  refine fin H3 (ts++Ts) av' ho' as' kvs' l' (Z6 back (zBH ts.length Ts.length)) _ _ _ rF (W2.same g45) hl' l'p ⟨Fa (List.nodup_range'),fun b hb=>?_,?_⟩ (by rw [ln,zAL]) (by rw [ln];exact few)
  ·have hb:=Zx.mp hb
   have h1:=List.mem_range'_1.mp hb
   refine ⟨by rw [zAL];omega,hT _ (EI hb),hh b h1.1 h1.2⟩
  ·rw [AC]
   exact rT
end
section
variable {P:Program} {w:World} {K:zAA} {mg:Str->Option Value} {base:Heap} {f:Addr} {fd:FuncData} {CSh CTw:Addr}
def Md (gt:List KT) (CSh CTw:Addr):Sp:=fun vs H Q _=>∃ (p S d lk l:Addr) (ts:List ZU) (av:Nat->List Nat) (ho:Nat->Nat) (as:List Zz) (kvs:List (Zc×V)) (ls us:List V) (rs:List YQ),vs=[.ref p,.ref S,.ref l]/\ZH H p/\YI CSh CTw H S d lk ts av ho as kvs ls/\Xd H lk ts as p/\WF gt ts/\(∀ i,i<ts.length->(gd ts i).h<=60)/\ts.length<=400 /\
 H l=some (.lst us)/\l≠p/\KeysAt H (YF rs) us/\(∀ r∈rs,r.fit)/\YJ (rs.map (·.1))/\rs.length<=60 /\
 ∀ (H':Hp) (ts':List ZU) (av':Nat->List Nat) (ho':Nat->Nat) (as':List Zz) (kvs':List (Zc×V)) (rn:Option Nat),YE gt CSh CTw (· = p) H H' S d lk ls ts as ts' av' ho' as' kvs'->ZH H' p->ts'.length<=ts.length+120->(∀ i,rn=some i->i<ts'.length)->Q (YM (Z9 rn)) H'
def MF (gt:List KT) (CSh CTw:Addr) (H:Hp) (p S d lk:Addr) (ls:List V) (ts:List ZU) (as:List Zz) (rs:List YQ) (stem:Bool) (m:Nat) (lv:Addr) (us:List V) (H':Hp):Prop:=
 ∃ (ts':List ZU) (av':Nat->List Nat) (ho':Nat->Nat) (as':List Zz) (kvs':List (Zc×V)),YE gt CSh CTw (· = p) H H' S d lk ls ts as ts' av' ho' as' kvs'/\ZH H' p/\H' lv=some (.lst us)/\lv≠p/\us.length<=60 /\
  ((stem=false/\m=us.length+1/\KeysAt H' (YF rs) us/\ts'.length=ts.length)\/(stem=true/\m=us.length/\∃ ns h,us=iN ns/\Qs ts' av' ho' ns h rs/\h+ns.length<=61/\ts'.length+ns.length<=ts.length+120))
theorem BK {gt:List KT} (F0:Zk K "_law_plant" "_law_plant" VU f fd) (T:YG mg) (L:Yi K mg CSh CTw) (DP:ZB P w K mg base 1 "_law_pull" ["_law_well_here","_law_many"] Xq) (DC:ZB P w K mg base 2 "_law_cut" ["_law_well_here","_law_things","_law_few","_law_stem"] Pp) (DS:ZJ P w K mg base ZV 10 CSh "put_stem" ["self","numbers"] (Ut gt CSh CTw)) (DL:ZJ P w K mg base ZV 10 CSh "put_leaf" ["self","rows"] (Qg CSh CTw)) :
  ZK P w K mg base ZV 11 f fd ["_law_well_here","_law_shelf","_law_rows"] (Md gt CSh CTw):=by
 refine F0.ok Y7 (fun vs H Q E h=>(by obtain ⟨_,_,_,_,_,_,_,_,_,_,_,_,_,rfl,_⟩:=h;rfl)) (fun cdv A outer s H vs Q E hr h=>?_)
 obtain ⟨p,S,d,lk,l,ts,av,ho,as,kvs,ls,us,rs,rfl,W,R,app,hw,hs,t4,hl,lp,hk,frs,ris,r60,k⟩:=h
 have nd:=Y7.nd
 have hr1:=hr.mono (show 1<=10 by decide)
 obtain ⟨t,ht,hW⟩:=E3 (P:=P) (w:=w) (K:=K) (mg:=mg) (base:=base) (f:=f) (cdv:=cdv) (A:=A) (outer:=outer) (s:=s) (Hs:=H) (E:=E) T L hr DC DS DL
 refine ⟨_,ZS (Zm (i:=3) nd rfl (Or.inl rfl) (Zg DP hr1 (ZI (pv 0) (ZI ZO ZG))))
  (ZS (Zm (i:=4) nd rfl (Or.inl rfl) (Xm X2 (Zg DP hr1 (ZI (pv 0) (ZI ZO ZG))) ZO (Z2 _)))
  (ZS (Zm (i:=5) nd rfl (Or.inl rfl) (Xh UC rfl T.list Vc (ZI (pv 2) ZG)))
  (ZS (Zm (i:=6) nd rfl (Or.inl rfl) Y8)
  (ZS (UR PassesOwn.never (PW.pt (Vy (Yn Vx (Zw XH rfl T.len XA (ZI (pv 5) ZG)) ZO (Z2 _)) (V5 (PW.pt (OF (Yn (NE hr.units0) (pv 5) (Ye ZG) (Z2 _)) (O1 (WW (Yu (pv 6))))))))) ht)
  (ZW (Zi (Zo (r:=YB K) YH (Zs Pc (pv 5) (Ye (ZI U5 ZG))) ZO (fun _ _=>rfl)))))))),?_⟩
 obtain ⟨⟨dS,hS⟩,hd,_⟩:=R.sh
 obtain ⟨pw,hp⟩:=W.some
 refine ⟨_,rfl,p,4,rfl,W,Y4 (by decide) (by decide),fun fw H1 f0 f4 W1 s1=>?_⟩
 refine ⟨_,rfl,p,2,rfl,W1,Y4 (by decide) (by decide),fun bk H2 b0 b1 W2 s2=>?_⟩
 have s02:=s1.trans s2
 obtain ⟨pw2,hp2⟩:=W2.some
 have r0:YE gt CSh CTw (· = p) H H2 S d lk ls ts as ts av ho as kvs:=(YE.refl R hw hs).but app rfl hp s02 hp2
 have t02:=s02.tupsW W
 refine ⟨rfl,?_⟩
 refine ⟨_,rfl,l,us,rfl,.inl (ZM.of (s02 _ _ hl lp)),fun lv nlv=>?_⟩
 have g3:=Za nlv (.lst us)
 have elv:=ZP (H:=H2) (a:=lv) (o:=.lst us)
 generalize upd H2 lv (.lst us)=H3 at g3 elv ⊢
 generalize decide (V.int bk=V.int 1)=back
 have lus:us.length=rs.length:=by
  have:=hk.length
  unfold YF at this
  rw [zAD] at this
  exact this.symm
 have I0:MF gt CSh CTw H p S d lk ls ts as rs false (us.length+1) lv us H3:=⟨ts,av,ho,as,kvs,r0.same g3,W2.same g3,elv,Wp W2 nlv,by omega,.inl ⟨rfl,rfl,(hk.mono t02 _ _).mono (ZA.tups g3) _ _,rfl⟩⟩
 refine ⟨fun m σ H'=>∃ (stem:Bool) (lv:Addr) (us:List V) (x7 x8 x9:Option V),σ=[some (.ref p),some (.ref S),some (.ref l),some (.int fw),some (.bl back),some (.ref lv),some (.bl stem),x7,x8,x9]/\MF gt CSh CTw H p S d lk ls ts as rs stem m lv us H',⟨_,false,lv,us,none,none,none,rfl,I0⟩,?_⟩
 rintro m σ H4 ⟨stem,lv,us,x7,x8,x9,rfl,ts',av',ho',as',kvs',r,W4,hlv,lvp,l60,cs⟩
 have same5:∀ {H5:Hp},ZA H4 H5->YE gt CSh CTw (· = p) H H5 S d lk ls ts as ts' av' ho' as' kvs'/\ZH H5 p/\H5 lv=some (.lst us):=fun g=>⟨r.same g,W4.same g,g _ _ hlv⟩
 have go:∀ {D0:Yb} {H5:Hp},ZA H4 H5->(stem=true->2<=us.length)->(∀ σ' H',(∃ m',m'<m/\∃ (stem:Bool) (lv:Addr) (us:List V) (x7 x8 x9:Option V),σ'=[some (.ref p),some (.ref S),some (.ref l),some (.int fw),some (.bl back),some (.ref lv),some (.bl stem),x7,x8,x9]/\MF gt CSh CTw H p S d lk ls ts as rs stem m' lv us H')->D0.nx σ' H') ->
   t D0 [some (.ref p),some (.ref S),some (.ref l),some (.int fw),some (.bl back),some (.ref lv),some (.bl stem),x7,x8,x9] H5:=fun {D0 H5} g h2 fin=>by
  obtain ⟨r5,W5,hlv5⟩:=same5 g
  obtain ⟨pw5,hp5⟩:=W5.some
  have ap5:Xd H5 lk ts' as' p:=⟨⟨pw5,hp5⟩,app.lk,r5.own app⟩
  have t5:Zu H4 H5:=ZA.tups g
  rcases cs with ⟨rfl,rfl,hk4,lt⟩ | ⟨rfl,rfl,ns,h,rfl,lv',h61,l120⟩
  ·refine hW D0 H5 p S d lk lv fw back false _ x7 x8 x9 ts' as' av' ho' kvs' ls us rs 0 W5 r5.sh ap5 r5.wf r5.hs (by omega) f0 f4 hlv5 lvp l60 (zAe _) frs ris (.inl ⟨rfl,hk4.mono t5 _ _,rfl⟩) fun H' ts2 av2 ho2 as2 kvs2 lv2 ns2 y7 y8 y9 r6 W6 hlv6 lvp6 lvi e6 few=>?_
   have few:1 * ns2.length<=us.length:=few
   have ln:(iN ns2).length=ns2.length:=zAD _
   exact fin _ _ ⟨(iN ns2).length,by omega,true,lv2,iN ns2,y7,y8,y9,rfl,ts2,av2,ho2,as2,kvs2,r5.trans r6 (fun c z=>.inr z),W6,hlv6,lvp6,by omega,.inr ⟨rfl,rfl,ns2,0,rfl,lvi,by omega,by omega⟩⟩
  ·have ln:(iN ns).length=ns.length:=zAD _
   have h2:=h2 rfl
   refine hW D0 H5 p S d lk lv fw back true _ x7 x8 x9 ts' as' av' ho' kvs' ls (iN ns) rs (h+1) W5 r5.sh ap5 r5.wf r5.hs (by omega) f0 f4 hlv5 lvp l60 (by omega) frs ris (.inr ⟨rfl,by omega,ns,h,rfl,lv',rfl⟩) fun H' ts2 av2 ho2 as2 kvs2 lv2 ns2 y7 y8 y9 r6 W6 hlv6 lvp6 lvi e6 few=>?_
   have few:2 * ns2.length<=(iN ns).length:=few
   have ln2:(iN ns2).length=ns2.length:=zAD _
   exact fin _ _ ⟨(iN ns2).length,by omega,true,lv2,iN ns2,y7,y8,y9,rfl,ts2,av2,ho2,as2,kvs2,r5.trans r6 (fun c z=>.inr z),W6,hlv6,lvp6,by omega,.inr ⟨rfl,rfl,ns2,h+1,rfl,lvi,by omega,by omega⟩⟩
 have done:∀ {H5:Hp} {D0:Yb},D0.rt=Q->ZA H4 H5->us.length<=1->(stem=false->us=[])->Kz (Uv (YB K) (Uv Jo (Of 5) (IZ (Ym (tC V.non) WX))) (tC (V.int 0))) D0 [some (.ref p),some (.ref S),some (.ref l),some (.int fw),some (.bl back),some (.ref lv),some (.bl stem),x7,x8,x9] H5:=fun {H5 D0} eD g h1 h0=>by
  obtain ⟨r5,W5,hlv5⟩:=same5 g
  refine ⟨_,rfl,nn (zAC rfl),fun q nq=>?_⟩
  have g6:=Za nq (.lst [.non])
  refine ⟨lv,q,us,[.non],rfl,rfl,g6 _ _ hlv5,ZP,zBb (Yp (n:=us.length+1) (by omega)),fun q' nq'=>?_⟩
  have g7:=Za nq' (.lst (us++[.non]))
  obtain ⟨rn,ern,hrn⟩:∃ rn:Option Nat,(us++[V.non])[0]? = some (YM (Z9 rn))/\∀ i,rn=some i->i<ts'.length:=by
   rcases cs with ⟨z,_⟩ | ⟨_,_,ns,h,rfl,lv',_⟩
   ·rw [h0 z];exact ⟨none,rfl,fun i e=>by cases e⟩
   ·cases ns with
    | nil=>exact ⟨none,rfl,fun i e=>by cases e⟩
    | cons n ns=>exact ⟨some n,rfl,fun i e=>by cases e;exact (lv'.at_ n zAR).1⟩
  refine .inl ⟨q',us++[.non],0,_,rfl,rfl,ZM.of ZP,XL (j:=0) ern,?_⟩
  rw [eD]
  have l120:ts'.length<=ts.length+120:=by
   rcases cs with ⟨_,_,_,z⟩ | ⟨_,_,ns,h,rfl,lv',_,z⟩ <;> omega
  exact k _ ts' av' ho' as' kvs' rn (r5.same (g6.trans g7)) (W5.same (g6.trans g7)) l120 hrn
 refine ⟨_,rfl,lv,us,rfl,.inl (ZM.of hlv),_,_,rfl,rfl,_,rfl,?_⟩
 rcases zAj 1 us.length with c1 | c1
 ·rw [decide_eq_true (show (1:Int)<((us.length:Nat):Int) by omega)]
  exact Zy (Zy ⟨_,fun _ _ z=>z,go (ZA.refl _) (fun _=>c1) fun _ _ z=>z⟩)
 ·rw [decide_eq_false (show ¬ (1:Int)<((us.length:Nat):Int) by omega)]
  refine Zp ⟨_,rfl,nn (zAC rfl),fun q nq=>?_⟩
  have g5:=Za nq (.lst [])
  have eq:=ZP (H:=H4) (a:=q) (o:=.lst [])
  generalize upd H4 q (.lst [])=H5 at g5 eq ⊢
  refine ⟨lv,q,us,rfl,rfl,ZM.of (g5 _ _ hlv),ZM.of eq,_,rfl,?_⟩
  cases us with
  | nil=>exact Zp (Zp (done rfl g5 c1 fun _=>rfl))
  | cons u us=>
   refine Zy ⟨_,rfl,_,rfl,?_⟩
   cases stem with
   | false=>exact Zy ⟨_,fun _ _ z=>z,go g5 (fun z=>by cases z) fun _ _ z=>z⟩
   | true=>exact Zp (done rfl g5 c1 fun z=>by cases z)
end
section
variable {P:Program} {w:World} {K:zAA} {mg:Str->Option Value} {base:Heap} {f:Addr} {fd:FuncData}
def MB:Sp:=fun vs H Q _=>∃ (L T1 T2 r1 r2:Addr) (xs1 xs2 us1 us2:List V) (rs1 rs2:List YQ),vs=[.ref L]/\H L=some (.lst [.ref T1,.ref T2])/\H T1=some (.tup (.ref r1 :: xs1))/\H T2=some (.tup (.ref r2 :: xs2))/\H r1=some (.lst us1)/\H r2=some (.lst us2)/\KeysAt H (YF rs1) us1/\KeysAt H (YF rs2) us2/\us1.length<=100/\us2.length<=100 /\
 ∀ (D:Addr) (ks:List V) (H':Hp),ZA H H'->H D=none->H' D=some (.lst ks)->KeysAt H' ((rs1++rs2).map (·.1)) ks->Q (.ref D) H'
theorem Cp:ZC ["_law_trees_here"] ["_law_trees_here"] (Zf N3):=⟨rfl,rfl,rfl,by decide +kernel,rfl,by decide +kernel,by decide +kernel⟩
theorem Iz (F0:Zk K "_law_known" "_law_known" N3 f fd):ZK P w K mg base ZV 1 f fd ["_law_trees_here"] MB:=by
 refine F0.ok Cp (fun vs H Q E h=>(by obtain ⟨_,_,_,_,_,_,_,_,_,_,_,rfl,_⟩:=h;rfl)) (fun cdv A outer s H vs Q E hr h=>?_)
 obtain ⟨L,T1,T2,r1,r2,xs1,xs2,us1,us2,rs1,rs2,rfl,hL,hT1,hT2,h1,h2,k1,k2,l1,l2,q⟩:=h
 refine ⟨_,ZW (Zi (Xr [] [] rfl (WJ (Zs Pc (Zo (r:=Xc K) Zl (Zo (r:=YB K) YH (pv 0) ZO (fun _ _=>rfl)) ZO (fun _ _=>rfl)) (Zo (r:=Xc K) Zl (Zo (r:=YB K) YH (pv 0) ZO (fun _ _=>rfl)) ZO (fun _ _=>rfl)))) (fun _ _ _ _ _=>X6) (fun _ _ _ _ _=>Zo (r:=Xc K) Zl (pv 0) ZO (fun _ _=>rfl)) trivial)),?_⟩
 refine ⟨_,rfl,.inl ⟨L,_,_,.ref T1,rfl,rfl,ZM.of hL,rfl,T1,_,_,.ref r1,rfl,rfl,Zj.of hT1,XL (j:=0) rfl,?_⟩⟩
 refine ⟨_,rfl,.inl ⟨L,_,_,.ref T2,rfl,rfl,ZM.of hL,rfl,T2,_,_,.ref r2,rfl,rfl,Zj.of hT2,XL (j:=0) rfl,?_⟩⟩
 refine ⟨r1,r2,us1,us2,rfl,rfl,h1,h2,nn (by omega),fun c nc=>?_⟩
 have g:=Za nc (.lst (us1++us2))
 have ec:=ZP (H:=H) (a:=c) (o:=.lst (us1++us2))
 generalize upd H c (.lst (us1++us2))=H1 at g ec ⊢
 have kr:KeysAt H1 (YF (rs1++rs2)) (us1++us2):=by
  rw [J7]
  exact (k1.mono (ZA.tups g) _ _).append (k2.mono (ZA.tups g) _ _)
 have lu:(us1++us2).length<=200:=by rw [zAL];omega
 have lr:(us1++us2).length=(rs1++rs2).length:=by have:=kr.length;rw [<-this];exact zAD _
 generalize us1++us2=us at ec kr lu lr
 generalize rs1++rs2=rs at kr lr q
 refine ⟨c,rfl,⟨us,ZM.of ec⟩,X7 (n:=us.length) (fun i z=>us[i]? = some z) (fun D i ys H3=>ZA H1 H3/\H1 D=none/\KeysAt H1 ((rs.map (·.1)).take i) ys) (Yp (by omega))
  (fun D i ys H3 hi hP=>⟨us,us[i],ZM.of (hP.1 _ _ ec),by simp [hi]⟩) (fun D i ys H3 z H4 hi hP hy=>⟨hy.1,hy.2 us (ZM.of (hP.1 _ _ ec))⟩) (fun D ys H3 hP=>⟨us,ZM.of (hP.1 _ _ ec),zAH _⟩)
  (fun D hD=>⟨Za hD _,hD,.nil⟩) (fun D i ys H3 z eD hl' hi hz hP RR hRR=>?_) (fun D ys H3 eD hP=>?_)⟩
 ·obtain ⟨s3,nD,kys⟩:=hP
  obtain ⟨a,vk,vv,er,rfl,ea,e1,e2⟩:=UG kr hz
  refine ⟨_,rfl,a,_,_,vk,rfl,rfl,Zj.of (s3 _ _ ea),rfl,hRR _ H3 eD ⟨We s3 nD,nD,?_⟩⟩
  rw [zAm,zAN,er]
  exact kys.append (.cons e1 .nil)
 ·obtain ⟨s3,nD,kys⟩:=hP
  rw [zAU (by rw [zAD];omega)] at kys
  exact q D ys H3 (g.trans s3) (g.free nD) eD (kys.mono (ZA.tups s3) _ _)
end
structure Wl where
 T:Addr
 r:Addr
 d:Addr
 rn:Option Nat
 us:List V
 rs:List YQ
 kv:List (Zc×V)
 F:List Nat
structure Yl (gt:List KT) (ts:List ZU) (H:Hp) (t:Wl):Prop where
 tp:H t.T=some (.tup [.ref t.r,YM (Z9 t.rn),.ref t.d])
 rl:H t.r=some (.lst t.us)
 ks:KeysAt H (YF t.rs) t.us
 fit:∀ x∈t.rs,x.fit
 len:t.rs.length<=60
 rcd:Yx gt ts H t.d t.kv t.F
 rt:∀ i,t.rn=some i->i∈t.F
theorem Yl.go {gt:List KT} {ts:List ZU} {H H':Hp} {t:Wl} (h:Yl gt ts H t) (m:Zu H H') (hr:∀ o,H t.r=some o->H' t.r=some o) (hd:∀ o,H t.d=some o->H' t.d=some o):Yl gt ts H' t:=
 ⟨m _ _ h.tp,hr _ h.rl,h.ks.mono m _ _,h.fit,h.len,⟨hd _ h.rcd.hd,h.rcd.rcd.mono m,h.rcd.clo,h.rcd.wf⟩,h.rt⟩
theorem Yl.grow {gt:List KT} {ts ts':List ZU} {H:Hp} {t:Wl} (h:Yl gt ts H t) (le:ts.length<=ts'.length) (old:∀ i,i<ts.length->gd ts' i=gd ts i) (wf:WF gt ts'):Yl gt ts' H t:=
 ⟨h.tp,h.rl,h.ks,h.fit,h.len,⟨h.rcd.hd,⟨h.rcd.rcd.nd,fun j hj=>zAb (h.rcd.rcd.lt j hj) le,h.rcd.rcd.no,fun j hj=>by rw [old j (h.rcd.rcd.lt j hj)];exact h.rcd.rcd.yes j hj,h.rcd.rcd.len⟩,fun j hj b hb=>by rw [old j (h.rcd.rcd.lt j hj)] at hb;exact h.rcd.clo j hj b hb,wf⟩,h.rt⟩
theorem YI.back {CSh CTw:Addr} {H H':Hp} {S d lk:Addr} {ts:List ZU} {av:Nat->List Nat} {ho:Nat->Nat} {as:List Zz} {kvs:List (Zc×V)} {ls ls':List V} (R:YI CSh CTw H S d lk ts av ho as kvs ls) (Q:Z4 CSh CTw H' ⟨S,d,ts,av,ho,as,kvs⟩ lk ts.length ls'):YI CSh CTw H' S d lk ts av ho as kvs ls':=
 ⟨Q.sh,R.keys,R.val,R.len,Q.tw,R.own,R.two⟩
theorem Xd.same {H H':Hp} {lk c:Addr} {ts:List ZU} {as:List Zz} (ap:Xd H lk ts as c) (s:ZA H H'):Xd H' lk ts as c:=by
 obtain ⟨o,e⟩:=ap.at_
 exact ⟨⟨o,s _ _ e⟩,ap.lk,ap.own⟩
theorem YE.keep {gt:List KT} {CSh CTw:Addr} {N:Addr->Prop} {H0 H:Hp} {S d lk:Addr} {ls:List V} {ts0 ts:List ZU} {av av0:Nat->List Nat} {ho ho0:Nat->Nat} {as0 as:List Zz} {kvs kvs0:List (Zc×V)} (r:YE gt CSh CTw N H0 H S d lk ls ts0 as0 ts av ho as kvs) (R:YI CSh CTw H0 S d lk ts0 av0 ho0 as0 kvs0 ls) {c:Addr} {o:List V} (ap:Xd H0 lk ts0 as0 c) (nN:¬ N c) (e:H0 c=some (.lst o)):H c=some (.lst o)/\Xd H lk ts as c:=by
 obtain ⟨⟨dS,hS⟩,hd,_⟩:=R.sh
 have e':=r.fr c _ nN (ZR e hS (by intro z;cases z)) (ZR e hd (by intro z;cases z)) (fun b hb=>by
  obtain ⟨dx,hx⟩:=(R.tw b hb).tw.self
  exact ⟨ZR e hx (by intro z;cases z),(ap.own b hb).1.symm⟩) e
 exact ⟨e',⟨_,e'⟩,ap.lk,r.own ap⟩
structure UU (gt:List KT) (CSh CTw:Addr) (H0 H:Hp) (S d lk L:Addr) (ts:List ZU) (av:Nat->List Nat) (ho:Nat->Nat) (as:List Zz) (kvs:List (Zc×V)) (ls:List V) (TL:List Wl):Prop where
 pla:YE gt CSh CTw (fun _=>False) H0 H S d lk ls [] [] ts av ho as kvs
 hL:H L=some (.lst (TL.map fun t=>V.ref t.T))
 aL:Xd H lk ts as L
 nL:H0 L=none
 trs:∀ t∈TL,Yl gt ts H t/\Xd H lk ts as t.r/\t.r≠L/\t.d≠d
section
variable {P:Program} {w:World} {K:zAA} {mg:Str->Option Value} {base:Heap} {f:Addr} {fd:FuncData} {CSh CTw:Addr}
def Oj (gt:List KT) (K:zAA) (CSh CTw:Addr):Sp:=fun vs H Q _=>∃ (H0:Hp) (a S d lk:Addr) (ns:List Int) (av:Nat->List Nat) (ho:Nat->Nat),vs=[.ref a,.ref S]/\ZM K H0 a (ns.map V.int)/\ns.length<=63/\ZA H0 H/\H0 S=none/\H0 d=none/\H0 lk=none/\YI CSh CTw H S d lk [] av ho [] [] [] /\
 ∀ (H':Hp) (L:Addr) (ts:List ZU) (av:Nat->List Nat) (ho:Nat->Nat) (as:List Zz) (kvs:List (Zc×V)) (ls:List V) (t1 t2:Wl),UU gt CSh CTw H0 H' S d lk L ts av ho as kvs ls [t1,t2]->ts.length<=240->ls.length<=480->Q (.ref L) H'
abbrev AG:List Str:=["_law_script","_law_shelf","_law_trees_here","_law_k","_law_well_here","_law_rows","_law_root"]
theorem WH:ZC AG ["_law_script","_law_shelf"] (Zf Od):=⟨rfl,rfl,rfl,by decide +kernel,rfl,by decide +kernel,by decide +kernel⟩
theorem BO {gt:List KT} (F0:Zk K "_law_trees" "_law_trees" Od f fd) (T:YG mg) (DW:ZB P w K mg base 1 "_law_well" ["_law_script","_law_k"] (Pq K)) (DG:ZB P w K mg base 10 "_law_ground" ["_law_well_here","_law_most"] (NH w)) (DS:ZB P w K mg base 9 "_law_sorted" ["_law_model"] (OW w)) (DP:ZB P w K mg base 11 "_law_plant" ["_law_well_here","_law_shelf","_law_rows"] (Md gt CSh CTw)) (DR:ZB P w K mg base 3 "_law_reached" ["_law_shelf","_law_root","_law_found"] (MP gt CSh CTw)) :
  ZK P w K mg base ZV 12 f fd ["_law_script","_law_shelf"] (Oj gt K CSh CTw):=by
 refine F0.ok WH (fun vs H Q E h=>(by obtain ⟨_,_,_,_,_,_,_,_,rfl,_⟩:=h;rfl)) (fun cdv A outer s H vs Q E hr h=>?_)
 obtain ⟨H0,a,S,d,lk,ns,av,ho,rfl,hSq,hn,s0,nS,ndd,nlk,R,k⟩:=h
 have nd:=WH.nd
 have hr1:=hr.mono (show 1<=11 by decide)
 have hr3:=hr.mono (show 3<=11 by decide)
 have hr9:=hr.mono (show 9<=11 by decide)
 have hr10:=hr.mono (show 10<=11 by decide)
 refine ⟨_,ZS (Zm (i:=2) nd rfl (Or.inl rfl) (Ye ZG))
  (ZS (VJ PassesOwn.never rfl (V2 rfl T.range (ZI ZO ZG)) (Y6 (i:=3) nd rfl (Or.inl rfl))
   (ZS (Zm (i:=4) nd rfl (Or.inl rfl) (Zg DW hr1 (ZI (pv 0) (ZI (pv 3) ZG))))
   (ZS (Zm (i:=5) nd rfl (Or.inl rfl) (Zg DS hr9 (ZI (Zg DG hr10 (ZI (pv 4) (ZI (Zo (r:=YB K) YH (Ye (ZI ZO (ZI ZO ZG))) (pv 3) (fun _ _=>rfl)) ZG))) ZG)))
   (ZS (Zm (i:=6) nd rfl (Or.inl rfl) (Zg DP hr (X8 (pv 4) (pv 1) (pv 5))))
   (ZW (XX (VV zAn zAv zAu VO (pv 2) (ZI (YU (X8 (pv 5) (pv 6) (Zg DR hr3 (X8 (pv 1) (pv 6) NA)))) ZG))))))))
  (ZW (Zi (pv 2)))),?_⟩
 refine ⟨nn (zAC rfl),fun L nL=>?_⟩
 have gL:=Za nL (.lst [])
 have eL:=ZP (H:=H) (a:=L) (o:=.lst [])
 generalize upd H L (.lst [])=H1 at gL eL ⊢
 have RL:=R.same gL
 have wf0:WF gt []:=fun i t e=>by simp at e
 have I0:UU gt CSh CTw H0 H1 S d lk L [] av ho [] [] [] []:=⟨⟨RL,wf0,fun i hi=>absurd hi (zBG _),fun c o _ _ _ _ e=>gL _ _ (s0 _ _ e),fun c e=>s0.free (gL.free e),zAH _,fun i hi=>absurd hi (zBG _),fun i _ hi=>absurd hi (zBG _)⟩,eL,Uf R nL eL,s0.free nL,fun t ht=>by simp at ht⟩
 refine ⟨2,rfl,by decide,by decide,Ue (n:=2) (fun i σ H'=>∃ (ts:List ZU) (av:Nat->List Nat) (ho:Nat->Nat) (as:List Zz) (kvs:List (Zc×V)) (ls:List V) (TL:List Wl) (x3 x4 x5 x6:Option V),σ=[some (.ref a),some (.ref S),some (.ref L),x3,x4,x5,x6]/\UU gt CSh CTw H0 H' S d lk L ts av ho as kvs ls TL/\TL.length=i/\ts.length<=120 * i/\ls.length<=240 * i)
  ⟨_,_,_,_,_,_,[],_,_,_,_,rfl,I0,rfl,zAe _,zAe _⟩ ?_ ?_⟩
 ·rintro i σ H2 hi ⟨ts,av,ho,as,kvs,ls,TL,x3,x4,x5,x6,rfl,r,lTL,l120,l200⟩
  have s02:ZA H0 H2:=fun b o e=>r.pla.fr b o (fun z=>z) (ZY e nS) (ZY e ndd) (fun j hj=>absurd hj (zBG _)) e
  refine ⟨_,rfl,_,rfl,a,ns,_,rfl,s02.seq hSq,hn,by omega,by omega,fun p H3 np s3 W3=>?_⟩
  obtain ⟨mv,emv,hmv⟩:=OA (x:=V.int 61) (y:=V.int 21) (i:=(0:Int)+(i:Int)) (by omega) (by omega)
  refine ⟨_,rfl,nn (zAC rfl),fun q nq=>?_⟩
  have gq:=Za nq (.lst [.int 61,.int 21])
  have eq:=ZP (H:=H3) (a:=q) (o:=.lst [.int 61,.int 21])
  generalize upd H3 q (.lst [.int 61,.int 21])=H4 at gq eq ⊢
  obtain ⟨m,rfl,m0,m61⟩:∃ m:Int,mv=.int m/\0<m/\m<=61:=by
   rcases hmv with rfl | rfl
   ·exact ⟨61,rfl,by decide,by decide⟩
   ·exact ⟨21,rfl,by decide,by decide⟩
  have W4:=W3.same gq
  refine ⟨_,rfl,.inl ⟨q,_,_,_,rfl,rfl,ZM.of eq,emv,p,m,rfl,W4,m0,m61,fun D rs xs H5 nD dr frs ris r60 W5 s5=>?_⟩⟩
  refine ⟨D,rs,xs,rfl,dr,frs,ris,r60,fun l us H6 s6 nl hl kl=>?_⟩
  have s24:ZA H2 H4:=s3.trans gq
  have R2:=r.pla.sh
  have R4:=R2.same s24
  obtain ⟨pw4,hp4⟩:=W4.some
  have ap4:Xd H4 lk ts as p:=Uf R2 np hp4
  have R5:=R4.but s5 hp4 ap4.lk ap4.own
  have R6:=R5.same s6
  have W6:=W5.same s6
  obtain ⟨pw6,hp6⟩:=W6.some
  have ap6:Xd H6 lk ts as p:=Uf R2 np hp6
  have lp:l≠p:=Wp W5 nl
  have g26:ZA H2 H6:=fun b o e=>s6 b o (s5 b o (s24 b o e) (ZY e np))
  refine ⟨_,rfl,_,rfl,_,rfl,p,S,d,lk,l,ts,av,ho,as,kvs,ls,us,rs,rfl,W6,R6,ap6,r.pla.wf,r.pla.hs,by omega,hl,lp,kl,frs,ris,r60,fun H7 ts7 av7 ho7 as7 kvs7 rn r7 W7 l7 hrn=>?_⟩
  have apl:Xd H6 lk ts as l:=Uf R5 nl hl
  have Lp:L≠p:=ZY r.hL np
  obtain ⟨hL7,aL7⟩:=r7.keep R6 (r.aL.same g26) Lp (g26 _ _ r.hL)
  obtain ⟨hl7,al7⟩:=r7.keep R6 apl lp hl
  have t67:Zu H6 H7:=r7.tups R6 fun c z=>by rw [z];exact ⟨_,hp6⟩
  refine ⟨_,rfl,.inl ⟨rfl,_,ZM.of hL7⟩,_,rfl,_,rfl,_,rfl,_,rfl,fun dd ndd'=>?_⟩
  have gd8:=Za ndd' (.dK [])
  have ed8:=ZP (H:=H7) (a:=dd) (o:=.dK [])
  generalize upd H7 dd (.dK [])=H8 at gd8 ed8 ⊢
  have R8:=r7.sh.same gd8
  have ddd:dd≠d:=(ZY r7.sh.sh.kept ndd').symm
  refine ⟨⟨S,d,ts7,av7,ho7,as7,kvs7⟩,lk,ts7.length,ls,rn,dd,rfl,R8.q,r7.wf,by show ts7.length<=240;omega,by omega,hrn,ed8,ddd,fun H9 kv F ls9 fr9 Q9 ll9 hdd9 rec9 clo9 rt9=>⟨nn (zAC rfl),fun Tt nT=>?_⟩⟩
  have gT:=Za nT (.tup [.ref l,YM (Z9 rn),.ref dd])
  have eT:=ZP (H:=H9) (a:=Tt) (o:=.tup [.ref l,YM (Z9 rn),.ref dd])
  generalize upd H9 Tt (.tup [.ref l,YM (Z9 rn),.ref dd])=H10 at gT eT ⊢
  have lk8:=R8.sh.looks
  have f810:∀ b o,b≠lk->b≠dd->H8 b=some o->H10 b=some o:=fun b o n1 n2 e=>gT b o (fr9 b o n1 n2 e)
  have t810:Zu H8 H10:=fun b o e=>f810 b _ (ZR e lk8 (by intro z;cases z)) (ZR e ed8 (by intro z;cases z)) e
  have f710:∀ b o,b≠lk->H7 b=some o->H10 b=some o:=fun b o n1 e=>f810 b o n1 (ZY e ndd') (gd8 b o e)
  have t710:Zu H7 H10:=fun b o e=>t810 b o (gd8 b _ e)
  have R10:YI CSh CTw H10 S d lk ts7 av7 ho7 as7 kvs7 ls9:=(R8.back Q9).same gT
  have hL10:=f710 _ _ aL7.lk hL7
  have hl10:=f710 _ _ al7.lk hl7
  refine ⟨L,_,_,rfl,rfl,hL10,Yp (by rw [zAD];omega),?_⟩
  have sx:ZE L H10 (upd H10 L (.lst ((TL.map fun t=>V.ref t.T)++[.ref Tt]))):=(ZE.refl L H10).upd
  have t11:Zu H10 (upd H10 L (.lst ((TL.map fun t=>V.ref t.T)++[.ref Tt]))):=sx.tups hL10
  have eL11:=ZP (H:=H10) (a:=L) (o:=.lst ((TL.map fun t=>V.ref t.T)++[.ref Tt]))
  generalize upd H10 L (.lst ((TL.map fun t=>V.ref t.T)++[.ref Tt]))=H11 at sx t11 eL11 ⊢
  have R11:=R10.but sx hL10 aL7.lk aL7.own
  have lL:l≠L:=fun z=>by rw [z,s5 _ _ (s24 _ _ r.hL) Lp] at nl;cases nl
  have np0:H0 p=none:=s02.free np
  obtain ⟨⟨dS6,hS6⟩,hd6,_⟩:=R6.sh
  have f011:ZA H0 H11:=fun b o e=>sx b o (f710 b o (ZY e nlk) (r7.fr b o (ZY e np0) (ZY e nS) (ZY e ndd) (fun j hj=>by
   obtain ⟨n1,_,n3⟩:=r.pla.new j (zAe _) hj
   exact ⟨ZY e n1,ZY e n3⟩) (g26 b o (s02 b o e)))) (ZY e r.nL)
  have t211:Zu H2 H11:=fun b o e=>t11 b o (t710 b o (t67 b o (ZA.tups g26 b o e)))
  have hl11:=sx _ _ hl10 lL
  refine ⟨ts7,av7,ho7,as7,kvs7,ls9,TL++[⟨Tt,l,dd,rn,us,rs,kv,F⟩],_,_,_,_,rfl,⟨⟨R11,r7.wf,r7.hs,fun c o _ _ _ _ e=>f011 c o e,fun c e=>f011.free e,zAe _,fun j hj=>absurd hj (zBG _),fun j _ hj=>?_⟩,?_,⟨⟨_,eL11⟩,aL7.lk,aL7.own⟩,r.nL,fun t ht=>?_⟩,?_,by omega,?_⟩
  ·rcases zAj j ts.length with z | z
   ·rw [(r7.old j z).1];exact r.pla.new j (zAe _) z
   ·obtain ⟨n1,n2,n3⟩:=r7.new j z hj
    exact ⟨s02.free (g26.free n1),s02.free (g26.free n2),s02.free (g26.free n3)⟩
  ·rw [zAZ];exact eL11
  ·rcases zAg.mp ht with z | z
   ·obtain ⟨a1,a2,a3,a4⟩:=r.trs t z
    have rp:t.r≠p:=ZY a1.rl np
    obtain ⟨k7,ap7⟩:=r7.keep R6 (a2.same g26) rp (g26 _ _ a1.rl)
    have k11:=sx _ _ (f710 _ _ ap7.lk k7) a3
    have d6:=g26 _ _ a1.rcd.hd
    have d7:=r7.fr t.d _ (ZY a1.rcd.hd np) (ZR d6 hS6 (by intro z;cases z)) a4 (fun b hb=>by
     obtain ⟨dx,hx⟩:=(R6.tw b hb).tw.self
     exact ⟨ZR d6 hx (by intro z;cases z),ZR d6 (R6.tw b hb).tw.above (by intro z;cases z)⟩) d6
    have d11:=sx _ _ (f710 _ _ (ZR d7 r7.sh.sh.looks (by intro z;cases z)) d7) (ZR a1.rcd.hd r.hL (by intro z;cases z))
    exact ⟨(a1.go t211 (fun o e=>by rw [a1.rl] at e;cases e;exact k11) (fun o e=>by rw [a1.rcd.hd] at e;cases e;exact d11)).grow r7.le (fun j hj=>(r7.old j hj).2) r7.wf,⟨⟨_,k11⟩,ap7.lk,ap7.own⟩,a3,a4⟩
   ·rw [zAQ.mp z]
    exact ⟨⟨t11 _ _ eT,hl11,((kl.mono t67 _ _).mono t710 _ _).mono t11 _ _,frs,r60,⟨sx _ _ (gT _ _ hdd9) (ZR hdd9 (fr9 _ _ aL7.lk (ZY hL7 ndd') (gd8 _ _ hL7)) (by intro z;cases z)),(rec9.mono (ZA.tups gT)).mono t11,clo9,r7.wf⟩,rt9⟩,⟨⟨_,hl11⟩,al7.lk,al7.own⟩,lL,ddd⟩
  ·rw [zAL,lTL];rfl
  ·have ll9:ls9.length<=ls.length+ts7.length:=ll9
   omega
 ·rintro σ H2 ⟨ts,av,ho,as,kvs,ls,TL,x3,x4,x5,x6,rfl,r,lTL,l120,l200⟩
  obtain ⟨t1,t2,rfl⟩:∃ t1 t2,TL=[t1,t2]:=by
   match TL,lTL with
   | [t1,t2],_=>exact ⟨t1,t2,rfl⟩
  exact ⟨_,rfl,k H2 L ts av ho as kvs ls t1 t2 r (by omega) (by omega)⟩
end
section
variable {CSh CTw:Addr} {H H':Hp} {X:XS} {lk:Addr} {c:Nat} {ls:List V}
theorem Z4.off (R:Z4 CSh CTw H X lk c ls) {p q:Addr} {o1 o2:List V} (h1:H p=some (.lst o1)) (h2:H q=some (.lst o2)) (fr:∀ b o,b≠p->b≠q->H b=some o->H' b=some o) (plk:p≠lk) (qlk:q≠lk) (op:∀ i:Nat,i<X.ts.length->(X.as.getD i .d).ab≠p/\(X.as.getD i .d).th≠p) (oq:∀ i:Nat,i<X.ts.length->(X.as.getD i .d).ab≠q/\(X.as.getD i .d).th≠q):Z4 CSh CTw H' X lk c ls:=by
 have t:Zu H H':=fun b o e=>fr b _ (ZR e h1 (by intro z;cases z)) (ZR e h2 (by intro z;cases z)) e
 obtain ⟨⟨dS,hS⟩,hd,hl⟩:=R.sh
 refine ⟨⟨⟨dS,fr _ _ (ZR hS h1 (by intro z;cases z)) (ZR hS h2 (by intro z;cases z)) hS⟩,fr _ _ (ZR hd h1 (by intro z;cases z)) (ZR hd h2 (by intro z;cases z)) hd,fr _ _ (Ne.symm plk) (Ne.symm qlk) hl⟩,R.keys,R.val,fun i hi=>?_,R.own,R.le⟩
 obtain ⟨dx,hx⟩:=(R.tw i hi).tw.self
 exact (R.tw i hi).frame t (fun o e=>fr _ _ (ZR hx h1 (by intro z;cases z)) (ZR hx h2 (by intro z;cases z)) e) (fun o e=>fr _ _ (op i hi).2 (oq i hi).2 e) (fun o e=>fr _ _ (op i hi).1 (oq i hi).1 e)
end
structure Yj (ts:List ZU) (H:Hp) (t:Wl):Prop where
 tp:H t.T=some (.tup [.ref t.r,YM (Z9 t.rn),.ref t.d])
 rcd:Yx [] ts H t.d t.kv t.F
 rt:∀ i,t.rn=some i->i∈t.F
theorem Yj.go {ts:List ZU} {H H':Hp} {t:Wl} (h:Yj ts H t) (m:Zu H H') (hd:∀ o,H t.d=some o->H' t.d=some o):Yj ts H' t:=
 ⟨m _ _ h.tp,⟨hd _ h.rcd.hd,h.rcd.rcd.mono m,h.rcd.clo,h.rcd.wf⟩,h.rt⟩
structure QX (CSh CTw:Addr) (H0 H:Hp) (X:XS) (lk:Addr) (c:Nat) (ls:List V) (L kn:Addr) (t1 t2:Wl) (us:List V) (kts:List KT):Prop where
 sh:Z4 CSh CTw H X lk c ls
 s0:ZA H0 H
 nlk:H0 lk=none
 hL:H L=some (.lst [.ref t1.T,.ref t2.T])
 Llk:L≠lk
 tr1:Yj X.ts H t1
 tr2:Yj X.ts H t2
 hk:H kn=some (.lst us)
 ks:KeysAt H kts us
 fit:∀ t∈kts,t.fits 3=true
 klk:kn≠lk
section
variable {P:Program} {w:World} {K:zAA} {mg:Str->Option Value} {base:Heap} {f:Addr} {fd:FuncData} {CSh CTw:Addr}
abbrev Bi:List Str:=["_law_script","_law_shelf","_law_trees_here","_law_known_here","_law_k","_law_well_here","_law_rows","_law_root","_law_record","_law_spot"]
theorem Vz:ZC Bi ["_law_script"] (Zf Vn):=⟨rfl,rfl,rfl,by decide +kernel,rfl,by decide +kernel,by decide +kernel⟩
theorem EU (F0:Zk K "law" "law" Vn f fd) (T:YG mg) (L:Yi K mg CSh CTw) (DI:Wj P w K mg base 1 CSh ["self"] (MH CSh)) (DW:ZB P w K mg base 1 "_law_well" ["_law_script","_law_k"] (Pq K)) (DP:ZB P w K mg base 1 "_law_pull" ["_law_well_here","_law_many"] Xq) (DT:ZB P w K mg base 12 "_law_trees" ["_law_script","_law_shelf"] (Oj [] K CSh CTw)) (DK:ZB P w K mg base 1 "_law_known" ["_law_trees_here"] MB) (DY:ZB P w K mg base 7 "_law_any_key" ["_law_well_here","_law_known_here"] MW) (DA:ZB P w K mg base 12 "_law_asked" ["_law_shelf","_law_root","_law_record","_law_spot"] (M9 [] CSh CTw)) (DR:ZB P w K mg base 13 "_law_refuses" ["_law_well_here","_law_shelf","_law_root","_law_spot"] (OV [] CSh CTw)) :
  ZK P w K mg base ZV 40 f fd ["_law_script"] (Qn K):=by
 refine F0.ok Vz (fun vs H Q E h=>(by obtain ⟨_,_,rfl,_⟩:=h;rfl)) (fun cdv A outer s H vs Q E hr h=>?_)
 obtain ⟨a,ns,rfl,hSq,hn,k⟩:=h
 have nd:=Vz.nd
 have hr1:=hr.mono (show 1<=39 by decide)
 have hr2:=hr.mono (show 2<=39 by decide)
 have hr7:=hr.mono (show 7<=39 by decide)
 have hr12:=hr.mono (show 12<=39 by decide)
 have hr13:=hr.mono (show 13<=39 by decide)
 refine ⟨_,ZS (Zm (i:=1) nd rfl (Or.inl rfl) (GP DI hr2 rfl L.shelf))
  (ZS (Zm (i:=2) nd rfl (Or.inl rfl) (Zg DT hr12 (ZI (pv 0) (ZI (pv 1) ZG))))
  (ZS (Zm (i:=3) nd rfl (Or.inl rfl) (Zg DK hr1 (ZI (pv 2) ZG)))
  (ZS (VJ PassesOwn.never rfl (Mb rfl T.range (ZI ZO (ZI (Zw (O0 rfl) rfl T.max Pb (ZI ZO (ZI (Zw (IW rfl) rfl T.min KW (ZI (Zw XH rfl T.len XA (ZI (pv 0) ZG)) (ZI ZO ZG))) ZG))) ZG))) (Y6 (i:=4) nd rfl (Or.inl rfl))
   (ZS (Zm (i:=5) nd rfl (Or.inl rfl) (Zg DW hr1 (ZI (pv 0) (ZI (pv 4) ZG))))
   (ZS (Vw (Zo (r:=YB K) YH (pv 2) (Zg DP hr1 (ZI (pv 5) (ZI ZO ZG))) (fun _ _=>rfl)) (QD rfl (VR (Y6 (i:=6) nd rfl (Or.inl rfl)) (VR (Y6 (i:=7) nd rfl (Or.inl rfl)) (VR (Y6 (i:=8) nd rfl (Or.inl rfl)) Qa)))))
   (ZS (Zm (i:=9) nd rfl (Or.inl rfl) (Zg DY hr7 (ZI (pv 5) (ZI (pv 3) ZG))))
   (ZS (Z5 (PW.pt (Vy (WW (Yu (Zg DA hr12 (WS (pv 1) (pv 7) (pv 8) (pv 9))))) (V5 (WW (Yu (Zg DA hr12 (WS (pv 1) U5 NA (pv 9)))))))) (ZW (Zi Y8)) Z8)
   (ZW (Z5 (WW (Yu (Zg DR hr13 (WS (pv 5) (pv 1) (pv 7) (pv 9))))) (ZW (Zi Y8)) Z8)))))))
  (ZW (Zi Y8))))),?_⟩
 intro S e nS ne z1
 have i1:ZA H (upd (upd H e (.own S)) S (.ins CSh e [])):=fun b o q=>by
  rw [ZT (ZY q nS),ZT (ZY q ne)];exact q
 refine ⟨S,e,rfl,ZP,fun H1 d lk fr1 nd1 nlk1 dl1 R1=>⟨rfl,?_⟩⟩
 have s01:ZA H H1:=fun b o q=>fr1 b o (ZY q nS) (i1 b o q)
 have RP:YI CSh CTw H1 S d lk [] (fun _=>[]) (fun _=>0) [] [] []:=⟨R1,rfl,fun i hi=>absurd hi (zBG _),rfl,fun i hi=>absurd hi (zBG _),fun i hi=>absurd hi (zBG _),fun i _ hi=>absurd hi (zBG _)⟩
 refine ⟨_,rfl,_,rfl,H,a,S,d,lk,ns,_,_,rfl,hSq,hn,s01,nS,i1.free nd1,i1.free nlk1,RP,fun H2 Ls ts av ho as kvs ls t1 t2 r l240 l480=>?_⟩
 obtain ⟨T1,A1,_,D1⟩:=r.trs t1 (by simp)
 obtain ⟨T2,A2,_,D2⟩:=r.trs t2 (by simp)
 have hL2:H2 Ls=some (.lst [.ref t1.T,.ref t2.T]):=r.hL
 have ln1:t1.us.length=t1.rs.length:=by have:=T1.ks.length;unfold YF at this;rw [zAD] at this;exact this.symm
 have ln2:t2.us.length=t2.rs.length:=by have:=T2.ks.length;unfold YF at this;rw [zAD] at this;exact this.symm
 have w1:=T1.len
 have w2:=T2.len
 refine ⟨_,rfl,Ls,t1.T,t2.T,t1.r,t2.r,_,_,t1.us,t2.us,t1.rs,t2.rs,rfl,hL2,T1.tp,T2.tp,T1.rl,T2.rl,T1.ks,T2.ks,by omega,by omega,fun kn ks H3 s3 nkn hkn kkn=>?_⟩
 have R2:=r.pla.sh
 have lkn:ks.length=t1.rs.length+t2.rs.length:=by
  have:=kkn.length
  rw [zAD,zAL] at this
  exact this.symm
 have nd0:H d=none:=i1.free nd1
 have s02:ZA H H2:=fun b o e=>r.pla.fr b o (fun z=>z) (ZY e nS) (ZY e nd0) (fun j hj=>absurd hj (zBG _)) e
 have okn:∀ i:Nat,i<ts.length->(as.getD i .d).ab≠kn/\(as.getD i .d).th≠kn:=(Uf R2 nkn hkn).own
 have Lkn:Ls≠kn:=ZY hL2 nkn
 have sq3:=(s02.trans s3).seq hSq
 obtain ⟨M,eM,M3,M61⟩:∃ M:Int,(if (if (63:Int)<((ns.map V.int).length:Int) then (63:Int) else ((ns.map V.int).length:Int)) > 5 then (if (63:Int)<((ns.map V.int).length:Int) then (63:Int) else ((ns.map V.int).length:Int)) else 5)=M/\5<=M/\M<=63:=by
  refine ⟨_,rfl,?_,?_⟩
  ·(repeat' split) <;> omega
  ·(repeat' split) <;> omega
 refine ⟨_,rfl,a,ns.map V.int,rfl,.inl sq3,_,_,rfl,_,_,rfl,2,M,congrArg (fun z=>[V.int 2,V.int z]) eM,⟨by omega,by omega,by omega,by omega⟩,?_⟩
 clear eM
 have J0:QX CSh CTw H H3 ⟨S,d,ts,av,ho,as,kvs⟩ lk ts.length ls Ls kn t1 t2 ks ((t1.rs++t2.rs).map (·.1)):=⟨(R2.same s3).q,s02.trans s3,i1.free nlk1,s3 _ _ hL2,r.aL.lk,⟨ZA.tups s3 _ _ T1.tp,T1.rcd.same s3,T1.rt⟩,⟨ZA.tups s3 _ _ T2.tp,T2.rcd.same s3,T2.rt⟩,hkn,kkn,fun t ht=>by
  obtain ⟨x,hx,rfl⟩:=zAf.mp ht
  exact (zAg.mp hx).elim (fun z=>(T1.fit x z).1) (fun z=>(T2.fit x z).1),(ZY R2.sh.looks nkn).symm⟩
 refine Ue (lo:=2) (n:=(M - 2).toNat) (fun i σ H4=>∃ (x4 x5 x6 x7 x8 x9:Option V) (lk:Addr) (c:Nat) (ls us:List V) (kts:List KT),σ=[some (.ref a),some (.ref S),some (.ref Ls),some (.ref kn),x4,x5,x6,x7,x8,x9]/\QX CSh CTw H H4 ⟨S,d,ts,av,ho,as,kvs⟩ lk c ls Ls kn t1 t2 us kts/\us.length<=120+i)
  ⟨_,_,_,_,_,_,lk,_,ls,ks,_,rfl,J0,by omega⟩ ?_ ?_
 ·rintro i σ H4 hi ⟨x4,x5,x6,x7,x8,x9,lk4,c,ls4,us,kts,rfl,j,lus⟩
  refine ⟨_,rfl,_,rfl,a,ns,_,rfl,j.s0.seq hSq,hn,by omega,by omega,fun p H5 np s5 W5=>?_⟩
  refine ⟨_,rfl,_,rfl,p,2,rfl,W5,Y4 (by decide) (by decide),fun z H6 z0 z2 W6 s6=>?_⟩
  have Lp:Ls≠p:=ZY j.hL np
  have hL6:=s6 _ _ (s5 _ _ j.hL) Lp
  obtain ⟨v,ev,hv⟩:=OA (x:=V.ref t1.T) (y:=V.ref t2.T) z0 z2
  obtain ⟨t,rfl,tq,tdd⟩:∃ t:Wl,v=.ref t.T/\Yj ts H4 t/\t.d≠d:=by
   rcases hv with rfl | rfl
   ·exact ⟨t1,rfl,j.tr1,D1⟩
   ·exact ⟨t2,rfl,j.tr2,D2⟩
  have t46:Zu H4 H6:=fun b o e=>s6.tupsW W5 b o (s5 b _ e)
  refine .inl ⟨Ls,_,_,_,rfl,rfl,ZM.of hL6,ev,?_⟩
  refine ⟨t.T,_,rfl,Zj.of (t46 _ _ tq.tp),rfl,_,_,rfl,_,_,rfl,_,_,rfl,rfl,?_⟩
  have f46:ZA H4 H6:=fun b o e=>s6 b o (s5 b o e) (ZY e np)
  have knp:kn≠p:=ZY j.hk np
  have hk6:=f46 _ _ j.hk
  refine ⟨_,rfl,_,rfl,p,kn,us,kts,rfl,W6,hk6,j.ks.mono t46 _ _,j.fit,knp,by omega,fun v kt us7 kts7 H7 kv fk hk7 ks7 fit7 lu7 W7 fr7=>?_⟩
  obtain ⟨pw6,hp6⟩:=W6.some
  have t67:Zu H6 H7:=fun b o e=>fr7 b _ (ZR e hp6 (by intro z;cases z)) (ZR e hk6 (by intro z;cases z)) e
  have plk:p≠lk4:=(ZY j.sh.sh.looks np).symm
  have op:∀ i:Nat,i<ts.length->(as.getD i .d).ab≠p/\(as.getD i .d).th≠p:=fun i hi=>by
   obtain ⟨us',e1,_⟩:=(j.sh.tw i hi).things
   exact ⟨ZY (j.sh.tw i hi).tw.above np,ZY e1 np⟩
  have R7:Z4 CSh CTw H7 ⟨S,d,ts,av,ho,as,kvs⟩ lk4 c ls4:=(j.sh.same f46).off hp6 hk6 fr7 plk j.klk op okn
  have tr7:∀ t:Wl,Yj ts H4 t->Yj ts H7 t:=fun t h=>by
   have e6:=f46 _ _ h.rcd.hd
   exact (h.go t46 (fun o e=>f46 _ _ e)).go t67 fun o e=>fr7 _ _ (ZR e6 hp6 (by intro z;cases z)) (ZR e6 hk6 (by intro z;cases z)) e
  have tq7:=tr7 t tq
  refine ⟨_,rfl,_,rfl,_,rfl,_,rfl,⟨S,d,ts,av,ho,as,kvs⟩,lk4,c,ls4,t.rn,t.d,t.kv,t.F,v,kt,rfl,R7,by show ts.length<=900;omega,tq7.rcd,tq7.rt,r.pla.hs,kv,fk,fun H8 lk8 ls8 fr8 R8 hlk8 l8=>⟨_,rfl,Zp ⟨_,rfl,fun dd ndd=>⟨_,rfl,?_⟩⟩⟩⟩
  have g9:=Za ndd (.dK [])
  have e9:=ZP (H:=H8) (a:=dd) (o:=.dK [])
  generalize upd H8 dd (.dK [])=H9 at g9 e9 ⊢
  obtain ⟨⟨dS7,hS7⟩,hd7,hl7⟩:=R7.sh
  have t79:Zu H7 H9:=fun b o e=>g9 b _ (fr8 b _ (ZR e hl7 (by intro z;cases z)) (ZR e hS7 (by intro z;cases z)) e)
  have rd9:Yx [] ts H9 dd [] []:=⟨e9,⟨.nil,fun j hj=>by simp at hj,fun j _=>rfl,fun j hj=>by simp at hj,rfl⟩,fun j hj=>by simp at hj,r.pla.wf⟩
  refine ⟨⟨S,d,ts,av,ho,as,kvs⟩,lk8,c,ls8,none,dd,[],[],v,kt,rfl,R8.same g9,by show ts.length<=900;omega,rd9,fun i e=>(by cases e),r.pla.hs,kv.mono t79 _ _,fk,fun H10 lk10 ls10 fr10 R10 hlk10 l10=>⟨_,rfl,Zp ?_⟩⟩
  have fr710:∀ b o,b≠lk4->b≠S->H7 b=some o->H10 b=some o/\b≠lk10:=fun b o n1 n2 e=>by
   have n8:b≠lk8:=fun z=>hlk8.elim (fun y=>n1 (z.trans y)) (fun y=>by rw [<-z,e] at y;cases y)
   have h9:=g9 _ _ (fr8 b o n1 n2 e)
   exact ⟨fr10 b o n8 n2 h9,fun z=>hlk10.elim (fun y=>n8 (z.trans y)) (fun y=>by rw [<-z,h9] at y;cases y)⟩
  obtain ⟨pw7,hp7⟩:=W7.some
  have pS:p≠S:=ZR hp7 hS7 (by intro z;cases z)
  have W10:ZH H10 p:=MV W7 fun o e=>(fr710 p o plk pS e).1
  have plk10:=(fr710 p _ plk pS hp7).2
  obtain ⟨pw10,hp10⟩:=W10.some
  obtain ⟨⟨dS10,hS10⟩,hd10,hl10⟩:=R10.sh
  have t710:Zu H7 H10:=fun b o e=>(fr710 b _ (ZR e hl7 (by intro z;cases z)) (ZR e hS7 (by intro z;cases z)) e).1
  refine ⟨_,rfl,_,rfl,_,rfl,_,rfl,p,⟨S,d,ts,av,ho,as,kvs⟩,lk10,c,ls10,t.rn,v,kt,rfl,W10,R10,r.pla.wf,r.pla.hs,by omega,by show ts.length<=900;omega,plk10,op,fun i hi=>tq7.rcd.rcd.lt i (tq7.rt i hi),kv.mono t710 _ _,fk,fun H11 fr11 W11 R11=>⟨_,rfl,Zp ?_⟩⟩
  have t1011:Zu H10 H11:=fun b o e=>fr11 b _ (ZR e hp10 (by intro z;cases z)) (ZR e hS10 (by intro z;cases z)) (ZR e hd10 (by intro z;cases z)) e
  have t711:Zu H7 H11:=fun b o e=>t1011 b o (t710 b o e)
  have np0:H p=none:=j.s0.free np
  have nkn0:H kn=none:=s02.free nkn
  have s07:ZA H H7:=fun b o e=>fr7 b o (ZY e np0) (ZY e nkn0) (f46 b o (j.s0 b o e))
  have s08:ZA H H8:=fun b o e=>fr8 b o (ZY e j.nlk) (ZY e nS) (s07 b o e)
  have s09:ZA H H9:=s08.trans g9
  have s011:ZA H H11:=fun b o e=>fr11 b o (ZY e np0) (ZY e nS) (ZY e nd0) (fr710 b o (ZY e j.nlk) (ZY e nS) (s07 b o e)).1
  have nlk8:H lk8=none:=hlk8.elim (fun y=>by rw [y];exact j.nlk) fun y=>s07.free y
  have nlk10:H lk10=none:=hlk10.elim (fun y=>by rw [y];exact nlk8) fun y=>s09.free y
  have tr11:∀ t:Wl,Yj ts H7 t->t.d≠d->Yj ts H11 t:=fun t h n=>by
   have e10:=(fr710 _ _ (ZR h.rcd.hd hl7 (by intro z;cases z)) (ZR h.rcd.hd hS7 (by intro z;cases z)) h.rcd.hd).1
   exact h.go t711 fun o e=>by
    rw [h.rcd.hd] at e
    cases e
    exact fr11 _ _ (ZR e10 hp10 (by intro z;cases z)) (ZR e10 hS10 (by intro z;cases z)) n e10
  have hL7:=fr7 _ _ Lp Lkn hL6
  obtain ⟨hL10,Llk10⟩:=fr710 _ _ j.Llk (ZR hL7 hS7 (by intro z;cases z)) hL7
  have hL11:=fr11 _ _ Lp (ZR hL10 hS10 (by intro z;cases z)) (ZR hL10 hd10 (by intro z;cases z)) hL10
  obtain ⟨hk10,klk10⟩:=fr710 _ _ j.klk (ZR hk7 hS7 (by intro z;cases z)) hk7
  have hk11:=fr11 _ _ knp (ZR hk10 hS10 (by intro z;cases z)) (ZR hk10 hd10 (by intro z;cases z)) hk10
  exact ⟨_,_,_,_,_,_,lk10,c+1,ls10,us7,kts7,rfl,⟨R11,s011,nlk10,hL11,Llk10,tr11 _ (tr7 _ j.tr1) D1,tr11 _ (tr7 _ j.tr2) D2,hk11,ks7.mono t711 _ _,fit7,klk10⟩,by omega⟩
 ·rintro σ H4 ⟨x4,x5,x6,x7,x8,x9,lk4,c,ls4,us,kts,rfl,j,lus⟩
  exact k H4
end
end Tw
namespace L2
open PySem PySem.Spec
def xC (K:zAA) (C:Addr):Bool:=
 (zAW K (.ref C) "__getattribute__" == some (some (.builtin "BaseException.__getattribute__")))&&((zAW K (.ref C) "__getattr__" == some none)&&((zAs K C (.type "BaseException")==some true)&&((zAs K C (.type "object")==some true) &&
 ((zAW K (.ref C) "__class__" == some (some (.builtin "object.__class__")))&&((PySem.W.specialIn K (.builtin "object.__class__") "__get__" == some (some (.builtin "getset_descriptor.__get__")))&&(PySem.W.takesIn K (.builtin "object.__class__")==some true))))))
theorem Kj {K:zAA} {C:Addr} (h:xC K C=true):XG K C:=by
 unfold xC at h
 simp only [zAJ,beq_iff_eq] at h
 obtain ⟨a,b,c,d,e,f,g⟩:=h
 exact ⟨a,b,c,d,e,f,g⟩
def xF (K:zAA) (C fI:Addr) (f:Str):Bool:=
 xC K C&&(NN K C&&((zAW K (.ref C) "__init__" == some (some (.ref fI)))&&(zBg K (.ref fI)&&(zAp K (.ref C)&&((zAW K (.ref C) "__setattr__" == some (some (.builtin "object.__setattr__"))) &&
 ((zAW K (.ref C) f==some none)&&(zBN K C&&K7 K C)))))))
theorem EW {K:zAA} {C fI:Addr} {f:Str} (h:xF K C fI f=true):Xl K C fI f:=by
 unfold xF at h
 simp only [zAJ,beq_iff_eq] at h
 obtain ⟨a,b,c,d,e,f,g,i,j⟩:=h
 exact ⟨Kj a,b,c,d,e,f,g,i,j⟩
def Mg (K:zAA) (cs:List Addr) (up:List Value):Bool:=
 (zAi cs.length).all fun k=>xC K (cs.getD k 0)&&((zAi cs.length).all (fun j=>zAV K (.ref (cs.getD k 0)) (.ref (cs.getD j 0))==some (k==j))&&up.all fun v=>zAV K (.ref (cs.getD k 0)) v==some true)
theorem Kr {K:zAA} {cs:List Addr} {up:List Value} (h:Mg K cs up=true) {k:Nat} (hk:k<cs.length):XG K (cs.getD k 0)/\(∀ j,j<cs.length->zAV K (.ref (cs.getD k 0)) (.ref (cs.getD j 0))=some (k==j))/\∀ v∈up,zAV K (.ref (cs.getD k 0)) v=some true:=by
 have h1:=zAM.mp h k (zA2.mpr hk)
 simp only [zAJ] at h1
 exact ⟨Kj h1.1,fun j hj=>beq_iff_eq.mp (zAM.mp h1.2.1 j (zA2.mpr hj)),fun v hv=>beq_iff_eq.mp (zAM.mp h1.2.2 v hv)⟩
end L2
namespace Tw
open PySem PySem.Spec L2 PyProof.Rows
section
variable {P:Program} {w:World} {K:zAA} {mg:Str->Option Value} {base:Heap} {f:Addr} {fd:FuncData}
abbrev UQ:Stmt:=Xn (Zr 6) 0
theorem EM:ZC ["self","number"] ["self","number"] (Zf UQ):=⟨rfl,rfl,rfl,by decide +kernel,rfl,by decide +kernel,by decide +kernel⟩
theorem BW {C:Addr} (F:Zk K "__init__" "NoTwig.__init__" UQ f fd):ZK P w K mg base ZV 1 f fd ["self","number"] (Qo K C f "number"):=by
 refine F.ok EM (fun vs H Q E h=>(by obtain ⟨_,_,_,rfl,_⟩:=h;rfl)) (fun cdv A outer s H vs Q E hr h=>?_)
 obtain ⟨c,ea,y,rfl,e,k⟩:=h
 exact ⟨_,ZW (FV (pv 0) (pv 1) rfl),⟨_,rfl,_,rfl,Vp,ea,_,_,rfl,e,c,k⟩⟩
theorem Gi {CB CT CK CP:Addr} (h:Mg K [CT,CK,CP] [.type "ValueError"]=true) (b:mg "TwigError" = some (.ref CB)) (n1:mg "NoTwig" = some (.ref CT)) (n2:mg "NoKey" = some (.ref CK)) (n3:mg "NoPlace" = some (.ref CP)) (ty:zA4 K (.ref CB)=some (.type "type")) (mB:zAs K CB (.type "BaseException")=some true) (sT:zAs K CT (.ref CB)=some true) (sK:zAs K CK (.ref CB)=some true):Cl K mg CB CT CK CP:=by
 obtain ⟨_,t1,t2⟩:=Kr h (k:=0) (by simp)
 obtain ⟨k0,k1,k2⟩:=Kr h (k:=1) (by simp)
 exact ⟨b,n1,n2,n3,ty,mB,sT,sK,k0,t1 0 (by simp),t1 1 (by simp),t1 2 (by simp),t2 _ (by simp),k1 0 (by simp),k1 1 (by simp),k1 2 (by simp),k2 _ (by simp)⟩
end
structure Zv (K:zAA) (C:Addr) (m q:Str) (st:Stmt) (ps:List Str):Prop where
 ex:∃ f fd,Wx K C m f/\Zk K m q st f fd/\Zq K fd ps []
theorem Zv.of {P:Program} {w:World} {K:zAA} {mg:Str->Option Value} {base:Heap} {CX:Xo} {C:Addr} {m q:Str} {st:Stmt} {ps:List Str} {k:Nat} {sp:Sp} (L:Zv K C m q st ps) (h:∀ f fd,Zk K m q st f fd->ZK P w K mg base CX k f fd ps sp):ZJ P w K mg base CX k C m ps sp:=by
 obtain ⟨f,fd,M,F,b⟩:=L.ex
 exact ⟨f,fd,M,h f fd F,b⟩
theorem U8 {K:zAA} {C f:Addr} {m q:Str} {st:Stmt} {ps:List Str} {od an:Option Addr} {sl:Array (Option Value)} {oc kV dc pm cd ct:Value} (v:zAW K (.ref C) m=some (some (.ref f))) (l:K.lookup f=some ⟨oc,od,.func (zBA m q (Wc st) (Xu st) (Zf st) .none kV dc pm an cd ct),sl⟩) (fn:zBg K (.ref f)=true) (c:zBS K cd q=true) (k:zAp K (.ref f)=true)
  (hb:∀ (kV doc pm:Value) (an:Option Addr) (cdv ct:Value) (us:List Value),us.length=ps.length->bindArgs (zBA m q (Wc st) (Xu st) (Zf st) .none kV doc pm an cdv ct) ⟨us,[]⟩=pure (ps.zip us)):Zv K C m q st ps:=
 ⟨f,_,⟨v,fn,k⟩,Vq (st:=st) l c k,(Vq (st:=st) l c k).binds hb⟩
structure Wu (K:zAA) (C:Addr) (q:Str) (st:Stmt) (ps:List Str):Prop where
 ex:∃ f fd,zAW K (.ref C) "__init__" = some (some (.ref f))/\zBg K (.ref f)=true/\Zk K "__init__" q st f fd/\Zq K fd ps []
theorem U7 {K:zAA} {C f:Addr} {q:Str} {st:Stmt} {ps:List Str} {od an:Option Addr} {sl:Array (Option Value)} {oc kV dc pm cd ct:Value} (v:zAW K (.ref C) "__init__" = some (some (.ref f))) (l:K.lookup f=some ⟨oc,od,.func (zBA "__init__" q (Wc st) (Xu st) (Zf st) .none kV dc pm an cd ct),sl⟩) (fn:zBg K (.ref f)=true) (c:zBS K cd q=true) (k:zAp K (.ref f)=true)
  (hb:∀ (kV doc pm:Value) (an:Option Addr) (cdv ct:Value) (us:List Value),us.length=ps.length->bindArgs (zBA "__init__" q (Wc st) (Xu st) (Zf st) .none kV doc pm an cdv ct) ⟨us,[]⟩=pure (ps.zip us)):Wu K C q st ps:=
 ⟨f,_,v,fn,Vq (st:=st) l c k,(Vq (st:=st) l c k).binds hb⟩
theorem MA {l:zCf} {w:World} {K:zAA} {h:Heap} {mg:Str->Option Value} {fa f47 CB CK CT CP CSh CTw jN:Addr} (X:K.In h) (G:h.Ns mainGlobals mg) (hfa:mg "law" = some (.ref fa))
  {od47 an47:Option Addr} {sl47:Array (Option Value)} {oc47 kV47 dc47 pm47 cd47 ct47:Value} {t1 t2 t3 t4 t5 t6 t7 t8 t9 t10:Tok}
  (L1:Zd K mg "is_key" Nn ["thing"])
  (L2:Zd K mg "checked" Qz ["thing"])
  (L3:Zd K mg "fits" Q7 ["thing","room"])
  (L4:Zd K mg "has_few_figures" Oh ["number"])
  (L5:Zd K mg "is_sign" LB ["sign"])
  (L6:Zd K mg "ahead" OM ["one","other"])
  (L7:Zd K mg "place_in" Oa ["keys","key"])
  (L8:Zd K mg "standing" Q6 ["key"])
  (L9:Zd K mg "checked_rows" OU ["rows"])
  (L10:Zd K mg "own_rows" NM ["rows"])
  (L11:Zd K mg "rise" Ov ["keys"])
  (L12:Zd K mg "label_of_rows" Mm ["rows"])
  (L13:Zd K mg "label_over" Oy ["labels"])
  (L14:Zd K mg "stand_side_by_side" ML ["label","following"])
  (L15:Zd K mg "way_to" MZ ["shelf","root","key"])
  (L16:Zd K mg "steps_to" MX ["shelf","root","key"])
  (L17:Zd K mg "check_asked" OI ["shelf","root","key"])
  (L18:Zd K mg "place_within" ME ["shelf","found","key"])
  (L19:Zd K mg "branch_at" NY ["found","at"])
  (L20:Zd K mg "is_leaf" Mq ["found"])
  (L21:Zd K mg "is_stem" Nl ["twig"])
  (L22:Zd K mg "_law_well" Np ["_law_script","_law_k"])
  (L23:Zd K mg "_law_pull" Mh ["_law_well_here","_law_many"])
  (L24:Zd K mg "_law_great" Op ["_law_well_here","_law_bound"])
  (L25:Zd K mg "_law_text" NC ["_law_well_here"])
  (L26:Zd K mg "_law_key" Pz ["_law_well_here","_law_room"])
  (L27:Zd K mg "_law_rank" Qt ["_law_spot"])
  (L28:Zd K mg "_law_sorted" O3 ["_law_model"])
  (L29:Zd K mg "_law_keys" MJ ["_law_well_here","_law_many"])
  (L30:Zd K mg "_law_cut" QI ["_law_well_here","_law_things","_law_few","_law_stem"])
  (L31:Zd K mg "_law_plant" VU ["_law_well_here","_law_shelf","_law_rows"])
  (L32:Zd K mg "_law_reached" Ox ["_law_shelf","_law_root","_law_found"])
  (L33:Zd K mg "_law_alike" Q2 ["_law_found","_law_due"])
  (L34:Zd K mg "_law_rows_alike" NF ["_law_found","_law_due"])
  (L35:Zd K mg "_law_value" Nw ["_law_well_here"])
  (L36:Zd K mg "_law_any_key" N8 ["_law_well_here","_law_known_here"])
  (L37:Zd K mg "_law_ground" Nh ["_law_well_here","_law_most"])
  (L38:Zd K mg "_law_bad" Mc ["_law_well_here"])
  (L39:Zd K mg "_law_gone" Om ["_law_well_here","_law_shelf"])
  (L40:Zd K mg "_law_trees" Od ["_law_script","_law_shelf"])
  (L41:Zd K mg "_law_known" N3 ["_law_trees_here"])
  (L42:Zd K mg "_law_least" NJ ["_law_record","_law_number"])
  (L43:Zd K mg "_law_way" OY ["_law_record","_law_root","_law_spot"])
  (L44:Zd K mg "_law_refusal" MC ["_law_shelf","_law_root","_law_spot"])
  (L45:Zd K mg "_law_asked" Os ["_law_shelf","_law_root","_law_record","_law_spot"])
  (L46:Zd K mg "_law_refuses" Ms ["_law_well_here","_law_shelf","_law_root","_law_spot"])
  (a47:zAY K mainGlobals "law" = some (some (.ref f47))) (l47:K.lookup f47=some ⟨oc47,od47,.func (zBA "law" "law" (Wc Vn) (Xu Vn) (Zf Vn) .none kV47 dc47 pm47 an47 cd47 ct47),sl47⟩) (c47:zBS K cd47 "law" = true) (k47:zAp K (.ref f47)=true)
  (z1:zAY K mainGlobals "isinstance" = some none) (z2:zAY K mainGlobals "bool" = some none) (z3:zAY K mainGlobals "int" = some none) (z4:zAY K mainGlobals "str" = some none) (z5:zAY K mainGlobals "tuple" = some none) (z6:zAY K mainGlobals "list" = some none) (z7:zAY K mainGlobals "len" = some none) (z8:zAY K mainGlobals "all" = some none) (z9:zAY K mainGlobals "abs" = some none) (z10:zAY K mainGlobals "max" = some none) (z11:zAY K mainGlobals "min" = some none) (z12:zAY K mainGlobals "range" = some none) (z13:zAY K mainGlobals "sorted" = some none) (z14:zAY K mainGlobals "ValueError" = some none) (z15:zAY K mainGlobals "sum" = some none)
  (m1_:zAY K mainGlobals "MOST_SIGNS" = some (some (.int 40 t1))) (m2_:zAY K mainGlobals "MOST_THINGS" = some (some (.int 4 t2))) (m3_:zAY K mainGlobals "MOST_DEEP" = some (some (.int 3 t3))) (m4_:zAY K mainGlobals "MOST_ROWS" = some (some (.int 4 t4))) (m5_:zAY K mainGlobals "FEWEST_BRANCHES" = some (some (.int 2 t5))) (m6_:zAY K mainGlobals "MOST_BRANCHES" = some (some (.int 4 t6))) (m7_:zAY K mainGlobals "HEIGHT" = some (some (.int 0 t7))) (m8_:zAY K mainGlobals "LEAST" = some (some (.int 1 t8))) (m9_:zAY K mainGlobals "GREATEST" = some (some (.int 2 t9))) (m10_:zAY K mainGlobals "MANY" = some (some (.int 3 t10)))
  (IjS:Wu K CSh "Shelf.__init__" M6 ["self"])
  (IjT:Wu K CTw "Twig.__init__" OR ["self","things","tag"])
  {ocjN kVjN dcjN pmjN cdjN ctjN:Value} {odjN anjN:Option Addr} {sljN:Array (Option Value)} (iljN:K.lookup jN=some ⟨ocjN,odjN,.func (zBA "__init__" "NoTwig.__init__" (Wc UQ) (Xu UQ) (Zf UQ) .none kVjN dcjN pmjN anjN cdjN ctjN),sljN⟩) (icjN:zBS K cdjN "NoTwig.__init__" = true) (ikjN:zAp K (.ref jN)=true)
  (Mm1:Zv K CSh "put_leaf" "Shelf.put_leaf" NG ["self","rows"])
  (Mm2:Zv K CSh "put_stem" "Shelf.put_stem" Mo ["self","numbers"])
  (Mm3:Zv K CSh "put_twig" "Shelf.put_twig" MN ["self","things","label"])
  (Mm4:Zv K CSh "holders" "Shelf.holders" N4 ["self","number"])
  (Mm5:Zv K CSh "outside" "Shelf.outside" Nd ["self","number"])
  (Mm6:Zv K CSh "let_go" "Shelf.let_go" Ng ["self","number"])
  (Mm7:Zv K CSh "look" "Shelf.look" OX ["self","number"])
  (Mm8:Zv K CSh "label" "Shelf.label" Pk ["self","number"])
  (Mm9:Zv K CSh "forget" "Shelf.forget" MK ["self"])
  (Mm10:Zv K CSh "looked" "Shelf.looked" Nt ["self"])
  (Mm11:Zv K CSh "drop_unheld" "Shelf.drop_unheld" Mx ["self","number"])
  (Mm12:Zv K CSh "twig_of" "Shelf.twig_of" P6 ["self","number"])
  (Mm13:Zv K CSh "labels_of" "Shelf.labels_of" ON ["self","numbers"])
  (Mm14:Zv K CSh "check_held" "Shelf.check_held" NQ ["self","numbers"])
  (Mm15:Zv K CSh "take_over" "Shelf.take_over" Mu ["self","stem","branches"])
  (xCB:zAY K mainGlobals "TwigError" = some (some (.ref CB))) (xCK:zAY K mainGlobals "NoKey" = some (some (.ref CK))) (xCT:zAY K mainGlobals "NoTwig" = some (some (.ref CT))) (xCP:zAY K mainGlobals "NoPlace" = some (some (.ref CP))) (xCSh:zAY K mainGlobals "Shelf" = some (some (.ref CSh))) (xCTw:zAY K mainGlobals "Twig" = some (some (.ref CTw))) (vjN:zAW K (.ref CT) "__init__" = some (some (.ref jN))) (mkCSh:zCF K CSh=true) (kpCSh:zAp K (.ref CSh)=true) (pgCSh:zBd K CSh Str.empty=true) (hdCSh:zBN K CSh=true) (poCSh:zB5 K CSh=true) (saCSh:zAW K (.ref CSh) "__setattr__" = some (some (.builtin "object.__setattr__"))) (mkCTw:zCF K CTw=true) (kpCTw:zAp K (.ref CTw)=true) (pgCTw:zBd K CTw Str.empty=true) (hdCTw:zBN K CTw=true) (poCTw:zB5 K CTw=true) (saCTw:zAW K (.ref CTw) "__setattr__" = some (some (.builtin "object.__setattr__"))) (na_kept:zAW K (.ref CSh) "kept" = some none) (na_following:zAW K (.ref CSh) "following" = some none) (na_looks:zAW K (.ref CSh) "looks" = some none) (na_things:zAW K (.ref CTw) "things" = some none) (na_tag:zAW K (.ref CTw) "tag" = some none) (na_above:zAW K (.ref CTw) "above" = some none) (na_holds:zAW K (.ref CTw) "holds" = some none) (tyB:zA4 K (.ref CB)=some (.type "type")) (mB:zAs K CB (.type "BaseException")=some true) (kitx:Mg K [CT,CK,CP] [.type "ValueError"]=true) (wCT:xF K CT jN "number" = true) (tyCT:zA4 K (.ref CT)=some (.type "type")) (sbCT:zAs K CT (.ref CB)=some true) (sbCK:zAs K CK (.ref CB)=some true) (exCK:zCV K CK UM "ValueError.__new__" = true) (kpCK:zAp K (.ref CK)=true) (mBCK:zAs K CK (.type "BaseException")=some true) (tyCK:zA4 K (.ref CK)=some (.type "type")) :
  ∃ fd:FuncData,(∀ (s:Shared) (v:Value),BindsTo s fd ⟨[v],[]⟩ [("_law_script",v)])/\∀ base:Heap,K.In base->base.Ns mainGlobals mg->ZK l.prog w K mg base ZV 40 fa fd ["_law_script"] (Qn K):=by
 have e:=hfa.symm.trans (zAt X G a47)
 cases e
 have T:YG mg:=⟨zAo X G z1,zAo X G z2,zAo X G z3,zAo X G z4,zAo X G z5,zAo X G z6,zAo X G z7,zAo X G z8,zAo X G z9,zAo X G z10,zAo X G z11,zAo X G z12,zAo X G z13,zAo X G z14,zAo X G z15,⟨_,zAt X G m1_⟩,⟨_,zAt X G m2_⟩,⟨_,zAt X G m3_⟩,⟨_,zAt X G m4_⟩,⟨_,zAt X G m5_⟩,⟨_,zAt X G m6_⟩,⟨_,zAt X G m7_⟩,⟨_,zAt X G m8_⟩,⟨_,zAt X G m9_⟩,⟨_,zAt X G m10_⟩⟩
 refine ⟨zBA "law" "law" (Wc Vn) (Xu Vn) (Zf Vn) .none kV47 dc47 pm47 an47 cd47 ct47,fun s v=>.of_eq rfl,fun base kb _=>?_⟩
 have CLx:Cl K mg CB CT CK CP:=Gi kitx (zAt X G xCB) (zAt X G xCT) (zAt X G xCK) (zAt X G xCP) tyB mB sbCT sbCK
 have SHx:Yi K mg CSh CTw:=⟨(zAt X G xCSh),(zAt X G xCTw),⟨pgCSh,hdCSh,poCSh,saCSh⟩,⟨pgCTw,hdCTw,poCTw,saCTw⟩,na_kept,na_following,na_looks,na_things,na_tag,na_above,na_holds⟩
 have NTw:XN l.prog w K mg base "NoTwig" CT:=⟨⟨jN,_,EW wCT,BW (Vq (st:=UQ) iljN icjN ikjN),(Vq (st:=UQ) iljN icjN ikjN).binds fun _ _ _ _ _ _ us hl=>match us,hl with | [_,_],_=>rfl⟩,(zAt X G xCT),tyCT⟩
 have XKx:Lq K mg CK:=⟨(zAt X G xCK),exCK,kpCK,mBCK,tyCK⟩
 have DMS:Wj l.prog w K mg base 1 CSh ["self"] (MH CSh):=by obtain ⟨f,fd,v,fn,F,b⟩:=IjS.ex;exact ⟨f,fd,⟨mkCSh,v,fn,kpCSh⟩,HP F SHx,b⟩
 have DMT:Wj l.prog w K mg base 1 CTw ["self","things","tag"] (OH CTw):=by obtain ⟨f,fd,v,fn,F,b⟩:=IjT.ex;exact ⟨f,fd,⟨mkCTw,v,fn,kpCTw⟩,Dj F SHx,b⟩
 have MTo:ZJ l.prog w K mg base ZV 1 CSh "twig_of" ["self","number"] (UB CSh):=Mm12.of fun _ _ F=>AI F SHx
 have MOu:ZJ l.prog w K mg base ZV 2 CSh "outside" ["self","number"] (VS CSh CTw fun _ ho _=>.int ho):=Mm5.of fun _ _ F=>B7 F SHx MTo
 have MLa:ZJ l.prog w K mg base ZV 2 CSh "label" ["self","number"] (VS CSh CTw fun tg _ _=>tg):=Mm8.of fun _ _ F=>DX F SHx MTo
 have MHo:ZJ l.prog w K mg base ZV 2 CSh "holders" ["self","number"] (VS CSh CTw fun _ ho us=>.int ((us.length:Nat)+(ho:Nat):Int)):=Mm4.of fun _ _ F=>Bs F T SHx MTo
 have MFo:ZJ l.prog w K mg base ZV 1 CSh "forget" ["self"] (M0 CSh CTw):=Mm9.of fun _ _ F=>Dy F SHx
 have MLk:ZJ l.prog w K mg base ZV 1 CSh "looked" ["self"] (NT CSh CTw):=Mm10.of fun _ _ F=>Ga F T SHx
 have DIs:ZB l.prog w K mg base 1 "is_stem" ["twig"] (PD CTw):=L21.of fun _ _ F=>GQ F T SHx
 have MLo:ZJ l.prog w K mg base ZV 2 CSh "look" ["self","number"] (MR CSh CTw):=Mm7.of fun _ _ F=>Bg F T SHx MTo DIs
 have MLq:=Cr MLo
 have MBq:=Di MLa
 have MPt:ZJ l.prog w K mg base ZV 3 CSh "put_twig" ["self","things","label"] (Q4 CSh CTw):=Mm3.of fun _ _ F=>BY F SHx DMT
 have MTk:ZJ l.prog w K mg base ZV 2 CSh "take_over" ["self","stem","branches"] (NL CSh CTw):=Mm15.of fun _ _ F=>Ds F SHx MTo
 have MTd:ZJ l.prog w K mg base (XM l.prog w) 3 CSh "twig_of" ["self","number"] (NV CSh CT):=Mm12.of fun _ _ F=>Cw F SHx NTw
 have MLd:ZJ l.prog w K mg base (XM l.prog w) 4 CSh "label" ["self","number"] (NI CSh CTw CT):=Mm8.of fun _ _ F=>E2 F SHx MTd
 have MLs:ZJ l.prog w K mg base ZV 3 CSh "labels_of" ["self","numbers"] (Na CSh CTw):=Mm13.of fun _ _ F=>Hf F SHx MLa
 have MCh:ZJ l.prog w K mg base ZV 3 CSh "check_held" ["self","numbers"] (Qm CSh CTw):=Mm14.of fun _ _ F=>Br F SHx MOu
 have MDr:ZJ l.prog w K mg base ZV 3 CSh "drop_unheld" ["self","number"] (Mt CSh CTw):=Mm11.of fun _ _ F=>Hn F SHx MHo DIs
 have MLg:ZJ l.prog w K mg base ZV 4 CSh "let_go" ["self","number"] (Oc CSh CTw):=Mm6.of fun _ _ F=>AO F SHx MCh MTo MDr
 have DP:ZB l.prog w K mg base 1 "_law_pull" ["_law_well_here","_law_many"] (Xq):=L23.of fun _ _ F=>Ek F
 have DW:ZB l.prog w K mg base 1 "_law_well" ["_law_script","_law_k"] (Pq K):=L22.of fun _ _ F=>D3 F T
 have DG:ZB l.prog w K mg base 2 "_law_great" ["_law_well_here","_law_bound"] (Xq):=L24.of fun _ _ F=>Fq F T DP
 have DT:ZB l.prog w K mg base 2 "_law_text" ["_law_well_here"] (QS):=L25.of fun _ _ F=>C8 F T DP
 have DN:ZB l.prog w K mg base 1 "has_few_figures" ["number"] (PV):=L4.of fun _ _ F=>CD F T
 have DSg:ZB l.prog w K mg base 1 "is_sign" ["sign"] (OC):=L5.of fun _ _ F=>CF F
 have DIg:ZB l.prog w K mg base 6 "is_key" ["thing"] (Q0):=L1.of fun _ _ F=>GL F T (Kn T L3 DN DSg 4)
 have DIk:=AF DIg
 have DC:ZB l.prog w K mg base 7 "checked" ["thing"] (Ny):=L2.of fun _ _ F=>EA F DIk
 have DSt:ZB l.prog w K mg base 6 "standing" ["key"] (UO 5):=Jg T L8 5
 have DAh:ZB l.prog w K mg base 7 "ahead" ["one","other"] (U6):=L6.of fun _ _ F=>E8 F DSt
 have DRi:ZB l.prog w K mg base 8 "rise" ["keys"] (Oo):=L11.of fun _ _ F=>BJ F T DAh
 have DOw:ZB l.prog w K mg base 8 "own_rows" ["rows"] (M2):=L10.of fun _ _ F=>BX F DC
 have DCr:ZB l.prog w K mg base 9 "checked_rows" ["rows"] (Nz):=L9.of fun _ _ F=>BF F T DOw DRi
 have DLR:ZB l.prog w K mg base 1 "label_of_rows" ["rows"] (MT):=L12.of fun _ _ F=>Cy F T
 have MPg:ZJ l.prog w K mg base ZV 10 CSh "put_leaf" ["self","rows"] (P3 CSh CTw):=Mm1.of fun _ _ F=>G9 F SHx DCr DLR MPt
 have MPl:=Et MPg
 have DSi:ZB l.prog w K mg base 8 "stand_side_by_side" ["label","following"] (MY):=L14.of fun _ _ F=>HI F T DAh
 have DOv:ZB l.prog w K mg base 9 "label_over" ["labels"] (MG):=L13.of fun _ _ F=>GG F T DSi
 have MPs:ZJ l.prog w K mg base ZV 10 CSh "put_stem" ["self","numbers"] (Ut [] CSh CTw):=Mm2.of fun _ _ F=>HF F T SHx MLs DOv MCh MPt MTk
 have DPi:ZB l.prog w K mg base 8 "place_in" ["keys","key"] (On K):=L7.of fun _ _ F=>Cu F T DAh
 have DIl:ZB l.prog w K mg base 1 "is_leaf" ["found"] (Qv):=L20.of fun _ _ F=>GA F
 have DBa:ZB l.prog w K mg base 2 "branch_at" ["found","at"] (Nj):=L19.of fun _ _ F=>CG F DIl
 have DPw:ZB l.prog w K mg base 9 "place_within" ["shelf","found","key"] (O5 [] CSh CTw):=L18.of fun _ _ F=>BL F T SHx DIl DPi DAh MBq
 have DCd:Y2 l.prog w K mg base 7 "checked" ["thing"] (Qx CK):=L2.ofD fun _ _ F=>Fn F kb XKx DIg
 have DCa:Y2 l.prog w K mg base 8 "check_asked" ["shelf","root","key"] (MI CSh CTw CT CK):=L17.ofD fun _ _ F=>FH F SHx MLd DCd
 have DSp:Y2 l.prog w K mg base 10 "steps_to" ["shelf","root","key"] (OD [] CSh CTw CT CK):=L16.ofD fun _ _ F=>FE F SHx DCa MLq DPw DBa
 have DWt:Y2 l.prog w K mg base 11 "way_to" ["shelf","root","key"] (P8 [] CSh CTw CT CK):=L15.ofD fun _ _ F=>D8 F DSp
 have DK:ZB l.prog w K mg base 6 "_law_key" ["_law_well_here","_law_room"] (Vr 4):=KP T L26 DP DG DT 4
 have DRk:ZB l.prog w K mg base 6 "_law_rank" ["_law_spot"] (Ub 5):=JM T L27 5
 have DSo:ZB l.prog w K mg base 9 "_law_sorted" ["_law_model"] (OW w):=L28.of fun _ _ F=>Bd F T DRk
 have DKs:ZB l.prog w K mg base 9 "_law_keys" ["_law_well_here","_law_many"] (Nq):=L29.of fun _ _ F=>EH F T DK DRk
 have DCu:ZB l.prog w K mg base 2 "_law_cut" ["_law_well_here","_law_things","_law_few","_law_stem"] (Pp):=L30.of fun _ _ F=>G4 F T DP
 have DPl:ZB l.prog w K mg base 11 "_law_plant" ["_law_well_here","_law_shelf","_law_rows"] (Md [] CSh CTw):=L31.of fun _ _ F=>BK F T SHx DP DCu MPs MPl
 have DRe:ZB l.prog w K mg base 3 "_law_reached" ["_law_shelf","_law_root","_law_found"] (MP [] CSh CTw):=L32.of fun _ _ F=>Eu F T SHx MLq
 have DAl:=ID (P:=l.prog) (w:=w) (base:=base) T L33 5
 have DRa:ZB l.prog w K mg base 7 "_law_rows_alike" ["_law_found","_law_due"] (Nu):=L34.of fun _ _ F=>G7 F T DAl
 have DV:ZB l.prog w K mg base 7 "_law_value" ["_law_well_here"] (OE):=L35.of fun _ _ F=>CM F DP DK
 have DAk:ZB l.prog w K mg base 7 "_law_any_key" ["_law_well_here","_law_known_here"] (MW):=L36.of fun _ _ F=>Hl F T DP DK
 have DGr:ZB l.prog w K mg base 10 "_law_ground" ["_law_well_here","_law_most"] (NH w):=L37.of fun _ _ F=>HV F DP DKs DV
 have DBd:ZB l.prog w K mg base 2 "_law_bad" ["_law_well_here"] (MQ):=L38.of fun _ _ F=>C3 F DP
 have DGo:ZB l.prog w K mg base 11 "_law_gone" ["_law_well_here","_law_shelf"] (MU CSh CTw):=L39.of fun _ _ F=>HU F SHx DP MPg MLg
 have DTr:ZB l.prog w K mg base 12 "_law_trees" ["_law_script","_law_shelf"] (Oj [] K CSh CTw):=L40.of fun _ _ F=>BO F T DW DGr DSo DPl DRe
 have DKn:ZB l.prog w K mg base 1 "_law_known" ["_law_trees_here"] (MB):=L41.of fun _ _ F=>Iz F
 have DLe:ZB l.prog w K mg base 1 "_law_least" ["_law_record","_law_number"] (O4 []):=L42.of fun _ _ F=>BE F
 have DWa:ZB l.prog w K mg base 7 "_law_way" ["_law_record","_law_root","_law_spot"] (OO []):=L43.of fun _ _ F=>EN F T DRk DLe
 have DRf:ZB l.prog w K mg base 12 "_law_refusal" ["_law_shelf","_law_root","_law_spot"] (Nk [] CSh CTw):=L44.of fun _ _ F=>Dv F T NTw CLx DWt
 have DAs:ZB l.prog w K mg base 12 "_law_asked" ["_law_shelf","_law_root","_law_record","_law_spot"] (M9 [] CSh CTw):=L45.of fun _ _ F=>BC F T SHx DWa MFo DWt MLk DRa
 have DRu:ZB l.prog w K mg base 13 "_law_refuses" ["_law_well_here","_law_shelf","_law_root","_law_spot"] (OV [] CSh CTw):=L46.of fun _ _ F=>Dc F DBd DGo DRf
 exact EU (Vq (st:=Vn) l47 c47 k47) T SHx DMS DW DP DTr DKn DAk DAs DRu
theorem Bu {l:zCf} {q:Program} {loose:List Str} {XP:(Str->Option Value)->Heap->Prop} {YP:World->Heap->Prop} {d:DefRec} {K:Params->zAA} (hn:l.most=some 63) (hdf:d.params.defaults=[])
  (hY:∀ (w:World) (h:Heap),YP w h->(K w.params).In h)
  (F:∀ (w:World) (mg:Str->Option Value) (fa:Addr) (h:Heap),(K w.params).In h->h.Ns mainGlobals mg->mg d.name=some (.ref fa) ->
   ∃ fd:FuncData,(∀ (s:Shared) (u:Value),BindsTo s fd ⟨[u],[]⟩ [("_law_script",u)])/\∀ base:Heap,(K w.params).In base->base.Ns mainGlobals mg->ZK l.prog w (K w.params) mg base ZV 40 fa fd ["_law_script"] (Qn (K w.params))) :
  PySem.W.WalkO q loose XP YP l.row.toRowW d [] (fun f vs=>PySem.call f vs):=
 L2.PQ (n:=63) (k:=40) (x:= "_law_script") (CX:=fun _=>ZV) (sp:=fun w=>Qn (K w.params)) hn (by decide) hdf ⟨rfl,by decide,by decide⟩ hY F (fun _ _ a ns hl _ hS=>⟨a,ns,rfl,hS,hl,fun _=>rfl⟩) fun _ _ _ _ _ z=>z
end Tw
open PySem PySem.W PyProof.Rows
namespace PySem.W.Fast
def tw10009645540197148639:Nat:=0
def tw1001786636711707602:Nat:=0
def tw10031111131508548951:Nat:=0
def tw10060807952710075620:Nat:=0
def tw10071231499544911582:Nat:=0
def tw1008917124273357170:Nat:=0
def tw10091176260291313019:Nat:=0
def tw10111446724311250021:Nat:=0
def tw10127251785725895896:Nat:=0
def tw10132317076017860909:Nat:=0
def tw10154991879932477803:Nat:=0
def tw1016895215709247585:Nat:=0
def tw1017706622470776061:Nat:=0
def tw10181449012111176881:Nat:=0
def tw10199779457350970225:Nat:=0
def tw10325496064668714141:Nat:=0
def tw10363426768227663701:Nat:=0
def tw1036545407506775941:Nat:=0
def tw10392790616292574879:Nat:=0
def tw10400851343233958913:Nat:=0
def tw10405554037335646304:Nat:=0
def tw10413898009725835307:Nat:=0
def tw10427227641001511661:Nat:=0
def tw10435982817833734595:Nat:=0
def tw10512657176372833038:Nat:=0
def tw10531409448445549427:Nat:=0
def tw10554240858899476834:Nat:=0
def tw10566174485743591614:Nat:=0
def tw10574536358611647602:Nat:=0
def tw10580599005828042922:Nat:=0
def tw10583784345757890844:Nat:=0
def tw10596607345055370938:Nat:=0
def tw10616549269646150511:Nat:=0
def tw10628579598183140116:Nat:=0
def tw10643371252345983495:Nat:=0
def tw10645478000368238966:Nat:=0
def tw10686551217456135547:Nat:=0
def tw10705140133831287772:Nat:=0
def tw10707613382391667103:Nat:=0
def tw10729783716538764879:Nat:=0
def tw10748743268940308654:Nat:=0
def tw10754904994722615319:Nat:=0
def tw10773480556732128027:Nat:=0
def tw10777203140805675090:Nat:=0
def tw10804485898134736162:Nat:=0
def tw10807945252836461231:Nat:=0
def tw10889394242553267018:Nat:=0
def tw10895657859389907708:Nat:=0
def tw10923968037402450086:Nat:=0
def tw10925250879295690782:Nat:=0
def tw10932725615787651757:Nat:=0
def tw10943924721809050369:Nat:=0
def tw10950898586973382226:Nat:=0
def tw10958692764658623004:Nat:=0
def tw10989333749577338637:Nat:=0
def tw10998199376359434458:Nat:=0
def tw11014328613441466293:Nat:=0
def tw11042920261864050705:Nat:=0
def tw11070799232703100290:Nat:=0
def tw11098474543523664756:Nat:=0
def tw11147938731394354770:Nat:=0
def tw11152471920972526223:Nat:=0
def tw11156852851088269110:Nat:=0
def tw11163498711347926979:Nat:=0
def tw11195492004843883119:Nat:=0
def tw11210800443543584433:Nat:=0
def tw11218599902207608392:Nat:=0
def tw11238330612614905682:Nat:=0
def tw11246937801039967508:Nat:=0
def tw11257218239265754505:Nat:=0
def tw11258587355846408737:Nat:=0
def tw112643000680737550:Nat:=0
def tw11271736380669279929:Nat:=0
def tw11302627218193465603:Nat:=0
def tw11305132832895635333:Nat:=0
def tw11314400574796116335:Nat:=0
def tw11331182328845255722:Nat:=0
def tw11358415750101069490:Nat:=0
def tw11358961430752864248:Nat:=0
def tw11446838139834438012:Nat:=0
def tw11489131290118645612:Nat:=0
def tw11519697207558929928:Nat:=0
def tw11523243118697169812:Nat:=0
def tw11558077222382015963:Nat:=0
def tw1155937071591763735:Nat:=0
def tw1157551141980885866:Nat:=0
def tw1161005249652363004:Nat:=0
def tw11627366383284744085:Nat:=0
def tw11654887208826830801:Nat:=0
def tw11672009860667030947:Nat:=0
def tw11678143986275261777:Nat:=0
def tw11699950203421568345:Nat:=0
def tw11710650237394124571:Nat:=0
def tw11713081871456008484:Nat:=0
def tw11769487019187683889:Nat:=0
def tw11785421072754469854:Nat:=0
def tw11788664319770528005:Nat:=0
def tw11803123551431928917:Nat:=0
def tw11816767633696534985:Nat:=0
def tw11822137124810209667:Nat:=0
def tw11859562906302327629:Nat:=0
def tw11877469481178515246:Nat:=0
def tw11901570967505038256:Nat:=0
def tw11927851748311542266:Nat:=0
def tw11929177860275154443:Nat:=0
def tw11956457917872367361:Nat:=0
def tw11960743039912154278:Nat:=0
def tw11990985739184202417:Nat:=0
def tw12021064310529730911:Nat:=0
def tw12022187982419658103:Nat:=0
def tw12037160551958956836:Nat:=0
def tw12078014393841532655:Nat:=0
def tw12103504757439532311:Nat:=0
def tw12139162807119800739:Nat:=0
def tw12156205811762002248:Nat:=0
def tw12199774965138319279:Nat:=0
def tw12203805845348146195:Nat:=0
def tw12210042300201816858:Nat:=0
def tw12240161901734516647:Nat:=0
def tw12241947258467140273:Nat:=0
def tw12269846696571312823:Nat:=0
def tw12271731661879138666:Nat:=0
def tw12322442366295360453:Nat:=0
def tw12325725920426075241:Nat:=0
def tw12351641308987972180:Nat:=0
def tw12523374806418280550:Nat:=0
def tw12530645552031993870:Nat:=0
def tw12546049143362139370:Nat:=0
def tw1255535124514478437:Nat:=0
def tw12588784675362958848:Nat:=0
def tw12600300741843852097:Nat:=0
def tw12630134056902732247:Nat:=0
def tw12658875033173526682:Nat:=0
def tw12686835434995022210:Nat:=0
def tw12694235608390807311:Nat:=0
def tw12751461638551901794:Nat:=0
def tw12763335921233603375:Nat:=0
def tw12765310869310356247:Nat:=0
def tw127693903331415801:Nat:=0
def tw12777426626264792579:Nat:=0
def tw12793306936532245546:Nat:=0
def tw12799309706920343329:Nat:=0
def tw1285469972892793985:Nat:=0
def tw12868905058678559595:Nat:=0
def tw12881651404013923391:Nat:=0
def tw12920346662320852194:Nat:=0
def tw12948241718108234792:Nat:=0
def tw1295347186774792443:Nat:=0
def tw12956537596380325602:Nat:=0
def tw12968899401685778094:Nat:=0
def tw12989653703914798390:Nat:=0
def tw13000088358942478435:Nat:=0
def tw13047067777524503356:Nat:=0
def tw13060844293577295053:Nat:=0
def tw1311383712942973672:Nat:=0
def tw13125512345333083325:Nat:=0
def tw131761987311463678:Nat:=0
def tw13180248828892709016:Nat:=0
def tw13181883298830748480:Nat:=0
def tw13215701073190728077:Nat:=0
def tw13263531747718116004:Nat:=0
def tw13281593228325746838:Nat:=0
def tw13390698822194745968:Nat:=0
def tw13391300626026871160:Nat:=0
def tw13430801894647534920:Nat:=0
def tw13435607440822791063:Nat:=0
def tw13484544335640949491:Nat:=0
def tw13487068908993396608:Nat:=0
def tw13505217607785970246:Nat:=0
def tw13505703284336283569:Nat:=0
def tw13508377447847668946:Nat:=0
def tw13508667238492970126:Nat:=0
def tw13557257937568332883:Nat:=0
def tw13591991065788809435:Nat:=0
def tw13593661253432038211:Nat:=0
def tw13598146550800289812:Nat:=0
def tw13599132668018152247:Nat:=0
def tw1359982635082628910:Nat:=0
def tw13672194783893672461:Nat:=0
def tw13720449949745242748:Nat:=0
def tw1373411934189039043:Nat:=0
def tw13742024879593193892:Nat:=0
def tw13750153801518466808:Nat:=0
def tw13754880948971281119:Nat:=0
def tw13767931678629822953:Nat:=0
def tw13780586935994714343:Nat:=0
def tw13787782211316591063:Nat:=0
def tw13788612364872359600:Nat:=0
def tw1380856592702219401:Nat:=0
def tw13850830434459834123:Nat:=0
def tw13876821115129295089:Nat:=0
def tw13911018587587000836:Nat:=0
def tw13927654270268366835:Nat:=0
def tw13940375360178192439:Nat:=0
def tw13947896218319688120:Nat:=0
def tw13955327031421608537:Nat:=0
def tw13967291875339967675:Nat:=0
def tw13970100170113986376:Nat:=0
def tw14025607782394796826:Nat:=0
def tw14055619837827785330:Nat:=0
def tw14058021250764776990:Nat:=0
def tw14139836977324033537:Nat:=0
def tw14155427267696146609:Nat:=0
def tw14157513700785607656:Nat:=0
def tw14167078298812640657:Nat:=0
def tw14178842616703918277:Nat:=0
def tw1419730289010479169:Nat:=0
def tw14217401317234477860:Nat:=0
def tw1422456112988218629:Nat:=0
def tw14229867953808018947:Nat:=0
def tw1423054105633155369:Nat:=0
def tw14233776072149857983:Nat:=0
def tw14239546081918315513:Nat:=0
def tw14241577214442565053:Nat:=0
def tw14249056675038586273:Nat:=0
def tw14256636164672876922:Nat:=0
def tw14265125893593438183:Nat:=0
def tw14270077389324800580:Nat:=0
def tw14292317151114951580:Nat:=0
def tw14295140720685520336:Nat:=0
def tw14314512159922592686:Nat:=0
def tw14340076791642887671:Nat:=0
def tw14357984792066428072:Nat:=0
def tw14368918360395482645:Nat:=0
def tw14371791928918695947:Nat:=0
def tw14383196329342889098:Nat:=0
def tw14387306685879567243:Nat:=0
def tw14405228419136689295:Nat:=0
def tw14405463554600619921:Nat:=0
def tw14456973513701882703:Nat:=0
def tw14481037031427190452:Nat:=0
def tw14499695272016079172:Nat:=0
def tw14534263842684174473:Nat:=0
def tw14541689500189089139:Nat:=0
def tw14606865054104343563:Nat:=0
def tw14615786779657409230:Nat:=0
def tw14617344312159923761:Nat:=0
def tw14618016286092574760:Nat:=0
def tw14643080251042793507:Nat:=0
def tw14643884201116529995:Nat:=0
def tw14660431706276808188:Nat:=0
def tw14684777718890689686:Nat:=0
def tw14686694489069761511:Nat:=0
def tw1471786894084789654:Nat:=0
def tw14752129215471772538:Nat:=0
def tw14766603036443633658:Nat:=0
def tw14769949605862635401:Nat:=0
def tw14772462989456326720:Nat:=0
def tw14800549590917809634:Nat:=0
def tw14806165552995363115:Nat:=0
def tw1482142456508810468:Nat:=0
def tw14841952447073450875:Nat:=0
def tw14886308528762903554:Nat:=0
def tw14894941891852855678:Nat:=0
def tw14903784205849727019:Nat:=0
def tw1492436679870193788:Nat:=0
def tw14954345561727090705:Nat:=0
def tw14988309152569792314:Nat:=0
def tw14990081408260939235:Nat:=0
def tw15031592615961170366:Nat:=0
def tw1508608753794167989:Nat:=0
def tw15092640669326479138:Nat:=0
def tw15094717829583078587:Nat:=0
def tw15099791104044139269:Nat:=0
def tw15141964759192165116:Nat:=0
def tw15171925547902397139:Nat:=0
def tw15179343131097393461:Nat:=0
def tw15189044639741082727:Nat:=0
def tw15233243676047043504:Nat:=0
def tw15239357086957814528:Nat:=0
def tw15250324354884600751:Nat:=0
def tw15255085491905414909:Nat:=0
def tw1526417524768211100:Nat:=0
def tw1527157451001781042:Nat:=0
def tw15280589296038025518:Nat:=0
def tw152851490291958209:Nat:=0
def tw1528802573305879438:Nat:=0
def tw15300252608403640958:Nat:=0
def tw15330907814733622728:Nat:=0
def tw15336345106588715424:Nat:=0
def tw15336985489600910095:Nat:=0
def tw15361709066947208685:Nat:=0
def tw15384775822186754983:Nat:=0
def tw1538796851044090685:Nat:=0
def tw15407558391380787836:Nat:=0
def tw15458207423375200816:Nat:=0
def tw15473499717839031050:Nat:=0
def tw15481665102783422620:Nat:=0
def tw15488606488740646538:Nat:=0
def tw15527254384253663191:Nat:=0
def tw15565063382256403730:Nat:=0
def tw1563272798563022009:Nat:=0
def tw15657821806536897328:Nat:=0
def tw15663213855529468274:Nat:=0
def tw15666920621242956689:Nat:=0
def tw15670365596264553149:Nat:=0
def tw15672339799144679388:Nat:=0
def tw15685706314694625373:Nat:=0
def tw15692942846491114769:Nat:=0
def tw15702920140904150586:Nat:=0
def tw1572800778851140033:Nat:=0
def tw15747950731687325777:Nat:=0
def tw1577003752898371783:Nat:=0
def tw1578530631964433332:Nat:=0
def tw15810781007479580984:Nat:=0
def tw15909315234494969232:Nat:=0
def tw15927635766441387086:Nat:=0
def tw15977228096683743833:Nat:=0
def tw16017436100516842801:Nat:=0
def tw1605831452138705277:Nat:=0
def tw16081712788133078059:Nat:=0
def tw16106158980847487373:Nat:=0
def tw16138857389096610488:Nat:=0
def tw16140102823328687718:Nat:=0
def tw1618458821567593284:Nat:=0
def tw16203844516466880076:Nat:=0
def tw16265642599422125056:Nat:=0
def tw16268873904596189705:Nat:=0
def tw16317026367074395767:Nat:=0
def tw16332845246939450027:Nat:=0
def tw16344111278593954163:Nat:=0
def tw16356832033183366636:Nat:=0
def tw16383584381301177245:Nat:=0
def tw16385554504655537147:Nat:=0
def tw16395256160604334213:Nat:=0
def tw1639598348808845020:Nat:=0
def tw16486125620440574179:Nat:=0
def tw16499564601930812183:Nat:=0
def tw16509989799608868807:Nat:=0
def tw16515636556057730640:Nat:=0
def tw16530449569547436401:Nat:=0
def tw16531329687109372418:Nat:=0
def tw16572649664830143230:Nat:=0
def tw16612233765086775209:Nat:=0
def tw16616755929996772793:Nat:=0
def tw16656619890200067730:Nat:=0
def tw1670274493346649217:Nat:=0
def tw16732813856605286111:Nat:=0
def tw16746498878091765501:Nat:=0
def tw16764701479811519153:Nat:=0
def tw16775516876377337885:Nat:=0
def tw16814545940166091004:Nat:=0
def tw16869127145374752418:Nat:=0
def tw16935774209376774019:Nat:=0
def tw17007069710019370418:Nat:=0
def tw17030585051531825271:Nat:=0
def tw17054704225547284038:Nat:=0
def tw17081561117271610926:Nat:=0
def tw1714482999138057779:Nat:=0
def tw17180438838511096316:Nat:=0
def tw17195615184623668606:Nat:=0
def tw17238585694469029602:Nat:=0
def tw17241193452493531053:Nat:=0
def tw17249869080340557438:Nat:=0
def tw17290568398842129926:Nat:=0
def tw17332561452862214664:Nat:=0
def tw17369343892873778454:Nat:=0
def tw17403669843815899114:Nat:=0
def tw17421338160820935866:Nat:=0
def tw17425786003121884811:Nat:=0
def tw17460461385634479938:Nat:=0
def tw17461486262018188562:Nat:=0
def tw17489962898562518017:Nat:=0
def tw17491284224947521066:Nat:=0
def tw17499441139545772006:Nat:=0
def tw17524876045101418091:Nat:=0
def tw17526275190560979294:Nat:=0
def tw17550123801020040582:Nat:=0
def tw17569807273131505860:Nat:=0
def tw17579300673653771171:Nat:=0
def tw17741601277423779204:Nat:=0
def tw17775779088932830184:Nat:=0
def tw17790989909752511663:Nat:=0
def tw17792725162372030725:Nat:=0
def tw17802587563344342544:Nat:=0
def tw17828588943821658592:Nat:=0
def tw17836638918157317804:Nat:=0
def tw17895310575186112724:Nat:=0
def tw17912179208136794126:Nat:=0
def tw17914763853732177040:Nat:=0
def tw17917707933245986028:Nat:=0
def tw17936802350606903564:Nat:=0
def tw17964823143654258932:Nat:=0
def tw1798051100377808657:Nat:=0
def tw17996923111190741639:Nat:=0
def tw180060790766578636:Nat:=0
def tw18090688949194288541:Nat:=0
def tw18100678221518886416:Nat:=0
def tw18149046473876587343:Nat:=0
def tw18191052441160285866:Nat:=0
def tw18197271607400690524:Nat:=0
def tw18199459688600877573:Nat:=0
def tw18228612971220074610:Nat:=0
def tw18230088732288312438:Nat:=0
def tw18239613721320594314:Nat:=0
def tw18269576280855510982:Nat:=0
def tw18286679436410244844:Nat:=0
def tw18289975944927000797:Nat:=0
def tw18302325708712995816:Nat:=0
def tw18330174146483382229:Nat:=0
def tw1855759937843753588:Nat:=0
def tw1895413562863353079:Nat:=0
def tw1913469046609882707:Nat:=0
def tw1939458991566321016:Nat:=0
def tw1950919829799865745:Nat:=0
def tw2024161260280532075:Nat:=0
def tw2040309259597588443:Nat:=0
def tw2061716851336998143:Nat:=0
def tw2083629085177709148:Nat:=0
def tw2088605813549398776:Nat:=0
def tw2094632930147949436:Nat:=0
def tw2095725393674876922:Nat:=0
def tw2119494622140064242:Nat:=0
def tw2131498134300304949:Nat:=0
def tw2206826615170824689:Nat:=0
def tw2209299977948877063:Nat:=0
def tw2276325180998933806:Nat:=0
def tw2290732842381730631:Nat:=0
def tw2352301675690065692:Nat:=0
def tw2404525709898910164:Nat:=0
def tw2414601845157489053:Nat:=0
def tw2503249418108601075:Nat:=0
def tw2537316681876498413:Nat:=0
def tw2599219726217005660:Nat:=0
def tw2634215329223919493:Nat:=0
def tw2675277912268002540:Nat:=0
def tw2678689555748870434:Nat:=0
def tw2683140337992206727:Nat:=0
def tw2697148023800944252:Nat:=0
def tw2708728498569484934:Nat:=0
def tw2716675081777977852:Nat:=0
def tw2719279139468200883:Nat:=0
def tw2725054051951656500:Nat:=0
def tw2729401695130998861:Nat:=0
def tw2740350227746282412:Nat:=0
def tw2798469775891230696:Nat:=0
def tw2801950840053966490:Nat:=0
def tw2804206456862480137:Nat:=0
def tw2830608506804505837:Nat:=0
def tw2837904166302804729:Nat:=0
def tw2912065071664467766:Nat:=0
def tw2916080883679756424:Nat:=0
def tw2932173415275707189:Nat:=0
def tw2932993230955203793:Nat:=0
def tw2952159264085360490:Nat:=0
def tw2984649273941433535:Nat:=0
def tw299545535517277684:Nat:=0
def tw3004724921496990570:Nat:=0
def tw3022976921940886272:Nat:=0
def tw3108012183530483948:Nat:=0
def tw3112059312556497086:Nat:=0
def tw3175072964157309011:Nat:=0
def tw3212632893494170781:Nat:=0
def tw3255566893079634929:Nat:=0
def tw328267551063123192:Nat:=0
def tw3304629946127009941:Nat:=0
def tw3331517983528836723:Nat:=0
def tw3355969274327289658:Nat:=0
def tw3373012149338751683:Nat:=0
def tw337785497218955059:Nat:=0
def tw341579108267050065:Nat:=0
def tw3436338242049892879:Nat:=0
def tw344550643306328011:Nat:=0
def tw3447704445727936278:Nat:=0
def tw3479635334535825842:Nat:=0
def tw3501256177257523118:Nat:=0
def tw352024886319058945:Nat:=0
def tw35292252244101742:Nat:=0
def tw3569316175166082479:Nat:=0
def tw3586481314569394368:Nat:=0
def tw3623930845497734098:Nat:=0
def tw3647715238398260735:Nat:=0
def tw3657362612193456904:Nat:=0
def tw3662168483456866378:Nat:=0
def tw3685571476997716388:Nat:=0
def tw3698808870139876347:Nat:=0
def tw3713181440180012812:Nat:=0
def tw3751999635897829734:Nat:=0
def tw3770305556856163531:Nat:=0
def tw3778732385839897591:Nat:=0
def tw37975778286921639:Nat:=0
def tw3811183907742563042:Nat:=0
def tw3879822717810915699:Nat:=0
def tw3903361355630874505:Nat:=0
def tw390484576593781668:Nat:=0
def tw3914707870109968845:Nat:=0
def tw3926733775652986133:Nat:=0
def tw4004941879459706678:Nat:=0
def tw4008645904240257112:Nat:=0
def tw4013674543962702890:Nat:=0
def tw4039620233586663900:Nat:=0
def tw4074086912347706202:Nat:=0
def tw409295923872042413:Nat:=0
def tw4205910026670089652:Nat:=0
def tw4222486459884179972:Nat:=0
def tw4266754845740406671:Nat:=0
def tw4289339831787967993:Nat:=0
def tw4318989010131808537:Nat:=0
def tw4346080313708112776:Nat:=0
def tw4359014743541266515:Nat:=0
def tw4369920071130607292:Nat:=0
def tw438925634250839384:Nat:=0
def tw4393136582285555285:Nat:=0
def tw4443280755794878829:Nat:=0
def tw4463873040912051112:Nat:=0
def tw448244633308852724:Nat:=0
def tw449708908649687023:Nat:=0
def tw4581933057579619883:Nat:=0
def tw459013588923296308:Nat:=0
def tw4611347869422178343:Nat:=0
def tw4650370921826066452:Nat:=0
def tw4679480849803456464:Nat:=0
def tw4688898816363527713:Nat:=0
def tw4700271906398985179:Nat:=0
def tw4717233956166468143:Nat:=0
def tw4719244123764309075:Nat:=0
def tw472732782197860944:Nat:=0
def tw4746516693657257187:Nat:=0
def tw4774748690281104288:Nat:=0
def tw4777143375772183098:Nat:=0
def tw4795376086918619612:Nat:=0
def tw4821564227877089527:Nat:=0
def tw4822401645085429922:Nat:=0
def tw4831418012255121743:Nat:=0
def tw4832646145760382302:Nat:=0
def tw4864696618686929442:Nat:=0
def tw489066996318932108:Nat:=0
def tw4902236962864273392:Nat:=0
def tw4956127302974038885:Nat:=0
def tw4970417250054210422:Nat:=0
def tw4979386353387059752:Nat:=0
def tw4998135468350366101:Nat:=0
def tw5027477335915510028:Nat:=0
def tw5033083085975823766:Nat:=0
def tw5035860786347445820:Nat:=0
def tw5059671124696611933:Nat:=0
def tw5176395322026691742:Nat:=0
def tw5187824164314162076:Nat:=0
def tw5227523425592133874:Nat:=0
def tw5271786158995303462:Nat:=0
def tw5278389190557154711:Nat:=0
def tw529686038161204668:Nat:=0
def tw5355198220412550356:Nat:=0
def tw5381847752961054756:Nat:=0
def tw5407825429592963280:Nat:=0
def tw5436618969655226237:Nat:=0
def tw5436888791711063525:Nat:=0
def tw5476359663176847131:Nat:=0
def tw5508577056291602542:Nat:=0
def tw5508894732384106682:Nat:=0
def tw5574765265516897733:Nat:=0
def tw5581147853801792823:Nat:=0
def tw5626832670869313756:Nat:=0
def tw563841749478072558:Nat:=0
def tw5644496707339540862:Nat:=0
def tw5737790354328510193:Nat:=0
def tw5761557057356784931:Nat:=0
def tw5801572701131906052:Nat:=0
def tw5805729521948179345:Nat:=0
def tw5826272695154625238:Nat:=0
def tw5826957376022361978:Nat:=0
def tw5857324564332257338:Nat:=0
def tw5879563797919240400:Nat:=0
def tw5897518474806958288:Nat:=0
def tw5898077113329132220:Nat:=0
def tw5914642762191131395:Nat:=0
def tw5922997758074836522:Nat:=0
def tw5971404593100991888:Nat:=0
def tw600511207536590305:Nat:=0
def tw601717907544466116:Nat:=0
def tw6018979456721810749:Nat:=0
def tw6046590182360899199:Nat:=0
def tw6050716128206051279:Nat:=0
def tw6057482292499375831:Nat:=0
def tw6116695436671426086:Nat:=0
def tw6117430195952455552:Nat:=0
def tw6118108873947517506:Nat:=0
def tw615457339372961074:Nat:=0
def tw615581130279464930:Nat:=0
def tw6160079164997264622:Nat:=0
def tw6184938681258060457:Nat:=0
def tw6189066793842684455:Nat:=0
def tw6214568999539746286:Nat:=0
def tw6214695771647890024:Nat:=0
def tw6249912016521842703:Nat:=0
def tw6250702812837965901:Nat:=0
def tw6251578295021591409:Nat:=0
def tw6278514482996895742:Nat:=0
def tw6326768148139483376:Nat:=0
def tw6333454418350573607:Nat:=0
def tw6336576543205170651:Nat:=0
def tw6348190503952148679:Nat:=0
def tw6408199372709069324:Nat:=0
def tw6433701091309517318:Nat:=0
def tw6450959070298663012:Nat:=0
def tw6459055100718242445:Nat:=0
def tw6463306028045788338:Nat:=0
def tw6472142450641011721:Nat:=0
def tw6495043078581351374:Nat:=0
def tw6507774955601114601:Nat:=0
def tw6522472899514117963:Nat:=0
def tw6601313793041209661:Nat:=0
def tw6643840633908694490:Nat:=0
def tw6653646368847642294:Nat:=0
def tw6662452084692469273:Nat:=0
def tw6669762017362986950:Nat:=0
def tw6678475292976825855:Nat:=0
def tw6702454201553863705:Nat:=0
def tw6717631995307488001:Nat:=0
def tw6733556291092356870:Nat:=0
def tw6788334634222846286:Nat:=0
def tw6790009280081689170:Nat:=0
def tw6791398071761012899:Nat:=0
def tw6809474080638893650:Nat:=0
def tw6824143837093941525:Nat:=0
def tw684755608009366146:Nat:=0
def tw6879446937880735113:Nat:=0
def tw6915504517593033402:Nat:=0
def tw6932086278805859535:Nat:=0
def tw6950351198893285730:Nat:=0
def tw7004965134097516645:Nat:=0
def tw7078762751993846964:Nat:=0
def tw7100964569082835721:Nat:=0
def tw7121602428239005061:Nat:=0
def tw7173292739937761163:Nat:=0
def tw7174205086495935273:Nat:=0
def tw7182968307571244359:Nat:=0
def tw7183248280082027536:Nat:=0
def tw7223507432873550155:Nat:=0
def tw7234702891832900272:Nat:=0
def tw7236086454762548336:Nat:=0
def tw7247263198602073054:Nat:=0
def tw727475731390223732:Nat:=0
def tw7337852229420441211:Nat:=0
def tw7341279635174817571:Nat:=0
def tw7403763428855177481:Nat:=0
def tw7443010818392920076:Nat:=0
def tw7449757190776349635:Nat:=0
def tw7479833003662645138:Nat:=0
def tw7543974005747157089:Nat:=0
def tw7554841046798751780:Nat:=0
def tw7559540436092887274:Nat:=0
def tw7569783453418004363:Nat:=0
def tw7578664299306344846:Nat:=0
def tw7579957330114048929:Nat:=0
def tw7592444559342249977:Nat:=0
def tw7646292038211388258:Nat:=0
def tw7675631118349060996:Nat:=0
def tw7698507638056467874:Nat:=0
def tw771927809471488075:Nat:=0
def tw7763994563883400815:Nat:=0
def tw779899712373412550:Nat:=0
def tw7822584953403847476:Nat:=0
def tw7838732860919730228:Nat:=0
def tw7884539685812931961:Nat:=0
def tw7890784184387079872:Nat:=0
def tw7900162041304798588:Nat:=0
def tw7903054085140634389:Nat:=0
def tw7989552776977827756:Nat:=0
def tw8006330991907647211:Nat:=0
def tw8068205914800864001:Nat:=0
def tw8117404117087083967:Nat:=0
def tw8129894536521722870:Nat:=0
def tw8156863295590531642:Nat:=0
def tw821787337610941665:Nat:=0
def tw8243463189037342240:Nat:=0
def tw8291442762908831040:Nat:=0
def tw8302547337925772494:Nat:=0
def tw8318432253313101871:Nat:=0
def tw8372574488984265158:Nat:=0
def tw8461460390068164226:Nat:=0
def tw8476997437113218322:Nat:=0
def tw8509948550601117960:Nat:=0
def tw8535324663263512084:Nat:=0
def tw8548611500732011343:Nat:=0
def tw855103427343152215:Nat:=0
def tw856578180770741906:Nat:=0
def tw8582216091263889511:Nat:=0
def tw860490427444586058:Nat:=0
def tw8627558024571171699:Nat:=0
def tw8668841269052053239:Nat:=0
def tw8685682224260690367:Nat:=0
def tw8720547163488201061:Nat:=0
def tw8722726659657494321:Nat:=0
def tw877778518922792538:Nat:=0
def tw8799802174627765617:Nat:=0
def tw8806864551934928036:Nat:=0
def tw8812583514945776285:Nat:=0
def tw8817427449350885348:Nat:=0
def tw8835383970813932457:Nat:=0
def tw8838861514615168679:Nat:=0
def tw8852239901583719189:Nat:=0
def tw887963041007285579:Nat:=0
def tw8922531578545012574:Nat:=0
def tw8944492905632544998:Nat:=0
def tw8947479913382482845:Nat:=0
def tw8959891819348757110:Nat:=0
def tw8977384763480806699:Nat:=0
def tw8985515958237416197:Nat:=0
def tw901712839120035169:Nat:=0
def tw9025253037332984263:Nat:=0
def tw9038754409004589709:Nat:=0
def tw9115509670997841682:Nat:=0
def tw9121617390799020648:Nat:=0
def tw9130394196387692646:Nat:=0
def tw9135918227058322064:Nat:=0
def tw915930466806049114:Nat:=0
def tw9173322693745244605:Nat:=0
def tw9174156645673601921:Nat:=0
def tw9178215709486356002:Nat:=0
def tw9212952369647079940:Nat:=0
def tw926325980284224764:Nat:=0
def tw9291846983309249801:Nat:=0
def tw9298417417472773550:Nat:=0
def tw929872666291406131:Nat:=0
def tw9339768997525584572:Nat:=0
def tw9347355105117036561:Nat:=0
def tw9349021382869570378:Nat:=0
def tw9357321866255136293:Nat:=0
def tw9366957440529155825:Nat:=0
def tw9394307484808542978:Nat:=0
def tw9469581680295034989:Nat:=0
def tw9496103442632125304:Nat:=0
def tw9502452562108080203:Nat:=0
def tw9542702210171759005:Nat:=0
def tw9555384693551314774:Nat:=0
def tw9575925982612221260:Nat:=0
def tw9607895578983032804:Nat:=0
def tw9611688652105253242:Nat:=0
def tw9640763157851053532:Nat:=0
def tw964534343048802828:Nat:=0
def tw9700068856008156267:Nat:=0
def tw9734443913703872931:Nat:=0
def tw973626582935095891:Nat:=0
def tw9741993666936378188:Nat:=0
def tw9748132535926516261:Nat:=0
def tw9760229413378330969:Nat:=0
def tw9765667408366034408:Nat:=0
def tw9859048416858358753:Nat:=0
def tw989756596289518837:Nat:=0
def tw9927356238098754839:Nat:=0
def tw9929241518023782053:Nat:=0
def tw9955472306802458128:Nat:=0
def tw9969512021412046746:Nat:=0
def tw9972354727546281820:Nat:=0
def tw9982084344260052950:Nat:=0
def tw9983605496696606022:Nat:=0
end PySem.W.Fast
set_option maxRecDepth 100000 in
set_option maxHeartbeats 0 in
theorem PySem.Challenge.cw_twigmap_k31_ways_holds : PySem.Challenge.rw_twigmap_k31_ways.Holds := by
 w_on;o_law;k_head;(case hw=>w_witness2)
 k_fill
 refine Tw.Bu (l:=PySem.Challenge.rw_twigmap_k31_ways) rfl rfl (fun w h Y=>PySem.W.kIn_of Y) ?F
 case F=>
  intro w mg fa h KX G hmg
  refine' Tw.MA KX G hmg (Tw.Q8 KX G ?a1 ?l1 ?c1 ?k1 fun _ _ _ _ _ _ us hl=>match us,hl with | [_],_=>rfl) (Tw.Q8 KX G ?a2 ?l2 ?c2 ?k2 fun _ _ _ _ _ _ us hl=>match us,hl with | [_],_=>rfl) (Tw.Q8 KX G ?a3 ?l3 ?c3 ?k3 fun _ _ _ _ _ _ us hl=>match us,hl with | [_,_],_=>rfl) (Tw.Q8 KX G ?a4 ?l4 ?c4 ?k4 fun _ _ _ _ _ _ us hl=>match us,hl with | [_],_=>rfl) (Tw.Q8 KX G ?a5 ?l5 ?c5 ?k5 fun _ _ _ _ _ _ us hl=>match us,hl with | [_],_=>rfl) (Tw.Q8 KX G ?a6 ?l6 ?c6 ?k6 fun _ _ _ _ _ _ us hl=>match us,hl with | [_,_],_=>rfl) (Tw.Q8 KX G ?a7 ?l7 ?c7 ?k7 fun _ _ _ _ _ _ us hl=>match us,hl with | [_,_],_=>rfl) (Tw.Q8 KX G ?a8 ?l8 ?c8 ?k8 fun _ _ _ _ _ _ us hl=>match us,hl with | [_],_=>rfl) (Tw.Q8 KX G ?a9 ?l9 ?c9 ?k9 fun _ _ _ _ _ _ us hl=>match us,hl with | [_],_=>rfl) (Tw.Q8 KX G ?a10 ?l10 ?c10 ?k10 fun _ _ _ _ _ _ us hl=>match us,hl with | [_],_=>rfl) (Tw.Q8 KX G ?a11 ?l11 ?c11 ?k11 fun _ _ _ _ _ _ us hl=>match us,hl with | [_],_=>rfl) (Tw.Q8 KX G ?a12 ?l12 ?c12 ?k12 fun _ _ _ _ _ _ us hl=>match us,hl with | [_],_=>rfl) (Tw.Q8 KX G ?a13 ?l13 ?c13 ?k13 fun _ _ _ _ _ _ us hl=>match us,hl with | [_],_=>rfl) (Tw.Q8 KX G ?a14 ?l14 ?c14 ?k14 fun _ _ _ _ _ _ us hl=>match us,hl with | [_,_],_=>rfl) (Tw.Q8 KX G ?a15 ?l15 ?c15 ?k15 fun _ _ _ _ _ _ us hl=>match us,hl with | [_,_,_],_=>rfl) (Tw.Q8 KX G ?a16 ?l16 ?c16 ?k16 fun _ _ _ _ _ _ us hl=>match us,hl with | [_,_,_],_=>rfl) (Tw.Q8 KX G ?a17 ?l17 ?c17 ?k17 fun _ _ _ _ _ _ us hl=>match us,hl with | [_,_,_],_=>rfl) (Tw.Q8 KX G ?a18 ?l18 ?c18 ?k18 fun _ _ _ _ _ _ us hl=>match us,hl with | [_,_,_],_=>rfl) (Tw.Q8 KX G ?a19 ?l19 ?c19 ?k19 fun _ _ _ _ _ _ us hl=>match us,hl with | [_,_],_=>rfl) (Tw.Q8 KX G ?a20 ?l20 ?c20 ?k20 fun _ _ _ _ _ _ us hl=>match us,hl with | [_],_=>rfl) (Tw.Q8 KX G ?a21 ?l21 ?c21 ?k21 fun _ _ _ _ _ _ us hl=>match us,hl with | [_],_=>rfl) (Tw.Q8 KX G ?a22 ?l22 ?c22 ?k22 fun _ _ _ _ _ _ us hl=>match us,hl with | [_,_],_=>rfl) (Tw.Q8 KX G ?a23 ?l23 ?c23 ?k23 fun _ _ _ _ _ _ us hl=>match us,hl with | [_,_],_=>rfl) (Tw.Q8 KX G ?a24 ?l24 ?c24 ?k24 fun _ _ _ _ _ _ us hl=>match us,hl with | [_,_],_=>rfl) (Tw.Q8 KX G ?a25 ?l25 ?c25 ?k25 fun _ _ _ _ _ _ us hl=>match us,hl with | [_],_=>rfl) (Tw.Q8 KX G ?a26 ?l26 ?c26 ?k26 fun _ _ _ _ _ _ us hl=>match us,hl with | [_,_],_=>rfl) (Tw.Q8 KX G ?a27 ?l27 ?c27 ?k27 fun _ _ _ _ _ _ us hl=>match us,hl with | [_],_=>rfl) (Tw.Q8 KX G ?a28 ?l28 ?c28 ?k28 fun _ _ _ _ _ _ us hl=>match us,hl with | [_],_=>rfl) (Tw.Q8 KX G ?a29 ?l29 ?c29 ?k29 fun _ _ _ _ _ _ us hl=>match us,hl with | [_,_],_=>rfl) (Tw.Q8 KX G ?a30 ?l30 ?c30 ?k30 fun _ _ _ _ _ _ us hl=>match us,hl with | [_,_,_,_],_=>rfl) (Tw.Q8 KX G ?a31 ?l31 ?c31 ?k31 fun _ _ _ _ _ _ us hl=>match us,hl with | [_,_,_],_=>rfl) (Tw.Q8 KX G ?a32 ?l32 ?c32 ?k32 fun _ _ _ _ _ _ us hl=>match us,hl with | [_,_,_],_=>rfl) (Tw.Q8 KX G ?a33 ?l33 ?c33 ?k33 fun _ _ _ _ _ _ us hl=>match us,hl with | [_,_],_=>rfl) (Tw.Q8 KX G ?a34 ?l34 ?c34 ?k34 fun _ _ _ _ _ _ us hl=>match us,hl with | [_,_],_=>rfl) (Tw.Q8 KX G ?a35 ?l35 ?c35 ?k35 fun _ _ _ _ _ _ us hl=>match us,hl with | [_],_=>rfl) (Tw.Q8 KX G ?a36 ?l36 ?c36 ?k36 fun _ _ _ _ _ _ us hl=>match us,hl with | [_,_],_=>rfl) (Tw.Q8 KX G ?a37 ?l37 ?c37 ?k37 fun _ _ _ _ _ _ us hl=>match us,hl with | [_,_],_=>rfl) (Tw.Q8 KX G ?a38 ?l38 ?c38 ?k38 fun _ _ _ _ _ _ us hl=>match us,hl with | [_],_=>rfl) (Tw.Q8 KX G ?a39 ?l39 ?c39 ?k39 fun _ _ _ _ _ _ us hl=>match us,hl with | [_,_],_=>rfl) (Tw.Q8 KX G ?a40 ?l40 ?c40 ?k40 fun _ _ _ _ _ _ us hl=>match us,hl with | [_,_],_=>rfl) (Tw.Q8 KX G ?a41 ?l41 ?c41 ?k41 fun _ _ _ _ _ _ us hl=>match us,hl with | [_],_=>rfl) (Tw.Q8 KX G ?a42 ?l42 ?c42 ?k42 fun _ _ _ _ _ _ us hl=>match us,hl with | [_,_],_=>rfl) (Tw.Q8 KX G ?a43 ?l43 ?c43 ?k43 fun _ _ _ _ _ _ us hl=>match us,hl with | [_,_,_],_=>rfl) (Tw.Q8 KX G ?a44 ?l44 ?c44 ?k44 fun _ _ _ _ _ _ us hl=>match us,hl with | [_,_,_],_=>rfl) (Tw.Q8 KX G ?a45 ?l45 ?c45 ?k45 fun _ _ _ _ _ _ us hl=>match us,hl with | [_,_,_,_],_=>rfl) (Tw.Q8 KX G ?a46 ?l46 ?c46 ?k46 fun _ _ _ _ _ _ us hl=>match us,hl with | [_,_,_,_],_=>rfl) ?a47 ?l47 ?c47 ?k47 ?z1 ?z2 ?z3 ?z4 ?z5 ?z6 ?z7 ?z8 ?z9 ?z10 ?z11 ?z12 ?z13 ?z14 ?z15 ?m1_ ?m2_ ?m3_ ?m4_ ?m5_ ?m6_ ?m7_ ?m8_ ?m9_ ?m10_ (Tw.U7 ?vjS ?iljS ?fnjS ?icjS ?ikjS fun _ _ _ _ _ _ us hl=>match us,hl with | [_],_=>rfl) (Tw.U7 ?vjT ?iljT ?fnjT ?icjT ?ikjT fun _ _ _ _ _ _ us hl=>match us,hl with | [_,_,_],_=>rfl) ?iljN ?icjN ?ikjN (Tw.U8 ?vm1 ?ilm1 ?fnm1 ?icm1 ?ikm1 fun _ _ _ _ _ _ us hl=>match us,hl with | [_,_],_=>rfl) (Tw.U8 ?vm2 ?ilm2 ?fnm2 ?icm2 ?ikm2 fun _ _ _ _ _ _ us hl=>match us,hl with | [_,_],_=>rfl) (Tw.U8 ?vm3 ?ilm3 ?fnm3 ?icm3 ?ikm3 fun _ _ _ _ _ _ us hl=>match us,hl with | [_,_,_],_=>rfl) (Tw.U8 ?vm4 ?ilm4 ?fnm4 ?icm4 ?ikm4 fun _ _ _ _ _ _ us hl=>match us,hl with | [_,_],_=>rfl) (Tw.U8 ?vm5 ?ilm5 ?fnm5 ?icm5 ?ikm5 fun _ _ _ _ _ _ us hl=>match us,hl with | [_,_],_=>rfl) (Tw.U8 ?vm6 ?ilm6 ?fnm6 ?icm6 ?ikm6 fun _ _ _ _ _ _ us hl=>match us,hl with | [_,_],_=>rfl) (Tw.U8 ?vm7 ?ilm7 ?fnm7 ?icm7 ?ikm7 fun _ _ _ _ _ _ us hl=>match us,hl with | [_,_],_=>rfl) (Tw.U8 ?vm8 ?ilm8 ?fnm8 ?icm8 ?ikm8 fun _ _ _ _ _ _ us hl=>match us,hl with | [_,_],_=>rfl) (Tw.U8 ?vm9 ?ilm9 ?fnm9 ?icm9 ?ikm9 fun _ _ _ _ _ _ us hl=>match us,hl with | [_],_=>rfl) (Tw.U8 ?vm10 ?ilm10 ?fnm10 ?icm10 ?ikm10 fun _ _ _ _ _ _ us hl=>match us,hl with | [_],_=>rfl) (Tw.U8 ?vm11 ?ilm11 ?fnm11 ?icm11 ?ikm11 fun _ _ _ _ _ _ us hl=>match us,hl with | [_,_],_=>rfl) (Tw.U8 ?vm12 ?ilm12 ?fnm12 ?icm12 ?ikm12 fun _ _ _ _ _ _ us hl=>match us,hl with | [_,_],_=>rfl) (Tw.U8 ?vm13 ?ilm13 ?fnm13 ?icm13 ?ikm13 fun _ _ _ _ _ _ us hl=>match us,hl with | [_,_],_=>rfl) (Tw.U8 ?vm14 ?ilm14 ?fnm14 ?icm14 ?ikm14 fun _ _ _ _ _ _ us hl=>match us,hl with | [_,_],_=>rfl) (Tw.U8 ?vm15 ?ilm15 ?fnm15 ?icm15 ?ikm15 fun _ _ _ _ _ _ us hl=>match us,hl with | [_,_,_],_=>rfl) ?xCB ?xCK ?xCT ?xCP ?xCSh ?xCTw ?vjN ?mkCSh ?kpCSh ?pgCSh ?hdCSh ?poCSh ?saCSh ?mkCTw ?kpCTw ?pgCTw ?hdCTw ?poCTw ?saCTw ?na_kept ?na_following ?na_looks ?na_things ?na_tag ?na_above ?na_holds ?tyB ?mB ?kitx ?wCT ?tyCT ?sbCT ?sbCK ?exCK ?kpCK ?mBCK ?tyCK
  (case xCB=>k_is)
  (case xCK=>k_is)
  (case xCT=>k_is)
  (case xCP=>k_is)
  (case xCSh=>k_is)
  (case xCTw=>k_is)
  (case vjS=>k_is)
  (case vjT=>k_is)
  (case vjN=>k_is)
  (case vm1=>k_is)
  (case vm2=>k_is)
  (case vm3=>k_is)
  (case vm4=>k_is)
  (case vm5=>k_is)
  (case vm6=>k_is)
  (case vm7=>k_is)
  (case vm8=>k_is)
  (case vm9=>k_is)
  (case vm10=>k_is)
  (case vm11=>k_is)
  (case vm12=>k_is)
  (case vm13=>k_is)
  (case vm14=>k_is)
  (case vm15=>k_is)
  (case a1=>k_is)
  (case l1=>k_is)
  (case c1=>k_is)
  (case k1=>k_is)
  (case a2=>k_is)
  (case l2=>k_is)
  (case c2=>k_is)
  (case k2=>k_is)
  (case a3=>k_is)
  (case l3=>k_is)
  (case c3=>k_is)
  (case k3=>k_is)
  (case a4=>k_is)
  (case l4=>k_is)
  (case c4=>k_is)
  (case k4=>k_is)
  (case a5=>k_is)
  (case l5=>k_is)
  (case c5=>k_is)
  (case k5=>k_is)
  (case a6=>k_is)
  (case l6=>k_is)
  (case c6=>k_is)
  (case k6=>k_is)
  (case a7=>k_is)
  (case l7=>k_is)
  (case c7=>k_is)
  (case k7=>k_is)
  (case a8=>k_is)
  (case l8=>k_is)
  (case c8=>k_is)
  (case k8=>k_is)
  (case a9=>k_is)
  (case l9=>k_is)
  (case c9=>k_is)
  (case k9=>k_is)
  (case a10=>k_is)
  (case l10=>k_is)
  (case c10=>k_is)
  (case k10=>k_is)
  (case a11=>k_is)
  (case l11=>k_is)
  (case c11=>k_is)
  (case k11=>k_is)
  (case a12=>k_is)
  (case l12=>k_is)
  (case c12=>k_is)
  (case k12=>k_is)
  (case a13=>k_is)
  (case l13=>k_is)
  (case c13=>k_is)
  (case k13=>k_is)
  (case a14=>k_is)
  (case l14=>k_is)
  (case c14=>k_is)
  (case k14=>k_is)
  (case a15=>k_is)
  (case l15=>k_is)
  (case c15=>k_is)
  (case k15=>k_is)
  (case a16=>k_is)
  (case l16=>k_is)
  (case c16=>k_is)
  (case k16=>k_is)
  (case a17=>k_is)
  (case l17=>k_is)
  (case c17=>k_is)
  (case k17=>k_is)
  (case a18=>k_is)
  (case l18=>k_is)
  (case c18=>k_is)
  (case k18=>k_is)
  (case a19=>k_is)
  (case l19=>k_is)
  (case c19=>k_is)
  (case k19=>k_is)
  (case a20=>k_is)
  (case l20=>k_is)
  (case c20=>k_is)
  (case k20=>k_is)
  (case a21=>k_is)
  (case l21=>k_is)
  (case c21=>k_is)
  (case k21=>k_is)
  (case a22=>k_is)
  (case l22=>k_is)
  (case c22=>k_is)
  (case k22=>k_is)
  (case a23=>k_is)
  (case l23=>k_is)
  (case c23=>k_is)
  (case k23=>k_is)
  (case a24=>k_is)
  (case l24=>k_is)
  (case c24=>k_is)
  (case k24=>k_is)
  (case a25=>k_is)
  (case l25=>k_is)
  (case c25=>k_is)
  (case k25=>k_is)
  (case a26=>k_is)
  (case l26=>k_is)
  (case c26=>k_is)
  (case k26=>k_is)
  (case a27=>k_is)
  (case l27=>k_is)
  (case c27=>k_is)
  (case k27=>k_is)
  (case a28=>k_is)
  (case l28=>k_is)
  (case c28=>k_is)
  (case k28=>k_is)
  (case a29=>k_is)
  (case l29=>k_is)
  (case c29=>k_is)
  (case k29=>k_is)
  (case a30=>k_is)
  (case l30=>k_is)
  (case c30=>k_is)
  (case k30=>k_is)
  (case a31=>k_is)
  (case l31=>k_is)
  (case c31=>k_is)
  (case k31=>k_is)
  (case a32=>k_is)
  (case l32=>k_is)
  (case c32=>k_is)
  (case k32=>k_is)
  (case a33=>k_is)
  (case l33=>k_is)
  (case c33=>k_is)
  (case k33=>k_is)
  (case a34=>k_is)
  (case l34=>k_is)
  (case c34=>k_is)
  (case k34=>k_is)
  (case a35=>k_is)
  (case l35=>k_is)
  (case c35=>k_is)
  (case k35=>k_is)
  (case a36=>k_is)
  (case l36=>k_is)
  (case c36=>k_is)
  (case k36=>k_is)
  (case a37=>k_is)
  (case l37=>k_is)
  (case c37=>k_is)
  (case k37=>k_is)
  (case a38=>k_is)
  (case l38=>k_is)
  (case c38=>k_is)
  (case k38=>k_is)
  (case a39=>k_is)
  (case l39=>k_is)
  (case c39=>k_is)
  (case k39=>k_is)
  (case a40=>k_is)
  (case l40=>k_is)
  (case c40=>k_is)
  (case k40=>k_is)
  (case a41=>k_is)
  (case l41=>k_is)
  (case c41=>k_is)
  (case k41=>k_is)
  (case a42=>k_is)
  (case l42=>k_is)
  (case c42=>k_is)
  (case k42=>k_is)
  (case a43=>k_is)
  (case l43=>k_is)
  (case c43=>k_is)
  (case k43=>k_is)
  (case a44=>k_is)
  (case l44=>k_is)
  (case c44=>k_is)
  (case k44=>k_is)
  (case a45=>k_is)
  (case l45=>k_is)
  (case c45=>k_is)
  (case k45=>k_is)
  (case a46=>k_is)
  (case l46=>k_is)
  (case c46=>k_is)
  (case k46=>k_is)
  (case a47=>k_is)
  (case l47=>k_is)
  (case c47=>k_is)
  (case k47=>k_is)
  (case z1=>k_is)
  (case z2=>k_is)
  (case z3=>k_is)
  (case z4=>k_is)
  (case z5=>k_is)
  (case z6=>k_is)
  (case z7=>k_is)
  (case z8=>k_is)
  (case z9=>k_is)
  (case z10=>k_is)
  (case z11=>k_is)
  (case z12=>k_is)
  (case z13=>k_is)
  (case z14=>k_is)
  (case z15=>k_is)
  (case m1_=>k_is)
  (case m2_=>k_is)
  (case m3_=>k_is)
  (case m4_=>k_is)
  (case m5_=>k_is)
  (case m6_=>k_is)
  (case m7_=>k_is)
  (case m8_=>k_is)
  (case m9_=>k_is)
  (case m10_=>k_is)
  (case iljS=>k_is)
  (case icjS=>k_is)
  (case ikjS=>k_is)
  (case iljT=>k_is)
  (case icjT=>k_is)
  (case ikjT=>k_is)
  (case iljN=>k_is)
  (case icjN=>k_is)
  (case ikjN=>k_is)
  (case ilm1=>k_is)
  (case icm1=>k_is)
  (case ikm1=>k_is)
  (case ilm2=>k_is)
  (case icm2=>k_is)
  (case ikm2=>k_is)
  (case ilm3=>k_is)
  (case icm3=>k_is)
  (case ikm3=>k_is)
  (case ilm4=>k_is)
  (case icm4=>k_is)
  (case ikm4=>k_is)
  (case ilm5=>k_is)
  (case icm5=>k_is)
  (case ikm5=>k_is)
  (case ilm6=>k_is)
  (case icm6=>k_is)
  (case ikm6=>k_is)
  (case ilm7=>k_is)
  (case icm7=>k_is)
  (case ikm7=>k_is)
  (case ilm8=>k_is)
  (case icm8=>k_is)
  (case ikm8=>k_is)
  (case ilm9=>k_is)
  (case icm9=>k_is)
  (case ikm9=>k_is)
  (case ilm10=>k_is)
  (case icm10=>k_is)
  (case ikm10=>k_is)
  (case ilm11=>k_is)
  (case icm11=>k_is)
  (case ikm11=>k_is)
  (case ilm12=>k_is)
  (case icm12=>k_is)
  (case ikm12=>k_is)
  (case ilm13=>k_is)
  (case icm13=>k_is)
  (case ikm13=>k_is)
  (case ilm14=>k_is)
  (case icm14=>k_is)
  (case ikm14=>k_is)
  (case ilm15=>k_is)
  (case icm15=>k_is)
  (case ikm15=>k_is)
  (case fnjS=>k_is)
  (case fnjT=>k_is)
  (case fnm1=>k_is)
  (case fnm2=>k_is)
  (case fnm3=>k_is)
  (case fnm4=>k_is)
  (case fnm5=>k_is)
  (case fnm6=>k_is)
  (case fnm7=>k_is)
  (case fnm8=>k_is)
  (case fnm9=>k_is)
  (case fnm10=>k_is)
  (case fnm11=>k_is)
  (case fnm12=>k_is)
  (case fnm13=>k_is)
  (case fnm14=>k_is)
  (case fnm15=>k_is)
  (case mkCSh=>k_is)
  (case kpCSh=>k_is)
  (case pgCSh=>k_is)
  (case hdCSh=>k_is)
  (case poCSh=>k_is)
  (case saCSh=>k_is)
  (case mkCTw=>k_is)
  (case kpCTw=>k_is)
  (case pgCTw=>k_is)
  (case hdCTw=>k_is)
  (case poCTw=>k_is)
  (case saCTw=>k_is)
  (case na_kept=>k_is)
  (case na_following=>k_is)
  (case na_looks=>k_is)
  (case na_things=>k_is)
  (case na_tag=>k_is)
  (case na_above=>k_is)
  (case na_holds=>k_is)
  (case tyB=>k_is)
  (case mB=>k_is)
  (case kitx=>kernel_rfl)
  (case wCT=>kernel_rfl)
  (case tyCT=>k_is)
  (case sbCT=>k_is)
  (case sbCK=>k_is)
  (case exCK=>k_exc)
  (case kpCK=>k_is)
  (case mBCK=>k_is)
  (case tyCK=>k_is)
